import PyProof.Rows.All
import Wide.All
import OpenK.AllK
import Wide.FinOn
import Lean
import PyProof.EqAt
import PyProof.EqKinds
import PyProof.TupleCall
import PyProof.StrLawsTight
import PyProof.StrLawsChain
import PyProof.StrLawsOcc
import PyProof.Cells
import OpenK.KLine
import PyProof.SumAny
import PyProof.Rows.SortShell
import PyProof.DictItems
import PyProof.DictWalks
import KE.KRevIter
import PyProof.JoinWalk
import PyProof.CollectIter
import PyProof.StrLawsIn
import PyProof.Rows.SetFrom
import PyProof.CollectWalk
import PyProof.Rows.SortWalk
import KE.KSortTup
import KE.KxPercent
import PyProof.TupleOfGen
import KE.KDictList
import PyProof.P3In
import PyProof.NeData
import PyProof.FactsAll.tuple_2
import KE.KTryMore
import PyProof.ExcArgsOwn
import PyProof.ExcAttrAll.ValueError
import PyProof.ExcBaseAll.ValueError
import PyProof.InstStoreFacts
import PySem.Challenge.RW_unstruck_k21_parts_of
set_option bootstrap.genMatcherCode false
noncomputable section
set_option genSizeOf false
set_option genSizeOfSpec false
local macro_rules | `(tactic| omega) => `(tactic| first | lia | omega (config := {}))
set_option Elab.async false
set_option linter.all false
set_option maxRecDepth 100000
def CI:=@List.length_map
def CJ:=@PySem.wpAny_bind
def CK:=@Bool.and_eq_true
def CL:=@PySem.Heap.get?_push_of_some
def CM:=@if_neg
def CN:=@List.size_toArray
def CO:=@Nat.le_refl
def CP:=@List.length_append
def CQ:=@if_pos
def CS:=@PyProof.Rows.wpS_bind
def CT:=@Bool.false_ne_true
def CU:=@PySem.Heap.lt_size
def CV:=@List.mem_cons_of_mem
def CW:=@List.getElem?_eq_getElem
def CY:=@List.getElem?_eq_some_iff
def CZ:=@PyProof.Rows.wpS_pure
def Ca:=@List.mem_cons
def Cb:=@List.getElem?_map
def Cc:=@List.map_cons
def Cd:=@List.mem_cons_self
def Ce:=@PySem.wpAny_pure
def Cg:=@PySem.AutoSeq1.wpAny_loadPart'
def Ch:=@Option.bind_some
def Ci:=@Array.length_toList
def Cj:=@bind_congr
def Ck:=@List.getElem?_set_ne
def Cm:=@List.take_append_drop
def Cn:=@List.mem_singleton
def Co:=@PySem.Heap.get?_push_size
def Cp:=@List.append_assoc
def Cq:=@Option.some.inj
def Cr:=@Nat.ne_of_lt
def Cs:=@List.getD_eq_getElem?_getD
def Cu:=@Array.getElem?_toList
def Cv:=@List.length_cons
def Cw:=@List.all_eq_true
def Cy:=@LawfulBEq.eq_of_beq
def Cz:=@List.flatten_cons
def C0:=@Nat.lt_of_lt_of_le
def C1:=@List.mem_append_right
def C2:=@PySem.mem_of_lookup
def C6:=@decide_eq_false
def C7:=@List.mem_of_getElem?
def C8:=@List.lookup_cons
def C9:=@List.length_range
def DA:=@Option.map_some
def DB:=@List.mem_append
def DC:=@List.mem_range
def DD:=@Array.toList_append
def DE:=@PySem.wpAny_loadPart'
def DF:=@Nat.le_trans
def DG:=@Nat.zero_le
def DH:=@ite_congr
def DI:=@List.length_take
def DJ:=@PyProof.Rows.callWith_type1
def DK:=@List.not_mem_nil
def DL:=@List.append_nil
def DM:=@List.replicate_succ
def DN:=@List.getElem?_range
def DO:=@PyProof.Rows.wpS_forRange
def DP:=@PyProof.Rows.slot_tuple_getitem
def DQ:=@List.map_append
def DR:=@List.mem_map
def DS:=@List.map_nil
def DT:=@List.extract_eq_take_drop
def DU:=@List.drop_eq_getElem_cons
def DV:=@List.nodup_cons
def DW:=@List.mem_filter
def DX:=@PySem.sizeLine_eq
def DY:=@List.pairwise_append
def DZ:=@decide_eq_true
def Da:=@congrArg
def Db:=@List.take_of_length_le
def Dc:=@List.getElem?_set_self
def Dd:=@Int.le_trans
def De:=@Array.toList_push
def Df:=@Nat.min_eq_left
def Dg:=@List.length_set
def Dh:=@List.length_replicate
def Di:=@List.take_length
def Dj:=@List.getElem_mem
def Dk:=@Int.le_of_lt
def Dl:=@List.Perm.refl
def Dm:=@Array.toList_extract
def Dn:=@Bool.eq_false_iff
def Do:=@Bool.or_eq_true
def Dp:=@PySem.wpAny_truthy_bool
def Dq:=@PySem.wpAny_mono
def Dr:=@List.mem_reverse
def Ds:=@List.lookup_append
def Dt:=@PyProof.Rows.wpS_mono
def Du:=@List.getElem?_zipWith
def Dv:=@List.getElem?_eq_none
def Dx:=@List.Perm.append_left
def Dy:=@List.getElem?_append_left
def Dz:=@Classical.byContradiction
def D1:=@Bool.eq_iff_iff
def D2:=@decide_eq_true_eq
def D3:=@List.mem_of_mem_take
def D4:=@List.mem_of_mem_drop
def D5:=@List.mem_append_left
def D6:=@Int.le_refl
def D7:=@Nat.lt_irrefl
def D9:=@List.getElem?_take_of_lt
def EA:=@List.reverse_append
def EB:=@List.length_pos_iff
def EC:=@PySem.wpAny_newObj_type
def ED:=@PySem.F.plainAttrs_list
def EE:=@List.mem_flatten
def EF:=@List.length_eq_zero_iff
def EG:=@List.length_drop
def EH:=@List.getElem?_cons_succ
def EI:=@PyProof.Rows.wpS_modify
def EJ:=@PySem.wpAny_holding
def EK:=@List.drop_of_length_le
def EL:=@PySem.wpAny_call_entry
def EM:=@PySem.W.kia_one
def EN:=@PySem.AutoSeq1.idx_int
def EO:=@List.perm_append_comm
def EQ:=@List.length_filter_le
def ER:=@of_decide_eq_true
def ES:=@Nat.lt_succ_of_lt
def ET:=@Array.getD_eq_getD_getElem?
def EU:=@or_false
def EV:=@beq_iff_eq
def EW:=@PySem.wpAny_passesOwn
def EX:=@List.map_eq_cons_iff
def EY:=@List.getElem?_append_right
def EZ:=@Array.toList_reverse
def Ea:=@Nat.min_self
def Eb:=@Nat.lt_trans
def Ec:=@Nat.le_of_lt
def Ed:=@List.map_map
def Ee:=@List.map_congr_left
def Ef:=@List.length_zipWith
def Eg:=@List.flatten_append
def Eh:=@PySem.wpAny_field
def Ei:=@if_true
def Ej:=@List.find?_cons
def Ek:=@Bool.false_eq_true
def El:=@Nat.add_sub_cancel_left
def Em:=@if_false
def Eo:=@List.take_add_one
def Ep:=@PySem.wpAny_rule
def Er:=@PySem.call_meets
def Es:=@PySem.wpAny_getItem_str_slice
def Et:=@PySem.wpAny_callSpecial?_slot
def Eu:=@PySem.MeetsSeq3.plain_eq_loop
def Ev:=@List.Pairwise.sublist
def Ew:=@List.any_eq_true
def Ex:=@PySem.Heap.get?_update_other
def Ey:=@List.foldl_cons
def Ez:=@List.getElem_of_mem
def FA:=@Nat.ne_of_gt
def FC:=@List.zip_cons_cons
def FE:=@List.take_take
def FF:=@Int.emod_lt_of_pos
def FH:=@Bool.false_and
def FJ:=@List.pairwise_iff_getElem
def FK:=@Ne.symm
def FL:=@List.take_sublist
def FM:=@List.reverse_perm
def FN:=@List.pairwise_map
def FO:=@List.getElem?_set
def FP:=@List.ext_getElem?
def FQ:=@Int.toNat_natCast
def FR:=@Bool.not_eq_true'
def FT:=@PySem.F.args_tuple_add_2
def FU:=@List.sum_cons
def FV:=@List.all_cons
def FW:=@List.Perm.eq_of_pairwise
def FX:=@PySem.wpAny_pyIter_tuple
def FY:=@PyProof.Rows.wpS_get
def FZ:=@PySem.wpAny_pyIter_list
def Fa:=@PySem.wpAny_pyIter_enum
namespace L2
open PySem PySem.Spec PyProof.Rows
noncomputable abbrev bA:=Sum Int Str
noncomputable def jJ:bA->Value->Bool
 | .inl k,v=>Value.isInt k v
 | .inr x,v=>Value.isStrOf x v
noncomputable def keyH(w:World):bA->Int
 | .inl k=>hashInt k
 | .inr x=>hashStr w x
theorem ag:∀{k:bA}{v:Value},jJ k v=true->(∃i t,k=Sum.inl i/\v=Value.int i t)\/(∃x t,k=Sum.inr x/\v=Value.str x t)
 | .inl i,v,h=>by
  obtain⟨t,e⟩:=Value.isInt_shape (k:=i) (v:=v) h;exact .inl ⟨i,t,rfl,e⟩
 | .inr x,v,h=>by
  obtain⟨t,e⟩:=Value.isStrOf_shape (x:=x) (v:=v) h;exact .inr ⟨x,t,rfl,e⟩
theorem qB(i:Int)(t:Tok):jJ (.inl i) (.int i t)=true:=by simp[jJ,Value.isInt]
theorem qA(x:Str)(t:Tok):jJ (.inr x) (.str x t)=true:=by simp[jJ,Value.isStrOf]
theorem yn(a b:Int):decide ((Sum.inl a:bA)=Sum.inl b)=(a==b):=by
 by_cases e:a=b
 ·subst e;simp
 ·have h:¬(Sum.inl a:bA)=Sum.inl b:=fun q=>e (Sum.inl.inj q)
  rw[C6 h];exact(beq_eq_false_iff_ne.mpr e).symm
theorem yj(a b:Str):decide ((Sum.inr a:bA)=Sum.inr b)=decide (a=b):=by
 by_cases e:a=b
 ·subst e;simp
 ·have h:¬(Sum.inr a:bA)=Sum.inr b:=fun q=>e (Sum.inr.inj q)
  rw[C6 h,C6 e]
theorem ym(a:Int)(b:Str):decide ((Sum.inl a:bA)=Sum.inr b)=false:=C6 (fun q=>nomatch q)
theorem yk(a:Str)(b:Int):decide ((Sum.inr a:bA)=Sum.inl b)=false:=C6 (fun q=>nomatch q)
noncomputable def bJ(prog:Program)(w:World):PySem.KeyKind prog w bA where
 is:=jJ
 hash:=keyH w
 inj:=fun v a b ha hb=>by
  rcases ag ha with⟨i,t,rfl,rfl⟩|⟨x,t,rfl,rfl⟩
  ·rcases ag hb with⟨j,u,rfl,e⟩|⟨y,u,rfl,e⟩
   ·injection e with e1 _;rw[e1]
   ·exact nomatch e
  ·rcases ag hb with⟨j,u,rfl,e⟩|⟨y,u,rfl,e⟩
   ·exact nomatch e
   ·injection e with e1 _;rw[e1]
 byValue:=fun k v h=>by
  rcases ag h with⟨i,t,rfl,rfl⟩|⟨x,t,rfl,rfl⟩<;>rfl
 pyHash:=fun hv h=>by
  rcases ag hv with⟨i,t,rfl,rfl⟩|⟨x,t,rfl,rfl⟩
  ·exact wpAny_pyHash_int h
  ·exact wpAny_pyHash_str h
 eqBool:=fun hu hv h=>by
  rcases ag hu with⟨i,t,rfl,rfl⟩|⟨x,t,rfl,rfl⟩
  ·rcases ag hv with⟨j,u,rfl,rfl⟩|⟨y,u,rfl,rfl⟩
   ·rw[yn]at h;exact wpAny_eqBool_int h
   ·rw[ym]at h;exact SeqAt.EqAt.int_str i t y u _ _ _ _ h
  ·rcases ag hv with⟨j,u,rfl,rfl⟩|⟨y,u,rfl,rfl⟩
   ·rw[yk]at h;exact SeqAt.EqAt.str_int x t j u _ _ _ _ h
   ·rw[yj]at h;exact wpAny_eqBool_str h
 «strs»:=fun k x t v h=>by
  rcases ag h with⟨i,u,rfl,e⟩|⟨y,u,rfl,e⟩
  ·exact nomatch e
  ·injection e with e1 _
   subst e1;cases v<;>rfl
theorem ku(prog:Program)(w:World)(i:Int)(t:Tok):(bJ prog w).is (.inl i) (.int i t)=true:=qB i t
theorem kr(prog:Program)(w:World)(x:Str)(t:Tok):(bJ prog w).is (.inr x) (.str x t)=true:=qA x t
inductive V where
 | non|bl (b:Bool)|int (i:Int)|str (x:Str)|byt (b:Array UInt8)|flt (b:UInt64)|ref (a:Addr)|ty (n:String)
 deriving DecidableEq
noncomputable def RelV:V->Value->Prop
 | .non,u=>u=Value.none
 | .bl b,u=>u=Value.bool b
 | .int i,u=>∃t,u=Value.int i t
 | .str x,u=>∃t,u=Value.str x t
 | .byt b,u=>∃t,u=Value.bytes b t
 | .flt b,u=>∃t,u=Value.float b t
 | .ref a,u=>u=Value.ref a
 | .ty n,u=>u=Value.type n
noncomputable abbrev aK:List V->List Value->Prop:=Paired RelV
theorem aK.length{xs:List V}{us:List Value}(r:aK xs us):xs.length=us.length:=Paired.length r
theorem aK.get:∀{xs:List V}{us:List Value}{i:Nat}{x:V},aK xs us->xs[i]? =some x->∃u,us[i]? =some u/\RelV x u
 | _,_,_,_,.nil,e=>by simp at e
 | _,_,0,_,.cons r _,e=>by simp at e;subst e;exact⟨_,rfl,r⟩
 | _,_,i+1,x,.cons _ t,e=>by
  obtain⟨u,h1,h2⟩:=aK.get (i:=i) (x:=x) t (by simpa using e);exact⟨u,by simpa using h1,h2⟩
theorem aK.set{x:V}{u:Value}(r:RelV x u):∀{xs:List V}{us:List Value}(i:Nat),aK xs us->aK (xs.set i x) (us.set i u)
 | _,_,_,.nil=>.nil
 | _,_,0,.cons _ t=>.cons r t
 | _,_,i+1,.cons q t=>.cons q (aK.set r i t)
theorem aK.append{xs ys:List V}{us ws:List Value}(h:aK xs us)(k:aK ys ws):aK (xs++ys) (us++ws):=by
 induction h with
 | nil=>exact k
 | cons r t ih=>exact .cons r ih
theorem aK.take:∀{xs:List V}{us:List Value}(n:Nat),aK xs us->aK (xs.take n) (us.take n)
 | _,_,0,_=>.nil
 | _,_,_+1,.nil=>.nil
 | _,_,n+1,.cons r t=>.cons r (aK.take n t)
theorem aK.drop:∀{xs:List V}{us:List Value}(n:Nat),aK xs us->aK (xs.drop n) (us.drop n)
 | _,_,0,r=>r
 | _,_,_+1,.nil=>.nil
 | _,_,n+1,.cons _ t=>aK.drop n t
noncomputable def fv:Option V->Option Value->Prop
 | some v,some u=>RelV v u
 | none,none=>True
 | _,_=>False
noncomputable def KV{κ:Type}:List (κ×V)->List (κ×Value)->Prop:=Paired fun(p:κ×V)(q:κ×Value)=>p.1=q.1/\RelV p.2 q.2
noncomputable def kV:bA->V
 | .inl i=>.int i
 | .inr x=>.str x
inductive HO where
 | lst (xs:List V)
 | tup (xs:List V)
 | dK (kvs:List (bA×V))|dT (kvs:List (List bA×V))
 | set (S:Int->Bool) (n:Nat)
 | ins (C dx:Addr) (fs:List (Str×V))
 | own (x:Addr)
 | xd (fs:List (Str×V))
 | met (f x:Addr)
 | rng (lo hi:Int)
 | frz (o:Obj) (u:HO)
 | tbl (ps:Array Value)
 | ext (φ:Heap->Prop)
noncomputable abbrev Hp:=Addr->Option HO
noncomputable def upd(H:Hp)(a:Addr)(o:HO):Hp:=fun b=>if b=a then some o else H b
theorem aW{H:Hp}{a:Addr}{o:HO}:upd H a o a=some o:=by unfold upd;rw[CQ rfl]
theorem aF{H:Hp}{a b:Addr}{o:HO}(h:b≠a):upd H a o b=H b:=by unfold upd;rw[CM h]
theorem aP{H:Hp}{a b:Addr}{o:HO}(h:H a=some o)(h' :H b=none):a≠b:=by
 intro e;subst e;rw[h]at h';cases h'
noncomputable def dD(h:Heap)(a:Addr)(its:Array Value):Prop:=∃o,h.get? a=some o/\o.cls=.type "tuple"/\∃n,o.data=.seq its n/\o.dict=none
theorem dD.tup{h:Heap}{a:Addr}{its:Array Value}(x:dD h a its):IsTup h a its:=let⟨o,e,c,n,d,_⟩:=x;⟨o,e,c,n,d⟩
theorem dD.new(h:Heap)(its:Array Value):dD (h.push {cls:=.type "tuple",data:=.seq its}) h.objs.size its:=⟨_,Co _ rfl,rfl,_,rfl,rfl⟩
section
variable(P:Program)(w:World)
noncomputable def ai(H:Hp)(h:Heap)(a:Addr):HO->Prop
 | .lst xs=>xs.length<=sizeLine/\∃(its:List Value)(n:Nat),aK xs its/\h.get? a=some {cls:=.type "list",data:=.seq its.toArray n}
 | .tup xs=>xs.length<=sizeLine/\∃its:List Value,aK xs its/\dD h a its.toArray
 | .dK kvs=>kvs.length<=sizeLine/\(a==sysModules)=false/\∃vs,KV kvs vs/\h.DictOf (bJ P w) a vs
 | .dT kvs=>kvs.length<=sizeLine/\(a==sysModules)=false/\∃xs:List (List bA×Addr×Value),
   Paired (fun(p:List bA×V) (q:List bA×Addr×Value)=>p.1=q.1/\H q.2.1=some (.tup (p.1.map kV))/\RelV p.2 q.2.2) kvs xs /\
   ∃o es ep,h.get? a=some o/\o.ExactDict/\o.data=.dict es ep/\es.toList=xs.map (entryOfKey (tupleKind (bJ P w)))/\(xs.map (·.1)).Nodup
 | .set S n=>h.SetOf (intKind P w) a S n
 | .ins C dx fs=>H dx=some (.own a)/\fs.length<=1000/\dx≠a/\h.get? a=some (W.instObj C dx) /\
   ∃mA,h.Ns1 dx mA/\(∀f,fv (fs.lookup f) (mA f))/\PySem.Within mA (fs.map (·.1))
 | .own _=>∃o,h.get? a=some o
 | .xd fs=>∃mA,h.Ns1 a mA/\∀f,fv (fs.lookup f) (mA f)
 | .rng lo hi=>∃t u v,h.get? a=some {cls:=.type "range",data:=.fields #[.int lo t,.int hi u,.int 1 v]}
 | .frz o u=>h.get? a=some o/\ai H h a u
 | .tbl ps=>h.get? a=some {cls:=.none,data:=.fields ps}
 | .met f x=>h.get? a=some (W.methodObj (.ref f) (.ref x))
 | .ext φ=>φ h/\(∃o,h.get? a=some o)/\∀h1 h2:Heap,φ h1->(∀o,h1.get? a=some o->h2.get? a=some o)->φ h2
noncomputable def dz(H:Hp)(h:Heap):Prop:=∀a o,H a=some o->ai P w H h a o
end
section
variable{P:Program}{w:World}{H H' :Hp}{h h' :Heap}{a:Addr}{o:HO}
theorem ai.lt(x:ai P w H h a o):a<h.objs.size:=by
 cases o with
 | lst xs=>obtain⟨_,_,_,_,e⟩:=x;exact CU e
 | tup xs=>obtain⟨_,_,_,p⟩:=x;exact p.tup.lt
 | dK kvs=>obtain⟨_,_,_,_,o,_,_,e,_⟩:=x;exact CU e
 | dT kvs=>obtain⟨_,_,_,_,o,_,_,e,_⟩:=x;exact CU e
 | set S n=>obtain⟨o,_,_,_,e,_⟩:=x;exact CU e
 | ins C dx fs=>obtain⟨_,_,_,e,_⟩:=x;exact CU e
 | own y=>obtain⟨_,e⟩:=x;exact CU e
 | xd fs=>obtain⟨_,⟨_,_,_,e,_⟩,_⟩:=x;exact CU e
 | rng lo hi=>obtain⟨_,_,_,e⟩:=x;exact CU e
 | frz ob u=>obtain⟨e,_⟩:=x;exact CU e
 | tbl ps=>exact CU (show h.get? a=some _ from x)
 | met f y=>exact CU (show h.get? a=some _ from x)
 | ext φ=>obtain⟨_,⟨_,e⟩,_⟩:=x;exact CU e
theorem Paired.mapP{α β:Type}{F G:α->β->Prop}{l₁:List α}{l₂:List β}(h:Paired F l₁ l₂)(f:∀a b,F a b->G a b):Paired G l₁ l₂:=by
 induction h with
 | nil=>exact .nil
 | cons r t ih=>exact .cons (f _ _ r) ih
theorem ai.stay(x:ai P w H h a o)(k:∀b u,(b=a\/H b=some (.own a))->h.get? b=some u->h'.get? b=some u)
  (ho:∀b,H b=some (.own a)->H' b=some (.own a)) (ht:∀b xs,H b=some (.tup xs)->H' b=some (.tup xs)):ai P w H' h' a o:=by
 induction o with
 | lst xs=>obtain⟨z,its,n,r,e⟩:=x;exact⟨z,its,n,r,k _ _ (.inl rfl) e⟩
 | tup xs=>obtain⟨z,its,r,ob,e,c⟩:=x;exact⟨z,its,r,ob,k _ _ (.inl rfl) e,c⟩
 | dK kvs=>obtain⟨z,y,vs,r,ob,es,ep,e,c⟩:=x;exact⟨z,y,vs,r,ob,es,ep,k _ _ (.inl rfl) e,c⟩
 | dT kvs =>
  obtain⟨z,y,xs,r,ob,es,ep,e,c⟩:=x;exact⟨z,y,xs,Paired.mapP r fun p q z=>⟨z.1,ht _ _ z.2.1,z.2.2⟩,ob,es,ep,k _ _ (.inl rfl) e,c⟩
 | set S n=>obtain⟨ob,es,ep,t,e,c⟩:=x;exact⟨ob,es,ep,t,k _ _ (.inl rfl) e,c⟩
 | ins C dx fs =>
  obtain⟨d,z,ne,e,mA,⟨od,es,ep,e2,c⟩,r⟩:=x;exact⟨ho _ d,z,ne,k _ _ (.inl rfl) e,mA,⟨od,es,ep,k _ _ (.inr d) e2,c⟩,r⟩
 | own y=>obtain⟨ob,e⟩:=x;exact⟨ob,k _ _ (.inl rfl) e⟩
 | xd fs=>obtain⟨mA,⟨od,es,ep,e,c⟩,r⟩:=x;exact⟨mA,⟨od,es,ep,k _ _ (.inl rfl) e,c⟩,r⟩
 | rng lo hi=>obtain⟨t,u,v,e⟩:=x;exact⟨t,u,v,k _ _ (.inl rfl) e⟩
 | frz ob u ih=>obtain⟨e,q⟩:=x;exact⟨k _ _ (.inl rfl) e,ih q⟩
 | tbl ps =>
  have e:h.get? a=some {cls:=.none,data:=.fields ps}:=x;show h'.get? a=some {cls:=.none,data:=.fields ps};exact k a _ (.inl rfl) e
 | met f y =>
  have e:h.get? a=some (W.methodObj (.ref f) (.ref y)):=x;show h'.get? a=some (W.methodObj (.ref f) (.ref y));exact k a _ (.inl rfl) e
 | ext φ=>obtain⟨p,⟨o,e⟩,st⟩:=x;exact⟨st _ _ p fun o q=>k _ _ (.inl rfl) q,⟨o,k _ _ (.inl rfl) e⟩,st⟩
theorem dz.lt(x:dz P w H h)(e:H a=some o):a<h.objs.size:=(x a o e).lt
theorem dz.fresh(x:dz P w H h)(e:h.objs.size<=a):H a=none:=by
 cases q:H a with
 | none=>rfl
 | some u=>exact absurd (C0 (x.lt q) e) (D7 _)
theorem dz.kept(x:dz P w H h)(k:∀b u,h.get? b=some u->h'.get? b=some u):dz P w H h' :=fun a o e =>
 (x a o e).stay (fun b u _ q=>k b u q) (fun _ q=>q) fun _ _ q=>q
theorem dz.laid(x:dz P w H h)(k:∀b u,h.get? b=some u->h'.get? b=some u)(hp:h.objs.size<=a)(new:ai P w (upd H a o) h' a o):dz P w (upd H a o) h' :=fun b u e=>by
 have hn:=x.fresh hp
 by_cases hb:b=a
 ·subst hb;rw[aW]at e;cases e;exact new
 ·rw[aF hb]at e
  exact(x b u e).stay (fun c v _ q=>k c v q) (fun c q=>by rw[aF (aP q hn)];exact q) fun c xs q=>by rw[aF (aP q hn)];exact q
end
noncomputable def Rd(H:Hp)(a:Addr)(u:HO):Prop:=H a=some u\/∃o,H a=some (.frz o u)
theorem Rd.ok{P:Program}{w:World}{H:Hp}{h:Heap}{a:Addr}{u:HO}(r:Rd H a u)(x:dz P w H h):ai P w H h a u:=by
 rcases r with r|⟨o,r⟩
 ·exact x a u r
 ·obtain⟨_,q⟩:=x a _ r
  exact q
noncomputable def Mut:Option HO->Prop
 | some (.lst _)=>True
 | some (.dK _)=>True
 | some (.dT _)=>True
 | some (.set _ _)=>True
 | some (.ins _ _ _)=>True
 | some (.ext _)=>True
 | _=>False
section
variable{P:Program}{w:World}{H:Hp}{h h' :Heap}{x e:Addr}{o' :HO}
theorem dz.write(ok:dz P w H h)(mu:Mut (H x))(he:e=x\/H e=some (.own x))(k:∀b u,b≠e->h.get? b=some u->h'.get? b=some u)(heo:∃u,h'.get? e=some u)
  (new:ai P w (upd H x o') h' x o'):dz P w (upd H x o') h' :=fun b u q=>by
 have nown:∀c y,H c=some (.own y)->c≠x:=fun c y r z=>by subst z;rw[r]at mu;exact mu
 have ntup:∀c xs,H c=some (.tup xs)->c≠x:=fun c xs r z=>by subst z;rw[r]at mu;exact mu
 by_cases hb:b=x
 ·subst hb;rw[aW]at q;cases q;exact new
 ·rw[aF hb]at q
  by_cases hbe:b=e
  ·have q' :H b=some (.own x):=by
    rcases he with z|z
    ·exact absurd (hbe.trans z) hb
    ·rw[hbe];exact z
   rw[q]at q';cases q';obtain⟨v,hv⟩:=heo;exact⟨v,by rw[hbe];exact hv⟩
  ·refine(ok b u q).stay (fun c v hc r=>k c v ?_ r) (fun c r=>by rw[aF (nown c b r)];exact r) fun c xs r=>by rw[aF (ntup c xs r)];exact r
   rcases hc with rfl|hc
   ·exact hbe
   ·rintro rfl
    rcases he with z|z
    ·exact nown c b hc z
    ·rw[hc]at z;cases z;exact hb rfl
end
structure Un(fs ex:List Addr)(H H' :Hp)(h h' :Heap):Prop where
 keep:∀b o,h.get? b=some o->H b=none->b∉fs->b∉ex->h'.get? b=some o
 slot:∀b o,h.get? b=some o->H b=none->b∈fs->b∉ex->∃sl,h'.get? b=some {o with slots:=sl}
 free:∀b o,h.get? b=some o->H b=none->b∉ex->H' b=none
 there:∀b o,h.get? b=some o->b∉ex->∃o',h'.get? b=some o'
 tups:∀b xs,H b=some (.tup xs)->H' b=some (.tup xs)
 frzs:∀b o u,H b=some (.frz o u)->H' b=some (.frz o u)
 tbls:∀b ps,H b=some (.tbl ps)->∃more,H' b=some (.tbl (ps++more))
section
variable{fs fs' ex ex' :List Addr}{H H1 H2:Hp}{h h1 h2 h' :Heap}{a x e:Addr}{o:HO}
theorem Un.any(u:Un fs ex H H1 h h1){b:Addr}{ob:Obj}(q:h.get? b=some ob)(n:H b=none)(hx:b∉ex):∃sl,h1.get? b=some {ob with slots:=sl}:=by
 by_cases hb:b∈fs
 ·exact u.slot b ob q n hb hx
 ·exact⟨ob.slots,u.keep b ob q n hb hx⟩
theorem Un.kept(k:∀b u,h.get? b=some u->h'.get? b=some u):Un fs ex H H h h' :=
 ⟨fun b ob q _ _ _=>k b ob q,fun b ob q _ _ _=>⟨ob.slots,k b ob q⟩,fun _ _ _ n _=>n,fun b ob q _=>⟨ob,k b ob q⟩,fun _ _ q=>q,fun _ _ _ q=>q,fun _ ps q=>⟨#[],by rw[q];simp⟩⟩
theorem Un.refl:Un fs ex H H h h:=Un.kept fun _ _ q=>q
theorem Un.laid(k:∀b u,h.get? b=some u->h'.get? b=some u)(hp:h.objs.size<=a)(hn:H a=none):Un fs ex H (upd H a o) h h' where
 keep:=fun b u q _ _ _=>k b u q
 slot:=fun b u q _ _ _=>⟨u.slots,k b u q⟩
 free:=fun b u q n _=>by rw[aF (Cr (C0 (CU q) hp))];exact n
 there:=fun b u q _=>⟨u,k b u q⟩
 tups:=fun b xs q=>by rw[aF (aP q hn)];exact q
 frzs:=fun b u xs q=>by rw[aF (aP q hn)];exact q
 tbls:=fun b ps q=>⟨#[],by rw[aF (aP q hn),q];simp⟩
theorem Un.write(mu:Mut (H x))(he:e=x\/H e=some (.own x))(k:∀b u,b≠e->h.get? b=some u->h'.get? b=some u)(heo:∃u,h'.get? e=some u):Un fs ex H (upd H x o) h h' :=by
 have hx:∀b,H b=none->b≠x:=fun b n z=>by subst z;rw[n]at mu;exact mu
 have hb:∀b,H b=none->b≠e:=fun b n z=>by
  subst z
  rcases he with r|r
  ·exact hx b n r
  ·rw[n]at r;cases r
 have hm:∀b u,H b=some u->¬Mut (some u)->b≠x:=fun b u q nm z=>by subst z;rw[q]at mu;exact nm mu
 refine⟨fun b u q n _ _=>k b u (hb b n) q,fun b u q n _ _=>⟨u.slots,k b u (hb b n) q⟩,fun b u q n _=>by rw[aF (hx b n)];exact n,fun b u q _=> ?_,
  fun b xs q=>by rw[aF (hm b _ q fun z=>z)];exact q,fun b u xs q=>by rw[aF (hm b _ q fun z=>z)];exact q,fun b ps q=>⟨#[],by rw[aF (hm b _ q fun z=>z),q];simp⟩⟩
 by_cases hbe:b=e
 ·subst hbe;exact heo
 ·exact⟨u,k b u hbe q⟩
end
noncomputable def trk(h:Heap)(H:Hp):List Addr:=(List.range h.objs.size).filter fun a=>(H a).isSome
noncomputable def j3(h:Heap)(H:Hp):Heap:=W.hideAll h (trk h H)
theorem qE(h:Heap)(H:Hp):(j3 h H).objs.size=h.objs.size:=W.hideAll_size _ _
theorem tM{h:Heap}{H:Hp}{b:Addr}{o:Obj}(e:h.get? b=some o)(n:H b=none):(j3 h H).get? b=some o :=
 W.hideAll_get _ e fun hm=>by
  have q:(H b).isSome=true:=(DW.mp hm).2;rw[n]at q;simp at q
theorem va{h:Heap}{H:Hp}{b:Addr}{o:Obj}(e:(j3 h H).get? b=some o):h.get? b=some o/\H b=none:=by
 have e' :h.get? b=some o:=W.of_hideAll (trk h H) e;refine⟨e',?_⟩;cases q:H b with
 | none=>rfl
 | some x =>
  have hm:b∈trk h H:=DW.mpr ⟨DC.mpr (CU e'),by simp[q]⟩;have z:(j3 h H).get? b=none:=W.hideAll_none (trk h H) hm;rw[z]at e;cases e
noncomputable def wS(g h:Heap)(L:Addr):List (Addr×Obj):=(List.range h.objs.size).filterMap fun a=>if a=L\/(g.get? a).isSome=true then none else(h.get? a).map fun o=>(a,o)
noncomputable def aJ(g h:Heap)(L d:Addr):List (Addr×Obj):=(wS g h L).filter fun p=>decide (p.1≠d)
structure Mod(K:W.Frag)(mg:Str->Option Value)(base:Heap):Prop where
 kin:K.In base
 glob:base.Ns mainGlobals mg
 blt:∃mb,base.Ns builtinsNs mb/\∀x:Str,x≠"__name__"->mb x=bootBuiltins x
 nolimit:base.NoLimit
structure Cx where
 prog:Program
 w:World
 K:W.Frag
 mg:Str->Option Value
 base:Heap
 A:Around
 N:List Str
 s₀:Shared
 H₀:Hp
 env:Env
 outer:List Env
 stack:List Env
 ex:List Addr
 fn:Str->Bool
 calm:Bool
 pn:List (Addr×Obj)
 xe:Value->Shared->Prop
noncomputable def nE(l:List Env):List Addr:=l.filterMap (·.frame)
noncomputable abbrev Cx.fs(X:Cx):List Addr:=nE X.outer
noncomputable def B6(sc:Scope)(x:Str):Prop:=sc.names.lookup x=some .local\/sc.names.lookup x=some .cell\/sc.names.lookup x=some .free
noncomputable def Loc(sc:Scope)(x:Str):Prop:=sc.names.lookup x=some .local\/sc.names.lookup x=some .cell
noncomputable def Look(env:Env)(h:Heap)(m:Str->Option Value)(x:Str)(u:Value):Prop :=
 (env.kindOf x=some .local/\m x=some u)\/((env.kindOf x=some .cell\/env.kindOf x=some .free)/\∃c,env.cells.lookup x=some c/\h.IsCell c (some u))
structure Cx.Ok(X:Cx):Prop where
 mod:Mod X.K X.mg X.base
 kind:X.env.scope.kind=.function
 glob:X.env.globals=mainGlobals
 blt:X.env.builtins=builtinsNs
 above:X.s₀.heap.objs.size<=X.env.locals
 inj:∀x y c,X.env.cells.lookup x=some c->X.env.cells.lookup y=some c->x=y
 has:∀x,(X.env.kindOf x=some .cell\/X.env.kindOf x=some .free)->∃c,X.env.cells.lookup x=some c
 cab:∀x c,X.fn x=true->X.env.cells.lookup x=some c->X.s₀.heap.objs.size<=c
 hd:X.calm=true->X.A.handled=none
 frames:X.A.frames=some X.stack
 stk:X.stack=X.outer\/(X.stack=X.env::X.outer/\X.env.frame=some X.env.locals)
 exf:∀b∈X.ex,b≠X.env.locals/\∀x c,X.env.cells.lookup x=some c->c≠b
 bs:∀b o,X.base.get? b=some o->X.s₀.heap.get? b=some o/\X.H₀ b=none
 bsz:X.base.objs.size<=X.s₀.heap.objs.size
 noex:∀b o,X.base.get? b=some o->b∉X.ex
 exfs:∀b∈X.ex,b∉X.fs
 funs:X.s₀.heap.FunFrames X.base X.outer
 frf:∀b∈X.fs,X.H₀ b=none
structure Inv(X:Cx)(pins:List (Addr×Obj))(σ:List (Option V))(H:Hp)(s:Shared):Prop where
 ok:X.Ok
 os:s.os=X.s₀.os
 bare:AllBare s.gens
 base:Un X.fs X.ex X.H₀ H X.s₀.heap s.heap
 loc:∃m,s.heap.Ns X.env.locals m/\∀(i:Nat)(x:Str)(v:V),X.N[i]? =some x->σ[i]? =some (some v)->B6 X.env.scope x->∃u,RelV v u/\Look X.env s.heap m x u
 cell:∀x c,X.env.cells.lookup x=some c->∃v,s.heap.IsCell c v
 free:H X.env.locals=none
 freeC:∀x c,X.env.cells.lookup x=some c->H c=none
 pin:∀p∈X.pn++pins,s.heap.get? p.1=some p.2/\H p.1=none/\p.1≠X.env.locals/\p.1∉X.fs/\∀v,p.2.data≠.cell v
 hok:dz X.prog X.w H s.heap
 len:σ.length=X.N.length
section
variable{X:Cx}{pins:List (Addr×Obj)}{σ:List (Option V)}{H H' :Hp}{s:Shared}{h' :Heap}
theorem Cx.Ok.nofr(ok:X.Ok){b:Addr}{o:Obj}(e:X.base.get? b=some o):b∉X.fs:=fun hb=>by
 have:=(ok.funs.mem hb).1;rw[e]at this;cases this
theorem Inv.bs(I:Inv X pins σ H s):∀b o,X.base.get? b=some o->s.heap.get? b=some o/\H b=none:=fun b o e =>
 ⟨I.base.keep b o (I.ok.bs b o e).1 (I.ok.bs b o e).2 (I.ok.nofr e) (I.ok.noex b o e),I.base.free b o (I.ok.bs b o e).1 (I.ok.bs b o e).2 (I.ok.noex b o e)⟩
theorem Inv.bk(I:Inv X pins σ H s):∀b o,X.base.get? b=some o->s.heap.get? b=some o:=fun b o e=>(I.bs b o e).1
theorem Inv.mod(I:Inv X pins σ H s):Mod X.K X.mg X.base:=I.ok.mod
theorem Inv.kIn(I:Inv X pins σ H s):X.K.In s.heap:=I.ok.mod.kin.keeps I.bk
theorem Inv.lt(I:Inv X pins σ H s):X.env.locals<s.heap.objs.size:=let⟨_,hn,_⟩:=I.loc;hn.lt
theorem Inv.sz(I:Inv X pins σ H s):X.s₀.heap.objs.size<=s.heap.objs.size:=DF I.ok.above (Ec I.lt)
theorem Inv.nofs(I:Inv X pins σ H s){a:Addr}(h:s.heap.objs.size<=a):a∉X.fs:=fun hb=>by
 obtain⟨_,o,ho,_⟩:=I.ok.funs.mem hb;exact absurd (C0 (CU ho) (DF I.sz h)) (D7 _)
theorem Inv.cne(I:Inv X pins σ H s):∀x c,X.env.cells.lookup x=some c->c≠X.env.locals:=fun x c e z=>by
 obtain⟨v,o,ho,hd⟩:=I.cell x c e;obtain⟨m,⟨o',es,ep,ho',hd',_⟩,_⟩:=I.loc;rw[z,ho']at ho;cases ho;rw[hd']at hd;cases hd
theorem Inv.funs(I:Inv X pins σ H s):s.heap.FunFrames X.base X.outer:=by
 have all:∀(l:List Env),(∀b∈nE l,b∈X.fs)->X.s₀.heap.FunFrames X.base l->s.heap.FunFrames X.base l:=by
  intro l
  induction l with
  | nil=>intro _ _;trivial
  | cons env r ih =>
   intro hs hl;obtain⟨hk,⟨L,o,hf,hn,ho,hd⟩,hr⟩:=hl;have hL:L∈X.fs:=hs L (by unfold nE;rw[List.filterMap_cons,hf];exact Cd);obtain⟨sl,e⟩:=I.base.slot L o ho (I.ok.frf L hL) hL fun z=>I.ok.exfs L z hL;exact⟨hk,⟨L,_,hf,hn,e,hd⟩,ih (fun b hb=>hs b (by unfold nE;rw[List.filterMap_cons,hf];exact CV _ hb)) hr⟩
 exact all X.outer (fun _ hb=>hb) I.ok.funs
theorem Inv.stack(I:Inv X pins σ H s):s.heap.FunFrames X.base X.stack:=by
 rcases I.ok.stk with e|⟨e,hf⟩
 ·rw[e];exact I.funs
 ·rw[e]
  obtain⟨m,hn,_⟩:=I.loc;refine .cons (by rw[I.ok.kind];decide) hf hn ?_ I.funs;exact Heap.get?_none_of_le (DF I.ok.bsz I.ok.above)
theorem Inv.stkSub(I:Inv X pins σ H s):∀b∈nE X.stack,b∈X.env.locals::X.fs:=fun b hb=>by
 rcases I.ok.stk with e|⟨e,hf⟩
 ·rw[e]at hb;exact CV _ hb
 ·rw[e]at hb
  unfold nE at hb;rw[List.filterMap_cons,hf]at hb;exact hb
theorem Inv.stkFree(I:Inv X pins σ H s):∀b∈nE X.stack,H b=none:=fun b hb=>by
 rcases Ca.mp (I.stkSub b hb)with e|hb
 ·rw[e];exact I.free
 ·obtain⟨_,o,ho,_⟩:=I.ok.funs.mem hb
  exact I.base.free b o ho (I.ok.frf b hb) fun z=>I.ok.exfs b z hb
theorem Inv.step{g' :Array GenState}{t' :Nat}{d' :Drawn}{ch:List Addr}(I:Inv X pins σ H s)
  (hch:∀b∈ch,(b∈X.ex\/X.s₀.heap.objs.size<=b)/\b≠X.env.locals/\(∀x c,X.env.cells.lookup x=some c->c≠b)/\∀p∈X.pn++pins,p.1≠b)
  (keep:∀b o,b≠X.env.locals->b∉X.fs->b∉ch->s.heap.get? b=some o->H b=none->h'.get? b=some o)
  (slot:∀b o,b≠X.env.locals->b∈X.fs->b∉ch->s.heap.get? b=some o->H b=none->∃sl,h'.get? b=some {o with slots:=sl}) (free:∀b o,b∉ch->s.heap.get? b=some o->H b=none->H' b=none)
  (there:∀b o,b∉ch->s.heap.get? b=some o->∃o',h'.get? b=some o')
  (tups:∀b xs,H b=some (.tup xs)->H' b=some (.tup xs)) (frzs:∀b o u,H b=some (.frz o u)->H' b=some (.frz o u)) (tbls:∀b ps,H b=some (.tbl ps)->∃more,H' b=some (.tbl (ps++more)))
  (ns:∀m,s.heap.Ns X.env.locals m->h'.Ns X.env.locals m) (hok:dz X.prog X.w H' h') (hg:AllBare g') :
  Inv X pins σ H' {s with heap:=h',gens:=g',drawn:=d',toks:=t'}:=by
 have neL:∀b o,X.s₀.heap.get? b=some o->b≠X.env.locals:=fun b o e=>Cr (C0 (CU e) I.ok.above);have neC:∀b o,X.s₀.heap.get? b=some o->b∉X.ex->b∉ch:=fun b o e hx hb=>by
  rcases(hch b hb).1 with z|z
  ·exact hx z
  ·exact absurd (C0 (CU e) z) (D7 _)
 have cellK:∀x c,X.env.cells.lookup x=some c->∀v,s.heap.IsCell c v->h'.IsCell c v:=fun x c e v ⟨o,ho,hd⟩=>by
  have nch:c∉ch:=fun z=>(hch c z).2.2.1 x c e rfl
  by_cases hc:c∈X.fs
  ·obtain⟨sl,q⟩:=slot c o (I.cne x c e) hc nch ho (I.freeC x c e)
   exact⟨_,q,hd⟩
  ·exact⟨o,keep c o (I.cne x c e) hc nch ho (I.freeC x c e),hd⟩
 refine⟨I.ok,I.os,hg,⟨fun b o e n hb hx=> ?_,fun b o e n hb hx=> ?_,fun b o e n hx=> ?_,fun b o e hx=> ?_,fun b xs e=>tups b xs (I.base.tups b xs e),fun b o xs e=>frzs b o xs (I.base.frzs b o xs e),fun b ps e=> ?_⟩,?_,fun x c e=> ?_,?_,fun x c e=> ?_,fun p hp=> ?_,hok,I.len⟩
 ·exact keep b o (neL b o e) hb (neC b o e hx) (I.base.keep b o e n hb hx) (I.base.free b o e n hx)
 ·obtain⟨sl,e1⟩:=I.base.slot b o e n hb hx
  obtain⟨sl',e2⟩:=slot b _ (neL b o e) hb (neC b o e hx) e1 (I.base.free b o e n hx);exact⟨sl',e2⟩
 ·obtain⟨o',e1⟩:=I.base.there b o e hx
  exact free b o' (neC b o e hx) e1 (I.base.free b o e n hx)
 ·obtain⟨o',e1⟩:=I.base.there b o e hx
  exact there b o' (neC b o e hx) e1
 ·obtain⟨m1,e1⟩:=I.base.tbls b ps e
  obtain⟨m2,e2⟩:=tbls b _ e1;exact⟨m1++m2,by rw[e2,Array.append_assoc]⟩
 ·obtain⟨m,hn,hl⟩:=I.loc
  refine⟨m,ns m hn,fun i x v e1 e2 e3=> ?_⟩;obtain⟨u,r,l⟩:=hl i x v e1 e2 e3;refine⟨u,r,?_⟩
  rcases l with l|⟨k,c,e,z⟩
  ·exact .inl l
  ·exact .inr ⟨k,c,e,cellK x c e _ z⟩
 ·obtain⟨v,z⟩:=I.cell x c e
  exact⟨v,cellK x c e v z⟩
 ·obtain⟨m,⟨o,_,_,ho,_⟩,_⟩:=I.loc
  exact free _ o (fun z=>(hch _ z).2.1 rfl) ho I.free
 ·obtain⟨v,o,ho,hd⟩:=I.cell x c e
  exact free c o (fun z=>(hch c z).2.2.1 x c e rfl) ho (I.freeC x c e)
 ·obtain⟨e,n,ne,nf,d⟩:=I.pin p hp
  have nch:p.1∉ch:=fun z=>(hch p.1 z).2.2.2 p hp rfl;exact⟨keep p.1 p.2 ne nf nch e n,free p.1 p.2 nch e n,ne,nf,d⟩
theorem Inv.un{t' :Nat}(I:Inv X pins σ H s)(u:Un X.fs [] H H' s.heap h')(hok:dz X.prog X.w H' h'):Inv X pins σ H' {s with heap:=h',toks:=t'}:=by
 obtain⟨m,⟨o,es,ep,ho,r⟩,_⟩:=id I.loc;obtain⟨sl,hL⟩:=u.any ho I.free (by simp);exact I.step (g' :=s.gens) (d' :=s.drawn) (ch:=[]) (fun _ z=>nomatch z) (fun b o _ hb _ e n=>u.keep b o e n hb (by simp)) (fun b o _ hb _ e n=>u.slot b o e n hb (by simp)) (fun b o _ e n=>u.free b o e n (by simp)) (fun b o _ e=>u.there b o e (by simp)) u.tups u.frzs u.tbls (fun m' hm=>by
  obtain⟨o',es',ep',ho',r'⟩:=hm;rw[ho]at ho';cases ho';exact⟨_,es',ep',hL,r'⟩) hok I.bare
theorem Inv.call{g' :Array GenState}{t' :Nat}{d' :Drawn}{ch:List Addr}(I:Inv X pins σ H s)(u:Un (nE X.stack) ch H H' s.heap h')(hok:dz X.prog X.w H' h')(hg:AllBare g')
  (hch:∀b∈ch,(b∈X.ex\/X.s₀.heap.objs.size<=b)/\b≠X.env.locals/\(∀x c,X.env.cells.lookup x=some c->c≠b)/\∀p∈X.pn++pins,p.1≠b) :
  Inv X pins σ H' {s with heap:=h',gens:=g',drawn:=d',toks:=t'}:=by
 obtain⟨m,⟨o,es,ep,ho,r⟩,_⟩:=id I.loc;obtain⟨sl,hL⟩:=u.any ho I.free fun z=>(hch _ z).2.1 rfl;exact I.step (ch:=ch) hch (fun b o hL hb hc e n=>u.keep b o e n (fun z=>(Ca.mp (I.stkSub b z)).elim hL hb) hc) (fun b o _ _ hc e n=>u.any e n hc) (fun b o hc e n=>u.free b o e n hc) (fun b o hc e=>u.there b o e hc) u.tups u.frzs u.tbls (fun m' hm=>by
  obtain⟨o',es',ep',ho',r'⟩:=hm;rw[ho]at ho';cases ho';exact⟨_,es',ep',hL,r'⟩) hok hg
theorem Inv.turned{t' :Nat}{it:Addr}(I:Inv X pins σ H s)(k:∀b o,b≠it->s.heap.get? b=some o->h'.get? b=some o)(hn:H it=none)(hL:it≠X.env.locals)
  (h1:it∈X.ex\/X.s₀.heap.objs.size<=it) (h2:∀x c,X.env.cells.lookup x=some c->c≠it) (h3:∀p∈X.pn++pins,p.1≠it):Inv X pins σ H {s with heap:=h',toks:=t'}:=by
 have nit:∀b u,H b=some u->b≠it:=fun b u e z=>by rw[z,hn]at e;cases e
 refine I.step (g' :=s.gens) (d' :=s.drawn) (ch:=[it]) (fun b hb=> ?_) (fun b o _ _ hc e _=>k b o (fun z=>hc (by simp[z])) e) (fun b o _ _ hc e _=>⟨o.slots,k b o (fun z=>hc (by simp[z])) e⟩) (fun _ _ _ _ n=>n)
  (fun b o hc e=>⟨o,k b o (fun z=>hc (by simp[z])) e⟩) (fun _ _ e=>e) (fun _ _ _ e=>e) (fun b ps e=>⟨#[],by rw[e];simp⟩) (fun m hm=> ?_) (fun b u e=> ?_) I.bare
 ·have e:b=it:=by simpa using hb
  subst e;exact⟨h1,hL,h2,h3⟩
 ·obtain⟨o,es,ep,ho,r⟩:=hm
  exact⟨o,es,ep,k _ o (FK hL) ho,r⟩
 ·refine(I.hok b u e).stay (fun c v hc q=>k c v ?_ q) (fun _ q=>q) fun _ _ q=>q
  rcases hc with z|z
  ·rw[z];exact nit b u e
  ·exact nit c _ z
theorem Inv.tok(I:Inv X pins σ H s)(t:Nat):Inv X pins σ H {s with toks:=t}:=I.un (h' :=s.heap) (t' :=t) Un.refl I.hok
theorem Inv.kept{t' :Nat}(I:Inv X pins σ H s)(k:∀b u,s.heap.get? b=some u->h'.get? b=some u):Inv X pins σ H {s with heap:=h',toks:=t'}:=I.un (Un.kept k) (I.hok.kept k)
theorem Inv.laid{a:Addr}{o:HO}{t' :Nat}(I:Inv X pins σ H s)(k:∀b u,s.heap.get? b=some u->h'.get? b=some u)(hp:s.heap.objs.size<=a)(new:ai X.prog X.w (upd H a o) h' a o) :
  Inv X pins σ (upd H a o) {s with heap:=h',toks:=t'}:=I.un (Un.laid k hp (I.hok.fresh hp)) (I.hok.laid k hp new)
theorem Inv.write{x e:Addr}{o:HO}{t' :Nat}(I:Inv X pins σ H s)(mu:Mut (H x))(he:e=x\/H e=some (.own x))(k:∀b u,b≠e->s.heap.get? b=some u->h'.get? b=some u)(heo:∃u,h'.get? e=some u)
  (new:ai X.prog X.w (upd H x o) h' x o):Inv X pins σ (upd H x o) {s with heap:=h',toks:=t'}:=I.un (Un.write mu he k heo) (I.hok.write mu he k heo new)
theorem Inv.weak{σ' :List (Option V)}(I:Inv X pins σ H s)(hl:σ'.length=σ.length)(w:∀(i:Nat) v,σ'[i]? =some (some v)->σ[i]? =some (some v)):Inv X pins σ' H s :=
 ⟨I.ok,I.os,I.bare,I.base,let⟨m,hn,hl'⟩:=I.loc;⟨m,hn,fun i x v e1 e2 e3=>hl' i x v e1 (w i v e2) e3⟩,I.cell,I.free,I.freeC,I.pin,I.hok,hl.trans I.len⟩
theorem Inv.pins_of{pins' :List (Addr×Obj)}(I:Inv X pins σ H s)(h:∀p∈pins',s.heap.get? p.1=some p.2/\H p.1=none/\p.1≠X.env.locals/\p.1∉X.fs/\∀v,p.2.data≠.cell v):Inv X pins' σ H s :=
 ⟨I.ok,I.os,I.bare,I.base,I.loc,I.cell,I.free,I.freeC,fun p hp=>(DB.mp hp).elim (fun z=>I.pin p (D5 _ z)) (h p),I.hok,I.len⟩
theorem fA{N:List Str}(hN:N.Nodup){i j:Nat}{x:Str}(a:N[i]? =some x)(b:N[j]? =some x):i=j:=by
 obtain⟨h1,e1⟩:=CY.mp a;obtain⟨h2,e2⟩:=CY.mp b;exact(List.getElem_inj hN).mp (e1.trans e2.symm)
theorem jG{M:Model}{A:Around}{E:Value->Shared->Prop}{i:Nat}{x:Str}{v:V}{u:Value}{Q:Unit->Shared->Prop}(I:Inv X pins σ H s)(hN:X.N.Nodup)(hi:X.N[i]? =some x)(hx:Loc X.env.scope x)(r:RelV v u)
  (h:∀s',Inv X pins (σ.set i (some v)) H s' ->(∃a,Heap.SameBut a s.heap s'.heap/\(a=X.env.locals\/X.env.cells.lookup x=some a))->Q () s') (hf:X.fn x=true\/X.env.scope.names.lookup x=some .local:=by first|exact .inl rfl|exact .inr rfl|assumption):wpAny M A (storeName X.env x u) Q E s:=by
 obtain⟨m,hn,hl⟩:=id I.loc;have hcls:(X.env.scope.kind== .class||(X.env.scope.kind== .module&&X.env.locals !=X.env.globals))=false:=by rw[I.ok.kind];rfl
 have hiσ:i<σ.length:=by rw[I.len];exact(CY.mp hi).1
 have cne:=I.cne;have tracked:∀{a:Addr}{h' :Heap},(∃o,s.heap.get? a=some o/\H a=none)->Heap.SameBut a s.heap h' ->dz X.prog X.w H h' :=fun{a h'} ha hs b ob e=>by
  obtain⟨_,_,hfree⟩:=ha;refine(I.hok b ob e).stay (fun c w' hc q=>(hs.2 c ?_).trans q) (fun _ q=>q) fun _ _ q=>q;rintro rfl
  rcases hc with rfl|hc
  ·rw[hfree]at e;cases e
  ·rw[hfree]at hc;cases hc
 rcases hx with hk|hk
 ·refine wpAny_storeName_local hk hn (fun h' hn' hs=> ?_) hcls
  obtain⟨oL,_,_,hoL,_⟩:=id hn;refine h _ ⟨I.ok,I.os,I.bare,⟨fun b o e n hb hx=> ?_,fun b o e n hb hx=> ?_,I.base.free,fun b o e hx=> ?_,I.base.tups,I.base.frzs,I.base.tbls⟩,⟨_,hn',fun j y v' e1 e2 e3=> ?_⟩,fun y c e=> ?_,I.free,I.freeC,fun p hp=> ?_,tracked ⟨oL,hoL,I.free⟩ hs,by simpa using I.len⟩ ⟨_,hs,.inl rfl⟩
  ·exact(hs.2 b (Cr (C0 (CU e) I.ok.above))).trans (I.base.keep b o e n hb hx)
  ·obtain⟨sl,e1⟩:=I.base.slot b o e n hb hx
   exact⟨sl,(hs.2 b (Cr (C0 (CU e) I.ok.above))).trans e1⟩
  ·obtain⟨o',e1⟩:=I.base.there b o e hx
   exact⟨o',(hs.2 b (Cr (C0 (CU e) I.ok.above))).trans e1⟩
  ·by_cases hj:j=i
   ·subst hj
    rw[hi]at e1;cases e1;rw[Dc hiσ]at e2;cases e2;exact⟨u,r,.inl ⟨hk,by simp⟩⟩
   ·rw[Ck (FK hj)]at e2
    obtain⟨u',r',q⟩:=hl j y v' e1 e2 e3;refine⟨u',r',?_⟩
    rcases q with⟨k,e⟩|⟨k,c,e,z⟩
    ·refine .inl ⟨k,?_⟩
     have:y≠x:=fun e=>hj (fA hN e1 (e▸hi));simp[this,e]
    ·exact .inr ⟨k,c,e,z.sameBut hs (cne y c e)⟩
  ·obtain⟨w',z⟩:=I.cell y c e
   exact⟨w',z.sameBut hs (cne y c e)⟩
  ·obtain⟨e,n,ne,nf,d⟩:=I.pin p hp
   exact⟨(hs.2 p.1 ne).trans e,n,ne,nf,d⟩
 ·have hfn:X.fn x=true:=by
   rcases hf with z|z
   ·exact z
   ·rw[z]at hk;cases hk
  obtain⟨c,hc⟩:=I.ok.has x (.inl hk);obtain⟨w',z⟩:=I.cell x c hc;refine wpAny_storeName_cell I.ok.kind hk hc z (fun h' hc' hs=> ?_);obtain⟨oc,hoc,hocd⟩:=id z;refine h {s with heap:=h'} ⟨I.ok,I.os,I.bare,⟨fun b o e n hb hx=> ?_,fun b o e n hb hx=> ?_,I.base.free,fun b o e hx=> ?_,I.base.tups,I.base.frzs,I.base.tbls⟩,⟨m,hn.sameBut hs (FK (cne x c hc)),fun j y v' e1 e2 e3=> ?_⟩,fun y c' e=> ?_,I.free,I.freeC,fun p hp=> ?_,tracked ⟨oc,hoc,I.freeC x c hc⟩ hs,by simpa using I.len⟩ ⟨c,hs,.inr hc⟩
  ·exact(hs.2 b (Cr (C0 (CU e) (I.ok.cab x c hfn hc)))).trans (I.base.keep b o e n hb hx)
  ·obtain⟨sl,e1⟩:=I.base.slot b o e n hb hx
   exact⟨sl,(hs.2 b (Cr (C0 (CU e) (I.ok.cab x c hfn hc)))).trans e1⟩
  ·obtain⟨o',e1⟩:=I.base.there b o e hx
   exact⟨o',(hs.2 b (Cr (C0 (CU e) (I.ok.cab x c hfn hc)))).trans e1⟩
  ·by_cases hj:j=i
   ·subst hj
    rw[hi]at e1;cases e1;rw[Dc hiσ]at e2;cases e2;exact⟨u,r,.inr ⟨.inl hk,c,hc,hc'⟩⟩
   ·rw[Ck (FK hj)]at e2
    obtain⟨u',r',q⟩:=hl j y v' e1 e2 e3;refine⟨u',r',?_⟩
    rcases q with q|⟨k,c',e,z'⟩
    ·exact .inl q
    ·refine .inr ⟨k,c',e,z'.sameBut hs ?_⟩
     rintro rfl;exact hj (fA hN e1 (I.ok.inj _ _ _ e hc▸hi))
  ·by_cases hcc:c' =c
   ·subst hcc;exact⟨_,hc'⟩
   ·obtain⟨w2,z2⟩:=I.cell y c' e
    exact⟨w2,z2.sameBut hs hcc⟩
  ·obtain⟨e,n,ne,nf,d⟩:=I.pin p hp
   refine⟨(hs.2 p.1 ?_).trans e,n,ne,nf,d⟩;intro q;rw[q,hoc]at e;have q' :oc=p.2:=Cq e;exact d w' (by rw[<- q'];exact hocd)
theorem kT{M:Model}{A:Around}{E:Value->Shared->Prop}{i:Nat}{x:Str}{v:V}{u:Value}{Q:Unit->Shared->Prop}(I:Inv X pins σ H s)(hN:X.N.Nodup)(hi:X.N[i]? =some x)(hx:Loc X.env.scope x)(r:RelV v u)
  (h:∀s',Inv X pins (σ.set i (some v)) H s' ->Q () s') (hf:X.fn x=true\/X.env.scope.names.lookup x=some .local:=by first|exact .inl rfl|exact .inr rfl|assumption):wpAny M A (storeName X.env x u) Q E s :=
 jG I hN hi hx r (fun s' I' _=>h s' I') hf
theorem Inv.call'{s' :Shared}{ch:List Addr}(I:Inv X pins σ H s)(ho:s'.os=s.os)(u:Un (nE X.stack) ch H H' s.heap s'.heap)(hok:dz X.prog X.w H' s'.heap)(hg:AllBare s'.gens)
  (hch:∀b∈ch,(b∈X.ex\/X.s₀.heap.objs.size<=b)/\b≠X.env.locals/\(∀x c,X.env.cells.lookup x=some c->c≠b)/\∀p∈X.pn++pins,p.1≠b):Inv X pins σ H' s' :=by
 obtain⟨h',g',d',t',o'⟩:=s';have e:o' =s.os:=ho;subst e;exact I.call (g' :=g') (t' :=t') (d' :=d') u hok hg hch
end
noncomputable abbrev XK:=Value->Option Addr->Hp->Prop
noncomputable abbrev St:=List (Option V)
noncomputable abbrev VK:=V->Hp->Prop
noncomputable abbrev TE:=St->Hp->VK->Prop
noncomputable abbrev TT:=St->Hp->(Bool->Hp->Prop)->Prop
noncomputable abbrev TA:=St->Hp->(List V->Hp->Prop)->Prop
structure dh where
 nx:St->Hp->Prop
 rt:VK
 bk:St->Hp->Prop:=fun _ _=>False
 ct:St->Hp->Prop:=fun _ _=>False
noncomputable abbrev TS:=dh->St->Hp->Prop
noncomputable def EP(X:Cx)(pins:List (Addr×Obj))(σ:St)(Q:VK)(u:Value)(s' :Shared):Prop:=∃v H',Inv X pins σ H' s' /\RelV v u/\Q v H'
noncomputable def TP(X:Cx)(pins:List (Addr×Obj))(σ:St)(Q:Bool->Hp->Prop)(b:Bool)(s' :Shared):Prop:=∃H',Inv X pins σ H' s' /\Q b H'
noncomputable def AP(X:Cx)(pins:List (Addr×Obj))(σ:St)(Q:List V->Hp->Prop)(us:List Value)(s' :Shared):Prop:=∃vs H',Inv X pins σ H' s' /\aK vs us/\Q vs H'
noncomputable def SP(X:Cx)(pins:List (Addr×Obj))(D:dh)(f:Flow)(s' :Shared):Prop :=
 match f with
 | .next=>∃σ' H',Inv X pins σ' H' s' /\D.nx σ' H'
 | .brk=>∃σ' H',Inv X pins σ' H' s' /\D.bk σ' H'
 | .cont=>∃σ' H',Inv X pins σ' H' s' /\D.ct σ' H'
 | .ret u=>∃v σ' H',Inv X pins σ' H' s' /\RelV v u/\D.rt v H'
noncomputable def PE(X:Cx)(e:Expr)(t:TE):Prop :=
 ∀(pins:List (Addr×Obj))(s:Shared)(σ:St)(H:Hp)(Q:VK),Inv X pins σ H s->t σ H Q->wpAny (model X.prog X.w) X.A (eval e X.env) (EP X pins σ Q) X.xe s
noncomputable def PT(X:Cx)(e:Expr)(t:TT):Prop :=
 ∀(pins:List (Addr×Obj))(s:Shared)(σ:St)(H:Hp)(Q:Bool->Hp->Prop),Inv X pins σ H s->t σ H Q->wpAny (model X.prog X.w) X.A (isTrue e X.env (eval e X.env)) (TP X pins σ Q) X.xe s
noncomputable def PW(X:Cx)(e:Expr)(t:TT):Prop :=
 ∀(whole:Sem Value)(pins:List (Addr×Obj))(s:Shared)(σ:St)(H:Hp)(Q:Bool->Hp->Prop),Inv X pins σ H s->t σ H Q->wpAny (model X.prog X.w) X.A (isTrue e X.env whole) (TP X pins σ Q) X.xe s
theorem PW.pt{X:Cx}{e:Expr}{t:TT}(h:PW X e t):PT X e t:=h _
noncomputable def PA(X:Cx)(es:List Expr)(t:TA):Prop :=
 ∀(pos:Pos)(pins:List (Addr×Obj))(s:Shared)(σ:St)(H:Hp)(Q:List V->Hp->Prop),Inv X pins σ H s->t σ H Q->wpAny (model X.prog X.w) X.A (spliced (backTo pos (starEach es X.env))) (AP X pins σ Q) X.xe s
noncomputable def PS(X:Cx)(st:Stmt)(t:TS):Prop :=
 ∀(pins:List (Addr×Obj))(s:Shared)(σ:St)(H:Hp)(D:dh),Inv X pins σ H s->t D σ H->wpAny (model X.prog X.w) X.A (exec st X.env) (SP X pins D) X.xe s
noncomputable def nt(X:Cx)(st:List Stmt)(t:TS):Prop :=
 ∀(pins:List (Addr×Obj))(s:Shared)(σ:St)(H:Hp)(D:dh),Inv X pins σ H s->t D σ H->wpAny (model X.prog X.w) X.A (execs st X.env) (SP X pins D) X.xe s
theorem aq{α:Type}{t:Sem α}{Q Q' :α->Shared->Prop}{M:Model}{A:Around}{E:Value->Shared->Prop}{s:Shared}(h:wpAny M A t Q E s)(hQ:∀a s,Q a s->Q' a s):wpAny M A t Q' E s:=Dq h hQ fun _ _ x=>x
section
variable{X:Cx}
theorem bin{a b:Expr}{ta tb:TE}(ha:PE X a ta)(hb:PE X b tb){pins:List (Addr×Obj)}{s:Shared}{σ:St}{H:Hp}{R:V->V->Hp->Prop}(I:Inv X pins σ H s)(h:ta σ H fun x H1=>tb σ H1 fun y H2=>R x y H2)
  {α:Type} {Q:α->Shared->Prop} {f:Value->Value->Sem α}
  (hf:∀v u s2 x y H2,Inv X pins σ H2 s2->RelV x v->RelV y u->R x y H2->wpAny (model X.prog X.w) X.A (f v u) Q X.xe s2) :
  wpAny (model X.prog X.w) X.A (eval a X.env) (fun v s₁=>wpAny (model X.prog X.w) X.A (eval b X.env) (fun u s₂=>wpAny (model X.prog X.w) X.A (f v u) Q X.xe s₂) X.xe s₁) X.xe s:=by
 refine aq (ha pins s σ H _ I h) fun v s1 hpq=> ?_;obtain⟨x,H1,I1,r1,q1⟩:=hpq;refine aq (hb pins s1 σ H1 _ I1 q1) fun u s2 hpq=> ?_;obtain⟨y,H2,I2,r2,q2⟩:=hpq;exact hf v u s2 x y H2 I2 r1 r2 q2
noncomputable def Aa(i:Nat):TE:=fun σ H Q=>∃v,σ[i]? =some (some v)/\Q v H
noncomputable def tC(v:V):TE:=fun _ H Q=>Q v H
theorem fW{i:Nat}{x:Str}{pos:Pos}(hN:X.N[i]? =some x)(hv:B6 X.env.scope x)(hd:(x==("__debug__":Str))=false:=by decide)(hcd:(x==("__classdict__":Str))=false:=by decide):PE X (.Name x pos) (Aa i):=by
 intro pins s σ H Q I h;obtain⟨v,e,h⟩:=h;obtain⟨m,hn,hl⟩:=I.loc;obtain⟨u,r,l⟩:=hl i x v hN e hv;have fin:EP X pins σ Q u s:=⟨v,H,I,r,h⟩
 rcases l with⟨hk,hm⟩|⟨hk,c,hc,hcell⟩
 ·exact wpAny_Name (wpAny_loadName_local I.ok.kind hk hn hm fin) hd
 ·rcases hk with hk|hk
  ·exact wpAny_Name (wpAny_loadName_cell I.ok.kind hk hc hcell fin) hd
  ·exact wpAny_Name (wpAny_loadName_free I.ok.kind hk hc hcell fin hcd) hd
theorem iD{i j pos}:PE X (.Constant (.int i) j pos) (tC (.int i)):=fun _ _ _ H _ I h=>wpAny_Constant_int ⟨.int i,H,I.tok _,⟨_,rfl⟩,h⟩
theorem wo{b j pos}:PE X (.Constant (.bool b) j pos) (tC (.bl b)):=fun _ _ _ H _ I h=>Constant_bool ⟨.bl b,H,I,rfl,h⟩
theorem yI{j pos}:PE X (.Constant .none j pos) (tC .non):=fun _ _ _ H _ I h=>Constant_none ⟨.non,H,I,rfl,h⟩
theorem me{x j pos}:PE X (.Constant (.str x) j pos) (tC (.str x)):=fun _ _ _ H _ I h=>Calls.Constant_str ⟨.str x,H,I.tok _,⟨_,rfl⟩,h⟩
noncomputable def Gl(X:Cx)(x:Str):Prop:=X.env.kindOf x=some .globalImplicit
theorem oP{E:Value->Shared->Prop}{pins:List (Addr×Obj)}{s:Shared}{σ:St}{H:Hp}{x:Str}{u:Value}{pos:Pos}{Q:Value->Shared->Prop}(I:Inv X pins σ H s)(hg:Gl X x)(hm:X.mg x=some u)(h:Q u s)
  (hd:(x==("__debug__":Str))=false:=by decide):wpAny (model X.prog X.w) X.A (eval (.Name x pos) X.env) Q E s :=
 Calls.Name_function_global I.ok.kind hg (Calls.loadGlobal_global (by rw[I.ok.glob];exact I.mod.glob.keeps I.bk) hm h) hd
theorem cV{E:Value->Shared->Prop}{pins:List (Addr×Obj)}{s:Shared}{σ:St}{H:Hp}{x:Str}{u:Value}{pos:Pos}{Q:Value->Shared->Prop}(I:Inv X pins σ H s)(hg:Gl X x)(hm:X.mg x=none)(hv:bootBuiltins x=some u)(h:Q u s)
  (hn:x≠"__name__":=by decide) (hd:(x==("__debug__":Str))=false:=by decide):wpAny (model X.prog X.w) X.A (eval (.Name x pos) X.env) Q E s:=by
 obtain⟨mb,h1,h2⟩:=I.mod.blt;exact Calls.Name_function_global I.ok.kind hg (Calls.loadGlobal_builtin (by rw[I.ok.glob];exact I.mod.glob.keeps I.bk) hm (by rw[I.ok.blt];exact h1.keeps I.bk) ((h2 x hn).trans hv) h) hd
theorem vR{x:Str}{v:V}{u:Value}{pos:Pos}(hg:Gl X x)(hm:X.mg x=some u)(r:RelV v u)(hd:(x==("__debug__":Str))=false:=by decide):PE X (.Name x pos) (tC v) :=
 fun _ _ _ H _ I h=>oP I hg hm ⟨v,H,I,r,h⟩ hd
theorem vT{x:Str}{v:V}{u:Value}{pos:Pos}(hg:Gl X x)(hm:X.mg x=none)(hv:bootBuiltins x=some u)(r:RelV v u)(hn:x≠"__name__":=by decide)(hd:(x==("__debug__":Str))=false:=by decide):PE X (.Name x pos) (tC v) :=
 fun _ _ _ H _ I h=>cV I hg hm hv ⟨v,H,I,r,h⟩ hn hd
variable{a b:Expr}{ta tb:TE}{pos:Pos}
variable{tA tB' :TT}{aJ:List Expr}
noncomputable def tAnd(t u:TT):TT:=fun σ H Q=>t σ H fun c H1=>if c=true then u σ H1 Q else Q false H1
noncomputable def tOr(t u:TT):TT:=fun σ H Q=>t σ H fun c H1=>if c=true then Q true H1 else u σ H1 Q
noncomputable def tNot(t:TT):TT:=fun σ H Q=>t σ H fun c H1=>Q (!c) H1
theorem vI(ha:PT X a tA):PW X (.BoolOp .And [a] pos) tA:=by
 intro wh pins s σ H Q I h;refine isTrue_and (aq (ha pins s σ H Q I h) fun c s1 e=> ?_);cases c with
 | true=>exact isTrue_and_nil e
 | false=>exact e
theorem rk(ha:PT X a tA):PW X (.BoolOp .Or [a] pos) tA:=by
 intro wh pins s σ H Q I h;refine isTrue_or (aq (ha pins s σ H Q I h) fun c s1 e=> ?_);cases c with
 | false=>exact isTrue_or_nil e
 | true=>exact e
theorem xr(ha:PT X a tA)(hb:PW X (.BoolOp .And (b::aJ) pos) tB'):PW X (.BoolOp .And (a::b::aJ) pos) (tAnd tA tB'):=by
 intro wh pins s σ H Q I h;refine isTrue_and (aq (ha pins s σ H _ I h) fun c s1 hpq=> ?_);obtain⟨H1,I1,q1⟩:=hpq;cases c with
 | true=>exact hb wh pins s1 σ H1 Q I1 q1
 | false=>exact⟨H1,I1,q1⟩
theorem wj(ha:PT X a tA)(hb:PW X (.BoolOp .Or (b::aJ) pos) tB'):PW X (.BoolOp .Or (a::b::aJ) pos) (tOr tA tB'):=by
 intro wh pins s σ H Q I h;refine isTrue_or (aq (ha pins s σ H _ I h) fun c s1 hpq=> ?_);obtain⟨H1,I1,q1⟩:=hpq;cases c with
 | true=>exact⟨H1,I1,q1⟩
 | false=>exact hb wh pins s1 σ H1 Q I1 q1
theorem mW(ha:PT X a tA):PT X (.UnaryOp .Not a pos) (tNot tA):=by
 intro pins s σ H Q I h;exact isTrue_not (ha pins s σ H (fun c H1=>Q (!c) H1) I h)
noncomputable def Ak(ta tb:TE):TE:=fun σ H Q=>ta σ H fun x H1=>∃c,x=.bl c/\if c=true then tb σ H1 Q else Q (.bl false) H1
noncomputable def tOrV(ta tb:TE):TE:=fun σ H Q=>ta σ H fun x H1=>∃c,x=.bl c/\if c=true then Q (.bl true) H1 else tb σ H1 Q
noncomputable def Ae(ta:TE):TE:=fun σ H Q=>ta σ H fun x H1=>∃c,x=.bl c/\Q (.bl (!c)) H1
theorem yG{op}{t:TE}(h:PE X a t):PE X (.BoolOp op [a] pos) t:=fun pins s σ H Q I hw=>BoolOp_one (h pins s σ H Q I hw)
theorem sR(ha:PE X a ta)(hb:PE X (.BoolOp .And (b::aJ) pos) tb):PE X (.BoolOp .And (a::b::aJ) pos) (Ak ta tb):=by
 intro pins s σ H Q I h;refine BoolOp_and (aq (ha pins s σ H _ I h) fun v s1 hpq=> ?_);obtain⟨x,H1,I1,r1,q1⟩:=hpq;obtain⟨c,rfl,q1⟩:=q1;cases r1;refine Dp ?_;cases c with
 | true=>exact hb pins s1 σ H1 Q I1 q1
 | false=>exact⟨.bl false,H1,I1,rfl,q1⟩
theorem wk(ha:PE X a ta)(hb:PE X (.BoolOp .Or (b::aJ) pos) tb):PE X (.BoolOp .Or (a::b::aJ) pos) (tOrV ta tb):=by
 intro pins s σ H Q I h;refine BoolOp_or (aq (ha pins s σ H _ I h) fun v s1 hpq=> ?_);obtain⟨x,H1,I1,r1,q1⟩:=hpq;obtain⟨c,rfl,q1⟩:=q1;cases r1;refine Dp ?_;cases c with
 | false=>exact hb pins s1 σ H1 Q I1 q1
 | true=>exact⟨.bl true,H1,I1,rfl,q1⟩
theorem yH(ha:PE X a ta):PE X (.UnaryOp .Not a pos) (Ae ta):=by
 intro pins s σ H Q I h;refine UnaryOp_ (aq (ha pins s σ H _ I h) fun v s1 hpq=> ?_);obtain⟨x,H1,I1,r1,q1⟩:=hpq;obtain⟨c,rfl,q1⟩:=q1;cases r1;exact not_of (Dp ⟨.bl (!c),H1,I1,rfl,q1⟩)
noncomputable def tIf(t:TT)(ta tb:TE):TE:=fun σ H Q=>t σ H fun c H1=>if c=true then ta σ H1 Q else tb σ H1 Q
theorem sQ{c:Expr}(hc:PT X c tA)(ha:PE X a ta)(hb:PE X b tb):PE X (.IfExp c a b pos) (tIf tA ta tb):=by
 intro pins s σ H Q I h;refine wpAny_IfExp (aq (hc pins s σ H _ I h) fun d s1 hpq=> ?_);obtain⟨H1,I1,q1⟩:=hpq;cases d with
 | true=>exact ha pins s1 σ H1 Q I1 q1
 | false=>exact hb pins s1 σ H1 Q I1 q1
end
noncomputable def ao(K:W.Frag)(H:Hp)(a:Addr)(xs:List V):Prop :=
 Rd H a (.lst xs) \/
  ∃(o:Obj)(its:Array Value)(n:Nat),K.lookup a=some o/\o.cls=.type "list"/\o.dict=none/\o.data=.seq its n/\its.size<=sizeLine/\aK xs its.toList
noncomputable def bQ(K:W.Frag)(H:Hp)(a:Addr)(xs:List V):Prop :=
 Rd H a (.tup xs) \/
  ∃(o:Obj)(its:Array Value)(n:Nat),K.lookup a=some o/\o.cls=.type "tuple"/\o.dict=none/\o.data=.seq its n/\its.size<=sizeLine/\aK xs its.toList
noncomputable def absV:Value->Option V
 | .none=>some .non
 | .bool b=>some (.bl b)
 | .int i _=>some (.int i)
 | .str x _=>some (.str x)
 | .bytes b _=>some (.byt b)
 | .float b _=>some (.flt b)
 | .ref a=>some (.ref a)
 | .type n=>some (.ty n)
 | _=>none
theorem RelV.abs{x:V}{u:Value}(r:RelV x u):absV u=some x:=by
 cases x with
 | non=>cases r;rfl
 | bl _=>cases r;rfl
 | int _=>obtain⟨t,rfl⟩:=r;rfl
 | str _=>obtain⟨t,rfl⟩:=r;rfl
 | byt _=>obtain⟨t,rfl⟩:=r;rfl
 | flt _=>obtain⟨t,rfl⟩:=r;rfl
 | ref _=>cases r;rfl
 | ty _=>cases r;rfl
theorem RelV.inj{x y:V}{u:Value}(r:RelV x u)(q:RelV y u):x=y:=Cq (r.abs.symm.trans q.abs)
theorem aK.inj{xs ys:List V}{us:List Value}(h:aK xs us)(k:aK ys us):xs=ys:=by
 induction h generalizing ys with
 | nil=>cases k;rfl
 | cons r t ih =>
  cases k with
  | cons r' t' =>rw[r.inj r',ih t']
section
variable{X:Cx}{pins:List (Addr×Obj)}{σ:St}{H:Hp}{s:Shared}{a:Addr}{xs ys:List V}
theorem ao.of{K:W.Frag}(h:H a=some (.lst xs)):ao K H a xs:=.inl (.inl h)
theorem bQ.of{K:W.Frag}(h:H a=some (.tup xs)):bQ K H a xs:=.inl (.inl h)
theorem Inv.list(I:Inv X pins σ H s)(h:ao X.K H a xs):∃its:List Value,aK xs its/\PlainL s.heap a its.toArray/\xs.length<=sizeLine:=by
 rcases h with h|⟨o,its,n,hk,hc,hd,hs,hz,r⟩
 ·obtain⟨z,its,n,r,e⟩:=h.ok I.hok
  exact⟨its,r,⟨_,n,e,rfl,rfl,rfl⟩,z⟩
 ·refine⟨its.toList,r,⟨o,n,I.kIn a o hk,hc,hd,by simpa using hs⟩,?_⟩
  have e:=r.length;simp only[Ci]at e;omega
theorem Inv.tuple(I:Inv X pins σ H s)(h:bQ X.K H a xs):∃its:List Value,aK xs its/\IsTup s.heap a its.toArray/\xs.length<=sizeLine:=by
 rcases h with h|⟨o,its,n,hk,hc,_,hs,hz,r⟩
 ·obtain⟨z,its,r,p⟩:=h.ok I.hok
  exact⟨its,r,p.tup,z⟩
 ·refine⟨its.toList,r,⟨o,I.kIn a o hk,hc,n,by simpa using hs⟩,?_⟩
  have e:=r.length;simp only[Ci]at e;omega
theorem Inv.tupleD(I:Inv X pins σ H s)(h:bQ X.K H a xs):∃o,s.heap.get? a=some o/\o.cls=.type "tuple"/\o.dict=none:=by
 rcases h with h|⟨o,its,n,hk,hc,hd,_⟩
 ·obtain⟨z,its,r,o,e,c,n,_,d⟩:=h.ok I.hok
  exact⟨o,e,c,d⟩
 ·exact⟨o,I.kIn a o hk,hc,hd⟩
theorem Inv.list_inj(I:Inv X pins σ H s)(h:ao X.K H a xs)(h' :ao X.K H a ys):xs=ys:=by
 obtain⟨its,r,⟨o,n,e,_,_,d⟩,_⟩:=I.list h;obtain⟨its',r',⟨o',n',e',_,_,d'⟩,_⟩:=I.list h';rw[e]at e';cases e';rw[d]at d'
 injection d' with d1 _
 have:its=its' :=by simpa using Da Array.toList d1
 subst this;exact r.inj r'
theorem Inv.tuple_inj(I:Inv X pins σ H s)(h:bQ X.K H a xs)(h' :bQ X.K H a ys):xs=ys:=by
 obtain⟨its,r,⟨o,e,_,n,d⟩,_⟩:=I.tuple h;obtain⟨its',r',⟨o',e',_,n',d'⟩,_⟩:=I.tuple h';rw[e]at e';cases e';rw[d]at d'
 injection d' with d1 _
 have:its=its' :=by simpa using Da Array.toList d1
 subst this;exact r.inj r'
end
noncomputable abbrev Cx.wish(X:Cx)(E:Value->Shared->Prop):Cx:={X with xe:=E}
noncomputable abbrev Cx.nox(X:Cx):Cx:=X.wish fun _ _=>False
theorem Cx.Ok.wish{X:Cx}(ok:X.Ok)(E:Value->Shared->Prop):(X.wish E).Ok :=
 ⟨ok.mod,ok.kind,ok.glob,ok.blt,ok.above,ok.inj,ok.has,ok.cab,ok.hd,ok.frames,ok.stk,ok.exf,ok.bs,ok.bsz,ok.noex,ok.exfs,ok.funs,ok.frf⟩
theorem Cx.Ok.unwish{X:Cx}{E:Value->Shared->Prop}(ok:(X.wish E).Ok):X.Ok :=
 ⟨ok.mod,ok.kind,ok.glob,ok.blt,ok.above,ok.inj,ok.has,ok.cab,ok.hd,ok.frames,ok.stk,ok.exf,ok.bs,ok.bsz,ok.noex,ok.exfs,ok.funs,ok.frf⟩
section
variable{X:Cx}{pins:List (Addr×Obj)}{σ:St}{H:Hp}{s:Shared}{E:Value->Shared->Prop}
theorem Inv.wish(I:Inv X pins σ H s)(E:Value->Shared->Prop):Inv (X.wish E) pins σ H s:=⟨I.ok.wish E,I.os,I.bare,I.base,I.loc,I.cell,I.free,I.freeC,I.pin,I.hok,I.len⟩
theorem Inv.unwish(I:Inv (X.wish E) pins σ H s):Inv X pins σ H s:=⟨I.ok.unwish,I.os,I.bare,I.base,I.loc,I.cell,I.free,I.freeC,I.pin,I.hok,I.len⟩
theorem SP.unwish{D:dh}{f:Flow}{s' :Shared}(h:SP (X.wish E) pins D f s'):SP X pins D f s' :=by
 cases f with
 | next=>obtain⟨σ',H',I,q⟩:=h;exact⟨σ',H',I.unwish,q⟩
 | brk=>obtain⟨σ',H',I,q⟩:=h;exact⟨σ',H',I.unwish,q⟩
 | cont=>obtain⟨σ',H',I,q⟩:=h;exact⟨σ',H',I.unwish,q⟩
 | ret u=>obtain⟨v,σ',H',I,r,q⟩:=h;exact⟨v,σ',H',I.unwish,r,q⟩
theorem nt.nox{st:List Stmt}{t:TS}(h:nt X.nox st t):nt X st t:=fun pins s σ H D I hw =>
 Dq (h pins s σ H D (I.wish _) hw) (fun _ _ q=>q.unwish) fun _ _ z=>False.elim z
end
section
variable{X:Cx}{st:Stmt}{aJ:List Stmt}{t u:TS}{e:Expr}{te:TE}{pos:Pos}
noncomputable def wc:TS:=fun D σ H=>D.nx σ H
noncomputable def tSeq(t u:TS):TS:=fun D σ H=>t {D with nx:=u D} σ H
theorem jo:nt X [] wc:=fun _ _ σ H _ I h=>wpAny_execs_nil ⟨σ,H,I,h⟩
theorem aj(h1:PS X st t)(h2:nt X aJ u):nt X (st::aJ) (tSeq t u):=by
 intro pins s σ H D I h;refine wpAny_execs_cons (aq (h1 pins s σ H {D with nx:=u D} I h) fun f s1 q=> ?_);cases f with
 | next =>
  obtain⟨σ',H',I',q⟩:=q;exact h2 pins s1 σ' H' D I' q
 | ret v=>exact q
 | brk=>exact q
 | cont=>exact q
theorem cK(h1:PS X st t):nt X [st] t:=by
 intro pins s σ H D I h;refine wpAny_execs_cons (aq (h1 pins s σ H D I h) fun f s1 q=> ?_);cases f with
 | next=>exact wpAny_execs_nil q
 | ret v=>exact q
 | brk=>exact q
 | cont=>exact q
noncomputable def xU:TS:=fun D σ H=>D.bk σ H
noncomputable def Ah:TS:=fun D σ H=>D.ct σ H
theorem vL:PS X (.Pass pos) wc:=fun _ _ σ H _ I h=>wpAny_Pass ⟨σ,H,I,h⟩
theorem rq:PS X (.Break pos) xU:=fun _ _ σ H _ I h=>wpAny_Break ⟨σ,H,I,h⟩
theorem kj:PS X (.Continue pos) Ah:=fun _ _ σ H _ I h=>wpAny_Continue ⟨σ,H,I,h⟩
theorem Inv.quiet{pins:List (Addr×Obj)}{σ:St}{H:Hp}{s:Shared}(I:Inv X pins σ H s):interactive X.env=false:=by simp[interactive,I.ok.kind]
noncomputable def Af(te:TE):TS:=fun D σ H=>te σ H fun _ H1=>D.nx σ H1
theorem em(he:PE X e te)(hs:swapsWith e none pos.line X.env=pure false:=by rfl):PS X (.Expr e pos) (Af te):=by
 intro pins s σ H D I h;exact wpAny_Expr_any (aq (he pins s σ H _ I h) fun v s1 ⟨x,H1,I1,r1,q1⟩=>⟨σ,H1,I1,q1⟩) I.quiet hs
noncomputable def tRet(te:TE):TS:=fun D σ H=>te σ H D.rt
theorem mX(he:PE X e te):PS X (.Return (some e) pos) (tRet te):=by
 intro pins s σ H D I h;exact wpAny_Return_some (aq (he pins s σ H _ I h) fun v s1 ⟨x,H1,I1,r1,q1⟩=>⟨x,σ,H1,I1,r1,q1⟩)
noncomputable def Ac:TS:=fun D _ H=>D.rt .non H
theorem vK:PS X (.Return none pos) Ac:=fun _ _ σ H _ I h=>wpAny_Return_none ⟨.non,σ,H,I,rfl,h⟩
noncomputable def tIfS(c:TT)(t u:TS):TS:=fun D σ H=>c σ H fun b H1=>if b=true then t D σ H1 else u D σ H1
theorem rn{c:Expr}{a b:List Stmt}{tc:TT}(hc:PT X c tc)(ha:nt X a t)(hb:nt X b u):PS X (.If c a b pos) (tIfS tc t u):=by
 intro pins s σ H D I h;refine wpAny_If (aq (hc pins s σ H _ I h) fun d s1 hpq=> ?_);obtain⟨H1,I1,q1⟩:=hpq;cases d with
 | true=>exact ha pins s1 σ H1 D I1 q1
 | false=>exact hb pins s1 σ H1 D I1 q1
end
noncomputable abbrev TG:=V->St->Hp->(St->Hp->Prop)->Prop
noncomputable abbrev zp:=List V->St->Hp->(St->Hp->Prop)->Prop
noncomputable def PG(X:Cx)(target:Expr)(t:TG):Prop :=
 ∀(pins:List (Addr×Obj))(s:Shared)(σ:St)(H:Hp)(v:V)(u:Value)(Q:St->Hp->Prop),Inv X pins σ H s->RelV v u->t v σ H Q ->
  wpAny (model X.prog X.w) X.A (assign target X.env u) (fun _ s' =>∃σ' H',Inv X pins σ' H' s' /\Q σ' H') X.xe s
noncomputable def B9(X:Cx)(ts:List Expr)(t:zp):Prop :=
 ∀(pins:List (Addr×Obj))(s:Shared)(σ:St)(H:Hp)(vs:List V)(us:List Value)(Q:St->Hp->Prop),Inv X pins σ H s->aK vs us->t vs σ H Q ->
  wpAny (model X.prog X.w) X.A (assignInOrder ((assignEach ts X.env).map (·.2)) us) (fun _ s' =>∃σ' H',Inv X pins σ' H' s' /\Q σ' H') X.xe s
noncomputable abbrev zo:=V->V->V->Hp->(Hp->Prop)->Prop
noncomputable def B8(X:Cx)(t:zo):Prop :=
 ∀(pins:List (Addr×Obj))(s:Shared)(σ:St)(H:Hp)(o i v:V)(ov iv u:Value)(Q:Hp->Prop),Inv X pins σ H s->RelV o ov->RelV i iv->RelV v u->t o i v H Q ->
  wpAny (model X.prog X.w) X.A (setItem ov iv u) (fun _ s' =>∃H',Inv X pins σ H' s' /\Q H') X.xe s
section
variable{X:Cx}{pos:Pos}
noncomputable def lK(i:Nat):TG:=fun v σ H Q=>Q (σ.set i (some v)) H
theorem dk{i:Nat}{x:Str}(hN:X.N.Nodup)(hi:X.N[i]? =some x)(hx:Loc X.env.scope x)(hf:X.fn x=true\/X.env.scope.names.lookup x=some .local:=by first|exact .inl rfl|exact .inr rfl|assumption):PG X (.Name x pos) (lK i):=by
 intro pins s σ H v u Q I r h;exact wpAny_assign_Name (kT I hN hi hx r (fun s' I' =>⟨_,H,I',h⟩) hf)
noncomputable def gNil:zp:=fun vs σ H Q=>vs=[]/\Q σ H
noncomputable def Bc(t:TG)(u:zp):zp:=fun vs σ H Q=>∃v r,vs=v::r/\t v σ H fun σ' H' =>u r σ' H' Q
theorem vQ:B9 X [] gNil:=by
 intro pins s σ H vs us Q I r h;obtain⟨e,h⟩:=h;subst e;cases r;exact assignInOrder_nil ⟨σ,H,I,h⟩
theorem sL{e:Expr}{es:List Expr}{t:TG}{u:zp}(h1:PG X e t)(h2:B9 X es u)
  (hs:(assignEach (e::es) X.env).map (·.2)=assign e X.env::(assignEach es X.env).map (·.2):=by rfl):B9 X (e::es) (Bc t u):=by
 intro pins s σ H vs us Q I r h;obtain⟨v,vr,e1,h⟩:=h;subst e1;cases r with
 | cons r rr =>
  rw[hs];refine assignInOrder_cons (aq (h1 pins s σ H _ _ _ I r h) fun _ s1 hpq=> ?_);obtain⟨σ1,H1,I1,q1⟩:=hpq;exact h2 pins s1 σ1 H1 _ _ Q I1 rr q1
noncomputable def gTup(K:W.Frag)(n:Nat)(t:zp):TG:=fun v σ H Q=>∃a xs,v=.ref a/\bQ K H a xs/\xs.length=n/\t xs σ H Q
theorem yE{es:List Expr}{k:Nat}{t:zp}{n:Nat}(hc:X.calm=true)(h:B9 X es t)
  (hn:(assignEach es X.env).length=n:=by rfl) (hst:(assignEach es X.env).findIdx? (·.1)=none:=by rfl):PG X (.Tuple es k pos) (gTup X.K n t):=by
 intro pins s σ H v u Q I r hw;obtain⟨a,xs,e1,hq,hl,hw⟩:=hw;subst e1;cases r;obtain⟨its,rv,ht,hz⟩:=I.tuple hq;refine assign_Tuple_tuple (I.ok.hd hc) ht (by simp[hn,<-hl,rv.length]) hst fun h' hx=> ?_;have I1:Inv X pins σ H {s with heap:=h'}:=I.kept (t' :=s.toks) fun b o e=>hx b o (Cr (CU e)) e;exact h pins _ σ H xs _ Q I1 (by simpa using rv) hw
noncomputable def gSub(to ti:TE)(t:zo):TG:=fun v σ H Q=>to σ H fun o H1=>ti σ H1 fun i H2=>t o i v H2 fun H3=>Q σ H3
theorem yF{o i:Expr}{to ti:TE}{t:zo}(ho:PE X o to)(hi:PE X i ti)(hs:B8 X t)
  (ha:∀v,assign (.Subscript o i pos) X.env v=(do
   let ov<-holding [v] (eval o X.env)
   let iv<-holding [v,ov] (eval i X.env)
   standAt pos
   holding [v,ov,iv] (setItem ov iv v)
   release [v,ov,iv] []):=by intro _;rfl):PG X (.Subscript o i pos) (gSub to ti t):=by
 intro pins s σ H v u Q I r h;rw[ha];refine CJ (EJ (aq (ho pins s σ H _ I h) fun ov s1 hpq=> ?_));obtain⟨x,H1,I1,r1,q1⟩:=hpq;refine CJ (EJ (aq (hi pins s1 σ H1 _ I1 q1) fun iv s2 hpq=> ?_));obtain⟨y,H2,I2,r2,q2⟩:=hpq;refine CJ (wpAny_standAt (CJ (EJ (aq (hs pins s2 σ H2 x y v ov iv u _ I2 r1 r2 r q2) fun _ s3 hpq=> ?_))));obtain⟨H3,I3,q3⟩:=hpq;exact wpAny_release ⟨σ,H3,I3,q3⟩
noncomputable def xV(te:TE)(g:TG):TS:=fun D σ H=>te σ H fun x H1=>g x σ H1 D.nx
theorem yA{tg e:Expr}{te:TE}{g:TG}(he:PE X e te)(hg:PG X tg g)(hs:swapsWithSole [tg] e pos.line X.env=pure false:=by rfl)(hw:swappedStores [tg] e X.env=pure none:=by rfl)
  (h1:(assignEach [tg] X.env).map (·.2)=[assign tg X.env]:=by rfl):PS X (.Assign [tg] e pos) (xV te g):=by
 intro pins s σ H D I h;refine wpAny_Assign_stores (aq (he pins s σ H _ I h) fun v s1 ⟨x,H1,I1,r1,q1⟩=> ?_) hs hw;rw[h1];exact aq (hg pins s1 σ H1 x v _ I1 r1 q1) fun _ s2 q=>q
theorem fU{i:Nat}{x:Str}{e:Expr}{te:TE}{pos' :Pos}(hN:X.N.Nodup)(hi:X.N[i]? =some x)(hx:Loc X.env.scope x)(he:PE X e te)(hs:swapsWith e (some (.Name x pos')) pos.line X.env=pure false:=by rfl)(hf:X.fn x=true\/X.env.scope.names.lookup x=some .local:=by first|exact .inl rfl|exact .inr rfl|assumption) :
  PS X (.Assign [.Name x pos'] e pos) (xV te (lK i)):=by
 intro pins s σ H D I h;refine wpAny_Assign_Name (aq (he pins s σ H _ I h) fun v s1 ⟨y,H1,I1,r1,q1⟩=> ?_) hs;exact kT I1 hN hi hx r1 (fun s2 I2=>⟨_,H1,I2,q1⟩) hf
noncomputable def xS(c:TT)(tb:TS):TS:=fun D σ H=>∃W:Nat->St->Hp->Prop,(∃m,W m σ H)/\∀m σ H,W m σ H ->
 c σ H fun b H1=>if b=true then∃N:St->Hp->Prop,(∀σ' H',N σ' H' ->∃m',m' <m/\W m' σ' H')/\tb {D with nx:=N,ct:=N,bk:=D.nx} σ H1 else D.nx σ H1
theorem rm{c:Expr}{body:List Stmt}{tc:TT}{tb:TS}(hp:PassesOwn (model X.prog X.w) X.A X.env X.xe)(hc:PT X c tc)(hb:nt X body tb):PS X (.While c body [] pos) (xS tc tb):=by
 intro pins s σ H D I h;obtain⟨W,⟨m0,w0⟩,turn⟩:=h;refine wpAny_While (codeAny_whileLoop (fun n s' =>∃σ' H',Inv X pins σ' H' s' /\W n σ' H') ?_ m0 ⟨σ,H,I,w0⟩);rintro n s1 ⟨σ1,H1,I1,w1⟩;refine EW hp (aq (hc pins s1 σ1 H1 _ I1 (turn n σ1 H1 w1)) fun b s2 hpq=> ?_);obtain⟨H2,I2,q2⟩:=hpq;cases b with
 | true =>
  obtain⟨N,hN,q2⟩:=q2;rw[CQ rfl];refine EW hp (aq (hb pins s2 σ1 H2 _ I2 q2) fun f s3 q3=> ?_);cases f with
  | next =>
   obtain⟨σ3,H3,I3,n3⟩:=q3;obtain⟨m',hm,w3⟩:=hN σ3 H3 n3;exact⟨m',hm,σ3,H3,I3,w3⟩
  | cont =>
   obtain⟨σ3,H3,I3,n3⟩:=q3;obtain⟨m',hm,w3⟩:=hN σ3 H3 n3;exact⟨m',hm,σ3,H3,I3,w3⟩
  | brk=>exact q3
  | ret v=>exact q3
 | false =>
  rw[CM CT];exact wpAny_execs_nil ⟨σ1,H2,I2,q2⟩
end
structure It where
 go:Nat->Hp->Prop
 yld:Nat->Hp->V->Hp->Prop
 stop:Nat->Hp->Prop
noncomputable def fw(X:Cx)(pins:List (Addr×Obj))(H:Hp)(b:Addr):Prop :=
 H b=none/\b≠X.env.locals/\b∉X.fs/\(b∈X.ex\/X.s₀.heap.objs.size<=b)/\(∀x c,X.env.cells.lookup x=some c->c≠b)/\∀p∈X.pn++pins,p.1≠b
theorem Inv.fpOk{X:Cx}{pins:List (Addr×Obj)}{σ:St}{H H' :Hp}{s:Shared}{b:Addr}(I:Inv X pins σ H s)(hb:s.heap.objs.size<=b)(hn:H' b=none):fw X pins H' b:=by
 refine⟨hn,FA (C0 I.lt hb),I.nofs hb,.inr (DF I.sz hb),fun x c e z=> ?_,fun p hp z=> ?_⟩
 ·obtain⟨v,q⟩:=I.cell x c e
  exact absurd (C0 q.lt (by rw[z];exact hb)) (D7 _)
 ·exact absurd (C0 (CU (I.pin p hp).1) (by rw[z];exact hb)) (D7 _)
structure nj(P:Program)(w:World)(K:W.Frag)(tg:Expr)(J:It)(fp:List Addr)(it:Addr)(tn:Nat->Heap->Prop):Prop where
 mem:it∈fp
 obj:∀i h,tn i h->∀b∈fp,∃o,h.get? b=some o/\∀v,o.data≠.cell v
 keep:∀i h h',tn i h->(∀b∈fp,∀o,h.get? b=some o->h'.get? b=some o)->tn i h'
 item:∀(X:Cx),X.prog=P->X.w=w->X.K=K->X.calm=true->∀(i:Nat)(pins:List (Addr×Obj))(s:Shared)(σ:St)(H:Hp)(E:Value->Shared->Prop),Inv X pins σ H s->(∀b∈fp,fw X pins H b)->tn i s.heap->J.go i H ->
  wpAny (model P w) X.A (pyNext (.ref it)) (fun r s1=>∃u,r=some u /\
   wpAny (model P w) X.A (letOwnedTupleGo tg (.ref it) u) (fun _ s2=>∃x H',Inv X pins σ H' s2/\RelV x u/\J.yld i H x H' /\tn (i+1) s2.heap/\∀b∈fp,H' b=none) E s1) E s
 done:∀(X:Cx),X.prog=P->X.w=w->X.K=K->X.calm=true->∀(i:Nat)(pins:List (Addr×Obj))(s:Shared)(σ:St)(H:Hp)(E:Value->Shared->Prop),Inv X pins σ H s->(∀b∈fp,fw X pins H b)->tn i s.heap->J.stop i H ->
  wpAny (model P w) X.A (pyNext (.ref it)) (fun r s1=>r=none/\Inv X pins σ H s1) E s
 self:∀(A:Around)(i:Nat)(s:Shared)(Q:Value->Shared->Prop)(E:Value->Shared->Prop),tn i s.heap->Q (.ref it) s->wpAny (model P w) A (pyIter (.ref it)) Q E s
noncomputable abbrev TI:=St->Hp->(It->Hp->Prop)->Prop
noncomputable def PIE(X:Cx)(pins:List (Addr×Obj))(σ:St)(tg:Expr)(R:It->Hp->Prop)(itv:Value)(s2:Shared):Prop :=
 ∃(it:Addr)(fp:List Addr)(tn:Nat->Heap->Prop)(J:It)(H' :Hp),itv=.ref it/\Inv X pins σ H' s2/\nj X.prog X.w X.K tg J fp it tn/\tn 0 s2.heap/\(∀b∈fp,fw X pins H' b)/\R J H'
noncomputable def PI(X:Cx)(tg iter:Expr)(wi:TI):Prop :=
 ∀(pins:List (Addr×Obj))(s:Shared)(σ:St)(H:Hp)(R:It->Hp->Prop),Inv X pins σ H s->wi σ H R ->
  wpAny (model X.prog X.w) X.A (eval iter X.env) (fun v s1=>wpAny (model X.prog X.w) X.A (pyIter v) (PIE X pins σ tg R) X.xe s1) X.xe s
theorem oW{M:Model}{A:Around}{E:Value->Shared->Prop}{s:Shared}{tg:Expr}{it:Addr}{u:Value}{o:Obj}{n:String}{vs:Array Value}{Q:Unit->Shared->Prop}(ho:s.heap.get? it=some o)(hc:o.cls=.type n)(hd:o.data=.fields vs)
    (hn:["enumerate","zip","dict_itemiterator","dict_reverseitemiterator","odict_iterator","itertools.zip_longest","itertools.pairwise"].contains n=false) (hQ:Q () s):wpAny M A (letOwnedTupleGo tg (.ref it) u) Q E s:=by
  unfold letOwnedTupleGo
  cases tg<;>first
    | exact Ce hQ
    | (cases u<;>first
        | exact Ce hQ
        | (refine CJ (wpAny_load ho ?_)
           rw[hc,hd];show wpAny M A (if(["enumerate","zip","dict_itemiterator","dict_reverseitemiterator","odict_iterator","itertools.zip_longest","itertools.pairwise"].contains n&&vs[0]? ==some (rawInt _))=true then _ else _) Q E s;rw[CM (by intro h;rw[hn,FH]at h;cases h)];exact Ce hQ))
noncomputable def AD(K:W.Frag)(a:Addr):It :=
 ⟨fun i H=>∃xs x,ao K H a xs/\xs[i]? =some x,fun i H x H' =>H' =H/\∀xs,ao K H a xs->xs[i]? =some x,fun i H=>∃xs,ao K H a xs/\xs.length<=i⟩
noncomputable def Itt(K:W.Frag)(a:Addr):It :=
 ⟨fun i H=>∃xs x,bQ K H a xs/\xs[i]? =some x,fun i H x H' =>H' =H/\∀xs,bQ K H a xs->xs[i]? =some x,fun i H=>∃xs,bQ K H a xs/\xs.length<=i⟩
noncomputable def CC(lo:Int)(n:Nat):It:=⟨fun i _=>i<n,fun i H x H' =>H' =H/\x=.int (lo+i),fun i _=>n<=i⟩
theorem pE{P:Program}{w:World}{K:W.Frag}{tg:Expr}(a it:Addr):nj P w K tg (AD K a) [it] it (fun i h=>h.IsListIter it a i) where
 mem:=by simp
 obj:=fun i h st b hb=>by
  have e:b=it:=by simpa using hb
  subst e;obtain⟨o,e,c,d⟩:=st;exact⟨o,e,fun v z=>by rw[d]at z;cases z⟩
 keep:=fun i h h' st k=>st.at fun o e=>k it (by simp) o e
 item:=by
  intro X hP hw hK hc i pins s σ H E I hf st hg;subst hP hw hK;obtain⟨xs,x,hq,hx⟩:=hg;obtain⟨its,rv,p,hz⟩:=I.list hq;obtain⟨u,hu,ru⟩:=rv.get hx;obtain⟨f0,f1,f2,f3,f4,f5⟩:=hf it (by simp);refine wpAny_pyNext_list_item st p.isList (x:=u) (by simpa using hu) fun h' st' sb=> ?_;have I1:Inv X pins σ H {s with heap:=h'}:=I.turned (t' :=s.toks) (fun b o hb e=>(sb.2 b hb).trans e) f0 f1 f3 f4 f5;obtain⟨o,e,c,d⟩:=id st';exact⟨u,rfl,oW (s:={s with heap:=h'}) e c d (by decide) ⟨x,H,I1,ru,⟨rfl,fun ys hy=>by rw[I.list_inj hy hq];exact hx⟩,st',fun b hb=>(hf b hb).1⟩⟩
 done:=by
  intro X hP hw hK hc i pins s σ H E I hf st hg;subst hP hw hK;obtain⟨xs,hq,hx⟩:=hg;obtain⟨its,rv,p,hz⟩:=I.list hq;obtain⟨f0,f1,f2,f3,f4,f5⟩:=hf it (by simp);have hl:=rv.length;exact wpAny_pyNext_list_end (I.ok.hd hc) st p.isList (by simp;omega) fun h' eb=>⟨rfl,I.turned (t' :=s.toks) (fun b o hb e=>eb b o hb e) f0 f1 f3 f4 f5⟩
 self:=fun _ _ _ _ _ st h=>wpAny_pyIter_listiter st h
theorem mG{P:Program}{w:World}{K:W.Frag}{tg:Expr}(a it:Addr):nj P w K tg (Itt K a) [it] it (fun i h=>h.IsTupleIter it a i) where
 mem:=by simp
 obj:=fun i h st b hb=>by
  have e:b=it:=by simpa using hb
  subst e;obtain⟨o,e,c,d⟩:=st;exact⟨o,e,fun v z=>by rw[d]at z;cases z⟩
 keep:=fun i h h' st k=>st.at fun o e=>k it (by simp) o e
 item:=by
  intro X hP hw hK hc i pins s σ H E I hf st hg;subst hP hw hK;obtain⟨xs,x,hq,hx⟩:=hg;obtain⟨its,rv,p,hz⟩:=I.tuple hq;obtain⟨u,hu,ru⟩:=rv.get hx;obtain⟨f0,f1,f2,f3,f4,f5⟩:=hf it (by simp);refine wpAny_pyNext_tuple_item st (show s.heap.IsTuple a its.toArray from p) (x:=u) (by simpa using hu) fun h' st' sb=> ?_;have I1:Inv X pins σ H {s with heap:=h'}:=I.turned (t' :=s.toks) (fun b o hb e=>(sb.2 b hb).trans e) f0 f1 f3 f4 f5;obtain⟨o,e,c,d⟩:=id st';exact⟨u,rfl,oW (s:={s with heap:=h'}) e c d (by decide) ⟨x,H,I1,ru,⟨rfl,fun ys hy=>by rw[I.tuple_inj hy hq];exact hx⟩,st',fun b hb=>(hf b hb).1⟩⟩
 done:=by
  intro X hP hw hK hc i pins s σ H E I hf st hg;subst hP hw hK;obtain⟨xs,hq,hx⟩:=hg;obtain⟨its,rv,p,hz⟩:=I.tuple hq;obtain⟨f0,f1,f2,f3,f4,f5⟩:=hf it (by simp);have hl:=rv.length;exact wpAny_pyNext_tuple_end (I.ok.hd hc) st (show s.heap.IsTuple a its.toArray from p) (by simp;omega) fun h' eb=>⟨rfl,I.turned (t' :=s.toks) (fun b o hb e=>eb b o hb e) f0 f1 f3 f4 f5⟩
 self:=fun _ _ _ _ _ st h=>wpAny_pyIter_tupleiter st h
theorem mH{P:Program}{w:World}{K:PySem.W.Frag}{tg:Expr}(it:Addr)(lo:Int)(n:Nat):nj P w K tg (CC lo n) [it] it (fun i h=>IsRangeIter h it (lo+(i:Nat)*1) ((n:Int)-(i:Nat)) 1) where
 mem:=by simp
 obj:=fun i h st b hb=>by
  have e:b=it:=by simpa using hb
  subst e;exact⟨_,st,fun v z=>by
   have z' :Data.fields _=Data.cell v:=z;cases z'⟩
 keep:=fun i h h' st k=>k it (by simp) _ st
 item:=by
  intro X hP hw hK hc i pins s σ H E I hf st hg;subst hP hw hK;obtain⟨f0,f1,f2,f3,f4,f5⟩:=hf it (by simp);have W:=Walks.range (prog:=X.prog) (w:=X.w) (I.ok.hd hc) it lo 1 n;refine W.item i s _ _ hg st fun v h' tk hv st' kk=> ?_;obtain⟨t,rfl⟩:=hv;have I1:Inv X pins σ H {s with heap:=h',toks:=tk}:=I.turned (fun b o hb e=>kk b o (by simpa using hb) e) f0 f1 f3 f4 f5;refine⟨_,rfl,oW (s:={s with heap:=h',toks:=tk}) (n:="range_iterator") st' rfl rfl (by decide) ⟨.int (lo+i),H,I1,⟨t,?_⟩,⟨rfl,rfl⟩,st',fun b hb=>(hf b hb).1⟩⟩;rw[Int.mul_one]
 done:=by
  intro X hP hw hK hc i pins s σ H E I hf st hg;subst hP hw hK;obtain⟨f0,f1,f2,f3,f4,f5⟩:=hf it (by simp);exact wpAny_pyNext_range_end (I.ok.hd hc) st (by have:n<=i:=hg;omega) fun h' eb=>⟨rfl,I.turned (t' :=s.toks) (fun b o hb e=>eb b o hb e) f0 f1 f3 f4 f5⟩
 self:=fun _ _ _ _ _ st h=>wpAny_pyIter_rangeiter st h
section
variable{X:Cx}{tg:Expr}
noncomputable def BU(K:W.Frag)(tl:TE):TI:=fun σ H R=>tl σ H fun x H1=>∃a,x=.ref a/\(∃xs,ao K H1 a xs)/\R (AD K a) H1
noncomputable def iTup(K:W.Frag)(tl:TE):TI:=fun σ H R=>tl σ H fun x H1=>∃a,x=.ref a/\(∃xs,bQ K H1 a xs)/\R (Itt K a) H1
theorem gk{l:Expr}{tl:TE}(hl:PE X l tl):PI X tg l (BU X.K tl):=by
 intro pins s σ H R I h;refine aq (hl pins s σ H _ I h) fun v s1 hpq=> ?_;obtain⟨x,H1,I1,r1,q1⟩:=hpq;obtain⟨a,e,⟨xs,hq⟩,q⟩:=q1;subst e;cases r1;obtain⟨its,rv,p,hz⟩:=I1.list hq;refine FZ p.isList ?_;refine⟨s1.heap.objs.size,[s1.heap.objs.size],_,_,H1,rfl,I1.kept (t' :=s1.toks) fun b o e=>CL _ e,pE a _,⟨_,Co _ rfl,rfl,rfl⟩,fun b hb=> ?_,q⟩;have e:b=s1.heap.objs.size:=by simpa using hb
 subst e;exact I1.fpOk (CO _) (I1.hok.fresh (CO _))
theorem sF{l:Expr}{tl:TE}(hl:PE X l tl):PI X tg l (iTup X.K tl):=by
 intro pins s σ H R I h;refine aq (hl pins s σ H _ I h) fun v s1 hpq=> ?_;obtain⟨x,H1,I1,r1,q1⟩:=hpq;obtain⟨a,e,⟨xs,hq⟩,q⟩:=q1;subst e;cases r1;obtain⟨its,rv,p,hz⟩:=I1.tuple hq;refine FX (show s1.heap.IsTuple a its.toArray from p) ?_;refine⟨s1.heap.objs.size,[s1.heap.objs.size],_,_,H1,rfl,I1.kept (t' :=s1.toks) fun b o e=>CL _ e,mG a _,⟨_,Co _ rfl,rfl,rfl⟩,fun b hb=> ?_,q⟩;have e:b=s1.heap.objs.size:=by simpa using hb
 subst e;exact I1.fpOk (CO _) (I1.hok.fresh (CO _))
theorem ke{pins:List (Addr×Obj)}{σ:St}{H:Hp}{s:Shared}{R:It->Hp->Prop}{E:Value->Shared->Prop}{lo hi:Int}{t u v:Tok}{tk:Nat}(I:Inv X pins σ H s)(h1: -(2^62)<=lo)(h2:lo<2^62)(h3: -(2^62)<=hi)(h4:hi<2^62)
  (q:R (CC lo (hi-lo).toNat) H):wpAny (model X.prog X.w) X.A (pyIter (.ref s.heap.objs.size)) (PIE X pins σ tg R) E {s with heap:=s.heap.push {cls:=.type "range",data:=.fields #[.int lo t,.int hi u,.int 1 v]},toks:=tk}:=by
 refine wpAny_pyIter_range (IsRange.new ..) (small_one h1 h2 h3 h4) ?_;have I1:Inv X pins σ H {s with heap:=s.heap.push {cls:=.type "range",data:=.fields #[.int lo t,.int hi u,.int 1 v]},toks:=tk}:=I.kept fun b o e=>CL _ e
 refine⟨(s.heap.push {cls:=.type "range",data:=.fields #[.int lo t,.int hi u,.int 1 v]}).objs.size,[(s.heap.push {cls:=.type "range",data:=.fields #[.int lo t,.int hi u,.int 1 v]}).objs.size],_,_,H,rfl,
  I1.kept (t' :=tk) fun b o e=>CL _ e,mH _ lo (hi-lo).toNat,?_,fun b hb=> ?_,q⟩
 ·have e1:lo+((0:Nat):Int)*1=lo:=by simp
  have e2:(((hi-lo).toNat:Nat):Int)-((0:Nat):Int)=Builtin.Range.rangeSize lo hi 1:=by rw[rangeSize_one];split<;>omega
  show IsRangeIter _ _ (lo+((0:Nat):Int)*1) ((((hi-lo).toNat:Nat):Int)-((0:Nat):Int)) 1;rw[e1,e2];exact Co _ rfl
 ·have e:b=(s.heap.push {cls:=.type "range",data:=.fields #[.int lo t,.int hi u,.int 1 v]}).objs.size:=by simpa using hb
  subst e;exact I1.fpOk (CO _) (I1.hok.fresh (CO _))
noncomputable def BS(ta:TA):TI:=fun σ H R=>ta σ H fun vs H1=>∃j:Int,vs=[.int j]/\ -(2^62)<=j/\j<2^62/\R (CC 0 j.toNat) H1
noncomputable def BR(ta:TA):TI:=fun σ H R=>ta σ H fun vs H1=>∃i j:Int,vs=[.int i,.int j]/\(-(2^62)<=i/\i<2^62/\ -(2^62)<=j/\j<2^62)/\R (CC i (j-i).toNat) H1
theorem pU{a:Expr}{ta:TA}{p pos:Pos}(hg:Gl X "range")(hm:X.mg "range"=none)(ha:PA X [a] ta)(hs:starEach [a] X.env=[(false,eval a X.env)]:=by rfl):PI X tg (.Call (.Name "range" p) [a] [] pos) (BS ta):=by
 intro pins s σ H R I h;refine Call_ (cV I hg hm boot_range (DJ (aq (ha pos pins s σ H _ I h) fun us s1 ⟨vs,H1,I1,r1,q1⟩=> ?_) hs rfl));obtain⟨j,e,q1,q2,q⟩:=q1;subst e;cases r1 with
 | cons r rr =>
  cases rr;obtain⟨t,rfl⟩:=r;exact call_range_1 (ke I1 (by omega) (by omega) q1 q2 (by simpa using q))
theorem pT{a b:Expr}{ta:TA}{p pos:Pos}(hg:Gl X "range")(hm:X.mg "range"=none)(ha:PA X [a,b] ta)(hs:starEach [a,b] X.env=[(false,eval a X.env),(false,eval b X.env)]:=by rfl)(hs2:starEach [b] X.env=[(false,eval b X.env)]:=by rfl) :
  PI X tg (.Call (.Name "range" p) [a,b] [] pos) (BR ta):=by
 intro pins s σ H R I h;refine Call_ (cV I hg hm boot_range (DJ (aq (ha pos pins s σ H _ I h) fun us s1 ⟨vs,H1,I1,r1,q1⟩=> ?_) (by rw[hs,hs2]) (by rw[hs2];rfl)));obtain⟨i,j,e,⟨q1,q2,q3,q4⟩,q⟩:=q1;subst e;cases r1 with
 | cons r rr =>
  cases rr with
  | cons r' rr =>
   cases rr;obtain⟨t,rfl⟩:=r;obtain⟨t',rfl⟩:=r';exact call_range_2 (ke I1 q1 q2 q3 q4 q)
noncomputable def tFor(wi:TI)(g:TG)(tb:TS):TS:=fun D σ H=>wi σ H fun J H1=>∃W:Nat->Nat->St->Hp->Prop,(∃m,W 0 m σ H1)/\∀i m σ H,W i m σ H ->
 (J.stop i H/\D.nx σ H)\/(J.go i H/\∃N:St->Hp->Prop,(∀σ' H',N σ' H' ->∃m',m' <m/\W (i+1) m' σ' H')/\∀x H',J.yld i H x H' ->g x σ H' fun σ2 H2=>tb {D with nx:=N,ct:=N,bk:=D.nx} σ2 H2)
noncomputable def iB(fp:List Addr)(h:Heap):List (Addr×Obj):=fp.filterMap fun b=>(h.get? b).map fun o=>(b,o)
theorem cw{fp:List Addr}{h:Heap}{b:Addr}{o:Obj}(hb:b∈fp)(e:h.get? b=some o):(b,o)∈iB fp h:=List.mem_filterMap.mpr ⟨b,hb,by rw[e];rfl⟩
theorem pW{fp:List Addr}{h:Heap}{p:Addr×Obj}(hp:p∈iB fp h):p.1∈fp/\h.get? p.1=some p.2:=by
 obtain⟨b,hb,e⟩:=List.mem_filterMap.mp hp;cases q:h.get? b with
 | none=>rw[q]at e;cases e
 | some o =>
  rw[q]at e;have e' :(b,o)=p:=Cq e;subst e';exact⟨hb,q⟩
theorem Inv.pinned{pins:List (Addr×Obj)}{σ:St}{H:Hp}{s:Shared}{fp:List Addr}(I:Inv X pins σ H s)(hf:∀b∈fp,fw X pins H b)(ho:∀b∈fp,∃o,s.heap.get? b=some o/\∀v,o.data≠.cell v):Inv X (pins++iB fp s.heap) σ H s :=
 I.pins_of fun p hp=>(DB.mp hp).elim (fun z=>I.pin p (C1 _ z)) fun z=>by
  obtain⟨hb,e⟩:=pW z;obtain⟨f0,f1,f2,_⟩:=hf p.1 hb;obtain⟨o,e',d⟩:=ho p.1 hb;rw[e]at e';cases e';exact⟨e,f0,f1,f2,d⟩
theorem Inv.unpinned{pins pl:List (Addr×Obj)}{σ:St}{H:Hp}{s:Shared}(I:Inv X (pins++pl) σ H s):Inv X pins σ H s:=I.pins_of fun p hp=>I.pin p (C1 _ (D5 _ hp))
theorem mY{iter:Expr}{body:List Stmt}{wi:TI}{g:TG}{tb:TS}{pos:Pos}(hp:PassesOwn (model X.prog X.w) X.A X.env X.xe)(hc:X.calm=true)(hi:PI X tg iter wi)(hg:PG X tg g)(hb:nt X body tb)
  (hs:∀x,foldedSetIterable iter X.env x=pure x:=by intro _;rfl):PS X (.For tg iter body [] pos) (tFor wi g tb):=by
 intro pins s σ H D I h;refine wpAny_For (aq (hi pins s σ H _ I h) fun v s1 h1=>aq h1 fun itv s2 h2=> ?_) hs;obtain⟨it,fp,tn,J,H2,e,I2,T,st2,f2,W,⟨m0,w0⟩,turn⟩:=h2;subst e;have stat:∀{H' :Hp},(∀b∈fp,H' b=none)->∀b∈fp,fw X pins H' b:=fun hn b hb=>⟨hn b hb,(f2 b hb).2⟩;refine codeAny_forLoop_any (fun n s' =>∃i σ' H',Inv X pins σ' H' s' /\tn i s'.heap/\(∀b∈fp,H' b=none)/\W i n σ' H') ?_ m0 ⟨0,σ,H2,I2,st2,fun b hb=>(f2 b hb).1,w0⟩;rintro n s3 ⟨i,σ3,H3,I3,st3,fr3,w3⟩
 rcases turn i n σ3 H3 w3 with⟨stop,qn⟩|⟨go,N,hN,step⟩
 ·refine EW hp (aq (T.done X rfl rfl rfl hc i pins s3 σ3 H3 X.xe I3 (stat fr3) st3 stop) fun r s4 hpq=> ?_)
  obtain⟨hr,I4⟩:=hpq;subst hr;exact wpAny_execs_nil ⟨σ3,H3,I4,qn⟩
 ·refine EW hp (aq (T.item X rfl rfl rfl hc i pins s3 σ3 H3 X.xe I3 (stat fr3) st3 go) fun r s4 hpq=> ?_)
  obtain⟨u,hr,h4⟩:=hpq;subst hr;refine EW hp (aq h4 fun _ s5 hpq=> ?_);obtain⟨x,H5,I5,r5,y5,st5,fr5⟩:=hpq;have I5' :=I5.pinned (stat fr5) (T.obj _ _ st5);refine EW hp (aq (hg _ s5 σ3 H5 x u _ I5' r5 (step x H5 y5)) fun _ s6 hpq=> ?_);obtain⟨σ6,H6,I6,q6⟩:=hpq;refine EW hp (aq (hb _ s6 σ6 H6 _ I6 q6) fun f s7 q7=> ?_);have again:∀{σ7:St}{H7:Hp},Inv X (pins++iB fp s5.heap) σ7 H7 s7->N σ7 H7->∃m,m<n/\∃i σ' H',Inv X pins σ' H' s7/\tn i s7.heap/\(∀b∈fp,H' b=none)/\W i m σ' H' :=fun{σ7 H7} I7 n7=>by
   obtain⟨m',hm,w7⟩:=hN σ7 H7 n7;refine⟨m',hm,i+1,σ7,H7,I7.unpinned,T.keep _ _ _ st5 fun b hb o e=>(I7.pin (b,o) (C1 _ (C1 _ (cw hb e)))).1,fun b hb=> ?_,w7⟩;obtain⟨o,e,d⟩:=T.obj _ _ st5 b hb;exact(I7.pin (b,o) (C1 _ (C1 _ (cw hb e)))).2.1
  cases f with
  | next=>obtain⟨σ7,H7,I7,n7⟩:=q7;exact again I7 n7
  | cont=>obtain⟨σ7,H7,I7,n7⟩:=q7;exact again I7 n7
  | brk=>obtain⟨σ7,H7,I7,q7⟩:=q7;exact⟨σ7,H7,I7.unpinned,q7⟩
  | ret v=>obtain⟨x7,σ7,H7,I7,r7,q7⟩:=q7;exact⟨x7,σ7,H7,I7.unpinned,r7,q7⟩
end
theorem tQ{K:PySem.W.Frag}{a:Addr}{xs:List V}{g:TG}{tb:TS}{D:dh}{σ:St}{H:Hp}(Pv:Nat->St->Hp->Prop)(h0:Pv 0 σ H)(hl:∀i σ H,i<=xs.length->Pv i σ H->ao K H a xs)
  (hs:∀i x σ H,xs[i]? =some x->Pv i σ H->g x σ H fun σ2 H2=>tb {D with nx:=Pv (i+1),ct:=Pv (i+1),bk:=D.nx} σ2 H2) (hd:∀σ H,Pv xs.length σ H->D.nx σ H) :
  ∃W:Nat->Nat->St->Hp->Prop,(∃m,W 0 m σ H)/\∀i m σ H,W i m σ H ->
   ((AD K a).stop i H/\D.nx σ H)\/((AD K a).go i H/\∃N:St->Hp->Prop,(∀σ' H',N σ' H' ->∃m',m' <m/\W (i+1) m' σ' H')/\∀x H',(AD K a).yld i H x H' ->g x σ H' fun σ2 H2=>tb {D with nx:=N,ct:=N,bk:=D.nx} σ2 H2):=by
 refine⟨fun i m σ H=>m=xs.length-i/\i<=xs.length/\Pv i σ H,⟨xs.length,by simp,DG _,h0⟩,?_⟩;rintro i m σ H ⟨rfl,hi,p⟩;have q:=hl i σ H hi p
 by_cases hlt:i<xs.length
 ·refine .inr ⟨⟨xs,xs[i],q,by simp[hlt]⟩,Pv (i+1),fun σ' H' p' =>⟨xs.length-(i+1),by omega,rfl,hlt,p'⟩,fun x H' y=> ?_⟩
  obtain⟨e,y⟩:=y;subst e;exact hs i x σ _ (y xs q) p
 ·have e:i=xs.length:=by omega
  subst e;exact .inl ⟨⟨xs,q,CO _⟩,hd σ H p⟩
noncomputable abbrev R2:=V->V->Hp->VK->Prop
noncomputable def dM(X:Cx)(f:Value->Value->Sem Value)(r:R2):Prop :=
 ∀(pins:List (Addr×Obj))(s:Shared)(σ:St)(H:Hp)(x y:V)(v u:Value)(Q:VK),Inv X pins σ H s->RelV x v->RelV y u->r x y H Q ->
  wpAny (model X.prog X.w) X.A (f v u) (EP X pins σ Q) X.xe s
noncomputable def UnR(X:Cx)(f:Value->Sem Value)(r:V->Hp->VK->Prop):Prop :=
 ∀(pins:List (Addr×Obj))(s:Shared)(σ:St)(H:Hp)(x:V)(v:Value)(Q:VK),Inv X pins σ H s->RelV x v->r x H Q ->
  wpAny (model X.prog X.w) X.A (f v) (EP X pins σ Q) X.xe s
noncomputable def bK(X:Cx)(f:Value)(r:List V->Hp->VK->Prop):Prop :=
 ∀(pins:List (Addr×Obj))(s:Shared)(σ:St)(H:Hp)(xs:List V)(us:List Value)(Q:VK),Inv X pins σ H s->aK xs us->r xs H Q ->
  wpAny (model X.prog X.w) X.A (call f us) (EP X pins σ Q) X.xe s
noncomputable def TruR(X:Cx)(r:V->Hp->(Bool->Hp->Prop)->Prop):Prop :=
 ∀(pins:List (Addr×Obj))(s:Shared)(σ:St)(H:Hp)(x:V)(v:Value)(Q:Bool->Hp->Prop),Inv X pins σ H s->RelV x v->r x H Q ->
  wpAny (model X.prog X.w) X.A (truthy v) (TP X pins σ Q) X.xe s
noncomputable def tOp(r:R2)(ta tb:TE):TE:=fun σ H Q=>ta σ H fun x H1=>tb σ H1 fun y H2=>r x y H2 Q
noncomputable def tUn(r:V->Hp->VK->Prop)(ta:TE):TE:=fun σ H Q=>ta σ H fun x H1=>r x H1 Q
noncomputable def rI(C:Int->Int->Prop)(g:Int->Int->V):R2:=fun x y H Q=>∃i j,x=.int i/\y=.int j/\C i j/\Q (g i j) H
noncomputable def vG(g:Int->Int->V):R2:=fun x y H Q=>∃i j,x=.int i/\y=.int j/\Q (g i j) H
noncomputable def rU(g:Int->V):V->Hp->VK->Prop:=fun x H Q=>∃i,x=.int i/\Q (g i) H
section
variable{X:Cx}{a b c:Expr}{ta tb tc:TE}{pos:Pos}
theorem zY(ha:PE X a ta)(hb:PE X b tb){pins:List (Addr×Obj)}{s:Shared}{σ:St}{H:Hp}{R:V->V->Hp->Prop}(I:Inv X pins σ H s)
  (h:ta σ H fun x H1=>tb σ H1 fun y H2=>R x y H2) {Q:Value->Shared->Prop} {f:Value->Value->Sem Value}
  (hf:∀v u s2 x y H2,Inv X pins σ H2 s2->RelV x v->RelV y u->R x y H2->wpAny (model X.prog X.w) X.A (f v u) Q X.xe s2) :
  wpAny (model X.prog X.w) X.A (eval a X.env) (fun v s₁=>wpAny (model X.prog X.w) X.A (eval b X.env) (fun u s₂=>wpAny (model X.prog X.w) X.A (f v u) Q X.xe s₂) X.xe s₁) X.xe s:=by
 refine aq (ha pins s σ H _ I h) fun v s1 hpq=> ?_;obtain⟨x,H1,I1,r1,q1⟩:=hpq;refine aq (hb pins s1 σ H1 _ I1 q1) fun u s2 hpq=> ?_;obtain⟨y,H2,I2,r2,q2⟩:=hpq;exact hf v u s2 x y H2 I2 r1 r2 q2
theorem A6{op:Operator}{r:R2}(ho:dM X (binaryOp op) r)(ha:PE X a ta)(hb:PE X b tb):PE X (.BinOp a op b pos) (tOp r ta tb):=by
 intro pins s σ H Q I h;exact wpAny_BinOp (zY ha hb I h fun v u s2 x y H2 I2 rx ry q=>ho pins s2 σ H2 x y v u Q I2 rx ry q)
theorem A3{op:UnaryOp}{r:V->Hp->VK->Prop}(ho:UnR X (unaryOp op) r)(ha:PE X a ta):PE X (.UnaryOp op a pos) (tUn r ta):=by
 intro pins s σ H Q I h;exact UnaryOp_ (aq (ha pins s σ H _ I h) fun v s1 ⟨x,H1,I1,r1,q1⟩=>ho pins s1 σ H1 x v Q I1 r1 q1)
theorem BE{f:Value->Value->Sem Value}{C:Int->Int->Prop}{g:Int->Int->Int}
  (rule:∀(i j:Int)(t u:Tok)(s:Shared)(Q:Value->Shared->Prop)(E:Value->Shared->Prop),C i j->Q (.int (g i j) s.toks) {s with toks:=s.toks+1}->wpAny (model X.prog X.w) X.A (f (.int i t) (.int j u)) Q E s) :
  dM X f (rI C fun i j=>.int (g i j)):=by
 intro pins s σ H x y v u Q I rx ry h;obtain⟨i,j,rfl,rfl,hc,q⟩:=h;obtain⟨t,rfl⟩:=rx;obtain⟨t',rfl⟩:=ry;exact rule i j t t' s _ _ hc ⟨.int (g i j),H,I.tok _,⟨_,rfl⟩,q⟩
theorem BD{f:Value->Value->Sem Value}{g:Int->Int->Int}
  (rule:∀(i j:Int)(t u:Tok)(s:Shared)(Q:Value->Shared->Prop)(E:Value->Shared->Prop),Q (.int (g i j) s.toks) {s with toks:=s.toks+1}->wpAny (model X.prog X.w) X.A (f (.int i t) (.int j u)) Q E s) :
  dM X f (vG fun i j=>.int (g i j)):=by
 intro pins s σ H x y v u Q I rx ry h;obtain⟨i,j,rfl,rfl,q⟩:=h;obtain⟨t,rfl⟩:=rx;obtain⟨t',rfl⟩:=ry;exact rule i j t t' s _ _ ⟨.int (g i j),H,I.tok _,⟨_,rfl⟩,q⟩
theorem vY{f:Value->Value->Sem Value}{g:Int->Int->Bool}
  (rule:∀(i j:Int)(t u:Tok)(s:Shared)(Q:Value->Shared->Prop)(E:Value->Shared->Prop),Q (.bool (g i j)) s->wpAny (model X.prog X.w) X.A (f (.int i t) (.int j u)) Q E s) :
  dM X f (vG fun i j=>.bl (g i j)):=by
 intro pins s σ H x y v u Q I rx ry h;obtain⟨i,j,rfl,rfl,q⟩:=h;obtain⟨t,rfl⟩:=rx;obtain⟨t',rfl⟩:=ry;exact rule i j t t' s _ _ ⟨.bl (g i j),H,I,rfl,q⟩
noncomputable def CPow(i j:Int):Prop:=0<=j/\j<=1000000/\i.natAbs<2^64
noncomputable def AF(i j:Int):Prop:=(-(2^64)<i/\i<2^64)\/(-(2^64)<j/\j<2^64)
theorem AF.ok{i j:Int}(h:AF i j):IntMulOk i j:=by
 rcases h with⟨h1,h2⟩|⟨h1,h2⟩
 ·exact .of_left (intBits_le_64 h1 h2)
 ·exact .of_right (intBits_le_64 h1 h2)
theorem yT:dM X (binaryOp .Add) (vG fun i j=>.int (i+j)):=BD fun _ _ _ _ _ _ _ q=>add_int q
theorem yK:dM X (binaryOp .Sub) (vG fun i j=>.int (i-j)):=BD fun _ _ _ _ _ _ _ q=>sub_int q
theorem yO:dM X (binaryOp .Mult) (rI AF fun i j=>.int (i*j)):=BE fun _ _ _ _ _ _ _ hc q=>mul_int q hc.ok
theorem yP:dM X (binaryOp .Mod) (rI (fun _ j=>0<j) fun i j=>.int (i%j)):=BE fun i j _ _ _ _ _ hc q=>by
 have h1:(0:Int)<j:=hc;exact mod_int' (by omega) (by rw[Int.fmod_eq_emod_of_nonneg i (by omega)];exact q)
theorem yL:dM X (binaryOp .LShift) (rI CPow fun i j=>.int (i*2^j.toNat)):=BE fun _ _ _ _ _ _ _ hc q=>lshift_int_small hc.1 hc.2.1 hc.2.2 q
theorem unI{f:Value->Sem Value}{g:Int->Int}
  (rule:∀(i:Int)(t:Tok)(s:Shared)(Q:Value->Shared->Prop)(E:Value->Shared->Prop),Q (.int (g i) s.toks) {s with toks:=s.toks+1}->wpAny (model X.prog X.w) X.A (f (.int i t)) Q E s) :
  UnR X f (rU fun i=>.int (g i)):=by
 intro pins s σ H x v Q I rx h;obtain⟨i,rfl,q⟩:=h;obtain⟨t,rfl⟩:=rx;exact rule i t s _ _ ⟨.int (g i),H,I.tok _,⟨_,rfl⟩,q⟩
theorem xK:UnR X (unaryOp .USub) (rU fun i=>.int (-i)):=unI fun _ _ _ _ _ q=>neg_int q
end
noncomputable def xa:V->V->Bool
 | .non,.non=>true| .non,.int _=>true| .int _,.non=>true| .non,.bl _=>true| .bl _,.non=>true| .non,.str _=>true| .str _,.non=>true
 | .int _,.int _=>true| .bl _,.bl _=>true| .str _,.str _=>true| .byt _,.byt _=>true
 | .int _,.str _=>true| .str _,.int _=>true| .bl _,.str _=>true| .str _,.bl _=>true
 | _,_=>false
noncomputable def rEq:R2:=fun x y H Q=>xa x y=true/\Q (.bl (decide (x=y))) H
noncomputable def rNe:R2:=fun x y H Q=>xa x y=true/\Q (.bl (!decide (x=y))) H
theorem oi{i j:Int}:decide (V.int i=V.int j)=(i==j):=by
 rw[D1];simp
theorem tj{i j:Bool}:decide (V.bl i=V.bl j)=(i==j):=by
 rw[D1];simp
theorem oh{i j:Str}:decide (V.str i=V.str j)=(i==j):=by
 rw[D1];simp
theorem oj{i j:Array UInt8}:decide (V.byt i=V.byt j)=(i.toList==j.toList):=by
 rw[D1];cases i;cases j;simp
section
variable{X:Cx}{a b c:Expr}{ta tb tc:TE}{pos:Pos}
theorem aR{pins:List (Addr×Obj)}{σ:St}{H:Hp}{s:Shared}{Q:VK}{k k' :Bool}(I:Inv X pins σ H s)(q:Q (.bl k) H)(e:k=k'):EP X pins σ Q (.bool k') s:=by
 subst e;exact⟨.bl k,H,I,rfl,q⟩
theorem BC:dM X (compareOp .Eq) rEq:=by
 intro pins s σ H x y v u Q I rx ry h;obtain⟨hs,q⟩:=h;cases x with
 | non =>
  cases rx;cases y with
  | non=>cases ry;exact PySem.EqNone.eq_none_none (aR I q (by simp))
  | bl j=>cases ry;exact PySem.EqNone.eq_none_bool (aR I q (by simp))
  | int j=>obtain⟨t',rfl⟩:=ry;exact PySem.EqNone.eq_none_int (aR I q (by simp))
  | str j=>obtain⟨t',rfl⟩:=ry;exact PySem.EqNone.eq_none_str (aR I q (by simp))
  | _=>exact absurd (show false=true from hs) CT
 | bl i =>
  cases rx;cases y with
  | non=>cases ry;exact PySem.EqNone.eq_bool_none (aR I q (by simp))
  | bl j=>cases ry;exact eq_bool (aR I q tj)
  | str j=>obtain⟨t',rfl⟩:=ry;exact PySem.EqMixed.eq_bool_str (aR I q (by simp))
  | _=>exact absurd (show false=true from hs) CT
 | int i =>
  obtain⟨t,rfl⟩:=rx;cases y with
  | non=>cases ry;exact PySem.EqNone.eq_int_none (aR I q (by simp))
  | int j=>obtain⟨t',rfl⟩:=ry;exact eq_int (aR I q oi)
  | str j=>obtain⟨t',rfl⟩:=ry;exact PySem.EqMixed.eq_int_str (aR I q (by simp))
  | _=>exact absurd (show false=true from hs) CT
 | str i =>
  obtain⟨t,rfl⟩:=rx;cases y with
  | non=>cases ry;exact PySem.EqNone.eq_str_none (aR I q (by simp))
  | bl j=>cases ry;exact PySem.EqMixed.eq_str_bool (aR I q (by simp))
  | int j=>obtain⟨t',rfl⟩:=ry;exact PySem.EqMixed.eq_str_int (aR I q (by simp))
  | str j=>obtain⟨t',rfl⟩:=ry;exact eq_str (aR I q oh)
  | _=>exact absurd (show false=true from hs) CT
 | byt i =>
  obtain⟨t,rfl⟩:=rx;cases y with
  | byt j=>obtain⟨t',rfl⟩:=ry;exact W.eq_bytes (aR I q oj)
  | _=>exact absurd (show false=true from hs) CT
 | _=>cases y<;>exact absurd (show false=true from hs) CT
theorem A7:dM X (compareOp .NotEq) rNe:=by
 intro pins s σ H x y v u Q I rx ry h;obtain⟨hs,q⟩:=h;cases x with
 | non =>
  cases rx;cases y with
  | non=>cases ry;exact PySem.EqNone.ne_none_none (aR I q (by simp))
  | bl j=>cases ry;exact PySem.EqNone.ne_none_bool (aR I q (by simp))
  | int j=>obtain⟨t',rfl⟩:=ry;exact PySem.EqNone.ne_none_int (aR I q (by simp))
  | str j=>obtain⟨t',rfl⟩:=ry;exact PySem.EqNone.ne_none_str (aR I q (by simp))
  | _=>exact absurd (show false=true from hs) CT
 | bl i =>
  cases rx;cases y with
  | non=>cases ry;exact PySem.EqNone.ne_bool_none (aR I q (by simp))
  | bl j=>cases ry;exact ne_bool (aR I q (Da not tj))
  | str j=>obtain⟨t',rfl⟩:=ry;exact PySem.EqMixed.ne_bool_str (aR I q (by simp))
  | _=>exact absurd (show false=true from hs) CT
 | int i =>
  obtain⟨t,rfl⟩:=rx;cases y with
  | non=>cases ry;exact PySem.EqNone.ne_int_none (aR I q (by simp))
  | int j=>obtain⟨t',rfl⟩:=ry;exact ne_int (aR I q (Da not oi))
  | str j=>obtain⟨t',rfl⟩:=ry;exact PySem.EqMixed.ne_int_str (aR I q (by simp))
  | _=>exact absurd (show false=true from hs) CT
 | str i =>
  obtain⟨t,rfl⟩:=rx;cases y with
  | non=>cases ry;exact PySem.EqNone.ne_str_none (aR I q (by simp))
  | bl j=>cases ry;exact PySem.EqMixed.ne_str_bool (aR I q (by simp))
  | int j=>obtain⟨t',rfl⟩:=ry;exact PySem.EqMixed.ne_str_int (aR I q (by simp))
  | str j=>obtain⟨t',rfl⟩:=ry;exact ne_str (aR I q (Da not oh))
  | _=>exact absurd (show false=true from hs) CT
 | byt i =>
  obtain⟨t,rfl⟩:=rx;cases y with
  | byt j=>obtain⟨t',rfl⟩:=ry;exact W.ne_bytes (aR I q (Da not oj))
  | _=>exact absurd (show false=true from hs) CT
 | _=>cases y<;>exact absurd (show false=true from hs) CT
theorem A8:dM X (compareOp .Lt) (vG fun i j=>.bl (decide (i<j))):=vY fun _ _ _ _ _ _ _ q=>lt_int q
theorem A9:dM X (compareOp .LtE) (vG fun i j=>.bl (decide (i<=j))):=vY fun _ _ _ _ _ _ _ q=>le_int q
theorem BA:dM X (compareOp .Gt) (vG fun i j=>.bl (decide (j<i))):=vY fun _ _ _ _ _ _ _ q=>gt_int q
theorem BB:dM X (compareOp .GtE) (vG fun i j=>.bl (decide (j<=i))):=vY fun _ _ _ _ _ _ _ q=>ge_int q
theorem sW:dM X (compareOp .Is) (fun x y H Q=>y=.non/\Q (.bl (decide (x=.non))) H):=by
 intro pins s σ H x y v u Q I rx ry h;obtain⟨rfl,q⟩:=h;cases ry;refine is_none_gen (aR I q ?_)
 cases x<;>first
  | (cases rx;rfl)
  | (obtain⟨t,rfl⟩:=rx;rfl)
theorem vS{op:CmpOp}{r:R2}(ho:dM X (compareOp op) r)(ha:PE X a ta)(hb:PE X b tb)(hm:behindInMarks op b=false):PE X (.Compare a [op] [b] pos) (tOp r ta tb):=by
 intro pins s σ H Q I h;exact wpAny_Compare1 (zY ha hb I h fun v u s2 x y H2 I2 rx ry q=>ho pins s2 σ H2 x y v u Q I2 rx ry q) hm
noncomputable def Ab(t:TE):TT:=fun σ H Q=>t σ H fun x H' =>∃k,x=.bl k/\Q k H'
theorem vJ{op:CmpOp}{r:R2}(ho:dM X (compareOp op) r)(ha:PE X a ta)(hb:PE X b tb)(hm:behindInMarks op b=false):PT X (.Compare a [op] [b] pos) (Ab (tOp r ta tb)):=by
 intro pins s σ H Q I h
 refine wpAny_isTrue_Compare1 (aq (ha pins s σ H _ I h) fun v s1 ⟨x,H1,I1,r1,q1⟩=>aq (hb pins s1 σ H1 _ I1 q1) fun u s2 ⟨y,H2,I2,r2,q2⟩ =>
  aq (ho pins s2 σ H2 x y v u _ I2 r1 r2 q2) fun c s3 ⟨z,H3,I3,r3,k,e,q3⟩=> ?_) hm
 subst e;cases r3;exact Dp ⟨H3,I3,q3⟩
noncomputable def zn(K:W.Frag)(x:V)(H:Hp)(k:Bool):Prop :=
 match x with
 | .non=>k=false
 | .bl b=>k=b
 | .int i=>k=(i !=0)
 | .str y=>y.length<=sizeLine/\k=((y.length:Int) !=0)
 | .byt y=>y.size<=sizeLine/\k=((y.size:Int) !=0)
 | .ref p=>(∃xs,ao K H p xs/\k= !xs.isEmpty)\/(∃xs,bQ K H p xs/\k= !xs.isEmpty)\/∃kvs,H p=some (.dK kvs)/\k= !kvs.isEmpty
 | _=>False
theorem nA{κ:Type}{kvs:List (κ×V)}{vs:List (κ×Value)}(r:KV kvs vs):(!vs.isEmpty)= !kvs.isEmpty:=by
 cases r<;>rfl
theorem iK{xs:List V}{its:List Value}(r:aK xs its):(!its.toArray.isEmpty)= !xs.isEmpty:=by
 cases r<;>simp
theorem eK:(sizeLine:Nat)<2^63:=by rw[DX];decide
theorem xN:TruR X (fun x H Q=>∃k,zn X.K x H k/\Q k H):=by
 intro pins s σ H x v Q I rx h;obtain⟨k,e,q⟩:=h;have hl:=eK;have hs:sizeLine=16777216:=DX;cases x with
 | non =>
  cases rx;have e' :k=false:=e;subst e';exact truthy_none ⟨H,I,q⟩
 | bl b =>
  cases rx;have e' :k=b:=e;subst e';exact Dp ⟨H,I,q⟩
 | int i =>
  obtain⟨t,rfl⟩:=rx;have e' :k=(i !=0):=e;subst e';exact PySem.P.truthy_int ⟨H,I,q⟩
 | str y =>
  obtain⟨t,rfl⟩:=rx;obtain⟨hy,e'⟩:y.length<=sizeLine/\k=((y.length:Int) !=0):=e;subst e';exact PySem.P.truthy_str (by omega) ⟨H,I.tok _,q⟩
 | byt y =>
  obtain⟨t,rfl⟩:=rx;obtain⟨hy,e'⟩:y.size<=sizeLine/\k=((y.size:Int) !=0):=e;subst e';exact W.truthy_bytes (by omega) ⟨H,I.tok _,q⟩
 | ref p =>
  cases rx;have e' :(∃xs,ao X.K H p xs/\k= !xs.isEmpty)\/(∃xs,bQ X.K H p xs/\k= !xs.isEmpty)\/∃kvs,H p=some (.dK kvs)/\k= !kvs.isEmpty:=e
  rcases e' with⟨xs,hx,e'⟩|⟨xs,hx,e'⟩|⟨kvs,hx,e'⟩
  ·subst e'
   obtain⟨its,r,pl,hz⟩:=I.list hx;have hlen:=r.length;exact wpAny_truthy_list pl.isList (by simp only[CN];omega) ⟨H,I.tok _,by rw[iK r];exact q⟩
  ·subst e'
   obtain⟨its,r,pl,hz⟩:=I.tuple hx;have hlen:=r.length;exact truthy_tuple pl (by simp only[CN];omega) ⟨H,I.tok _,by rw[iK r];exact q⟩
  ·subst e'
   obtain⟨hz,hS,vs,r,m⟩:kvs.length<=sizeLine/\(p==sysModules)=false/\∃vs,KV kvs vs/\s.heap.DictOf (bJ X.prog X.w) p vs:=I.hok p _ hx;have hlen:kvs.length=vs.length:=Paired.length r;exact wpAny_truthy_dict hS m (by omega) ⟨H,I.tok _,by rw[nA r];exact q⟩
 | _=>exact(show False from e).elim
theorem hX(ha:PE X a ta)(he:∀whole,isTrue a X.env whole=(do let v<-whole;standAt a.pos;holding [v] (truthy v))) :
  PT X a (fun σ H Q=>ta σ H fun x H' =>∃k,zn X.K x H' k/\Q k H'):=by
 intro pins s σ H Q I h;exact isTrue_plain (aq (ha pins s σ H _ I h) fun v s1 ⟨x,H1,I1,r1,q1⟩=>xN pins s1 σ H1 x v Q I1 r1 q1) (he _)
theorem mh:dM X (binaryOp .Add) (fun x y H Q=>∃i j,x=.str i/\y=.str j/\i.length+j.length<=sizeLine/\Q (.str (i++j)) H):=by
 intro pins s σ H x y v u Q I rx ry h;obtain⟨i,j,rfl,rfl,hz,q⟩:=h;obtain⟨t,rfl⟩:=rx;obtain⟨t',rfl⟩:=ry;exact add_str (fun t' tk=>⟨.str (i++j),H,I.tok _,⟨_,rfl⟩,q⟩) hz
theorem vals1{x:V}{us:List Value}(r:aK [x] us):∃u,us=[u]/\RelV x u:=by
 cases r with
 | cons r1 r2=>cases r2;exact⟨_,rfl,r1⟩
theorem vals2{x y:V}{us:List Value}(r:aK [x,y] us):∃u w',us=[u,w']/\RelV x u/\RelV y w' :=by
 cases r with
 | cons r1 r2 =>
  cases r2 with
  | cons r3 r4=>cases r4;exact⟨_,_,rfl,r1,r3⟩
theorem qP(hc:X.calm=true):bK X (.builtin "max") (fun xs H Q=>∃i j,xs=[.int i,.int j]/\Q (.int (if j>i then j else i)) H):=by
 intro pins s σ H xs us Q I r h;obtain⟨i,j,rfl,q⟩:=h;obtain⟨u,w',rfl,⟨t,rfl⟩,⟨t',rfl⟩⟩:=vals2 r;refine max_two_ints (I.ok.hd hc) fun h' tk k=>⟨_,H,I.kept k,?_,q⟩
 by_cases hj:j>i
 ·rw[CQ hj,CQ hj];exact⟨_,rfl⟩
 ·rw[CM hj,CM hj];exact⟨_,rfl⟩
theorem qO(hc:X.calm=true):bK X (.builtin "min") (fun xs H Q=>∃i j,xs=[.int i,.int j]/\Q (.int (if j<i then j else i)) H):=by
 intro pins s σ H xs us Q I r h;obtain⟨i,j,rfl,q⟩:=h;obtain⟨u,w',rfl,⟨t,rfl⟩,⟨t',rfl⟩⟩:=vals2 r;refine min_two_ints (I.ok.hd hc) fun h' tk k=>⟨_,H,I.kept k,?_,q⟩
 by_cases hj:j<i
 ·rw[CQ hj,CQ hj];exact⟨_,rfl⟩
 ·rw[CM hj,CM hj];exact⟨_,rfl⟩
theorem jO:bK X (.type "int") (fun xs H Q=>(∃i,xs=[.int i]/\Q (.int i) H)\/∃k,xs=[.bl k]/\Q (.int (if k then 1 else 0)) H):=by
 intro pins s σ H xs us Q I r h
 rcases h with⟨i,rfl,q⟩|⟨k,rfl,q⟩
 ·obtain⟨u,rfl,t,rfl⟩:=vals1 r
  exact call_int_int ⟨.int i,H,I,⟨_,rfl⟩,q⟩
 ·obtain⟨u,rfl,r1⟩:=vals1 r
  cases r1;exact call_int_bool ⟨.int (if k then 1 else 0),H,I.tok _,⟨_,rfl⟩,q⟩
end
structure AA(h:Heap)(x dx C:Addr)(mA:Str->Option Value):Prop where
 obj:h.get? x=some (W.instObj C dx)
 ns:h.Ns1 dx mA
 ne:dx≠x
theorem pk{h:Heap}{dx:Addr}{mA:Str->Option Value}(n:h.Ns1 dx mA):∃od,h.get? dx=some od/\∀name,W.lookIn name od=some (mA name):=by
 obtain⟨o,es,ep,ho,hd,hk,_,hm⟩:=n;refine⟨o,ho,fun name=> ?_⟩;have e:=hm name;unfold nsFind findBy at e;rw[<- Array.find?_toList]at e;unfold W.lookIn;rw[hd];dsimp only
 split
 ·rename_i y q
  rw[q]at e;exact Da some e
 ·rename_i q
  rw[q]at e;have a:es.toList.any (·.refKey)=false:=by
   rw[List.any_eq_false];intro y hy;obtain⟨z,t,hkey⟩:=hk y (Array.mem_toList_iff.mp hy);simp[DictEntry.refKey,hkey]
  have a' :¬es.toList.any (·.refKey)=true:=by rw[a];exact CT
  rw[CM a'];exact Da some e
theorem AA.look{h:Heap}{x dx C:Addr}{mA:Str->Option Value}(I:AA h x dx C mA):∃od,W.InstAt h x (W.instObj C dx) C (some od)/\∀name,W.lookIn name od=some (mA name) :=
 let⟨od,ho,hl⟩:=pk I.ns
 ⟨od,⟨I.obj,rfl,rfl,ho⟩,hl⟩
section
variable{prog:Program}{w:World}{A:Around}{E:Value->Shared->Prop}{s:Shared}{K:W.Frag}{x dx C f:Addr}{mA:Str->Option Value}{name:Str}{v:Value}
end
theorem fv.some_of{v:V}{o:Option Value}(r:fv (some v) o):∃u,o=some u/\RelV v u:=by
 cases o with
 | none=>exact(show False from r).elim
 | some u=>exact⟨u,rfl,r⟩
section
variable{P:Program}{w:World}{H H' :Hp}{h h' :Heap}{a C dx:Addr}{fs fs' :List (Str×V)}
theorem vt(hok:dz P w H h)(e:H a=some (.ins C dx fs)):∃mA,AA h a dx C mA/\(∀f,fv (fs.lookup f) (mA f))/\PySem.Within mA (fs.map (·.1))/\fs.length<=1000/\H dx=some (.own a):=by
 obtain⟨d,z,ne,ob,mA,n,r,q⟩:=(show ai P w H h a (.ins C dx fs)from hok a _ e);exact⟨mA,⟨ob,n,ne⟩,r,q,z,d⟩
end
structure Cls(K:W.Frag)(C:Addr):Prop where
 pg:W.plainGet K C Str.empty=true
 hd:W.hasDictIn K C=true
 po:W.plainOver K C=true
 sa:W.findIn K (.ref C) "__setattr__"=some (some (.builtin "object.__setattr__"))
theorem Cls.get{K:W.Frag}{C:Addr}(c:Cls K C)(f:Str):W.plainGet K C f=true:=c.pg
section
variable{X:Cx}{pins:List (Addr×Obj)}{σ:St}{H:Hp}{s:Shared}{a C dx:Addr}{fs:List (Str×V)}{f:Str}{v:V}{A:Around}{E:Value->Shared->Prop}
end
section
variable{X:Cx}{o e value:Expr}{f:Str}{pos pos' tpos:Pos}{ta tv:TE}
end
section
variable{X:Cx}{pins:List (Addr×Obj)}{σ:St}{H:Hp}{s:Shared}{A:Around}{E:Value->Shared->Prop}{Q:Value->Shared->Prop}{c:Value}{b:Bool}
inductive ft(K:W.Frag)(H:Hp):V->Value->Prop where
 | non:ft K H .non (.type "NoneType")
 | bl (x:Bool):ft K H (.bl x) (.type "bool")
 | int (i:Int):ft K H (.int i) (.type "int")
 | str (x:Str):ft K H (.str x) (.type "str")
 | flt (x:UInt64):ft K H (.flt x) (.type "float")
 | lst {a:Addr} {xs:List V} (e:H a=some (.lst xs)):ft K H (.ref a) (.type "list")
 | frz {a:Addr} {o:Obj} {xs:List V} (e:H a=some (.frz o (.lst xs))):ft K H (.ref a) (.type "list")
 | tup {a:Addr} {xs:List V} (e:H a=some (.tup xs)):ft K H (.ref a) (.type "tuple")
 | dK {a:Addr} {kvs:List (bA×V)} (e:H a=some (.dK kvs)):ft K H (.ref a) (.type "dict")
 | dT {a:Addr} {kvs:List (List bA×V)} (e:H a=some (.dT kvs)):ft K H (.ref a) (.type "dict")
 | ins {a C dx:Addr} {fs:List (Str×V)} (e:H a=some (.ins C dx fs)) (cl:Cls K C) (ha:W.findIn K (.ref C) "__class__"=some (some (.builtin "object.__class__")))
   (hn:W.specialIn K (.builtin "object.__class__") "__get__"=some (some (.builtin "getset_descriptor.__get__"))) (htk:W.takesIn K (.builtin "object.__class__")=some true)
   (hm:W.mroIn K C (.type "object")=some true):ft K H (.ref a) (.ref C)
theorem qC{x:V}{u t:Value}(I:Inv X pins σ H s)(rx:RelV x u)(ty:ft X.K H x t)(e:W.kitOne X.K t c=some b)(h:∀tk,Q (.bool b) {s with toks:=tk}) :
  wpAny (model X.prog X.w) A (call (.builtin "isinstance") [u,c]) Q E s:=by
 cases ty with
 | non=>cases(show u=Value.none from rx);exact EM W.kitx_none I.kIn True.intro e (fun z=>nomatch z) h
 | bl y=>cases(show u=Value.bool y from rx);exact EM W.kitx_bool I.kIn True.intro e (fun z=>nomatch z) h
 | int i=>obtain⟨t,q⟩:=(show∃t,u=Value.int i t from rx);cases q;exact EM W.kitx_int I.kIn True.intro e (fun z=>nomatch z) h
 | str y=>obtain⟨t,q⟩:=(show∃t,u=Value.str y t from rx);cases q;exact EM W.kitx_str I.kIn True.intro e (fun z=>nomatch z) h
 | flt y=>obtain⟨t,q⟩:=(show∃t,u=Value.float y t from rx);cases q;exact EM W.kitx_float I.kIn True.intro e (fun z=>nomatch z) h
 | @lst a xs ea =>
  cases(show u=Value.ref a from rx);obtain⟨_,_,n,_,h1⟩:=(show ai X.prog X.w H s.heap a (.lst xs)from I.hok a _ ea);exact EM W.kitx_list I.kIn ⟨_,h1,rfl⟩ e (fun z=>nomatch z) h
 | @frz a ob xs ea =>
  cases(show u=Value.ref a from rx);obtain⟨_,_,_,n,_,h1⟩:=(show ai X.prog X.w H s.heap a (.frz ob (.lst xs))from I.hok a _ ea);exact EM W.kitx_list I.kIn ⟨_,h1,rfl⟩ e (fun z=>nomatch z) h
 | @tup a xs ea =>
  cases(show u=Value.ref a from rx);obtain⟨_,_,_,p⟩:=(show ai X.prog X.w H s.heap a (.tup xs)from I.hok a _ ea);obtain⟨o,h1,h2,_⟩:=p;exact EM W.kitx_tuple I.kIn ⟨o,h1,h2⟩ e (fun z=>nomatch z) h
 | @dK a kvs ea =>
  cases(show u=Value.ref a from rx);obtain⟨_,_,vs,_,p⟩:=(show ai X.prog X.w H s.heap a (.dK kvs)from I.hok a _ ea);obtain⟨o,es,ep,h1,h2,_⟩:=p;exact EM W.kitx_dict I.kIn ⟨o,h1,h2.1⟩ e (fun z=>nomatch z) h
 | @dT a kvs ea =>
  cases(show u=Value.ref a from rx);obtain⟨_,_,xs,_,o,es,ep,h1,h2,_⟩:=(show ai X.prog X.w H s.heap a (.dT kvs)from I.hok a _ ea);exact EM W.kitx_dict I.kIn ⟨o,h1,h2.1⟩ e (fun z=>nomatch z) h
 | @ins a C dx fs ea cl ha hn htk hm =>
  cases(show u=Value.ref a from rx);obtain⟨mA,O,_⟩:=vt I.hok ea;obtain⟨od,J,_⟩:=O.look;exact EM (W.kitx_own (cl.get _) cl.hd ha hn htk hm) I.kIn J e (fun z=>nomatch z) h
end
structure eQ(k:Nat)(A:Around):Prop where
 hd:A.handled=none
 dp:A.depth+3*k+5<recursionLimit
 un:A.units+16*k+200<cLine
theorem eQ.deeper{k:Nat}{A:Around}(r:eQ (k+1) A)(env:Env):eQ k (A.deeper env) :=
 ⟨r.hd,by have:=r.dp;show A.depth+1+3*k+5<_;omega,by have:=r.un;show A.units+3+16*k+200<_;omega⟩
theorem eQ.depth{k:Nat}{A:Around}(r:eQ k A):A.depth<recursionLimit:=by have:=r.dp;omega
theorem eQ.units{k:Nat}{A:Around}(r:eQ k A):A.units+64<cLine:=by have:=r.un;omega
noncomputable def tNil:TA:=fun _ H Q=>Q [] H
noncomputable def Ai(ta:TE)(tr:TA):TA:=fun σ H Q=>ta σ H fun x H1=>tr σ H1 fun xs H2=>Q (x::xs) H2
section
variable{X:Cx}{e:Expr}{es:List Expr}{te:TE}{t:TA}{pos:Pos}
theorem aV:PA X [] tNil:=fun _ _ _ _ H Q I h=>Calls.spliced_nil ⟨[],H,I,.nil,h⟩
theorem aG(ha:PE X e te)(hr:PA X es t)(hs:starEach (e::es) X.env=(false,eval e X.env)::starEach es X.env:=by rfl):PA X (e::es) (Ai te t):=by
 intro pos pins s σ H Q I h;rw[hs];show wpAny _ _ (spliced ((false,eval e X.env)::backTo pos (starEach es X.env))) _ _ s;refine Calls.spliced_cons (aq (ha pins s σ H _ I h) fun u s1 hpq=> ?_);obtain⟨x,H1,I1,r1,q1⟩:=hpq;exact aq (hr pos pins s1 σ H1 _ I1 q1) fun us s2 ⟨xs,H2,I2,r2,q2⟩=>⟨x::xs,H2,I2,.cons r1 r2,q2⟩
noncomputable def tTup(t:TA):TE:=fun σ H Q=>t σ H fun xs H1=>xs.length<=sizeLine/\∀p,H1 p=none->Q (.ref p) (upd H1 p (.tup xs))
noncomputable def tLst(t:TA):TE:=fun σ H Q=>t σ H fun xs H1=>xs.length<=sizeLine/\∀p,H1 p=none->Q (.ref p) (upd H1 p (.lst xs))
theorem jp{x1}(h:PA X es t):PE X (.Tuple es x1 pos) (tTup t):=by
 intro pins s σ H Q I hq;refine wpAny_Tuple_spliced (aq (h pos pins s σ H _ I hq) fun us s1 ⟨xs,H1,I1,r,z,q⟩=>⟨by rw[<- r.length];exact z,?_⟩);have hf:H1 s1.heap.objs.size=none:=I1.hok.fresh (CO _);refine⟨.ref s1.heap.objs.size,upd H1 s1.heap.objs.size (.tup xs),I1.laid (t' :=s1.toks) (fun b u e=>CL _ e) (CO _) ?_,rfl,q _ hf⟩;exact⟨z,us,r,⟨_,Co _ rfl,rfl,_,rfl,rfl⟩⟩
theorem iC(h:PA X es t):PE X (.List es pos) (tLst t):=by
 intro pins s σ H Q I hq;refine wpAny_List_spliced (aq (h pos pins s σ H _ I hq) fun us s1 ⟨xs,H1,I1,r,z,q⟩=>⟨by rw[<- r.length];exact z,?_⟩);have hf:H1 s1.heap.objs.size=none:=I1.hok.fresh (CO _);refine⟨.ref s1.heap.objs.size,upd H1 s1.heap.objs.size (.lst xs),I1.laid (t' :=s1.toks) (fun b u e=>CL _ e) (CO _) ?_,rfl,q _ hf⟩;exact⟨z,us,0,r,Co _ rfl⟩
end
noncomputable abbrev Sp:=List V->Hp->VK->XK->Prop
noncomputable abbrev qf:=List Env->Hp->Shared->XK->Value->Shared->Prop
structure wU(P:Program)(w:World)(K:W.Frag)(mg:Str->Option Value)(base:Heap)(A:Around)(outer:List Env)(s:Shared)(H:Hp):Prop where
 frames:A.frames=some outer
 mod:Mod K mg base
 bs:∀b o,base.get? b=some o->s.heap.get? b=some o/\H b=none
 bsz:base.objs.size<=s.heap.objs.size
 funs:s.heap.FunFrames base outer
 frf:∀b∈nE outer,H b=none
 hok:dz P w H s.heap
 bare:AllBare s.gens
noncomputable def CE(outer:List Env)(P:Program)(w:World)(H:Hp)(s:Shared)(Q:VK)(u:Value)(s' :Shared):Prop :=
 ∃v H',s'.os=s.os/\AllBare s'.gens/\Un (nE outer) [] H H' s.heap s'.heap/\dz P w H' s'.heap/\RelV v u/\Q v H'
noncomputable def CR(CX:qf)(outer:List Env)(P:Program)(w:World)(H:Hp)(s:Shared)(Q:VK)(E:XK)(r:Result)(s' :Shared):Prop :=
 match r with
 | .ok (.ret u)=>CE outer P w H s Q u s'
 | .ok _=>False
 | .error e=>CX outer H s E e s'
structure bt(P:Program)(w:World)(K:W.Frag)(mg:Str->Option Value)(base:Heap)(CX:qf)(k:Nat)(f:Addr)(fd:FuncData)(ps:List Str)(sp:Sp):Prop where
 len:∀vs H Q E,sp vs H Q E->vs.length=ps.length
 run:∀(A:Around)(outer:List Env)(s:Shared)(H:Hp)(args:Args)(us:List Value)(vs:List V)(Q:VK)(E:XK),eQ k A->wU P w K mg base A outer s H->BindsTo s fd args (ps.zip us)->aK vs us->sp vs H Q E ->
  codeAny (model P w) A (.call (.ref f) args) (CR CX outer P w H s Q E) s
theorem bt.imp{P:Program}{w:World}{K:W.Frag}{mg:Str->Option Value}{base:Heap}{CX:qf}{k:Nat}{f:Addr}{fd:FuncData}{ps:List Str}{sp sp' :Sp}(F:bt P w K mg base CX k f fd ps sp)
  (h:∀vs H Q E,sp' vs H Q E->sp vs H Q E):bt P w K mg base CX k f fd ps sp' :=
 ⟨fun vs H Q E q=>F.len vs H Q E (h _ _ _ _ q),fun A outer s H args us vs Q E hr he hb hv hs=>F.run A outer s H args us vs Q E hr he hb hv (h _ _ _ _ hs)⟩
section
variable{X:Cx}{pins:List (Addr×Obj)}{σ:St}{H:Hp}{s s' :Shared}
theorem Inv.env0(I:Inv X pins σ H s):wU X.prog X.w X.K X.mg X.base X.A X.stack s H :=
 ⟨I.ok.frames,I.ok.mod,I.bs,DF I.ok.bsz I.sz,I.stack,I.stkFree,I.hok,I.bare⟩
theorem Inv.after{Q:VK}{u:Value}(I:Inv X pins σ H s)(h:CE X.stack X.prog X.w H s Q u s'):EP X pins σ Q u s' :=by
 obtain⟨v,H',os,bare,un,hok,r,q⟩:=h;obtain⟨hh,g,d,t,os'⟩:=s';obtain rfl:os' =s.os:=os;exact⟨v,H',I.call (h' :=hh) (g' :=g) (d' :=d) (t' :=t) (ch:=[]) un hok bare (fun b z=>absurd z (by simp)),r,q⟩
end
noncomputable def Aj(sp:Sp)(dvs:List V)(E:XK)(t:TA):TE:=fun σ H Q=>t σ H fun vs H1=>sp (vs++dvs) H1 Q E
noncomputable def Binds(K:W.Frag)(fd:FuncData)(ps:List Str)(ds:List Value):Prop :=
 ∀(s:Shared)(us:List Value),K.In s.heap->(us++ds).length=ps.length->BindsTo s fd ⟨us,[]⟩ (ps.zip (us++ds))
theorem Binds.all{K:W.Frag}{fd:FuncData}{ps:List Str}(h:∀us:List Value,us.length=ps.length->bindArgs fd ⟨us,[]⟩=pure (ps.zip us)):Binds K fd ps []:=fun s us _ hl=>by
 rw[DL]at hl ⊢;exact .of_eq (h us hl)
noncomputable def nr(CX:qf)(X:Cx)(E:XK):Prop:=∀(pins:List (Addr×Obj))(σ:St)(H:Hp)(s:Shared)(e:Value)(s' :Shared),Inv X pins σ H s->CX X.stack H s E e s' ->X.xe e s'
section
variable{X:Cx}{CX:qf}{k:Nat}{f C:Addr}{fd:FuncData}{ps:List Str}{sp:Sp}{dvs:List V}{ds:List Value}{E:XK}{x m:Str}{p pos apos:Pos}{e o:Expr}{es:List Expr}{ta:TE}{t:TA}
theorem xi{pins:List (Addr×Obj)}{σ:St}{H:Hp}{s:Shared}{Q:VK}{us:List Value}{vs:List V}(F:bt X.prog X.w X.K X.mg X.base CX k f fd ps sp)(hr:eQ k X.A)(hb:Binds X.K fd ps ds)(hd:aK dvs ds)(hx:nr CX X E)
  (I:Inv X pins σ H s) (r:aK vs us) (h:sp (vs++dvs) H Q E):wpAny (model X.prog X.w) X.A (call (.ref f) us) (EP X pins σ Q) X.xe s:=by
 have r2:aK (vs++dvs) (us++ds):=r.append hd;have hl:(us++ds).length=ps.length:=by rw[<- r2.length];exact F.len _ _ _ _ h
 refine wpAny_call (codeAny_mono (F.run X.A X.stack s H ⟨us,[]⟩ (us++ds) (vs++dvs) Q E hr I.env0 (hb s us I.kIn hl) r2 h) fun r s' hq=> ?_);cases r with
 | error e=>exact hx pins σ H s e s' I hq
 | ok fl =>
  cases fl with
  | ret u=>exact I.after hq
  | next=>exact False.elim hq
  | brk=>exact False.elim hq
  | cont=>exact False.elim hq
theorem cL(F:bt X.prog X.w X.K X.mg X.base CX k f fd ps sp)(hr:eQ k X.A)(hg:Gl X x)(hm:X.mg x=some (.ref f))(hk:W.keepIn X.K (.ref f)=true)(hb:Binds X.K fd ps ds)(hd:aK dvs ds)(hx:nr CX X E)
  (ha:PA X (e::es) t) (hdb:(x==("__debug__":Str))=false:=by decide) (he:starEach (e::es) X.env=(false,eval e X.env)::starEach es X.env:=by rfl) (hpl:(backTo pos (starEach es X.env)).any (·.1)=false:=by rfl) :
  PE X (.Call (.Name x p) (e::es) [] pos) (Aj sp dvs E t):=by
 intro pins s σ H Q I h;refine wpAny_Call_Name_kw (oP I hg hm ?_ hdb);refine W.callWith_K (h₀:=X.base) I.ok.mod.kin hk (aq (ha pos pins s σ H _ I h) fun us s1 ⟨vs,H1,I1,r,q⟩=>⟨I1.kIn,?_⟩) he hpl;exact xi F hr hb hd hx I1 r q
end
section
variable{X:Cx}{CX:qf}{k:Nat}{f C:Addr}{fd:FuncData}{ps ks:List Str}{sp:Sp}{E:XK}{x m:Str}{p pos apos kpos:Pos}{e o:Expr}{es:List Expr}{kws:List Keyword}{te ta:TE}{t tk:TA}{nm:Option Str}
variable{g:List Value->List Value->List Value}{gV:List V->List V->List V}
end
structure dE(N P:List Str)(sc:Scope):Prop where
 kind:sc.kind=.function
 co:sc.isCoroutine=false
 gen:sc.isGenerator=false
 nd:N.Nodup
 pre:N.take P.length=P
 par:∀x∈P,sc.names.lookup x=some .local\/sc.names.lookup x=some .cell
 nofree:∀y∈sc.names,y.2≠.free
theorem jP{kindOf:Str->Option NameKind}{x:Str}:∀{binds:List (Str×Value)}{m:Str->Option Value},(∀v,(x,v)∉binds)->bindL kindOf binds m x=m x
 | [],_,_=>rfl
 | (n,v)::r,m,h=>by
  unfold bindL;rw[jP fun w hw=>h w (CV _ hw)]
  split
  ·have:x≠n:=by rintro rfl;exact h v Cd
   simp[this]
  ·rfl
theorem jR{kindOf:Str->Option NameKind}{x:Str}:∀{binds:List (Str×Value)}{m:Str->Option Value},(∀v,(x,v)∉binds)->bindC kindOf binds m x=m x
 | [],_,_=>rfl
 | (n,v)::r,m,h=>by
  unfold bindC;rw[jR fun w hw=>h w (CV _ hw)]
  split
  ·rfl
  ·have:x≠n:=by rintro rfl;exact h v Cd
   simp[this]
theorem jQ{kindOf:Str->Option NameKind}{x:Str}{v:Value}:∀{P:List Str}{vs:List Value}{i:Nat}{m:Str->Option Value},P.Nodup->P[i]? =some x->vs[i]? =some v->kindOf x=some .local ->
  bindL kindOf (P.zip vs) m x=some v
 | [],_,_,_,_,h,_,_=>by simp at h
 | _::_,[],_,_,_,_,h,_=>by simp at h
 | p::P,w::vs,0,m,nd,h1,h2,hk=>by
  simp at h1 h2;subst h1;subst h2;show bindL kindOf ((p,w)::P.zip vs) m p=_;unfold bindL;rw[jP fun v hv=>(DV.mp nd).1 (List.of_mem_zip hv).1,CQ hk];simp
 | p::P,w::vs,i+1,m,nd,h1,h2,hk=>by
  show bindL kindOf ((p,w)::P.zip vs) m x=_;unfold bindL;exact jQ (i:=i) (DV.mp nd).2 (by simpa using h1) (by simpa using h2) hk
theorem jS{kindOf:Str->Option NameKind}{x:Str}{v:Value}:∀{P:List Str}{vs:List Value}{i:Nat}{m:Str->Option Value},P.Nodup->P[i]? =some x->vs[i]? =some v->kindOf x≠some .local ->
  bindC kindOf (P.zip vs) m x=some v
 | [],_,_,_,_,h,_,_=>by simp at h
 | _::_,[],_,_,_,_,h,_=>by simp at h
 | p::P,w::vs,0,m,nd,h1,h2,hk=>by
  simp at h1 h2;subst h1;subst h2;show bindC kindOf ((p,w)::P.zip vs) m p=_;unfold bindC;rw[jR fun v hv=>(DV.mp nd).1 (List.of_mem_zip hv).1,CM hk];simp
 | p::P,w::vs,i+1,m,nd,h1,h2,hk=>by
  show bindC kindOf ((p,w)::P.zip vs) m x=_;unfold bindC;exact jS (i:=i) (DV.mp nd).2 (by simpa using h1) (by simpa using h2) hk
noncomputable def start(N:List Str)(vs:List V):St:=vs.map some++List.replicate (N.length-vs.length) none
noncomputable def i6(CX:qf)(P:Program)(w:World)(K:W.Frag)(mg:Str->Option Value)(base:Heap)(N:List Str)(qual:Str)(scope:Scope)(f:Addr)(cd:Value)(A:Around)(outer:List Env)(s:Shared)(H:Hp)(E:XK):Cx where
 prog:=P
 w:=w
 K:=K
 mg:=mg
 base:=base
 A:=A.deeper (envOfC qual scope s.heap.objs.size f cd)
 N:=N
 s₀:=s
 H₀:=H
 env:=envOfC qual scope s.heap.objs.size f cd
 outer:=outer
 stack:=envOfC qual scope s.heap.objs.size f cd::outer
 ex:=[]
 calm:=true
 fn:=fun _=>true
 pn:=[]
 xe:=fun e s' =>wpAny (model P w) (A.deeper (envOfC qual scope s.heap.objs.size f cd)) (leaving (envOfC qual scope s.heap.objs.size f cd) e) (fun _ s'' =>CX outer H s E e s'') (fun e' s'' =>CX outer H s E e' s'') s'
theorem lW{sc:Scope}{n:Nat}{x:Str}(h:sc.names.lookup x=some .cell):∃c,(cellsFrom n sc.names []).lookup x=some c:=by
 have q:=W.cellsFrom_some sc.names n [] (.inl h);exact Option.isSome_iff_exists.mp q
theorem qD{CX:qf}{P:Program}{w:World}{K:W.Frag}{mg:Str->Option Value}{base:Heap}{N ps:List Str}{qual:Str}{scope:Scope}{f:Addr}{cd:Value}{A:Around}{outer:List Env}{s s1:Shared}{H:Hp}{E:XK}{us:List Value}{vs:List V}
  (S:dE N ps scope) (hd:A.handled=none) (e0:wU P w K mg base A outer s H) (hl:vs.length=ps.length) (r:aK vs us)
  (x:InCallC s s.heap.objs.size (bindL (envOfC qual scope s.heap.objs.size f cd).kindOf (ps.zip us) fun _=>none) (cellsFrom (s.heap.objs.size+1) scope.names []) (bindC (envOfC qual scope s.heap.objs.size f cd).kindOf (ps.zip us) fun _=>none) s1) :
  Inv (i6 CX P w K mg base N qual scope f cd A outer s H E) [] (start N vs) H s1:=by
 have hpl:ps.length<=N.length:=by have:=Da List.length S.pre;rw[DI]at this;omega
 obtain⟨h1,tk,rfl,hk⟩:=x.done;have noA:∀b:Addr,b∉(i6 CX P w K mg base N qual scope f cd A outer s H E).ex:=fun b z=>absurd (show b∈([]:List Addr)from z) (by simp)
 refine⟨⟨e0.mod,S.kind,rfl,rfl,CO _,fun y z c h1 h2=> ?_,fun y hy=> ?_,fun y c _ h=> ?_,fun _=>hd,Around.frames_deeper e0.frames,.inr ⟨rfl,rfl⟩,fun b z=>absurd z (noA b),e0.bs,e0.bsz,fun b _ _=>noA b,fun b z=>absurd z (noA b),e0.funs,e0.frf⟩,
  rfl,e0.bare,Un.kept hk,⟨_,x.toInCall.ns,fun i y v h1 h2 h3=> ?_⟩,fun y c h=>⟨_,x.cell y c h⟩,e0.hok.fresh (CO _),fun y c h=> ?_,fun p hp=>absurd (show p∈([]:List (Addr×Obj))from hp) (by simp),e0.hok.kept hk,?_⟩
 ·exact name_of_addr x.apart (C2 h1) (C2 h2)
 ·have hy:scope.names.lookup y=some .cell\/scope.names.lookup y=some .free:=hy
  rcases hy with hy|hy
  ·exact lW hy
  ·exact absurd rfl (S.nofree _ (C2 hy))
 ·exact Ec (x.above y c (C2 h))
 ·have hi:i<vs.length:=by
   unfold start at h2
   by_cases hi:i<vs.length
   ·exact hi
   ·rw[EY (by simpa using hi)]at h2
    rw[List.getElem?_replicate]at h2
    split at h2<;>cases h2
  have ha:vs[i]? =some v:=by
   unfold start at h2;rw[Dy (by simpa using hi),Cb]at h2;cases e:vs[i]? with
   | none=>rw[e]at h2;cases h2
   | some a=>rw[e]at h2;cases h2;rfl
  obtain⟨u,hu,rv⟩:=r.get ha;have hp:ps[i]? =some y:=by
   rw[<- S.pre,D9 (by omega)];exact h1
  have ndP:ps.Nodup:=by rw[<- S.pre];exact S.nd.sublist (FL _ _)
  refine⟨u,rv,?_⟩
  rcases S.par y (C7 hp)with k|k
  ·exact .inl ⟨k,jQ ndP hp hu k⟩
  ·obtain⟨c,e⟩:=lW (n:=s.heap.objs.size+1) k
   refine .inr ⟨.inl k,c,e,?_⟩;have q:=x.cell y c e;rw[jS ndP hp hu (by show scope.names.lookup y≠_;rw[k];decide)]at q;exact q
 ·exact e0.hok.fresh (Ec (x.above y c (C2 h)))
 ·unfold start
  show _=N.length;rw[CP,CI,Dh];omega
theorem Be{CX:qf}{P:Program}{w:World}{K:W.Frag}{mg:Str->Option Value}{base:Heap}{k:Nat}{f:Addr}{name qual:Str}{params:Arguments}{body:List Stmt}{scope:Scope}{dV kV doc pm cdv ct oc:Value}{an od:Option Addr}
  {osl:Array (Option Value)} {N ps:List Str} {sp:Sp} (lk:K.lookup f=some ⟨oc,od,.func (W.fnOf name qual params body scope dV kV doc pm an cdv ct),osl⟩) (hcd:W.codeIn K cdv qual=true) (S:dE N ps scope)
  (len:∀vs H Q E,sp vs H Q E->vs.length=ps.length)
  (hbody:∀(A:Around)(outer:List Env)(s:Shared)(H:Hp)(vs:List V)(Q:VK)(E:XK),eQ k (A.deeper (envOfC qual scope s.heap.objs.size f cdv))->sp vs H Q E ->
   ∃t,nt (i6 CX P w K mg base N qual scope f cdv A outer s H E) body t/\t {nx:=fun _ H' =>Q .non H',rt:=Q} (start N vs) H) :
  bt P w K mg base CX (k+1) f (W.fnOf name qual params body scope dV kV doc pm an cdv ct) ps sp:=by
 refine⟨len,fun A outer s H args us vs Q E hr e0 hb r hsp=> ?_⟩;have hl:=len _ _ _ _ hsp;have KX:K.In s.heap:=e0.mod.kin.keeps fun b o e=>(e0.bs b o e).1;have lim:s.heap.NoLimit:=e0.mod.nolimit.keeps fun b o e=>(e0.bs b o e).1;have hkind:∀y∈ps.zip us,scope.names.lookup y.1=some .local\/(scope.names.lookup y.1=some .cell/\((cellsFrom (s.heap.objs.size+1) scope.names []).lookup y.1).isSome=true):=fun⟨n,v⟩ hy=>by
  rcases S.par n (List.of_mem_zip hy).1 with q|q
  ·exact .inl q
  ·exact .inr ⟨q,W.cellsFrom_some _ _ _ (.inl q)⟩
 refine codeAny_call_function hr.depth (KX _ _ lk) rfl S.co S.gen rfl (W.codeRec_of KX hcd) (hb _ _ _ _ ?_);refine wpAny_newFunctionEnv_cells S.kind hkind fun env he s1 x=> ?_;subst he;refine⟨lim.keeps x.toInCall.keep,codeAny_func ?_⟩;obtain⟨t,ht,hq⟩:=hbody A outer s H vs Q E (hr.deeper _) hsp;have I:Inv (i6 CX P w K mg base N qual scope f cdv A outer s H E) [] (start N vs) H s1:=qD S hr.hd e0 hl r x;refine Dq (ht [] s1 (start N vs) H _ I hq) (fun fl s' hs=> ?_) fun e s' hs=>hs
 have fin:∀{σ' :St}{H' :Hp}{v:V}{u:Value},Inv (i6 CX P w K mg base N qual scope f cdv A outer s H E) [] σ' H' s' ->RelV v u->Q v H' ->CE outer P w H s Q u s' :=
  fun{σ' H' v u} J rv q=>⟨v,H',J.os,J.bare,J.base,J.hok,rv,q⟩
 cases fl with
 | ret u =>
  obtain⟨v,σ',H',J,rv,q⟩:=hs;exact fin J rv q
 | next =>
  obtain⟨σ',H',J,q⟩:=hs;exact fin (v:=V.non) (u:=Value.none) J rfl q
 | brk =>
  obtain⟨_,_,_,q⟩:=hs;exact False.elim q
 | cont =>
  obtain⟨_,_,_,q⟩:=hs;exact False.elim q
section
variable{X:Cx}{x:Str}{p pos:Pos}{e:Expr}{es:List Expr}{t:TA}{id T:String}{r:List V->Hp->VK->Prop}
noncomputable def tCB(r:List V->Hp->VK->Prop)(t:TA):TE:=fun σ H Q=>t σ H fun vs H1=>r vs H1 Q
theorem iE(hc:bK X (.builtin id) r)(hg:Gl X x)(hm:X.mg x=none)(hv:bootBuiltins x=some (.builtin id))(ha:PA X (e::es) t)(hn:x≠"__name__":=by decide)(hdb:(x==("__debug__":Str))=false:=by decide)
  (he:starEach (e::es) X.env=(false,eval e X.env)::starEach es X.env:=by rfl) (hpl:(backTo pos (starEach es X.env)).any (·.1)=false:=by rfl):PE X (.Call (.Name x p) (e::es) [] pos) (tCB r t):=by
 intro pins s σ H Q I h;refine wpAny_Call_Name_kw (cV I hg hm hv ?_ hn hdb);exact PyProof.Rows.callWith_builtin1 (aq (ha pos pins s σ H _ I h) fun us s1 ⟨vs,H1,I1,r1,q1⟩=>hc pins s1 σ H1 vs us Q I1 r1 q1) he hpl
theorem pV(hc:bK X (.type T) r)(hg:Gl X x)(hm:X.mg x=none)(hv:bootBuiltins x=some (.type T))(ha:PA X (e::es) t)(hn:x≠"__name__":=by decide)(hdb:(x==("__debug__":Str))=false:=by decide)
  (he:starEach (e::es) X.env=(false,eval e X.env)::starEach es X.env:=by rfl) (hpl:(backTo pos (starEach es X.env)).any (·.1)=false:=by rfl):PE X (.Call (.Name x p) (e::es) [] pos) (tCB r t):=by
 intro pins s σ H Q I h;refine wpAny_Call_Name_kw (cV I hg hm hv ?_ hn hdb);exact DJ (aq (ha pos pins s σ H _ I h) fun us s1 ⟨vs,H1,I1,r1,q1⟩=>hc pins s1 σ H1 vs us Q I1 r1 q1) he hpl
end
end L2
namespace HT
open PySem PyProof.Rows
noncomputable def lexLt:List Int->List Int->Bool
 | [],[]=>false
 | [],_::_=>true
 | _::_,[]=>false
 | x::xs,y::ys=>if x=y then lexLt xs ys else decide (x<y)
theorem mw(x y:Int)(xs ys:List Int):lexLt (x::xs) (y::ys)=if x=y then lexLt xs ys else decide (x<y):=rfl
theorem ir:lexLt [] []=false:=rfl
theorem iI(y:Int)(ys:List Int):lexLt [] (y::ys)=true:=rfl
theorem iJ(x:Int)(xs:List Int):lexLt (x::xs) []=false:=rfl
theorem tW(A:Around)(s:Shared)(a:Int)(t:Tok)(c:Int)(u:Tok):∃e,SeqAt.EqAt A s (.int a t) (.int c u) e/\(e=true↔a=c) :=
 ⟨(a==c),SeqAt.EqAt.int_int a t c u,by simp⟩
theorem rj(A:Around)(s:Shared)(a:Int)(t:Tok)(c:Int)(u:Tok)(prog:Program)(w:World)(E:Value->Shared->Prop)(Q:Value->Shared->Prop)(h:Q (.bool (decide (a<c))) s) :
  wpAny (model prog w) A (richCompare .Lt (.int a t) (.int c u)) Q E s :=
 (PyProof.Rows.lt_int h:wpAny (model prog w) A (compareOp .Lt (.int a t) (.int c u)) Q E s)
section
open PySem.SeqAt
open PySem.AutoSeq1 (wpAny_loadPart')
open PySem.MeetsSeq PySem.MeetsSeq2 PySem.MeetsSeq3
theorem ik(l b:Addr)(items items2:Array Value)(n n2:Nat)(dd dd2:Option Addr)(sl je:Array (Option Value))(ns ms:List Int)(hi:IntsAre items.toList ns)(hj:IntsAre items2.toList ms) :
  Meets (Builtin.«tuple.__lt__» ⟨[.ref l,.ref b],[]⟩)
   (fun _ R s=>s.heap.get? l=some {cls:=.type "tuple",dict:=dd,data:=.seq items n,slots:=sl}/\s.heap.get? b=some {cls:=.type "tuple",dict:=dd2,data:=.seq items2 n2,slots:=je} /\
    R (.ok (.ret (.bool (lexLt ns ms)))) s) :=
 .of_wp fun prog w A R s h=>by
  obtain⟨hp,g,d,tk,os⟩:=s;obtain⟨hl,hb,h⟩:=h;have f2:=AutoSeq1.sub_tuple_tuple;have z1:items.size=ns.length:=by rw[<- hi.length];simp
  have z2:items2.size=ms.length:=by rw[<- hj.length];simp
  wp_walk using DE hl,DE hb,wpAny_forIn_list _ (fun aJ b s' =>b.1=none/\s' =⟨hp,g,d,tk,os⟩/\∃(vs ws:List Value)(ns' ms' :List Int),aJ=vs.zip ws /\
   IntsAre vs ns' /\IntsAre ws ms' /\ns'.length+items2.size=ms'.length+items.size/\R (.ok (.ret (.bool (lexLt ns' ms')))) ⟨hp,g,d,tk,os⟩) _
  case turn =>
   rintro⟨y,x⟩ aJ b s' ⟨hb',rfl,vs,ws,ns',ms',hz,hvi,hwi,hlen,hR⟩;cases hvi with
   | nil=>rw[List.zip_nil_left]at hz;cases hz
   | cons a t hvi' =>
    cases hwi with
    | nil=>rw[List.zip_nil_right]at hz;cases hz
    | cons c u hwi' =>
     rw[FC]at hz
     injection hz with hyx hrest
     injection hyx with hy hx
     subst hy hx;rw[mw]at hR;simp only[Cv]at hlen;obtain⟨e,he,hiff⟩:=tW A.in1 ⟨hp,g,d,tk,os⟩ a t c u;refine CJ (he prog w _ _ ?_);cases e with
     | true =>
      rw[CQ (hiff.mp rfl)]at hR
      wp_walk
      exact⟨rfl,rfl,_,_,_,_,hrest,hvi',hwi',by omega,hR⟩
     | false =>
      rw[CM (fun q=>absurd (hiff.mpr q) CT)]at hR;have hri:=rj A.in1 ⟨hp,g,d,tk,os⟩ a t c u prog w
      wp_walk using hri
      exact⟨_,rfl,by simpa using hR⟩
  case fin =>
   rintro⟨b1,b2⟩ s' ⟨hb',rfl,vs,ws,ns',ms',hz,hvi,hwi,hlen,hR⟩;simp only at hb';subst hb';have hv:lexLt ns' ms' =decide (items.size<items2.size):=by
    cases hvi with
    | nil =>
     cases hwi with
     | nil =>
      simp only[List.length_nil]at hlen;rw[ir];exact(C6 (by omega)).symm
     | cons c u hw =>
      simp only[List.length_nil,Cv]at hlen;rw[iI];exact(DZ (by omega)).symm
    | cons a t hv =>
     cases hwi with
     | nil =>
      simp only[List.length_nil,Cv]at hlen;rw[iJ];exact(C6 (by omega)).symm
     | cons c u hw =>
      rw[FC]at hz;cases hz
   rw[hv]at hR
   wp_walk
   exact⟨_,rfl,by simpa [Builtin.Tuple.tupleCompareSizes]using hR⟩
  case h =>
   exact⟨rfl,rfl,items.toList,items2.toList,ns,ms,rfl,hi,hj,by omega,h⟩
end
section
variable{prog:Program}{w:World}{A:Around}{E:Value->Shared->Prop}{s:Shared}
theorem mv{l b:Addr}{items items2:Array Value}{ns ms:List Int}{Q:Value->Shared->Prop}(hl:IsTup s.heap l items)(hb:IsTup s.heap b items2)(hi:IntsAre items.toList ns)(hj:IntsAre items2.toList ms)
  (hu:A.units<cLine) (h:Q (.bool (lexLt ns ms)) s):wpAny (model prog w) A (compareOp .Lt (.ref l) (.ref b)) Q E s:=by
 obtain⟨⟨cls,dd,data,sl⟩,ho,hc,n,hd⟩:=id hl;obtain⟨⟨cls2,dd2,data2,je⟩,ho2,hc2,n2,hd2⟩:=id hb;simp only at hc hd hc2 hd2;subst hc hd hc2 hd2
 exact richCompare_meets_room (op:=.Lt) ⟨_,ho,rfl⟩ ⟨_,ho2,rfl⟩ PySem.F.slot_tuple_lt PySem.F.entry_tuple_lt (PySem.F.args_tuple_lt_2 _ _) (ik l b items items2 n n2 dd dd2 sl je ns ms hi hj)
  ⟨ho,ho2,show Value.bool (lexLt ns ms)≠Value.notImplemented/\Q (.bool (lexLt ns ms)) s from⟨(fun x=>nomatch x),h⟩⟩ hu
theorem wD{t b:Addr}{vs ws:List Value}{Q:Value->Shared->Prop}(ht:IsTup s.heap t vs.toArray)(hb:IsTup s.heap b ws.toArray)(hv:vs≠[])
  (h1:ws=[]->Q (.ref t) s) (h2:ws≠[]->Q (.ref s.heap.objs.size) {s with heap:=s.heap.push {cls:=.type "tuple",data:=.seq (vs++ws).toArray}})
  (hsz:vs.length+ws.length<=sizeLine):wpAny (model prog w) A (binaryOp .Add (.ref t) (.ref b)) Q E s:=by
 obtain⟨⟨cls,dd,data,sl⟩,ho,hc,n,hd⟩:=id ht;obtain⟨⟨cls2,dd2,data2,je⟩,ho2,hc2,n2,hd2⟩:=id hb;simp only at hc hd hc2 hd2;subst hc hd hc2 hd2;have e:vs.toArray++ws.toArray=(vs++ws).toArray:=by simp
 by_cases hw:ws=[]
 ·exact concat_meets ⟨_,ho,rfl⟩ ⟨_,ho2,rfl⟩ noFill_tuple_add seq_tuple_add PySem.F.slot_tuple_add PySem.F.entry_tuple_add (FT _ _)
   (tuple_addW1 t b vs.toArray ws.toArray n n2 dd dd2 sl je (by simpa using hv) (by simp[hw])) ⟨ho,ho2,h1 hw⟩
 ·refine concat_meets ⟨_,ho,rfl⟩ ⟨_,ho2,rfl⟩ noFill_tuple_add seq_tuple_add PySem.F.slot_tuple_add PySem.F.entry_tuple_add (FT _ _)
   (tuple_addW2 t b vs.toArray ws.toArray n n2 dd dd2 sl je (by simpa using hv) (by simpa using hw) (by rw[CN,CN];exact hsz)) ⟨ho,ho2,?_⟩
  rw[e];exact h2 hw
noncomputable def bC(n d:Nat):Option Int->Nat
 | none=>d
 | some v=>if v<0 then(v+(n:Int)).toNat else min v.toNat n
theorem rY(n d:Nat):bC n d none=d:=rfl
theorem vC(n d k:Nat):bC n d (some (k:Int))=min k n:=by
 show(if(k:Int)<0 then((k:Int)+(n:Int)).toNat else min (k:Int).toNat n)=min k n;rw[CM (by omega),FQ]
theorem xf(n d:Nat)(hd:d<=n)(o:Option Int):bC n d o<=n:=by
 cases o with
 | none=>exact hd
 | some v =>
  show(if v<0 then(v+(n:Int)).toNat else min v.toNat n)<=n
  by_cases hv:v<0
  ·rw[CQ hv];omega
  ·rw[CM hv];exact Nat.min_le_right _ _
theorem oo(v:Int)(n d:Nat):(if v<0 then max (v+(n:Int)) 0 else min v (n:Int))=((bC n d (some v):Nat):Int):=by
 show(if v<0 then max (v+(n:Int)) 0 else min v (n:Int))=(((if v<0 then(v+(n:Int)).toNat else min v.toNat n):Nat):Int)
 by_cases hv:v<0
 ·simp only[CQ hv];omega
 ·simp only[CM hv];omega
theorem ni(lo hi:Option Int)(n:Nat):Builtin.Slice.sliceAdjust lo hi 1 (n:Int)=(((bC n 0 lo:Nat):Int),((bC n n hi:Nat):Int)):=by
 have h1:¬((1:Int)<0):=by omega
 unfold Builtin.Slice.sliceAdjust;simp only[h1,Em];refine Prod.ext ?_ ?_
 ·cases lo with
  | none=>rfl
  | some v=>exact oo v n 0
 ·cases hi with
  | none=>rfl
  | some v=>exact oo v n n
theorem ma(i j:Nat):Builtin.Slice.slicePlaces (i:Int) (j:Int) 1=j-i:=by
 unfold Builtin.Slice.slicePlaces;have h1:(1:Int)>0:=by omega
 simp only[h1,Ei,Int.ediv_one]
 split<;>omega
theorem g9{v:Value}{o:Option Int}{Q:Option Int->Shared->Prop}(p:IsPart v o)(h:Q o s):wpAny (model prog w) A (Builtin.Slice.slicePartIndex v) Q E s:=by
 cases p with
 | none=>exact slicePart_none h
 | int i t=>exact slicePart_int h
theorem cZ{sl:Addr}{vl vu:Value}{lo hi:Option Int}{n:Nat}{Q:Int×Int×Nat->Shared->Prop}(hs:s.heap.IsSliceOf sl vl vu .none)(pl:IsPart vl lo)(pu:IsPart vu hi)
  (h:Q (((bC n 0 lo:Nat):Int),1,bC n n hi-bC n 0 lo) s):wpAny (model prog w) A (Builtin.Slice.sliceApplied (.ref sl) (pure (n:Int))) Q E s:=by
 obtain⟨os,hos,hcs,hds⟩:=id hs;unfold Builtin.Slice.sliceApplied Builtin.Slice.sliceFields;refine CJ (CJ (Eh hos hds (x:=vl) rfl (CJ (Eh hos hds (x:=vu) rfl (CJ (Eh hos hds (x:=.none) rfl (Ce ?_)))))));refine CJ (slicePart_none ?_);show wpAny _ _ (if((1:Int)==0)=true then _ else _) _ _ s;rw[CM (by decide)];refine CJ (g9 pl (CJ (g9 pu (CJ (Ce ?_)))));show wpAny _ _ (match Builtin.Slice.sliceAdjust lo hi 1 (n:Int)with|(lo,hi)=>pure (lo,(1:Int),Builtin.Slice.slicePlaces lo hi 1)) _ _ s;rw[ni lo hi n];show wpAny _ _ (pure (((bC n 0 lo:Nat):Int),(1:Int),Builtin.Slice.slicePlaces ((bC n 0 lo:Nat):Int) ((bC n n hi:Nat):Int) 1)) _ _ s;rw[ma];exact Ce h
theorem sE(xs:Array Value)(i k:Nat):((List.range k).filterMap fun(m:Nat)=>xs[((i:Int)+(m:Int)*1).toNat]?).toArray=((xs.toList.drop i).take k).toArray:=by
 have e:(fun(m:Nat)=>xs[((i:Int)+(m:Int)*1).toNat]?)=fun m=>xs[i+m]? :=by
  funext m
  have:((i:Int)+(m:Int)*1).toNat=i+m:=by omega
  rw[this]
 rw[e];have:=pick_run xs i k;rw[List.filterMap_map]at this;have e2:((fun x=>xs[x]?)∘fun x=>i+x)=fun m=>xs[i+m]? :=rfl;rw[e2]at this;rw[this]
theorem fF{t sl:Addr}{items:Array Value}{vl vu:Value}{lo hi:Option Int}{Q:Value->Shared->Prop}(ht:IsTup s.heap t items)(hs:s.heap.IsSliceOf sl vl vu .none)(pl:IsPart vl lo)(pu:IsPart vu hi)
  (hw:¬(bC items.size 0 lo=0/\bC items.size items.size hi=items.size))
  (h:Q (.ref s.heap.objs.size) {s with heap:=s.heap.push {cls:=.type "tuple",data:=.seq ((items.toList.drop (bC items.size 0 lo)).take (bC items.size items.size hi-bC items.size 0 lo)).toArray}})
  (hsz:items.size<=sizeLine):wpAny (model prog w) A (getItem (.ref t) (.ref sl)) Q E s:=by
 have htake:sizeOk (.seq ((items.toList.drop (bC items.size 0 lo)).take (bC items.size items.size hi-bC items.size 0 lo)).toArray):=by
  show((items.toList.drop (bC items.size 0 lo)).take (bC items.size items.size hi-bC items.size 0 lo)).toArray.size<=sizeLine;rw[CN,DI,EG,Ci];omega
 have hj:bC items.size items.size hi<=items.size:=xf _ _ (CO _) hi;obtain⟨os,hos,hcs,hds⟩:=id hs;have hTs:s.TypeIs (.ref sl) "slice":=⟨os,hos,hcs⟩;unfold getItem
 try with_reducible refine EJ ?_
 first|refine CJ (Ce ?_)|skip
 refine CJ (wpAny_sequenceKey ht.typeIs (by decide) ?_)
 refine CJ (Et (name:=Str.ofString "__getitem__") ht.typeIs DP
  (EL DP ht.typeIs entry_tuple_getitem ?_ (args_tuple_getitem _ _)))
 show wpAny _ _ (Builtin.Tuple.tupleItemsOf (.ref t) >>= _) _ _ s;refine CJ (tupleItemsOf_ ht ?_);refine CJ (wpAny_typeOf hTs ?_);rw[CQ (by decide)];refine CJ (cZ hs pl pu ?_);have hno:¬((((bC items.size 0 lo:Nat):Int)==0&&(1:Int)==1&&(bC items.size items.size hi-bC items.size 0 lo)==items.size)=true):=by
  intro q;rw[CK,CK]at q;have q1:((bC items.size 0 lo:Nat):Int)=0:=Cy q.1.1;have q2:bC items.size items.size hi-bC items.size 0 lo=items.size:=Cy q.2;exact hw ⟨by omega,by omega⟩
 show wpAny _ _ (if(((bC items.size 0 lo:Nat):Int)==0&&(1:Int)==1&&(bC items.size items.size hi-bC items.size 0 lo)==items.size)=true then _ else _) _ _ s;rw[CM hno,sE]
 first
  | exact CJ (m:=Builtin.Tuple.tupleExact _) (EC (Ce ⟨_,rfl,Ce h⟩) htake)
  | exact CJ (m:=Builtin.Tuple.tupleExact _) (EC (CJ (Ce (Ce ⟨_,rfl,Ce h⟩))) htake)
  | exact CJ (CJ (m:=Builtin.Tuple.tupleExact _) (EC (Ce (Ce ⟨_,rfl,Ce h⟩)) htake))
  | exact CJ (CJ (m:=Builtin.Tuple.tupleExact _) (EC (Ce ⟨_,rfl,Ce h⟩) htake))
end
end HT
namespace L2
open PySem PySem.Spec PyProof.Rows
noncomputable abbrev TO:=St->Hp->(Option Int->Hp->Prop)->Prop
noncomputable def PO(X:Cx)(e:Option Expr)(t:TO):Prop :=
 ∀(pins:List (Addr×Obj))(s:Shared)(σ:St)(H:Hp)(Q:Option Int->Hp->Prop),Inv X pins σ H s->t σ H Q ->
  wpAny (model X.prog X.w) X.A (evalPart e X.env) (fun u s' =>∃o H',Inv X pins σ H' s' /\IsPart u o/\Q o H') X.xe s
noncomputable def uw:TO:=fun _ H Q=>Q none H
noncomputable def Ad(t:TE):TO:=fun σ H Q=>t σ H fun x H1=>∃i,x=.int i/\Q (some i) H1
theorem intsAre_of{ns:List Int}:∀{us:List Value},aK (ns.map V.int) us->IntsAre us ns:=by
 induction ns with
 | nil=>intro us r;rw[DS]at r;cases r;exact .nil
 | cons n ns ih =>
  intro us r;rw[Cc]at r;cases r with
  | cons r1 r2 =>
   obtain⟨t,e⟩:=r1;subst e;exact .cons n t (ih r2)
section
variable{X:Cx}{e:Expr}{te:TE}{lo hi:Option Expr}{tl th:TO}{pos p2:Pos}
theorem vO:PO X none uw:=by
 intro pins s σ H Q I h;rw[evalPart_none];exact Ce ⟨none,H,I,.none,h⟩
theorem vN(h:PE X e te):PO X (some e) (Ad te):=by
 intro pins s σ H Q I hw;rw[evalPart_some];refine aq (h pins s σ H _ I hw) fun u s1 hpq=> ?_;obtain⟨x,H1,I1,r1,q1⟩:=hpq;obtain⟨i,rfl,q⟩:=q1;obtain⟨t,rfl⟩:=r1;exact⟨some i,H1,I1,.int i t,q⟩
noncomputable def AO(X:Cx)(r:V->Option Int->Option Int->Hp->VK->Prop):Prop :=
 ∀(pins:List (Addr×Obj))(s:Shared)(σ:St)(H:Hp)(x:V)(v vl vu:Value)(lo hi:Option Int)(sl:Addr)(Q:VK),Inv X pins σ H s->RelV x v->s.heap.IsSliceOf sl vl vu .none->IsPart vl lo->IsPart vu hi->r x lo hi H Q ->
  ∃T id,typeLookup (.type T) "__getitem__"=pure (some (.builtin id))/\s.TypeIs v T/\wpAny (model X.prog X.w) X.A (getItem v (.ref sl)) (EP X pins σ Q) X.xe s
noncomputable def tSl(r:V->Option Int->Option Int->Hp->VK->Prop)(te:TE)(tl th:TO):TE:=fun σ H Q=>te σ H fun x H1=>tl σ H1 fun l H2=>th σ H2 fun u H3=>r x l u H3 Q
theorem sN{r:V->Option Int->Option Int->Hp->VK->Prop}(hr:AO X r)(he:PE X e te)(hl:PO X lo tl)(hu:PO X hi th):PE X (.Subscript e (.Slice lo hi none p2) pos) (tSl r te tl th):=by
 intro pins s σ H Q I h;refine Subscript_ (aq (he pins s σ H _ I h) fun v s1 hpq=> ?_);obtain⟨x,H1,I1,r1,q1⟩:=hpq;refine wpAny_Slice (aq (hl pins s1 σ H1 _ I1 q1) fun vl s2 ⟨l,H2,I2,pl,q2⟩=>aq (hu pins s2 σ H2 _ I2 q2) fun vu s3 hpq=> ?_);obtain⟨u,H3,I3,pu,q3⟩:=hpq;rw[evalPart_none];refine Ce ?_;have I4:Inv X pins σ H3 {s3 with heap:=s3.heap.push {cls:=.type "slice",data:=.fields #[vl,vu,.none]}}:=I3.kept (t' :=s3.toks) fun b ob q=>CL _ q;obtain⟨T,id,hT,ht,hg⟩:=hr pins {s3 with heap:=s3.heap.push {cls:=.type "slice",data:=.fields #[vl,vu,.none]}} σ H3 x v vl vu l u s3.heap.objs.size Q I4 r1 (Heap.IsSliceOf.new ..) pl pu q3;show wpAny (model X.prog X.w) X.A (subscriptTail e (.Slice lo hi none p2) v (.ref s3.heap.objs.size)) (EP X pins σ Q) X.xe {s3 with heap:=s3.heap.push {cls:=.type "slice",data:=.fields #[vl,vu,.none]}};exact tail_any (ops:=[.ref s3.heap.objs.size,v]) ht hT hg (by with_unfolding_all rfl)
noncomputable def lU(xs:List V)(lo hi:Option Int):List V:=(xs.drop (HT.bC xs.length 0 lo)).take (HT.bC xs.length xs.length hi-HT.bC xs.length 0 lo)
theorem gH(xs:List V)(lo hi:Option Int):(lU xs lo hi).length<=xs.length:=by
 unfold lU;rw[DI,EG];omega
noncomputable def rSlT(K:W.Frag):V->Option Int->Option Int->Hp->VK->Prop:=fun x lo hi H Q=>∃a xs,x=.ref a/\bQ K H a xs /\
 ¬(HT.bC xs.length 0 lo=0/\HT.bC xs.length xs.length hi=xs.length)/\∀p,H p=none->Q (.ref p) (upd H p (.tup (lU xs lo hi)))
theorem xY:AO X (rSlT X.K):=by
 intro pins s σ H x v vl vu lo hi sl Q I rx hs pl pu h;obtain⟨a,xs,rfl,hx,hw,q⟩:=h;cases rx;obtain⟨its,r,ht,hz⟩:=I.tuple hx;have hlen:its.toArray.size=xs.length:=by rw[CN];exact r.length.symm
 refine⟨"tuple",_,DP.lookup,ht.typeIs,?_⟩;refine HT.fF ht hs pl pu (by rw[hlen];exact hw) ?_ (by rw[hlen];exact hz);rw[hlen];refine⟨.ref s.heap.objs.size,_,I.laid (t' :=s.toks) (o:=.tup (lU xs lo hi)) (fun b ob q=>CL _ q) (CO _) ?_,rfl,q _ (I.hok.fresh (CO _))⟩;exact⟨DF (gH xs lo hi) hz,_,(r.drop (HT.bC xs.length 0 lo)).take (HT.bC xs.length xs.length hi-HT.bC xs.length 0 lo),dD.new _ _⟩
noncomputable def rLtT(K:W.Frag):R2:=fun x y H Q=>∃a b ns ms,x=.ref a/\y=.ref b/\bQ K H a (ns.map V.int)/\bQ K H b (ms.map V.int)/\Q (.bl (HT.lexLt ns ms)) H
theorem sV(hu:X.A.units<cLine):dM X (compareOp .Lt) (rLtT X.K):=by
 intro pins s σ H x y v u Q I rx ry h;obtain⟨a,b,ns,ms,rfl,rfl,ha,hb,q⟩:=h;cases rx;cases ry;obtain⟨its,r1,p1,_⟩:=I.tuple ha;obtain⟨its2,r2,p2,_⟩:=I.tuple hb;have i1:IntsAre its.toArray.toList ns:=intsAre_of r1;have i2:IntsAre its2.toArray.toList ms:=intsAre_of r2;exact HT.mv p1 p2 i1 i2 hu ⟨.bl (HT.lexLt ns ms),H,I,rfl,q⟩
noncomputable def Ay(K:W.Frag):R2:=fun x y H Q=>∃a b xs ys,x=.ref a/\y=.ref b/\bQ K H a xs/\bQ K H b ys/\xs≠[]/\xs.length+ys.length<=sizeLine /\
 (ys=[]->Q (.ref a) H)/\(ys≠[]->∀p,H p=none->Q (.ref p) (upd H p (.tup (xs++ys))))
theorem aK.nil_iff{xs:List V}{us:List Value}(r:aK xs us):us=[]↔xs=[]:=by
 cases r with
 | nil=>simp
 | cons _ _=>simp
theorem vW:dM X (binaryOp .Add) (Ay X.K):=by
 intro pins s σ H x y v u Q I rx ry h;obtain⟨a,b,xs,ys,rfl,rfl,ha,hb,hx,hz,q1,q2⟩:=h;cases rx;cases ry;obtain⟨its,r1,p1,_⟩:=I.tuple ha;obtain⟨its2,r2,p2,_⟩:=I.tuple hb;refine HT.wD p1 p2 (fun z=>hx (r1.nil_iff.mp z)) (fun z=>⟨.ref a,H,I,rfl,q1 (r2.nil_iff.mp z)⟩) (fun z=> ?_) (by rw[<- r1.length,<-r2.length];exact hz);refine⟨.ref s.heap.objs.size,_,I.laid (t' :=s.toks) (o:=.tup (xs++ys)) (fun b ob q=>CL _ q) (CO _) ?_,rfl,q2 (fun w=>z (r2.nil_iff.mpr w)) _ (I.hok.fresh (CO _))⟩;exact⟨by rw[CP];exact hz,_,r1.append r2,dD.new _ _⟩
end
noncomputable def tF(n:Nat)(i:Int):Option Nat:=if 0<=i then(if i<n then some i.toNat else none)else if -(n:Int)<=i then some (i+n).toNat else none
noncomputable def dc{α:Type}(xs:List α)(i:Int):Option α:=(tF xs.length i).bind fun j=>xs[j]?
theorem oR{n:Nat}{i:Int}{j:Nat}(h:tF n i=some j):seqIndex? i n=some j/\j<n/\ -(n:Int)<=i/\i<n:=by
 unfold tF at h
 by_cases h0:0<=i
 ·rw[CQ h0]at h
  by_cases h1:i<n
  ·rw[CQ h1]at h
   have e:i.toNat=j:=Cq h;exact⟨by rw[seqIndex_of h0 h1,e],by omega,by omega,h1⟩
  ·rw[CM h1]at h;cases h
 ·rw[CM h0]at h
  by_cases h1: -(n:Int)<=i
  ·rw[CQ h1]at h
   have e:(i+n).toNat=j:=Cq h;exact⟨by rw[seqIndex_neg (by omega) h1,e],by omega,h1,by omega⟩
  ·rw[CM h1]at h;cases h
theorem kF{α:Type}{xs:List α}{i:Int}{v:α}(h:dc xs i=some v):∃j,seqIndex? i xs.length=some j/\xs[j]? =some v/\j<xs.length/\ -(xs.length:Int)<=i/\i<xs.length:=by
 unfold dc at h;cases e:tF xs.length i with
 | none=>rw[e]at h;cases h
 | some j =>
  rw[e]at h;obtain⟨h1,h2,h3,h4⟩:=oR e;exact⟨j,h1,h,h2,h3,h4⟩
theorem cN{α:Type}{xs:List α}{j:Nat}{v:α}(h:xs[j]? =some v):dc xs (j:Int)=some v:=by
 have hj:j<xs.length:=(CY.mp h).1;have e:tF xs.length (j:Int)=some j:=by
  unfold tF;rw[CQ (by omega),CQ (by omega)];simp
 unfold dc;rw[e];exact h
noncomputable def o7(b:Expr):Prop:=∀o i,subscripted b false o i=operate [o,i] (getItem o i)
noncomputable def CA(X:Cx)(r:R2):Prop :=
 ∀(value slice:Expr)(pins:List (Addr×Obj))(s:Shared)(σ:St)(H:Hp)(x y:V)(v u:Value)(Q:VK),Inv X pins σ H s->RelV x v->RelV y u->r x y H Q ->
  subscripted slice false v u=operate [v,u] (getItem v u)->wpAny (model X.prog X.w) X.A (subscriptTail value slice v u) (EP X pins σ Q) X.xe s
noncomputable def MtR(X:Cx)(id:String)(r:V->List V->Hp->VK->Prop):Prop :=
 ∀(pins:List (Addr×Obj))(s:Shared)(σ:St)(H:Hp)(x:V)(xs:List V)(v:Value)(us:List Value)(Q:VK),Inv X pins σ H s->RelV x v->aK xs us->r x xs H Q ->
  wpAny (model X.prog X.w) X.A (call (.builtin id) (v::us)) (EP X pins σ Q) X.xe s
section
variable{X:Cx}{a b:Expr}{ta tb:TE}{pos:Pos}
theorem wn{r:R2}(hr:CA X r)(ha:PE X a ta)(hb:PE X b tb)(hs:o7 b):PE X (.Subscript a b pos) (tOp r ta tb):=by
 intro pins s σ H Q I h;exact Subscript_ (zY ha hb I h fun v u s2 x y H2 I2 rx ry q=>hr a b pins s2 σ H2 x y v u Q I2 rx ry q (hs _ _))
noncomputable def rIxL(K:W.Frag):R2:=fun x y H Q=>∃p xs i v,x=.ref p/\y=.int i/\ao K H p xs/\dc xs i=some v/\Q v H
noncomputable def rIxT(K:W.Frag):R2:=fun x y H Q=>∃p xs i v,x=.ref p/\y=.int i/\bQ K H p xs/\dc xs i=some v/\Q v H
noncomputable def rIxS:R2:=fun x y H Q=>∃z i c,x=.str z/\y=.int i/\z.length<=sizeLine/\dc z.cps.toList i=some c/\Q (.str ⟨#[c]⟩) H
theorem gm:CA X (rIxL X.K):=by
 intro value slice pins s σ H x y v u Q I rx ry h hs;obtain⟨p,xs,i,z,rfl,rfl,hq,he,q⟩:=h;cases rx;obtain⟨t,rfl⟩:=ry;obtain⟨its,r,pl,hz⟩:=I.list hq;obtain⟨j,h1,h2,h3,h4,h5⟩:=kF he;obtain⟨w,ew,rw'⟩:=r.get h2;have hl:=r.length;have hn:=eK;have fin:EP X pins σ Q w s:=⟨z,H,I,rw',q⟩
 by_cases h0:0<=i
 ·have hj:i.toNat=j:=by
   rw[seqIndex_of h0 h5]at h1;exact Cq h1
  exact item_listR pl.isList h0 (by omega) (by rw[hj];simpa using ew) fin hs
 ·have hj:(i+(its.toArray.size:Int)).toNat=j:=by
   rw[seqIndex_neg (by omega) h4]at h1;rw[CN,<-hl];exact Cq h1
  exact subscriptTail_builtinR (x:=w) pl.isList.typeIs slot_list_getitem.lookup
   (wpAny_getItem_list_neg (Q:=fun r s' =>r=w/\EP X pins σ Q r s') pl.isList (by omega) (by rw[CN]<;>omega) (by omega) (by rw[hj];simpa using ew) ⟨rfl,fin⟩) hs
theorem tE:CA X (rIxT X.K):=by
 intro value slice pins s σ H x y v u Q I rx ry h hs;obtain⟨p,xs,i,z,rfl,rfl,hq,he,q⟩:=h;cases rx;obtain⟨t,rfl⟩:=ry;obtain⟨its,r,pl,hz⟩:=I.tuple hq;obtain⟨j,h1,h2,h3,h4,h5⟩:=kF he;obtain⟨w,ew,rw'⟩:=r.get h2;have hl:=r.length;have hn:=eK;have fin:EP X pins σ Q w s:=⟨z,H,I,rw',q⟩
 exact subscriptTail_builtinR (x:=w) pl.typeIs slot_tuple_getitem.lookup
  (getItem_tuple (j:=j) (Q:=fun r s' =>r=w/\EP X pins σ Q r s') pl (by omega) (by omega) (by rw[CN,<-hl];exact h1) (by simpa using ew) ⟨rfl,fin⟩) hs
theorem yo:CA X rIxS:=by
 intro value slice pins s σ H x y v u Q I rx ry h hs;obtain⟨z,i,c,rfl,rfl,hz,he,q⟩:=h;obtain⟨t,rfl⟩:=rx;obtain⟨t',rfl⟩:=ry;obtain⟨j,h1,h2,h3,h4,h5⟩:=kF he;have hl:z.cps.toList.length=z.length:=by simp[Str.length]
 rw[hl]at h1 h4 h5;have hn:=eK
 exact tail_any (typeIs_str s z t) slot_str_getitem.lookup (getItem_str (c:=c) (by
  have e1:decide (i< -(2^63:Int))=false:=C6 (by omega);have e2:decide (i ≥ 2^63)=false:=C6 (by omega);rw[e1,e2,Bool.or_false]) (by rw[h1];simpa using h2) ⟨.str ⟨#[c]⟩,H,I.tok _,⟨_,rfl⟩,q⟩) hs
theorem mq(its:List Value)(n j:Nat)(u:Value):Obj.mapSeq (·.setIfInBounds j u) {cls:=.type "list",data:=.seq its.toArray n}={cls:=.type "list",data:=.seq (its.set j u).toArray n}:=by
 simp[Obj.mapSeq]
theorem Inv.lst{pins:List (Addr×Obj)}{σ:St}{H:Hp}{s:Shared}{p:Addr}{xs:List V}(I:Inv X pins σ H s)(h:H p=some (.lst xs)) :
  ∃(its:List Value)(n:Nat),aK xs its/\s.heap.get? p=some {cls:=.type "list",data:=.seq its.toArray n}/\xs.length<=sizeLine:=by
 obtain⟨z,its,n,r,e⟩:=I.hok p _ h;exact⟨its,n,r,e,z⟩
theorem Inv.lstUpd{pins:List (Addr×Obj)}{σ:St}{H:Hp}{s:Shared}{p:Addr}{xs ys:List V}{its its' :List Value}{n n' :Nat}{f:Obj->Obj}(I:Inv X pins σ H s)(h:H p=some (.lst xs))
  (ho:s.heap.get? p=some {cls:=.type "list",data:=.seq its.toArray n}) (hf:f {cls:=.type "list",data:=.seq its.toArray n}={cls:=.type "list",data:=.seq its'.toArray n'}) (r:aK ys its') (hz:ys.length<=sizeLine) (t:Nat) :
  Inv X pins σ (upd H p (.lst ys)) {s with heap:=s.heap.update p f,toks:=t}:=by
 have e:(s.heap.update p f).get? p=some {cls:=.type "list",data:=.seq its'.toArray n'}:=by
  rw[Heap.get?_update_self f ho (by rw[hf]<;>rfl),hf]
 refine I.write (x:=p) (e:=p) (by rw[h];trivial) (.inl rfl) (fun b u hb q=>(Ex _ _ (FK hb)).trans q) ⟨_,e⟩ ?_;exact⟨hz,its',n',r,e⟩
noncomputable def Au:V->V->V->Hp->(Hp->Prop)->Prop:=fun o i v H Q=>∃p xs k j,o=.ref p/\i=.int k/\H p=some (.lst xs)/\tF xs.length k=some j/\Q (upd H p (.lst (xs.set j v)))
theorem rX:B8 X Au:=by
 intro pins s σ H o i v ov iv u Q I ro ri rv h;obtain⟨p,xs,k,j,rfl,rfl,hp,hj,q⟩:=h;cases ro;obtain⟨t,rfl⟩:=ri;obtain⟨its,n,r,ho,hz⟩:=I.lst hp;obtain⟨h1,h2,h3,h4⟩:=oR hj;have hl:=r.length;have hn:=eK
 have I' :Inv X pins σ (upd H p (.lst (xs.set j v))) {s with heap:=s.heap.update p (Obj.mapSeq (·.setIfInBounds j u))} :=
  I.lstUpd hp ho (mq its n j u) (r.set rv j) (by rw[Dg];exact hz) s.toks
 by_cases h0:0<=k
 ·have hk:k.toNat=j:=by
   rw[seqIndex_of h0 h4]at h1;exact Cq h1
  exact W.ki_setAt ho h0 (by omega) (by rw[CN,<-hl];exact h4) (by rw[hk];exact⟨_,I',q⟩)
 ·have hk:(k+(its.toArray.size:Int)).toNat=j:=by
   rw[seqIndex_neg (by omega) h3]at h1;rw[CN,<-hl];exact Cq h1
  exact W.ki_setBack ho (by omega) (by rw[CN,<-hl];exact h3) (by omega) (by rw[hk];exact⟨_,I',q⟩)
theorem jd(lo hi:Option Int)(n:Nat):(sliceBounds lo hi none n).1=((HT.bC n 0 lo:Nat):Int)/\(sliceBounds lo hi none n).2.1=((HT.bC n n hi:Nat):Int)/\(sliceBounds lo hi none n).2.2=1:=by
 refine⟨?_,?_,rfl⟩
 ·cases lo with
  | none=>simp[sliceBounds,HT.bC]
  | some i =>
   simp only[sliceBounds,HT.bC,Option.getD_none,show(1:Int)>0 by decide,Ei]
   by_cases h:i<0
   ·simp only[h,Ei]<;>omega
   ·simp only[h,Em]<;>omega
 ·cases hi with
  | none=>simp[sliceBounds,HT.bC]
  | some i =>
   simp only[sliceBounds,HT.bC,Option.getD_none,show(1:Int)>0 by decide,Ei]
   by_cases h:i<0
   ·simp only[h,Ei]<;>omega
   ·simp only[h,Em]<;>omega
theorem io(its:List Value)(lo hi:Option Int):slicePick its.toArray lo hi none=((its.drop (HT.bC its.length 0 lo)).take (HT.bC its.length its.length hi-HT.bC its.length 0 lo)).toArray:=by
 obtain⟨h1,h2,h3⟩:=jd lo hi its.toArray.size;unfold slicePick;rw[h1,h2,h3];simp only[sliceRange_one,pick_run,CN]<;>rfl
noncomputable def rSlL(K:W.Frag):V->Option Int->Option Int->Hp->VK->Prop:=fun x lo hi H Q=>∃a xs,x=.ref a/\ao K H a xs/\∀p,H p=none->Q (.ref p) (upd H p (.lst (lU xs lo hi)))
theorem uz:AO X (rSlL X.K):=by
 intro pins s σ H x v vl vu lo hi sl Q I rx hs pl pu h;obtain⟨a,xs,rfl,hx,q⟩:=h;cases rx;obtain⟨its,r,ht,hz⟩:=I.list hx;have hlen:=r.length;refine⟨"list",_,slot_list_getitem.lookup,ht.isList.typeIs,?_⟩;refine wpAny_getItem_list_slice ht.isList hs pl pu .none (by simp) ?_ (by rw[CN]<;>omega);rw[io,<-hlen];refine⟨.ref s.heap.objs.size,_,I.laid (t' :=s.toks) (o:=.lst (lU xs lo hi)) (fun b ob q=>CL _ q) (CO _) ?_,rfl,q _ (I.hok.fresh (CO _))⟩;exact⟨DF (gH xs lo hi) hz,_,0,(r.drop (HT.bC xs.length 0 lo)).take (HT.bC xs.length xs.length hi-HT.bC xs.length 0 lo),Co _ rfl⟩
theorem fJ:bK X (.builtin "len") (fun xs H Q=>∃p ys,xs=[.ref p]/\(ao X.K H p ys\/bQ X.K H p ys)/\Q (.int ys.length) H):=by
 intro pins s σ H xs us Q I r h;obtain⟨p,ys,rfl,hq,q⟩:=h;obtain⟨u,rfl,rx⟩:=vals1 r;cases rx;have hn:=eK
 rcases hq with hq|hq
 ·obtain⟨its,r',pl,hz⟩:=I.list hq
  have hlen:=r'.length;exact Calls.call_len_list pl.isList (by simp only[CN]<;>omega) ⟨.int ys.length,H,I.tok _,⟨s.toks+1,by rw[CN,hlen]⟩,q⟩
 ·obtain⟨its,r',pl,hz⟩:=I.tuple hq
  have hlen:=r'.length;exact len_tuple pl (by simp only[CN]<;>omega) ⟨.int ys.length,H,I.tok _,⟨s.toks+1,by rw[CN,hlen]⟩,q⟩
theorem kB:bK X (.builtin "len") (fun xs H Q=>∃z,xs=[.str z]/\z.length<=sizeLine/\Q (.int z.length) H):=by
 intro pins s σ H xs us Q I r h;obtain⟨z,rfl,hz,q⟩:=h;obtain⟨u,rfl,t,rfl⟩:=vals1 r;have hn:=eK;exact len_str (by omega) ⟨.int z.length,H,I.tok _,⟨_,rfl⟩,q⟩
theorem kA:bK X (.type "list") (fun xs H Q=>∃p ys,xs=[.ref p]/\(ao X.K H p ys\/bQ X.K H p ys)/\∀l,H l=none->Q (.ref l) (upd H l (.lst ys))):=by
 intro pins s σ H xs us Q I r h;obtain⟨p,ys,rfl,hq,q⟩:=h;obtain⟨u,rfl,rx⟩:=vals1 r;cases rx
 have fin:∀(its:List Value),aK ys its->ys.length<=sizeLine->∀(h' :Heap)(c' :Nat),(∀b o',s.heap.get? b=some o' ->h'.get? b=some o') ->
   h'.get? s.heap.objs.size=some {cls:=.type "list",dict:=none,data:=.seq its.toArray c',slots:= #[]}->EP X pins σ Q (.ref s.heap.objs.size) {s with heap:=h'}:=fun its r' hz h' c' kp e =>
  ⟨.ref s.heap.objs.size,_,I.laid (t' :=s.toks) kp (CO _) (show ai X.prog X.w _ h' _ (.lst ys)from⟨hz,its,c',r',e⟩),rfl,q _ (I.hok.fresh (CO _))⟩
 rcases hq with hq|hq
 ·obtain⟨its,r',pl,hz⟩:=I.list hq
  have hlen:=r'.length;obtain⟨o,ho,hc,n,hd⟩:=pl.isList;exact call_list_seq p (.inl rfl) ho hc hd (fun h' c' kp e=>fin its r' hz h' c' kp e) (by simp only[CN]<;>omega)
 ·obtain⟨its,r',pl,hz⟩:=I.tuple hq
  have hlen:=r'.length;obtain⟨o,ho,hc,n,hd⟩:=pl;exact call_list_seq p (.inr rfl) ho hc hd (fun h' c' kp e=>fin its r' hz h' c' kp e) (by simp only[CN]<;>omega)
theorem i9:bK X (.type "tuple") (fun xs H Q=>∃p ys,xs=[.ref p]/\((ao X.K H p ys/\∀l,H l=none->Q (.ref l) (upd H l (.tup ys)))\/(bQ X.K H p ys/\Q (.ref p) H))):=by
 intro pins s σ H xs us Q I r h;obtain⟨p,ys,rfl,h⟩:=h;obtain⟨u,rfl,rx⟩:=vals1 r;cases rx
 rcases h with⟨hq,q⟩|⟨hq,q⟩
 ·obtain⟨its,r',pl,hz⟩:=I.list hq
  have hlen:=r'.length;refine call_tuple_list pl.isList (fun h' kp=> ?_) (by simp only[CN]<;>omega);have I1:Inv X pins σ H {s with heap:=h'}:=I.kept (t' :=s.toks) kp
  have I2:Inv X pins σ (upd H h'.objs.size (.tup ys)) {s with heap:=h'.push {cls:=.type "tuple",data:=.seq its.toArray}} :=
   I1.laid (t' :=s.toks) (fun b o e=>CL _ e) (CO _) (show ai X.prog X.w _ _ _ (.tup ys)from⟨hz,its,r',dD.new _ _⟩)
  exact⟨.ref h'.objs.size,_,I2,rfl,q _ (I1.hok.fresh (CO _))⟩
 ·obtain⟨its,r',pl,hz⟩:=I.tuple hq
  exact call_tuple_same pl ⟨.ref p,H,I,rfl,q⟩
noncomputable def tyV(K:W.Frag)(T:String)(x:V)(H:Hp):Prop:=match x with
 | .str _=>T="str"
 | .int _=>T="int"
 | .ref p=>(T="list"/\∃xs,ao K H p xs)\/(T="tuple"/\∃xs,bQ K H p xs) \/
   (T="dict"/\((∃kvs,H p=some (.dK kvs))\/∃kvs,H p=some (.dT kvs)))\/(T="set"/\∃S n,H p=some (.set S n))
 | _=>False
theorem qy{pins:List (Addr×Obj)}{σ:St}{H:Hp}{s:Shared}{T:String}{x:V}{v:Value}(I:Inv X pins σ H s)(r:RelV x v)(ty:tyV X.K T x H) :
  s.TypeIs v T/\∀a,v=.ref a->∃ob,s.heap.get? a=some ob/\ob.dict=none:=by
 cases x with
 | str z =>
  obtain⟨t,rfl⟩:=r;cases(show T="str" from ty);exact⟨typeIs_str s z t,fun _ e=>nomatch e⟩
 | int i =>
  obtain⟨t,rfl⟩:=r;cases(show T="int" from ty);exact⟨typeIs_int s i t,fun _ e=>nomatch e⟩
 | ref p =>
  cases r
  rcases ty with⟨rfl,xs,hq⟩|⟨rfl,xs,hq⟩|⟨rfl,hk⟩|⟨rfl,S,n,hk⟩
  ·obtain⟨its,_,pl,_⟩:=I.list hq
   refine⟨pl.isList.typeIs,fun a e=> ?_⟩;cases e;obtain⟨o,n,e,c,hd,_⟩:=pl;exact⟨o,e,hd⟩
  ·obtain⟨o,e1,e2,e3⟩:=I.tupleD hq
   refine⟨⟨o,e1,e2⟩,fun a e=> ?_⟩;cases e;exact⟨o,e1,e3⟩
  ·have z:∃o,s.heap.get? p=some o/\o.ExactDict:=by
    rcases hk with⟨kvs,hk⟩|⟨kvs,hk⟩
    ·obtain⟨_,_,_,_,o,_,_,e,ex,_⟩:=I.hok p _ hk
     exact⟨o,e,ex⟩
    ·obtain⟨_,_,_,_,o,_,_,e,ex,_⟩:=I.hok p _ hk
     exact⟨o,e,ex⟩
   obtain⟨o,e,ex⟩:=z;refine⟨⟨o,e,ex.1⟩,fun a e2=> ?_⟩;cases e2;exact⟨o,e,ex.2.1⟩
  ·obtain⟨o,_,_,_,e,ex,_⟩:=I.hok p _ hk
   refine⟨⟨o,e,ex.1⟩,fun a e2=> ?_⟩;cases e2;exact⟨o,e,ex.2.1⟩
 | _=>exact False.elim ty
noncomputable def tBM0(K:W.Frag)(T:String)(r:V->List V->Hp->VK->Prop)(to:TE):TE:=fun σ H Q=>to σ H fun x H1=>tyV K T x H1/\r x [] H1 Q
noncomputable def tBM(K:W.Frag)(T:String)(r:V->List V->Hp->VK->Prop)(to:TE)(t:TA):TE:=fun σ H Q=>to σ H fun x H1=>tyV K T x H1/\t σ H1 fun xs H2=>r x xs H2 Q
variable{o e:Expr}{es:List Expr}{to:TE}{t:TA}{name:Str}{apos cpos:Pos}{T id:String}{r:V->List V->Hp->VK->Prop}
theorem yJ(pa:PlainAttrs T)(slot:Slot T name id)(hty:typeOf (.builtin id)=pure (.type "method_descriptor"))(hm:MtR X id r)(ho:PE X o to)
  (hbase:attributeBase o name X.env (eval o X.env)=eval o X.env:=by rfl) (hline:(apos.endLine==cpos.line)=true:=by rfl):PE X (.Call (.Attribute o name apos) [] [] cpos) (tBM0 X.K T r to):=by
 intro pins s σ H Q I h;refine wpAny_Call_method0_late hbase hline (aq (ho pins s σ H _ I h) fun v s1 hpq=> ?_);obtain⟨x,H1,I1,r1,ty,q1⟩:=hpq;obtain⟨h1,h2⟩:=qy I1 r1 ty;exact⟨T,id,pa,slot,hty,h1,h2,Calls.callWith_builtin rfl (PySem.evalArgs_none (hm pins s1 σ H1 x [] v [] Q I1 r1 .nil q1))⟩
theorem km(pa:PlainAttrs T)(slot:Slot T name id)(hty:typeOf (.builtin id)=pure (.type "method_descriptor"))(hm:MtR X id r)(ho:PE X o to)(ha:PA X (e::es) t)
  (hbase:attributeBase o name X.env (eval o X.env)=eval o X.env:=by rfl)
  (hfew:((backTo cpos (starEach (e::es) X.env)).all (fun x=> !x.1)&&(backToKw cpos (keywordEach [] X.env)).all (fun x=>x.1.isSome)
   && decide ((e::es).length+([]:List Keyword).length+(if([]:List Keyword).isEmpty then 0 else 1)<30))=true:=by rfl)
  (hline:(apos.endLine==cpos.line)=true:=by rfl) (hs:starEach (e::es) X.env=(false,eval e X.env)::starEach es X.env:=by rfl) (hplain:(backTo cpos (starEach es X.env)).any (·.1)=false:=by rfl) :
  PE X (.Call (.Attribute o name apos) (e::es) [] cpos) (tBM X.K T r to t):=by
 intro pins s σ H Q I h;refine wpAny_Call_method_late hbase hfew hline rfl (aq (ho pins s σ H _ I h) fun v s1 hpq=> ?_);obtain⟨x,H1,I1,r1,ty,q1⟩:=hpq;obtain⟨h1,h2⟩:=qy I1 r1 ty;refine⟨T,id,pa,slot,hty,h1,h2,?_⟩;have hA:=ha cpos pins s1 σ H1 _ I1 q1;rw[hs]at hA ⊢;refine Calls.callWith_builtin (by show(false||(backTo cpos (starEach es X.env)).any (·.1))=false;rw[hplain]<;>rfl) (Calls.evalArgs_plain ?_);exact aq hA fun us s2 ⟨vs,H2,I2,r2,q2⟩=>hm pins s2 σ H2 x vs v us Q I2 r1 r2 q2
end
noncomputable def MtM(X:Cx)(id:String)(r:V->List V->Hp->VK->Prop):Prop :=
 ∀(pins:List (Addr×Obj))(s:Shared)(σ:St)(H:Hp)(x:V)(xs:List V)(v:Value)(us:List Value)(Q:VK),Inv X pins σ H s->RelV x v->aK xs us->r x xs H Q ->
  wpAny (model X.prog X.w) X.A (call (.builtin id) (v::us)) (EP X pins σ Q) X.xe s
theorem aK.one{x:V}{us:List Value}(h:aK [x] us):∃u,us=[u]/\RelV x u:=vals1 h
theorem aK.two{x y:V}{us:List Value}(h:aK [x,y] us):∃u v,us=[u,v]/\RelV x u/\RelV y v:=vals2 h
theorem aK.zero:∀{us:List Value},aK [] us->us=[]
 | _,.nil=>rfl
theorem aK.reverse{xs:List V}{us:List Value}(h:aK xs us):aK xs.reverse us.reverse:=by
 induction h with
 | nil=>exact .nil
 | cons r t ih=>rw[List.reverse_cons,List.reverse_cons];exact aK.append ih (.cons r .nil)
theorem aK.rep{xs:List V}{us:List Value}(h:aK xs us):∀k:Nat,aK (List.replicate k xs).flatten (List.replicate k us).flatten
 | 0=>.nil
 | k+1=>by
  rw[DM,DM,Cz,Cz];exact aK.append h (aK.rep h k)
theorem foldl_rep(its:List Value):∀(k:Nat)(acc:List Value),
  List.foldl (fun x1 x2=>x1++x2) acc.toArray (List.replicate k its.toArray)=(acc++(List.replicate k its).flatten).toArray
 | 0,acc=>by simp
 | k+1,acc=>by
  have e:acc.toArray++its.toArray=(acc++its).toArray:=by simp
  have e2:(acc++its)++(List.replicate k its).flatten=acc++(List.replicate (k+1) its).flatten:=by
   rw[DM,Cz,Cp]
  rw[<- e2,<-foldl_rep its k (acc++its),<-e,DM,Ey]
section
variable{X:Cx}{pins:List (Addr×Obj)}{σ:St}{H:Hp}{s:Shared}{l b:Addr}{xs ys zs:List V}
theorem Inv.lset{its its' :List Value}{n:Nat}{f:Array Value->Array Value}{t' :Nat}(I:Inv X pins σ H s)(hH:H l=some (.lst xs))
  (e:s.heap.get? l=some {cls:=.type "list",data:=.seq its.toArray n}) (hf:f its.toArray=its'.toArray) (hv:aK ys its') (hz:ys.length<=sizeLine) :
  Inv X pins σ (upd H l (.lst ys)) {s with heap:=s.heap.update l (Obj.mapSeq f),toks:=t'}:=by
 have q:=PySem.IsL.update e f;rw[hf]at q;refine I.write (x:=l) (e:=l) (by rw[hH];exact trivial) (.inl rfl) (fun b' u hb hu=>(Ex s.heap (Obj.mapSeq f) (FK hb)).trans hu) ⟨_,q⟩ ?_;exact⟨hz,its',_,hv,q⟩
theorem Inv.lnew{its:List Value}{t' :Nat}(I:Inv X pins σ H s)(hv:aK ys its)(hz:ys.length<=sizeLine) :
  Inv X pins σ (upd H s.heap.objs.size (.lst ys)) {s with heap:=s.heap.push {cls:=.type "list",data:=.seq its.toArray},toks:=t'} :=
 I.laid (fun _ _ q=>CL _ q) (CO _) ⟨hz,its,0,hv,Co _ rfl⟩
theorem Inv.fresh(I:Inv X pins σ H s):H s.heap.objs.size=none:=I.hok.fresh (CO _)
theorem Inv.lstM(I:Inv X pins σ H s)(hH:H l=some (.lst xs)):xs.length<=sizeLine/\∃(its:List Value)(n:Nat),aK xs its/\xs.length=its.length/\s.heap.get? l=some {cls:=.type "list",data:=.seq its.toArray n}:=by
 obtain⟨z,its,n,r,e⟩:=I.hok l _ hH;exact⟨z,its,n,r,r.length,e⟩
theorem ko{n:Nat}(h:n<=sizeLine):Builtin.List.listTooLong n=false:=by
 unfold Builtin.List.listTooLong;exact C6 (by omega)
end
section
variable{X:Cx}
noncomputable def vH:V->List V->Hp->VK->Prop:=fun x vs H Q=>∃l xs y,x=.ref l/\vs=[y]/\H l=some (.lst xs)/\xs.length<sizeLine/\Q .non (upd H l (.lst (xs++[y])))
theorem fc:MtM X "list.append" vH:=by
 intro pins s σ H x vs v us Q I rx rv h;obtain⟨l,xs,y,rfl,rfl,hH,hz,q⟩:=h;cases rx;obtain⟨u,rfl,ru⟩:=rv.one;obtain⟨z,its,n,r,hl,e⟩:=I.lstM hH;refine Er F.slot_list_append ⟨_,e,rfl⟩ F.entry_list_append (F.args_list_append_2 _ _) (PySem.list_append l its.toArray n u (by rw[CN];omega)) ⟨e,?_⟩;refine⟨.non,_,I.lset (its' :=its++[u]) hH e (by simp) (r.append (.cons ru .nil)) ?_,rfl,q⟩;rw[CP,List.length_singleton];omega
noncomputable def xo:V->List V->Hp->VK->Prop:=fun x vs H Q=>∃l xs,x=.ref l/\vs=[]/\H l=some (.lst xs)/\Q .non (upd H l (.lst []))
theorem se:MtM X "list.clear" xo:=by
 intro pins s σ H x vs v us Q I rx rv h;obtain⟨l,xs,rfl,rfl,hH,q⟩:=h;cases rx;have hus:=rv.zero;subst hus;obtain⟨z,its,n,r,hl,e⟩:=I.lstM hH;refine Er F.slot_list_clear ⟨_,e,rfl⟩ F.entry_list_clear (F.args_list_clear_1 _) (AutoSeq1.list_clear_list_0 l its.toArray n (by rw[CN];omega)) ⟨e,?_⟩;exact⟨.non,_,I.lset (its' :=[]) (ys:=[]) hH e rfl .nil (DG _),rfl,q⟩
noncomputable def rRep:R2:=fun x y H Q=>∃l k xs,x=.ref l/\y=.int k/\H l=some (.lst xs)/\ -(2^63)<=k/\k<2^63/\xs.length*k.toNat<=sizeLine /\
 ∀p,H p=none->Q (.ref p) (upd H p (.lst (List.replicate k.toNat xs).flatten))
theorem vo{α:Type}(xs:List α)(k:Nat):(List.replicate k xs).flatten.length=k*xs.length:=by
 induction k with
 | zero=>simp
 | succ k ih=>rw[DM,Cz,CP,ih,Nat.succ_mul,Nat.add_comm]
theorem yM:dM X (binaryOp .Mult) rRep:=by
 intro pins s σ H x y v u Q I rx ry h;obtain⟨l,k,xs,rfl,rfl,hH,h1,h2,hz,q⟩:=h;cases rx;obtain⟨t,rfl⟩:=ry;obtain⟨z,its,n,r,hl,e⟩:=I.lstM hH;have hlen:its.toArray.size*k.toNat<=sizeLine:=by rw[CN,<-hl];exact hz
 have hcap:¬its.toArray.size*k.toNat>(2^63-1)/8:=by
  have:(sizeLine:Nat)<=(2^63-1)/8:=by decide
  omega
 have hfit:¬(!Builtin.List.listFitsIndex k)=true:=by
  rw[fitsIndex_both h1 h2];exact CT
 have hlong:¬Builtin.List.listTooLong (its.toArray.size*k.toNat)=true:=by
  rw[ko hlen];exact CT
 have hnew:List.foldl (fun x1 x2=>x1++x2) #[] (List.replicate (if its.toArray.isEmpty=true then 0 else k.toNat) its.toArray)=(List.replicate k.toNat its).flatten.toArray:=by
  have f0:∀m:Nat,List.foldl (fun x1 x2=>x1++x2) #[] (List.replicate m its.toArray)=(List.replicate m its).flatten.toArray:=fun m=>by
   have:=foldl_rep its m [];rw[List.nil_append]at this;exact this
  rw[f0];cases its with
  | nil=>simp
  | cons a r' =>rw[CM (by simp)]
 refine wpAny_binaryOp_repeat_ref (T:="list") (U:="int") (by decide) ⟨_,e,rfl⟩ (fun s' =>typeIs_int s' k t) noFill_list_mul F.fills_int_mul F.slot_int_rmul repeat_list F.slot_int_index.lookup
  (Er F.slot_int_rmul (typeIs_int s k t) F.entry_int_rmul (F.args_int_rmul_2 _ _) (int___rmul___int_list k t l its.toArray n)
   ⟨e,rfl,⟨_,e,rfl⟩,Er F.slot_list_mul ⟨_,e,rfl⟩ F.entry_list_mul (F.args_list_mul_2 _ _) (AutoListH.list___mul___list_int_3 l its.toArray n k t hfit hcap hlong) ⟨e,?_⟩⟩)
 rw[hnew];exact⟨.ref _,_,I.lnew (t' :=s.toks) (r.rep k.toNat) (by rw[vo,Nat.mul_comm];exact hz),rfl,q _ I.fresh⟩
end
section
variable{prog:Program}{w:World}{A:Around}{E:Value->Shared->Prop}{s:Shared}
end
section
variable{X:Cx}
end
end L2
namespace Att
open PySem PySem.W PySem.Calls PyProof.Rows
theorem gO{P:Params}{h:Heap}:∀(ns:List Int)(vs:List Value),WellAll P h vs (ns.map WData.int)->IntsAre vs ns:=by
 intro ns
 induction ns with
 | nil =>
  intro vs w;rw[DS]at w;cases w;exact .nil
 | cons n ns ih =>
  intro vs w;rw[Cc]at w;cases w with
  | cons a b =>
   cases a;exact .cons _ _ (ih _ b)
theorem pO{l:OpenLaw}{n:Nat}(hn:l.most=some n){P:Params}{h:Heap}{args:List WData}{vals:List Value}
  (hpre:l.row.toRowW.claim.pre args=true) (hwl:WellAll P h vals args) :
  ∃a vs ns,vals=[Value.ref a]/\args=[WData.list (ns.map WData.int)]/\h.get? a=some {cls:=.type "list",data:=.seq vs.toArray}/\IntsAre vs ns/\ns.length<=n:=by
 have hsh:WShape.hasAll [] args [.list .int]=true:=(pre_splitW hpre).1;have hc:l.pre.holds [] {args:=args}=true:=(pre_splitW hpre).2;obtain⟨d,r,rfl,h1,h2⟩:=hasAllW_cons hsh;obtain rfl:=hasAllW_nil h2;obtain⟨xs,rfl,h3⟩:=hasW_list h1;obtain⟨ns,rfl⟩:=items_int h3;have hlen:ns.length<=n:=by
  unfold OpenLaw.pre at hc;have h4:(WTm.not (.lt (.lit (.int (n:Int))) (.len (.arg 0)))).holds [] {args:=[.list (ns.map .int)]}=true:=by
   have h4:=(holds_andW hc).1;rw[hn]at h4;exact h4
  have h5:=condW_of h4 (w_not (w_lt w_lit (w_len_list (w_arg rfl))));rw[CI]at h5;refine Nat.le_of_not_lt fun q=> ?_;have q' :(n:Int)<((ns.length:Nat):Int):=by omega
  first
   | (rw[DZ q']at h5;exact absurd h5 (by decide))
   | (simp at h5;omega)
 cases hwl with
 | cons w1 w2 =>
  cases w2;cases w1 with
  | list ho hall=>exact⟨_,_,ns,rfl,rfl,ho,gO ns _ hall,hlen⟩
theorem pP(l:OpenLaw)(args:List WData):l.row.toRowW.claim.post args (.bool true) args=true :=
 postW_of (r:=l.row.toRowW) (X:=(true==true))
  (show WShape.has [] (.bool true) .bool=true by first|rfl|decide|simp[WShape.has,WShape.arms,WShape.armsAll])
  (show(WTm.eq .res (.lit (.bool true))).value [] {args:=args,res:=some (.bool true),after:=args}=some (.bool (true==true))from w_eq_bool (w_res rfl) w_lit) rfl
theorem li{l:OpenLaw}{n:Nat}{q:Program}{loose:List Str}{XP:(Str->Option Value)->Heap->Prop}{YP:World->Heap->Prop}{d:DefRec}
  (hn:l.most=some n) (hdf:d.params.defaults=[])
  (call:∀(w:World)(s₀ s₁:Shared)(mg mb:Str->Option Value)(fa:Addr)(o:Obj)(pm cd doc:Value)(a:Addr)(vs:List Value)(ns:List Int),
   Ground q loose [] XP w s₀ mg mb s₁.heap->YP w s₁.heap ->
   s₁.heap.get? fa=some o->o.data=.func (docDef d.name d.params d.body d.scope pm cd doc)->s₁.heap.CodeRec cd d.name->mg d.name=some (.ref fa) ->
   s₁.heap.get? a=some {cls:=.type "list",data:=.seq vs.toArray}->IntsAre vs ns->ns.length<=n->s₁.gens= #[] ->
   codeAny (model l.prog w) callerA (.call (.ref fa) ⟨[.ref a],[]⟩) (fun r s' =>r=.ok (.ret (.bool true))/\OldK s₁.heap s'.heap/\s'.os=s₁.os/\AllBare s'.gens) s₁) :
  WalkO q loose XP YP l.row.toRowW d [] (fun f vs=>PySem.call f vs):=by
 intro w s₀ s₁ mg mb G Y fa o pm cd doc dV kV ho hd hcd hD hmg hg args vals as hpre hlay hrd hwl hlo;obtain rfl:dV=.none:=Dflts.none hD hdf;obtain rfl:kV=.none:=Dflts.noKw hD;obtain⟨a,vs,ns,rfl,rfl,hobj,hints,hlen⟩:=pO hn hpre hwl;refine enter_call (codeAny_mono (call w s₀ s₁ mg mb fa o pm cd doc a vs ns G Y ho (fd_plain hd) hcd hmg hobj hints hlen hg) fun r s' hq=> ?_);obtain⟨rfl,h2,h3,h4⟩:=hq;exact⟨.inl ⟨.bool true,.bool true,[],rfl,fun _=>rfl,.bool true,pP l _,fun _=>⟨List.Pairwise.nil,fun _ hm=>(nomatch hm)⟩⟩,h2,h3,h4⟩
section
variable{prog:Program}{w:World}{A:Around}{E:Value->Shared->Prop}{s:Shared}{K:Frag}
end
end Att
namespace L2
open PySem PySem.Spec PyProof.Rows
theorem pD{vs:List Value}{ns:List Int}(h:IntsAre vs ns):aK (ns.map V.int) vs:=by
 induction h with
 | nil=>exact .nil
 | cons n t h ih=>exact .cons ⟨t,rfl⟩ ih
noncomputable def zz(H:Hp):Prop:=∀b,H b=none\/∃o xs,H b=some (.frz o (.lst xs))
theorem su{P:Program}{w:World}{K:W.Frag}{mg mb:Str->Option Value}{CX:qf}{k:Nat}{fa a:Addr}{fd:FuncData}{x:Str}{sp:Sp}{s₁:Shared}{vs:List Value}{ns:List Int}
  (KX:K.In s₁.heap) (hns:s₁.heap.Ns mainGlobals mg) (hb:s₁.heap.Ns builtinsNs mb) (hbb:∀x:Str,x≠"__name__"->mb x=bootBuiltins x) (hlim:s₁.heap.NoLimit) (hg:s₁.gens= #[])
  (ha:s₁.heap.get? a=some {cls:=.type "list",data:=.seq vs.toArray}) (hi:IntsAre vs ns) (hl:ns.length<=sizeLine) (hr:eQ k callerA)
  (F:∀base:Heap,K.In base->base.Ns mainGlobals mg->bt P w K mg base CX k fa fd [x] sp) (hbind:∀(s:Shared)(u:Value),BindsTo s fd ⟨[u],[]⟩ [(x,u)])
  (hsp:∀H:Hp,zz H->ao K H a (ns.map V.int)->sp [.ref a] H (fun v _=>v=.bl true) fun _ _ _=>False)
  (hCX:∀H e s',CX [] H s₁ (fun _ _ _=>False) e s' ->False) :
  codeAny (model P w) callerA (.call (.ref fa) ⟨[.ref a],[]⟩) (fun r s' =>r=.ok (.ret (.bool true))/\OldK s₁.heap s'.heap/\s'.os=s₁.os/\AllBare s'.gens) s₁:=by
 have rv:=pD hi;have BN:=hi.length
 have core:∀H:Hp,zz H->ao K H a (ns.map V.int)->dz P w H s₁.heap->(∀b,H b≠none->b=a)->(H a≠none->K.lookup a=none) ->
   codeAny (model P w) callerA (.call (.ref fa) ⟨[.ref a],[]⟩) (fun r s' =>r=.ok (.ret (.bool true))/\OldK s₁.heap s'.heap/\s'.os=s₁.os/\AllBare s'.gens) s₁:=by
  intro H hO hS hok hA hK;have base_of:∀{b:Addr}{o:Obj},s₁.heap.get? b=some o->H b=none->(j3 s₁.heap H).get? b=some o:=fun e n=>tM e n;have noA:∀{b:Addr}{o:Obj}{es:Array DictEntry}{ep:Nat},s₁.heap.get? b=some o->o.data=.dict es ep->H b=none:=fun{b o es ep} e d=>by
   cases q:H b with
   | none=>rfl
   | some u =>
    have e' :b=a:=hA b (by rw[q];simp);subst e';rw[ha]at e;cases e;have d' :Data.seq vs.toArray _=Data.dict es ep:=d;cases d'
  have nsK:∀{b:Addr}{m:Str->Option Value},s₁.heap.Ns b m->(j3 s₁.heap H).Ns b m:=fun{b m} ⟨o,es,ep,e,d,r⟩=>⟨o,es,ep,base_of e (noA e d),d,r⟩
  have hKb:K.In (j3 s₁.heap H):=fun b o e=>base_of (KX b o e) (by
   cases q:H b with
   | none=>rfl
   | some u =>
    have e' :b=a:=hA b (by rw[q];simp);subst e';rw[hK (by rw[q];simp)]at e;cases e)
  have hM:Mod K mg (j3 s₁.heap H):=⟨hKb,nsK hns,⟨mb,nsK hb,hbb⟩,let⟨mc,h1,h2⟩:=hlim;⟨mc,nsK h1,h2⟩⟩;have e0:wU P w K mg (j3 s₁.heap H) callerA [] s₁ H:=⟨rfl,hM,fun b o e=>va e,Nat.le_of_eq (qE _ _),trivial,fun b hb=>absurd (show b∈([]:List Addr)from hb) (by simp),hok,.of_eq hg⟩;refine codeAny_mono ((F _ hKb (nsK hns)).run callerA [] s₁ H ⟨[.ref a],[]⟩ [.ref a] [.ref a] _ _ hr e0 (hbind s₁ (.ref a)) (.cons rfl .nil) (hsp H hO hS)) fun r s' h=> ?_;cases r with
  | error e=>exact(hCX H e s' h).elim
  | ok fl =>
   cases fl with
   | next=>exact False.elim h
   | brk=>exact False.elim h
   | cont=>exact False.elim h
   | ret u =>
    obtain⟨v,H',os,bare,un,hok',r',q⟩:=h;have q' :v=.bl true:=q;subst q';obtain rfl:u=Value.bool true:=r';refine⟨rfl,OldK.of_keep fun b o e=> ?_,os,bare⟩;cases q:H b with
    | none=>exact un.keep b o e q (by intro z;exact absurd (show b∈([]:List Addr)from z) (by simp)) (by simp)
    | some u =>
     rcases hO b with z|⟨ob,xs,z⟩
     ·rw[q]at z;cases z
     ·have z2:=un.frzs b ob _ z
      obtain⟨e1,_⟩:=hok b _ z;obtain⟨e2,_⟩:=hok' b _ z2;rw[e]at e1;cases e1;exact e2
 cases hk:K.lookup a with
 | some o =>
  have e:=KX a o hk;rw[ha]at e;cases e;refine core (fun _=>none) (fun _=>.inl rfl) (.inr ⟨_,vs.toArray,_,hk,rfl,rfl,rfl,by rw[CN,BN];exact hl,by simpa using rv⟩) (fun b u z=>by have z' :(none:Option HO)=some u:=z;cases z') (fun b z=>absurd rfl z) fun z=>absurd rfl z
 | none =>
  refine core (fun b=>if b=a then some (.frz {cls:=.type "list",data:=.seq vs.toArray} (.lst (ns.map V.int)))else none) (fun b=> ?_) (.inl (.inr ⟨{cls:=.type "list",data:=.seq vs.toArray},CQ rfl⟩)) (fun b u z=> ?_) (fun b z=> ?_) fun _=>hk
  ·by_cases hb:b=a
   ·exact .inr ⟨_,_,CQ hb⟩
   ·exact .inl (CM hb)
  ·by_cases hb:b=a
   ·have z' :=(CQ hb).symm.trans z
    cases z';subst hb;exact⟨ha,by rw[CI];exact hl,vs,_,rv,ha⟩
   ·have z' :=(CM hb).symm.trans z
    cases z'
  ·by_cases hb:b=a
   ·exact hb
   ·exact absurd (CM hb) z
theorem uq{l:W.OpenLaw}{n k:Nat}{q:Program}{loose:List Str}{XP:(Str->Option Value)->Heap->Prop}{YP:World->Heap->Prop}{d:DefRec}{K:Params->W.Frag}{CX:World->qf}{sp:World->Sp}{x:Str}
  (hn:l.most=some n) (hn2:n<=sizeLine) (hdf:d.params.defaults=[]) (hr:eQ k callerA)
  (hY:∀(w:World)(h:Heap),YP w h->(K w.params).In h)
  (F:∀(w:World)(mg:Str->Option Value)(fa:Addr)(h:Heap),(K w.params).In h->h.Ns mainGlobals mg->mg d.name=some (.ref fa) ->
   ∃fd:FuncData,(∀(s:Shared)(u:Value),BindsTo s fd ⟨[u],[]⟩ [(x,u)]) /\
    ∀base:Heap,(K w.params).In base->base.Ns mainGlobals mg->bt l.prog w (K w.params) mg base (CX w) k fa fd [x] (sp w))
  (hsp:∀(w:World)(H:Hp)(a:Addr)(ns:List Int),ns.length<=n->zz H->ao (K w.params) H a (ns.map V.int)->sp w [.ref a] H (fun v _=>v=.bl true) fun _ _ _=>False)
  (hCX:∀(w:World)(H:Hp)(s:Shared)(e:Value)(s' :Shared),CX w [] H s (fun _ _ _=>False) e s' ->False) :
  W.WalkO q loose XP YP l.row.toRowW d [] (fun f vs=>PySem.call f vs):=by
 refine Att.li hn hdf fun w s₀ s₁ mg mb fa o pm cd doc a vs ns G Y ho hd hcd hmg hobj hints hlen hg=> ?_;have KX:=hY w _ Y;obtain⟨fd,hb,hF⟩:=F w mg fa _ KX G.T.g hmg;exact su KX G.T.g G.T.b G.T.builtins G.T.nolimit hg hobj hints (DF hlen hn2) hr hF hb (fun H hO hS=>hsp w H a ns hlen hO hS) fun H e s' =>hCX w H s₁ e s'
noncomputable def bb(s:Stmt):Arguments:=match s with
 | .FunctionDef _ a _ _ _ _ _ _ _ _=>a
 | _=>{posonlyargs:=[],args:=[],vararg:=none,kwonlyargs:=[],kw_defaults:=[],kwarg:=none,defaults:=[]}
noncomputable def av(s:Stmt):List Stmt:=match s with
 | .FunctionDef _ _ b _ _ _ _ _ _ _=>b
 | _=>[]
noncomputable def aN(s:Stmt):Scope:=match s with
 | .FunctionDef _ _ _ _ _ _ sc _ _ _=>sc
 | _=>{kind:=.function,names:=[],isGenerator:=false,isCoroutine:=false}
noncomputable abbrev jD:qf:=fun _ _ _ _ _ _=>False
noncomputable abbrev E0:XK:=fun _ _ _=>False
theorem gB{X:Cx}:nr jD X E0:=fun _ _ _ _ _ _ _ h=>h.elim
structure AR(K:W.Frag)(x qual:Str)(st:Stmt)(f:Addr)(fd:FuncData):Prop where
 ex:∃(oc:Value)(od:Option Addr)(kV doc pm:Value)(an:Option Addr)(cdv ct:Value)(osl:Array (Option Value)),
  fd=W.fnOf x qual (bb st) (av st) (aN st) .none kV doc pm an cdv ct/\K.lookup f=some ⟨oc,od,.func fd,osl⟩/\W.codeIn K cdv qual=true
 kp:W.keepIn K (.ref f)=true
section
variable{P:Program}{w:World}{K:W.Frag}{mg:Str->Option Value}{base:Heap}
theorem AR.ok{x qual:Str}{st:Stmt}{f:Addr}{fd:FuncData}{N ps:List Str}{k:Nat}{sp:Sp}(F:AR K x qual st f fd)(S:dE N ps (aN st))(len:∀vs H Q E,sp vs H Q E->vs.length=ps.length)
  (hbody:∀(cdv:Value)(A:Around)(outer:List Env)(s:Shared)(H:Hp)(vs:List V)(Q:VK)(E:XK),eQ k (A.deeper (envOfC qual (aN st) s.heap.objs.size f cdv))->sp vs H Q E ->
   ∃t,nt (i6 jD P w K mg base N qual (aN st) f cdv A outer s H E).nox (av st) t/\t {nx:=fun _ H' =>Q .non H',rt:=Q} (start N vs) H):bt P w K mg base jD (k+1) f fd ps sp:=by
 obtain⟨oc,od,kV,doc,pm,an,cdv,ct,osl,rfl,lk,hcd⟩:=F.ex;refine Be lk hcd S len fun A outer s H vs Q E hr hsp=> ?_;obtain⟨t,h,q⟩:=hbody cdv A outer s H vs Q E hr hsp;exact⟨t,h.nox,q⟩
theorem AR.binds{x qual:Str}{st:Stmt}{f:Addr}{fd:FuncData}{ps:List Str}(F:AR K x qual st f fd)
  (h:∀(kV doc pm:Value)(an:Option Addr)(cdv ct:Value)(us:List Value),us.length=ps.length->bindArgs (W.fnOf x qual (bb st) (av st) (aN st) .none kV doc pm an cdv ct) ⟨us,[]⟩=pure (ps.zip us)):Binds K fd ps []:=by
 obtain⟨oc,od,kV,doc,pm,an,cdv,ct,osl,rfl,lk,hcd⟩:=F.ex;exact .all (h kV doc pm an cdv ct)
theorem tO{x qual:Str}{st:Stmt}{f:Addr}{oc:Value}{od an:Option Addr}{osl:Array (Option Value)}{kV doc pm cdv ct:Value}(l:K.lookup f=some ⟨oc,od,.func (W.fnOf x qual (bb st) (av st) (aN st) .none kV doc pm an cdv ct),osl⟩)
  (c:W.codeIn K cdv qual=true) (k:W.keepIn K (.ref f)=true):AR K x qual st f (W.fnOf x qual (bb st) (av st) (aN st) .none kV doc pm an cdv ct):=⟨⟨oc,od,kV,doc,pm,an,cdv,ct,osl,rfl,l,c⟩,k⟩
end
section
variable{X:Cx}
theorem pv(i:Nat){x:Str}{pos:Pos}(hN:X.N[i]? =some x:=by rfl)(hv:B6 X.env.scope x:=by first|exact Or.inl rfl|exact Or.inr (Or.inl rfl)|exact Or.inr (Or.inr rfl))(hd:(x==("__debug__":Str))=false:=by decide)
  (hcd:(x==("__classdict__":Str))=false:=by decide):PE X (.Name x pos) (Aa i):=fW hN hv hd hcd
end
theorem ju{A B:Prop}(h:B):if false=true then A else B:=by
 rw[CM CT];exact h
theorem mz{A B:Prop}(h:A):if true=true then A else B:=by
 rw[CQ rfl];exact h
noncomputable def aA(H H' :Hp):Prop:=∀b o,H b=some o->H' b=some o
theorem aA.refl(H:Hp):aA H H:=fun _ _ h=>h
theorem aA.trans{H H1 H2:Hp}(a:aA H H1)(b:aA H1 H2):aA H H2:=fun c o h=>b c o (a c o h)
theorem aA.free{H H' :Hp}(e:aA H H'){l:Addr}(h:H' l=Option.none):H l=Option.none:=by
 cases q:H l with
 | none=>rfl
 | some o =>
  rw[e l o q]at h;cases h
theorem aA.seq{K:W.Frag}{H H' :Hp}{a:Addr}{xs:List V}(e:aA H H')(h:ao K H a xs):ao K H' a xs:=by
 rcases h with(h|⟨o,h⟩)|h
 ·exact .inl (.inl (e _ _ h))
 ·exact .inl (.inr ⟨o,e _ _ h⟩)
 ·exact .inr h
end L2
set_option maxHeartbeats 4000000
namespace UM
open PySem PySem.Builtin PySem.Builtin.Str
theorem jb{x y:Str}(h:x.cps.toList=y.cps.toList):x=y:=PySem.Str.ext' (Array.toList_inj.mp h)
structure CG(m:Nat)(rows:List Str):Prop where
 some:rows≠[]
 few:rows.length<=m
 wide:∃k,1<=k/\k<=m/\∀r∈rows,r.length=k
 signs:∀r∈rows,∀c∈r.cps.toList,c=120\/c=46
end UM
namespace L2
open PySem PySem.Spec PyProof.Rows
noncomputable def fI(env:Env):List (Str×NameKind)->List (Str×Addr)->List (Str×Addr)
 | [],acc=>acc
 | (n,k)::r,acc=>if(k==NameKind.free)=true then fI env r ((n,(env.cells.lookup n).getD 0)::acc)else fI env r acc
theorem fi{env:Env}{n:Str}{k:NameKind}{r:List (Str×NameKind)}{acc:List (Str×Addr)}(h:(k==NameKind.free)=true) :
  fI env ((n,k)::r) acc=fI env r ((n,(env.cells.lookup n).getD 0)::acc):=by
 show(if(k==NameKind.free)=true then _ else _)=_;rw[CQ h]
theorem eN{env:Env}{n:Str}{k:NameKind}{r:List (Str×NameKind)}{acc:List (Str×Addr)}(h:¬(k==NameKind.free)=true) :
  fI env ((n,k)::r) acc=fI env r acc:=by
 show(if(k==NameKind.free)=true then _ else _)=_;rw[CM h]
theorem lX{env:Env}{n:Str}{c:Addr}(h:env.cells.lookup n=some c):cellOf env n=pure c:=by
 unfold cellOf;rw[h]
theorem nQ{scope:Scope}{env:Env}(h:∀x∈scope.names,x.2=.free->∃c,env.cells.lookup x.1=some c):closureFor scope env=pure (fI env scope.names []):=by
 unfold closureFor
 suffices q:∀(l:List (Str×NameKind))(acc:List (Str×Addr)),(∀x∈l,x.2=.free->∃c,env.cells.lookup x.1=some c) ->
   (forIn l acc (fun(x:Str×NameKind) (r:List (Str×Addr))=>if(x.2==NameKind.free)=true then(do let a<-cellOf env x.1;pure (ForInStep.yield ((x.1,a)::r)))else pure (ForInStep.yield r)):Sem (List (Str×Addr)))=pure (fI env l acc)by
  exact(Da (fun m=>m >>= pure) (q scope.names [] h)).trans (by rfl)
 intro l
 induction l with
 | nil=>intro acc _;rfl
 | cons x l ih =>
  intro acc hl;obtain⟨n,k⟩:=x;rw[List.forIn_cons]
  by_cases hk:(k==NameKind.free)=true
  ·obtain⟨c,hc⟩:=hl (n,k) Cd (by simpa using hk)
   rw[fi hk];simp only[hk,Ei];rw[lX hc];have e:(env.cells.lookup n).getD 0=c:=by rw[show env.cells.lookup n=some c from hc];rfl
   rw[e];exact ih _ fun y hy=>hl y (CV _ hy)
  ·rw[eN hk]
   simp only[hk,Em];exact ih _ fun y hy=>hl y (CV _ hy)
theorem cr{env:Env}:∀{l:List (Str×NameKind)}{acc:List (Str×Addr)}{x:Str}{c:Addr},(∀y∈l,y.2=.free->∃c,env.cells.lookup y.1=some c) ->
  (fI env l acc).lookup x=some c->acc.lookup x=some c\/env.cells.lookup x=some c
 | [],acc,x,c,_,h=>.inl h
 | (n,k)::l,acc,x,c,hl,h=>by
  have hl' :∀y∈l,y.2=.free->∃c,env.cells.lookup y.1=some c:=fun y hy=>hl y (CV _ hy)
  by_cases hk:(k==NameKind.free)=true
  ·rw[fi hk]at h
   rcases cr hl' h with q|q
   ·rw[C8]at q
    cases hx:(x==n)with
    | true =>
     rw[hx]at q;have hxn:x=n:=by simpa using hx
     subst hxn;obtain⟨c',hc'⟩:=hl (x,k) Cd (by simpa using hk);have hc2:env.cells.lookup x=some c' :=hc';rw[hc2]at q
     right
     rw[hc2]
     simpa using q
    | false =>
     rw[hx]at q;exact .inl q
   ·exact .inr q
  ·rw[eN hk]at h
   exact cr hl' h
theorem fH{env:Env}:∀{l:List (Str×NameKind)}{acc:List (Str×Addr)}{x:Str},((x,NameKind.free)∈l\/∃c,acc.lookup x=some c)->∃c,(fI env l acc).lookup x=some c
 | [],acc,x,h=>by
  rcases h with h|h
  ·cases h
  ·exact h
 | (n,k)::l,acc,x,h=>by
  by_cases hk:(k==NameKind.free)=true
  ·rw[fi hk]
   refine fH ?_
   rcases h with h|⟨c,h⟩
   ·rcases Ca.mp h with e|e
    ·right
     injection e with e1 e2
     subst e1;exact⟨(env.cells.lookup x).getD 0,by rw[C8];simp⟩
    ·exact .inl e
   ·right
    rw[C8];cases hx:(x==n)with
    | true=>exact⟨_,rfl⟩
    | false=>exact⟨c,h⟩
  ·rw[eN hk]
   refine fH ?_
   rcases h with h|h
   ·rcases Ca.mp h with e|e
    ·injection e with e1 e2
     subst e2;exact absurd rfl hk
    ·exact .inl e
   ·exact .inr h
section
variable{prog:Program}{w:World}{A:Around}{R:Result->Shared->Prop}{s:Shared}
theorem j9{elt target iter:Expr}{ifs:List Expr}{scope:Scope}{pos:Pos}{it acc:Value}{env:Env}(I:Nat->Shared->Prop)
  (turn:∀n s,I n s->wpAny (model prog w) A (pyNext it) (fun r s₁=>match r with
   | none=>R (.ok .next) s₁
   | some v=>wpAny (model prog w) A (letOwnedTupleGo target it v) (fun _ s₁' =>wpAny (model prog w) A (assign target env v) (fun _ s₂ =>
     wpAny (model prog w) A (forIn ifs true fun c r=>if r=true then do let ok<-isTrue c env (eval c env);pure (ForInStep.yield ok)else pure (ForInStep.yield r)) (fun ok s₃ =>
      if ok=true then wpAny (model prog w) A (eval elt env) (fun x s₄ =>
       wpAny (model prog w) A (call (.builtin "list.append") [acc,x]) (fun _ s₅=>∃m,m<n/\I m s₅) (notedBy (model prog w) A env fun e s' =>R (.error e) s') s₄) (notedBy (model prog w) A env fun e s' =>R (.error e) s') s₃
      else∃m,m<n/\I m s₃) (notedBy (model prog w) A env fun e s' =>R (.error e) s') s₂) (notedBy (model prog w) A env fun e s' =>R (.error e) s') s₁')
       (notedBy (model prog w) A env fun e s' =>R (.error e) s') s₁) (notedBy (model prog w) A env fun e s' =>R (.error e) s') s)
  (n:Nat) (h:I n s) :
  codeAny (model prog w) A (.compLoop (.ListComp elt [⟨target,iter,ifs,0⟩] scope pos) 0 it acc env) R s:=by
 refine codeAny_loop rfl I (fun n s hI=> ?_) n h;show wpAny _ A ((compTurn (.ListComp elt [⟨target,iter,ifs,0⟩] scope pos) 0 it acc env).onRaise (fun x=>do noteFrame x env;theTreesLotGoes x)) _ _ s;refine wpAny_noted ?_;rw[compTurn_list];refine CJ (wpAny_standAt (CJ (Dq (turn n s hI) (fun r s₁ h₁=> ?_) fun _ _ h' =>h')));cases r with
 | none=>exact Ce h₁
 | some v =>
  refine CJ (Dq h₁ (fun _ s₁' h₁' => ?_) fun _ _ h' =>h');refine CJ (Dq h₁' (fun _ s₂ h₂=>CJ (Dq h₂ (fun ok s₃ h₃=> ?_) fun _ _ h' =>h')) fun _ _ h' =>h');cases ok with
  | false=>exact Ce ⟨rfl,h₃⟩
  | true =>
   exact CJ (CJ (Dq h₃ (fun x s₄ h₄=>CJ (Dq h₄ (fun _ s₅ h₅=>Ce (Ce ⟨rfl,h₅⟩)) fun _ _ h' =>h')) fun _ _ h' =>h'))
end
noncomputable abbrev am(X:Cx)(N' :List Str)(scope:Scope)(C:Addr)(s2:Shared)(H2:Hp)(fp:List Addr)(cl:List (Str×Addr)):Cx where
 prog:=X.prog
 w:=X.w
 K:=X.K
 mg:=X.mg
 base:=X.base
 A:=X.A
 N:=N'
 s₀:=s2
 H₀:=H2
 env:=compEnvC scope cl C X.env
 outer:=X.stack
 stack:=X.stack
 ex:=fp
 fn:=fun x=>scope.names.lookup x==some .cell
 calm:=X.calm
 pn:=[]
 xe:=fun _ _=>False
noncomputable def bF(X:Cx)(scope:Scope):List Str->List (Option Nat)->Prop
 | [],[]=>True
 | _::ns,none::r=>bF X scope ns r
 | x::ns,some i::r=>(X.N[i]? =some x/\scope.names.lookup x=some .free/\(X.env.scope.names.lookup x=some .cell\/X.env.scope.names.lookup x=some .free))/\bF X scope ns r
 | _,_=>False
noncomputable def bT(src:List (Option Nat))(σ:St):St:=src.map fun o=>match o with
 | none=>none
 | some i=>(σ[i]?).join
theorem bF.len{X:Cx}{scope:Scope}:∀{N' :List Str}{src:List (Option Nat)},bF X scope N' src->src.length=N'.length
 | [],[],_=>rfl
 | _::_,none::_,h=>Da (·+1) (bF.len (show bF X scope _ _ from h))
 | _::_,some _::_,h=>Da (·+1) (bF.len h.2)
 | [],_::_,h=>by cases h
 | _::_,[],h=>by cases h
theorem bF.at{X:Cx}{scope:Scope}{σ:St}:∀{N' :List Str}{src:List (Option Nat)}{j:Nat}{x:Str}{v:V},bF X scope N' src->N'[j]? =some x->(bT src σ)[j]? =some (some v) ->
  ∃i:Nat,X.N[i]? =some x/\σ[i]? =some (some v)/\scope.names.lookup x=some .free/\(X.env.scope.names.lookup x=some .cell\/X.env.scope.names.lookup x=some .free)
 | [],[],j,x,v,_,h,_=>by simp at h
 | y::ns,none::r,0,x,v,_,_,h=>by simp[bT]at h
 | y::ns,none::r,j+1,x,v,s,h,h' =>bF.at (N' :=ns) (src:=r) (j:=j) s (by simpa using h) (by simpa [bT]using h')
 | y::ns,some i::r,0,x,v,s,h,h' =>by
  have e:y=x:=by simpa using h
  subst e;have q:(σ[i]?).join=some v:=by simpa [bT]using h'
  refine⟨i,s.1.1,?_,s.1.2.1,s.1.2.2⟩;cases z:σ[i]? with
  | none=>rw[z]at q;cases q
  | some o=>rw[z]at q;exact Da some q
 | y::ns,some i::r,j+1,x,v,s,h,h' =>bF.at (N' :=ns) (src:=r) (j:=j) s.2 (by simpa using h) (by simpa [bT]using h')
 | [],_::_,_,_,_,s,_,_=>by cases s
 | _::_,[],_,_,_,s,_,_=>by cases s
noncomputable def uQ(X:Cx)(ifs:List Expr)(t:TT):Prop :=
 ∀(pins:List (Addr×Obj))(s:Shared)(σ:St)(H:Hp)(Q:Bool->Hp->Prop),Inv X pins σ H s->t σ H Q ->
  wpAny (model X.prog X.w) X.A (forIn ifs true fun c r=>if r=true then do let ok<-isTrue c X.env (eval c X.env);pure (ForInStep.yield ok)else pure (ForInStep.yield r)) (TP X pins σ Q) X.xe s
noncomputable def wb:TT:=fun _ H Q=>Q true H
theorem kl{X:Cx}:uQ X [] wb:=fun _ _ _ H _ I h=>wpAny_tests_nil ⟨H,I,h⟩
theorem sC{X:Cx}{c:Expr}{t:TT}(h:PT X c t):uQ X [c] t:=fun pins s σ H Q I hw=>wpAny_tests_one (h pins s σ H Q I hw)
noncomputable def AC(X:Cx)(N' :List Str)(src:List (Option Nat))(scope:Scope)(target:Expr)(ifs:List Expr)(elt:Expr)(D:Addr)(σ:St)(x:V)(ys:List V)(H' :Hp)(N:List V->Hp->Prop):Prop :=
 ∀(C:Addr)(s2:Shared)(H2:Hp)(fp:List Addr)(cl:List (Str×Addr)),∃(g:TG)(tt:TT)(te:TE),PG (am X N' scope C s2 H2 fp cl) target g/\uQ (am X N' scope C s2 H2 fp cl) ifs tt/\PE (am X N' scope C s2 H2 fp cl) elt te /\
  g x (bT src σ) H' fun σ2 H3=>(σ2.length=N'.length/\∀(j:Nat)(v:V),(bT src σ)[j]? =some (some v)->σ2[j]? =some (some v)) /\
   tt σ2 H3 fun b H4=>if b=true then te σ2 H4 fun v H5=>H5 D=some (.lst ys)/\ys.length<sizeLine/\N (ys++[v]) (upd H5 D (.lst (ys++[v])))else N ys H4
noncomputable def xT(X:Cx)(N' :List Str)(src:List (Option Nat))(scope:Scope)(target:Expr)(ifs:List Expr)(elt:Expr)(wi:TI):TE:=fun σ H Q=>wi σ H fun J H1=>∀D,H1 D=none ->
 ∃W:Nat->Nat->List V->Hp->Prop,(∃m,W 0 m [] (upd H1 D (.lst [])))/\∀i m ys H,W i m ys H ->
  (J.stop i H/\Q (.ref D) H)\/(J.go i H/\∀x H',J.yld i H x H' ->AC X N' src scope target ifs elt D σ x ys H' fun ys' H'' =>∃m',m' <m/\W (i+1) m' ys' H'')
section
variable{X:Cx}{pins:List (Addr×Obj)}{σ:St}{H:Hp}{s:Shared}
structure qZ(X:Cx)(scope:Scope)(C:Addr)(cl:List (Str×Addr)):Prop where
 ex:∃own,cl=own++fI X.env scope.names []/\(∀n c,(n,c)∈own->C<c/\scope.names.lookup n=some .cell)/\(∀x,(x,NameKind.cell)∈scope.names->∃c,own.lookup x=some c)/\own.Pairwise fun x y=>x.2≠y.2
theorem qZ.sub{scope:Scope}{C:Addr}{cl:List (Str×Addr)}(k:qZ X scope C cl)(hfree:∀y∈scope.names,y.2=.free->∃c,X.env.cells.lookup y.1=some c){x:Str}{c:Addr}(e:cl.lookup x=some c) :
  (C<c/\scope.names.lookup x=some .cell)\/(scope.names.lookup x≠some .cell\/True)/\X.env.cells.lookup x=some c:=by
 obtain⟨own,rfl,h1,h2,h3⟩:=k.ex;rw[Ds]at e;cases z:own.lookup x with
 | some c' =>
  rw[z]at e;cases e;exact .inl (h1 x c (C2 z))
 | none =>
  rw[z]at e
  rcases cr hfree e with q|q
  ·cases q
  ·exact .inr ⟨.inr trivial,q⟩
theorem v9{N' :List Str}{scope:Scope}{C:Addr}{fp:List Addr}{cl:List (Str×Addr)}(I:Inv X pins σ H s)(hkind:scope.kind=.function)(k:qZ X scope C cl)
  (hfree:∀y∈scope.names,y.2=.free->∃c,X.env.cells.lookup y.1=some c) (hC:s.heap.objs.size<=C) (hf:∀b∈fp,fw X pins H b) (hlt:∀b∈fp,b<s.heap.objs.size):(am X N' scope C s H fp cl).Ok:=by
 have old:∀x c,X.env.cells.lookup x=some c->c<s.heap.objs.size:=fun x c e=>let⟨_,q⟩:=I.cell x c e;q.lt
 obtain⟨own,hcl,h1,h2,h3⟩:=k.ex;have look:∀x c,cl.lookup x=some c->(x,c)∈own\/X.env.cells.lookup x=some c:=fun x c e=>by
  rw[hcl,Ds]at e;cases z:own.lookup x with
  | some c' =>rw[z]at e;cases e;exact .inl (C2 z)
  | none =>
   rw[z]at e
   rcases cr hfree e with q|q
   ·cases q
   ·exact .inr q
 refine⟨I.ok.mod,hkind,I.ok.glob,I.ok.blt,hC,fun x y c e1 e2=> ?_,fun x hx=> ?_,fun x c h e=> ?_,I.ok.hd,I.ok.frames,.inl rfl,fun b hb=>⟨?_,fun x c e=> ?_⟩,
  I.bs,DF I.ok.bsz I.sz,fun b o e hb=> ?_,fun b hb hs=> ?_,I.stack,I.stkFree⟩
 ·rcases look x c e1 with q1|q1<;>rcases look y c e2 with q2|q2
  ·exact PySem.name_of_addr h3 q1 q2
  ·exact absurd (Eb (old y c q2) (Nat.lt_of_le_of_lt hC (h1 x c q1).1)) (D7 _)
  ·exact absurd (Eb (old x c q1) (Nat.lt_of_le_of_lt hC (h1 y c q2).1)) (D7 _)
  ·exact I.ok.inj x y c q1 q2
 ·-- a name of the block's that is no local of it is one that it closes over,or has a cell of its own
  have hx' :(relabel scope X.env).names.lookup x=some .cell\/(relabel scope X.env).names.lookup x=some .free:=hx;have go:∀k,(k=NameKind.cell\/k=NameKind.free)->(relabel scope X.env).names.lookup x=some k->(x,NameKind.free)∈scope.names\/(x,NameKind.cell)∈scope.names:=fun k hk e=>by
   have m:=C2 e;obtain⟨⟨n,k'⟩,hm,e'⟩:=DR.mp m
   by_cases hfr:k' =NameKind.free
   ·subst hfr
    have e'' :(if(NameKind.free==NameKind.free&&X.env.scope.kind== .function&&X.env.kindOf n==some .cell)=true then(n,NameKind.cell)else(n,NameKind.free))=(x,k):=e';have hn:n=x:=by split at e'' <;>exact(Prod.mk.inj e'').1
    rw[<- hn];exact .inl hm
   ·have e'' :(if(k' ==NameKind.free&&X.env.scope.kind== .function&&X.env.kindOf n==some .cell)=true then(n,NameKind.cell)else(n,k'))=(x,k):=e'
    have hkf:(k' ==NameKind.free)=false:=by simpa using hfr
    rw[hkf,FH,FH,CM CT]at e'';obtain⟨g1,g2⟩:=Prod.mk.inj e'';subst g1 g2
    rcases hk with rfl|rfl
    ·exact .inr hm
    ·exact .inl hm
  have fin:(x,NameKind.free)∈scope.names\/(x,NameKind.cell)∈scope.names->∃c,cl.lookup x=some c:=by
   intro z;rw[hcl]
   rcases z with z|z
   ·obtain⟨c,hc⟩:=fH (env:=X.env) (l:=scope.names) (acc:=[]) (x:=x) (.inl z)
    rw[Ds];cases own.lookup x with
    | some c' =>exact⟨c',rfl⟩
    | none=>exact⟨c,hc⟩
   ·obtain⟨c,hc⟩:=h2 x z
    exact⟨c,by rw[Ds,hc];rfl⟩
  rcases hx' with e|e
  ·exact fin (go _ (.inl rfl) e)
  ·exact fin (go _ (.inr rfl) e)
 ·have h:scope.names.lookup x=some .cell:=by simpa using h
  obtain⟨c',hc'⟩:=h2 x (C2 h);have e:cl.lookup x=some c:=e;rw[hcl,Ds,hc']at e;cases e;exact DF hC (Ec (h1 x c (C2 hc')).1)
 ·exact fun e=>absurd (hlt b hb) (by show¬b<_;rw[e];exact Nat.not_lt.mpr hC)
 ·rcases look x c e with q|q
  ·exact fun z=>absurd (Eb (hlt b hb) (Nat.lt_of_le_of_lt hC (h1 x c q).1)) (by rw[z];exact D7 _)
  ·exact(hf b hb).2.2.2.2.1 x c q
 ·rcases(hf b hb).2.2.2.1 with q|q
  ·exact I.ok.noex b o e q
  ·exact absurd (CU e) (Nat.not_lt.mpr (DF I.ok.bsz q))
 ·rcases Ca.mp (I.stkSub b hs)with q|q
  ·exact(hf b hb).2.1 q
  ·exact(hf b hb).2.2.1 q
theorem bR:∀(names:List (Str×NameKind))(n:Nat)(a b:List (Str×Addr)),cellsFrom n names (a++b)=cellsFrom n names a++b
 | [],_,_,_=>rfl
 | (x,k)::r,n,a,b=>by
  unfold cellsFrom
  split
  ·exact bR r (n+1) ((x,n)::a) b
  ·exact bR r n a b
theorem cW:∀(names:List (Str×NameKind))(n:Nat)(acc:List (Str×Addr))(x:Str)(c:Addr),(x,c)∈cellsFrom n names acc->(x,c)∈acc\/(x,NameKind.cell)∈names
 | [],_,_,_,_,h=>.inl h
 | (y,k)::r,n,acc,x,c,h=>by
  unfold cellsFrom at h
  split at h
  ·rename_i hk
   have hk:k=.cell:=by simpa using hk
   rcases cW r (n+1) ((y,n)::acc) x c h with q|q
   ·rcases Ca.mp q with e|e
    ·cases e
     rw[hk];exact .inr Cd
    ·exact .inl e
   ·exact .inr (CV _ q)
  ·rcases cW r n acc x c h with q|q
   ·exact .inl q
   ·exact .inr (CV _ q)
theorem wC{scope:Scope}{C:Addr}(hcn:∀y∈scope.names,y.2=.cell->scope.names.lookup y.1=some .cell)(h:Heap)(hC:h.objs.size=C+1):qZ X scope C (cellsFrom (C+1) scope.names (fI X.env scope.names [])):=by
 have ok:=cellsFrom_ok scope.names h (C+1) [] ⟨fun _ _ hm=>(nomatch hm),List.Pairwise.nil⟩ (by rw[hC];exact CO _);rw[hC]at ok;refine⟨cellsFrom (C+1) scope.names [],by rw[<- bR];rfl,fun n c hm=>⟨(ok.empty n c hm).2,?_⟩,fun x hx=> ?_,ok.apart⟩
 ·rcases cW _ _ _ _ _ hm with q|q
  ·cases q
  ·exact hcn _ q rfl
 ·have:=W.cellsFrom_some (x:=x) scope.names (C+1) [] (.inl (hcn _ hx rfl))
  exact Option.isSome_iff_exists.mp this
theorem tX{M:Model}{A:Around}{E:Value->Shared->Prop}{s:Shared}{scope:Scope}{globals:Addr}{cl:List (Str×Addr)}{qual:Str}{env:Env}{Q:Env->Shared->Prop}
  (h:Q {scope:=scope,locals:=s.heap.objs.size,globals:=globals,cells:=cellsFrom (s.heap.objs.size+1) scope.names cl,qual:=qual,func:=none,code:=env.code,frame:=env.frame,builtins:=env.builtins} {s with heap:=pushCells (s.heap.push {cls:=.type "dict",data:=.dict #[]}) scope.names}) :
  wpAny M A (newFunctionEnv scope globals cl [] qual none .none (some env)) Q E s:=by
 simp only[newFunctionEnv,Option.isSome_some,Ei];refine CJ (wpAny_alloc ?_);refine CJ (wpAny_layCells _ (fun name kind cells=>by cases hkc:kind==NameKind.cell<;>simp[hkc]) _ _ _ _ ?_);rw[show({s with heap:=s.heap.push {cls:=.type "dict",data:=.dict #[]}}:Shared).heap.objs.size=s.heap.objs.size+1 from Heap.size_push ..];rw[List.forIn_nil];exact CJ (Ce (Ce h))
end
theorem eh{env:Env}:∀{names:List (Str×NameKind)}{x:Str},names.lookup x=some .free ->
  (names.map fun(n,k)=>if(k==NameKind.free&&env.scope.kind== .function&&env.kindOf n==some .cell)then(n,NameKind.cell)else(n,k)).lookup x=some .cell \/
  (names.map fun(n,k)=>if(k==NameKind.free&&env.scope.kind== .function&&env.kindOf n==some .cell)then(n,NameKind.cell)else(n,k)).lookup x=some .free
 | [],_,h=>by simp at h
 | (n,k)::r,x,h=>by
  have ih:= @eh env r x;show List.lookup x ((if(k==NameKind.free&&env.scope.kind== .function&&env.kindOf n==some .cell)=true then(n,NameKind.cell)else(n,k))::_)=_\/List.lookup x ((if(k==NameKind.free&&env.scope.kind== .function&&env.kindOf n==some .cell)=true then(n,NameKind.cell)else(n,k))::_)=_;cases hx:x==n with
  | true =>
   simp only[C8,hx]at h;cases h
   by_cases hc:(NameKind.free==NameKind.free&&env.scope.kind== .function&&env.kindOf n==some .cell)=true
   ·left;rw[CQ hc];simp only[C8,hx]
   ·right;rw[CM hc];simp only[C8,hx]
  | false =>
   simp only[C8,hx]at h
   by_cases hc:(k==NameKind.free&&env.scope.kind== .function&&env.kindOf n==some .cell)=true
   ·rw[CQ hc];simp only[C8,hx];exact ih h
   ·rw[CM hc];simp only[C8,hx];exact ih h
section
variable{X:Cx}{pins:List (Addr×Obj)}{σ:St}{H:Hp}{s:Shared}
theorem nH{N' :List Str}{src:List (Option Nat)}{scope:Scope}{D C:Addr}{fp:List Addr}{cl:List (Str×Addr)}{h₁:Heap}{m:Str->Option Value}{tk:Nat}(I:Inv X pins σ H s)(hkind:scope.kind=.function)(k:qZ X scope C cl)
  (hfree:∀y∈scope.names,y.2=.free->∃c,X.env.cells.lookup y.1=some c) (hsrc:bF X scope N' src) (hf:∀b∈fp,fw X pins H b) (hlt:∀b∈fp,b<s.heap.objs.size)
  (hD:D=s.heap.objs.size) (hC:s.heap.objs.size<C) (hns:h₁.Ns C m) (old:∀b o,s.heap.get? b=some o->h₁.get? b=some o) (hacc:h₁.get? D=some {cls:=.type "list",data:=.seq #[]})
  (hce:∀x c,cl.lookup x=some c->C<c->∃v,h₁.IsCell c v) :
  Inv (am X N' scope C s H fp cl) [] (bT src σ) (upd H D (.lst [])) {s with heap:=h₁,toks:=tk}:=by
 have hn:H D=none:=by rw[hD];exact I.hok.fresh (CO _)
 have ok:=v9 (N' :=N') I hkind k hfree (Ec hC) hf hlt;have hDC:D≠C:=by rw[hD];exact Cr hC
 refine⟨ok,rfl,I.bare,Un.laid old (by rw[hD];exact CO _) hn,⟨m,hns,fun j x v h1 h2 h3=> ?_⟩,fun x c e=> ?_,?_,fun x c e=> ?_,fun p hp=>(by cases hp),I.hok.laid old (by rw[hD];exact CO _) ?_,?_⟩
 ·obtain⟨i,e1,e2,e3,e4⟩:=hsrc.at h1 h2
  obtain⟨m0,_,hl⟩:=I.loc;obtain⟨u,r,l⟩:=hl i x v e1 e2 (.inr e4);refine⟨u,r,?_⟩;obtain⟨own,hcl,o1,o2,o3⟩:=k.ex;have hown:own.lookup x=none:=by
   cases z:own.lookup x with
   | none=>rfl
   | some c =>
    have:=(o1 x c (C2 z)).2;rw[e3]at this;cases this
  obtain⟨c',hc'⟩:=fH (env:=X.env) (l:=scope.names) (acc:=[]) (x:=x) (.inl (C2 e3));have hcX:X.env.cells.lookup x=some c' :=by
   rcases cr hfree hc' with q|q
   ·cases q
   ·exact q
  have hcl' :cl.lookup x=some c' :=by rw[hcl,Ds,hown];exact hc'
  rcases l with⟨hk,_⟩|⟨hk,c,hc,hcl2⟩
  ·have hk' :X.env.scope.names.lookup x=some .local:=hk
   rcases e4 with e4|e4
   ·rw[hk']at e4;cases e4
   ·rw[hk']at e4;cases e4
  ·have ec:c' =c:=Cq (hcX.symm.trans hc)
   subst ec
   right
   exact⟨eh e3,c',hcl',hcl2.keeps old⟩
 ·rcases k.sub hfree (show cl.lookup x=some c from e)with q|q
  ·exact hce x c e q.1
  ·obtain⟨v,z⟩:=I.cell x c q.2
   exact⟨v,z.keeps old⟩
 ·show upd H D (.lst []) C=none
  rw[aF (FK hDC)];exact I.hok.fresh (Ec hC)
 ·show upd H D (.lst []) c=none
  rcases k.sub hfree (show cl.lookup x=some c from e)with q|q
  ·have:s.heap.objs.size<c:=Eb hC q.1
   rw[aF (by rw[hD];exact FA this)];exact I.hok.fresh (Ec this)
  ·obtain⟨v,z⟩:=I.cell x c q.2
   rw[aF (by rw[hD];exact Cr z.lt)];exact I.freeC x c q.2
 ·exact⟨DG _,[],0,.nil,hacc⟩
 ·show(src.map _).length=N'.length
  rw[CI];exact hsrc.len
theorem dz.but{P:Program}{w:World}{H:Hp}{h h' :Heap}(x:dz P w H h)(k:∀b u,H b≠none->h.get? b=some u->h'.get? b=some u):dz P w H h' :=fun a o e =>
 (x a o e).stay (fun b u hb q=>k b u (by rcases hb with rfl|hb;(rw[e];simp);(rw[hb];simp)) q) (fun _ q=>q) fun _ _ q=>q
noncomputable def eD(sc scope:Scope):Bool:=scope.names.all fun y=> !(y.2==NameKind.free)||(sc.names.lookup y.1==some .cell||sc.names.lookup y.1==some .free)
theorem tP{sc scope:Scope}(h:eD sc scope=true):∀y∈scope.names,y.2=.free->(sc.names.lookup y.1=some .cell\/sc.names.lookup y.1=some .free):=fun y hy hf=>by
 have z:=Cw.mp h y hy;rw[hf]at z
 simpa using z
theorem oQ{use:Option (Value->Sem Unit)}{P:Value->Shared->Prop}{Q:VK}{elt target iter:Expr}{ifs:List Expr}{scope:Scope}{pos:Pos}{N' :List Str}{src:List (Option Nat)}{wi:TI}(hc:X.calm=true)(hi:PI X target iter wi)(hsrc:bF X scope N' src)
  (hkind:scope.kind=.function) (hcell:∀y∈scope.names,y.2=.cell->scope.names.lookup y.1=some .cell) (hnames:∀y∈scope.names,y.2=.local->scope.names.lookup y.1=some .local)
  (hfr:eD X.env.scope scope=true)
  (hs:∀x,foldedSetIterable iter X.env x=pure x) (I:Inv X pins σ H s) (h:xT X N' src scope target ifs elt wi σ H Q)
  (fin:∀(C a:Addr)(s2 s4:Shared)(H2 H3:Hp)(fp:List Addr)(cl:List (Str×Addr))(m:Str->Option Value),Inv X pins σ H2 s2->(∀b∈fp,fw X pins H2 b)->(∀b,b<s2.heap.objs.size->b≠C)->s2.heap.objs.size<=C->Inv (am X N' scope C s2 H2 fp cl) [] (bT src σ) H3 s4->s4.heap.Ns C m->Q (.ref a) H3->∀v,compPost (model X.prog X.w) X.A X.xe use P (.ref a) C (.ok v) s4) :
  wpAny (model X.prog X.w) X.A (comprehension (.ListComp elt [⟨target,iter,ifs,0⟩] scope pos) scope X.env (firstIterPos [⟨target,iter,ifs,0⟩] pos) (newList []) (firstAsync [⟨target,iter,ifs,0⟩]) (firstIter [⟨target,iter,ifs,0⟩] X.env) use) P X.xe s:=by
 have hfree:∀y∈scope.names,y.2=.free->∃c,X.env.cells.lookup y.1=some c:=fun y hy hf=>I.ok.has y.1 (tP hfr y hy hf);refine wpAny_comprehension_free (use:=use) rfl hs (nQ hfree) hkind hnames ?_;refine aq (hi pins s σ H _ I h) fun xv s1 h1=>aq h1 fun itv s2 h2=> ?_;obtain⟨it,fp,tn,J,H2,e,I2,T,st2,f2,q⟩:=h2;subst e;have hlt:∀b∈fp,b<s2.heap.objs.size:=fun b hb=>by
  obtain⟨o,e,_⟩:=T.obj _ _ st2 b hb;exact CU e
 refine EC (tX ?_);dsimp only
 generalize hH2:s2.heap.push {cls:=.type "list",dict:=none,data:=.seq ([]:List Value).toArray}=G2
 have hC:G2.objs.size=s2.heap.objs.size+1:=by rw[<- hH2,Heap.size_push]
 have hCle:s2.heap.objs.size<=G2.objs.size:=by rw[hC];exact Nat.le_succ _
 have hClt:s2.heap.objs.size<G2.objs.size:=by rw[hC];exact Nat.lt_succ_self _
 have below:∀b,b<s2.heap.objs.size->b≠G2.objs.size:=fun b hb=>by rw[hC];exact Cr (ES hb)
 obtain⟨cl,hcl0⟩:∃cl,cl=cellsFrom (G2.objs.size+1) scope.names (fI X.env scope.names []):=⟨_,rfl⟩;obtain⟨h₁,hh₁⟩:∃h₁,h₁=pushCells (G2.push {cls:=.type "dict",data:=.dict #[]}) scope.names:=⟨_,rfl⟩;rw[<- hcl0,<-hh₁];have hfr2:(G2.push {cls:=.type "dict",data:=.dict #[]}).objs.size=G2.objs.size+1:=Heap.size_push ..;have kcl:qZ X scope G2.objs.size cl:=by rw[hcl0];exact wC hcell _ hfr2
 have hns₁:h₁.Ns G2.objs.size (fun _=>none):=by rw[hh₁];exact(Heap.Ns.new G2 (.type "dict")).keeps (pushCells_keeps _ _)
 have old:∀b o,s2.heap.get? b=some o->h₁.get? b=some o:=fun b o e=>by rw[hh₁];exact pushCells_keeps _ _ b o (CL _ (hH2▸CL _ e))
 have hacc:h₁.get? s2.heap.objs.size=some {cls:=.type "list",data:=.seq #[]}:=by rw[hh₁];exact pushCells_keeps _ _ _ _ (CL _ (hH2▸Co _ rfl))
 have hce:∀x c,cl.lookup x=some c->G2.objs.size<c->∃v,h₁.IsCell c v:=fun x c e hlt' =>by
  have okc:=cellsFrom_ok scope.names (G2.push {cls:=.type "dict",data:=.dict #[]}) (G2.objs.size+1) [] ⟨fun _ _ hm=>(nomatch hm),List.Pairwise.nil⟩ (by rw[hfr2];exact CO _);rw[hfr2]at okc;have e1:cl=cellsFrom (G2.objs.size+1) scope.names []++fI X.env scope.names []:=by rw[hcl0,<-bR];rfl
  rw[e1,Ds]at e;cases z:(cellsFrom (G2.objs.size+1) scope.names []).lookup x with
  | some c' =>
   rw[z]at e;cases e;exact⟨none,by rw[hh₁];exact(okc.empty x c (C2 z)).1⟩
  | none =>
   rw[z]at e
   rcases cr hfree e with q|q
   ·cases q
   ·obtain⟨v,zc⟩:=I2.cell x c q
    exact absurd (Eb zc.lt hClt) (Nat.not_lt.mpr (Ec hlt'))
 have hDn:H2 s2.heap.objs.size=none:=I2.hok.fresh (CO _);obtain⟨W,⟨m0,w0⟩,turn⟩:=q s2.heap.objs.size hDn;have st1:tn 0 h₁:=T.keep _ _ _ st2 fun b hb o e=>old b o e;have hsub:∀b∈fp,b∉nE X.stack:=fun b hb hz=>by
  rcases Ca.mp (I2.stkSub b hz)with z|z
  ·exact(f2 b hb).2.1 z
  ·exact(f2 b hb).2.2.1 z
 have hcl:∀x c,cl.lookup x=some c->G2.objs.size<c\/X.env.cells.lookup x=some c:=fun x c e=>by
  rcases kcl.sub hfree e with q|q
  ·exact .inl q.1
  ·exact .inr q.2
 have stat:∀{H' :Hp},(∀b∈fp,H' b=none)->∀b∈fp,fw (am X N' scope G2.objs.size s2 H2 fp cl) [] H' b:=fun hn b hb =>
  ⟨hn b hb,below b (hlt b hb),hsub b hb,.inl hb,fun x c e=>(by rcases hcl x c e with q|q;(exact fun z=>absurd (Eb (hlt b hb) (Eb hClt q)) (by rw[z];exact D7 _));exact(f2 b hb).2.2.2.2.1 x c q),fun p hp=>by cases hp⟩
 have loop:∀s3:Shared,s3={s2 with heap:=h₁} ->
   codeAny (model X.prog X.w) X.A (.compLoop (.ListComp elt [⟨target,iter,ifs,0⟩] scope pos) 0 (.ref it) (.ref s2.heap.objs.size) (compEnvC scope cl G2.objs.size X.env))
    (compPost (model X.prog X.w) X.A X.xe use P (.ref s2.heap.objs.size) G2.objs.size) s3:=by
  rintro s3 rfl
  refine j9 (fun n s' =>∃i ys H',Inv (am X N' scope G2.objs.size s2 H2 fp cl) [] (bT src σ) H' s' /\tn i s'.heap/\(∀b∈fp,H' b=none)/\W i n ys H') ?_ m0
   ⟨0,[],_,nH I2 hkind kcl hfree hsrc f2 hlt rfl hClt hns₁ old hacc hce,st1,fun b hb=>by rw[aF (Cr (hlt b hb))];exact(f2 b hb).1,w0⟩
  rintro n s' ⟨i,ys,H3,I3,st3,fr3,w3⟩
  rcases turn i n ys H3 w3 with⟨stop,qn⟩|⟨go,step⟩
  ·refine aq (T.done (am X N' scope G2.objs.size s2 H2 fp cl) rfl rfl rfl hc i [] s' _ H3 _ I3 (stat fr3) st3 stop) fun r s4 hpq=> ?_
   obtain⟨hr,I4⟩:=hpq;subst hr;obtain⟨m,hn,_⟩:=I4.loc;exact fin _ _ s2 s4 H2 H3 fp cl m I2 f2 below hCle I4 hn qn _
  ·refine aq (T.item (am X N' scope G2.objs.size s2 H2 fp cl) rfl rfl rfl hc i [] s' _ H3 _ I3 (stat fr3) st3 go) fun r s4 hpq=> ?_
   obtain⟨u,hr,h4⟩:=hpq;subst hr;refine aq h4 fun _ s5 hpq=> ?_;obtain⟨x,H5,I5,r5,y5,st5,fr5⟩:=hpq;obtain⟨g,tt,te,hg,ht,he,rd⟩:=step x H5 y5 G2.objs.size s2 H2 fp cl;have I5' :=I5.pinned (stat fr5) (T.obj _ _ st5);have noE:∀{α:Type}{t:Sem α}{Q' :α->Shared->Prop}{s' :Shared}{E:Value->Shared->Prop},wpAny (model X.prog X.w) X.A t Q' (fun _ _=>False) s' ->wpAny (model X.prog X.w) X.A t Q' E s' :=fun z=>Dq z (fun _ _ y=>y) fun _ _ y=>y.elim
   have again:∀{σ7:St}{H7:Hp}{s7:Shared}{ys' :List V},Inv (am X N' scope G2.objs.size s2 H2 fp cl) ([]++iB fp s5.heap) σ7 H7 s7->(σ7.length=N'.length/\∀(j:Nat)(v:V),(bT src σ)[j]? =some (some v)->σ7[j]? =some (some v)) ->
     (∃m',m' <n/\W (i+1) m' ys' H7)->∃m,m<n/\∃i ys H',Inv (am X N' scope G2.objs.size s2 H2 fp cl) [] (bT src σ) H' s7/\tn i s7.heap/\(∀b∈fp,H' b=none)/\W i m ys H' :=fun{σ7 H7 s7 ys'} I7 hσ ⟨m',hm,w7⟩=>by
    refine⟨m',hm,i+1,ys',H7,(I7.unpinned).weak (by rw[show(bT src σ).length=N'.length by(show(src.map _).length=_;rw[CI];exact hsrc.len)];exact hσ.1.symm) hσ.2,T.keep _ _ _ st5 fun b hb o e=>(I7.pin (b,o) (C1 _ (C1 _ (cw hb e)))).1,fun b hb=> ?_,w7⟩;obtain⟨o,e,d⟩:=T.obj _ _ st5 b hb;exact(I7.pin (b,o) (C1 _ (C1 _ (cw hb e)))).2.1
   refine noE (aq (hg _ s5 _ H5 x u _ I5' r5 rd) fun _ s6 hpq=> ?_);obtain⟨σ6,H6,I6,hσ,q6⟩:=hpq;refine noE (aq (ht _ s6 σ6 H6 _ I6 q6) fun b s7 hpq=> ?_);obtain⟨H7,I7,q7⟩:=hpq;cases b with
   | false=>exact again I7 hσ q7
   | true =>
    rw[CQ rfl]at q7 ⊢;refine noE (aq (he _ s7 σ6 H7 _ I7 q7) fun y s8 hpq=> ?_);obtain⟨v,H8,I8,r8,hl8,hz8,q8⟩:=hpq;refine noE (aq (fc _ s8 σ6 H8 (.ref s2.heap.objs.size) [v] (.ref s2.heap.objs.size) [y] (fun _ H9=>∃m',m' <n/\W (i+1) m' (ys++[v]) H9) I8 rfl (.cons r8 .nil) ⟨_,_,_,rfl,rfl,hl8,hz8,q8⟩) fun _ s9 hpq=> ?_);obtain⟨_,H9,I9,_,q9⟩:=hpq;exact again I9 hσ q9
 exact codeAny_compStart_list (loop _ rfl) (T.self X.A 0 _ _ _ st1 (loop _ rfl))
theorem sO{elt target iter:Expr}{ifs:List Expr}{scope:Scope}{pos:Pos}{N' :List Str}{src:List (Option Nat)}{wi:TI}(hc:X.calm=true)(hi:PI X target iter wi)(hsrc:bF X scope N' src)
  (hkind:scope.kind=.function) (hcell:∀y∈scope.names,y.2=.cell->scope.names.lookup y.1=some .cell) (hnames:∀y∈scope.names,y.2=.local->scope.names.lookup y.1=some .local)
  (hfr:eD X.env.scope scope=true)
  (hs:∀x,foldedSetIterable iter X.env x=pure x:=by intro _;rfl) :
  PE X (.ListComp elt [⟨target,iter,ifs,0⟩] scope pos) (xT X N' src scope target ifs elt wi):=by
 intro pins s σ H Q I h;rw[eval_ListComp];refine oQ hc hi hsrc hkind hcell hnames hfr hs I h fun C a s2 s4 H2 H3 fp cl m I2 f2 below hCle I4 hn qn _=> ?_;refine⟨m,hn,fun h' hs' => ?_⟩;have ne:∀b o,s2.heap.get? b=some o->b≠C:=fun b o e=>below b (CU e);have hfree4:H3 C=none:=I4.free;have u4:Un (nE X.stack) fp H2 H3 s2.heap s4.heap:=I4.base
 have u5:Un (nE X.stack) fp H2 H3 s2.heap h' :=⟨fun b o e n z1 z2=>(hs'.2 b (ne b o e)).trans (u4.keep b o e n z1 z2),fun b o e n z1 z2=>let⟨sl,z⟩:=u4.slot b o e n z1 z2;⟨sl,(hs'.2 b (ne b o e)).trans z⟩,u4.free,
  fun b o e z=>let⟨o',z'⟩:=u4.there b o e z;⟨o',(hs'.2 b (ne b o e)).trans z'⟩,u4.tups,u4.frzs,u4.tbls⟩
 have hok:dz X.prog X.w H3 h' :=dz.but (h:=s4.heap) I4.hok fun b u hb z=>(hs'.2 b (fun w=>hb (by rw[w];exact hfree4))).trans z;exact⟨.ref a,H3,I2.call' (s' :={s4 with heap:=h'}) (ch:=fp) I4.os u5 hok I4.bare fun b hb=>⟨(f2 b hb).2.2.2.1,(f2 b hb).2.1,(f2 b hb).2.2.2.2.1,(f2 b hb).2.2.2.2.2⟩,rfl,qn⟩
end
section
variable{X:Cx}
theorem all_range(bs:List Bool):(List.range bs.length).all (fun i=>bs.getD i true)=bs.all id:=by
 rw[D1,Cw,Cw]
 constructor
 ·intro h b hb
  obtain⟨i,hi,e⟩:=List.mem_iff_getElem.mp hb;have z:=h i (DC.mpr hi);rw[Cs,CW hi,e]at z;exact z
 ·intro h i hi
  have hi' :=DC.mp hi;rw[Cs,CW hi'];exact h _ (Dj hi')
theorem mF{bs:List Bool}{us:List Value}(r:aK (bs.map V.bl) us){i:Nat}{v:Value}(e:us[i]? =some v):v=.bool (bs.getD i true):=by
 have hl:=r.length;rw[CI]at hl;have hi:i<us.length:=(CY.mp e).1;have hb:(bs.map V.bl)[i]? =some (.bl (bs.getD i true)):=by
  rw[Cb,Cs,CW (by omega)];rfl
 obtain⟨u,e',ru⟩:=r.get hb;rw[e]at e';cases e';exact ru
theorem lZ(hc:X.calm=true):bK X (.builtin "all") (fun xs H Q=>∃(p:Addr)(bs:List Bool),xs=[.ref p]/\ao X.K H p (bs.map V.bl)/\Q (.bl (bs.all id)) H):=by
 intro pins s σ H xs us Q I r h;obtain⟨p,bs,rfl,hq,q⟩:=h;obtain⟨u,rfl,rx⟩:=vals1 r;cases rx;obtain⟨its,r',pl,hz⟩:=I.list hq;have hlen:=r'.length;rw[CI]at hlen;have hp:p<s.heap.objs.size:=by
  obtain⟨o,e,_⟩:=pl.isList;exact CU e
 refine call_all_walk (FZ pl.isList ?_);refine⟨s.heap.objs.size,_,_,its.toArray.size,_,_,(fun i=>bs.getD i true),rfl,Walks.list (A:=X.A.in1) (I.ok.hd hc) s.heap.objs.size p (Cr hp) its.toArray,⟨⟨_,Co _ rfl,rfl,rfl⟩,pl.isList.push _⟩,?_,?_⟩
 ·intro i v s' Q' E' hv hQ
  have e:=mF r' (i:=i) (v:=v) (by simpa using hv);subst e;exact Dp hQ
 ·intro h' tk hk
  refine⟨.bl (bs.all id),H,I.kept (t' :=tk) (fun b o e=>hk b o (by simpa using Cr (CU e)) (CL _ e)),?_,q⟩;rw[CN,<-hlen,all_range];rfl
theorem eJ:∀{ys:List Str}{us:List Value},aK (ys.map V.str) us->StrsAre us ys
 | [],_,r=>by
  rw[DS]at r;cases r;exact .nil
 | y::ys,_,r=>by
  rw[Cc]at r;cases r with
  | cons r1 r2 =>
   obtain⟨t,e⟩:=r1;subst e;exact .cons y t (eJ r2)
noncomputable def Av(K:W.Frag):V->List V->Hp->VK->Prop:=fun x vs H Q=>∃sep p ys,x=.str sep/\vs=[.ref p]/\(ao K H p (ys.map V.str)\/bQ K H p (ys.map V.str))/\(ys.map (·.length)).sum+ys.length*sep.length<=16777216/\Q (.str (Txt.join sep ys)) H
theorem vd:MtR X "str.join" (Av X.K):=by
 intro pins s σ H x xs v us Q I rx rs h;obtain⟨sep,p,ys,rfl,rfl,hq,hz,q⟩:=h;obtain⟨t,rfl⟩:=rx;obtain⟨u,rfl,ru⟩:=vals1 rs;cases ru
 rcases hq with hq|hq
 ·obtain⟨its,r,pl,_⟩:=I.list hq
  exact join_list pl.isList (eJ (by simpa using r)) hz fun t' k=>⟨.str (Txt.join sep ys),H,I.tok _,⟨_,rfl⟩,q⟩
 ·obtain⟨its,r,pl,_⟩:=I.tuple hq
  exact join_tuple pl (eJ (by simpa using r)) hz fun t' k=>⟨.str (Txt.join sep ys),H,I.tok _,⟨_,rfl⟩,q⟩
noncomputable def CB(x:Str):It:=⟨fun i _=>i<x.cps.size,fun i H v H' =>H' =H/\∃c,x.cps[i]? =some c/\v=.str ⟨#[c]⟩,fun i _=>i=x.cps.size⟩
noncomputable def iStr(tl:TE):TI:=fun σ H R=>tl σ H fun x H1=>∃z,x=.str z/\R (CB z) H1
theorem eI{P:Program}{w:World}{K:W.Frag}{tg:Expr}{it:Addr}{n:Nat}{Pw:Nat->Value->Prop}{tn:Nat->Heap->Prop}{J:It}(hW:∀A:Around,A.handled=none->Walks P w A it [it] [it] n Pw tn)
  (hob:∀i h,tn i h->∃(o:Obj)(ty:String)(vs:Array Value),h.get? it=some o/\o.cls=.type ty/\o.data=.fields vs/\["enumerate","zip","dict_itemiterator","dict_reverseitemiterator","odict_iterator","itertools.zip_longest","itertools.pairwise"].contains ty=false)
  (hgo:∀i H,J.go i H->i<n) (hst:∀i H,J.stop i H->i=n) (hy:∀i H v,Pw i v->∃x,RelV x v/\J.yld i H x H)
  (hself:∀(A:Around)(i:Nat)(s:Shared)(Q:Value->Shared->Prop)(E:Value->Shared->Prop),tn i s.heap->Q (.ref it) s->wpAny (model P w) A (pyIter (.ref it)) Q E s):nj P w K tg J [it] it tn where
 mem:=by simp
 obj:=fun i h st b hb=>by
  have e:b=it:=by simpa using hb
  subst e;obtain⟨o,ty,vs,e,_,d,_⟩:=hob i h st;exact⟨o,e,fun v z=>by rw[d]at z;cases z⟩
 keep:=fun i h h' st k=>(hW {callerA with handled:=none} rfl).frame i h h' st k
 item:=by
  intro X hP hw hK hc i pins s σ H E I hf st hg;subst hP hw hK;obtain⟨f0,f1,f2,f3,f4,f5⟩:=hf it (by simp);refine(hW X.A (I.ok.hd hc)).item i s _ _ (hgo i H hg) st fun v h' tk hv st' kk=> ?_;obtain⟨x,rx,y⟩:=hy i H v hv;have I1:Inv X pins σ H {s with heap:=h',toks:=tk}:=I.turned (fun b o hb e=>kk b o (by simpa using hb) e) f0 f1 f3 f4 f5;obtain⟨o,ty,vs,e,c,d,nc⟩:=hob (i+1) h' st';exact⟨_,rfl,oW (s:={s with heap:=h',toks:=tk}) e c d nc ⟨x,H,I1,rx,y,st',fun b hb=>(hf b hb).1⟩⟩
 done:=by
  intro X hP hw hK hc i pins s σ H E I hf st hg;subst hP hw hK;obtain⟨f0,f1,f2,f3,f4,f5⟩:=hf it (by simp);have e:=hst i H hg;subst e;exact(hW X.A (I.ok.hd hc)).done s _ _ st fun h' tk kk=>⟨rfl,I.turned (fun b o hb e=>kk b o (by simpa using hb) e) f0 f1 f3 f4 f5⟩
 self:=hself
theorem yD{tg:Expr}{l:Expr}{tl:TE}(hl:PE X l tl):PI X tg l (iStr tl):=by
 intro pins s σ H R I h;refine aq (hl pins s σ H _ I h) fun v s1 hpq=> ?_;obtain⟨x,H1,I1,r1,q1⟩:=hpq;obtain⟨z,rfl,q⟩:=q1;obtain⟨t,rfl⟩:=r1;have fp:∀b∈[s1.heap.objs.size],fw X pins H1 b:=fun b hb=>by
  have e:b=s1.heap.objs.size:=by simpa using hb
  subst e;exact I1.fpOk (CO _) (I1.hok.fresh (CO _))
 have yl:∀(i:Nat)(H:Hp)(v:Value),SignAt z i v->∃x,RelV x v/\(CB z).yld i H x H:=fun i H v hv=>by
  obtain⟨c,u,e,rfl⟩:=hv;exact⟨.str ⟨#[c]⟩,⟨_,rfl⟩,rfl,c,e,rfl⟩
 cases ha:z.cps.all (·<128)with
 | false =>
  refine wpAny_pyIter_wide ha ?_
  refine⟨s1.heap.objs.size,[s1.heap.objs.size],fun i h=>h.IsStrIter s1.heap.objs.size "str_iterator" z t i,CB z,H1,rfl,I1.kept (t' :=s1.toks) fun b o e=>CL _ e,
   eI (fun A hA=>Walks.strWide hA _ z t) (fun i h st=> ?_) (fun i H g=>g) (fun i H g=>g) yl (fun A i s Q E st h=>wpAny_pyIter_striter_wide st h),⟨_,Co _ rfl,rfl,rfl⟩,fp,q⟩
  obtain⟨o,e,c,d⟩:=st;exact⟨o,_,_,e,c,d,by decide⟩
 | true =>
  refine wpAny_pyIter_ascii ha ?_
  refine⟨s1.heap.objs.size,[s1.heap.objs.size],fun i h=>h.IsStrIter s1.heap.objs.size "str_ascii_iterator" z t i,CB z,H1,rfl,I1.kept (t' :=s1.toks) fun b o e=>CL _ e,
   eI (fun A hA=>Walks.strAscii hA _ z t) (fun i h st=> ?_) (fun i H g=>g) (fun i H g=>g) yl (fun A i s Q E st h=>wpAny_pyIter_striter_ascii st h),⟨_,Co _ rfl,rfl,rfl⟩,fp,q⟩
  obtain⟨o,e,c,d⟩:=st;exact⟨o,_,_,e,c,d,by decide⟩
noncomputable def Itc(lo c:Int)(n:Nat):It:=⟨fun i _=>i<n,fun i H x H' =>H' =H/\x=.int (lo+i*c),fun i _=>i=n⟩
noncomputable def BQ(ta:TA):TI:=fun σ H R=>ta σ H fun vs H1=>∃i j c:Int,vs=[.int i,.int j,.int c]/\c≠0/\c.natAbs<1073741824/\Builtin.Range.small i j c=true/\R (Itc i c (Builtin.Range.rangeSize i j c).toNat) H1
theorem jk(i j c:Int):0<=Builtin.Range.rangeSize i j c:=by
 unfold Builtin.Range.rangeSize
 split
 ·split
  ·have:=Int.ediv_nonneg (a:=j-i-1) (b:=c) (by omega) (by omega)
   omega
  ·exact D6 _
 ·split
  ·by_cases hc:c=0
   ·subst hc
    simp
   ·have:=Int.ediv_nonneg (a:=i-j-1) (b:= -c) (by omega) (by omega)
    omega
  ·exact D6 _
theorem pS{tg:Expr}{a b c:Expr}{ta:TA}{p pos:Pos}(hg:Gl X "range")(hm:X.mg "range"=none)(ha:PA X [a,b,c] ta)(hs:starEach [a,b,c] X.env=(false,eval a X.env)::starEach [b,c] X.env:=by rfl)
  (hs2:(backTo pos (starEach [b,c] X.env)).any (·.1)=false:=by rfl):PI X tg (.Call (.Name "range" p) [a,b,c] [] pos) (BQ ta):=by
 intro pins s σ H R I h;refine Call_ (cV I hg hm boot_range (DJ (aq (ha pos pins s σ H _ I h) fun us s1 ⟨vs,H1,I1,r1,q1⟩=> ?_) hs hs2));obtain⟨i,j,k,e,hk,hk2,hsm,q⟩:=q1;subst e;cases r1 with
 | cons r rr =>
  cases rr with
  | cons r' rr =>
   cases rr with
   | cons r'' rr =>
    cases rr;obtain⟨t,rfl⟩:=r;obtain⟨t',rfl⟩:=r';obtain⟨t'',rfl⟩:=r'';refine call_range_3 hk ?_ (.inl (PyProof.noPylong_small hk2));refine wpAny_pyIter_range (IsRange.new ..) hsm ?_;have I2:Inv X pins σ H1 {s1 with heap:=s1.heap.push {cls:=.type "range",data:=.fields #[.int i t,.int j t',.int k t'']}}:=I1.kept (t' :=s1.toks) fun b o e=>CL _ e
    refine⟨_,[_],_,_,H1,rfl,I2.kept (t' :=s1.toks) fun b o e=>CL _ e,
     eI (fun A hA=>Walks.range hA _ i k (Builtin.Range.rangeSize i j k).toNat) (fun m h st=>⟨_,_,_,st,rfl,rfl,by decide⟩) (fun m H g=>g) (fun m H g=>g) (fun m H v hv=> ?_) (fun A m s Q E st h=>wpAny_pyIter_rangeiter st h),?_,fun b hb=> ?_,q⟩
    ·obtain⟨u,rfl⟩:=hv
     exact⟨.int (i+m*k),⟨_,rfl⟩,rfl,rfl⟩
    ·have e1:i+((0:Nat):Int)*k=i:=by simp
     have e2:(((Builtin.Range.rangeSize i j k).toNat:Nat):Int)-((0:Nat):Int)=Builtin.Range.rangeSize i j k:=by
      have:=jk i j k;omega
     show IsRangeIter _ _ (i+((0:Nat):Int)*k) ((((Builtin.Range.rangeSize i j k).toNat:Nat):Int)-((0:Nat):Int)) k;rw[e1,e2];exact Co _ rfl
    ·have e:b=(s1.heap.push {cls:=.type "range",data:=.fields #[.int i t,.int j t',.int k t'']}).objs.size:=by simpa using hb
     subst e;exact I2.fpOk (CO _) (I2.hok.fresh (CO _))
theorem Inv.drew{pins:List (Addr×Obj)}{σ:St}{H:Hp}{s:Shared}{h' :Heap}{fp:List Addr}{p:Addr}{o:HO}{t' :Nat}(I:Inv X pins σ H s)(hf:∀b∈fp,fw X pins H b)(k:∀b ob,b∉fp->s.heap.get? b=some ob->h'.get? b=some ob)
  (hp:s.heap.objs.size<=p) (new:ai X.prog X.w (upd H p o) h' p o):Inv X pins σ (upd H p o) {s with heap:=h',toks:=t'}:=by
 have ne:∀b u,H b=some u->b≠p:=fun b u e=>Cr (C0 (I.hok.lt e) hp);have nf:∀b u,H b=some u->b∉fp:=fun b u e hb=>by rw[(hf b hb).1]at e;cases e
 refine I.step (g' :=s.gens) (d' :=s.drawn) (ch:=fp) (fun b hb=>⟨(hf b hb).2.2.2.1,(hf b hb).2.1,(hf b hb).2.2.2.2.1,(hf b hb).2.2.2.2.2⟩) (fun b ob _ _ hc e _=>k b ob hc e) (fun b ob _ _ hc e _=>⟨ob.slots,k b ob hc e⟩)
  (fun b ob hc e n=>by rw[aF (Cr (C0 (CU e) hp))];exact n) (fun b ob hc e=>⟨ob,k b ob hc e⟩) (fun b xs e=>by rw[aF (ne b _ e)];exact e) (fun b ob u e=>by rw[aF (ne b _ e)];exact e)
  (fun b ps e=>⟨#[],by rw[aF (ne b _ e),e];simp⟩) (fun m hm=> ?_) (fun b u e=> ?_) I.bare
 ·obtain⟨ob,es,ep,ho,r⟩:=hm
  exact⟨ob,es,ep,k _ _ (fun hb=>(hf _ hb).2.1 rfl) ho,r⟩
 ·by_cases hb:b=p
  ·subst hb
   rw[aW]at e;cases e;exact new
  ·rw[aF hb]at e
   refine(I.hok b u e).stay (fun c v hc q=>k c v ?_ q) (fun c q=>by rw[aF (ne c _ q)];exact q) (fun c xs q=>by rw[aF (ne c _ q)];exact q)
   rcases hc with rfl|hc
   ·exact nf _ _ e
   ·exact nf _ _ hc
theorem Inv.drew0{pins:List (Addr×Obj)}{σ:St}{H:Hp}{s:Shared}{h' :Heap}{fp:List Addr}{t' :Nat}(I:Inv X pins σ H s)(hf:∀b∈fp,fw X pins H b)(k:∀b ob,b∉fp->s.heap.get? b=some ob->h'.get? b=some ob) :
  Inv X pins σ H {s with heap:=h',toks:=t'}:=by
 have nf:∀b u,H b=some u->b∉fp:=fun b u e hb=>by rw[(hf b hb).1]at e;cases e
 refine I.step (g' :=s.gens) (d' :=s.drawn) (ch:=fp) (fun b hb=>⟨(hf b hb).2.2.2.1,(hf b hb).2.1,(hf b hb).2.2.2.2.1,(hf b hb).2.2.2.2.2⟩) (fun b ob _ _ hc e _=>k b ob hc e) (fun b ob _ _ hc e _=>⟨ob.slots,k b ob hc e⟩)
  (fun b ob hc e n=>n) (fun b ob hc e=>⟨ob,k b ob hc e⟩) (fun b xs e=>e) (fun b ob u e=>e) (fun b ps e=>⟨#[],by rw[e];simp⟩) (fun m hm=> ?_) (fun b u e=> ?_) I.bare
 ·obtain⟨ob,es,ep,ho,r⟩:=hm
  exact⟨ob,es,ep,k _ _ (fun hb=>(hf _ hb).2.1 rfl) ho,r⟩
 ·refine(I.hok b u e).stay (fun c v hc q=>k c v ?_ q) (fun c q=>q) (fun c xs q=>q)
  rcases hc with rfl|hc
  ·exact nf _ _ e
  ·exact nf _ _ hc
noncomputable def Itz(K:W.Frag)(a b:Addr):It :=
  ⟨fun i H=>∃xs ys x y,ao K H a xs/\ao K H b ys/\xs[i]? =some x/\ys[i]? =some y,
   fun i H v H' =>∃p,H p=none/\v=.ref p/\∀xs ys x y,ao K H a xs->ao K H b ys->xs[i]? =some x->ys[i]? =some y->H' =upd H p (.tup [x,y]),
   fun i H=>∃xs ys,ao K H a xs/\ao K H b ys/\(xs.length<=i\/ys.length<=i)⟩
noncomputable def B5(z TI TO i1 i2 a b:Addr)(i:Nat)(h:Heap):Prop:=IsZip h z TI TO .none/\IsPair h TI (.ref i1) (.ref i2)/\(∃u v,IsPair h TO u v)/\h.IsListIter i1 a i/\h.IsListIter i2 b i
theorem rB{P:Program}{w:World}{K:W.Frag}{es:List Expr}{kt:Nat}{tpos:Pos}{z TI TO i1 i2 a b:Addr}(D:ZipApart z TI TO i1 i2 a b) :
  nj P w K (.Tuple es kt tpos) (Itz K a b) [z,TI,TO,i1,i2] z (B5 z TI TO i1 i2 a b) where
 mem:=by simp
 obj:=fun i h st c hc=>by
  obtain⟨hz,hTI,⟨u,v,hTO⟩,⟨o1,e1,_,d1⟩,⟨o2,e2,_,d2⟩⟩:=st;simp only[Ca,DK,EU]at hc
  rcases hc with rfl|rfl|rfl|rfl|rfl
  ·exact⟨_,hz,fun v z=>by cases z⟩
  ·exact⟨_,hTI,fun v z=>by cases z⟩
  ·exact⟨_,hTO,fun v z=>by cases z⟩
  ·exact⟨_,e1,fun v z=>by rw[d1]at z;cases z⟩
  ·exact⟨_,e2,fun v z=>by rw[d2]at z;cases z⟩
 keep:=fun i h h' st k=>by
  obtain⟨hz,hTI,⟨u,v,hTO⟩,h1,h2⟩:=st;exact⟨k z (by simp) _ hz,k TI (by simp) _ hTI,⟨u,v,k TO (by simp) _ hTO⟩,h1.at fun o e=>k i1 (by simp) o e,h2.at fun o e=>k i2 (by simp) o e⟩
 item:=by
  intro X hP hw hK hc i pins s σ H E I hf st hg;subst hP hw hK;obtain⟨xs,ys,x,y,sa,sb,ex,ey⟩:=hg;obtain⟨its,ra,pa,_⟩:=I.list sa;obtain⟨its',rb,pb,_⟩:=I.list sb;obtain⟨u,eu,ru⟩:=ra.get ex;obtain⟨v,ev,rv⟩:=rb.get ey;obtain⟨hz,hTI,⟨u0,v0,hTO⟩,h1,h2⟩:=st;refine wpAny_pyNext_zip_item D hz hTI hTO h1 h2 pa.isList pb.isList (x:=u) (y:=v) (by simpa using eu) (by simpa using ev) fun h' a1 a2 a3 a4 a5 a6 hk=> ?_;refine⟨_,rfl,wpAny_letOwnedTupleGo_zip a1 fun h'' hz' hs' => ?_⟩;have zlt:z<s.heap.objs.size:=CU hz;have kk:∀c o,c∉[z,TI,TO,i1,i2]->s.heap.get? c=some o->h''.get? c=some o:=fun c o hc e=>by
   simp only[Ca,DK,EU,not_or]at hc;obtain⟨c1,c2,c3,c4,c5⟩:=hc;exact(hs'.2 c c1).trans (hk c o c1 c3 c4 c5 e)
  have tI:h''.get? TI=some _:=(hs'.2 TI D.TIz).trans (hk TI _ D.TIz D.TITO D.TIi1 D.TIi2 hTI);have new:h''.get? s.heap.objs.size=some {cls:=.type "tuple",data:=.seq #[u,v]}:=(hs'.2 _ (FA zlt)).trans a5;have I1:Inv X pins σ (upd H s.heap.objs.size (.tup [x,y])) {s with heap:=h''}:=I.drew (t' :=s.toks) hf kk (CO _) ⟨by show 2<=sizeLine;decide,[u,v],.cons ru (.cons rv .nil),⟨_,new,rfl,_,rfl,rfl⟩⟩;refine⟨.ref s.heap.objs.size,upd H s.heap.objs.size (.tup [x,y]),I1,rfl,⟨s.heap.objs.size,I.hok.fresh (CO _),rfl,fun xs' ys' x' y' sa' sb' ex' ey' => ?_⟩,⟨hz',tI,⟨_,_,(hs'.2 TO D.TOz).trans a2⟩,a3.at fun o e=>(hs'.2 i1 D.i1z).trans e,a4.at fun o e=>(hs'.2 i2 D.i2z).trans e⟩,fun c hc=> ?_⟩
  ·have q1:=I.list_inj sa sa'
   have q2:=I.list_inj sb sb';subst q1 q2;rw[ex]at ex';rw[ey]at ey';cases ex';cases ey';rfl
  ·rw[aF ?_]
   ·exact(hf c hc).1
   ·intro e
    have lt:c<s.heap.objs.size:=by
     simp only[Ca,DK,EU]at hc;obtain⟨o1,e1,_⟩:=id h1;obtain⟨o2,e2,_⟩:=id h2
     rcases hc with rfl|rfl|rfl|rfl|rfl
     ·exact zlt
     ·exact CU hTI
     ·exact CU hTO
     ·exact CU e1
     ·exact CU e2
    exact absurd e (Cr lt)
 done:=by
  intro X hP hw hK hc i pins s σ H E I hf st hg;subst hP hw hK;obtain⟨xs,ys,sa,sb,hend⟩:=hg;obtain⟨its,ra,pa,_⟩:=I.list sa;obtain⟨its',rb,pb,_⟩:=I.list sb;obtain⟨hz,hTI,⟨u0,v0,hTO⟩,h1,h2⟩:=st;have l1:=ra.length;have l2:=rb.length;refine wpAny_pyNext_zip_end (I.ok.hd hc) D hz hTI hTO h1 h2 pa.isList pb.isList ?_ fun h' hk=>⟨rfl,I.drew0 (t' :=s.toks) hf fun c o hc e=> ?_⟩
  ·rcases hend with q|q
   ·exact .inl (by simp;omega)
   ·exact .inr (by simp;omega)
  ·simp only[Ca,DK,EU,not_or]at hc
   exact hk c o hc.1 hc.2.2.1 hc.2.2.2.1 hc.2.2.2.2 e
 self:=fun _ _ _ _ _ st h=>wpAny_pyIter_zip st.1 h
noncomputable def iZip(K:W.Frag)(ta:TA):TI:=fun σ H R=>ta σ H fun vs H1=>∃a b xs ys,vs=[.ref a,.ref b]/\ao K H1 a xs/\ao K H1 b ys/\R (Itz K a b) H1
theorem yC{es:List Expr}{kt:Nat}{tpos:Pos}{a b:Expr}{ta:TA}{p pos:Pos}(hg:Gl X "zip")(hm:X.mg "zip"=none)(ha:PA X [a,b] ta)(hs:starEach [a,b] X.env=(false,eval a X.env)::starEach [b] X.env:=by rfl)
  (hs2:(backTo pos (starEach [b] X.env)).any (·.1)=false:=by rfl):PI X (.Tuple es kt tpos) (.Call (.Name "zip" p) [a,b] [] pos) (iZip X.K ta):=by
 intro pins s σ H R I h;refine Call_ (cV I hg hm boot_zip (DJ (aq (ha pos pins s σ H _ I h) fun us s1 ⟨vs,H1,I1,r1,q1⟩=> ?_) hs hs2));obtain⟨l1,l2,xs,ys,e,sa,sb,q⟩:=q1;subst e;obtain⟨u,v,rfl,ru,rv⟩:=vals2 r1;cases ru;cases rv;obtain⟨its,ra,pa,_⟩:=I1.list sa;obtain⟨its',rb,pb,_⟩:=I1.list sb;have lt1:l1<s1.heap.objs.size:=by obtain⟨o,e,_⟩:=pa.isList;exact CU e
 have lt2:l2<s1.heap.objs.size:=by obtain⟨o,e,_⟩:=pb.isList;exact CU e
 refine call_zip_2 pa.isList pb.isList fun h' hz hTI hTO hit1 hit2 hsz hk=> ?_;refine wpAny_pyIter_zip hz ?_;have I2:Inv X pins σ H1 {s1 with heap:=h'}:=I1.kept (t' :=s1.toks) hk;refine⟨s1.heap.objs.size+4,[s1.heap.objs.size+4,s1.heap.objs.size+2,s1.heap.objs.size+3,s1.heap.objs.size,s1.heap.objs.size+1],_,_,H1,rfl,I2,rB (zipApart_new lt1 lt2),⟨hz,hTI,⟨_,_,hTO⟩,hit1,hit2⟩,fun c hc=> ?_,q⟩;have le:s1.heap.objs.size<=c:=by
  simp only[Ca,DK,EU]at hc
  rcases hc with rfl|rfl|rfl|rfl|rfl<;>omega
 exact I1.fpOk le (I1.hok.fresh le)
theorem sX:dM X (binaryOp .FloorDiv) (rI (fun _ j=>0<j/\j.natAbs.log2<9000) fun i j=>.int (i/j)):=BE fun i j _ _ _ _ _ hc q=>by
 have h1:(0:Int)<j:=hc.1;exact floordiv_int (by omega) (by rw[Int.fdiv_eq_ediv_of_nonneg i (by omega)];exact q) (.inl (PyProof.noPylong_of_log2 hc.2))
end
theorem aA.tup{K:W.Frag}{H H' :Hp}{a:Addr}{xs:List V}(e:aA H H')(h:bQ K H a xs):bQ K H' a xs:=by
 rcases h with(h|⟨o,h⟩)|h
 ·exact .inl (.inl (e _ _ h))
 ·exact .inl (.inr ⟨o,e _ _ h⟩)
 ·exact .inr h
theorem aH{H:Hp}{p:Addr}(h:H p=none)(o:HO):aA H (upd H p o):=fun b u q=>by rw[aF (aP q h)];exact q
theorem aA.upd{H H' :Hp}{D:Addr}{o:HO}(e:aA H H')(h:H D=none):aA H (upd H' D o):=fun b u q=>by rw[aF (aP q h)];exact e b u q
noncomputable def bh(z:Str):List V:=z.cps.toList.map fun c=>V.str ⟨#[c]⟩
theorem hE(z:Str):(bh z).length=z.length:=by
 unfold bh;rw[CI,Ci];rfl
noncomputable def wy(n:Nat):List V:=(List.range n).map fun i=>V.int (i:Nat)
section
variable{X:Cx}{N' :List Str}{scope:Scope}{elt:Expr}{σ:St}{H1:Hp}{J:It}{xs:List V}
theorem lf{r:List (Option Nat)}{σ:St}{x:V}(h:r.length+1=N'.length) :
  ((bT (none::r) σ).set 0 (some x)).length=N'.length/\∀(j:Nat)(v:V),(bT (none::r) σ)[j]? =some (some v)->((bT (none::r) σ).set 0 (some x))[j]? =some (some v):=by
 refine⟨by rw[Dg];simp[bT,h],fun j v e=> ?_⟩;cases j with
 | zero=>simp[bT]at e
 | succ j=>simpa [bT]using e
end
structure Def(K:W.Frag)(mg:Str->Option Value)(x:Str)(st:Stmt)(ps:List Str)(f:Addr)(fd:FuncData):Prop where
 fn:AR K x x st f fd
 nm:mg x=some (.ref f)
 bd:Binds K fd ps []
theorem A4{X:Cx}{x:Str}{n:String}{pos:Pos}(hg:Gl X x)(hm:X.mg x=none)(hv:bootBuiltins x=some (.type n))(hn:x≠"__name__":=by decide)(hd:(x==("__debug__":Str))=false:=by decide):PE X (.Name x pos) (tC (.ty n)) :=
 vT (v:=.ty n) hg hm hv rfl hn hd
section
variable{K:W.Frag}
theorem dQ(n:String):W.kitOne K (.type n) (.type n)=some true:=by
 unfold W.kitOne;rw[CQ (by simp)]
end
noncomputable def BN:V->Nat
 | .str z=>z.length
 | _=>0
noncomputable def oD(K:W.Frag):Sp:=fun vs H Q _=>∃(a:Addr)(ns:List Int),vs=[.ref a]/\ao K H a (ns.map V.int)/\ns.length<=63/\∀H',Q (.bl true) H'
section
variable{X:Cx}{e st:Expr}{te ts:TE}{pos p2:Pos}
noncomputable def vF:V->List V->Hp->VK->Prop:=fun x vs H Q=>∃(l:Addr)(xs:List V)(i:Int)(y:V),x=.ref l/\vs=[.int i,y]/\H l=some (.lst xs)/\0<=i/\i<=xs.length/\xs.length<sizeLine/\Q .non (upd H l (.lst (xs.take i.toNat++y::xs.drop i.toNat)))
theorem pc:MtM X "list.insert" vF:=by
 intro pins s σ H x vs v us Q I rx rv h;obtain⟨l,xs,i,y,rfl,rfl,hH,h0,h1,hz,q⟩:=h;cases rx;obtain⟨u,w',rfl,⟨t,rfl⟩,ry⟩:=rv.two;obtain⟨z,its,n,r,hl,e⟩:=I.lstM hH;have hs:sizeLine=16777216:=DX;refine Er F.slot_list_insert ⟨_,e,rfl⟩ F.entry_list_insert (F.args_list_insert_3 _ _ _) (AutoListH.list_insert_list_int_val_1 l its.toArray n i t w' ?_ (by rw[CN];omega)) ⟨e,?_⟩
 ·unfold Builtin.List.listFitsIndex
  simp;omega
 ·refine⟨.non,_,I.lset (its' :=its.take i.toNat++w' ::its.drop i.toNat) hH e ?_ ((r.take i.toNat).append (.cons ry (r.drop i.toNat))) ?_,rfl,q⟩
  ·have k:(if i<0 then(i+((its.toArray.size:Nat):Int)).toNat else min i.toNat its.toArray.size)=i.toNat:=by
    rw[CM (by omega),CN];omega
   simp only[k];simp;rw[Db (by simp)]
  ·simp only[CP,DI,Cv,EG]
   omega
end
section
variable{κ:Type}[DecidableEq κ]
noncomputable def eV(kvs:List (κ×V))(k:κ):Option V:=(kvs.find? fun kv=>decide (kv.1=k)).map (·.2)
noncomputable def ip(kvs:List (κ×V))(k:κ)(v:V):List (κ×V) :=
 if(kvs.any fun kv=>decide (kv.1=k))=true then kvs.map (fun kv=>if kv.1=k then(kv.1,v)else kv)else kvs++[(k,v)]
theorem eT{p:κ×V}{r:List (κ×V)}{k:κ}(e:p.1=k):eV (p::r) k=some p.2:=by simp[eV,Ej,e]
theorem eU{p:κ×V}{r:List (κ×V)}{k:κ}(e:¬p.1=k):eV (p::r) k=eV r k:=by simp[eV,Ej,e]
theorem kO(k:κ):∀kvs:List (κ×V),(kvs.any fun kv=>decide (kv.1=k))=(eV kvs k).isSome
 | []=>rfl
 | p::r=>by
  rw[List.any_cons]
  by_cases e:p.1=k
  ·simp only[eT e,DZ e,Bool.true_or,Option.isSome_some]
  ·rw[eU e,C6 e,Bool.false_or];exact kO k r
theorem fv.isSome_eq{o:Option V}{u:Option Value}(r:fv o u):o.isSome=u.isSome:=by
 cases o with
 | none=>cases u with
  | none=>rfl
  | some _=>exact(show False from r).elim
 | some _=>cases u with
  | none=>exact(show False from r).elim
  | some _=>rfl
theorem fv.getD{o:Option V}{u:Option Value}{d:V}{d' :Value}(r:fv o u)(rd:RelV d d'):RelV (o.getD d) (u.getD d'):=by
 cases o with
 | none=>cases u with
  | none=>exact rd
  | some _=>exact(show False from r).elim
 | some _=>cases u with
  | none=>exact(show False from r).elim
  | some _=>exact r
theorem KV.val{kvs:List (κ×V)}{vs:List (κ×Value)}(r:KV kvs vs)(k:κ):fv (eV kvs k) (valueAt vs k):=by
 unfold KV at r
 induction r with
 | nil=>exact True.intro
 | @cons p q ps qs h t ih =>
  obtain⟨h1,h2⟩:=h
  by_cases e:p.1=k
  ·have e' :q.1=k:=h1.symm.trans e
   have b:valueAt (q::qs) k=some q.2:=by simp[valueAt,Ej,e']
   rw[eT e,b];exact h2
  ·have e' :¬q.1=k:=fun z=>e (h1.trans z)
   have b:valueAt (q::qs) k=valueAt qs k:=by simp[valueAt,Ej,e']
   rw[eU e,b];exact ih
theorem KV.any{kvs:List (κ×V)}{vs:List (κ×Value)}(r:KV kvs vs)(k:κ):(kvs.any fun kv=>decide (kv.1=k))=vs.any fun kv=>decide (kv.1=k):=by
 unfold KV at r
 induction r with
 | nil=>rfl
 | cons h t ih=>rw[List.any_cons,List.any_cons,ih,h.1]
theorem KV.repl{kvs:List (κ×V)}{vs:List (κ×Value)}(r:KV kvs vs)(k:κ){y:V}{u:Value}(ry:RelV y u) :
  KV (kvs.map fun kv=>if kv.1=k then(kv.1,y)else kv) (vs.map fun kv=>if kv.1=k then(kv.1,u)else kv):=by
 unfold KV at r ⊢
 induction r with
 | nil=>exact .nil
 | @cons p q ps qs h t ih =>
  rw[Cc,Cc];refine .cons ?_ ih;obtain⟨h1,h2⟩:=h
  by_cases e:p.1=k
  ·rw[CQ e,CQ (h1.symm.trans e)];exact⟨h1,ry⟩
  ·rw[CM e,CM (fun z=>e (h1.trans z))];exact⟨h1,h2⟩
theorem KV.put{kvs:List (κ×V)}{vs:List (κ×Value)}(r:KV kvs vs)(k:κ){y:V}{u:Value}(ry:RelV y u):KV (ip kvs k y) (stored vs k u):=by
 unfold ip stored;rw[r.any k]
 by_cases e:(vs.any fun kv=>decide (kv.1=k))=true
 ·rw[CQ e,CQ e];exact r.repl k ry
 ·rw[CM e,CM e];exact Paired.snoc r ⟨rfl,ry⟩
theorem KV.length{kvs:List (κ×V)}{vs:List (κ×Value)}(r:KV kvs vs):kvs.length=vs.length:=Paired.length r
end
theorem wx{P:Program}{w:World}{k:bA}{u:Value}(r:RelV (kV k) u):(bJ P w).is k u=true:=by
 cases k with
 | inl i=>obtain⟨t,e⟩:=(show∃t,u=Value.int i t from r);subst e;exact ku P w i t
 | inr x=>obtain⟨t,e⟩:=(show∃t,u=Value.str x t from r);subst e;exact kr P w x t
theorem jK{P:Program}{w:World}:∀{ks:List bA}{us:List Value},aK (ks.map kV) us->ItemsAre (bJ P w) ks us
 | [],_,r=>by rw[DS]at r;cases r;exact .nil
 | k::ks,_,r=>by
  rw[Cc]at r;cases r with
  | cons h t=>exact .cons (wx h) (jK t)
noncomputable abbrev KT(H:Hp):List (List bA×V)->List (List bA×Addr×Value)->Prop:=Paired fun p q=>p.1=q.1/\H q.2.1=some (.tup (p.1.map kV))/\RelV p.2 q.2.2
theorem KT.val{H:Hp}{kvs:List (List bA×V)}{xs:List (List bA×Addr×Value)}(r:KT H kvs xs)(k:List bA):fv (eV kvs k) ((atKey xs k).map (·.2)):=by
 induction r with
 | nil=>exact True.intro
 | @cons p q ps qs h t ih =>
  obtain⟨h1,_,h2⟩:=h
  by_cases e:p.1=k
  ·have e' :q.1=k:=h1.symm.trans e
   have b:atKey (q::qs) k=some q.2:=by simp[atKey,Ej,e']
   rw[eT e,b];exact h2
  ·have e' :¬q.1=k:=fun z=>e (h1.trans z)
   have b:atKey (q::qs) k=atKey qs k:=by simp[atKey,Ej,e']
   rw[eU e,b];exact ih
theorem KT.repl{H:Hp}{kvs:List (List bA×V)}{xs:List (List bA×Addr×Value)}(r:KT H kvs xs)(k:List bA){y:V}{u:Value}(ry:RelV y u) :
  KT H (kvs.map fun kv=>if kv.1=k then(kv.1,y)else kv) (xs.map (putAt k u)):=by
 induction r with
 | nil=>exact .nil
 | @cons p q ps qs h t ih =>
  rw[Cc,Cc];refine .cons ?_ ih;obtain⟨h1,h2,h3⟩:=h;unfold putAt
  by_cases e:p.1=k
  ·rw[CQ e,CQ (h1.symm.trans e)];exact⟨h1,h2,ry⟩
  ·rw[CM e,CM (fun z=>e (h1.trans z))];exact⟨h1,h2,h3⟩
theorem KT.put{H:Hp}{kvs:List (List bA×V)}{xs:List (List bA×Addr×Value)}(r:KT H kvs xs)(k:List bA){b:Addr}{y:V}{u:Value}(hb:H b=some (.tup (k.map kV)))(ry:RelV y u) :
  KT H (ip kvs k y) (storedH xs k b u):=by
 have e:(kvs.any fun kv=>decide (kv.1=k))=(atKey xs k).isSome:=by
  rw[kO,(r.val k).isSome_eq,Option.isSome_map]
 unfold ip storedH;rw[e]
 by_cases q:(atKey xs k).isSome=true
 ·rw[CQ q,CQ q];exact r.repl k ry
 ·rw[CM q,CM q];exact Paired.snoc r ⟨rfl,hb,ry⟩
theorem KT.keeps{H H' :Hp}{kvs:List (List bA×V)}{xs:List (List bA×Addr×Value)}(r:KT H kvs xs)(ht:∀b ys,H b=some (.tup ys)->H' b=some (.tup ys)):KT H' kvs xs :=
 Paired.mapP r fun _ _ z=>⟨z.1,ht _ _ z.2.1,z.2.2⟩
section
variable{P:Program}{w:World}{H:Hp}{h:Heap}{a:Addr}
theorem wg{u:HO}(ok:dz P w H h)(e:Rd H a u):ai P w H h a u:=e.ok ok
theorem tf{kvs:List (bA×V)}(ok:dz P w H h)(e:Rd H a (.dK kvs)):kvs.length<=sizeLine/\(a==sysModules)=false/\∃vs,KV kvs vs/\h.DictOf (bJ P w) a vs :=
 show ai P w H h a (.dK kvs)from wg ok e
theorem sw{ks:List bA}(ok:dz P w H h)(e:H a=some (.tup (ks.map kV))):(tupleKind (bJ P w)).is h ks a:=by
 obtain⟨_,its,r,o,h1,h2,n,h3,_⟩:=(show ai P w H h a (.tup (ks.map kV))from ok a _ e);exact⟨o,its.toArray,n,h1,h2,h3,by simpa using jK r⟩
theorem xD{kvs:List (List bA×V)}(ok:dz P w H h)(e:Rd H a (.dT kvs)):kvs.length<=sizeLine/\(a==sysModules)=false /\
  ∃xs,KT H kvs xs/\h.DictOfH (tupleKind (bJ P w)) a xs:=by
 obtain⟨z,y,xs,r,o,es,ep,h1,h2,h3,h4,h5⟩:=(show ai P w H h a (.dT kvs)from wg ok e);refine⟨z,y,xs,r,o,es,ep,h1,h2,h3,h4,fun x hx=> ?_,h5⟩;have all:∀{l:List (List bA×V)}{m:List (List bA×Addr×Value)},KT H l m->∀x∈m,(tupleKind (bJ P w)).is h x.1 x.2.1:=by
  intro l m q
  induction q with
  | nil=>intro x hx;exact nomatch hx
  | @cons p q ps qs hq t ih =>
   intro x hx
   rcases Ca.mp hx with e|hx
   ·subst e
    exact sw ok (by rw[<- hq.1];exact hq.2.1)
   ·exact ih x hx
 exact all r x hx
end
noncomputable def kJ(H:Hp)(a:Addr)(y:V)(r:Option V):Prop :=
 (∃kvs k,Rd H a (.dK kvs)/\y=kV k/\r=eV kvs k)\/∃kvs k b,Rd H a (.dT kvs)/\y=.ref b/\H b=some (.tup (k.map kV))/\r=eV kvs k
noncomputable def wV(H:Hp)(a:Addr)(y v:V)(H' :Hp):Prop :=
 (∃kvs k,H a=some (.dK kvs)/\y=kV k/\kvs.length<sizeLine/\H' =upd H a (.dK (ip kvs k v))) \/
 ∃kvs k b,H a=some (.dT kvs)/\y=.ref b/\H b=some (.tup (k.map kV))/\kvs.length<sizeLine/\H' =upd H a (.dT (ip kvs k v))
theorem kJ.k{H:Hp}{a:Addr}{kvs:List (bA×V)}{k:bA}(e:H a=some (.dK kvs)):kJ H a (kV k) (eV kvs k):=.inl ⟨kvs,k,.inl e,rfl,rfl⟩
theorem kJ.t{H:Hp}{a b:Addr}{kvs:List (List bA×V)}{k:List bA}(e:H a=some (.dT kvs))(eb:H b=some (.tup (k.map kV))):kJ H a (.ref b) (eV kvs k):=.inr ⟨kvs,k,b,.inl e,rfl,eb,rfl⟩
theorem wV.k{H:Hp}{a:Addr}{kvs:List (bA×V)}{k:bA}{v:V}(e:H a=some (.dK kvs))(hl:kvs.length<sizeLine):wV H a (kV k) v (upd H a (.dK (ip kvs k v))):=.inl ⟨kvs,k,e,rfl,hl,rfl⟩
theorem wV.t{H:Hp}{a b:Addr}{kvs:List (List bA×V)}{k:List bA}{v:V}(e:H a=some (.dT kvs))(eb:H b=some (.tup (k.map kV)))(hl:kvs.length<sizeLine) :
  wV H a (.ref b) v (upd H a (.dT (ip kvs k v))):=.inr ⟨kvs,k,b,e,rfl,eb,hl,rfl⟩
section
variable{X:Cx}{pins:List (Addr×Obj)}{σ:St}{H:Hp}{s:Shared}{a:Addr}{y v:V}{u r:Value}{o:Option V}{A:Around}{E:Value->Shared->Prop}
theorem qL{Q:Value->Shared->Prop}(hu:A.units+1<cLine)(I:Inv X pins σ H s)(g:kJ H a y (some v))(ry:RelV y u)(h:∀w' s',Inv X pins σ H s' ->RelV v w' ->Q w' s') :
  wpAny (model X.prog X.w) A (getItem (.ref a) u) Q E s:=by
 rcases g with⟨kvs,k,e,ey,l⟩|⟨kvs,k,b,e,ey,eb,l⟩
 ·subst ey
  obtain⟨z,hd,vs,rel,dd⟩:=tf I.hok e;obtain⟨w',hw,rw'⟩:=fv.some_of (v:=v) (o:=valueAt vs k) (by rw[l];exact rel.val k);exact wpAny_getItem_of (wx ry) dd.mapOf hw (h w' _ (I.tok _) rw')
 ·subst ey
  cases(show u=Value.ref b from ry);obtain⟨z,hd,xs,rel,dd⟩:=xD I.hok e;obtain⟨w',hw,rw'⟩:=fv.some_of (v:=v) (o:=(atKey xs k).map (·.2)) (by rw[l];exact rel.val k);obtain⟨p,hp,hp2⟩:=Option.map_eq_some_iff.mp hw;refine wpAny_getItem_heap (tupleKind_room_in1 hu) (sw I.hok eb) dd hp ?_;rw[hp2];exact h w' _ (I.tok _) rw'
end
section
variable{X:Cx}{pins:List (Addr×Obj)}{σ:St}{H:Hp}{s:Shared}{a:Addr}{kvs:List (bA×V)}{k:bA}{u:Value}{A:Around}{E:Value->Shared->Prop}
theorem Bp{Q:Value->Shared->Prop}(I:Inv X pins σ H s)(e:Rd H a (.dK kvs))(h:∀t s',Inv X pins σ H s' ->Q (.int kvs.length t) s'):wpAny (model X.prog X.w) A (call (.builtin "len") [.ref a]) Q E s:=by
 obtain⟨z,hd,vs,rel,dd⟩:=tf I.hok e;refine call_len_dict hd dd (by rw[<- rel.length];rw[DX]at z;omega) ?_;rw[<- rel.length];exact h _ _ (I.tok _)
end
noncomputable def AB(i:Expr):Prop:=∀ov iv,subscripted i false ov iv=operate [ov,iv] (getItem ov iv)
theorem ux{prog:Program}{w:World}{A:Around}{E:Value->Shared->Prop}{s:Shared}{env:Env}{value slice:Expr}{pos:Pos}{T id:String}{Q:Value->Shared->Prop}
  (hl:typeLookup (.type T) "__getitem__"=pure (some (.builtin id))) (hs:AB slice)
  (h:wpAny (model prog w) A (eval value env) (fun o s₁=>wpAny (model prog w) A (eval slice env) (fun i s₂=>s₂.TypeIs o T/\wpAny (model prog w) A (getItem o i) Q E s₂) E s₁) E s) :
  wpAny (model prog w) A (eval (.Subscript value slice pos) env) Q E s:=by
 refine Subscript_ (Dq h (fun o s₁ h₁=>Dq h₁ (fun i s₂ h₂=> ?_) fun _ _ x=>x) fun _ _ x=>x);obtain⟨hT,h₂⟩:=h₂;unfold subscriptTail;refine CJ ?_;rw[getitemInPython_of_ne hT.not_modules];refine CJ (wpAny_specialOf hT hl ?_);have fin:wpAny (model prog w) A (subscripted slice false o i) (fun r s₃=>wpAny (model prog w) A (letTemporaryGo value o r >>= fun _=>pure r) Q E s₃) E s₂:=by
  rw[hs o i];exact wpAny_operating (Dq h₂ (fun r s₃ h₃=>CJ (wpAny_letTemporaryGo (Ce h₃))) fun _ _ x=>x)
 first
  | exact Ce (CJ fin)
  | exact CJ (Ce (CJ fin))
  | exact CJ fin
theorem lT{X:Cx}{pins:List (Addr×Obj)}{σ:St}{H:Hp}{s:Shared}{a:Addr}{y:V}{o:Option V}(I:Inv X pins σ H s)(g:kJ H a y o):s.TypeIs (.ref a) "dict":=by
 rcases g with⟨kvs,k,e,_,_⟩|⟨kvs,k,b,e,_,_,_⟩
 ·obtain⟨_,_,vs,_,dd⟩:=tf I.hok e
  exact dd.typeIs
 ·obtain⟨_,_,xs,_,dd⟩:=xD I.hok e
  exact dd.typeIs
noncomputable def Ag(td ty:TE):TE:=fun σ H Q=>td σ H fun x H1=>ty σ H1 fun y H2=>∃a v,x=.ref a/\kJ H2 a y (some v)/\Q v H2
section
variable{X:Cx}{o i e value:Expr}{pos pos' tpos:Pos}{td ty tv:TE}
theorem oH(hu:X.A.units+1<cLine)(ho:PE X o td)(hi:PE X i ty)(hs:AB i):PE X (.Subscript o i pos) (Ag td ty):=by
 intro pins s σ H Q I h;refine ux PySem.F.slot_dict_getitem.lookup hs (aq (ho pins s σ H _ I h) fun u s1 ⟨x,H1,I1,rx,q1⟩=>aq (hi pins s1 σ H1 _ I1 q1) fun iv s2 hpq=> ?_);obtain⟨y,H2,I2,ry,a,v,ex,g,q2⟩:=hpq;subst ex;obtain rfl:u=Value.ref a:=rx;exact⟨lT I2 g,qL hu I2 g ry fun w' s3 I3 rw' =>⟨v,H2,I3,rw',q2⟩⟩
end
section
variable{X:Cx}{pos:Pos}
end
noncomputable def yd(kvs more:List (bA×V)):List (bA×V):=more.foldl (fun acc kv=>ip acc kv.1 kv.2) kvs
theorem KV.merge:∀{more:List (bA×V)}{rs:List (bA×Value)}{kvs:List (bA×V)}{vs:List (bA×Value)},KV more rs->KV kvs vs->KV (yd kvs more) (merged vs rs):=by
 intro more rs kvs vs r;unfold KV at r
 induction r generalizing kvs vs with
 | nil=>intro q;exact q
 | @cons p q ps qs h t ih =>
  intro r0;have e:KV (ip kvs p.1 p.2) (stored vs q.1 q.2):=by
   have:=r0.put p.1 h.2;rw[<- h.1];exact this
  exact ih e
structure M2(X:Cx)(o:Expr)(m:Str)(apos:Pos)(e f:Expr)(cpos:Pos):Prop where
 base:attributeBase o m X.env (eval o X.env)=eval o X.env
 few:((backTo cpos (starEach [e,f] X.env)).all (fun x=> !x.1)&&(backToKw cpos (keywordEach [] X.env)).all (fun x=>x.1.isSome)
  && decide (([e,f]:List Expr).length+([]:List Keyword).length+(if([]:List Keyword).isEmpty then 0 else 1)<30))=true
 line:(apos.endLine==cpos.line)=true
 trees:backTo cpos (starEach [e,f] X.env)=[(false,eval e X.env),(false,eval f X.env)]
section
variable{X:Cx}{pins:List (Addr×Obj)}{σ:St}{H:Hp}{s:Shared}{a:Addr}{y d:V}{u r:Value}{o:Option V}{A:Around}{E:Value->Shared->Prop}
end
section
variable{X:Cx}{o e f:Expr}{apos cpos:Pos}{td ty tx:TE}
end
section
variable{X:Cx}{pins:List (Addr×Obj)}{σ:St}{H:Hp}{s:Shared}{a:Addr}{kvs:List (bA×V)}{A:Around}{E:Value->Shared->Prop}
end
section
variable{X:Cx}{pins:List (Addr×Obj)}{σ:St}{H:Hp}{s:Shared}{a:Addr}{y:V}{u:Value}{A:Around}{E:Value->Shared->Prop}
end
section
variable{κ:Type}[DecidableEq κ]
end
noncomputable def cd(rows:List Str)(i j:Nat):Nat:=((rows.getD i ⟨#[]⟩).cps.toList).getD j 0
noncomputable def fl(c:Nat):Nat:=if c=120 then 46 else 120
noncomputable def Wd(rows:List Str)(w:Nat):Prop:=∀r∈rows,r.length=w
theorem xE{rows:List Str}{w i j:Nat}(hw:Wd rows w)(hi:i<rows.length)(hj:j<w):∃z,rows[i]? =some z/\z.cps.toList[j]? =some (cd rows i j)/\z.length=w:=by
 have e:rows[i]? =some rows[i]:=CW hi;have hl:=hw rows[i] (Dj hi);have hj' :j<rows[i].cps.toList.length:=by
  rw[Ci];show j<rows[i].length;omega
 refine⟨rows[i],e,?_,hl⟩;unfold cd;rw[Cs,Cs,e,Option.getD_some,CW hj',Option.getD_some]
open AutoSeq1 (wpAny_loadPart')
theorem fZ:fillsNumberSlot (.type "tuple") "mul"=pure false :=
 PySem.fillsNumberSlot_seq (id:="tuple.__mul__") (r:=some (.builtin "tuple.__rmul__")) F.slot_tuple_mul.lookup (by decide +kernel) F.slot_tuple_rmul.lookup (by decide +kernel)
theorem ji:seqRepeat? (.type "tuple")=pure (some (.builtin "tuple.__mul__")):=by
 unfold seqRepeat?;rw[PySem.seqSlot_of (T:="tuple") (name:="__mul__") (id:="tuple.__mul__") F.slot_tuple_mul.lookup (by decide +kernel),PySem.seqSlot_of (T:="tuple") (name:="__rmul__") (id:="tuple.__rmul__") F.slot_tuple_rmul.lookup (by decide +kernel)];rfl
theorem mU(a:Int)(t:Tok)(l:Addr)(items:Array Value)(n:Nat)(dd:Option Addr)(sl:Array (Option Value)) :
  Meets (Builtin.«int.__rmul__» ⟨[.int a t,.ref l],[]⟩) (fun _ R s=>s.heap.get? l=some {cls:=.type "tuple",dict:=dd,data:=.seq items n,slots:=sl}/\R (.ok (.ret Value.notImplemented)) s) :=
 .of_wp fun prog w A R s h=>by
  obtain⟨hp,g,d,tk,os⟩:=s;obtain⟨hl,h⟩:=h
  wp_walk
  exact⟨_,rfl,h⟩
theorem mJ(l:Addr)(v:Value)(n:Nat)(dd:Option Addr)(sl:Array (Option Value))(u:Tok) :
  Meets (Builtin.«tuple.__mul__» ⟨[.ref l,.int 8 u],[]⟩) (fun _ R s=>s.heap.get? l=some {cls:=.type "tuple",dict:=dd,data:=.seq #[v] n,slots:=sl} /\
   R (.ok (.ret (.ref s.heap.objs.size))) {s with heap:=s.heap.push {cls:=.type "tuple",data:=.seq [v,v,v,v,v,v,v,v].toArray}}) :=
 .of_wp fun prog w A R s h=>by
  obtain⟨hp,g,d,tk,os⟩:=s;obtain⟨hl,h⟩:=h;have f1:=EN
  wp_walk using DE hl
  exact⟨_,rfl,h⟩
section
variable{X:Cx}
end
open AutoSeq1 (wpAny_loadPart')
theorem mP(l:Addr)(v:Value)(n:Nat)(dd:Option Addr)(sl:Array (Option Value))(u:Tok) :
  Meets (Builtin.«tuple.__mul__» ⟨[.ref l,.int 2 u],[]⟩) (fun _ R s=>s.heap.get? l=some {cls:=.type "tuple",dict:=dd,data:=.seq #[v] n,slots:=sl} /\
   R (.ok (.ret (.ref s.heap.objs.size))) {s with heap:=s.heap.push {cls:=.type "tuple",data:=.seq [v,v].toArray}}) :=
 .of_wp fun prog w A R s h=>by
  obtain⟨hp,g,d,tk,os⟩:=s;obtain⟨hl,h⟩:=h;have f1:=EN
  wp_walk using DE hl
  exact⟨_,rfl,h⟩
theorem mO(l:Addr)(v:Value)(n:Nat)(dd:Option Addr)(sl:Array (Option Value))(u:Tok) :
  Meets (Builtin.«tuple.__mul__» ⟨[.ref l,.int 3 u],[]⟩) (fun _ R s=>s.heap.get? l=some {cls:=.type "tuple",dict:=dd,data:=.seq #[v] n,slots:=sl} /\
   R (.ok (.ret (.ref s.heap.objs.size))) {s with heap:=s.heap.push {cls:=.type "tuple",data:=.seq [v,v,v].toArray}}) :=
 .of_wp fun prog w A R s h=>by
  obtain⟨hp,g,d,tk,os⟩:=s;obtain⟨hl,h⟩:=h;have f1:=EN
  wp_walk using DE hl
  exact⟨_,rfl,h⟩
theorem mN(l:Addr)(v:Value)(n:Nat)(dd:Option Addr)(sl:Array (Option Value))(u:Tok) :
  Meets (Builtin.«tuple.__mul__» ⟨[.ref l,.int 4 u],[]⟩) (fun _ R s=>s.heap.get? l=some {cls:=.type "tuple",dict:=dd,data:=.seq #[v] n,slots:=sl} /\
   R (.ok (.ret (.ref s.heap.objs.size))) {s with heap:=s.heap.push {cls:=.type "tuple",data:=.seq [v,v,v,v].toArray}}) :=
 .of_wp fun prog w A R s h=>by
  obtain⟨hp,g,d,tk,os⟩:=s;obtain⟨hl,h⟩:=h;have f1:=EN
  wp_walk using DE hl
  exact⟨_,rfl,h⟩
theorem mM(l:Addr)(v:Value)(n:Nat)(dd:Option Addr)(sl:Array (Option Value))(u:Tok) :
  Meets (Builtin.«tuple.__mul__» ⟨[.ref l,.int 5 u],[]⟩) (fun _ R s=>s.heap.get? l=some {cls:=.type "tuple",dict:=dd,data:=.seq #[v] n,slots:=sl} /\
   R (.ok (.ret (.ref s.heap.objs.size))) {s with heap:=s.heap.push {cls:=.type "tuple",data:=.seq [v,v,v,v,v].toArray}}) :=
 .of_wp fun prog w A R s h=>by
  obtain⟨hp,g,d,tk,os⟩:=s;obtain⟨hl,h⟩:=h;have f1:=EN
  wp_walk using DE hl
  exact⟨_,rfl,h⟩
theorem mL(l:Addr)(v:Value)(n:Nat)(dd:Option Addr)(sl:Array (Option Value))(u:Tok) :
  Meets (Builtin.«tuple.__mul__» ⟨[.ref l,.int 6 u],[]⟩) (fun _ R s=>s.heap.get? l=some {cls:=.type "tuple",dict:=dd,data:=.seq #[v] n,slots:=sl} /\
   R (.ok (.ret (.ref s.heap.objs.size))) {s with heap:=s.heap.push {cls:=.type "tuple",data:=.seq [v,v,v,v,v,v].toArray}}) :=
 .of_wp fun prog w A R s h=>by
  obtain⟨hp,g,d,tk,os⟩:=s;obtain⟨hl,h⟩:=h;have f1:=EN
  wp_walk using DE hl
  exact⟨_,rfl,h⟩
theorem mK(l:Addr)(v:Value)(n:Nat)(dd:Option Addr)(sl:Array (Option Value))(u:Tok) :
  Meets (Builtin.«tuple.__mul__» ⟨[.ref l,.int 7 u],[]⟩) (fun _ R s=>s.heap.get? l=some {cls:=.type "tuple",dict:=dd,data:=.seq #[v] n,slots:=sl} /\
   R (.ok (.ret (.ref s.heap.objs.size))) {s with heap:=s.heap.push {cls:=.type "tuple",data:=.seq [v,v,v,v,v,v,v].toArray}}) :=
 .of_wp fun prog w A R s h=>by
  obtain⟨hp,g,d,tk,os⟩:=s;obtain⟨hl,h⟩:=h;have f1:=EN
  wp_walk using DE hl
  exact⟨_,rfl,h⟩
theorem mI(l:Addr)(v:Value)(n:Nat)(dd:Option Addr)(sl:Array (Option Value))(u:Tok)(N:Int)(h3:2<=N)(h8:N<=8) :
  Meets (Builtin.«tuple.__mul__» ⟨[.ref l,.int N u],[]⟩) (fun _ R s=>s.heap.get? l=some {cls:=.type "tuple",dict:=dd,data:=.seq #[v] n,slots:=sl} /\
   R (.ok (.ret (.ref s.heap.objs.size))) {s with heap:=s.heap.push {cls:=.type "tuple",data:=.seq (List.replicate N.toNat v).toArray}}):=by
 have:N=2\/N=3\/N=4\/N=5\/N=6\/N=7\/N=8:=by omega
 rcases this with rfl|rfl|rfl|rfl|rfl|rfl|rfl
 ·exact mP l v n dd sl u
 ·exact mO l v n dd sl u
 ·exact mN l v n dd sl u
 ·exact mM l v n dd sl u
 ·exact mL l v n dd sl u
 ·exact mK l v n dd sl u
 ·exact mJ l v n dd sl u
section
variable{X:Cx}
theorem yQ:dM X (compareOp .Is) (fun x y H Q=>∃b c,x=.bl b/\y=.bl c/\Q (.bl (b==c)) H):=by
 intro pins s σ H x y u v Q I rx ry h;obtain⟨b,c,rfl,rfl,q⟩:=h;cases rx;cases ry;exact is_bool ⟨.bl (b==c),H,I,rfl,q⟩
theorem rV:AO X (fun x lo hi H Q=>∃z,x=.str z/\z.length<=sizeLine/\Q (.str (Txt.slice z lo hi)) H):=by
 intro pins s σ H x v vl vu lo hi sl Q I rx hs pl pu h;obtain⟨z,rfl,hz,q⟩:=h;obtain⟨t,rfl⟩:=rx;refine⟨"str",_,slot_str_getitem.lookup,typeIs_str _ _ _,?_⟩;have fin:∀t' k,EP X pins σ Q (.str (Txt.slice z lo hi) t') {s with toks:=k}:=fun t' k=>⟨.str _,H,I.tok _,⟨_,rfl⟩,q⟩;cases pl with
 | none =>
  cases pu with
  | none=>exact Es (l:=none) (u:=none) (st:=none) hs rfl (post_val_or_str ⟨DF (Txt.slice_le z _ _) hz,fin⟩)
  | int j uj=>exact Es (l:=none) (u:=some (j,uj)) (st:=none) hs rfl (post_val_or_str ⟨DF (Txt.slice_le z _ _) hz,fin⟩)
 | int i ui =>
  cases pu with
  | none=>exact Es (l:=some (i,ui)) (u:=none) (st:=none) hs rfl (post_val_or_str ⟨DF (Txt.slice_le z _ _) hz,fin⟩)
  | int j uj=>exact Es (l:=some (i,ui)) (u:=some (j,uj)) (st:=none) hs rfl (post_val_or_str ⟨DF (Txt.slice_le z _ _) hz,fin⟩)
theorem vw(k n:Nat):Builtin.Str.strSliceIndices none (some (k:Int)) 1 n=(List.range (min k n)).map fun i=>0+i:=by
 unfold Builtin.Str.strSliceIndices sliceRange;have c:((if(0:Int)<max 0 (min (k:Int) (n:Int))then(max 0 (min (k:Int) (n:Int))-0+1-1)/1 else 0):Int).toNat=min k n:=by
  rw[Int.ediv_one]
  split<;>omega
 simp only[show(1:Int)>0 by decide,Ei,show¬((k:Int)<0)by omega,Em,c];refine Ee fun i _=> ?_;omega
theorem vv(k n:Nat):Builtin.Str.strSliceIndices (some (k:Int)) none 1 n=(List.range (n-min k n)).map fun i=>min k n+i:=by
 unfold Builtin.Str.strSliceIndices sliceRange;have c:((if max 0 (min (k:Int) (n:Int))<(n:Int)then((n:Int)-max 0 (min (k:Int) (n:Int))+1-1)/1 else 0):Int).toNat=n-min k n:=by
  rw[Int.ediv_one]
  split<;>omega
 simp only[show(1:Int)>0 by decide,Ei,show¬((k:Int)<0)by omega,Em,c];refine Ee fun i _=> ?_;omega
theorem pM(z:Str)(k:Nat):(Txt.slice z none (some (k:Int))).cps.toList=z.cps.toList.take k:=by
 have l:z.cps.toList.length=z.length:=by rw[Ci];rfl
 have p:=StrLaws.picks z.cps.toList (min k z.length) 0 (by omega);have f:(fun(i:Nat)=>z.cps[i]?)=fun i=>z.cps.toList[i]? :=by funext i;simp
 unfold Txt.slice;rw[vw]
 split
 ·rename_i h
  simp only[CI,C9,CK,EV]at h;rw[Db (by omega)]
 ·rw[f,p,List.drop_zero]
  show(List.take (min k z.length) z.cps.toList).toArray.toList=_;rw[List.toList_toArray,<-l,<-List.take_eq_take_min]
theorem pL(z:Str)(k:Nat):(Txt.slice z (some (k:Int)) none).cps.toList=z.cps.toList.drop k:=by
 have l:z.cps.toList.length=z.length:=by rw[Ci];rfl
 have p:=StrLaws.picks z.cps.toList (z.length-min k z.length) (min k z.length) (by omega);have f:(fun(i:Nat)=>z.cps[i]?)=fun i=>z.cps.toList[i]? :=by funext i;simp
 unfold Txt.slice;rw[vv]
 split
 ·rename_i h
  simp only[CI,C9,CK,EV]at h
  by_cases hz:z.length=0
  ·have:z.cps.toList=[]:=List.eq_nil_of_length_eq_zero (by omega)
   rw[this];simp
  ·have:k=0:=by omega
   subst this;rfl
 ·rw[f,p]
  show(List.take (z.length-min k z.length) (List.drop (min k z.length) z.cps.toList)).toArray.toList=_;rw[List.toList_toArray,Db (by rw[EG];omega)]
  by_cases h:k<=z.length
  ·rw[Df h]
  ·rw[Nat.min_eq_right (by omega),EK (by omega),EK (by omega)]
end
section
variable{P:Program}{w:World}{A:Around}{E:Value->Shared->Prop}{s:Shared}
theorem yW{it a:Addr}{i:Nat}{its:Array Value}{v:Value}{Q:Value->Shared->Prop}(ti:s.heap.IsTupleIter it a i)(ta:s.heap.IsTuple a its)(hv:its[i]? =some v)
  (k:∀h',h'.IsTupleIter it a (i+1)->Heap.SameBut it s.heap h' ->Q v {s with heap:=h'}):wpAny (model P w) A (Builtin.SmallTypes.nextOf (.ref it)) Q E s:=by
 obtain⟨r,hr,rc,rd⟩:=id ti;obtain⟨q,hq,_,nq,qd⟩:=ta;unfold Builtin.SmallTypes.nextOf;refine CJ (Et (name:=Str.ofString "__next__") ti.typeIs F.slot_tuple_iterator_next (EL F.slot_tuple_iterator_next ti.typeIs F.entry_tuple_iterator_next ?_ (F.args_tuple_iterator_next_1 _)));show wpAny _ _ (field (.ref it) 0 >>= fun _=>_) _ _ s;refine CJ (Eh hr rd (x:=.ref a) rfl ?_);show wpAny _ _ (if(Value.ref a==Value.none)=true then _ else _) _ _ s;rw[CM (by exact CT)];show wpAny _ _ (field (.ref it) 1 >>= fun _=>_) _ _ s;refine CJ (Eh hr rd (x:=.int i 0) rfl ?_);show wpAny _ _ (seqItems? (.ref a) >>= fun _=>_) _ _ s;refine CJ (wpAny_seqItems hq qd ?_);simp only[FQ,hv];refine CJ (wpAny_setField hr rd (by simp) (Ce ⟨v,rfl,Ce (k _ ?_ (Heap.SameBut.update ..))⟩));exact⟨_,Heap.get?_update_self _ hr (Obj.isFreed_of_fields (Obj.data_mapFields rd _)),(Obj.cls_mapFields ..).trans rc,by rw[Obj.data_mapFields rd];simp[rawInt]⟩
theorem mj{it a:Addr}{i:Nat}{its:Array Value}{Q:Value->Shared->Prop}(hd:A.handled=none)(ti:s.heap.IsTupleIter it a i)(ta:s.heap.IsTuple a its)(hv:its[i]? =none)
  (k:∀h' e,Heap.ExtBut it s.heap h' ->(∃o,h'.get? e=some o/\o.cls=.type "StopIteration")->E (.ref e) {s with heap:=h'}):wpAny (model P w) A (Builtin.SmallTypes.nextOf (.ref it)) Q E s:=by
 obtain⟨r,hr,rc,rd⟩:=id ti;obtain⟨q,hq,_,nq,qd⟩:=ta;unfold Builtin.SmallTypes.nextOf;refine CJ (Et (name:=Str.ofString "__next__") ti.typeIs F.slot_tuple_iterator_next (EL F.slot_tuple_iterator_next ti.typeIs F.entry_tuple_iterator_next ?_ (F.args_tuple_iterator_next_1 _)));show wpAny _ _ (field (.ref it) 0 >>= fun _=>_) _ _ s;refine CJ (Eh hr rd (x:=.ref a) rfl ?_);show wpAny _ _ (if(Value.ref a==Value.none)=true then _ else _) _ _ s;rw[CM (by exact CT)];show wpAny _ _ (field (.ref it) 1 >>= fun _=>_) _ _ s;refine CJ (Eh hr rd (x:=.int i 0) rfl ?_);show wpAny _ _ (seqItems? (.ref a) >>= fun _=>_) _ _ s;refine CJ (wpAny_seqItems hq qd ?_);simp only[FQ,hv];refine CJ (Ep (CJ (wpAny_setField hr rd (by simp) ?_)));show wpAny _ _ (newExc (.type "StopIteration") [] >>= fun _=>_) _ _ _;refine CJ ?_;simp only[newExc,newTuple];refine CJ (EC ?_ (by size_fits));refine CJ (m:=firstArgMember _ _) (wpAny_of_eq (a:=Value.none) (by first|(simp only[firstArgMember];rfl)|rfl) ?_);refine EC ?_ (by size_fits);simp only[raiseNew];refine CJ (wpAny_handled ?_)
 first|rw[hd]|rw[show A.in1.handled=none by exact hd]
 refine CJ (Ce (wpAny_throw ?_));exact k _ _ (((Heap.SameBut.update ..).extBut.push _).push _) ⟨_,Co _ rfl,rfl⟩
end
theorem qK{P:Program}{w:World}{A:Around}(hd:A.handled=none)(it a:Addr)(ne:a≠it)(its:Array Value) :
  Draws P w A it [it,a] its.size (fun i v=>its[i]? =some v) (fun i h=>h.IsTupleIter it a i/\h.IsTuple a its) where
 live:=fun _ _ st=>by obtain⟨⟨r,hr,_⟩,_⟩:=st;exact⟨r,hr⟩
 frame:=fun _ _ _ st k=>⟨st.1.at fun o e=>k it (by simp) o e,st.2.at fun o e=>k a (by simp) o e⟩
 item:=fun i s Q E hi st q=>by
  refine yW st.1 st.2 (v:=its[i]) (by simp[hi]) fun h' t' sb=>q _ h' s.toks (by simp[hi]) ⟨t',st.2.extBut sb.extBut ne⟩ sb
 done:=fun s Q E st q=>mj hd st.1 st.2 (by simp) q
open AutoSeq1 (wpAny_loadPart')
theorem k7(a:Addr)(its:Array Value)(n:Nat)(dd:Option Addr)(sl:Array (Option Value)) :
  Meets (Builtin.«enumerate.__new__» ⟨[.type "enumerate",.ref a],[]⟩) (fun _ R s=>s.heap.get? a=some {cls:=.type "tuple",dict:=dd,data:=.seq its n,slots:=sl} /\
   R (.ok (.ret (.ref (s.heap.push {cls:=.type "tuple_iterator",data:=.fields #[.ref a,.int 0 0]}).objs.size)))
    {s with heap:=(s.heap.push {cls:=.type "tuple_iterator",data:=.fields #[.ref a,.int 0 0]}).push {cls:=.type "enumerate",data:=.fields #[.none,.bool false,.ref s.heap.objs.size,rawInt 0,.none,.none]}}) :=
 .of_wp fun prog w A R s h=>by
  obtain⟨hp,g,d,tk,os⟩:=s;obtain⟨ha,h⟩:=h;have hsub:=sub_enumerate;have hT:Heap.IsTuple (Shared.heap ⟨hp,g,d,tk,os⟩) a its:=⟨_,ha,rfl,n,rfl⟩
  wp_walk using DE ha
  refine wpAny_stack_any fun _=>Ce ?_
  split
  ·rename_i c _ _ _ _ _
   cases(c==Value.type "enumerate")
   ·wp_walk using DE ha,FX hT
    exact⟨_,rfl,h⟩
   ·wp_walk using DE ha,FX hT
    exact⟨_,rfl,h⟩
  ·wp_walk using DE ha,FX hT
   exact⟨_,rfl,h⟩
theorem nT{P:Program}{w:World}{A:Around}{E:Value->Shared->Prop}{s:Shared}{a:Addr}{its:Array Value}{Q:Value->Shared->Prop}(hT:s.heap.IsTuple a its)
  (k:∀h',IsEnum h' (s.heap.objs.size+1) s.heap.objs.size 0 .none->h'.IsTupleIter s.heap.objs.size a 0->(∀b o,s.heap.get? b=some o->h'.get? b=some o)->Q (.ref (s.heap.objs.size+1)) {s with heap:=h'}) :
  wpAny (model P w) A (call (.type "enumerate") [.ref a]) Q E s:=by
 obtain⟨⟨c,dd,dt,sl⟩,ha,hc,n,hd⟩:=hT;simp only at hc hd;subst hc hd;refine callType_new F.called_enumerate (by decide) (F.typeCall_enumerate_1 _) (F.newCall_enumerate_1 _) (fun ob=>F.args_object_init_2 ob _) F.entry_enumerate_new (k7 a its n dd sl) ⟨ha,?_⟩;have hz:(s.heap.push {cls:=.type "tuple_iterator",data:=.fields #[.ref a,.int 0 0]}).objs.size=s.heap.objs.size+1:=Heap.size_push ..;show _/\_;rw[hz];have he:IsEnum ((s.heap.push {cls:=.type "tuple_iterator",data:=.fields #[.ref a,.int 0 0]}).push {cls:=.type "enumerate",data:=.fields #[.none,.bool false,.ref s.heap.objs.size,rawInt 0,.none,.none]}) (s.heap.objs.size+1) s.heap.objs.size 0 .none:=by
  have q:=Co (s.heap.push {cls:=.type "tuple_iterator",data:=.fields #[.ref a,.int 0 0]}) (o:={cls:=.type "enumerate",data:=.fields #[.none,.bool false,.ref s.heap.objs.size,rawInt 0,.none,.none]}) rfl;rw[hz]at q;exact q
 exact⟨⟨_,he,rfl⟩,k _ he ⟨_,CL _ (Co _ rfl),rfl,rfl⟩ fun b o y=>CL _ (CL _ y)⟩
noncomputable def Ite(src:Hp->List V->Prop):It :=
 ⟨fun i H=>∃xs x,src H xs/\xs[i]? =some x,fun i H v H' =>∃p,H p=none/\v=.ref p/\∀xs x,src H xs->xs[i]? =some x->H' =upd H p (.tup [.int (i:Nat),x]),fun i H=>∃xs,src H xs/\xs.length=i⟩
structure o8(P:Program)(w:World)(K:W.Frag)(src:Hp->List V->Prop)(e it:Addr)(tn:Nat->Heap->Prop):Prop where
 ne:e≠it
 obj:∀i h,tn i h->∃o,h.get? it=some o/\∀v,o.data≠.cell v
 keep:∀i h h',tn i h->(∀o,h.get? it=some o->h'.get? it=some o)->tn i h'
 inj:∀(X:Cx) pins s σ H xs ys,X.K=K->Inv X pins σ H s->src H xs->src H ys->xs=ys
 draws:∀(X:Cx) pins s σ H xs (i:Nat),X.prog=P->X.w=w->X.K=K->X.calm=true->Inv X pins σ H s->src H xs->tn i s.heap->∃(fp:List Addr)(Pw:Nat->Value->Prop)(St:Nat->Heap->Prop),
  Draws P w X.A.in1 it fp xs.length Pw St/\e∉fp/\St i s.heap/\(∀j v x,Pw j v->xs[j]? =some x->RelV x v)/\∀j h,St j h->tn j h
theorem fP{P:Program}{w:World}{K:W.Frag}{es:List Expr}{kt:Nat}{tpos:Pos}{src:Hp->List V->Prop}{e it:Addr}{tn:Nat->Heap->Prop}(S:o8 P w K src e it tn) :
  nj P w K (.Tuple es kt tpos) (Ite src) [e,it] e (fun i h=>(∃old,IsEnum h e it (i:Nat) old)/\tn i h) where
 mem:=by simp
 obj:=fun i h st c hc=>by
  obtain⟨⟨old,he⟩,ht⟩:=st;simp only[Ca,DK,EU]at hc
  rcases hc with rfl|rfl
  ·exact⟨_,he,fun v z=>by cases z⟩
  ·exact S.obj i h ht
 keep:=fun i h h' st k=>by
  obtain⟨⟨old,he⟩,ht⟩:=st;exact⟨⟨old,k e (by simp) _ he⟩,S.keep i h h' ht fun o q=>k it (by simp) o q⟩
 item:=by
  intro X hP hw hK hc i pins s σ H E I hf st hg;obtain⟨⟨old,he⟩,ht⟩:=st;obtain⟨xs,x,hs,hx⟩:=hg;obtain⟨fp,Pw,St,D,hef,hst,hrel,hback⟩:=S.draws X pins s σ H xs i hP hw hK hc I hs ht;subst hP hw hK;have hlt:i<xs.length:=(CY.mp hx).1;have elt:e<s.heap.objs.size:=CU he;have ilt:it<s.heap.objs.size:=by obtain⟨o,ho,_⟩:=S.obj i _ ht;exact CU ho
  refine wpAny_pyNext_enum_itemD D he hst hlt S.ne hef fun u h' tk hu ho hst' hT hsz hk=> ?_;refine⟨_,rfl,wpAny_letOwnedTupleGo_enum ho fun h'' he' hs' => ?_⟩;have kk:∀c o,c∉[e,it]->s.heap.get? c=some o->h''.get? c=some o:=fun c o hc' y=>by
   simp only[Ca,DK,EU,not_or]at hc';exact(hs'.2 c hc'.1).trans (hk c o hc'.1 hc'.2 y)
  have new:h''.get? s.heap.objs.size=some {cls:=.type "tuple",data:=.seq #[.int i tk,u]}:=(hs'.2 _ (FA elt)).trans hT
  have I1:Inv X pins σ (upd H s.heap.objs.size (.tup [.int (i:Nat),x])) {s with heap:=h'',toks:=tk+1} :=
   I.drew (t' :=tk+1) hf kk (CO _) ⟨by show 2<=sizeLine;decide,[.int i tk,u],.cons ⟨tk,rfl⟩ (.cons (hrel i u x hu hx) .nil),⟨_,new,rfl,_,rfl,rfl⟩⟩
  refine⟨.ref s.heap.objs.size,_,I1,rfl,⟨s.heap.objs.size,I.hok.fresh (CO _),rfl,fun xs' x' hs2 hx2=> ?_⟩,⟨⟨u,by simpa using he'⟩,S.keep _ _ _ (hback _ _ hst') fun o y=>(hs'.2 it S.ne.symm).trans y⟩,fun c hc' => ?_⟩
  ·have q:=S.inj X pins s σ H _ _ rfl I hs hs2
   subst q;rw[hx]at hx2;cases hx2;rfl
  ·rw[aF ?_]
   ·exact(hf c hc').1
   ·simp only[Ca,DK,EU]at hc'
    rcases hc' with rfl|rfl
    ·exact Cr elt
    ·exact Cr ilt
 done:=by
  intro X hP hw hK hc i pins s σ H E I hf st hg;obtain⟨⟨old,he⟩,ht⟩:=st;obtain⟨xs,hs,hx⟩:=hg;obtain⟨fp,Pw,St,D,hef,hst,hrel,hback⟩:=S.draws X pins s σ H xs i hP hw hK hc I hs ht;subst hP hw hK;subst hx;exact wpAny_pyNext_enum_endD D he hst fun h' hk=>⟨rfl,I.drew0 (t' :=s.toks) hf fun c o hc' y=>hk c o (by simp only[Ca,DK,EU,not_or]at hc';exact hc'.2) y⟩
 self:=fun _ _ _ _ _ st h=>by
  obtain⟨⟨old,he⟩,_⟩:=st;exact Fa he h
theorem qI{P:Program}{w:World}{K:W.Frag}{a e it:Addr}(h1:e≠it)(h2:a≠it)(h3:a≠e):o8 P w K (fun H xs=>bQ K H a xs) e it (fun i h=>h.IsTupleIter it a i) where
 ne:=h1
 obj:=fun i h st=>by
  obtain⟨o,ho,_,d⟩:=st;exact⟨o,ho,fun v z=>by rw[d]at z;cases z⟩
 keep:=fun i h h' st k=>st.at k
 inj:=fun X pins s σ H xs ys hK I h1 h2=>by
  subst hK;exact I.tuple_inj h1 h2
 draws:=fun X pins s σ H xs i hP hw hK hc I hs ht=>by
  subst hP hw hK;obtain⟨its,r,p,_⟩:=I.tuple hs;have l:=r.length;have D:=qK (P:=X.prog) (w:=X.w) (A:=X.A.in1) (I.ok.hd hc) it a h2 its.toArray;rw[CN,<-l]at D;refine⟨_,_,_,D,by simp[h1,h3.symm],⟨ht,p⟩,fun j v x hv hx=> ?_,fun j h st=>st.1⟩;obtain⟨u,hu,ru⟩:=r.get hx;have e:its[j]? =some v:=by simpa using hv
  rw[hu]at e;cases e;exact ru
theorem qJ{P:Program}{w:World}{K:W.Frag}{z:Str}{t:Tok}{e it:Addr}(h1:e≠it):o8 P w K (fun _ xs=>xs=bh z) e it (fun i h=>h.IsStrIter it (strIterType z) z t i) where
 ne:=h1
 obj:=fun i h st=>by
  obtain⟨o,ho,_,d⟩:=st;exact⟨o,ho,fun v z=>by rw[d]at z;cases z⟩
 keep:=fun i h h' st k=>by
  obtain⟨o,ho,r⟩:=st;exact⟨o,k o ho,r⟩
 inj:=fun X pins s σ H xs ys hK I h1 h2=>by rw[h1,h2]
 draws:=fun X pins s σ H xs i hP hw hK hc I hs ht=>by
  subst hP hw hK hs;have l:(bh z).length=z.cps.size:=by rw[hE];rfl
  have rel:∀(j:Nat)(v:Value)(x:V),(∃c u,z.cps[j]? =some c/\v=.str ⟨#[c]⟩ u)->(bh z)[j]? =some x->RelV x v:=fun j v x hv hx=>by
   obtain⟨c,u,hc',rfl⟩:=hv;unfold bh at hx;rw[Cb,Cu,hc']at hx;cases hx;exact⟨u,rfl⟩
  rw[l];cases ha:z.cps.all (·<128)with
  | true =>
   have e:strIterType z="str_ascii_iterator":=by unfold strIterType;rw[CQ ha]
   rw[e]at ht ⊢;exact⟨_,_,_,Draws.strAscii (prog:=X.prog) (w:=X.w) (A:=X.A.in1) (I.ok.hd hc) it z t,by simp[h1],ht,rel,fun j h st=>st⟩
  | false =>
   have e:strIterType z="str_iterator":=by unfold strIterType;rw[CM (by rw[ha];exact CT)]
   rw[e]at ht ⊢;exact⟨_,_,_,Draws.strWide (prog:=X.prog) (w:=X.w) (A:=X.A.in1) (I.ok.hd hc) it z t,by simp[h1],ht,rel,fun j h st=>st⟩
section
variable{X:Cx}
noncomputable def yx(K:W.Frag)(ta:TA):TI:=fun σ H R=>ta σ H fun vs H1=>∃a xs,vs=[.ref a]/\bQ K H1 a xs/\R (Ite fun H xs=>bQ K H a xs) H1
noncomputable def yy(ta:TA):TI:=fun σ H R=>ta σ H fun vs H1=>∃z,vs=[.str z]/\R (Ite fun _ xs=>xs=bh z) H1
theorem sH{es:List Expr}{kt:Nat}{tpos:Pos}{a:Expr}{ta:TA}{p pos:Pos}(hg:Gl X "enumerate")(hm:X.mg "enumerate"=none)(ha:PA X [a] ta)(hs:starEach [a] X.env=[(false,eval a X.env)]:=by rfl) :
  PI X (.Tuple es kt tpos) (.Call (.Name "enumerate" p) [a] [] pos) (yx X.K ta):=by
 intro pins s σ H R I h;refine Call_ (cV I hg hm boot_enumerate (DJ (aq (ha pos pins s σ H _ I h) fun us s1 ⟨vs,H1,I1,r1,q1⟩=> ?_) hs rfl));obtain⟨l,xs,e,sa,q⟩:=q1;subst e;obtain⟨u,rfl,ru⟩:=vals1 r1;cases ru;obtain⟨its,r,pt,_⟩:=I1.tuple sa;have lt:l<s1.heap.objs.size:=by obtain⟨o,e,_⟩:=id pt;exact CU e
 refine nT pt fun h' he ig hk=> ?_;refine Fa he ?_;have I2:Inv X pins σ H1 {s1 with heap:=h'}:=I1.kept (t' :=s1.toks) hk;refine⟨s1.heap.objs.size+1,[s1.heap.objs.size+1,s1.heap.objs.size],_,_,H1,rfl,I2,fP (qI (Nat.succ_ne_self _) (Cr lt) (Cr (ES lt))),⟨⟨_,he⟩,ig⟩,fun c hc=> ?_,q⟩;have le:s1.heap.objs.size<=c:=by
  simp only[Ca,DK,EU]at hc
  rcases hc with rfl|rfl<;>omega
 exact I1.fpOk le (I1.hok.fresh le)
theorem sI{es:List Expr}{kt:Nat}{tpos:Pos}{a:Expr}{ta:TA}{p pos:Pos}(hg:Gl X "enumerate")(hm:X.mg "enumerate"=none)(ha:PA X [a] ta)(hs:starEach [a] X.env=[(false,eval a X.env)]:=by rfl) :
  PI X (.Tuple es kt tpos) (.Call (.Name "enumerate" p) [a] [] pos) (yy ta):=by
 intro pins s σ H R I h;refine Call_ (cV I hg hm boot_enumerate (DJ (aq (ha pos pins s σ H _ I h) fun us s1 ⟨vs,H1,I1,r1,q1⟩=> ?_) hs rfl));obtain⟨z,e,q⟩:=q1;subst e;obtain⟨u,rfl,t,rfl⟩:=vals1 r1;refine call_enumerate_str fun h' he ig _ hk=> ?_;refine Fa he ?_;have I2:Inv X pins σ H1 {s1 with heap:=h'}:=I1.kept (t' :=s1.toks) hk;refine⟨s1.heap.objs.size+1,[s1.heap.objs.size+1,s1.heap.objs.size],_,_,H1,rfl,I2,fP (qJ (Nat.succ_ne_self _)),⟨⟨_,he⟩,ig⟩,fun c hc=> ?_,q⟩;have le:s1.heap.objs.size<=c:=by
  simp only[Ca,DK,EU]at hc
  rcases hc with rfl|rfl<;>omega
 exact I1.fpOk le (I1.hok.fresh le)
theorem any_range{bs:List Bool}:((List.range bs.length).any fun i=>bs.getD i false)=bs.any id:=by
 rw[D1,Ew,Ew]
 constructor
 ·rintro⟨i,hi,h⟩
  rw[DC]at hi;refine⟨bs[i],Dj hi,?_⟩
  simpa [List.getD,hi]using h
 ·rintro⟨b,hb,h⟩
  obtain⟨i,hi,rfl⟩:=Ez hb;exact⟨i,DC.mpr hi,by simpa [List.getD,hi]using h⟩
theorem kN{bs:List Bool}{us:List Value}{i:Nat}{v:Value}(r:aK (bs.map V.bl) us)(h:us[i]? =some v):v=.bool (bs.getD i false):=by
 have hl:=r.length;rw[CI]at hl;have hi:i<us.length:=(CY.mp h).1;obtain⟨u,hu,ru⟩:=r.get (i:=i) (x:=.bl (bs[i]'(by omega))) (by simp[show i<bs.length by omega]);rw[hu]at h;cases h;have e:v=.bool (bs[i]'(by omega)):=ru;rw[e];simp[List.getD,show i<bs.length by omega]
theorem lY(hc:X.calm=true):bK X (.builtin "any") (fun xs H Q=>∃(p:Addr)(bs:List Bool),xs=[.ref p]/\ao X.K H p (bs.map V.bl)/\Q (.bl (bs.any id)) H):=by
 intro pins s σ H xs us Q I r h;obtain⟨p,bs,rfl,hq,q⟩:=h;obtain⟨u,rfl,rx⟩:=vals1 r;cases rx;obtain⟨its,r',pl,hz⟩:=I.list hq;have hlen:=r'.length;rw[CI]at hlen;have hp:p<s.heap.objs.size:=by
  obtain⟨o,e,_⟩:=pl.isList;exact CU e
 refine call_any_walk (FZ pl.isList ?_);refine⟨s.heap.objs.size,_,_,its.toArray.size,_,_,(fun i=>bs.getD i false),rfl,Walks.list (A:=X.A.in1) (I.ok.hd hc) s.heap.objs.size p (Cr hp) its.toArray,⟨⟨_,Co _ rfl,rfl,rfl⟩,pl.isList.push _⟩,?_,?_⟩
 ·intro i v s' Q' E' hv hQ
  have e:=kN r' (i:=i) (v:=v) (by simpa using hv);subst e;exact Dp hQ
 ·intro h' tk hk
  refine⟨.bl (bs.any id),H,I.kept (t' :=tk) (fun b o e=>hk b o (by simpa using Cr (CU e)) (CL _ e)),?_,q⟩;rw[CN,<-hlen,any_range];rfl
theorem kM{ns:List Int}{us:List Value}{i:Nat}{v:Value}(r:aK (ns.map V.int) us)(h:us[i]? =some v):∃t,v=.int (ns.getD i 0) t:=by
 have hl:=r.length;rw[CI]at hl;have hi:i<us.length:=(CY.mp h).1;obtain⟨u,hu,ru⟩:=r.get (i:=i) (x:=.int (ns[i]'(by omega))) (by simp[show i<ns.length by omega]);rw[hu]at h;cases h;obtain⟨t,e⟩:=ru;refine⟨t,?_⟩;rw[e];simp[List.getD,show i<ns.length by omega]
theorem fz(ns:List Int):∀k,k<=ns.length->preSum (fun i=>ns.getD i 0) k=(ns.take k).sum
 | 0,_=>by simp[preSum]
 | k+1,h=>by
  have e:ns.take (k+1)=ns.take k++[ns[k]'(by omega)]:=by rw[Eo];simp[show k<ns.length by omega]
  rw[preSum,fz ns k (by omega),e,List.sum_append];simp[List.getD,show k<ns.length by omega]
theorem jA(hc:X.calm=true):bK X (.builtin "sum") (fun xs H Q=>∃(p:Addr)(ns:List Int),xs=[.ref p]/\ao X.K H p (ns.map V.int)/\Q (.int ns.sum) H):=by
 intro pins s σ H xs us Q I r h;obtain⟨p,ns,rfl,hq,q⟩:=h;obtain⟨u,rfl,rx⟩:=vals1 r;cases rx;obtain⟨its,r',pl,hz⟩:=I.list hq;have hlen:=r'.length;rw[CI]at hlen;have hp:p<s.heap.objs.size:=by
  obtain⟨o,e,_⟩:=pl.isList;exact CU e
 refine call_sum_walkAnyS (FZ pl.isList ?_);refine⟨s.heap.objs.size,_,_,_,its.toArray.size,_,_,(fun i=>ns.getD i 0),rfl,(Walks.list (A:=X.A.in1) (I.ok.hd hc) s.heap.objs.size p (Cr hp) its.toArray).toS,⟨⟨_,Co _ rfl,rfl,rfl⟩,pl.isList.push _⟩,?_,?_,?_⟩
 ·intro b hb
  simp at hb
  rcases hb with rfl|rfl
  ·rw[size_push'];exact Nat.lt_succ_self _
  ·rw[size_push'];exact ES hp
 ·intro i v hv
  exact kM r' (by simpa using hv)
 ·intro s' t' hm
  obtain⟨m1,m2,m3,m4,m5⟩:=hm;have e:s' ={s with heap:=s'.heap,toks:=s'.toks}:=by
   cases s';simp only at m2 m3 m4;subst m2 m3 m4;rfl
  rw[e];refine⟨.int ns.sum,H,I.kept (t' :=s'.toks) (fun b o z=>m1 b o (by simpa using Cr (CU z)) (CL _ z)),⟨t',?_⟩,q⟩;rw[CN,<-hlen,fz ns _ (CO _),Di]
theorem eS:∀{us:List Value}{ns:List Int},IntsAre us ns->aK (ns.map V.int) us
 | _,_,.nil=>.nil
 | _,_,.cons n t r=>.cons ⟨t,rfl⟩ (eS r)
noncomputable def sortI(ns:List Int):List Int:=ns.mergeSort (fun a b=>decide (a<=b))
theorem sortI_perm(ns:List Int):(sortI ns).Perm ns:=List.mergeSort_perm _ _
theorem rR(ns:List Int):(sortI ns).Pairwise (·<=·):=by
 have:=List.pairwise_mergeSort (le:=fun a b:Int=>decide (a<=b)) (fun a b c h1 h2=>by simp at *;omega) (fun a b=>by simp;omega) ns;exact this.imp fun h=>by simpa using h
theorem jc{ns ms:List Int}(h:ms.Perm ns)(s:ms.Pairwise (·<=·)):ms=sortI ns :=
 FW (le:=(·<=·)) (fun a b _ _ h1 h2=>Int.le_antisymm h1 h2) s (rR ns) (h.trans (sortI_perm ns).symm)
theorem fj:bK X (.builtin "sorted") (fun xs H Q=>∃(p:Addr)(ns:List Int),xs=[.ref p]/\ao X.K H p (ns.map V.int)/\ns.length<64/\∀a,H a=none->Q (.ref a) (upd H a (.lst ((sortI ns).map V.int)))):=by
 intro pins s σ H xs us Q I r h;obtain⟨p,ns,rfl,hq,h64,q⟩:=h;obtain⟨u,rfl,rx⟩:=vals1 r;cases rx;obtain⟨its,r',pl,hz⟩:=I.list hq;have hlen:=r'.length;rw[CI]at hlen;refine sorted_ints pl.isList (intsAre_of r') (by omega) fun out ns' a1 a2 a3=> ?_;have e:=jc a2 a3;subst e;obtain⟨c,hc⟩:=sortedAll_at s.heap its out;refine⟨.ref (s.heap.objs.size+1),_,I.laid (t' :=s.toks) (o:=.lst ((sortI ns).map V.int)) (fun b o z=>sortedAll_old z) (Nat.le_succ _) ?_,rfl,q _ (I.hok.fresh (Nat.le_succ _))⟩;refine⟨?_,out.toList,c,eS a1,by simpa [seqObj]using hc⟩;rw[CI,(sortI_perm ns).length_eq];have:=DX;omega
theorem nG{P:Program}{w:World}{K:W.Frag}{a e it:Addr}(h1:e≠it)(h2:a≠it)(h3:a≠e):o8 P w K (fun H xs=>ao K H a xs) e it (fun i h=>h.IsListIter it a i) where
 ne:=h1
 obj:=fun i h st=>by
  obtain⟨o,ho,_,d⟩:=st;exact⟨o,ho,fun v z=>by rw[d]at z;cases z⟩
 keep:=fun i h h' st k=>st.at k
 inj:=fun X pins s σ H xs ys hK I h1 h2=>by
  subst hK;exact I.list_inj h1 h2
 draws:=fun X pins s σ H xs i hP hw hK hc I hs ht=>by
  subst hP hw hK;obtain⟨its,r,p,_⟩:=I.list hs;have l:=r.length;have D:=Draws.list (prog:=X.prog) (w:=X.w) (A:=X.A.in1) (I.ok.hd hc) it a h2 its.toArray;rw[CN,<-l]at D;refine⟨_,_,_,D,by simp[h1,h3.symm],⟨ht,p.isList⟩,fun j v x hv hx=> ?_,fun j h st=>st.1⟩;obtain⟨u,hu,ru⟩:=r.get hx;have e:its[j]? =some v:=by simpa using hv
  rw[hu]at e;cases e;exact ru
noncomputable def yz(K:W.Frag)(ta:TA):TI:=fun σ H R=>ta σ H fun vs H1=>∃a xs,vs=[.ref a]/\ao K H1 a xs/\R (Ite fun H xs=>ao K H a xs) H1
theorem sK{es:List Expr}{kt:Nat}{tpos:Pos}{a:Expr}{ta:TA}{p pos:Pos}(hg:Gl X "enumerate")(hm:X.mg "enumerate"=none)(ha:PA X [a] ta)(hs:starEach [a] X.env=[(false,eval a X.env)]:=by rfl) :
  PI X (.Tuple es kt tpos) (.Call (.Name "enumerate" p) [a] [] pos) (yz X.K ta):=by
 intro pins s σ H R I h;refine Call_ (cV I hg hm boot_enumerate (DJ (aq (ha pos pins s σ H _ I h) fun us s1 ⟨vs,H1,I1,r1,q1⟩=> ?_) hs rfl));obtain⟨l,xs,e,sa,q⟩:=q1;subst e;obtain⟨u,rfl,ru⟩:=vals1 r1;cases ru;obtain⟨its,r,pt,_⟩:=I1.list sa;have lt:l<s1.heap.objs.size:=by obtain⟨o,e,_⟩:=pt.isList;exact CU e
 refine call_enumerate_list pt.isList fun h' he ig hl hk=> ?_;refine Fa he ?_;have I2:Inv X pins σ H1 {s1 with heap:=h'}:=I1.kept (t' :=s1.toks) hk;refine⟨s1.heap.objs.size+1,[s1.heap.objs.size+1,s1.heap.objs.size],_,_,H1,rfl,I2,fP (nG (Nat.succ_ne_self _) (Cr lt) (Cr (ES lt))),⟨⟨_,he⟩,ig⟩,fun c hc=> ?_,q⟩;have le:s1.heap.objs.size<=c:=by
  simp only[Ca,DK,EU]at hc
  rcases hc with rfl|rfl<;>omega
 exact I1.fpOk le (I1.hok.fresh le)
noncomputable def uT(i j:Int):Prop:=i.natAbs<2^2000/\j.natAbs<2^2000
theorem intBits_le{k:Int}(h:k.natAbs<2^2000):Builtin.Int.intBits k<=2000:=by
 unfold Builtin.Int.intBits
 split
 ·exact DG _
 ·have:k.natAbs.log2<2000:=by
   rcases Nat.eq_zero_or_pos k.natAbs with h0|hp
   ·rw[h0];decide
   ·exact(Nat.log2_lt (FA hp)).mpr h
  omega
theorem uT.ok{i j:Int}(h:uT i j):IntMulOk i j:=by
 unfold IntMulOk;have h1:=intBits_le h.1;have h2:=intBits_le h.2;have h3:Builtin.Int.intTooBig (Builtin.Int.intBits i+Builtin.Int.intBits j)=false:=by
  unfold Builtin.Int.intTooBig;have:((4000:Nat):Int)<=(bitsLine:Nat):=by decide
  exact C6 (by omega)
 rw[h3];simp
theorem vU:dM X (binaryOp .Mult) (rI uT fun i j=>.int (i*j)):=BE fun _ _ _ _ _ _ _ hc q=>mul_int q hc.ok
theorem nR:bK X (.builtin "len") (fun xs H Q=>∃a kvs,xs=[V.ref a]/\Rd H a (.dK kvs)/\Q (.int kvs.length) H):=by
 intro pins s σ H xs us Q I r h;obtain⟨a,kvs,rfl,ha,q⟩:=h;obtain⟨u,rfl,ru⟩:=vals1 r;cases ru;exact Bp I ha fun t s' I' =>⟨.int kvs.length,H,I',⟨t,rfl⟩,q⟩
noncomputable def NF(X:Cx)(a:Addr):Prop:=∀o u,X.H₀ a≠some (.frz o u)
theorem Inv.nf{pins:List (Addr×Obj)}{σ:St}{H:Hp}{s:Shared}{a:Addr}{kvs:List (bA×V)}(I:Inv X pins σ H s)(ha:H a=some (.dK kvs)):NF X a:=fun o u e=>by
 have:=I.base.frzs a o u e;rw[ha]at this;cases this
end
namespace RV
theorem Ao:Slot "reversed" "__length_hint__" "reversed.__length_hint__":=by
 refine .of (owner:="reversed") (n:="__length_hint__") ?_ (by decide +kernel) (by decide +kernel) (by decide +kernel) ?_ ?_
 ·rw[typeLookup_type,builtinLookup_eq_fast];kernel_rfl
 ·first|exact .inl (by decide +kernel)|exact .inr (by decide +kernel)
 ·rw[isSubtype_type];kernel_rfl
theorem Bj:entryFor table "reversed.__length_hint__"=some Builtin.«reversed.__length_hint__»:=entryFor_of_tree (by kernel_rfl)
theorem B4(v:Value):argsOk "reversed.__length_hint__" ⟨[v],[]⟩:=by unfold argsOk;kernel_rfl
section
variable{prog:Program}{w:World}{A:Around}{E:Value->Shared->Prop}{s:Shared}{x:Str}{t:Tok}
end
end RV
end L2
namespace L2
open PySem PySem.Spec PyProof.Rows
namespace RV
noncomputable def AE(h:Heap)(a:Addr)(x:Str)(t:Tok)(i:Int):Prop:=∃o,h.get? a=some o/\o.cls=.type "reversed"/\o.data=.fields #[.str x t,rawInt i]
section
variable{prog:Program}{w:World}{A:Around}{E:Value->Shared->Prop}{s:Shared}{x:Str}{t:Tok}{a:Addr}
theorem AE.ty{i:Int}(r:AE s.heap a x t i):s.TypeIs (.ref a) "reversed":=by
 obtain⟨o,e,c,_⟩:=r;exact⟨o,e,c⟩
theorem ae{Q:Value->Shared->Prop}(r:AE s.heap a x t ((x.length:Int)-1))(hx:x.length<=sizeLine)
  (h:∀u tk,s.toks<=tk->Q (.int x.length u) {s with toks:=tk}):wpAny (model prog w) A (call (.builtin "reversed.__length_hint__") [.ref a]) Q E s:=by
 obtain⟨o,e,oc,od⟩:=id r;refine EL Ao r.ty Bj ?_ (B4 _);unfold Builtin.«reversed.__length_hint__»;refine CJ (wpAny_of_eq (a:=Value.ref a) rfl ?_);refine CJ (Eh e od (x:=.str x t) rfl ?_);show wpAny _ _ (call (.builtin "len") [.str x t] >>= _) _ _ _;refine CJ (P.len_str (by have:sizeLine<2^63:=(by decide);omega) ?_);refine CJ (m:=asInt? (.int _ _)) (Ce ?_);dsimp only;refine CJ (Eh e od (x:=rawInt ((x.length:Int)-1)) rfl ?_);show wpAny _ _ (if(x.length:Int)<(x.length:Int)-1+1 then _ else _) _ _ _;rw[CM (by omega),show(x.length:Int)-1+1=x.length by omega];exact CJ (wpAny_mkInt (Ce ⟨_,rfl,h _ _ (by simp;omega)⟩))
end
end RV
end L2
namespace L2
open PySem PySem.Spec PyProof.Rows
namespace RV
section
variable{prog:Program}{w:World}{A:Around}{E:Value->Shared->Prop}{s:Shared}{x:Str}{t:Tok}{a:Addr}
end
end RV
end L2
namespace L2
open PySem PySem.Spec PyProof.Rows
namespace RV
open Builtin Builtin.Str Builtin.Int
section
variable{prog:Program}{w:World}{A:Around}{E:Value->Shared->Prop}{s:Shared}{x sep:Str}{t u:Tok}{a:Addr}
end
end RV
section
variable{X:Cx}
end
end L2
namespace L2
open PySem PySem.Spec PyProof.Rows
section
variable{X:Cx}
section
variable{prog:Program}{w:World}{A:Around}{E:Value->Shared->Prop}{s:Shared}{d:Addr}{od:Obj}{es:Array DictEntry}{ep:Nat}
end
section
variable{prog:Program}{w:World}{A:Around}{E:Value->Shared->Prop}{s:Shared}
end
end
section
variable{prog:Program}{w:World}{A:Around}{E:Value->Shared->Prop}{s:Shared}
end
section
variable{X:Cx}
end
end L2
namespace SQ
open PySem
noncomputable def lst(m:Nat):List Nat:=(List.range 8).filter fun v=>m/2^v%2==1
noncomputable def put(m v:Nat):Nat:=if m/2^v%2=1 then m else m+2^v
noncomputable def kS(led:Bool)(m:Nat):SetTable:={mask:=if(lst m).length<5 then 7 else 31,place:=(lst m).toArray,dummies:= #[],finger:=0,led:=led,moves:=if(lst m).length<5 then 0 else 1,plain:=true}
noncomputable def cX(m v:Nat):Nat:=((lst m).filter (·<v)).length
noncomputable def gL(led:Bool)(m v:Nat):SetTable:={kS led m with place:=(lst (put m v)).toArray}
noncomputable def k9(a b:SetTable):Bool:=a.mask==b.mask&&a.place.toList==b.place.toList&&a.dummies.toList==b.dummies.toList&&a.finger==b.finger&&a.led==b.led&&a.moves==b.moves&&a.plain==b.plain
theorem iH{a b:SetTable}(h:k9 a b=true):a=b:=by
 obtain⟨a1,⟨a2⟩,⟨a3⟩,a4,a5,a6,a7⟩:=a;obtain⟨b1,⟨b2⟩,⟨b3⟩,b4,b5,b6,b7⟩:=b;simp only[k9,CK,EV]at h;obtain⟨⟨⟨⟨⟨⟨h1,h2⟩,h3⟩,h4⟩,h5⟩,h6⟩,h7⟩:=h;subst h1 h2 h3 h4 h5 h6 h7;rfl
noncomputable def jt(led:Bool)(m v:Nat):Bool :=
 if m/2^v%2==1 then true else
 (match(kS led m).freeSlot (v:Int)with
  | some (j,d)=>j==v&& !d
  | none=>false) &&
 k9 ((kS led m).put v).1 (gL led m v)&&((kS led m).put v).2==cX m v&&lst (put m v)==(lst m).take (cX m v)++v::(lst m).drop (cX m v)&&(gL led m v).fits (lst (put m v)).length &&
 (if(gL led m v).tooFull then(match(gL led m v).relaid ((lst (put m v)).map Int.ofNat).toArray (SetTable.grown (lst (put m v)).length)with
  | some (t,o)=>k9 t (kS led (put m v))&&o.toList==List.range (lst (put m v)).length&&(kS led (put m v)).fits (lst (put m v)).length
  | none=>false)else k9 (gL led m v) (kS led (put m v)))
theorem sm:(List.range 256).all (fun m=>(List.range 8).all fun v=>jt true m v&&jt false m v&&decide (put m v<256))=true:=by decide +kernel
theorem tR:(List.range 256).all (fun m=>(kS true m).fits (lst m).length&&(kS false m).fits (lst m).length)=true:=by decide +kernel
theorem fits{m:Nat}(hm:m<256)(led:Bool):(kS led m).fits (lst m).length=true:=by
 have h:=Cw.mp tR m (DC.mpr hm);rw[CK]at h;cases led
 ·exact h.2
 ·exact h.1
theorem lays{m v:Nat}(hm:m<256)(hv:v<8)(led:Bool):jt led m v=true/\put m v<256:=by
 have h:=Cw.mp (Cw.mp sm m (DC.mpr hm)) v (DC.mpr hv);rw[CK,CK,D2]at h;refine⟨?_,h.2⟩;cases led
 ·exact h.1.2
 ·exact h.1.1
theorem ve{m v:Nat}:v∈lst m↔v<8/\m/2^v%2=1:=by
 unfold lst;rw[DW,DC,EV]
theorem sk{m v:Nat}(hm:m<256)(hv:v<8)(hn:v∉lst m)(led:Bool) :
  (kS led m).freeSlot (v:Int)=some (v,false)/\(kS led m).put v=(gL led m v,cX m v)/\lst (put m v)=(lst m).take (cX m v)++v::(lst m).drop (cX m v)/\(gL led m v).fits (lst (put m v)).length=true /\
  (if(gL led m v).tooFull then(gL led m v).relaid ((lst (put m v)).map Int.ofNat).toArray (SetTable.grown (lst (put m v)).length)=some (kS led (put m v),(List.range (lst (put m v)).length).toArray)/\(kS led (put m v)).fits (lst (put m v)).length=true
   else gL led m v=kS led (put m v)):=by
 have h:=(lays hm hv led).1;unfold jt at h;have n1:(m/2^v%2==1)=false:=by
  cases e:m/2^v%2==1
  ·rfl
  ·exact absurd (ve.mpr ⟨hv,by simpa using e⟩) hn
 rw[n1]at h;simp only[Ek,Em,CK,EV]at h;obtain⟨⟨⟨⟨⟨h1,h2⟩,h3⟩,h4⟩,h5⟩,h6⟩:=h;refine⟨?_,Prod.ext (iH h2) h3,h4,h5,?_⟩
 ·cases e:(kS led m).freeSlot (v:Int)with
  | none=>rw[e]at h1;cases h1
  | some p =>
   obtain⟨j,d⟩:=p;rw[e]at h1;simp only[CK,EV,FR]at h1;rw[h1.1,h1.2]
 ·by_cases ht:(gL led m v).tooFull=true
  ·rw[CQ ht]at h6 ⊢
   cases e:(gL led m v).relaid ((lst (put m v)).map Int.ofNat).toArray (SetTable.grown (lst (put m v)).length)with
   | none=>rw[e]at h6;cases h6
   | some p =>
    obtain⟨t,o⟩:=p;rw[e]at h6;simp only[CK,EV]at h6;obtain⟨⟨a,b⟩,c⟩:=h6;refine⟨?_,c⟩;obtain⟨o⟩:=o;rw[iH a];have b:o=_:=b;rw[b]
  ·rw[CM ht]at h6 ⊢
   exact iH h6
noncomputable def pY:Value->Option Int
 | .int i _=>some i
 | _=>none
theorem pX{x:Value}{i:Int}(h:pY x=some i):∃t,x=.int i t:=by
 cases x<;>simp[pY]at h;subst h;exact⟨_,rfl⟩
noncomputable def ie(es:List (Int×Value))(m:Nat):Prop:=es.map (fun e=>(e.1,pY e.2))=(lst m).map fun v:Nat=>((v:Int),some (v:Int))
noncomputable def SX(w:World)(a:Addr)(m:Nat)(h:Heap):Prop:=∃o es ep,h.get? a=some o/\o.ExactSet/\o.data=.set es ep (kS (!w.params.followText "set-order") m)/\ie es.toList m
theorem ie.len{es:List (Int×Value)}{m:Nat}(h:ie es m):es.length=(lst m).length:=by
 have:=Da List.length h
 simpa using this
theorem ie.at{es:List (Int×Value)}{m:Nat}(h:ie es m){e:Int×Value}(he:e∈es):∃v t,v∈lst m/\e=((v:Int),.int (v:Int) t):=by
 have:(e.1,pY e.2)∈es.map (fun e=>(e.1,pY e.2)):=DR.mpr ⟨e,he,rfl⟩;rw[h]at this;obtain⟨v,hv,q⟩:=DR.mp this;obtain⟨e1,e2⟩:=e;simp only[Prod.mk.injEq]at q;obtain⟨t,z⟩:=pX q.2.symm;exact⟨v,t,hv,by rw[z,<-q.1]⟩
theorem ie.has{es:List (Int×Value)}{m:Nat}(h:ie es m){v:Nat}(hv:v∈lst m):∃t,((v:Int),Value.int (v:Int) t)∈es:=by
 have:((v:Int),some (v:Int))∈(lst m).map fun v:Nat=>((v:Int),some (v:Int)):=DR.mpr ⟨v,hv,rfl⟩;rw[<- h]at this;obtain⟨e,he,q⟩:=DR.mp this;obtain⟨u,t,-,rfl⟩:=h.at he;simp only[pY,Prod.mk.injEq]at q;have:u=v:=by omega
 subst this;exact⟨t,he⟩
section
variable{prog:Program}{w:World}{A:Around}{E:Value->Shared->Prop}{s:Shared}
theorem ie.insert{es:Array (Int×Value)}{m v t:Nat}(h:ie es.toList m)(hm:m<256)(hv:v<8)(hn:v∉lst m):ie (SetTable.insertAt es (cX m v) ((v:Int),.int (v:Int) t)).toList (put m v):=by
 obtain⟨-,-,h3,-,-⟩:=sk hm hv hn true;unfold ie at h ⊢;rw[h3,SetTable.toList_insertAt];rw[DQ,Cc,List.map_take,List.map_drop,h,DQ,Cc,List.map_take,List.map_drop];rfl
end
noncomputable def Aq(f:Nat->Nat):Nat->Nat->Nat->Nat
 | 0,_,m=>m
 | k+1,i,m=>Aq f k (i+1) (put m (f i))
theorem SX.at{w:World}{a:Addr}{m:Nat}{h h' :Heap}(x:SX w a m h)(k:∀o,h.get? a=some o->h'.get? a=some o):SX w a m h' :=
 let⟨o,es,ep,ho,r⟩:=x
 ⟨o,es,ep,k o ho,r⟩
section
variable{prog:Program}{w:World}{A:Around}{E:Value->Shared->Prop}
variable{s:Shared}
noncomputable def bare(led:Bool):Obj:={cls:=.type "set",dict:=none,data:=.set #[] 0 (.fresh 0 0 led)}
end
section
variable{prog:Program}{w:World}{A:Around}{E:Value->Shared->Prop}{s:Shared}
end
noncomputable def uR(I a i n ep j:Nat)(h:Heap):Prop:=∃o,h.get? I=some o/\o.cls=.type "set_iterator"/\o.data=.fields #[.int (j:Nat) 0,.int (i:Nat) 0,.ref a,.int (n:Nat) 0,.int (ep:Nat) 0]
theorem uR.typeIs{I a i n ep j:Nat}{s:Shared}(x:uR I a i n ep j s.heap):s.TypeIs (.ref I) "set_iterator":=let⟨o,ho,hc,_⟩:=x;⟨o,ho,hc⟩
theorem uR.keep{I a i n ep j:Nat}{h h' :Heap}(x:uR I a i n ep j h)(k:∀o,h.get? I=some o->h'.get? I=some o):uR I a i n ep j h' :=let⟨o,ho,r⟩:=x;⟨o,k o ho,r⟩
section
variable{prog:Program}{w:World}{A:Around}
end
section
variable{prog:Program}{w:World}{A:Around}{E:Value->Shared->Prop}{s:Shared}
end
end SQ
namespace SQ
open PySem PyProof.Rows
section
variable{prog:Program}{w:World}{A:Around}{E:Value->Shared->Prop}{s:Shared}
end
end SQ
namespace L2
open PySem PySem.Spec PyProof.Rows
noncomputable def maskOf(ns:List Int):Nat:=SQ.Aq (fun i=>(ns.getD i 0).toNat) ns.length 0 0
noncomputable def wq(ns:List Int):List Int:=(SQ.lst (maskOf ns)).map fun v:Nat=>(v:Int)
section
variable{X:Cx}
theorem Inv.ext{pins:List (Addr×Obj)}{σ:St}{H:Hp}{s:Shared}{a:Addr}{φ:Heap->Prop}(I:Inv X pins σ H s)(h:H a=some (.ext φ)):φ s.heap:=(show ai X.prog X.w H s.heap a (.ext φ)from I.hok a _ h).1
end
end L2
set_option maxHeartbeats 400000
namespace SW
open PySem PySem.W PyProof.Rows
noncomputable def bD(q:Int×Int):Int:=1000*q.1+q.2
section
variable{prog:Program}{w:World}{A:Around}{E:Value->Shared->Prop}{s:Shared}
theorem pN:∀{vs:List Value},vs.length<2->(vs.toArray.zip vs.toArray).map (·.2)=vs.toArray
 | [],_=>by simp
 | [_],_=>by simp
 | _::_::_,h=>absurd h (by simp)
theorem mT:∀{vs:List Value},vs.length<2->(List.range vs.length).map (fun i=>vs.getD i Value.none)=vs
 | [],_=>rfl
 | [_],_=>rfl
 | _::_::_,h=>absurd h (by simp)
theorem rW{f:Nat->Int}:∀{n:Nat},n<2->((List.range n).map f).Pairwise (·<=·)
 | 0,_=>.nil
 | 1,_=>by show([f 0]:List Int).Pairwise (·<=·);exact List.pairwise_singleton _ _
 | _+2,h=>absurd h (by omega)
theorem k8{a:Addr}{vs:List Value}{n:Nat}{P:PySem.Fin->Shared->Prop}(ho:s.heap.get? a=some (seqObj "list" vs.toArray n))(h2:vs.length<2)
  (h:P (.done (.ret .none)) {s with heap:=sortedHeap s.heap a vs vs.toArray}):wpAny (model prog w) A (Builtin.«list.sort» ⟨[.ref a],[]⟩) P E s:=by
 rw[list_sort_plain];refine CJ (listItems_at ho rfl (CJ (listUpdate_at ho rfl ?_ (by rw[CN,DX];omega) (DG _))));obtain⟨e1,g1⟩:∃e1,(s.heap.update a (Obj.mapSeq fun _=>(#[]:Array Value))).get? a=some (seqObj "list" #[] e1):=⟨_,get?_update_seq ho fun _=> #[]⟩;refine CJ (seqEpoch_at g1 rfl (CJ (wpAny_newTuple ?_ (by show vs.length<=_;rw[DX];omega))));refine CJ (wpAny_newList ?_ (DG _));refine EJ ?_;have g2:(((s.heap.update a (Obj.mapSeq fun _=>(#[]:Array Value))).push (seqObj "tuple" vs.toArray 0)).push (seqObj "list" #[] 0)).get? a=some (seqObj "list" #[] e1):=CL _ (CL _ g1);show wpAny (model prog w) A _ P E {s with heap:=((s.heap.update a (Obj.mapSeq fun _=>(#[]:Array Value))).push (seqObj "tuple" vs.toArray 0)).push (seqObj "list" #[] 0)};dsimp only;have n2:vs.toArray.size<2:=by rw[CN];exact h2
 rw[CQ n2,CQ n2];refine CJ (Ce ?_);rw[StateT.run_pure];refine CJ (Ce ?_);dsimp only;have hout:(arrOf (SortSt.mk' general' (vs.toArray.zip vs.toArray) #[] 7 none)).map (·.2)=vs.toArray:=by
  exact pN h2
 rw[hout];refine CJ (seqEpoch_at g2 rfl ?_);refine CJ (listUpdate_at g2 rfl ?_ (DG _) (by rw[CN,DX];omega));simp only[bne_self_eq_false,Ek,Em];exact Ce h
end
end SW
namespace L2
open PySem PySem.Spec PyProof.Rows
theorem aK.pick{us:List V}{vs:List Value}(r:aK us vs):∀{js:List Nat},(∀j∈js,j<us.length)->aK (js.map fun i=>us.getD i .non) (js.map fun i=>vs.getD i Value.none)
 | [],_=>.nil
 | j::js,h=>by
  have hj:=h j Cd;obtain⟨v,hv,rv⟩:=r.get (i:=j) (x:=us[j]) (CW hj);refine .cons ?_ (aK.pick r fun i hi=>h i (CV _ hi));dsimp only;rw[Cs,CW hj,Cs,hv];exact rv
end L2
namespace SR
open PySem PyProof.Rows
section
variable{prog:Program}{w:World}{A:Around}{E:Value->Shared->Prop}{s:Shared}
end
end SR
set_option maxHeartbeats 800000
namespace SR
open PySem PyProof.Rows
noncomputable def uO(I t:Addr)(i:Int)(h:Heap):Prop:=∃o,h.get? I=some o/\o.cls=.type "reversed"/\o.data=.fields #[.ref t,rawInt i]
theorem uO.typeIs{I t:Addr}{i:Int}{s:Shared}(x:uO I t i s.heap):s.TypeIs (.ref I) "reversed":=let⟨o,ho,hc,_⟩:=x;⟨o,ho,hc⟩
theorem uO.keep{I t:Addr}{i:Int}{h h' :Heap}(x:uO I t i h)(k:∀o,h.get? I=some o->h'.get? I=some o):uO I t i h' :=let⟨o,ho,r⟩:=x;⟨o,k o ho,r⟩
section
variable{prog:Program}{w:World}{A:Around}{E:Value->Shared->Prop}{s:Shared}
end
end SR
namespace L2
open PySem PySem.Spec PyProof.Rows
section
variable{X:Cx}
end
end L2
set_option maxHeartbeats 4000000
namespace L2
open PySem PySem.Spec PyProof.Rows
section
variable{X:Cx}
end
end L2
namespace L2
open PySem PySem.Spec PyProof.Rows PySem.W
section
variable{X:Cx}
end
end L2
namespace TS
open PySem PySem.W PyProof.Rows
noncomputable abbrev SM:=StateT SortSt Sem
noncomputable def cy :Bool->Keyed->Array Keyed->Nat->Nat->Nat->SM (Option Nat):=sortPriv% PySem.Builtin.gallop
noncomputable def ky :Array Keyed->Array Keyed->SM (Array Keyed):=sortPriv% PySem.Builtin.mergeLo
noncomputable def k6 :Array Keyed->Array Keyed->SM (Array Keyed):=sortPriv% PySem.Builtin.mergeHi
noncomputable def xG(left:Bool)(key:Keyed)(arr:Array Keyed)(base i:Nat):SM (Option Bool):=do
 let x<-elem' arr (base+i)
 if left then lt' x key else return(<- lt' key x).map (!·)
noncomputable abbrev G3:=Option (Option Nat)×Nat×Nat
noncomputable def uI(left:Bool)(key:Keyed)(arr:Array Keyed)(base n lo hi:Nat):SM (Option Nat):=do
 let c<-forIn [:n] ((none,lo,hi):G3) fun _ c=>if c.2.1 ≥ c.2.2 then pure (.done (none,c.2.1,c.2.2))else do
  let z<-xG left key arr base (c.2.1+(c.2.2-c.2.1)/2)
  match z with
  | some t=>if t=true then pure (.yield (none,c.2.1+(c.2.2-c.2.1)/2+1,c.2.2))else pure (.yield (none,c.2.1,c.2.1+(c.2.2-c.2.1)/2))
  | none=>pure (.done (some none,c.2.1,c.2.2))
 match c.1 with
 | some r=>pure r
 | none=>pure (some c.2.2)
noncomputable def upL(left:Bool)(key:Keyed)(arr:Array Keyed)(base n ae:Nat)(c:G3):SM (ForInStep G3):=if c.2.2 ≥ n-ae then pure (.done (none,c.2.1,c.2.2))else do
 let z<-xG left key arr base (ae+c.2.2)
 match z with
 | some t=>if(!t)=true then pure (.done (none,c.2.1,c.2.2))else pure (.yield (none,c.2.2,2*c.2.2+1))
 | none=>pure (.done (some none,c.2.1,c.2.2))
noncomputable def dnL(left:Bool)(key:Keyed)(arr:Array Keyed)(base ae:Nat)(c:G3):SM (ForInStep G3):=if c.2.2 ≥ ae+1 then pure (.done (none,c.2.1,c.2.2))else do
 let z<-xG left key arr base (ae-c.2.2)
 match z with
 | some t=>if t=true then pure (.done (none,c.2.1,c.2.2))else pure (.yield (none,c.2.2,2*c.2.2+1))
 | none=>pure (.done (some none,c.2.1,c.2.2))
theorem cj{β γ:Type}{m n:Nat}{f g:Nat->β->SM (ForInStep β)}{k l:β->SM γ}(c:β)(h1:∀x c,f x c=g x c)(h2:∀c,k c=l c):(forIn [m:n] c f >>= k)=(forIn [m:n] c g >>= l):=by
 rw[show f=g from funext fun x=>funext fun c=>h1 x c,show k=l from funext h2]
theorem nC(left:Bool)(key:Keyed)(arr:Array Keyed)(base n ae:Nat):cy left key arr base n ae=(do
 let z<-xG left key arr base ae
 match z with
 | some t=>if t=true then do
   let c<-forIn [:n] ((none,0,1):G3) fun _ c=>upL left key arr base n ae c
   match c.1 with
   | some r=>pure r
   | none=>uI left key arr base n (ae+c.2.1+1) (ae+min c.2.2 (n-ae))else do
   let c<-forIn [:n] ((none,0,1):G3) fun _ c=>dnL left key arr base ae c
   match c.1 with
   | some r=>pure r
   | none=>uI left key arr base n (ae+1-min c.2.2 (ae+1)) (ae-c.2.1)
 | none=>pure none):=by
 change (_ >>= _:SM (Option Nat))=_
 dsimp only;refine Cj fun z=> ?_;cases z with
 | none=>rfl
 | some t =>
  refine DH rfl (fun _=> ?_) fun _=> ?_
  all_goals
   refine cj _ (fun x c=> ?_) fun c=> ?_
   ·first|unfold upL|unfold dnL
    exact DH rfl (fun _=>rfl) fun _=>Cj fun z=>by cases z<;>rfl
   ·cases c.1 with
    | some r=>rfl
    | none =>
     unfold uI;exact cj _ (fun x c=>DH rfl (fun _=>rfl) fun _=>Cj fun z=>by cases z<;>rfl) fun c=>by cases c.1<;>rfl
section
variable{prog:Program}{w:World}{A:Around}{E:Value->Shared->Prop}{s:Shared}{st:SortSt}
theorem By{left:Bool}{key:Keyed}{arr:Array Keyed}{base n lo hi:Nat}{B:Nat->Bool}{Q:Option Nat->SortSt->Prop}(mono:∀i j,i<=j->j<n->B j=true->B i=true)
  (hb:∀i,i<n->∀Q:Option Bool->SortSt->Prop,Q (some (B i)) st->wpS (model prog w) A E s (xG left key arr base i) Q st)
  (h:∀k,k<=n->(∀i,i<k->B i=true)->(∀i,k<=i->i<n->B i=false)->Q (some k) st)
  (h1:lo<=hi) (h2:hi<=n) (hl:∀i,i<lo->B i=true) (hr:∀i,hi<=i->i<n->B i=false):wpS (model prog w) A E s (uI left key arr base n lo hi) Q st:=by
 unfold uI;have fin:∀l r,r<=l->l<=r->r<=n->(∀i,i<l->B i=true)->(∀i,r<=i->i<n->B i=false)->Q (some r) st:=fun l r a b c d e=>by
  have:l=r:=by omega
  subst this;exact h l c d e
 refine CS (DO (I:=fun x c st' =>st' =st/\∃l r,c=(none,l,r)/\l<=r/\r<=n/\r-l<=n-x/\(∀i,i<l->B i=true)/\(∀i,r<=i->i<n->B i=false)) ?_ ?_ ⟨rfl,lo,hi,rfl,h1,h2,by omega,hl,hr⟩)
 ·rintro x c st' _ hx ⟨rfl,l,r,rfl,a1,a2,a3,a4,a5⟩
  dsimp only
  by_cases g:l ≥ r
  ·rw[CQ g]
   exact CZ (CZ (fin l r g a1 a2 a4 a5))
  ·rw[CM g]
   refine CS (hb _ (by omega) _ ?_);dsimp only;cases e:B (l+(r-l)/2)
   ·rw[CM (by simp)]
    refine CZ ⟨rfl,_,_,rfl,by omega,by omega,by omega,a4,fun i i1 i2=> ?_⟩;cases e2:B i
    ·rfl
    ·rw[mono _ i i1 i2 e2]at e
     cases e
   ·rw[CQ rfl]
    exact CZ ⟨rfl,_,_,rfl,by omega,by omega,by omega,fun i hi=>mono i _ (by omega) (by omega) e,a5⟩
 ·rintro c st' ⟨rfl,l,r,rfl,a1,a2,a3,a4,a5⟩
  exact CZ (fin l r (by omega) a1 a2 a4 a5)
theorem gal{left:Bool}{key:Keyed}{arr:Array Keyed}{base n ae:Nat}{B:Nat->Bool}{Q:Option Nat->SortSt->Prop}(hh:ae<n)(mono:∀i j,i<=j->j<n->B j=true->B i=true)
  (hb:∀i,i<n->∀Q:Option Bool->SortSt->Prop,Q (some (B i)) st->wpS (model prog w) A E s (xG left key arr base i) Q st)
  (h:∀k,k<=n->(∀i,i<k->B i=true)->(∀i,k<=i->i<n->B i=false)->Q (some k) st):wpS (model prog w) A E s (cy left key arr base n ae) Q st:=by
 have no:∀i j,i<=j->j<n->B i=false->B j=false:=fun i j a b c=>by
  cases e:B j
  ·rfl
  ·rw[mono i j a b e]at c
   cases c
 rw[nC];refine CS (hb ae hh _ ?_);dsimp only;cases eB:B ae
 ·simp only[Ek,Em]
  have fin:∀la o,la<o->la<=ae->B (ae-la)=false->(ae+1<=o\/B (ae-o)=true)->_:=fun la o a b c d =>
   By mono hb h (lo:=ae+1-min o (ae+1)) (hi:=ae-la) (by omega) (by omega) (fun i hi=>by
    rcases d with d|d
    ·omega
    ·exact mono i _ (by omega) (by omega) d) fun i i1 i2=>no _ i i1 i2 c
  refine CS (DO (I:=fun x c st' =>st' =st/\∃la o,c=(none,la,o)/\la<o/\x<o/\la<=ae/\B (ae-la)=false) ?_ ?_ ⟨rfl,0,1,rfl,by omega,by omega,by omega,eB⟩)
  ·rintro x c st' _ hx ⟨rfl,la,o,rfl,a1,a2,a3,a4⟩
   unfold dnL;dsimp only
   by_cases g:o ≥ ae+1
   ·rw[CQ g]
    exact CZ (fin la o a1 a3 a4 (.inl g))
   ·rw[CM g]
    refine CS (hb _ (by omega) _ ?_);dsimp only;cases e:B (ae-o)
    ·rw[CM (by simp)]
     exact CZ ⟨rfl,_,_,rfl,by omega,by omega,by omega,e⟩
    ·rw[CQ rfl]
     exact CZ (fin la o a1 a3 a4 (.inr e))
  ·rintro c st' ⟨rfl,la,o,rfl,a1,a2,a3,a4⟩
   exact fin la o a1 a3 a4 (.inl (by omega))
 ·simp only[Ei]
  have fin:∀la o,la<o->ae+la<n->B (ae+la)=true->(n-ae<=o\/B (ae+o)=false)->_:=fun la o a b c d =>
   By mono hb h (lo:=ae+la+1) (hi:=ae+min o (n-ae)) (by omega) (by omega) (fun i hi=>mono i _ (by omega) b c) fun i i1 i2=>by
    rcases d with d|d
    ·omega
    ·exact no _ i (by omega) i2 d
  refine CS (DO (I:=fun x c st' =>st' =st/\∃la o,c=(none,la,o)/\la<o/\x<o/\ae+la<n/\B (ae+la)=true) ?_ ?_ ⟨rfl,0,1,rfl,by omega,by omega,by omega,eB⟩)
  ·rintro x c st' _ hx ⟨rfl,la,o,rfl,a1,a2,a3,a4⟩
   unfold upL;dsimp only
   by_cases g:o ≥ n-ae
   ·rw[CQ g]
    exact CZ (fin la o a1 a3 a4 (.inl g))
   ·rw[CM g]
    refine CS (hb _ (by omega) _ ?_);dsimp only;cases e:B (ae+o)
    ·rw[CQ (by simp)]
     exact CZ (fin la o a1 a3 a4 (.inr e))
    ·rw[CM (by simp)]
     exact CZ ⟨rfl,_,_,rfl,by omega,by omega,by omega,e⟩
  ·rintro c st' ⟨rfl,la,o,rfl,a1,a2,a3,a4⟩
   exact fin la o a1 a3 a4 (.inl (by omega))
end
section
variable{kf:Keyed->Int}
noncomputable def eH(kf:Keyed->Int)(l:List Keyed):Prop:=l.Pairwise fun x y=>kf x<=kf y
structure Mg(kf:Keyed->Int)(tot o X Y:List Keyed):Prop where
 l:eH kf (o++X)
 r:eH kf (o++Y)
 p:(o++(X++Y)).Perm tot
theorem Mg.swap{tot o X Y:List Keyed}(h:Mg kf tot o X Y):Mg kf tot o Y X:=⟨h.r,h.l,(Dx o EO).trans h.p⟩
theorem Mg.mvY{tot o X P R:List Keyed}(h:Mg kf tot o X (P++R))(c:∀p∈P,∀x∈X,kf p<=kf x):Mg kf tot (o++P) X R:=by
 obtain⟨l,r,p⟩:=h;refine⟨?_,by rw[Cp];exact r,?_⟩
 ·rw[<- Cp]at r
  obtain⟨l1,l2,l3⟩:=DY.mp l;obtain⟨r1,r2,r3⟩:=DY.mp r;refine DY.mpr ⟨r1,l2,fun a ha x hx=> ?_⟩
  rcases DB.mp ha with z|z
  ·exact l3 a z x hx
  ·exact c a z x hx
 ·refine List.Perm.trans ?_ p
  rw[Cp];refine Dx o ?_;rw[<- Cp,<-Cp];exact List.Perm.append_right R EO
theorem Mg.mvX{tot o P R Y:List Keyed}(h:Mg kf tot o (P++R) Y)(c:∀p∈P,∀x∈Y,kf p<=kf x):Mg kf tot (o++P) R Y:=(h.swap.mvY c).swap
theorem Mg.len{tot o X Y:List Keyed}(h:Mg kf tot o X Y):o.length+X.length+Y.length=tot.length:=by
 have:=h.p.length_eq;rw[CP,CP]at this;omega
theorem Mg.fin{tot o X:List Keyed}(h:Mg kf tot o X []):eH kf (o++X)/\(o++X).Perm tot:=⟨h.l,by simpa using h.p⟩
theorem eH.hd{x:Keyed}{l:List Keyed}(h:eH kf (x::l)){y:Keyed}(m:y∈x::l):kf x<=kf y:=by
 rcases Ca.mp m with z|z
 ·rw[z]
  exact D6 _
 ·exact(List.pairwise_cons.mp h).1 y z
theorem eH.app{o l:List Keyed}(h:eH kf (o++l)):eH kf l:=(DY.mp h).2.1
theorem n0(a:Array Keyed)(i:Nat):(a.extract i a.size).toList=a.toList.drop i:=by
 rw[Dm,DT];exact Db (by simp)
theorem wW(a:Array Keyed)(i k:Nat):(a.extract i (i+k)).toList=(a.toList.drop i).take k:=by
 rw[Dm,DT,El]
theorem gG{a:Array Keyed}{i:Nat}(h:i<a.size):a.toList.drop i=a[i]'h::a.toList.drop (i+1):=by
 have h' :i<a.toList.length:=by simpa using h
 rw[DU h'];simp
section
variable{prog:Program}{w:World}{A:Around}{E:Value->Shared->Prop}{s:Shared}{st:SortSt}{κ:SortKind}{D:Keyed->Prop}
noncomputable def qe(prog:Program)(w:World)(A:Around)(s:Shared)(κ:SortKind)(kf:Keyed->Int)(D:Keyed->Prop):Prop:=∀x y,D x->D y->∀(E:Value->Shared->Prop)(C:Bool->Shared->Prop),C (decide (kf x<kf y)) s->wpAny (model prog w) A (keyLt' κ x.1 y.1) C E s
theorem sf{x y:Keyed}{Q:Option Bool->SortSt->Prop}(hc:qe prog w A s κ kf D)(hk:kindOf st=κ)(hx:D x)(hy:D y)(h:Q (some (decide (kf x<kf y))) st):wpS (model prog w) A E s (lt' x y) Q st:=by
 rw[lt'_eq];refine CS (FY ?_);rw[hk];refine CS (wpS_lift (wpAny_attempt (hc x y hx hy _ _ ⟨rfl,?_⟩)));exact CZ h
theorem v7{arr:Array Keyed}{i:Nat}{x:Keyed}{Q:Keyed->SortSt->Prop}(e:arr[i]? =some x)(h:Q x st):wpS (model prog w) A E s (elem' arr i) Q st:=by
 rw[elem'_eq,e];exact CZ h
theorem ck{arr:Array Keyed}{i:Nat}{Q:Keyed->SortSt->Prop}(e:i<arr.size)(h:Q (arr[i]'e) st):wpS (model prog w) A E s (elem' arr i) Q st:=v7 (getElem?_pos arr i e) h
noncomputable def Pb(kf:Keyed->Int)(left:Bool)(key x:Keyed):Bool:=if left then decide (kf x<kf key)else !decide (kf key<kf x)
theorem B1{left:Bool}{key x:Keyed}{arr:Array Keyed}{base i:Nat}{Q:Option Bool->SortSt->Prop}(hc:qe prog w A s κ kf D)(hk:kindOf st=κ)(hx:D x)(hy:D key)(e:arr[base+i]? =some x)(h:Q (some (Pb kf left key x)) st) :
  wpS (model prog w) A E s (xG left key arr base i) Q st:=by
 unfold xG;refine CS (v7 e ?_);cases left with
 | true=>exact sf hc hk hx hy h
 | false=>exact CS (sf hc hk hy hx (CZ h))
theorem qF{left:Bool}{key:Keyed}{arr:Array Keyed}{base n ae:Nat}{L:List Keyed}{Q:Option Nat->SortSt->Prop}(hc:qe prog w A s κ kf D)(hk:kindOf st=κ)(hy:D key)(hn:L.length=n)(hL:∀i,i<n->arr[base+i]? =L[i]?)(asc:eH kf L)(dL:∀x∈L,D x)(hh:ae<n)
  (h:∀k,k<=n->(∀x∈L.take k,Pb kf left key x=true)->(∀x∈L.drop k,Pb kf left key x=false)->Q (some k) st):wpS (model prog w) A E s (cy left key arr base n ae) Q st:=by
 subst hn;have cX:∀i (hi:i<L.length),arr[base+i]? =some L[i]:=fun i hi=>by rw[hL i hi,CW hi]
 refine gal (B:=fun i=>if hi:i<L.length then Pb kf left key L[i]else false) hh (fun i j ij jn bj=> ?_) (fun i hi Q q=> ?_) fun k hk1 k1 k2=>h k hk1 (fun x hx=> ?_) fun x hx=> ?_
 ·rw[dif_pos jn]at bj
  rw[dif_pos (by omega)];have le:kf L[i]<=kf L[j]:=by
   rcases Nat.lt_or_ge i j with z|z
   ·exact FJ.mp asc i j (by omega) jn z
   ·have:i=j:=by omega
    subst this;exact D6 _
  unfold Pb at bj ⊢;cases left with
  | true =>
   simp only[Ei,D2]at bj ⊢;omega
  | false =>
   simp only[Ek,Em,FR,decide_eq_false_iff_not]at bj ⊢;omega
 ·rw[dif_pos hi]at q
  exact B1 hc hk (dL _ (Dj hi)) hy (cX i hi) q
 ·obtain⟨i,hi,rfl⟩:=Ez hx
  rw[DI]at hi;have:=k1 i (by omega);rw[dif_pos (by omega)]at this;rw[List.getElem_take];exact this
 ·obtain⟨i,hi,rfl⟩:=Ez hx
  rw[EG]at hi;have:=k2 (k+i) (by omega) (by omega);rw[dif_pos (by omega)]at this;rw[List.getElem_drop];exact this
theorem zq{key x:Keyed}(h:Pb kf true key x=true):kf x<kf key:=by simpa [Pb]using h
theorem zu{key x:Keyed}(h:Pb kf true key x=false):kf key<=kf x:=by simpa [Pb]using h
theorem zt{key x:Keyed}(h:Pb kf false key x=true):kf x<=kf key:=by simpa [Pb]using h
theorem zr{key x:Keyed}(h:Pb kf false key x=false):kf key<kf x:=by simpa [Pb]using h
noncomputable abbrev ba(st:SortSt)(g:Nat):SortSt:=SortSt.mk' (kindOf st) (arrOf st) (pendingOf st) g (failedOf st)
noncomputable def ed :Nat->SM Unit:=sortPriv% PySem.Builtin.setMinGallop
theorem cu(g:Nat):ed g=modify fun s=>ba s g:=rfl
end
end
noncomputable abbrev C5:=Option (Array Keyed)×Array Keyed×Nat×Nat×Nat×Nat×Nat
noncomputable def lo4(a b:Array Keyed)(k k1:Nat)(out:Array Keyed)(ia ib mg:Nat):SM (ForInStep C5):=do
 let x<-elem' a ia
 if(ia+1+1==a.size)=true then pure (.done (some (out.push x++b.extract ib b.size++a.extract (ia+1) a.size),out.push x,ia+1,ib,mg,k,k1))
 else if(decide (k<7)&&decide (k1<7))=true then pure (.done (none,out.push x,ia+1,ib,mg,k,k1))else pure (.yield (none,out.push x,ia+1,ib,mg,k,k1))
noncomputable def BI(a b:Array Keyed)(k:Nat)(out:Array Keyed)(ia ib mg bc:Nat):SM (ForInStep C5):=do
 let y<-elem' b ib
 if(ib+1==b.size)=true then pure (.done (some (out.push y++a.extract ia a.size++b.extract (ib+1) b.size),out.push y,ia,ib+1,mg,k,bc))
 else do
  let x<-elem' a ia
  let z<-cy true x b (ib+1) (b.size-(ib+1)) 0
  match z with
  | some k1=>if k1>0 then(if(ib+1+k1==b.size)=true then pure (.done (some (out.push y++b.extract (ib+1) (ib+1+k1)++a.extract ia a.size++b.extract (ib+1+k1) b.size),out.push y++b.extract (ib+1) (ib+1+k1),ia,ib+1+k1,mg,k,k1))else lo4 a b k k1 (out.push y++b.extract (ib+1) (ib+1+k1)) ia (ib+1+k1) mg)else lo4 a b k k1 (out.push y) ia (ib+1) mg
  | none=>pure (.done (some (out.push y++a.extract ia a.size++b.extract (ib+1) b.size),out.push y,ia,ib+1,mg,k,bc))
noncomputable def BK(a b out:Array Keyed)(ia ib mg ac bc:Nat):SM (ForInStep C5):=do
 ed mg
 let y<-elem' b ib
 let z<-cy false y a ia (a.size-ia) 0
 match z with
 | some k=>if k>0 then(if(ia+k+1==a.size)=true then pure (.done (some (out++a.extract ia (ia+k)++b.extract ib b.size++a.extract (ia+k) a.size),out++a.extract ia (ia+k),ia+k,ib,mg,k,bc))else if(ia+k==a.size)=true then pure (.done (some (out++a.extract ia (ia+k)++a.extract (ia+k) a.size++b.extract ib b.size),out++a.extract ia (ia+k),ia+k,ib,mg,k,bc))else BI a b k (out++a.extract ia (ia+k)) (ia+k) ib mg bc)else BI a b k out ia ib mg bc
 | none=>pure (.done (some (out++a.extract ia a.size++b.extract ib b.size),out,ia,ib,mg,ac,bc))
noncomputable abbrev C4:=Option (Array Keyed)×Array Keyed×Nat×Nat×Nat×Nat
noncomputable def lo1(a b:Array Keyed)(mg:Nat)(c:C4):SM (ForInStep C4):=do
 let y<-elem' b c.2.2.2.1
 let x<-elem' a c.2.2.1
 let z<-lt' y x
 match z with
 | some bw =>
  if bw=true then do
   let y<-elem' b c.2.2.2.1
   if(c.2.2.2.1+1==b.size)=true then pure (.done (some (c.2.1.push y++a.extract c.2.2.1 a.size++b.extract (c.2.2.2.1+1) b.size),c.2.1.push y,c.2.2.1,c.2.2.2.1+1,0,c.2.2.2.2.2+1))
   else if c.2.2.2.2.2+1 ≥ mg then pure (.done (none,c.2.1.push y,c.2.2.1,c.2.2.2.1+1,0,c.2.2.2.2.2+1))else pure (.yield (none,c.2.1.push y,c.2.2.1,c.2.2.2.1+1,0,c.2.2.2.2.2+1))
  else do
   let x<-elem' a c.2.2.1
   if(c.2.2.1+1+1==a.size)=true then pure (.done (some (c.2.1.push x++b.extract c.2.2.2.1 b.size++a.extract (c.2.2.1+1) a.size),c.2.1.push x,c.2.2.1+1,c.2.2.2.1,c.2.2.2.2.1+1,0))
   else if c.2.2.2.2.1+1 ≥ mg then pure (.done (none,c.2.1.push x,c.2.2.1+1,c.2.2.2.1,c.2.2.2.2.1+1,0))else pure (.yield (none,c.2.1.push x,c.2.2.1+1,c.2.2.2.1,c.2.2.2.2.1+1,0))
 | none=>pure (.done (some (c.2.1++a.extract c.2.2.1 a.size++b.extract c.2.2.2.1 b.size),c.2.1,c.2.2.1,c.2.2.2.1,c.2.2.2.2.1,c.2.2.2.2.2))
noncomputable abbrev C3:=Option (Array Keyed)×Array Keyed×Nat×Nat×Nat
noncomputable def lo0(a b:Array Keyed)(c:C3):SM (ForInStep C3):=do
 let d<-forIn [:a.size+b.size] ((none,c.2.1,c.2.2.1,c.2.2.2.1,0,0):C4) fun _ d=>lo1 a b c.2.2.2.2 d
 match d.1 with
 | some r=>pure (.done (some r,d.2.1,d.2.2.1,d.2.2.2.1,c.2.2.2.2))
 | none=>do
  liftM (rule "list.sort.gallop")
  let e<-forIn [:a.size+b.size] ((none,d.2.1,d.2.2.1,d.2.2.2.1,c.2.2.2.2+1,d.2.2.2.2.1,d.2.2.2.2.2):C5) fun _ e =>
   if e.2.2.2.2.1>1 then BK a b e.2.1 e.2.2.1 e.2.2.2.1 (e.2.2.2.2.1-1) e.2.2.2.2.2.1 e.2.2.2.2.2.2 else BK a b e.2.1 e.2.2.1 e.2.2.2.1 e.2.2.2.2.1 e.2.2.2.2.2.1 e.2.2.2.2.2.2
  match e.1 with
  | some r=>pure (.done (some r,e.2.1,e.2.2.1,e.2.2.2.1,e.2.2.2.2.1))
  | none=>do
   ed (e.2.2.2.2.1+1)
   pure (.yield (none,e.2.1,e.2.2.1,e.2.2.2.1,e.2.2.2.2.1+1))
theorem kx(a b:Array Keyed):ky a b=(do
 liftM (rule "list.sort.merge-lo")
 let y<-elem' b 0
 if(1==b.size)=true then pure (#[y]++a.extract 0 a.size++b.extract 1 b.size)
 else if(0+1==a.size)=true then pure (#[y]++b.extract 1 b.size++a.extract 0 a.size)
 else do
  let s<-get
  let c<-forIn [:a.size+b.size] ((none,#[y],0,1,gallopOf s):C3) fun _ c=>lo0 a b c
  match c.1 with
  | some r=>pure r
  | none=>unsupported "internal:list.sort.merge-bound"):=by
 change (_ >>= _:SM (Array Keyed))=_
 dsimp only;refine Cj fun _=>Cj fun y=>DH rfl (fun _=>rfl) fun _=>DH rfl (fun _=>rfl) fun _=>Cj fun s=> ?_;refine cj _ (fun x c=> ?_) fun c=> ?_
 ·unfold lo0
  refine cj _ (fun x d=> ?_) fun d=> ?_
  ·unfold lo1
   exact Cj fun y=>Cj fun x=>Cj fun z=>by cases z<;>rfl
  ·cases d.1 with
   | some r=>rfl
   | none =>
    refine Cj fun _=>cj _ (fun x e=> ?_) fun e=> ?_
    ·refine DH rfl (fun _=> ?_) fun _=> ?_
     all_goals
      unfold BK;refine Cj fun _=>Cj fun y=>Cj fun z=> ?_;cases z with
      | none=>rfl
      | some k =>
       refine DH rfl (fun _=>DH rfl (fun _=>rfl) fun _=>DH rfl (fun _=>rfl) fun _=> ?_) fun _=> ?_
       all_goals
        unfold BI;refine Cj fun y=>DH rfl (fun _=>rfl) fun _=>Cj fun x=>Cj fun z=> ?_;cases z with
        | none=>rfl
        | some k=>exact DH rfl (fun _=>DH rfl (fun _=>rfl) fun _=>rfl) fun _=>rfl
    ·cases e.1<;>rfl
 ·cases c.1<;>rfl
section
variable{kf:Keyed->Int}{prog:Program}{w:World}{A:Around}{E:Value->Shared->Prop}{s:Shared}{st st0:SortSt}{κ:SortKind}{D:Keyed->Prop}{tot:List Keyed}
noncomputable def Fi(kf:Keyed->Int)(tot:List Keyed)(r:Array Keyed):Prop:=eH kf r.toList/\r.toList.Perm tot
theorem Mg.done{a b out:Array Keyed}{i j:Nat}(M:Mg kf tot out.toList (a.toList.drop i) (b.toList.drop j))(e:i=a.size\/j=b.size):Fi kf tot (out++a.extract i a.size++b.extract j b.size):=by
 unfold Fi;rw[DD,DD,n0,n0]
 rcases e with e|e
 ·have z:a.toList.drop i=[]:=EK (by simp[e])
  rw[z]at M ⊢;rw[DL];exact M.swap.fin
 ·have z:b.toList.drop j=[]:=EK (by simp[e])
  rw[z]at M ⊢;rw[DL];exact M.fin
theorem Mg.last{a b out:Array Keyed}{i j:Nat}(M:Mg kf tot out.toList (a.toList.drop i) (b.toList.drop j))(e:i+1=a.size)(hl:∀y∈b.toList,kf y<=kf (a.getD (a.size-1) default)):Fi kf tot (out++b.extract j b.size++a.extract i a.size):=by
 unfold Fi;rw[DD,DD,n0,n0];rw[<- DL (b.toList.drop j)]at M;have M:=M.mvY (P:=b.toList.drop j) (R:=[]) fun p hp x hx=>by
  rw[gG (by omega),EK (by simp;omega)]at hx;have:x=a[i]:=Cn.mp hx;subst this;have:=hl p (D4 hp);have e2:a.size-1=i:=by omega
  simpa [Array.getD,e2,show i<a.size by omega]using this
 exact M.fin
noncomputable def LQ(kf:Keyed->Int)(tot:List Keyed)(a b:Array Keyed)(st0:SortSt)(n:Nat)(r:Option (Array Keyed))(out:Array Keyed)(ia ib:Nat)(st:SortSt):Prop :=
 (∃g,st=ba st0 g)/\((∃q,r=some q/\Fi kf tot q)\/(r=none/\Mg kf tot out.toList (a.toList.drop ia) (b.toList.drop ib)/\ia+1<a.size/\ib<b.size/\n<=out.size))
noncomputable def LR{γ:Type}(kf:Keyed->Int)(tot:List Keyed)(a b:Array Keyed)(st0:SortSt)(n:Nat)(r:ForInStep (Option (Array Keyed)×Array Keyed×Nat×Nat×γ))(st:SortSt):Prop:=match r with
 | .done c=>LQ kf tot a b st0 n c.1 c.2.1 c.2.2.1 c.2.2.2.1 st
 | .yield c=>c.1=none/\LQ kf tot a b st0 n c.1 c.2.1 c.2.2.1 c.2.2.2.1 st
noncomputable def LD(kf:Keyed->Int)(tot:List Keyed)(a b:Array Keyed)(st0:SortSt)(n:Nat)(r:ForInStep C3)(st:SortSt):Prop:=match r with
 | .done c=>∃q,c.1=some q/\Fi kf tot q/\∃g,st=ba st0 g
 | .yield c=>c.1=none/\LQ kf tot a b st0 n c.1 c.2.1 c.2.2.1 c.2.2.2.1 st
theorem LQ.weak{a b:Array Keyed}{n m:Nat}{r:Option (Array Keyed)}{out:Array Keyed}{ia ib:Nat}(h:LQ kf tot a b st0 n r out ia ib st)(l:m<=n):LQ kf tot a b st0 m r out ia ib st :=
 ⟨h.1,h.2.imp id fun⟨x1,x2,x3,x4,x5⟩=>⟨x1,x2,x3,x4,by omega⟩⟩
section
variable{a b:Array Keyed}(hc:qe prog w A s κ kf D)(hk:kindOf st0=κ)(da:∀x∈a.toList,D x)(db:∀x∈b.toList,D x)(hl:∀y∈b.toList,kf y<=kf (a.getD (a.size-1) default))
include hl
theorem wv{k k1 n ia ib mg:Nat}{out:Array Keyed}(hst:∃g,st=ba st0 g)(M:Mg kf tot out.toList (a.toList.drop ia) (b.toList.drop ib))(i1:ia+1<a.size)(i2:ib<b.size)(hn:n<=out.size)(hx:∀y∈b.toList.drop ib,kf (a[ia]'(by omega))<=kf y) :
  wpS (model prog w) A E s (lo4 a b k k1 out ia ib mg) (LR kf tot a b st0 (n+1)) st:=by
 unfold lo4;refine CS (ck (by omega) ?_);rw[gG (by omega:ia<a.size)]at M;have M' :Mg kf tot (out.push (a[ia]'(by omega))).toList (a.toList.drop (ia+1)) (b.toList.drop ib):=by
  rw[De];exact M.mvX (P:=[_]) fun p hp x hx' =>by
   rw[Cn.mp hp];exact hx x hx'
 by_cases c:ia+1+1=a.size
 ·rw[CQ (by simpa using c)]
  exact CZ ⟨hst,.inl ⟨_,rfl,M'.last c hl⟩⟩
 ·rw[CM (by simpa using c)]
  have z:LQ kf tot a b st0 (n+1) none (out.push (a[ia]'(by omega))) (ia+1) ib st:=⟨hst,.inr ⟨rfl,M',by omega,i2,by simp;omega⟩⟩
  by_cases d:(decide (k<7)&&decide (k1<7))=true
  ·rw[CQ d]
   exact CZ z
  ·rw[CM d]
   exact CZ ⟨rfl,z⟩
include hc hk da db
theorem ww{k n ia ib mg bc:Nat}{out:Array Keyed}(hst:∃g,st=ba st0 g)(M:Mg kf tot out.toList (a.toList.drop ia) (b.toList.drop ib))(i1:ia+1<a.size)(i2:ib<b.size)(hn:n<=out.size)(hx:∀x∈a.toList.drop ia,kf (b[ib]'i2)<=kf x) :
  wpS (model prog w) A E s (BI a b k out ia ib mg bc) (LR kf tot a b st0 (n+1)) st:=by
 unfold BI;refine CS (ck (by omega) ?_);rw[gG i2]at M;have M' :Mg kf tot (out.push (b[ib]'i2)).toList (a.toList.drop ia) (b.toList.drop (ib+1)):=by
  rw[De];exact M.mvY (P:=[_]) fun p hp x hx' =>by
   rw[Cn.mp hp];exact hx x hx'
 by_cases c:ib+1=b.size
 ·rw[CQ (by simpa using c)]
  exact CZ ⟨hst,.inl ⟨_,rfl,M'.done (.inr c)⟩⟩
 ·rw[CM (by simpa using c)]
  refine CS (ck (by omega) ?_);have ha:=M'.l.app;have hb:=M'.r.app;have e1:=gG (by omega:ia<a.size);refine CS (qF (L:=b.toList.drop (ib+1)) hc (by obtain⟨g,rfl⟩:=hst;exact hk) (da _ (by simp)) (by simp) (fun i hi=>by rw[List.getElem?_drop,Cu]) hb (fun x hx=>db x (D4 hx)) (by omega) fun k1 kn k2 k3=> ?_);dsimp only;have k2:=fun x hx=>zq (k2 x hx);have k3:=fun x hx=>zu (k3 x hx)
  by_cases c2:k1>0
  ·rw[CQ c2]
   have M2:Mg kf tot (out.push (b[ib]'i2)++b.extract (ib+1) (ib+1+k1)).toList (a.toList.drop ia) (b.toList.drop (ib+1+k1)):=by
    rw[DD,wW,show b.toList.drop (ib+1+k1)=(b.toList.drop (ib+1)).drop k1 from List.drop_drop.symm];rw[<- Cm k1 (b.toList.drop (ib+1))]at M';refine M'.mvY fun p hp x hx' => ?_;rw[e1]at hx' ha;exact Dd (Dk (k2 p hp)) (ha.hd hx')
   by_cases c3:ib+1+k1=b.size
   ·rw[CQ (by simpa using c3)]
    exact CZ ⟨hst,.inl ⟨_,rfl,M2.done (.inr c3)⟩⟩
   ·rw[CM (by simpa using c3)]
    exact wv hl hst M2 i1 (by omega) (by simp;omega) fun y hy=>k3 y (by rw[List.drop_drop];exact hy)
  ·rw[CM c2]
   have:k1=0:=by omega
   subst this;exact wv hl hst M' i1 (by omega) (by simp;omega) fun y hy=>k3 y (by simpa using hy)
theorem BJ{n ia ib mg ac bc:Nat}{out:Array Keyed}(hst:∃g,st=ba st0 g)(M:Mg kf tot out.toList (a.toList.drop ia) (b.toList.drop ib))(i1:ia+1<a.size)(i2:ib<b.size)(hn:n<=out.size) :
  wpS (model prog w) A E s (BK a b out ia ib mg ac bc) (LR kf tot a b st0 (n+1)) st:=by
 unfold BK;rw[cu];obtain⟨g,rfl⟩:=hst;refine CS (EI ?_);refine CS (ck i2 ?_);have hst:∃g,ba (ba st0 g) mg=ba st0 g:=⟨mg,rfl⟩;have ha:=M.l.app;have hb:=M.r.app;have e1:=gG i2;refine CS (qF (L:=a.toList.drop ia) hc hk (db _ (by simp)) (by simp) (fun i hi=>by rw[List.getElem?_drop,Cu]) ha (fun x hx=>da x (D4 hx)) (by omega) fun k1 kn k2 k3=> ?_);dsimp only;have k2:=fun x hx=>zt (k2 x hx);have k3:=fun x hx=>Dk (zr (k3 x hx))
 by_cases c2:k1>0
 ·rw[CQ c2]
  have M2:Mg kf tot (out++a.extract ia (ia+k1)).toList (a.toList.drop (ia+k1)) (b.toList.drop ib):=by
   rw[DD,wW,<-List.drop_drop];rw[<- Cm k1 (a.toList.drop ia)]at M;refine M.mvX fun p hp x hx' => ?_;rw[e1]at hx' hb;exact Dd (k2 p hp) (hb.hd hx')
  by_cases c3:ia+k1+1=a.size
  ·rw[CQ (by simpa using c3)]
   exact CZ ⟨hst,.inl ⟨_,rfl,M2.last c3 hl⟩⟩
  ·rw[CM (by simpa using c3)]
   by_cases c4:ia+k1=a.size
   ·rw[CQ (by simpa using c4)]
    exact CZ ⟨hst,.inl ⟨_,rfl,M2.done (.inl c4)⟩⟩
   ·rw[CM (by simpa using c4)]
    exact ww hc hk da db hl hst M2 (by omega) i2 (by simp;omega) fun y hy=>k3 y (by rw[List.drop_drop];exact hy)
 ·rw[CM c2]
  have:k1=0:=by omega
  subst this;exact ww hc hk da db hl hst M i1 i2 hn fun y hy=>k3 y (by simpa using hy)
theorem BL{n ia ib mg ac bc:Nat}{out:Array Keyed}(hst:∃g,st=ba st0 g)(M:Mg kf tot out.toList (a.toList.drop ia) (b.toList.drop ib))(i1:ia+1<a.size)(i2:ib<b.size)(hn:n<=out.size) :
  wpS (model prog w) A E s (lo1 a b mg (none,out,ia,ib,ac,bc)) (LR kf tot a b st0 (n+1)) st:=by
 unfold lo1;have i1' :ia<a.size:=by omega
 have ha:=M.l.app;have hb:=M.r.app;have e1:=gG i2;have e2:=gG i1';refine CS (ck i2 (CS (ck i1' ?_)));refine CS (sf hc (by obtain⟨g,rfl⟩:=hst;exact hk) (db _ (by simp)) (da _ (by simp)) ?_);dsimp only
 by_cases c:kf (b[ib]'i2)<kf (a[ia]'i1')
 ·rw[CQ (by simpa using c)]
  refine CS (ck i2 ?_);have M' :Mg kf tot (out.push (b[ib]'i2)).toList (a.toList.drop ia) (b.toList.drop (ib+1)):=by
   rw[De];rw[e1]at M;exact M.mvY (P:=[_]) fun p hp x hx' =>by
    rw[Cn.mp hp];rw[e2]at hx' ha;exact Dd (Dk c) (ha.hd hx')
  by_cases c3:ib+1=b.size
  ·rw[CQ (by simpa using c3)]
   exact CZ ⟨hst,.inl ⟨_,rfl,M'.done (.inr c3)⟩⟩
  ·rw[CM (by simpa using c3)]
   have z:LQ kf tot a b st0 (n+1) none (out.push (b[ib]'i2)) ia (ib+1) st:=⟨hst,.inr ⟨rfl,M',i1,by omega,by simp;omega⟩⟩
   by_cases d:bc+1 ≥ mg
   ·rw[CQ d]
    exact CZ z
   ·rw[CM d]
    exact CZ ⟨rfl,z⟩
 ·rw[CM (by simpa using c)]
  refine CS (ck i1' ?_);have M' :Mg kf tot (out.push (a[ia]'i1')).toList (a.toList.drop (ia+1)) (b.toList.drop ib):=by
   rw[De];rw[e2]at M;exact M.mvX (P:=[_]) fun p hp x hx' =>by
    rw[Cn.mp hp];rw[e1]at hx' hb;exact Dd (Int.not_lt.mp c) (hb.hd hx')
  by_cases c3:ia+1+1=a.size
  ·rw[CQ (by simpa using c3)]
   exact CZ ⟨hst,.inl ⟨_,rfl,M'.last c3 hl⟩⟩
  ·rw[CM (by simpa using c3)]
   have z:LQ kf tot a b st0 (n+1) none (out.push (a[ia]'i1')) (ia+1) ib st:=⟨hst,.inr ⟨rfl,M',by omega,i2,by simp;omega⟩⟩
   by_cases d:ac+1 ≥ mg
   ·rw[CQ d]
    exact CZ z
   ·rw[CM d]
    exact CZ ⟨rfl,z⟩
theorem BM{n ia ib mg:Nat}{out:Array Keyed}(hst:∃g,st=ba st0 g)(M:Mg kf tot out.toList (a.toList.drop ia) (b.toList.drop ib))(i1:ia+1<a.size)(i2:ib<b.size)(hn:n<=out.size) :
  wpS (model prog w) A E s (lo0 a b (none,out,ia,ib,mg)) (LD kf tot a b st0 (n+1)) st:=by
 unfold lo0;refine CS (Dt (DO (I:=fun x (c:C4) st' =>c.1=none/\LQ kf tot a b st0 (n+x) c.1 c.2.1 c.2.2.1 c.2.2.2.1 st') (Q:=fun c st' =>LQ kf tot a b st0 (n+1) c.1 c.2.1 c.2.2.1 c.2.2.2.1 st') ?_ ?_ ⟨rfl,hst,.inr ⟨rfl,M,i1,i2,hn⟩⟩) ?_)
 ·rintro x ⟨r,out,ia,ib,ac,bc⟩ st' _ hx ⟨e,q,z⟩
  rcases z with⟨q,e',_⟩|⟨_,z1,z2,z3,z4⟩
  ·rw[e]at e'
   cases e'
  ·have e:r=none:=e
   subst e;refine Dt (BL hc hk da db hl q z1 z2 z3 z4) fun r st' h=> ?_;cases r with
   | done c=>exact LQ.weak h (by omega)
   | yield c=>exact h
 ·rintro c st' ⟨e,h⟩
  exact h.weak (by omega)
 ·rintro⟨r,out,ia,ib,ac,bc⟩ st' ⟨q,z⟩
  rcases z with⟨r,e,z⟩|⟨e,z1,z2,z3,z4⟩
  ·have e:_=some r:=e
   subst e;exact CZ ⟨_,rfl,z,q⟩
  ·have e:r=none:=e
   subst e;refine CS (wpS_lift (Ep ⟨rfl,?_⟩));refine CS (Dt (DO (I:=fun x (c:C5) st' =>c.1=none/\LQ kf tot a b st0 (n+1) c.1 c.2.1 c.2.2.1 c.2.2.2.1 st') (Q:=fun c st' =>LQ kf tot a b st0 (n+1) c.1 c.2.1 c.2.2.1 c.2.2.2.1 st') ?_ ?_ ⟨rfl,q,.inr ⟨rfl,z1,z2,z3,z4⟩⟩) ?_)
   ·rintro x ⟨r,out,ia,ib,mg,ac,bc⟩ st' _ hx ⟨e,q,z⟩
    rcases z with⟨q,e',_⟩|⟨_,z1,z2,z3,z4⟩
    ·rw[e]at e'
     cases e'
    ·have e:r=none:=e
     subst e;dsimp only
     split <;>
     ·refine Dt (BJ hc hk da db hl q z1 z2 z3 z4) fun r st' h=> ?_
      cases r with
      | done c=>exact LQ.weak h (by omega)
      | yield c=>exact⟨h.1,LQ.weak h.2 (by omega)⟩
   ·rintro c st' ⟨_,h⟩
    exact h
   ·rintro⟨r,out,ia,ib,mg,ac,bc⟩ st' ⟨q,z⟩
    rcases z with⟨r,e,z⟩|⟨e,z1,z2,z3,z4⟩
    ·have e:_=some r:=e
     subst e;exact CZ ⟨_,rfl,z,q⟩
    ·have e:r=none:=e
     subst e;dsimp only;rw[cu];obtain⟨g,rfl⟩:=q;exact CS (EI (CZ ⟨rfl,⟨_,rfl⟩,.inr ⟨rfl,z1,z2,z3,z4⟩⟩))
end
theorem mergeLo{a b:Array Keyed}{Q:Array Keyed->SortSt->Prop}(hc:qe prog w A s κ kf D)(hk:kindOf st=κ)(da:∀x∈a.toList,D x)(db:∀x∈b.toList,D x)(sa:eH kf a.toList)(sb:eH kf b.toList)(na:0<a.size)(nb:0<b.size)
  (hf:∀x∈a.toList,kf (b[0]'nb)<=kf x) (hl:∀y∈b.toList,kf y<=kf (a.getD (a.size-1) default)) (h:∀r g,Fi kf (a.toList++b.toList) r->Q r (ba st g)):wpS (model prog w) A E s (ky a b) Q st:=by
 rw[kx];refine CS (wpS_lift (Ep ⟨rfl,?_⟩));refine CS (ck nb ?_);have e1:=gG nb;have M:Mg kf (a.toList++b.toList) (#[b[0]'nb]:Array Keyed).toList (a.toList.drop 0) (b.toList.drop 1):=by
  rw[List.drop_zero]at e1 ⊢;have M0:Mg kf (a.toList++b.toList) [] a.toList ([b[0]'nb]++b.toList.drop 1):=⟨sa,by rw[e1]at sb;exact sb,by rw[List.nil_append];exact Dx _ (by rw[e1];exact Dl _)⟩;exact M0.mvY fun p hp x hx=>by
   rw[Cn.mp hp];exact hf x hx
 by_cases c1:1=b.size
 ·rw[CQ (by simpa using c1)]
  exact CZ (h _ (gallopOf st) (M.done (.inr c1)))
 ·rw[CM (by simpa using c1)]
  by_cases c2:0+1=a.size
  ·rw[CQ (by simpa using c2)]
   exact CZ (h _ (gallopOf st) (M.last c2 hl))
  ·rw[CM (by simpa using c2)]
   refine CS (FY ?_);refine CS (DO (I:=fun x (c:C3) st' =>c.1=none/\LQ kf (a.toList++b.toList) a b st (1+x) c.1 c.2.1 c.2.2.1 c.2.2.2.1 st') ?_ ?_ ⟨rfl,⟨_,rfl⟩,.inr ⟨rfl,M,by show 0+1<a.size;omega,by show 1<b.size;omega,CO _⟩⟩)
   ·rintro x ⟨r,out,ia,ib,mg⟩ st' _ hx ⟨e,q,z⟩
    rcases z with⟨q,e',_⟩|⟨_,z1,z2,z3,z4⟩
    ·rw[e]at e'
     cases e'
    ·have e:r=none:=e
     subst e;refine Dt (BM hc hk da db hl q z1 z2 z3 z4) fun r st' hr=> ?_;cases r with
     | done c =>
      obtain⟨r,c⟩:=c;obtain⟨q,e',f,g,rfl⟩:=hr;have e' :r=some q:=e';subst e';exact CZ (h q g f)
     | yield c=>exact hr
   ·rintro⟨r,out,ia,ib,mg⟩ st' ⟨e,q,z⟩
    rcases z with⟨q,e',_⟩|⟨_,z1,z2,z3,z4⟩
    ·rw[e]at e'
     cases e'
    ·have:=z1.len
     simp at this;have z4:1+(max 0 (a.size+b.size))<=out.size:=z4;omega
end
noncomputable abbrev H5:=Option (Array Keyed)×Nat×Nat×Array Keyed×Nat×Nat×Nat
noncomputable abbrev tZ(a b out:Array Keyed)(na nb:Nat):Array Keyed:=a.extract 0 na++b.extract 0 nb++out.reverse
noncomputable abbrev zE(a b out:Array Keyed)(na nb:Nat):Array Keyed:=b.extract 0 nb++a.extract 0 na++out.reverse
noncomputable def hi4(a b:Array Keyed)(k k1:Nat)(out:Array Keyed)(na nb mg:Nat):SM (ForInStep H5):=do
 let x<-elem' a (na-1)
 if(na-1==0)=true then pure (.done (some (tZ a b (out.push x) (na-1) nb),na-1,nb,out.push x,mg,k,k1))
 else if(decide (k<7)&&decide (k1<7))=true then pure (.done (none,na-1,nb,out.push x,mg,k,k1))else pure (.yield (none,na-1,nb,out.push x,mg,k,k1))
noncomputable def BV(a b:Array Keyed)(k:Nat)(out:Array Keyed)(na nb mg bc:Nat):SM (ForInStep H5):=do
 let y<-elem' b (nb-1)
 if(nb-1==1)=true then pure (.done (some (zE a b (out.push y) na (nb-1)),na,nb-1,out.push y,mg,k,bc))
 else do
  let x<-elem' a (na-1)
  let z<-cy true x b 0 (nb-1) (nb-1-1)
  match z with
  | some cX=>if nb-1-cX>0 then(if(cX==1)=true then pure (.done (some (zE a b (out.push y++(b.extract cX (nb-1)).reverse) na cX),na,cX,out.push y++(b.extract cX (nb-1)).reverse,mg,k,nb-1-cX))else if(cX==0)=true then pure (.done (some (tZ a b (out.push y++(b.extract cX (nb-1)).reverse) na cX),na,cX,out.push y++(b.extract cX (nb-1)).reverse,mg,k,nb-1-cX))else hi4 a b k (nb-1-cX) (out.push y++(b.extract cX (nb-1)).reverse) na cX mg)else hi4 a b k (nb-1-cX) (out.push y) na (nb-1) mg
  | none=>pure (.done (some (tZ a b (out.push y) na (nb-1)),na,nb-1,out.push y,mg,k,bc))
noncomputable def BX(a b out:Array Keyed)(na nb mg ac bc:Nat):SM (ForInStep H5):=do
 ed mg
 let y<-elem' b (nb-1)
 let z<-cy false y a 0 na (na-1)
 match z with
 | some cX=>if na-cX>0 then(if(cX==0)=true then pure (.done (some (tZ a b (out++(a.extract cX na).reverse) cX nb),cX,nb,out++(a.extract cX na).reverse,mg,na-cX,bc))else BV a b (na-cX) (out++(a.extract cX na).reverse) cX nb mg bc)else BV a b (na-cX) out na nb mg bc
 | none=>pure (.done (some (tZ a b out na nb),na,nb,out,mg,ac,bc))
noncomputable abbrev H4:=Option (Array Keyed)×Nat×Nat×Array Keyed×Nat×Nat
noncomputable def hi1(a b:Array Keyed)(mg:Nat)(c:H4):SM (ForInStep H4):=do
 let y<-elem' b (c.2.2.1-1)
 let x<-elem' a (c.2.1-1)
 let z<-lt' y x
 match z with
 | some aw =>
  if aw=true then do
   let x<-elem' a (c.2.1-1)
   if(c.2.1-1==0)=true then pure (.done (some (tZ a b (c.2.2.2.1.push x) (c.2.1-1) c.2.2.1),c.2.1-1,c.2.2.1,c.2.2.2.1.push x,c.2.2.2.2.1+1,0))
   else if c.2.2.2.2.1+1 ≥ mg then pure (.done (none,c.2.1-1,c.2.2.1,c.2.2.2.1.push x,c.2.2.2.2.1+1,0))else pure (.yield (none,c.2.1-1,c.2.2.1,c.2.2.2.1.push x,c.2.2.2.2.1+1,0))
  else do
   let y<-elem' b (c.2.2.1-1)
   if(c.2.2.1-1==1)=true then pure (.done (some (zE a b (c.2.2.2.1.push y) c.2.1 (c.2.2.1-1)),c.2.1,c.2.2.1-1,c.2.2.2.1.push y,0,c.2.2.2.2.2+1))
   else if c.2.2.2.2.2+1 ≥ mg then pure (.done (none,c.2.1,c.2.2.1-1,c.2.2.2.1.push y,0,c.2.2.2.2.2+1))else pure (.yield (none,c.2.1,c.2.2.1-1,c.2.2.2.1.push y,0,c.2.2.2.2.2+1))
 | none=>pure (.done (some (tZ a b c.2.2.2.1 c.2.1 c.2.2.1),c.2.1,c.2.2.1,c.2.2.2.1,c.2.2.2.2.1,c.2.2.2.2.2))
noncomputable abbrev H3:=Option (Array Keyed)×Nat×Nat×Array Keyed×Nat
noncomputable def hi0(a b:Array Keyed)(c:H3):SM (ForInStep H3):=do
 let d<-forIn [:a.size+b.size] ((none,c.2.1,c.2.2.1,c.2.2.2.1,0,0):H4) fun _ d=>hi1 a b c.2.2.2.2 d
 match d.1 with
 | some r=>pure (.done (some r,d.2.1,d.2.2.1,d.2.2.2.1,c.2.2.2.2))
 | none=>do
  liftM (rule "list.sort.gallop")
  let e<-forIn [:a.size+b.size] ((none,d.2.1,d.2.2.1,d.2.2.2.1,c.2.2.2.2+1,d.2.2.2.2.1,d.2.2.2.2.2):H5) fun _ e =>
   if e.2.2.2.2.1>1 then BX a b e.2.2.2.1 e.2.1 e.2.2.1 (e.2.2.2.2.1-1) e.2.2.2.2.2.1 e.2.2.2.2.2.2 else BX a b e.2.2.2.1 e.2.1 e.2.2.1 e.2.2.2.2.1 e.2.2.2.2.2.1 e.2.2.2.2.2.2
  match e.1 with
  | some r=>pure (.done (some r,e.2.1,e.2.2.1,e.2.2.2.1,e.2.2.2.2.1))
  | none=>do
   ed (e.2.2.2.2.1+1)
   pure (.yield (none,e.2.1,e.2.2.1,e.2.2.2.1,e.2.2.2.2.1+1))
theorem kz(a b:Array Keyed):k6 a b=(do
 liftM (rule "list.sort.merge-hi")
 let x<-elem' a (a.size-1)
 if(a.size-1==0)=true then pure (tZ a b #[x] (a.size-1) b.size)
 else if(b.size==1)=true then pure (zE a b #[x] (a.size-1) b.size)
 else do
  let s<-get
  let c<-forIn [:a.size+b.size] ((none,a.size-1,b.size,#[x],gallopOf s):H3) fun _ c=>hi0 a b c
  match c.1 with
  | some r=>pure r
  | none=>unsupported "internal:list.sort.merge-bound"):=by
 change (_ >>= _:SM (Array Keyed))=_
 dsimp only;refine Cj fun _=>Cj fun y=>DH rfl (fun _=>rfl) fun _=>DH rfl (fun _=>rfl) fun _=>Cj fun s=> ?_;refine cj _ (fun x c=> ?_) fun c=> ?_
 ·unfold hi0
  refine cj _ (fun x d=> ?_) fun d=> ?_
  ·unfold hi1
   exact Cj fun y=>Cj fun x=>Cj fun z=>by cases z<;>rfl
  ·cases d.1 with
   | some r=>rfl
   | none =>
    refine Cj fun _=>cj _ (fun x e=> ?_) fun e=> ?_
    ·refine DH rfl (fun _=> ?_) fun _=> ?_
     all_goals
      unfold BX;refine Cj fun _=>Cj fun y=>Cj fun z=> ?_;cases z with
      | none=>rfl
      | some k =>
       refine DH rfl (fun _=>DH rfl (fun _=>rfl) fun _=> ?_) fun _=> ?_
       all_goals
        unfold BV;refine Cj fun y=>DH rfl (fun _=>rfl) fun _=>Cj fun x=>Cj fun z=> ?_;cases z with
        | none=>rfl
        | some k=>exact DH rfl (fun _=>DH rfl (fun _=>rfl) fun _=>DH rfl (fun _=>rfl) fun _=>rfl) fun _=>rfl
    ·cases e.1<;>rfl
 ·cases c.1<;>rfl
section
variable{kf:Keyed->Int}{prog:Program}{w:World}{A:Around}{E:Value->Shared->Prop}{s:Shared}{st st0:SortSt}{κ:SortKind}{D:Keyed->Prop}{tot:List Keyed}
noncomputable abbrev ng(kf:Keyed->Int):Keyed->Int:=fun x=> - kf x
theorem dC{l:List Keyed}:eH (ng kf) l.reverse↔eH kf l:=by
 unfold eH;rw[List.pairwise_reverse];exact⟨fun h=>h.imp fun{x y} h=>by have: - kf y<= - kf x:=h;omega,fun h=>h.imp fun{x y} h=>by show-kf y<= - kf x;omega⟩
noncomputable abbrev tk(a:Array Keyed)(n:Nat):List Keyed:=(a.toList.take n).reverse
theorem nz(a:Array Keyed)(n:Nat):(a.extract 0 n).toList=a.toList.take n:=by
 rw[Dm,DT,List.drop_zero,Nat.sub_zero]
theorem wZ{a:Array Keyed}{n:Nat}(h0:0<n)(h:n<=a.size):tk a n=(a[n-1]'(by omega))::tk a (n-1):=by
 obtain⟨m,rfl⟩:∃m,n=m+1:=⟨n-1,by omega⟩;unfold tk;rw[List.take_succ_eq_append_getElem (by simp;omega),EA];simp
theorem tkp{a:Array Keyed}{n k:Nat}(h:k<=n)(hn:n<=a.size):tk a n=(a.extract k n).reverse.toList++tk a k:=by
 unfold tk;rw[EZ,Dm,DT,<-EA]
 congr 1
 rw[<- Cm k (a.toList.take n),FE,Df h,List.drop_take]
theorem Mg.doneH{a b out:Array Keyed}{i j:Nat}(M:Mg (ng kf) tot out.toList (tk a i) (tk b j))(e:i=0\/j=0):Fi kf tot (tZ a b out i j):=by
 have z:(tZ a b out i j).toList.reverse=out.toList++(tk b j++tk a i):=by
  unfold tZ;rw[DD,DD,nz,nz,EZ,EA,EA,List.reverse_reverse]
 have y:eH (ng kf) (out.toList++(tk b j++tk a i))/\(out.toList++(tk b j++tk a i)).Perm tot:=by
  rcases e with e|e
  ·subst e
   have M:Mg (ng kf) tot out.toList [] (tk b j):=by simpa [tk]using M
   simpa [tk]using M.swap.fin
  ·subst e
   have M:Mg (ng kf) tot out.toList (tk a i) []:=by simpa [tk]using M
   simpa [tk]using M.fin
 rw[<- z]at y;exact⟨dC.mp y.1,(FM _).symm.trans y.2⟩
theorem Mg.firstH{a b out:Array Keyed}{i j:Nat}(M:Mg (ng kf) tot out.toList (tk a i) (tk b j))(h1:j=1)(nb:0<b.size)(hf:∀x∈a.toList,kf (b[0]'nb)<=kf x):Fi kf tot (zE a b out i j):=by
 subst h1;have z:(zE a b out i 1).toList.reverse=out.toList++(tk a i++tk b 1):=by
  unfold zE;rw[DD,DD,nz,nz,EZ,EA,EA,List.reverse_reverse]
 have e:tk b 1=[b[0]'nb]:=by rw[wZ (by omega) (by omega)];simp[tk]
 rw[e]at M z;rw[<- DL (tk a i)]at M;have M:=(M.mvX (P:=tk a i) (R:=[]) fun p hp x hx=>by
  rw[Cn.mp hx];have:=hf p (D3 (Dr.mp hp));show-kf p<= - kf _;omega).swap.fin
 rw[Cp,<-z]at M;exact⟨dC.mp M.1,(FM _).symm.trans M.2⟩
noncomputable def HQ(kf:Keyed->Int)(tot:List Keyed)(a b:Array Keyed)(st0:SortSt)(n:Nat)(r:Option (Array Keyed))(na nb:Nat)(out:Array Keyed)(st:SortSt):Prop :=
 (∃g,st=ba st0 g)/\((∃q,r=some q/\Fi kf tot q)\/(r=none/\Mg (ng kf) tot out.toList (tk a na) (tk b nb)/\(0<na/\na<=a.size)/\(1<nb/\nb<=b.size)/\n<=out.size))
noncomputable def HR{γ:Type}(kf:Keyed->Int)(tot:List Keyed)(a b:Array Keyed)(st0:SortSt)(n:Nat)(r:ForInStep (Option (Array Keyed)×Nat×Nat×Array Keyed×γ))(st:SortSt):Prop:=match r with
 | .done c=>HQ kf tot a b st0 n c.1 c.2.1 c.2.2.1 c.2.2.2.1 st
 | .yield c=>c.1=none/\HQ kf tot a b st0 n c.1 c.2.1 c.2.2.1 c.2.2.2.1 st
noncomputable def HD(kf:Keyed->Int)(tot:List Keyed)(a b:Array Keyed)(st0:SortSt)(n:Nat)(r:ForInStep H3)(st:SortSt):Prop:=match r with
 | .done c=>∃q,c.1=some q/\Fi kf tot q/\∃g,st=ba st0 g
 | .yield c=>c.1=none/\HQ kf tot a b st0 n c.1 c.2.1 c.2.2.1 c.2.2.2.1 st
theorem HQ.weak{a b:Array Keyed}{n m:Nat}{r:Option (Array Keyed)}{out:Array Keyed}{ia ib:Nat}(h:HQ kf tot a b st0 n r ia ib out st)(l:m<=n):HQ kf tot a b st0 m r ia ib out st :=
 ⟨h.1,h.2.imp id fun⟨x1,x2,x3,x4,x5⟩=>⟨x1,x2,x3,x4,by omega⟩⟩
section
variable{a b:Array Keyed}(hc:qe prog w A s κ kf D)(hk:kindOf st0=κ)(da:∀x∈a.toList,D x)(db:∀x∈b.toList,D x)(nb0:0<b.size)(hf:∀x∈a.toList,kf (b[0]'nb0)<=kf x)
theorem wz{k k1 n na nb mg:Nat}{out:Array Keyed}(hst:∃g,st=ba st0 g)(M:Mg (ng kf) tot out.toList (tk a na) (tk b nb))(i1:0<na/\na<=a.size)(i2:1<nb/\nb<=b.size)(hn:n<=out.size)(hx:∀y∈tk b nb,kf y<=kf (a[na-1]'(by omega))) :
  wpS (model prog w) A E s (hi4 a b k k1 out na nb mg) (HR kf tot a b st0 (n+1)) st:=by
 unfold hi4;refine CS (ck (by omega) ?_);rw[wZ i1.1 i1.2]at M;have M' :Mg (ng kf) tot (out.push (a[na-1]'(by omega))).toList (tk a (na-1)) (tk b nb):=by
  rw[De];exact M.mvX (P:=[_]) fun p hp x hx' =>by
   rw[Cn.mp hp];have:=hx x hx';show-kf _<= - kf _;omega
 by_cases c:na-1=0
 ·rw[CQ (by simpa using c)]
  exact CZ ⟨hst,.inl ⟨_,rfl,M'.doneH (.inl c)⟩⟩
 ·rw[CM (by simpa using c)]
  have z:HQ kf tot a b st0 (n+1) none (na-1) nb (out.push (a[na-1]'(by omega))) st:=⟨hst,.inr ⟨rfl,M',by omega,i2,by simp;omega⟩⟩
  by_cases d:(decide (k<7)&&decide (k1<7))=true
  ·rw[CQ d]
   exact CZ z
  ·rw[CM d]
   exact CZ ⟨rfl,z⟩
include hc hk da db nb0 hf
theorem xA{k n na nb mg bc:Nat}{out:Array Keyed}(hst:∃g,st=ba st0 g)(M:Mg (ng kf) tot out.toList (tk a na) (tk b nb))(i1:0<na/\na<=a.size)(i2:1<nb/\nb<=b.size)(hn:n<=out.size)(hx:∀x∈tk a na,kf x<=kf (b[nb-1]'(by omega))) :
  wpS (model prog w) A E s (BV a b k out na nb mg bc) (HR kf tot a b st0 (n+1)) st:=by
 unfold BV;refine CS (ck (by omega) ?_);rw[wZ (by omega) i2.2]at M;have M' :Mg (ng kf) tot (out.push (b[nb-1]'(by omega))).toList (tk a na) (tk b (nb-1)):=by
  rw[De];exact M.mvY (P:=[_]) fun p hp x hx' =>by
   rw[Cn.mp hp];have:=hx x hx';show-kf _<= - kf _;omega
 by_cases c:nb-1=1
 ·rw[CQ (by simpa using c)]
  exact CZ ⟨hst,.inl ⟨_,rfl,M'.firstH c nb0 hf⟩⟩
 ·rw[CM (by simpa using c)]
  refine CS (ck (by omega) ?_);have ha:=dC.mp M'.l.app;have hb:=dC.mp M'.r.app;have ha' :=M'.l.app;have e1:=wZ i1.1 i1.2;refine CS (qF (L:=b.toList.take (nb-1)) hc (by obtain⟨g,rfl⟩:=hst;exact hk) (da _ (by simp)) (by simp;omega) (fun i hi=>by rw[D9 hi,Cu,Nat.zero_add]) hb (fun x hx=>db x (D3 hx)) (by omega) fun k1 kn k2 k3=> ?_);dsimp only;have k2:=fun x hx=>Dk (zq (k2 x hx));have k3:=fun x hx=>zu (k3 x hx)
  by_cases c2:nb-1-k1>0
  ·rw[CQ c2]
   have M2:Mg (ng kf) tot (out.push (b[nb-1]'(by omega))++(b.extract k1 (nb-1)).reverse).toList (tk a na) (tk b k1):=by
    rw[DD];rw[tkp kn (by omega)]at M';refine M'.mvY fun p hp x hx' => ?_;rw[EZ,Dr,Dm,DT,<-List.drop_take]at hp;rw[e1]at hx' ha';have l1:=k3 p hp;have l2: - kf _<= - kf x:=ha'.hd hx';show-kf p<= - kf x;omega
   by_cases c3:k1=1
   ·rw[CQ (by simpa using c3)]
    exact CZ ⟨hst,.inl ⟨_,rfl,M2.firstH c3 nb0 hf⟩⟩
   ·rw[CM (by simpa using c3)]
    by_cases c4:k1=0
    ·rw[CQ (by simpa using c4)]
     exact CZ ⟨hst,.inl ⟨_,rfl,M2.doneH (.inr c4)⟩⟩
    ·rw[CM (by simpa using c4)]
     exact wz hst M2 i1 (by omega) (by simp;omega) fun y hy=>k2 y (by rw[FE,Df kn];exact Dr.mp hy)
  ·rw[CM c2]
   have:k1=nb-1:=by omega
   subst this;exact wz hst M' i1 (by omega) (by simp;omega) fun y hy=>k2 y (by rw[FE,Ea];exact Dr.mp hy)
theorem BW{n na nb mg ac bc:Nat}{out:Array Keyed}(hst:∃g,st=ba st0 g)(M:Mg (ng kf) tot out.toList (tk a na) (tk b nb))(i1:0<na/\na<=a.size)(i2:1<nb/\nb<=b.size)(hn:n<=out.size) :
  wpS (model prog w) A E s (BX a b out na nb mg ac bc) (HR kf tot a b st0 (n+1)) st:=by
 unfold BX;rw[cu];obtain⟨g,rfl⟩:=hst;refine CS (EI ?_);refine CS (ck (by omega) ?_);have hst:∃g,ba (ba st0 g) mg=ba st0 g:=⟨mg,rfl⟩;have ha:=dC.mp M.l.app;have hb' :=M.r.app;have e1:=wZ (by omega) i2.2;refine CS (qF (L:=a.toList.take na) hc hk (db _ (by simp)) (by simp;omega) (fun i hi=>by rw[D9 hi,Cu,Nat.zero_add]) ha (fun x hx=>da x (D3 hx)) (by omega) fun k1 kn k2 k3=> ?_);dsimp only;have k2:=fun x hx=>zt (k2 x hx);have k3:=fun x hx=>Dk (zr (k3 x hx))
 by_cases c2:na-k1>0
 ·rw[CQ c2]
  have M2:Mg (ng kf) tot (out++(a.extract k1 na).reverse).toList (tk a k1) (tk b nb):=by
   rw[DD];rw[tkp kn (by omega)]at M;refine M.mvX fun p hp x hx' => ?_;rw[EZ,Dr,Dm,DT,<-List.drop_take]at hp;rw[e1]at hx' hb';have l1:=k3 p hp;have l2: - kf _<= - kf x:=hb'.hd hx';show-kf p<= - kf x;omega
  by_cases c4:k1=0
  ·rw[CQ (by simpa using c4)]
   exact CZ ⟨hst,.inl ⟨_,rfl,M2.doneH (.inl c4)⟩⟩
  ·rw[CM (by simpa using c4)]
   exact xA hc hk da db nb0 hf hst M2 (by omega) i2 (by simp;omega) fun y hy=>k2 y (by rw[FE,Df kn];exact Dr.mp hy)
 ·rw[CM c2]
  have:k1=na:=by omega
  subst this;exact xA hc hk da db nb0 hf hst M i1 i2 hn fun y hy=>k2 y (by rw[FE,Ea];exact Dr.mp hy)
theorem BY{n na nb mg ac bc:Nat}{out:Array Keyed}(hst:∃g,st=ba st0 g)(M:Mg (ng kf) tot out.toList (tk a na) (tk b nb))(i1:0<na/\na<=a.size)(i2:1<nb/\nb<=b.size)(hn:n<=out.size) :
  wpS (model prog w) A E s (hi1 a b mg (none,na,nb,out,ac,bc)) (HR kf tot a b st0 (n+1)) st:=by
 unfold hi1;have i1' :na-1<a.size:=by omega
 have i2' :nb-1<b.size:=by omega
 have ha:=M.l.app;have hb:=M.r.app;have e1:=wZ (by omega) i2.2;have e2:=wZ i1.1 i1.2;refine CS (ck i2' (CS (ck i1' ?_)));refine CS (sf hc (by obtain⟨g,rfl⟩:=hst;exact hk) (db _ (by simp)) (da _ (by simp)) ?_);dsimp only
 by_cases c:kf (b[nb-1]'i2')<kf (a[na-1]'i1')
 ·rw[CQ (by simpa using c)]
  refine CS (ck i1' ?_);have M' :Mg (ng kf) tot (out.push (a[na-1]'i1')).toList (tk a (na-1)) (tk b nb):=by
   rw[De];rw[e2]at M;exact M.mvX (P:=[_]) fun p hp x hx' =>by
    rw[Cn.mp hp];rw[e1]at hx' hb;have l2: - kf _<= - kf x:=hb.hd hx';show-kf _<= - kf x;omega
  by_cases c3:na-1=0
  ·rw[CQ (by simpa using c3)]
   exact CZ ⟨hst,.inl ⟨_,rfl,M'.doneH (.inl c3)⟩⟩
  ·rw[CM (by simpa using c3)]
   have z:HQ kf tot a b st0 (n+1) none (na-1) nb (out.push (a[na-1]'i1')) st:=⟨hst,.inr ⟨rfl,M',by omega,i2,by simp;omega⟩⟩
   by_cases d:ac+1 ≥ mg
   ·rw[CQ d]
    exact CZ z
   ·rw[CM d]
    exact CZ ⟨rfl,z⟩
 ·rw[CM (by simpa using c)]
  refine CS (ck i2' ?_);have M' :Mg (ng kf) tot (out.push (b[nb-1]'i2')).toList (tk a na) (tk b (nb-1)):=by
   rw[De];rw[e1]at M;exact M.mvY (P:=[_]) fun p hp x hx' =>by
    rw[Cn.mp hp];rw[e2]at hx' ha;have l2: - kf _<= - kf x:=ha.hd hx';show-kf _<= - kf x;omega
  by_cases c3:nb-1=1
  ·rw[CQ (by simpa using c3)]
   exact CZ ⟨hst,.inl ⟨_,rfl,M'.firstH c3 nb0 hf⟩⟩
  ·rw[CM (by simpa using c3)]
   have z:HQ kf tot a b st0 (n+1) none na (nb-1) (out.push (b[nb-1]'i2')) st:=⟨hst,.inr ⟨rfl,M',i1,by omega,by simp;omega⟩⟩
   by_cases d:bc+1 ≥ mg
   ·rw[CQ d]
    exact CZ z
   ·rw[CM d]
    exact CZ ⟨rfl,z⟩
theorem BZ{n na nb mg:Nat}{out:Array Keyed}(hst:∃g,st=ba st0 g)(M:Mg (ng kf) tot out.toList (tk a na) (tk b nb))(i1:0<na/\na<=a.size)(i2:1<nb/\nb<=b.size)(hn:n<=out.size) :
  wpS (model prog w) A E s (hi0 a b (none,na,nb,out,mg)) (HD kf tot a b st0 (n+1)) st:=by
 unfold hi0;refine CS (Dt (DO (I:=fun x (c:H4) st' =>c.1=none/\HQ kf tot a b st0 (n+x) c.1 c.2.1 c.2.2.1 c.2.2.2.1 st') (Q:=fun c st' =>HQ kf tot a b st0 (n+1) c.1 c.2.1 c.2.2.1 c.2.2.2.1 st') ?_ ?_ ⟨rfl,hst,.inr ⟨rfl,M,i1,i2,hn⟩⟩) ?_)
 ·rintro x ⟨r,na,nb,out,ac,bc⟩ st' _ hx ⟨e,q,z⟩
  rcases z with⟨q,e',_⟩|⟨_,z1,z2,z3,z4⟩
  ·rw[e]at e'
   cases e'
  ·have e:r=none:=e
   subst e;refine Dt (BY hc hk da db nb0 hf q z1 z2 z3 z4) fun r st' h=> ?_;cases r with
   | done c=>exact HQ.weak h (by omega)
   | yield c=>exact h
 ·rintro c st' ⟨e,h⟩
  exact h.weak (by omega)
 ·rintro⟨r,na,nb,out,ac,bc⟩ st' ⟨q,z⟩
  rcases z with⟨r,e,z⟩|⟨e,z1,z2,z3,z4⟩
  ·have e:_=some r:=e
   subst e;exact CZ ⟨_,rfl,z,q⟩
  ·have e:r=none:=e
   subst e;refine CS (wpS_lift (Ep ⟨rfl,?_⟩));refine CS (Dt (DO (I:=fun x (c:H5) st' =>c.1=none/\HQ kf tot a b st0 (n+1) c.1 c.2.1 c.2.2.1 c.2.2.2.1 st') (Q:=fun c st' =>HQ kf tot a b st0 (n+1) c.1 c.2.1 c.2.2.1 c.2.2.2.1 st') ?_ ?_ ⟨rfl,q,.inr ⟨rfl,z1,z2,z3,z4⟩⟩) ?_)
   ·rintro x ⟨r,na,nb,out,mg,ac,bc⟩ st' _ hx ⟨e,q,z⟩
    rcases z with⟨q,e',_⟩|⟨_,z1,z2,z3,z4⟩
    ·rw[e]at e'
     cases e'
    ·have e:r=none:=e
     subst e;dsimp only
     split <;>
     ·refine Dt (BW hc hk da db nb0 hf q z1 z2 z3 z4) fun r st' h=> ?_
      cases r with
      | done c=>exact HQ.weak h (by omega)
      | yield c=>exact⟨h.1,HQ.weak h.2 (by omega)⟩
   ·rintro c st' ⟨_,h⟩
    exact h
   ·rintro⟨r,na,nb,out,mg,ac,bc⟩ st' ⟨q,z⟩
    rcases z with⟨r,e,z⟩|⟨e,z1,z2,z3,z4⟩
    ·have e:_=some r:=e
     subst e;exact CZ ⟨_,rfl,z,q⟩
    ·have e:r=none:=e
     subst e;dsimp only;rw[cu];obtain⟨g,rfl⟩:=q;exact CS (EI (CZ ⟨rfl,⟨_,rfl⟩,.inr ⟨rfl,z1,z2,z3,z4⟩⟩))
end
theorem mergeHi{a b:Array Keyed}{Q:Array Keyed->SortSt->Prop}(hc:qe prog w A s κ kf D)(hk:kindOf st=κ)(da:∀x∈a.toList,D x)(db:∀x∈b.toList,D x)(sa:eH kf a.toList)(sb:eH kf b.toList)(na:0<a.size)(nb:0<b.size)
  (hf:∀x∈a.toList,kf (b[0]'nb)<=kf x) (hl:∀y∈b.toList,kf y<=kf (a.getD (a.size-1) default)) (h:∀r g,Fi kf (a.toList++b.toList) r->Q r (ba st g)):wpS (model prog w) A E s (k6 a b) Q st:=by
 rw[kz];refine CS (wpS_lift (Ep ⟨rfl,?_⟩));refine CS (ck (by omega) ?_);have ea:tk a a.size=a.toList.reverse:=by unfold tk;rw[Db (by simp)]
 have eb:tk b b.size=b.toList.reverse:=by unfold tk;rw[Db (by simp)]
 have e1:=wZ na (CO a.size);have M:Mg (ng kf) (a.toList++b.toList) (#[a[a.size-1]'(by omega)]:Array Keyed).toList (tk a (a.size-1)) (tk b b.size):=by
  have e2:[a[a.size-1]'(by omega)]++tk a (a.size-1)=a.toList.reverse:=by rw[List.singleton_append,<-e1,ea]
  have M0:Mg (ng kf) (a.toList++b.toList) [] ([a[a.size-1]'(by omega)]++tk a (a.size-1)) (tk b b.size):=by
   rw[e2,eb];exact⟨dC.mpr sa,dC.mpr sb,by rw[List.nil_append];exact List.Perm.append (FM _) (FM _)⟩
  exact M0.mvX fun p hp x hx=>by
   rw[Cn.mp hp];rw[eb]at hx;have:=hl x (Dr.mp hx);rw[show a.getD (a.size-1) default=a[a.size-1]'(by omega)by simp[Array.getD,show a.size-1<a.size by omega]]at this;show-kf _<= - kf _;omega
 by_cases c1:a.size-1=0
 ·rw[CQ (by simpa using c1)]
  exact CZ (h _ (gallopOf st) (M.doneH (.inl c1)))
 ·rw[CM (by simpa using c1)]
  by_cases c2:b.size=1
  ·rw[CQ (by simpa using c2)]
   exact CZ (h _ (gallopOf st) (M.firstH c2 nb hf))
  ·rw[CM (by simpa using c2)]
   refine CS (FY ?_);refine CS (DO (I:=fun x (c:H3) st' =>c.1=none/\HQ kf (a.toList++b.toList) a b st (1+x) c.1 c.2.1 c.2.2.1 c.2.2.2.1 st') ?_ ?_ ⟨rfl,⟨_,rfl⟩,.inr ⟨rfl,M,⟨by show 0<a.size-1;omega,Nat.sub_le _ _⟩,⟨by show 1<b.size;omega,CO _⟩,CO _⟩⟩)
   ·rintro x ⟨r,na,nb',out,mg⟩ st' _ hx ⟨e,q,z⟩
    rcases z with⟨q,e',_⟩|⟨_,z1,z2,z3,z4⟩
    ·rw[e]at e'
     cases e'
    ·have e:r=none:=e
     subst e;refine Dt (BZ hc hk da db nb hf q z1 z2 z3 z4) fun r st' hr=> ?_;cases r with
     | done c =>
      obtain⟨r,c⟩:=c;obtain⟨q,e',f,g,rfl⟩:=hr;have e' :r=some q:=e';subst e';exact CZ (h q g f)
     | yield c=>exact hr
   ·rintro⟨r,na,nb',out,mg⟩ st' ⟨e,q,z⟩
    rcases z with⟨q,e',_⟩|⟨_,z1,z2,z3,z4⟩
    ·rw[e]at e'
     cases e'
    ·have:=z1.len
     simp[tk]at this;have z4:1+(max 0 (a.size+b.size))<=out.size:=z4;omega
end
noncomputable def nh(lo a r:Nat):SM AscSt:=forIn [a:r] ((none,a):AscSt) fun _ c=>do
 let z<-ltAt' (lo+c.2) (lo+c.2-1)
 match z with
 | some t=>if t=true then pure (.done (none,c.2))else pure (.yield (none,c.2+1))
 | none=>pure (.done (some none,c.2))
noncomputable def AI(lo n r:Nat):SM (Option Nat):=do
 reverseSlice' lo (lo+n)
 let c<-nh lo n r
 match c.1 with
 | some r=>pure r
 | none=>pure (some c.2)
noncomputable def Bo(lo n r:Nat):SM DescSt:=forIn [n:r] ((none,n,0):DescSt) fun _ c=>do
 let z<-ltAt' (lo+c.2.1) (lo+c.2.1-1)
 match z with
 | some t=>if t=true then(if c.2.2>0 then do
    reverseSlice' (lo+c.2.1-(c.2.2+1)) (lo+c.2.1)
    pure (.yield (none,c.2.1+1,0))else pure (.yield (none,c.2.1+1,0)))else do
   let z<-ltAt' (lo+c.2.1-1) (lo+c.2.1)
   match z with
   | some t=>if t=true then pure (.done (none,c.2.1,c.2.2))else pure (.yield (none,c.2.1+1,c.2.2+1))
   | none=>pure (.done (some none,c.2.1,c.2.2))
 | none=>pure (.done (some none,c.2.1,c.2.2))
noncomputable def AN(lo n r:Nat):SM (Option Nat):=do
 liftM (rule "list.sort.descending-run")
 let c<-Bo lo (n+1) r
 match c.1 with
 | some r=>pure r
 | none=>if c.2.2>0 then do
   reverseSlice' (lo+c.2.1-(c.2.2+1)) (lo+c.2.1)
   AI lo c.2.1 r else AI lo c.2.1 r
theorem zL(lo r:Nat):countRun' lo r=(do
  let c<-nh lo 1 r
  match c.1 with
  | some r=>pure r
  | none=>if(c.2==r)=true then pure (some c.2)else if c.2>1 then do
     let z<-ltAt' lo (lo+c.2-1)
     match z with
     | some t=>if t=true then pure (some c.2)else do
       reverseSlice' lo (lo+c.2)
       AN lo c.2 r
     | none=>pure none else AN lo c.2 r):=by
 rw[countRun'_eq];dsimp only;unfold nh;refine cj _ (fun x c=>Cj fun z=>by cases z<;>rfl) fun c=> ?_;cases c.1 with
 | some r=>rfl
 | none =>
  refine DH rfl (fun _=>rfl) fun _=>DH rfl (fun _=>Cj fun z=> ?_) fun _=> ?_
  ·cases z with
   | none=>rfl
   | some t =>
    refine DH rfl (fun _=>rfl) fun _=>Cj fun _=> ?_;unfold AN;refine Cj fun _=> ?_;unfold Bo;refine cj _ (fun x c=>Cj fun z=> ?_) fun c=> ?_
    ·cases z with
     | none=>rfl
     | some t =>
      refine DH rfl (fun _=>rfl) fun _=>Cj fun z=> ?_;cases z<;>rfl
    ·cases c.1 with
     | some r=>rfl
     | none =>
      refine DH rfl (fun _=>Cj fun _=> ?_) fun _=> ?_
      all_goals
       unfold AI;refine Cj fun _=> ?_;unfold nh;exact cj _ (fun x c=>Cj fun z=>by cases z<;>rfl) fun c=>by cases c.1<;>rfl
  ·unfold AN
   refine Cj fun _=> ?_;unfold Bo;refine cj _ (fun x c=>Cj fun z=> ?_) fun c=> ?_
   ·cases z with
    | none=>rfl
    | some t =>
     refine DH rfl (fun _=>rfl) fun _=>Cj fun z=> ?_;cases z<;>rfl
   ·cases c.1 with
    | some r=>rfl
    | none =>
     refine DH rfl (fun _=>Cj fun _=> ?_) fun _=> ?_
     all_goals
      unfold AI;refine Cj fun _=> ?_;unfold nh;exact cj _ (fun x c=>Cj fun z=>by cases z<;>rfl) fun c=>by cases c.1<;>rfl
section
variable{kf:Keyed->Int}
noncomputable def Kx(kf:Keyed->Int)(a:Array Keyed)(i:Nat):Int:=kf (a.getD i default)
theorem df{a b:Array Keyed}{i j:Nat}(h:a[i]? =b[j]?):Kx kf a i=Kx kf b j:=by
 unfold Kx;rw[ET,ET,h]
theorem nw{a:Array Keyed}{i j:Nat}(hj:j<=a.size)(k:Nat):Kx kf (mirror a i j ((j-i)/2)) k=if i<=k/\k<j then Kx kf a (i+j-1-k)else Kx kf a k:=by
 have e:=getElem?_mirror_all (i:=i) hj k
 by_cases c:i<=k/\k<j
 ·rw[CQ c]at e ⊢
  exact df e
 ·rw[CM c]at e ⊢
  exact df e
theorem kH{a:Array Keyed}{i j:Nat}(hj:j<=a.size)(h:∀k,i<=k->k<j->Kx kf a k=Kx kf a (j-1))(k:Nat):Kx kf (mirror a i j ((j-i)/2)) k=Kx kf a k:=by
 rw[nw hj]
 split
 ·rw[h _ (by omega) (by omega),h k (by omega) (by omega)]
 ·rfl
noncomputable def Up(kf:Keyed->Int)(a:Array Keyed)(i j:Nat):Prop:=∀x y,i<=x->x<=y->y<j->Kx kf a x<=Kx kf a y
noncomputable def Dw(kf:Keyed->Int)(a:Array Keyed)(i j:Nat):Prop:=∀x y,i<=x->x<=y->y<j->Kx kf a y<=Kx kf a x
theorem Up.more{a:Array Keyed}{i j:Nat}(h:Up kf a i j)(c:i<j->Kx kf a (j-1)<=Kx kf a j):Up kf a i (j+1):=fun x y hx xy hy=>by
 by_cases e:y<j
 ·exact h x y hx xy e
 ·have:y=j:=by omega
  subst this
  by_cases e2:x=y
  ·subst e2
   exact D6 _
  ·exact Dd (h x (y-1) hx (by omega) (by omega)) (c (by omega))
theorem Dw.more{a:Array Keyed}{i j:Nat}(h:Dw kf a i j)(c:i<j->Kx kf a j<=Kx kf a (j-1)):Dw kf a i (j+1):=fun x y hx xy hy=>by
 by_cases e:y<j
 ·exact h x y hx xy e
 ·have:y=j:=by omega
  subst this
  by_cases e2:x=y
  ·subst e2
   exact D6 _
  ·exact Dd (c (by omega)) (h x (y-1) hx (by omega) (by omega))
theorem Up.one{a:Array Keyed}{i:Nat}:Up kf a i (i+1):=fun x y hx xy hy=>by
 have:x=y:=by omega
 rw[this];exact D6 _
noncomputable def Bg(a b:Array Keyed)(lo:Nat):Prop:=b.Perm a/\∀i,i<lo->b[i]? =a[i]?
theorem Bg.refl(a:Array Keyed)(lo:Nat):Bg a a lo:=⟨Array.Perm.refl _,fun _ _=>rfl⟩
theorem Bg.trans{a b c:Array Keyed}{lo:Nat}(h:Bg a b lo)(g:Bg b c lo):Bg a c lo:=⟨g.1.trans h.1,fun i hi=>(g.2 i hi).trans (h.2 i hi)⟩
theorem Bg.mir{a:Array Keyed}{lo i j:Nat}(hi:lo<=i)(hj:j<=a.size):Bg a (mirror a i j ((j-i)/2)) lo:=⟨mirror_perm _ _ _ _,fun k hk=>by rw[getElem?_mirror_all hj,CM (by omega)]⟩
theorem Bg.size{a b:Array Keyed}{lo:Nat}(h:Bg a b lo):b.size=a.size:=h.1.size_eq
variable{prog:Program}{w:World}{A:Around}{E:Value->Shared->Prop}{s:Shared}{st:SortSt}{κ:SortKind}{D:Keyed->Prop}
theorem iG{i j:Nat}{Q:Option Bool->SortSt->Prop}(hc:qe prog w A s κ kf D)(hk:kindOf st=κ)(dA:∀x∈(arrOf st).toList,D x)(hi:i<(arrOf st).size)(hj:j<(arrOf st).size)(h:Q (some (decide (Kx kf (arrOf st) i<Kx kf (arrOf st) j))) st):wpS (model prog w) A E s (ltAt' i j) Q st:=by
 rw[ltAt'_eq];refine CS (FY (CS (ck hi (CS (ck hj (sf hc hk (dA _ (by simp)) (dA _ (by simp)) ?_))))));unfold Kx at h
 simpa [Array.getD,hi,hj]using h
theorem jN{a b:Array Keyed}(h:b.Perm a)(d:∀x∈a.toList,D x):∀x∈b.toList,D x:=fun x hx=>d x ((Array.perm_iff_toList_perm.mp h).mem_iff.mp hx)
section
variable(hc:qe prog w A s κ kf D)(hk:kindOf st=κ)
include hc hk
theorem xH{lo a r:Nat}{xs:Array Keyed}{Q:AscSt->SortSt->Prop}(dA:∀x∈xs.toList,D x)(hn:lo+r<=xs.size)(h1:1<=a)(ha:a<=r)(hs:Up kf xs lo (lo+a))
  (h:∀n,a<=n->n<=r->Up kf xs lo (lo+n)->(n=r\/Kx kf xs (lo+n)<Kx kf xs (lo+n-1))->Q (none,n) (setArr st xs)):wpS (model prog w) A E s (nh lo a r) Q (setArr st xs):=by
 unfold nh;refine DO (I:=fun x c st' =>st' =setArr st xs/\c=(none,x)/\Up kf xs lo (lo+x)) ?_ ?_ ⟨rfl,rfl,hs⟩
 ·rintro x c st' hx hr ⟨rfl,rfl,hs'⟩
  dsimp only;refine CS (iG hc hk dA (by show _<xs.size;omega) (by show _<xs.size;omega) ?_);dsimp only
  by_cases e:Kx kf xs (lo+x)<Kx kf xs (lo+x-1)
  ·rw[CQ (by simpa using e)]
   exact CZ (h x hx (by omega) hs' (.inr e))
  ·rw[CM (by simpa using e)]
   exact CZ ⟨rfl,rfl,hs'.more fun _=>Int.not_lt.mp e⟩
 ·rintro c st' ⟨rfl,rfl,hs'⟩
  rw[show max a r=r by omega]at hs' ⊢;exact h r ha (CO _) hs' (.inl rfl)
theorem AZ{lo n r:Nat}{xs:Array Keyed}{Q:Option Nat->SortSt->Prop}(dA:∀x∈xs.toList,D x)(hn:lo+r<=xs.size)(h1:1<=n)(ha:n<=r)(hs:Dw kf xs lo (lo+n))
  (h:∀m ys,1<=m->m<=r->Up kf ys lo (lo+m)->Bg xs ys lo->Q (some m) (setArr st ys)):wpS (model prog w) A E s (AI lo n r) Q (setArr st xs):=by
 unfold AI;rw[reverseSlice'_eq];refine CS (EI ?_);have hb:Bg xs (mirror xs lo (lo+n) ((lo+n-lo)/2)) lo:=Bg.mir (CO _) (by omega);refine CS (xH (xs:=mirror xs lo (lo+n) ((lo+n-lo)/2)) hc hk (jN hb.1 dA) (by rw[hb.size];exact hn) h1 ha (fun x y hx xy hy=> ?_) fun m m1 m2 m3 _=>CZ (h m _ (by omega) m2 m3 hb));rw[nw (by omega),nw (by omega),CQ (by omega),CQ (by omega)];exact hs _ _ (by omega) (by omega) (by omega)
theorem de_w{lo n r:Nat}{xs:Array Keyed}{Q:DescSt->SortSt->Prop}(dA:∀x∈xs.toList,D x)(hn:lo+r<=xs.size)(h1:1<=n)(ha:n<=r)(hs:Dw kf xs lo (lo+n))
  (h:∀m q ys,n<=m->m<=r->Dw kf ys lo (lo+m)->q+1<=m->(∀i,lo+m-(q+1)<=i->i<lo+m->Kx kf ys i=Kx kf ys (lo+m-1))->Bg xs ys lo->Q (none,m,q) (setArr st ys)):wpS (model prog w) A E s (Bo lo n r) Q (setArr st xs):=by
 unfold Bo;refine DO (I:=fun x c st' =>∃q ys,st' =setArr st ys/\c=(none,x,q)/\Dw kf ys lo (lo+x)/\q+1<=x/\(∀i,lo+x-(q+1)<=i->i<lo+x->Kx kf ys i=Kx kf ys (lo+x-1))/\Bg xs ys lo) ?_ ?_ ⟨0,xs,rfl,rfl,hs,by omega,fun i i1 i2=>by rw[show i=lo+n-1 by omega],Bg.refl _ _⟩
 ·rintro x c st' hx hr ⟨q,ys,rfl,rfl,d,q1,q2,bg⟩
  dsimp only;have z:=bg.size;have dY:=jN bg.1 dA;refine CS (iG hc hk dY (by show _<ys.size;omega) (by show _<ys.size;omega) ?_);dsimp only
  by_cases e:Kx kf ys (lo+x)<Kx kf ys (lo+x-1)
  ·rw[CQ (by simpa using e)]
   by_cases c:q>0
   ·rw[CQ c,reverseSlice'_eq]
    refine CS (EI (CZ ⟨0,_,rfl,rfl,?_,by omega,fun i i1 i2=>by rw[show i=lo+(x+1)-1 by omega],bg.trans (Bg.mir (by omega) (by show _<=ys.size;omega))⟩));have kk:=kH (kf:=kf) (i:=lo+x-(q+1)) (j:=lo+x) (a:=ys) (by omega) q2;refine Dw.more (j:=lo+x) (fun x y hx xy hy=> ?_) fun _=> ?_
    ·show Kx kf (mirror ys _ _ _) y<=Kx kf (mirror ys _ _ _) x
     rw[kk,kk];exact d x y hx xy hy
    ·show Kx kf (mirror ys _ _ _) _<=Kx kf (mirror ys _ _ _) _
     rw[kk,kk];exact Dk e
   ·rw[CM c]
    exact CZ ⟨0,ys,rfl,rfl,d.more fun _=>Dk e,by omega,fun i i1 i2=>by rw[show i=lo+(x+1)-1 by omega],bg⟩
  ·rw[CM (by simpa using e)]
   refine CS (iG hc hk dY (by show _<ys.size;omega) (by show _<ys.size;omega) ?_);dsimp only
   by_cases f:Kx kf ys (lo+x-1)<Kx kf ys (lo+x)
   ·rw[CQ (by simpa using f)]
    exact CZ (h x q ys hx (by omega) d q1 q2 bg)
   ·rw[CM (by simpa using f)]
    have eq:Kx kf ys (lo+x)=Kx kf ys (lo+x-1):=by omega
    refine CZ ⟨q+1,ys,rfl,rfl,d.more fun _=>by omega,by omega,fun i i1 i2=> ?_,bg⟩;rw[show lo+(x+1)-1=lo+x by omega,eq]
    by_cases g:i=lo+x
    ·rw[g,eq]
    ·exact q2 i (by omega) (by omega)
 ·rintro c st' ⟨q,ys,rfl,rfl,d,q1,q2,bg⟩
  rw[show max n r=r by omega]at d q1 q2 ⊢;exact h r q ys ha (CO _) d q1 q2 bg
theorem Bk{lo n r:Nat}{xs:Array Keyed}{Q:Option Nat->SortSt->Prop}(dA:∀x∈xs.toList,D x)(hn:lo+r<=xs.size)(ha:n+1<=r)(hs:Dw kf xs lo (lo+(n+1)))
  (h:∀m ys,1<=m->m<=r->Up kf ys lo (lo+m)->Bg xs ys lo->Q (some m) (setArr st ys)):wpS (model prog w) A E s (AN lo n r) Q (setArr st xs):=by
 unfold AN;refine CS (wpS_lift (Ep ⟨rfl,?_⟩));refine CS (de_w hc hk dA hn (by omega) ha hs fun m q ys m1 m2 d q1 q2 bg=> ?_);dsimp only;have z:=bg.size
 by_cases c:q>0
 ·rw[CQ c,reverseSlice'_eq]
  have b2:Bg ys (mirror ys (lo+m-(q+1)) (lo+m) ((lo+m-(lo+m-(q+1)))/2)) lo:=Bg.mir (by omega) (by omega);have kk:=kH (kf:=kf) (i:=lo+m-(q+1)) (j:=lo+m) (a:=ys) (by omega) q2;refine CS (EI (AZ (xs:=mirror ys (lo+m-(q+1)) (lo+m) ((lo+m-(lo+m-(q+1)))/2)) hc hk (jN (bg.trans b2).1 dA) (by rw[b2.size];omega) (by omega) m2 (fun x y hx xy hy=> ?_) fun k zs k1 k2 k3 k4=>h k zs k1 k2 k3 ((bg.trans b2).trans k4)));rw[kk,kk];exact d x y hx xy hy
 ·rw[CM c]
  exact AZ hc hk (jN bg.1 dA) (by omega) (by omega) m2 d fun k zs k1 k2 k3 k4=>h k zs k1 k2 k3 (bg.trans k4)
theorem v8{lo r:Nat}{xs:Array Keyed}{Q:Option Nat->SortSt->Prop}(dA:∀x∈xs.toList,D x)(hn:lo+r<=xs.size)(h1:1<=r)
  (h:∀m ys,1<=m->m<=r->Up kf ys lo (lo+m)->Bg xs ys lo->Q (some m) (setArr st ys)):wpS (model prog w) A E s (countRun' lo r) Q (setArr st xs):=by
 rw[zL];refine CS (xH hc hk dA hn (CO 1) h1 Up.one fun n n1 n2 n3 n4=> ?_);dsimp only
 by_cases e:n=r
 ·rw[CQ (by simpa using e)]
  exact CZ (h n xs n1 n2 n3 (Bg.refl _ _))
 ·rw[CM (by simpa using e)]
  have lt:=n4.resolve_left e
  by_cases g:n>1
  ·rw[CQ g]
   refine CS (iG hc hk dA (by show _<xs.size;omega) (by show _<xs.size;omega) ?_);dsimp only
   by_cases c:Kx kf xs lo<Kx kf xs (lo+n-1)
   ·rw[CQ (by simpa using c)]
    exact CZ (h n xs n1 n2 n3 (Bg.refl _ _))
   ·rw[CM (by simpa using c),reverseSlice'_eq]
    have all:∀k,lo<=k->k<lo+n->Kx kf xs k=Kx kf xs (lo+n-1):=fun k k1 k2=>by
     have a1:=n3 lo k (CO _) k1 k2;have a2:=n3 k (lo+n-1) k1 (by omega) (by omega);omega
    have kk:=kH (kf:=kf) (i:=lo) (j:=lo+n) (a:=xs) (by omega) all;have b2:Bg xs (mirror xs lo (lo+n) ((lo+n-lo)/2)) lo:=Bg.mir (CO _) (by omega);refine CS (EI (Bk (xs:=mirror xs lo (lo+n) ((lo+n-lo)/2)) hc hk (jN b2.1 dA) (by rw[b2.size];omega) (by omega) (Dw.more (j:=lo+n) (fun x y hx xy hy=> ?_) fun _=> ?_) fun k zs k1 k2 k3 k4=>h k zs k1 k2 k3 (b2.trans k4)))
    ·rw[kk,kk,all x hx (by omega),all y (by omega) hy]
     exact D6 _
    ·rw[kk,kk]
     exact Dk lt
  ·rw[CM g]
   have:n=1:=by omega
   subst this;refine Bk hc hk dA hn (by omega) (Dw.more (j:=lo+1) (fun x y hx xy hy=> ?_) fun _=>Dk lt) h;have:x=y:=by omega
   rw[this];exact D6 _
theorem Bz{lo n ok:Nat}{xs:Array Keyed}{Q:Bool->SortSt->Prop}(dA:∀x∈xs.toList,D x)(hn:lo+n<=xs.size)(h1:1<=ok)(ho:ok<=n)(hs:Up kf xs lo (lo+ok))
  (h:∀ys,Up kf ys lo (lo+n)->Bg xs ys lo->Q true (setArr st ys)):wpS (model prog w) A E s (binarySort' lo n ok) Q (setArr st xs):=by
 rw[binarySort'_eq];refine CS (Dt (DO (I:=fun k c st' =>c=(none,())/\∃ys,st' =setArr st ys/\Up kf ys lo (lo+k)/\Bg xs ys lo) (Q:=fun c st' =>c=(none,())/\∃ys,st' =setArr st ys/\Up kf ys lo (lo+n)/\Bg xs ys lo) ?_ ?_ ⟨rfl,xs,rfl,by rw[show max ok 1=ok by omega];exact hs,Bg.refl _ _⟩) ?_)
 ·rintro k c st' k1 k2 ⟨rfl,ys,rfl,u,bg⟩
  have z:=bg.size
  refine CS (Dt (DO (I:=fun x c st'' =>st'' =setArr st ys/\∃l r,c=(none,l,r)/\l<=r/\r<=k/\r-l<=k-x/\(∀i,lo<=i->i<lo+l->Kx kf ys i<=Kx kf ys (lo+k))/\(∀i,lo+r<=i->i<lo+k->Kx kf ys (lo+k)<Kx kf ys i))
   (Q:=fun c st'' =>st'' =setArr st ys/\∃l r,c=(none,l,r)/\l<=k/\(∀i,lo<=i->i<lo+l->Kx kf ys i<=Kx kf ys (lo+k))/\(∀i,lo+l<=i->i<lo+k->Kx kf ys (lo+k)<Kx kf ys i)) ?_ ?_ ⟨rfl,0,k,rfl,by omega,by omega,by omega,fun i i1 i2=>by omega,fun i i1 i2=>by omega⟩) ?_)
  ·rintro x c st'' _ hx ⟨rfl,l,r,rfl,a1,a2,a3,a4,a5⟩
   dsimp only
   by_cases g:l ≥ r
   ·rw[CQ g]
    have:l=r:=by omega
    subst this;exact CZ ⟨rfl,l,l,rfl,a2,a4,a5⟩
   ·rw[CM g]
    refine CS (iG hc hk (jN bg.1 dA) (by show _<ys.size;omega) (by show _<ys.size;omega) ?_);dsimp only
    by_cases e:Kx kf ys (lo+k)<Kx kf ys (lo+(l+r)/2)
    ·rw[CQ (by simpa using e)]
     exact CZ ⟨rfl,l,(l+r)/2,rfl,by omega,by omega,by omega,a4,fun i i1 i2=>Int.lt_of_lt_of_le e (u _ i (by omega) i1 i2)⟩
    ·rw[CM (by simpa using e)]
     exact CZ ⟨rfl,(l+r)/2+1,r,rfl,by omega,by omega,by omega,fun i i0 i1=>Dd (u i (lo+(l+r)/2) i0 (by omega) (by omega)) (Int.not_lt.mp e),a5⟩
  ·rintro c st'' ⟨rfl,l,r,rfl,a1,a2,a3,a4,a5⟩
   have:l=r:=by omega
   subst this;exact⟨rfl,l,l,rfl,a2,a4,a5⟩
  ·rintro c st'' ⟨rfl,l,r,rfl,a1,a4,a5⟩
   show wpS _ _ _ _ (do moveDown' (lo+k) (lo+l);pure (ForInStep.yield (none,()))) _ _;rw[moveDown'_eq];refine CS (EI (CZ ⟨rfl,_,rfl,?_,bg.trans ⟨bubble_perm _ _ _,fun i hi=> ?_⟩⟩))
   ·have kb:∀x,Kx kf (bubble ys (lo+k) (lo+k-(lo+l))) x=if x=lo+l then Kx kf ys (lo+k)else if lo+l<x/\x<=lo+k then Kx kf ys (x-1)else Kx kf ys x:=fun x=>by
     have e:=getElem?_bubble (xs:=ys) (src:=lo+k) (by omega) (lo+k-(lo+l)) (by omega) x;rw[show lo+k-(lo+k-(lo+l))=lo+l by omega]at e
     split at e
     ·rw[CQ (by assumption)]
      exact df e
     ·rw[CM (by assumption)]
      split at e
      ·rw[CQ (by assumption)]
       exact df e
      ·rw[CM (by assumption)]
       exact df e
    intro x y hx xy hy;show Kx kf (bubble ys (lo+k) (lo+k-(lo+l))) x<=Kx kf (bubble ys (lo+k) (lo+k-(lo+l))) y;rw[kb,kb]
    repeat' split
    all_goals first
     | (exfalso;omega)
     | exact D6 _
     | exact a4 _ (by omega) (by omega)
     | exact Dk (a5 _ (by omega) (by omega))
     | exact u _ _ (by omega) (by omega) (by omega)
   ·show(bubble ys (lo+k) (lo+k-(lo+l)))[i]? =_
    rw[getElem?_bubble (by omega) _ (by omega),CM (by omega),CM (by omega)]
 ·rintro c st' ⟨rfl,ys,rfl,u,bg⟩
  refine⟨rfl,ys,rfl,?_,bg⟩
  rwa [show max (max ok 1) n=n by omega]at u
 ·rintro c st' ⟨rfl,ys,rfl,u,bg⟩
  exact CZ (h ys u bg)
end
end
section
variable{kf:Keyed->Int}{prog:Program}{w:World}{A:Around}{E:Value->Shared->Prop}{s:Shared}{st:SortSt}{κ:SortKind}{D:Keyed->Prop}
theorem um{σ:Type}{M:Model}{Q:PUnit->σ->Prop}{st v:σ}(h:Q ⟨⟩ v):wpS M A E s (set v:StateT σ Sem PUnit) Q st:=by
 unfold wpS;rw[StateT.run_set];exact Ce ⟨rfl,h⟩
theorem lay:∀(m:List Keyed)(k sa:Nat)(a:Array Keyed)(P X S:List Keyed),a.toList=P++(X++S)->P.length=sa+k->X.length=m.length->((m.zipIdx k).foldl (fun a (x:Keyed×Nat)=>a.setIfInBounds (sa+x.2) x.1) a).toList=P++(m++S)
 | [],k,sa,a,P,X,S,e,h1,h2=>by
  have:X=[]:=EF.mp h2;subst this;exact e
 | x::m,k,sa,a,P,[],S,e,h1,h2=>by simp at h2
 | x::m,k,sa,a,P,y::X,S,e,h1,h2=>by
  rw[List.zipIdx_cons,Ey]
  have:=lay m (k+1) sa (a.setIfInBounds (sa+k) x) (P++[x]) X S (by
   rw[Array.toList_setIfInBounds,e,<-h1];simp) (by simp;omega) (by simpa using h2)
  rw[this];simp
theorem uM{a:Array Keyed}{P X S:List Keyed}(e:a.toList=P++(X++S))(i:Nat)(h:i<X.length):a[P.length+i]? =X[i]? :=by
 rw[<- Cu,e,EY (by omega),El,Dy h]
theorem oZ{a:Array Keyed}{P X S:List Keyed}(e:a.toList=P++(X++S)):(a.extract P.length (P.length+X.length)).toList=X:=by
 rw[Dm,DT,e,El,List.drop_left,List.take_left]
theorem pi{a:Array Keyed}{pd:Array (Nat×Nat×Nat)}{i pw pq:Nat}{P X Y S:List Keyed}{Q:Bool->SortSt->Prop}(hc:qe prog w A s κ kf D)(hk:kindOf st=κ)(hF:failedOf st=none)(ha:arrOf st=a)(dA:∀x∈a.toList,D x)(e:a.toList=P++(X++(Y++S)))
  (hp:pendingOf st=pd) (p1:pd[i]? =some (P.length,X.length,pw)) (p2:pd[i+1]? =some (P.length+X.length,Y.length,pq)) (nx:X≠[]) (ny:Y≠[]) (sx:eH kf X) (sy:eH kf Y)
  (h:∀b C g,b.toList=P++(C++S)->eH kf C->C.Perm (X++Y)->Q true (SortSt.mk' κ b ((pd.setIfInBounds i (P.length,X.length+Y.length,pw)).eraseIdxIfInBounds (i+1)) g none)):wpS (model prog w) A E s (mergeAt' i) Q st:=by
 subst hk ha hp;have lx:0<X.length:=EB.mpr nx;have ly:0<Y.length:=EB.mpr ny;have dX:∀x∈X,D x:=fun x hx=>dA x (by rw[e];simp[hx]);have dY:∀x∈Y,D x:=fun x hx=>dA x (by rw[e];simp[hx]);have e2:(arrOf st).toList=(P++X)++(Y++S):=by rw[e,Cp]
 have atY:=fun i hi=>uM e2 i hi;rw[CP]at atY;have atX:=fun i hi=>uM e i hi
 change wpS _ _ _ _ (_ >>= _:SM Bool) _ _
 refine CS (FY ?_);dsimp only;rw[p1,p2];dsimp only;refine CS (um ?_);have y0:=atY 0 ly;rw[Nat.add_zero,CW ly]at y0;refine CS (v7 y0 ?_);refine CS (qF (L:=X) hc rfl (dY _ (Dj ly)) rfl atX sx dX lx fun k kn k2 k3=> ?_);dsimp only;have k2:=fun x hx=>zt (k2 x hx);have k3:=fun x hx=>Dk (zr (k3 x hx));have yh:∀y∈Y,kf Y[0]<=kf y:=by
  cases Y with
  | nil=>cases ly
  | cons y Y=>exact fun z hz=>eH.hd sy hz
 have whole:(∀x∈X,∀y∈Y,kf x<=kf y)->Q true (SortSt.mk' (kindOf st) (arrOf st) (((pendingOf st).setIfInBounds i (P.length,X.length+Y.length,pw)).eraseIdxIfInBounds (i+1)) (gallopOf st) (failedOf st)):=fun q=>by
  rw[hF];exact h _ (X++Y) _ (by rw[e,Cp]) (DY.mpr ⟨sx,sy,q⟩) (Dl _)
 by_cases c:X.length-k=0
 ·rw[CQ (by simpa using c)]
  refine CZ (whole fun x hx y hy=> ?_);rw[Db (by omega)]at k2;exact Dd (k2 x hx) (yh y hy)
 ·rw[CM (by simpa using c)]
  have xl:=atX (X.length-1) (by omega);rw[CW (by omega)]at xl;rw[show P.length+k+(X.length-k)-1=P.length+(X.length-1)by omega];refine CS (v7 xl ?_);have xh:∀x∈X,kf x<=kf (X[X.length-1]'(by omega)):=fun x hx=>by
   obtain⟨j,hj,rfl⟩:=Ez hx
   rcases Nat.lt_or_ge j (X.length-1)with z|z
   ·exact FJ.mp sx j (X.length-1) hj (by omega) z
   ·have:j=X.length-1:=by omega
    subst this;exact D6 _
  refine CS (qF (L:=Y) hc rfl (dX _ (Dj _)) rfl atY sy dY (by omega) fun n nn n2 n3=> ?_);dsimp only;have n2:=fun x hx=>Dk (zq (n2 x hx));have n3:=fun x hx=>zu (n3 x hx)
  by_cases c2:n=0
  ·rw[CQ (by simpa using c2)]
   refine CZ (whole fun x hx y hy=> ?_);subst c2;exact Dd (xh x hx) (n3 y hy)
  ·rw[CM (by simpa using c2)]
   have eX:((arrOf st).extract (P.length+k) (P.length+X.length)).toList=X.drop k:=by
    have:=oZ (a:=arrOf st) (P:=P++X.take k) (X:=X.drop k) (S:=Y++S) (by rw[e,Cp,<-Cp (X.take k),Cm])
    rwa [CP,DI,EG,Df kn,show P.length+k+(X.length-k)=P.length+X.length by omega]at this
   have eY:((arrOf st).extract (P.length+X.length) (P.length+X.length+n)).toList=Y.take n:=by
    have:=oZ (a:=arrOf st) (P:=P++X) (X:=Y.take n) (S:=Y.drop n++S) (by rw[e2,<-Cp (Y.take n),Cm])
    rwa [CP,DI,Df nn]at this
   generalize hx:(arrOf st).extract (P.length+k) (P.length+X.length)=x at eX
   generalize hy:(arrOf st).extract (P.length+X.length) (P.length+X.length+n)=y at eY
   have zx:x.size=X.length-k:=by rw[<- Ci,eX,EG]
   have zy:y.size=n:=by rw[<- Ci,eY,DI,Df nn]
   have gx:x.getD (x.size-1) default=X[X.length-1]'(by omega):=by
    have:x[x.size-1]? =X[X.length-1]? :=by
     rw[<- Cu,eX,List.getElem?_drop,zx]
     congr 1
     omega
    rw[ET,this,CW (by omega)];rfl
   have ny0:0<y.size:=by omega
   have gy:y[0]'ny0=Y[0]'ly:=by
    have:y[0]? =Y[0]? :=by
     rw[<- Cu,eY,D9 (by omega)]
    rw[getElem?_pos y 0 ny0,CW ly]at this;exact Cq this
   have fin:∀r g,Fi kf (x.toList++y.toList) r->wpS (model prog w) A E s (do
     modify fun s=>setArr s (r.toList.zipIdx.foldl (fun a p=>a.setIfInBounds (P.length+k+p.2) p.1) (arrOf s))
     return(failedOf (<- get)).isNone) Q (ba (SortSt.mk' (kindOf st) (arrOf st) (((pendingOf st).setIfInBounds i (P.length,X.length+Y.length,pw)).eraseIdxIfInBounds (i+1)) (gallopOf st) (failedOf st)) g):=fun r g f=>by
    refine CS (EI (CS (FY (CZ ?_))));have pm:=f.2;rw[eX,eY]at pm
    have q:=lay r.toList 0 (P.length+k) (arrOf st) (P++X.take k) (X.drop k++Y.take n) (Y.drop n++S) (by
     rw[e]
     conv=>lhs;rw[<- Cm k X,<-Cm n Y]
     simp only[Cp]) (by rw[CP,DI,Df kn];rfl) pm.length_eq.symm
    have:=h _ (X.take k++(r.toList++Y.drop n)) g (by rw[q];simp only[Cp]) ?_ ?_
    ·rw[hF]
     exact this
    ·refine DY.mpr ⟨Ev (FL _ _) sx,DY.mpr ⟨f.1,Ev (List.drop_sublist _ _) sy,fun a ha b hb=> ?_⟩,fun a ha b hb=> ?_⟩
     ·have:=pm.mem_iff.mp ha
      rcases DB.mp this with z|z
      ·exact Dd (xh a (D4 z)) (n3 b hb)
      ·exact Dd (n2 a z) (n3 b hb)
     ·rcases DB.mp hb with z|z
      ·rcases DB.mp (pm.mem_iff.mp z)with z|z
       ·rw[<- Cm k X]at sx
        exact(DY.mp sx).2.2 a ha b z
       ·exact Dd (k2 a ha) (yh b (D3 z))
      ·exact Dd (k2 a ha) (yh b (D4 z))
    ·refine List.Perm.trans (Dx _ (List.Perm.append_right _ pm)) ?_
     conv=>rhs;rw[<- Cm k X,<-Cm n Y]
     simp only[Cp];exact Dl _
   have dx:∀z∈x.toList,D z:=fun z hz=>dX z (by rw[eX]at hz;exact D4 hz);have dy:∀z∈y.toList,D z:=fun z hz=>dY z (by rw[eY]at hz;exact D3 hz);have ax:eH kf x.toList:=by rw[eX];exact Ev (List.drop_sublist _ _) sx
   have ay:eH kf y.toList:=by rw[eY];exact Ev (FL _ _) sy
   have hf:∀z∈x.toList,kf (y[0]'ny0)<=kf z:=fun z hz=>by rw[gy];exact k3 z (by rwa [eX]at hz)
   have hl:∀z∈y.toList,kf z<=kf (x.getD (x.size-1) default):=fun z hz=>by rw[gx];exact n2 z (by rwa [eY]at hz)
   by_cases c3:X.length-k<=n
   ·rw[CQ c3]
    exact CS (mergeLo hc rfl dx dy ax ay (by omega) ny0 hf hl fin)
   ·rw[CM c3]
    exact CS (mergeHi hc rfl dx dy ax ay (by omega) ny0 hf hl fin)
end
noncomputable def fY:Nat->List (List Keyed)->List (Nat×Nat)
 | _,[]=>[]
 | o,R::t=>(o,R.length)::fY (o+R.length) t
theorem eo:∀(o:Nat)(R1 R2:List (List Keyed)),fY o (R1++R2)=fY o R1++fY (o+R1.flatten.length) R2
 | o,[],R2=>by simp[fY]
 | o,R::t,R2=>by
  show(o,R.length)::fY (o+R.length) (t++R2)=_;rw[eo];simp[fY,Nat.add_assoc]
theorem iF:∀(o:Nat)(R:List (List Keyed)),(fY o R).length=R.length
 | _,[]=>rfl
 | o,_::t=>by simp[fY,iF _ t]
noncomputable abbrev pm(p:Array (Nat×Nat×Nat)):List (Nat×Nat):=p.toList.map fun r=>(r.1,r.2.1)
section
variable{kf:Keyed->Int}{κ:SortKind}
structure Inv(kf:Keyed->Int)(κ:SortKind)(a₀:List Keyed)(st:SortSt)(RS:List (List Keyed))(aJ:List Keyed):Prop where
 kind:kindOf st=κ
 fail:failedOf st=none
 arr:(arrOf st).toList=RS.flatten++aJ
 perm:(RS.flatten++aJ).Perm a₀
 pd:pm (pendingOf st)=fY 0 RS
 asc:∀R∈RS,eH kf R/\R≠[]
theorem Inv.len{a₀:List Keyed}{st:SortSt}{RS:List (List Keyed)}{aJ:List Keyed}(I:Inv kf κ a₀ st RS aJ):(pendingOf st).size=RS.length:=by
 have:=Da List.length I.pd
 rwa [CI,Ci,iF]at this
theorem sd:∀{RS:List (List Keyed)},(∀R∈RS,R≠[])->RS.length<=RS.flatten.length
 | [],_=>CO _
 | R::t,h=>by
  have h1:=EB.mpr (h R Cd);have h2:=sd fun R hR=>h R (CV _ hR);simp;simp at h2;omega
theorem two{α:Type}{l:List α}{i:Nat}(h:i+1<l.length):∃l1 x y l2,l=l1++x::y::l2/\l1.length=i :=
 ⟨l.take i,l[i],l[i+1],l.drop (i+2),by rw[<- DU h,<-DU (by omega),Cm],by simp;omega⟩
variable{prog:Program}{w:World}{A:Around}{E:Value->Shared->Prop}{s:Shared}{st:SortSt}{D:Keyed->Prop}{a₀:List Keyed}{RS:List (List Keyed)}{aJ:List Keyed}
theorem Inv.merge{i:Nat}{Q:Bool->SortSt->Prop}(I:Inv kf κ a₀ st RS aJ)(hc:qe prog w A s κ kf D)(d0:∀x∈a₀,D x)(hi:i+1<RS.length)(h:∀st' RS',Inv kf κ a₀ st' RS' aJ->RS'.flatten.length=RS.flatten.length->RS'.length+1=RS.length->Q true st'):wpS (model prog w) A E s (mergeAt' i) Q st:=by
 obtain⟨R1,X,Y,R2,rfl,hl⟩:=two hi;have pd:=I.pd;rw[eo,Nat.zero_add]at pd;obtain⟨q1,q',e1,e2,e3⟩:=List.map_eq_append_iff.mp pd;obtain⟨⟨sa,na,pw⟩,q'',rfl,e4,e5⟩:=EX.mp e3;obtain⟨⟨sb,nb,pq⟩,q2,rfl,e6,e7⟩:=EX.mp e5;cases e4;cases e6;have l1:q1.length=i:=by rw[<- hl,<-iF 0 R1,<-e2,CI]
 have dA:∀x∈(arrOf st).toList,D x:=fun x hx=>d0 x (by rw[I.arr]at hx;exact I.perm.mem_iff.mp hx);refine pi (P:=R1.flatten) (X:=X) (Y:=Y) (S:=R2.flatten++aJ) (pw:=pw) (pq:=pq) hc I.kind I.fail rfl dA (by rw[I.arr];simp) rfl (by rw[<- Cu,e1,<-l1];simp) (by rw[<- Cu,e1,<-l1];simp) (I.asc X (by simp)).2 (I.asc Y (by simp)).2 (I.asc X (by simp)).1 (I.asc Y (by simp)).1 fun b C g b1 b2 b3=> ?_;refine h _ (R1++C::R2) ⟨rfl,rfl,by simpa using b1,?_,?_,fun R hR=> ?_⟩ ?_ (by simp;omega)
 ·refine List.Perm.trans ?_ I.perm
  simp only[Eg,Cz,Cp];refine Dx _ ?_;rw[<- Cp X];exact List.Perm.append_right _ b3
 ·show List.map _ ((((pendingOf st).setIfInBounds i (R1.flatten.length,X.length+Y.length,pw)).eraseIdxIfInBounds (i+1)).toList)=_
  have:(((pendingOf st).setIfInBounds i (R1.flatten.length,X.length+Y.length,pw)).eraseIdxIfInBounds (i+1)).toList=q1++(R1.flatten.length,X.length+Y.length,pw)::q2:=by
   rw[Array.eraseIdxIfInBounds_eq,dif_pos (by rw[Array.size_setIfInBounds,<-Ci,e1];simp;omega),Array.toList_eraseIdx,Array.toList_setIfInBounds,e1,<-l1];simp[List.eraseIdx_append_of_length_le]
  rw[this,DQ,Cc,e2,e7,eo,Nat.zero_add];show _=fY 0 R1++(_,C.length)::fY _ R2;rw[b3.length_eq,CP,Nat.add_assoc]
 ·rcases DB.mp hR with z|z
  ·exact I.asc R (by simp[z])
  ·rcases Ca.mp z with z|z
   ·subst z
    refine⟨b2,fun z=> ?_⟩;subst z;have:=b3.length_eq;have:=EB.mpr (I.asc X (by simp)).2;simp at *;omega
   ·exact I.asc R (by simp[z])
 ·have:=b3.length_eq
  simp at this ⊢;omega
theorem qx{a:Array Keyed}{P R:List Keyed}{m:Nat}(e:a.toList=P++R)(hm:m<=R.length)(u:Up kf a P.length (P.length+m)):eH kf (R.take m):=by
 have k:∀i (hi:i<R.length),Kx kf a (P.length+i)=kf R[i]:=fun i hi=>by
  unfold Kx;rw[ET,<-Cu,e,EY (by omega),El,CW hi];rfl
 refine FJ.mpr fun i j hi hj ij=> ?_;rw[DI]at hi hj;rw[List.getElem_take,List.getElem_take,<-k i (by omega),<-k j (by omega)];exact u _ _ (by omega) (by omega) (by omega)
theorem Bg.tl{a b:Array Keyed}{P R:List Keyed}(e:a.toList=P++R)(h:Bg a b P.length):∃R',b.toList=P++R' /\R'.Perm R:=by
 have l:b.toList.take P.length=P:=by
  refine FP fun i=> ?_
  by_cases c:i<P.length
  ·rw[D9 c,Cu,h.2 i c,<-Cu,e,Dy c]
  ·rw[Dv (by simp;omega),Dv (by omega)]
 have z:=Cm P.length b.toList;rw[l]at z;refine⟨_,z.symm,?_⟩;have p:=Array.perm_iff_toList_perm.mp h.1;rw[e,<-z]at p;exact(List.perm_append_left_iff P).mp p
theorem Inv.laid(I:Inv kf κ a₀ st RS aJ){b:Array Keyed}(h:Bg (arrOf st) b RS.flatten.length):∃rest',Inv kf κ a₀ (setArr st b) RS rest' /\rest'.length=aJ.length:=by
 obtain⟨R',e,p⟩:=h.tl I.arr;exact⟨R',⟨I.kind,I.fail,e,(Dx _ p).trans I.perm,I.pd,I.asc⟩,p.length_eq⟩
theorem ile{c:Prop}[Decidable c]{n:Nat}:(if c then n-1 else n)+1<n+2:=by split<;>omega
theorem Inv.push{n:Nat}(I:Inv kf κ a₀ st RS aJ)(h:eH kf (aJ.take n))(h1:1<=n)(h2:n<=aJ.length):Inv kf κ a₀ (setPending st ((pendingOf st).push (RS.flatten.length,n,0))) (RS++[aJ.take n]) (aJ.drop n):=by
 have e:(RS++[aJ.take n]).flatten++aJ.drop n=RS.flatten++aJ:=by simp
 refine⟨I.kind,I.fail,by rw[e];exact I.arr,by rw[e];exact I.perm,?_,fun R hR=> ?_⟩
 ·show List.map _ ((pendingOf st).push _).toList=_
  rw[De,DQ,eo,Nat.zero_add,<-I.pd];simp[fY,Df h2]
 ·rcases DB.mp hR with z|z
  ·exact I.asc R z
  ·rw[Cn.mp z]
   exact⟨h,EB.mp (by simp;omega)⟩
theorem Inv.pow{i pw:Nat}(I:Inv kf κ a₀ st RS aJ){f:Nat×Nat×Nat->Nat×Nat×Nat}(hf:∀x,((f x).1,(f x).2.1)=(x.1,x.2.1)):Inv kf κ a₀ (setPending st ((pendingOf st).modify i f)) RS aJ:=by
 refine⟨I.kind,I.fail,I.arr,I.perm,?_,I.asc⟩;rw[<- I.pd];show List.map _ ((pendingOf st).modify i f).toList=_;rw[Array.toList_modify];refine FP fun j=> ?_;rw[Cb,Cb,List.getElem?_modify];cases(pendingOf st).toList[j]? with
 | none=>rfl
 | some x =>
  by_cases c:i=j
  ·simp[c,hf]
  ·simp[c]
theorem xg{Q:Unit->SortSt->Prop}(hc:qe prog w A s κ kf D)(d0:∀x∈a₀,D x)(hk:kindOf st=κ)(hF:failedOf st=none)(ha:(arrOf st).toList=a₀)(hp:pendingOf st= #[])
  (h:∀st',failedOf st' =none->(arrOf st').toList.Perm a₀->eH kf (arrOf st').toList->Q () st'):wpS (model prog w) A E s sortRuns' Q st:=by
 have hz:(arrOf st).size=a₀.length:=by rw[<- ha,Ci]
 rw[sortRuns'_eq];refine CS (FY ?_);dsimp only;rw[hz]
 generalize minRun' a₀.length a₀.length 0=mr
 have dI:∀{st:SortSt}{RS:List (List Keyed)}{aJ:List Keyed},Inv kf κ a₀ st RS aJ->∀x∈(arrOf st).toList,D x:=fun I x hx=>d0 x (by rw[I.arr]at hx;exact I.perm.mem_iff.mp hx);have lI:∀{st:SortSt}{RS:List (List Keyed)}{aJ:List Keyed},Inv kf κ a₀ st RS aJ->RS.flatten.length+aJ.length=a₀.length/\(arrOf st).size=a₀.length:=fun I=>by
  have:=I.perm.length_eq;rw[CP]at this;exact⟨this,by rw[<- Ci,I.arr,CP,this]⟩
 refine CS (Dt (DO (I:=fun x c st' =>∃RS aJ lo,c=(none,lo)/\Inv kf κ a₀ st' RS aJ/\RS.flatten.length=lo/\x<=lo)
  (Q:=fun c st' =>∃RS,c=(none,a₀.length)/\Inv kf κ a₀ st' RS []) ?_ ?_ ⟨[],a₀,0,rfl,⟨hk,hF,ha,Dl _,by rw[hp];rfl,fun R hR=>by cases hR⟩,rfl,CO _⟩) ?_)
 ·rintro x c st' _ hx ⟨RS,aJ,lo,rfl,I,rfl,hl⟩
  dsimp only;obtain⟨l1,l2⟩:=lI I
  by_cases ge:RS.flatten.length ≥ a₀.length
  ·rw[CQ ge]
   have:aJ=[]:=EF.mp (by omega);subst this;have l1:RS.flatten.length+0=a₀.length:=l1;exact CZ ⟨RS,by rw[<- l1];rfl,I⟩
  ·rw[CM ge]
   refine CS (v8 (st:=st') (xs:=arrOf st') hc I.kind (dI I) (by omega) (by omega) fun m ys m1 m2 m3 bg=> ?_);dsimp only;obtain⟨r2,I2,z2⟩:=I.laid bg
   have fin:∀{st:SortSt}{n:Nat}{RS' :List (List Keyed)}{aJ:List Keyed},Inv kf κ a₀ st RS' aJ->RS'.flatten.length=RS.flatten.length->eH kf (aJ.take n)->1<=n->n<=aJ.length->wpS (model prog w) A E s (do
     modify fun s=>setPending s ((pendingOf s).push (RS.flatten.length,n,0))
     pure (ForInStep.yield ((none:Option Unit),RS.flatten.length+n))) (fun r st' =>match r with| .done c=>∃RS,c=(none,a₀.length)/\Inv kf κ a₀ st' RS []| .yield c=>∃RS aJ lo,c=(none,lo)/\Inv kf κ a₀ st' RS aJ/\RS.flatten.length=lo/\x+1<=lo) st:=fun{st n RS' aJ} I e u n1 n2=>by
    have:=I.push u n1 n2;rw[e]at this;refine CS (EI (CZ ⟨_,_,_,rfl,this,?_,by omega⟩));simp only[Eg,CP,e];simp[Df n2]
   by_cases c:m<mr
   ·rw[CQ c]
    refine CS (wpS_lift (Ep ⟨rfl,?_⟩));obtain⟨l3,l4⟩:=lI I2;refine CS (Bz (st:=st') (xs:=ys) hc I.kind (dI I2) (by rw[show ys.size=_ from l4];omega) m1 (by omega) m3 fun zs u b2=> ?_);obtain⟨r3,I3,z3⟩:=I2.laid b2;have u:eH kf (r3.take (min (a₀.length-RS.flatten.length) mr)):=qx I3.arr (by omega) u;rw[CM (by simp)];have n1:1<=min (a₀.length-RS.flatten.length) mr:=by omega
    have n2:min (a₀.length-RS.flatten.length) mr<=r3.length:=by omega
    generalize min (a₀.length-RS.flatten.length) mr=n at u n1 n2 ⊢
    refine CS (FY ?_);cases hb:(pendingOf (setArr st' _)).back? with
    | none=>exact Dt (fin I3 rfl u n1 n2) fun r st' h=>by cases r<;>exact h
    | some r =>
     obtain⟨s1,k1,p1⟩:=r;dsimp only;refine CS (Dt (DO (I:=fun x c st' =>c=(none,())/\∃RS',Inv kf κ a₀ st' RS' r3/\RS'.flatten.length=RS.flatten.length) (Q:=fun c st' =>c=(none,())/\∃RS',Inv kf κ a₀ st' RS' r3/\RS'.flatten.length=RS.flatten.length) ?_ ?_ ⟨rfl,RS,I3,rfl⟩) ?_)
     ·rintro x c st4 _ hx ⟨rfl,RS4,I4,e4⟩
      refine CS (FY ?_)
      by_cases c:(pendingOf st4).size>1
      ·rw[CQ c]
       cases(pendingOf st4)[(pendingOf st4).size-2]? with
       | none=>exact CZ ⟨rfl,RS4,I4,e4⟩
       | some r =>
        dsimp only
        by_cases d:r.2.2<=power' a₀.length (2*s1+k1) (2*s1+k1+k1+n) a₀.length
        ·rw[CQ d]
         exact CZ ⟨rfl,RS4,I4,e4⟩
        ·rw[CM d]
         refine CS (I4.merge hc d0 (by rw[I4.len]at c ⊢;omega) fun st5 RS5 I5 f5 _=> ?_);rw[CM (by simp)];exact CZ ⟨rfl,RS5,I5,by omega⟩
      ·rw[CM c]
       exact CZ ⟨rfl,RS4,I4,e4⟩
     ·exact fun c st4 h=>h
     ·rintro c st4 ⟨rfl,RS4,I4,e4⟩
      dsimp only;refine CS (EI ?_);exact Dt (fin (I4.pow (pw:=0) fun _=>rfl) e4 u n1 n2) fun r st' h=>by cases r<;>exact h
   ·rw[CM c]
    have u:eH kf (r2.take m):=qx I2.arr (by omega) m3;have I3:=I2;have n1:=m1;have n2:m<=r2.length:=by omega
    refine CS (FY ?_);cases hb:(pendingOf (setArr st' _)).back? with
    | none=>exact Dt (fin I3 rfl u n1 n2) fun r st' h=>by cases r<;>exact h
    | some r =>
     obtain⟨s1,k1,p1⟩:=r;dsimp only;refine CS (Dt (DO (I:=fun x c st' =>c=(none,())/\∃RS',Inv kf κ a₀ st' RS' r2/\RS'.flatten.length=RS.flatten.length) (Q:=fun c st' =>c=(none,())/\∃RS',Inv kf κ a₀ st' RS' r2/\RS'.flatten.length=RS.flatten.length) ?_ ?_ ⟨rfl,RS,I3,rfl⟩) ?_)
     ·rintro x c st4 _ hx ⟨rfl,RS4,I4,e4⟩
      refine CS (FY ?_)
      by_cases c:(pendingOf st4).size>1
      ·rw[CQ c]
       cases(pendingOf st4)[(pendingOf st4).size-2]? with
       | none=>exact CZ ⟨rfl,RS4,I4,e4⟩
       | some r =>
        dsimp only
        by_cases d:r.2.2<=power' a₀.length (2*s1+k1) (2*s1+k1+k1+m) a₀.length
        ·rw[CQ d]
         exact CZ ⟨rfl,RS4,I4,e4⟩
        ·rw[CM d]
         refine CS (I4.merge hc d0 (by rw[I4.len]at c ⊢;omega) fun st5 RS5 I5 f5 _=> ?_);rw[CM (by simp)];exact CZ ⟨rfl,RS5,I5,by omega⟩
      ·rw[CM c]
       exact CZ ⟨rfl,RS4,I4,e4⟩
     ·exact fun c st4 h=>h
     ·rintro c st4 ⟨rfl,RS4,I4,e4⟩
      dsimp only;refine CS (EI ?_);exact Dt (fin (I4.pow (pw:=0) fun _=>rfl) e4 u n1 n2) fun r st' h=>by cases r<;>exact h
 ·rintro c st' ⟨RS,aJ,lo,rfl,I,rfl,hx⟩
  obtain⟨l1,-⟩:=lI I;have:aJ=[]:=EF.mp (by omega);subst this;simp at l1;refine⟨RS,?_,I⟩;rw[<- l1];simp
 ·rintro c st' ⟨RS,rfl,I⟩
  dsimp only;obtain⟨l1,-⟩:=lI I;have l2:=sd fun R hR=>(I.asc R hR).2;have fin:∀{st:SortSt}{RS:List (List Keyed)},Inv kf κ a₀ st RS []->RS.length<=1->Q () st:=fun{st RS} I l=>by
   have pe:=I.perm;have ar:=I.arr;rw[DL]at pe ar;refine h st I.fail (by rw[ar];exact pe) ?_;rw[ar]
   match RS,l,I with
   | [],_,_=>exact .nil
   | [R],_,I =>
    have:=(I.asc R (by simp)).1
    simpa using this
   | _::_::_,l,_=>simp at l
  refine CS (DO (I:=fun x c st' =>∃RS,c=(none,())/\Inv kf κ a₀ st' RS []/\RS.length+x<=a₀.length+1) ?_ ?_ ⟨RS,rfl,I,by have l1:RS.flatten.length+0=a₀.length:=l1;omega⟩)
  ·rintro x c st' _ hx ⟨RS,rfl,I,lx⟩
   refine CS (FY ?_);rw[I.len]
   by_cases c:RS.length<=1
   ·rw[CQ c]
    exact CZ (CZ (fin I c))
   ·rw[CM c]
    refine CS (I.merge hc d0 (C0 ile (show RS.length-2+2<=RS.length by omega)) fun st2 RS2 I2 _ e2=> ?_);rw[CM (by simp)];exact CZ ⟨RS2,rfl,I2,by omega⟩
  ·rintro c st' ⟨RS,rfl,I,lx⟩
   exact CZ (fin I (by omega))
end
end TS
set_option genInjectivity false
namespace IR
open PySem
noncomputable abbrev bA:=L2.bA
inductive PV where
 | non|bl (b:Bool)|int (i:Int)|str (z:Str)|lst (xs:List PV)|tup (xs:List PV)|dK (ks:List bA) (vs:List PV)|dT (ks:List (List bA)) (vs:List PV)
instance:Inhabited PV:=⟨.non⟩
mutual
noncomputable def imm:PV->Bool
 | .non=>true| .bl _=>true| .int _=>true| .str _=>true
 | .lst _=>false
 | .tup xs=>imms xs
 | .dK _ _=>false| .dT _ _=>false
noncomputable def imms:List PV->Bool
 | []=>true
 | x::xs=>imm x&&imms xs
end
inductive Bf where
 | len|int|str|list|tuple|sorted|min|max|sum|abs|all|any|lrange|lrange2|isin (t:String)|sumv|sset|lset|trev|lvals
inductive Bm where
 | join|split|count|index|get|jrev
mutual
inductive IE where
 | con (v:PV)|var (i:Nat)|bin (op:Operator) (a b:IE)|neg (a:IE)|cmp (op:CmpOp) (a b:IE)
 | and (a b:IE)|or (a b:IE)|not (a:IE)|ite (c:IC) (a b:IE)
 | call (f:Nat) (es:ue)|bf (f:Bf) (es:ue)|mth (m:Bm) (o:IE) (es:ue)
 | lst (es:ue)|tup (es:ue)|dnew|dlit (k:bA) (e:IE)|ix (a i:IE)|sl (a:IE) (lo hi:IO)
 | lc (elt:IE) (src:IT) (ifs:CD) (caps:List Nat)|never
inductive ue where
 | nil|cons (e:IE) (es:ue)
inductive IO where
 | no|yes (e:IE)
inductive IC where
 | val (e:IE)|not (c:IC)|and (c d:IC)|or (c d:IC)
inductive CD where
 | no|yes (c:IC)
inductive IT where
 | seq (e:IE)|rng (es:ue)|zip (a b:IE)|enum (a:IE)|never
end
mutual
inductive IS where
 | asg (i:Nat) (o:Bool) (cap:List Nat) (e:IE)|ret (cap:List Nat) (e:IE)|retN|ife (c:IC) (a b:qb)
 | forr (is:List Nat) (one:Bool) (cap:List Nat) (src:IT) (body:qb)|whil (c:IC) (body:qb)|pass|brk|cont
 | app (i:Nat) (cap:List Nat) (e:IE)|ins (i:Nat) (k e:IE)|drop (e:IE)|ext (i:Nat) (e:IE)|hand (m:Nat) (g:List PV->Option PV)|never
inductive qb where
 | nil|cons (s:IS) (ss:qb)
end
inductive Bd where
 | lst|dK (ks:List bA)|dT (ks:List (List bA))
noncomputable def Bd.pv:Bd->List PV->PV
 | .lst,xs=>.lst xs
 | .dK ks,xs=>.dK ks xs
 | .dT ks,xs=>.dT ks xs
section
variable{κ α:Type}[DecidableEq κ]
noncomputable def gK:List κ->List α->κ->Option α
 | k' ::ks,x::xs,k=>if k' =k then some x else gK ks xs k
 | _,_,_=>none
noncomputable def As:List κ->List α->κ->α->List α
 | k' ::ks,x::xs,k,y=>(if k' =k then y else x)::As ks xs k y
 | _,xs,_,_=>xs
noncomputable def putL(ks:List κ)(xs:List α)(k:κ)(y:α):List α:=if k∈ks then As ks xs k y else xs++[y]
noncomputable def A1(ks:List κ)(k:κ):List κ:=if k∈ks then ks else ks++[k]
end
noncomputable def fC:PV->Option bA
 | .int i=>some (.inl i)
 | .str z=>some (.inr z)
 | _=>none
noncomputable def sv:List PV->Option (List bA)
 | []=>some []
 | x::xs=>(fC x).bind fun k=>(sv xs).map (k::·)
inductive TV where
 | un|frz (v:PV) (n:Bool)|own (xs:List PV) (n:Bool)|owd (b:Bd) (xs:List PV) (n:Bool)
noncomputable def TV.ob:TV->Option (Bd×List PV×Bool)
 | .own xs n=>some (.lst,xs,n)
 | .owd b xs n=>some (b,xs,n)
 | _=>none
noncomputable abbrev En:=List TV
noncomputable def TV.valD:TV->PV
 | .frz v _=>v
 | _=>.non
inductive RV where
 | frz (v:PV) (n:Bool)|bor (v:PV)|own (xs:List PV) (n:Bool)|owd (b:Bd) (xs:List PV) (n:Bool)
noncomputable def RV.val:RV->PV
 | .frz v _=>v
 | .bor v=>v
 | .own xs _=>.lst xs
 | .owd b xs _=>b.pv xs
noncomputable abbrev sc(v:PV):RV:=.frz v true
noncomputable def RV.keep:RV->Option (PV×Bool)
 | .frz v n=>some (v,n)
 | .bor v=>if imm v then some (v,true)else none
 | .own xs n=>some (.lst xs,n)
 | .owd b xs n=>some (b.pv xs,n)
noncomputable def gC(v:PV):RV:=if imm v then .frz v true else .bor v
noncomputable def RV.its:RV->Option (List PV×Bool)
 | .frz (.lst xs) n=>some (xs,n)
 | .frz (.tup xs) n=>some (xs,n)
 | .own xs n=>some (xs,n)
 | .bor (.lst xs)=>if imms xs then some (xs,true)else none
 | .bor (.tup xs)=>if imms xs then some (xs,true)else none
 | _=>none
noncomputable abbrev LN:Nat:=16777216
open L2 (tF dc)
noncomputable def signs(z:Str):List PV:=z.cps.toList.map fun c=>.str ⟨#[c]⟩
noncomputable def gN(xs:List PV)(n:Bool):Option RV:=if xs.length<=LN then some (.own xs n)else none
noncomputable def kq(xs:List PV)(n:Bool):Option RV:=if xs.length<=LN then some (.frz (.tup xs) n)else none
noncomputable def nZ(a b:RV):Option RV :=
 match a.val,b.val with
 | .int i,.int j=>some (sc (.int (i+j)))
 | .str x,.str y=>if x.length+y.length<=LN then some (sc (.str (x++y)))else none
 | .lst _,.lst _=>match a.its,b.its with
  | some (xs,n),some (ys,m)=>gN (xs++ys) (n&&m)
  | _,_=>none
 | .tup _,.tup _=>match a.its,b.its with
  | some (xs,n),some (ys,m)=>kq (xs++ys) (n&&m)
  | _,_=>none
 | _,_=>none
noncomputable def nX(a b:RV):Option RV :=
 match a.val,b.val with
 | .int i,.int j=>some (sc (.int (i-j)))
 | _,_=>none
noncomputable def kE(a b:RV):Option RV :=
 match a.val,b.val with
 | .int i,.int j=>if(-(2^64)<i/\i<2^64)\/(-(2^64)<j/\j<2^64)then some (sc (.int (i*j)))else if i.natAbs<2^2000/\j.natAbs<2^2000 then some (sc (.int (i*j)))else none
 | .lst _,.int k=>match a with
  | .own xs n=>if 0<=k/\k<=1000000/\xs.length*k.toNat<=LN then some (.own (List.replicate k.toNat xs).flatten n)else none
  | _=>none
 | .tup _,.int k=>match a.its with
  | some (xs,n)=>if 2<=k/\k<=8/\xs.length=1 then kq (List.replicate k.toNat xs).flatten n else none
  | none=>none
 | .str z,.int k=>if 0<=k/\k<=1000/\z.length<=16 then some (sc (.str ⟨(List.replicate k.toNat z.cps.toList).flatten.toArray⟩))else none
 | _,_=>none
noncomputable def dZ(a b:RV):Option RV :=
 match a.val,b.val with
 | .int i,.int j=>if 0<j/\j<2^200 then some (sc (.int (i/j)))else none
 | _,_=>none
noncomputable def nY(a b:RV):Option RV :=
 match a.val,b.val with
 | .int i,.int j=>if 0<j then some (sc (.int (i%j)))else none
 | _,_=>none
noncomputable def fm(a b:RV):Option RV :=
 match a.val,b.val with
 | .int i,.int j=>if 0<=j/\j<=1000000/\i.natAbs<2^64 then some (sc (.int (i*2^j.toNat)))else none
 | _,_=>none
noncomputable def dU(op:Operator)(a b:RV):Option RV:=match op with
 | .Add=>nZ a b
 | .Sub=>nX a b
 | .Mult=>kE a b
 | .FloorDiv=>dZ a b
 | .Mod=>nY a b
 | .LShift=>fm a b
 | _=>none
noncomputable def eqs:PV->PV->Option Bool
 | .int i,.int j=>some (decide (i=j))
 | .str i,.str j=>some (decide (i=j))
 | .bl i,.bl j=>some (decide (i=j))
 | .non,.non=>some true
 | .non,.int _=>some false| .non,.bl _=>some false| .non,.str _=>some false| .int _,.non=>some false| .bl _,.non=>some false| .str _,.non=>some false
 | .int _,.str _=>some false| .str _,.int _=>some false| .bl _,.str _=>some false| .str _,.bl _=>some false
 | _,_=>none
noncomputable def eqf:PV->PV->Bool
 | .int i,.int j=>decide (i=j)
 | .str i,.str j=>decide (i=j)
 | .bl i,.bl j=>decide (i=j)
 | .bl b,.int j=>decide ((if b then 1 else 0:Int)=j)
 | .int j,.bl b=>decide (j=(if b then 1 else 0:Int))
 | .non,.non=>true
 | _,_=>false
mutual
noncomputable def fN:PV->PyData
 | .non=>.none
 | .bl b=>.bool b
 | .int i=>.int i
 | .str z=>.str z
 | .lst xs=>.list (be xs)
 | .tup xs=>.tuple (be xs)
 | .dK _ _=>.dict []
 | .dT _ _=>.dict []
noncomputable def be:List PV->List PyData
 | []=>[]
 | x::xs=>fN x::be xs
end
mutual
noncomputable def qH:PV->PV->Bool
 | .lst xs,.lst ys=>nF xs ys
 | .tup xs,.tup ys=>nF xs ys
 | a,b=>eqf a b
noncomputable def nF:List PV->List PV->Bool
 | [],[]=>true
 | x::xs,y::ys=>qH x y&&nF xs ys
 | [],_::_=>false
 | _::_,[]=>false
end
noncomputable def eE:Nat->PV->Bool
 | _,.non=>true
 | _,.bl _=>true
 | _,.int _=>true
 | _,.str z=>PyData.strOk z
 | 0,.lst _=>false
 | 0,.tup _=>false
 | n+1,.lst xs=>xs.all (eE n)
 | n+1,.tup xs=>xs.all (eE n)
 | _,.dK _ _=>false
 | _,.dT _ _=>false
noncomputable def xB(x y:PV):Option Bool:=match eqs x y with
 | some b=>some b
 | none=>if eE 12 x&&eE 12 y then some (qH x y)else none
mutual
noncomputable def Bt(f:Int->Int->Bool)(g:Nat->Nat->Bool):PV->PV->Option Bool
 | .int i,.int j=>some (f i j)
 | .tup xs,.tup ys=>qN f g xs ys
 | _,_=>none
noncomputable def qN(f:Int->Int->Bool)(g:Nat->Nat->Bool):List PV->List PV->Option Bool
 | [],ys=>some (g 0 ys.length)
 | _::_,[]=>some (g 1 0)
 | x::xs,y::ys=>if qH x y then qN f g xs ys else Bt f g x y
end
noncomputable abbrev ltd:=Bt (fun i j=>decide (i<j)) fun a b=>decide (a<b)
noncomputable def ltT(x y:PV):Option Bool:=if eE 12 x&&eE 12 y then ltd x y else none
noncomputable def tu(a b:PV):Option Bool :=
 match a,b with
 | .int i,.int j=>some (decide (i<j))
 | .tup xs,.tup ys=>ltT (.tup xs) (.tup ys)
 | _,_=>none
noncomputable def nN(a b:PV):Option Bool :=
 match a,b with
 | .int i,.int j=>some (decide (i<=j))
 | _,_=>none
noncomputable def tz(a b:PV):Option Bool :=
 match a,b with
 | .int i,.int j=>some (decide (j<i))
 | _,_=>none
noncomputable def nP(a b:PV):Option Bool :=
 match a,b with
 | .int i,.int j=>some (decide (j<=i))
 | _,_=>none
noncomputable def tw(a b:PV):Option Bool :=
 match a,b with
 | .non,.non=>some true
 | x,.non=>some false
 | .bl b,.bl c=>some (b==c)
 | _,_=>none
noncomputable def bY(op:CmpOp)(a b:PV):Option Bool:=match op with
 | .Lt=>tu a b
 | .LtE=>nN a b
 | .Gt=>tz a b
 | .GtE=>nP a b
 | .Eq=>xB a b
 | .NotEq=>(xB a b).map (!·)
 | .Is=>tw a b
 | _=>none
noncomputable def kP:PV->Option Bool
 | .non=>some false
 | .bl b=>some b
 | .int i=>some (i !=0)
 | .str z=>if z.length<=LN then some ((z.length:Int) !=0)else none
 | .lst xs=>some !xs.isEmpty
 | .tup xs=>some !xs.isEmpty
 | .dK ks _=>some !ks.isEmpty
 | .dT _ _=>none
noncomputable def gE:PV->Option Nat
 | .str z=>if z.length<=LN then some z.length else none
 | .lst xs=>some xs.length
 | .tup xs=>some xs.length
 | .dK ks _=>some ks.length
 | _=>none
noncomputable def dr(t:String):PV->Option Bool
 | .non=>if t="int"\/t="str"\/t="list"\/t="tuple"\/t="bool" then some false else none
 | .bl _=>if t="int"\/t="bool" then some true else if t="str"\/t="list"\/t="tuple" then some false else none
 | .int _=>if t="int" then some true else if t="bool"\/t="str"\/t="list"\/t="tuple" then some false else none
 | .str _=>if t="str" then some true else if t="bool"\/t="int"\/t="list"\/t="tuple" then some false else none
 | .lst _=>if t="list" then some true else if t="bool"\/t="int"\/t="str"\/t="tuple" then some false else none
 | .tup _=>if t="tuple" then some true else if t="bool"\/t="int"\/t="str"\/t="list" then some false else none
 | .dK _ _=>if t="bool"\/t="int"\/t="str"\/t="list"\/t="tuple" then some false else none
 | .dT _ _=>none
noncomputable def dJ:List PV->Option (List Bool)
 | []=>some []
 | .bl b::r=>(dJ r).map (b::·)
 | _::_=>none
noncomputable def bH:List PV->Option (List Str)
 | []=>some []
 | .str z::r=>(bH r).map (z::·)
 | _::_=>none
noncomputable def aa:List PV->Option (List Int)
 | []=>some []
 | .int i::r=>(aa r).map (i::·)
 | _::_=>none
noncomputable def eL(sep:Str):List Str->Str
 | []=>⟨#[]⟩
 | [x]=>x
 | x::y::r=>x++sep++eL sep (y::r)
noncomputable def lrng(n:Nat):List PV:=(List.range n).map fun i=>.int (i:Nat)
noncomputable def sA:PV->Option (Int×Int)
 | .tup xs=>(aa xs).bind fun ns=>match ns with
  | [a,b]=>some (a,b)
  | _=>none
 | _=>none
noncomputable def dG:List PV->Option (List (Int×Int))
 | []=>some []
 | x::r=>(sA x).bind fun q=>(dG r).map (q::·)
noncomputable def ah(q:Int×Int):PV:=.tup [.int q.1,.int q.2]
noncomputable def aX(ps:List (Int×Int)):List (Int×Int):=ps.mergeSort fun a b=>decide (SW.bD a<=SW.bD b)
noncomputable def kW(xs:List PV):Option RV:=(dG xs).bind fun ps=>if ps.length<4096/\ps.all (fun q=>decide (0<=q.2)&&decide (q.2<1000))=true then some (.own ((aX ps).map ah) true)else none
noncomputable def g8(xs:List PV):Option RV:=match aa xs with
 | some ns=>if ns.length<64 then some (.own ((L2.sortI ns).map PV.int) true)else none
 | none=>kW xs
noncomputable def qOf:PV->Option (List (Int×Int))
 | .lst xs=>dG xs
 | _=>none
noncomputable def jl:List PV->Option (List (List (Int×Int)))
 | []=>some []
 | x::r=>(qOf x).bind fun q=>(jl r).map (q::·)
noncomputable def qV(q:List (Int×Int)):PV:=.lst (q.map ah)
noncomputable def bp(q:List (Int×Int)):Int:=SW.bD (q.headD (0,0))
noncomputable def bV(qs:List (List (Int×Int))):List (List (Int×Int)):=qs.mergeSort fun a b=>decide (bp a<=bp b)
noncomputable def kY(xs:List PV)(n:Bool):Option RV:=(jl xs).bind fun qs=>if qs.length<4096/\qs.all (fun q=> !q.isEmpty&&q.all fun p=>decide (0<=p.2)&&decide (p.2<1000))=true/\(qs.map bp).Nodup then some (.own ((bV qs).map qV) n)else none
noncomputable def eA(xs:List PV)(a:RV):Option RV:=match g8 xs with
 | some r=>some r
 | none=>(match a.its with
  | some (ys,n)=>kY ys n
  | none=>none)
noncomputable def rS:PV->Option (List Int)
 | .lst xs=>(aa xs).bind fun ns=>if ns.all (fun n=>decide (0<=n)&&decide (n<8))=true then some ns else none
 | _=>none
noncomputable def revT(a:RV):Option RV:=match a.val with
 | .tup _=>(match a.its with
  | some (xs,n)=>if xs.isEmpty then none else some (.frz (.tup xs.reverse) n)
  | none=>none)
 | _=>none
noncomputable def strI:PV->Option RV
 | .int i=>if i.natAbs.log2<1920 then some (sc (.str (Str.ofString (toString i))))else none
 | _=>none
noncomputable def tK(x:PV)(xs:List PV):Option RV:=if xs.all (eE 12)&&eE 12 x then(xs.findIdx? fun y=>qH y x).map fun j=>sc (.int (j:Nat))else none
noncomputable def BH:PV->Option RV
 | .dK ks vs=>if ks.length<=LN then(aa vs).map fun ns=>.own (ns.map PV.int) true else none
 | _=>none
noncomputable def ii(f:Bf)(as:List RV):Option RV :=
 match f,as with
 | .len,[a]=>(gE a.val).map fun n=>sc (.int (n:Nat))
 | .int,[a]=>match a.val with
  | .int i=>some (sc (.int i))
  | .bl b=>some (sc (.int (if b then 1 else 0)))
  | _=>none
 | .list,[a]=>match a.its with
  | some (xs,n)=>some (.own xs n)
  | none=>none
 | .tuple,[a]=>match a.its with
  | some (xs,n)=>some (.frz (.tup xs) n)
  | none=>none
 | .all,[a]=>match a.val with
  | .lst xs=>(dJ xs).map fun bs=>sc (.bl (bs.all id))
  | _=>none
 | .any,[a]=>match a.val with
  | .lst xs=>(dJ xs).map fun bs=>sc (.bl (bs.any id))
  | _=>none
 | .sum,[a]=>match a.val with
  | .lst xs=>(aa xs).map fun ns=>sc (.int ns.sum)
  | _=>none
 | .sorted,[a]=>match a.val with
  | .lst xs=>eA xs a
  | _=>none
 | .sumv,[a]=>match a.val with
  | .dK _ vs=>(aa vs).map fun ns=>sc (.int ns.sum)
  | _=>none
 | .sset,[a]=>(rS a.val).map fun ns=>.own ((L2.wq ns).map PV.int) true
 | .lset,[a]=>(rS a.val).map fun ns=>sc (.int ((L2.wq ns).length:Nat))
 | .trev,[a]=>revT a
 | .lvals,[a]=>BH a.val
 | .str,[a]=>strI a.val
 | .isin t,[a]=>(dr t a.val).map fun b=>sc (.bl b)
 | .min,[a,b]=>match a.val,b.val with
  | .int i,.int j=>some (sc (.int (if j<i then j else i)))
  | _,_=>none
 | .max,[a,b]=>match a.val,b.val with
  | .int i,.int j=>some (sc (.int (if j>i then j else i)))
  | _,_=>none
 | .lrange,[a]=>match a.val with
  | .int i=>if 0<=i/\i<=1000 then some (.own (lrng i.toNat) true)else none
  | _=>none
 | .lrange2,[a,b]=>match a.val,b.val with
  | .int i,.int j=>if -1000<=i/\j<=1000/\i<=j then some (.own ((List.range (j-i).toNat).map fun k=>.int (i+(k:Nat))) true)else none
  | _,_=>none
 | _,_=>none
noncomputable def pZ(m:Bm)(o:RV)(as:List RV):Option RV :=
 match m,o.val,as with
 | .join,.str sep,[a]=>match a.val with
  | .lst xs=>(bH xs).bind fun ys=>if(ys.map (·.length)).sum+ys.length*sep.length<=LN then some (sc (.str (eL sep ys)))else none
  | .tup xs=>(bH xs).bind fun ys=>if(ys.map (·.length)).sum+ys.length*sep.length<=LN then some (sc (.str (eL sep ys)))else none
  | _=>none
 | .jrev,.str sep,[a]=>match a.val with
  | .str z=>if sep.cps= #[]/\0<z.length/\z.length<=LN then some (sc (.str ⟨z.cps.toList.reverse.toArray⟩))else none
  | _=>none
 | .count,.str z,[a]=>match a.val with
  | .str y=>some (sc (.int (Txt.count z y)))
  | _=>none
 | .index,.tup xs,[a]=>tK a.val xs
 | .index,.lst xs,[a]=>tK a.val xs
 | .get,.dK ks vs,[a,d]=>(fC a.val).bind fun k=>match gK ks vs k with
  | some e=>(match o with
   | .frz _ n=>some (.frz e (n||imm e))
   | .bor _=>some (gC e)
   | _=>none)
  | none=>some d
 | _,_,_=>none
noncomputable def index(a i:RV):Option RV :=
 match a,i.val with
 | .frz (.lst xs) n,.int k=>(dc xs k).map fun e=>.frz e (n||imm e)
 | .frz (.tup xs) n,.int k=>(dc xs k).map fun e=>.frz e (n||imm e)
 | .own xs n,.int k=>(dc xs k).map fun e=>.frz e (n||imm e)
 | .bor (.lst xs),.int k=>(dc xs k).map gC
 | .bor (.tup xs),.int k=>(dc xs k).map gC
 | .frz (.str z) _,.int k=>if z.length<=LN then(dc z.cps.toList k).map fun c=>sc (.str ⟨#[c]⟩)else none
 | .frz (.dK ks vs) n,y=>(fC y).bind fun k=>(gK ks vs k).map fun e=>.frz e (n||imm e)
 | .bor (.dK ks vs),y=>(fC y).bind fun k=>(gK ks vs k).map gC
 | _,_=>none
noncomputable def cut{α:Type}(xs:List α)(lo hi:Option Int):List α:=(xs.drop (HT.bC xs.length 0 lo)).take (HT.bC xs.length xs.length hi-HT.bC xs.length 0 lo)
noncomputable def slice(a:RV)(lo hi:Option Int):Option RV :=
 match a.val with
 | .str z=>if z.length<=LN then(match lo,hi with
  | none,some k=>if 0<=k then some (sc (.str ⟨(z.cps.toList.take k.toNat).toArray⟩))else none
  | some k,none=>if 0<=k then some (sc (.str ⟨(z.cps.toList.drop k.toNat).toArray⟩))else none
  | _,_=>none)else none
 | .lst _=>match a.its with
  | some (xs,n)=>some (.own (cut xs lo hi) (n||imms xs))
  | none=>none
 | .tup _=>match a.its with
  | some (xs,n)=>if HT.bC xs.length 0 lo=0/\HT.bC xs.length xs.length hi=xs.length then some (.frz (.tup xs) n)else some (.frz (.tup (cut xs lo hi)) n)
  | none=>none
 | _=>none
noncomputable def keeps:List RV->Option (List PV×Bool)
 | []=>some ([],true)
 | r::rs=>r.keep.bind fun(v,n)=>(keeps rs).map fun(vs,m)=>(v::vs,n&&m)
noncomputable def lJ(τ:En)(i:Nat):Option RV :=
 match τ[i]? with
 | some (.frz v n)=>some (.frz v n)
 | some (.own xs _)=>some (.bor (.lst xs))
 | some (.owd b xs _)=>some (.bor (b.pv xs))
 | _=>none
noncomputable def lG:Option RV->Option (Option Int)
 | none=>some none
 | some r=>match r.val with
  | .int i=>some (some i)
  | _=>none
noncomputable def cq(f:PV->Option (Option (PV×Bool))):List PV->Option (List PV×Bool)
 | []=>some ([],true)
 | x::xs=>(f x).bind fun r=>(cq f xs).map fun(vs,m)=>match r with
  | none=>(vs,m)
  | some (v,n)=>(v::vs,n&&m)
noncomputable def fS:List RV->Option (List PV)
 | [a]=>match a.val with
  | .int j=>if -(2^62)<=j/\j<2^62 then some ((List.range j.toNat).map fun i=>.int (0+(i:Nat)))else none
  | _=>none
 | [a,b]=>match a.val,b.val with
  | .int i,.int j=>if -(2^62)<=i/\i<2^62/\ -(2^62)<=j/\j<2^62 then some ((List.range (j-i).toNat).map fun k=>.int (i+(k:Nat)))else none
  | _,_=>none
 | [a,b,c]=>match a.val,b.val,c.val with
  | .int i,.int j,.int k=>if k≠0/\k.natAbs<1073741824/\Builtin.Range.small i j k=true then some ((List.range (Builtin.Range.rangeSize i j k).toNat).map fun m=>.int (i+(m:Nat)*k))else none
  | _,_,_=>none
 | _=>none
noncomputable def yr:PV->Option Int
 | .int i=>some i
 | _=>none
noncomputable def fK:PV->Option Bool
 | .bl b=>some b
 | _=>none
noncomputable def kd(x:RV):Option (List PV×Bool×Bool):=match x with
  | .frz (.str z) _=>some (signs z,true,false)
  | .bor (.lst xs)=>if imms xs then some (xs,true,true)else none
  | .bor (.tup xs)=>if imms xs then some (xs,true,true)else none
  | .bor _=>none
  | r=>r.its.map fun(xs,n)=>(xs,n,false)
noncomputable def oI(x y:PV):PV:=.tup [x,y]
noncomputable def e8(i:Nat)(x:PV):PV:=.tup [.int (i:Nat),x]
noncomputable def sg:RV->Option (List PV×Bool)
 | .frz (.lst xs) n=>some (xs,n)
 | .own xs n=>some (xs,n)
 | _=>none
noncomputable def qg(x y:RV):Option (List PV×Bool) :=
 match sg x,sg y with
 | some (xs,n),some (ys,m)=>if xs.length=ys.length then some (List.zipWith oI xs ys,n&&m)else none
 | _,_=>none
noncomputable def lR(x:RV):Option (List PV×Bool) :=
 match x with
 | .frz (.str z) _=>some (List.zipWith e8 (List.range z.length) (signs z),true)
 | .frz (.tup xs) n=>some (List.zipWith e8 (List.range xs.length) xs,n)
 | x=>match sg x with
  | some (xs,n)=>some (List.zipWith e8 (List.range xs.length) xs,n)
  | none=>none
section
variable(cd:Nat->List PV->Option PV)
noncomputable def kR:PV->RV
 | .lst xs=>.own xs true
 | v=>.frz v true
mutual
noncomputable def aS:IE->En->Option RV
 | .con v,_=>some (sc v)
 | .var i,τ=>lJ τ i
 | .bin op a b,τ=>(aS a τ).bind fun x=>(aS b τ).bind fun y=>dU op x y
 | .neg a,τ=>(aS a τ).bind fun x=>(yr x.val).map fun i=>sc (.int (-i))
 | .cmp op a b,τ=>(aS a τ).bind fun x=>(aS b τ).bind fun y=>(bY op x.val y.val).map fun r=>sc (.bl r)
 | .and a b,τ=>(aS a τ).bind fun x=>(fK x.val).bind fun t=>if t then aS b τ else some (sc (.bl false))
 | .or a b,τ=>(aS a τ).bind fun x=>(fK x.val).bind fun t=>if t then some (sc (.bl true))else aS b τ
 | .not a,τ=>(aS a τ).bind fun x=>(fK x.val).map fun b=>sc (.bl !b)
 | .ite c a b,τ=>(dw c τ).bind fun r=>if r then aS a τ else aS b τ
 | .call f es,τ=>(bO es τ).bind fun rs=>(cd f (rs.map RV.val)).map kR
 | .bf f es,τ=>(bO es τ).bind fun rs=>ii f rs
 | .mth m o es,τ=>(aS o τ).bind fun x=>(bO es τ).bind fun rs=>pZ m x rs
 | .lst es,τ=>(bO es τ).bind fun rs=>(keeps rs).bind fun(vs,n)=>gN vs n
 | .tup es,τ=>(bO es τ).bind fun rs=>(keeps rs).bind fun(vs,n)=>kq vs n
 | .dnew,_=>some (.owd (.dK []) [] true)
 | .dlit k e,τ=>(aS e τ).bind fun r=>r.keep.bind fun(v,_)=>if imm v then some (.owd (.dK [k]) [v] true)else none
 | .ix a i,τ=>(aS a τ).bind fun x=>(aS i τ).bind fun y=>index x y
 | .sl a lo hi,τ=>(aS a τ).bind fun x=>(zI lo τ).bind fun l=>(zI hi τ).bind fun h=>(lG l).bind fun l' =>(lG h).bind fun h' =>slice x l' h'
 | .lc elt src ifs caps,τ=>(lQ src τ).bind fun(xs,n,_)=>if xs.length<=LN then(cq (fun x=>(j8 ifs (.frz x (n||imm x)::caps.map fun i=>τ.getD i .un)).bind fun b =>
   if b then(aS elt (.frz x (n||imm x)::caps.map fun i=>τ.getD i .un)).bind fun r=>r.keep.map some else some none) xs).map fun(vs,m)=>.own vs m else none
 | .never,_=>none
noncomputable def bO:ue->En->Option (List RV)
 | .nil,_=>some []
 | .cons e es,τ=>(aS e τ).bind fun x=>(bO es τ).map (x::·)
noncomputable def zI:IO->En->Option (Option RV)
 | .no,_=>some none
 | .yes e,τ=>(aS e τ).map some
noncomputable def dw:IC->En->Option Bool
 | .val e,τ=>(aS e τ).bind fun x=>kP x.val
 | .not c,τ=>(dw c τ).map (!·)
 | .and c d,τ=>(dw c τ).bind fun r=>if r then dw d τ else some false
 | .or c d,τ=>(dw c τ).bind fun r=>if r then some true else dw d τ
noncomputable def j8:CD->En->Option Bool
 | .no,_=>some true
 | .yes c,τ=>dw c τ
noncomputable def lQ:IT->En->Option (List PV×Bool×Bool)
 | .seq e,τ=>(aS e τ).bind kd
 | .rng es,τ=>(bO es τ).bind fun rs=>(fS rs).map fun xs=>(xs,true,false)
 | .zip a b,τ=>(aS a τ).bind fun x=>(aS b τ).bind fun y=>(qg x y).map fun(xs,n)=>(xs,n,false)
 | .enum a,τ=>(aS a τ).bind fun x=>(lR x).map fun(xs,n)=>(xs,n,false)
 | .never,_=>none
end
inductive Fl where
 | nx (τ:En)|bk (τ:En)|ct (τ:En)|rt (v:PV)
noncomputable def gu(f:Fl)(k:En->Option Fl):Option Fl:=match f with
 | .nx τ=>k τ
 | .bk τ=>some (.bk τ)
 | .ct τ=>some (.ct τ)
 | .rt v=>some (.rt v)
noncomputable def j6(τ:En)(i:Nat):En :=
 match τ[i]? with
 | some (.own xs n)=>τ.set i (.frz (.lst xs) n)
 | some (.owd b xs n)=>τ.set i (.frz (b.pv xs) n)
 | _=>τ
noncomputable def bE(cap:List Nat)(τ:En):En:=cap.foldl j6 τ
noncomputable def jm(o:Bool)(i:Nat)(r:RV)(τ:En):Option En :=
 match o,r with
 | true,.own xs n=>some (τ.set i (.own xs n))
 | true,.owd b xs n=>some (τ.set i (.owd b xs n))
 | _,r=>r.keep.map fun(v,n)=>τ.set i (.frz v n)
noncomputable def cU(n:Bool):List Nat->List PV->En->Option En
 | [],[],τ=>some τ
 | i::is,x::xs,τ=>cU n is xs (τ.set i (.frz x (n||imm x)))
 | _,_,_=>none
noncomputable def jf(is:List Nat)(one n:Bool)(x:PV)(τ:En):Option En :=
 if one then cU n is [x] τ else match x with
  | .tup xs=>cU n is xs τ
  | _=>none
noncomputable def setU(is:List Nat)(n:Bool)(x:PV)(τ:En):Option En:=match x with
 | .tup xs=>cU n is xs τ
 | .lst xs=>cU n is xs τ
 | _=>none
noncomputable def iQ(set:PV->En->Option En)(body:En->Option Fl):List PV->En->Option Fl
 | [],τ=>some (.nx τ)
 | x::xs,τ=>(set x τ).bind fun τ1=>(body τ1).bind fun f=>match f with
  | .nx τ2=>iQ set body xs τ2
  | .ct τ2=>iQ set body xs τ2
  | .bk τ2=>some (.nx τ2)
  | .rt v=>some (.rt v)
noncomputable def wX(c:En->Option Bool)(body:En->Option Fl):Nat->En->Option Fl
 | 0,_=>none
 | k+1,τ=>(c τ).bind fun b=>if b then(body τ).bind fun f=>(match f with
  | .nx τ2=>wX c body k τ2
  | .ct τ2=>wX c body k τ2
  | .bk τ2=>some (.nx τ2)
  | .rt v=>some (.rt v))else some (.nx τ)
variable(fu:Nat)
mutual
noncomputable def eR:IS->En->Option Fl
 | .asg i o cap e,τ=>let τ1:=bE cap τ;(aS cd e τ1).bind fun r=>(jm o i r τ1).map .nx
 | .ret cap e,τ=>let τ1:=bE cap τ;(aS cd e τ1).bind fun r=>r.keep.bind fun(v,n)=>if n then some (.rt v)else none
 | .retN,_=>some (.rt .non)
 | .ife c a b,τ=>(dw cd c τ).bind fun r=>if r then bL a τ else bL b τ
 | .forr is one cap src body,τ=>let τ1:=bE cap τ;(lQ cd src τ1).bind fun(xs,n,b)=>if b then none else iQ (jf is one n) (fun τ=>bL body τ) xs τ1
 | .whil c body,τ=>wX (fun τ=>dw cd c τ) (fun τ=>bL body τ) fu τ
 | .pass,τ=>some (.nx τ)
 | .brk,τ=>some (.bk τ)
 | .cont,τ=>some (.ct τ)
 | .app i cap e,τ=>let τ1:=bE cap τ;(aS cd e τ1).bind fun r=>r.keep.bind fun(v,m)=>match τ1[i]? with
  | some (.own xs n)=>if xs.length<LN then some (.nx (τ1.set i (.own (xs++[v]) (n&&m))))else none
  | _=>none
 | .ins i k e,τ=>(aS cd k τ).bind fun x=>(aS cd e τ).bind fun r=>r.keep.bind fun(v,m)=>match x.val,τ[i]? with
  | .int j,some (.own xs n)=>if 0<=j/\j<=xs.length/\xs.length<LN then some (.nx (τ.set i (.own (xs.take j.toNat++v::xs.drop j.toNat) (n&&m))))else none
  | _,_=>none
 | .drop e,τ=>(aS cd e τ).map fun _=>.nx τ
 | .ext i e,τ=>(aS cd e τ).bind fun r=>match r,τ[i]? with
  | .frz (.lst ys) _,some (.own xs n)=>if imms ys=true/\xs.length+ys.length<=LN then some (.nx (τ.set i (.own (xs++ys) n)))else none
  | _,_=>none
 | .hand m g,τ=>(g ((τ.take m).map TV.valD)).map .rt
 | .never,_=>none
noncomputable def bL:qb->En->Option Fl
 | .nil,τ=>some (.nx τ)
 | .cons s ss,τ=>(eR s τ).bind fun f=>gu f (fun τ1=>bL ss τ1)
end
end
structure FD where
 nn:Nat
 np:Nat
 body:qb
noncomputable def entry(d:FD)(vs:List PV):En:=vs.map (fun v=>.frz v (imm v))++List.replicate (d.nn-vs.length) .un
noncomputable def eM:Option Fl->Option PV
 | some (.rt v)=>some v
 | some (.nx _)=>some .non
 | _=>none
noncomputable def aB(P:Nat->Option FD):Nat->Nat->List PV->Option PV
 | 0,_,_=>none
 | k+1,f,vs=>(P f).bind fun d=>if vs.length=d.np then eM (bL (aB P k) 1000000 d.body (entry d vs))else none
section
set_option autoImplicit true
set_option relaxedAutoImplicit true
variable{cd:Nat->List PV->Option PV}{fu:Nat}{τ:En}
theorem cC:aS cd (.con v) τ=(some (sc v)):=rfl
theorem bu:aS cd (.var i) τ=(lJ τ i):=rfl
theorem cF:aS cd (.bin op a b) τ=((aS cd a τ).bind fun x=>(aS cd b τ).bind fun y=>dU op x y):=rfl
theorem cQ:aS cd (.neg a) τ=((aS cd a τ).bind fun x=>(yr x.val).map fun i=>sc (.int (-i))):=rfl
theorem cD:aS cd (.cmp op a b) τ=((aS cd a τ).bind fun x=>(aS cd b τ).bind fun y=>(bY op x.val y.val).map fun r=>sc (.bl r)):=rfl
theorem cH:aS cd (.and a b) τ=((aS cd a τ).bind fun x=>(fK x.val).bind fun t=>if t then aS cd b τ else some (sc (.bl false))):=rfl
theorem bx:aS cd (.or a b) τ=((aS cd a τ).bind fun x=>(fK x.val).bind fun t=>if t then some (sc (.bl true))else aS cd b τ):=rfl
theorem bz:aS cd (.not a) τ=((aS cd a τ).bind fun x=>(fK x.val).map fun b=>sc (.bl !b)):=rfl
theorem cR:aS cd (.ite c a b) τ=((dw cd c τ).bind fun r=>if r then aS cd a τ else aS cd b τ):=rfl
theorem cE:aS cd (.call f es) τ=((bO cd es τ).bind fun rs=>(cd f (rs.map RV.val)).map kR):=rfl
theorem cG:aS cd (.bf f es) τ=((bO cd es τ).bind fun rs=>ii f rs):=rfl
theorem b8:aS cd (.mth m o es) τ=((aS cd o τ).bind fun x=>(bO cd es τ).bind fun rs=>pZ m x rs):=rfl
theorem b9:aS cd (.lst es) τ=((bO cd es τ).bind fun rs=>(keeps rs).bind fun(vs,n)=>gN vs n):=rfl
theorem bv:aS cd (.tup es) τ=((bO cd es τ).bind fun rs=>(keeps rs).bind fun(vs,n)=>kq vs n):=rfl
theorem cS:aS cd (.dnew) τ=(some (.owd (.dK []) [] true)):=rfl
theorem cT:aS cd (.dlit k e) τ=((aS cd e τ).bind fun r=>r.keep.bind fun(v,_)=>if imm v then some (.owd (.dK [k]) [v] true)else none):=rfl
theorem cB:aS cd (.ix a i) τ=((aS cd a τ).bind fun x=>(aS cd i τ).bind fun y=>index x y):=rfl
theorem cO:aS cd (.sl a lo hi) τ=((aS cd a τ).bind fun x=>(zI cd lo τ).bind fun l=>(zI cd hi τ).bind fun h=>(lG l).bind fun l' =>(lG h).bind fun h' =>slice x l' h'):=rfl
theorem cA:aS cd (.lc elt src ifs caps) τ=((lQ cd src τ).bind fun(xs,n,_)=>if xs.length<=LN then(cq (fun x=>(j8 cd ifs (.frz x (n||imm x)::caps.map fun i=>τ.getD i .un)).bind fun b =>
   if b then(aS cd elt (.frz x (n||imm x)::caps.map fun i=>τ.getD i .un)).bind fun r=>r.keep.map some else some none) xs).map fun(vs,m)=>.own vs m else none):=rfl
theorem cP:aS cd (.never) τ=(none):=rfl
theorem o9:bO cd (.nil) τ=(some []):=rfl
theorem pB:bO cd (.cons e es) τ=((aS cd e τ).bind fun x=>(bO cd es τ).map (x::·)):=rfl
theorem z0s:zI cd (.no) τ=(some none):=rfl
theorem z0t:zI cd (.yes e) τ=((aS cd e τ).map some):=rfl
theorem uY:dw cd (.val e) τ=((aS cd e τ).bind fun x=>kP x.val):=rfl
theorem ua:dw cd (.not c) τ=((dw cd c τ).map (!·)):=rfl
theorem uk:dw cd (.and c d) τ=((dw cd c τ).bind fun r=>if r then dw cd d τ else some false):=rfl
theorem uZ:dw cd (.or c d) τ=((dw cd c τ).bind fun r=>if r then some true else dw cd d τ):=rfl
theorem AH:j8 cd (.no) τ=(some true):=rfl
theorem AG:j8 cd (.yes c) τ=(dw cd c τ):=rfl
theorem uV:lQ cd (.seq e) τ=((aS cd e τ).bind kd):=rfl
theorem uW:lQ cd (.rng es) τ=((bO cd es τ).bind fun rs=>(fS rs).map fun xs=>(xs,true,false)):=rfl
theorem uU:lQ cd (.zip a b) τ=((aS cd a τ).bind fun x=>(aS cd b τ).bind fun y=>(qg x y).map fun(xs,n)=>(xs,n,false)):=rfl
theorem uX:lQ cd (.enum a) τ=((aS cd a τ).bind fun x=>(lR x).map fun(xs,n)=>(xs,n,false)):=rfl
theorem uf:lQ cd (.never) τ=(none):=rfl
theorem gh:eR cd fu (.asg i o cap e) τ=(let τ1:=bE cap τ;(aS cd e τ1).bind fun r=>(jm o i r τ1).map .nx):=rfl
theorem gT:eR cd fu (.ret cap e) τ=(let τ1:=bE cap τ;(aS cd e τ1).bind fun r=>r.keep.bind fun(v,n)=>if n then some (.rt v)else none):=rfl
theorem gS:eR cd fu (.retN) τ=(some (.rt .non)):=rfl
theorem gY:eR cd fu (.ife c a b) τ=((dw cd c τ).bind fun r=>if r then bL cd fu a τ else bL cd fu b τ):=rfl
theorem ga:eR cd fu (.forr is one cap src body) τ=(let τ1:=bE cap τ;(lQ cd src τ1).bind fun(xs,n,b)=>if b then none else iQ (jf is one n) (fun τ=>bL cd fu body τ) xs τ1):=rfl
theorem gR:eR cd fu (.whil c body) τ=(wX (fun τ=>dw cd c τ) (fun τ=>bL cd fu body τ) fu τ):=rfl
theorem gU:eR cd fu (.pass) τ=(some (.nx τ)):=rfl
theorem gg:eR cd fu (.brk) τ=(some (.bk τ)):=rfl
theorem gf:eR cd fu (.cont) τ=(some (.ct τ)):=rfl
theorem gi:eR cd fu (.app i cap e) τ=(let τ1:=bE cap τ;(aS cd e τ1).bind fun r=>r.keep.bind fun(v,m)=>match τ1[i]? with
  | some (.own xs n)=>if xs.length<LN then some (.nx (τ1.set i (.own (xs++[v]) (n&&m))))else none
  | _=>none):=rfl
theorem gX:eR cd fu (.ins i k e) τ=((aS cd k τ).bind fun x=>(aS cd e τ).bind fun r=>r.keep.bind fun(v,m)=>match x.val,τ[i]? with
  | .int j,some (.own xs n)=>if 0<=j/\j<=xs.length/\xs.length<LN then some (.nx (τ.set i (.own (xs.take j.toNat++v::xs.drop j.toNat) (n&&m))))else none
  | _,_=>none):=rfl
theorem gc:eR cd fu (.drop e) τ=((aS cd e τ).map fun _=>.nx τ):=rfl
theorem gb:eR cd fu (.ext i e) τ=((aS cd e τ).bind fun r=>match r,τ[i]? with
  | .frz (.lst ys) _,some (.own xs n)=>if imms ys=true/\xs.length+ys.length<=LN then some (.nx (τ.set i (.own (xs++ys) n)))else none
  | _,_=>none):=rfl
theorem gZ:eR cd fu (.hand m g) τ=((g ((τ.take m).map TV.valD)).map .rt):=rfl
theorem gW:eR cd fu (.never) τ=(none):=rfl
theorem ug:bL cd fu (.nil) τ=(some (.nx τ)):=rfl
theorem uh:bL cd fu (.cons s ss) τ=((eR cd fu s τ).bind fun f=>gu f (fun τ1=>bL cd fu ss τ1)):=rfl
end
end IR
namespace IR
open PySem PySem.Spec PyProof.Rows L2
noncomputable def del(H:Hp)(p:Addr):Hp:=fun b=>if b=p then none else H b
noncomputable def aI(H:Hp)(O:List Addr):Hp:=fun b=>if b∈O then none else H b
theorem dS{H H' :Hp}{p:Addr}(s:aA H H'):aA (del H p) (del H' p):=fun b o e=>by
 unfold del at e ⊢
 split at e
 ·cases e
 ·rename_i h
  rw[CM h];exact s b o e
theorem aC{H H' :Hp}{O:List Addr}(s:aA H H'):aA (aI H O) (aI H' O):=fun b o e=>by
 unfold aI at e ⊢
 split at e
 ·cases e
 ·rename_i h
  rw[CM h];exact s b o e
theorem al{H:Hp}{p:Addr}:aA (del H p) H:=fun b o e=>by
 unfold del at e
 split at e
 ·cases e
 ·exact e
theorem aO{H:Hp}{O:List Addr}:aA (aI H O) H:=fun b o e=>by
 unfold aI at e
 split at e
 ·cases e
 ·exact e
theorem j0{H:Hp}{O O' :List Addr}(h:∀b∈O',b∈O):aA (aI H O) (aI H O'):=fun b o e=>by
 unfold aI at e ⊢
 split at e
 ·cases e
 ·rename_i n
  rw[CM fun z=>n (h b z)];exact e
theorem oU{H:Hp}:aI H []=H:=by funext b;unfold aI;simp
section
variable(K:W.Frag)(Hi:Hp)
mutual
noncomputable def Rp(n:Bool):PV->Hp->V->Prop
 | .non,_,u=>u=.non
 | .bl b,_,u=>u=.bl b
 | .int i,_,u=>u=.int i
 | .str z,_,u=>u=.str z
 | .lst xs,H,u=>∃p us,u=.ref p/\(n=true->Hi p=none/\H p=some (.lst us))/\ao K H p us/\aD n xs (del H p) us
 | .tup xs,H,u=>∃p us,u=.ref p/\bQ K H p us/\aD n xs H us
 | .dK ks vs,H,u=>∃p us,u=.ref p/\(n=true->Hi p=none)/\H p=some (.dK (ks.zip us))/\ks.length=us.length/\aD n vs (del H p) us
 | .dT ks vs,H,u=>∃p us,u=.ref p/\(n=true->Hi p=none)/\H p=some (.dT (ks.zip us))/\ks.length=us.length/\aD n vs (del H p) us
noncomputable def aD(n:Bool):List PV->Hp->List V->Prop
 | [],_,us=>us=[]
 | x::xs,H,us=>∃u r,us=u::r/\Rp n x H u/\aD n xs H r
end
end
section
variable{K:W.Frag}{Hi:Hp}
mutual
theorem Rp.mono{n:Bool}:∀{v:PV}{H H' :Hp}{u:V},aA H H' ->Rp K Hi n v H u->Rp K Hi n v H' u
 | .non,_,_,_,_,h=>by unfold Rp at h ⊢;exact h
 | .bl _,_,_,_,_,h=>by unfold Rp at h ⊢;exact h
 | .int _,_,_,_,_,h=>by unfold Rp at h ⊢;exact h
 | .str _,_,_,_,_,h=>by unfold Rp at h ⊢;exact h
 | .lst xs,_,_,_,s,h=>by
  unfold Rp at h ⊢;obtain⟨p,us,e,q,l,r⟩:=h;exact⟨p,us,e,fun z=>⟨(q z).1,s _ _ (q z).2⟩,s.seq l,aD.mono (dS s) r⟩
 | .tup xs,_,_,_,s,h=>by
  unfold Rp at h ⊢;obtain⟨p,us,e,l,r⟩:=h;exact⟨p,us,e,s.tup l,aD.mono s r⟩
 | .dK ks vs,_,_,_,s,h=>by
  unfold Rp at h ⊢;obtain⟨p,us,e,q,l,z,r⟩:=h;exact⟨p,us,e,q,s _ _ l,z,aD.mono (dS s) r⟩
 | .dT ks vs,_,_,_,s,h=>by
  unfold Rp at h ⊢;obtain⟨p,us,e,q,l,z,r⟩:=h;exact⟨p,us,e,q,s _ _ l,z,aD.mono (dS s) r⟩
theorem aD.mono{n:Bool}:∀{xs:List PV}{H H' :Hp}{us:List V},aA H H' ->aD K Hi n xs H us->aD K Hi n xs H' us
 | [],_,_,_,_,h=>by unfold aD at h ⊢;exact h
 | x::xs,_,_,_,s,h=>by
  unfold aD at h ⊢;obtain⟨u,r,e,a,b⟩:=h;exact⟨u,r,e,Rp.mono s a,aD.mono s b⟩
end
mutual
theorem Rp.weak{n:Bool}:∀{v:PV}{H:Hp}{u:V},Rp K Hi n v H u->Rp K Hi false v H u
 | .non,_,_,h=>by unfold Rp at h ⊢;exact h
 | .bl _,_,_,h=>by unfold Rp at h ⊢;exact h
 | .int _,_,_,h=>by unfold Rp at h ⊢;exact h
 | .str _,_,_,h=>by unfold Rp at h ⊢;exact h
 | .lst xs,_,_,h=>by
  unfold Rp at h ⊢;obtain⟨p,us,e,q,l,r⟩:=h;exact⟨p,us,e,(fun z=>absurd z CT),l,aD.weak r⟩
 | .tup xs,_,_,h=>by
  unfold Rp at h ⊢;obtain⟨p,us,e,l,r⟩:=h;exact⟨p,us,e,l,aD.weak r⟩
 | .dK ks vs,_,_,h=>by
  unfold Rp at h ⊢;obtain⟨p,us,e,q,l,z,r⟩:=h;exact⟨p,us,e,(fun z=>absurd z CT),l,z,aD.weak r⟩
 | .dT ks vs,_,_,h=>by
  unfold Rp at h ⊢;obtain⟨p,us,e,q,l,z,r⟩:=h;exact⟨p,us,e,(fun z=>absurd z CT),l,z,aD.weak r⟩
theorem aD.weak{n:Bool}:∀{xs:List PV}{H:Hp}{us:List V},aD K Hi n xs H us->aD K Hi false xs H us
 | [],_,_,h=>by unfold aD at h ⊢;exact h
 | x::xs,_,_,h=>by
  unfold aD at h ⊢;obtain⟨u,r,e,a,b⟩:=h;exact⟨u,r,e,Rp.weak a,aD.weak b⟩
end
theorem Rp.low{n m:Bool}{v:PV}{H:Hp}{u:V}(h:Rp K Hi n v H u)(e:m=true->n=true):Rp K Hi m v H u:=by
 cases n with
 | true=>cases m with
  | true=>exact h
  | false=>exact h.weak
 | false=>cases m with
  | true=>cases e rfl
  | false=>exact h
theorem aD.low{n m:Bool}{v:List PV}{H:Hp}{u:List V}(h:aD K Hi n v H u)(e:m=true->n=true):aD K Hi m v H u:=by
 cases n with
 | true=>cases m with
  | true=>exact h
  | false=>exact h.weak
 | false=>cases m with
  | true=>cases e rfl
  | false=>exact h
mutual
theorem Rp.entry{Hj:Hp}{n:Bool}(k:n=true->∀p,Hi p=none->Hj p=none):∀{v:PV}{H:Hp}{u:V},Rp K Hi n v H u->Rp K Hj n v H u
 | .non,_,_,h=>by unfold Rp at h ⊢;exact h
 | .bl _,_,_,h=>by unfold Rp at h ⊢;exact h
 | .int _,_,_,h=>by unfold Rp at h ⊢;exact h
 | .str _,_,_,h=>by unfold Rp at h ⊢;exact h
 | .lst xs,_,_,h=>by
  unfold Rp at h ⊢;obtain⟨p,us,e,q,l,r⟩:=h;exact⟨p,us,e,fun z=>⟨k z _ (q z).1,(q z).2⟩,l,aD.entry k r⟩
 | .tup xs,_,_,h=>by
  unfold Rp at h ⊢;obtain⟨p,us,e,l,r⟩:=h;exact⟨p,us,e,l,aD.entry k r⟩
 | .dK ks vs,_,_,h=>by
  unfold Rp at h ⊢;obtain⟨p,us,e,q,l,z,r⟩:=h;exact⟨p,us,e,fun z=>k z _ (q z),l,z,aD.entry k r⟩
 | .dT ks vs,_,_,h=>by
  unfold Rp at h ⊢;obtain⟨p,us,e,q,l,z,r⟩:=h;exact⟨p,us,e,fun z=>k z _ (q z),l,z,aD.entry k r⟩
theorem aD.entry{Hj:Hp}{n:Bool}(k:n=true->∀p,Hi p=none->Hj p=none):∀{xs:List PV}{H:Hp}{us:List V},aD K Hi n xs H us->aD K Hj n xs H us
 | [],_,_,h=>by unfold aD at h ⊢;exact h
 | x::xs,_,_,h=>by
  unfold aD at h ⊢;obtain⟨u,r,e,a,b⟩:=h;exact⟨u,r,e,Rp.entry k a,aD.entry k b⟩
end
noncomputable def nl(H G:Hp):Prop:=(∀b xs,H b=some (.tup xs)->G b=some (.tup xs))/\∀b o xs,H b=some (.frz o (.tup xs))->G b=some (.frz o (.tup xs))
theorem nl.at{H G:Hp}(t:nl H G){p:Addr}{xs:List V}(h:bQ K H p xs):bQ K G p xs:=by
 rcases h with(h|⟨o,h⟩)|h
 ·exact .inl (.inl (t.1 _ _ h))
 ·exact .inl (.inr ⟨o,t.2 _ _ _ h⟩)
 ·exact .inr h
mutual
theorem Rp.imm{n m:Bool}:∀{v:PV}{H G:Hp}{u:V},imm v=true->nl H G->Rp K Hi n v H u->Rp K Hi m v G u
 | .non,_,_,_,_,_,h=>by unfold Rp at h ⊢;exact h
 | .bl _,_,_,_,_,_,h=>by unfold Rp at h ⊢;exact h
 | .int _,_,_,_,_,_,h=>by unfold Rp at h ⊢;exact h
 | .str _,_,_,_,_,_,h=>by unfold Rp at h ⊢;exact h
 | .lst xs,_,_,_,i,_,h=>by unfold IR.imm at i;cases i
 | .tup xs,_,_,_,i,t,h=>by
  unfold Rp at h ⊢;unfold IR.imm at i;obtain⟨p,us,e,l,r⟩:=h;exact⟨p,us,e,t.at l,aD.imm i t r⟩
 | .dK ks vs,_,_,_,i,_,h=>by unfold IR.imm at i;cases i
 | .dT ks vs,_,_,_,i,_,h=>by unfold IR.imm at i;cases i
theorem aD.imm{n m:Bool}:∀{xs:List PV}{H G:Hp}{us:List V},imms xs=true->nl H G->aD K Hi n xs H us->aD K Hi m xs G us
 | [],_,_,_,_,_,h=>by unfold aD at h ⊢;exact h
 | x::xs,_,_,_,i,t,h=>by
  unfold aD at h ⊢;unfold imms at i;rw[CK]at i;obtain⟨u,r,e,a,b⟩:=h;exact⟨u,r,e,Rp.imm i.1 t a,aD.imm i.2 t b⟩
end
theorem Rp.up{n:Bool}{v:PV}{H:Hp}{u:V}(h:Rp K Hi n v H u):Rp K Hi (n||IR.imm v) v H u:=by
 cases e:IR.imm v with
 | true=>rw[Bool.or_true];exact Rp.imm e ⟨fun _ _ e=>e,fun _ _ _ e=>e⟩ h
 | false=>rw[Bool.or_false];exact h
theorem aD.up{n:Bool}{v:List PV}{H:Hp}{u:List V}(h:aD K Hi n v H u):aD K Hi (n||IR.imms v) v H u:=by
 cases e:IR.imms v with
 | true=>rw[Bool.or_true];exact aD.imm e ⟨fun _ _ e=>e,fun _ _ _ e=>e⟩ h
 | false=>rw[Bool.or_false];exact h
theorem aD.len{n:Bool}:∀{xs:List PV}{H:Hp}{us:List V},aD K Hi n xs H us->xs.length=us.length
 | [],_,_,h=>by unfold aD at h;rw[h];rfl
 | x::xs,_,_,h=>by
  unfold aD at h;obtain⟨u,r,e,a,b⟩:=h;rw[e,Cv,Cv,aD.len b]
theorem aD.at{n:Bool}:∀{xs:List PV}{H:Hp}{us:List V}{i:Nat}{x:PV},aD K Hi n xs H us->xs[i]? =some x->∃u,us[i]? =some u/\Rp K Hi n x H u
 | [],_,_,_,_,h,e=>by simp at e
 | y::xs,_,_,i,x,h,e=>by
  unfold aD at h;obtain⟨u,r,rfl,a,b⟩:=h;cases i with
  | zero=>simp at e;subst e;exact⟨u,by simp,a⟩
  | succ i=>simpa using aD.at (i:=i) (x:=x) b (by simpa using e)
theorem aD.at'{n:Bool}:∀{xs:List PV}{H:Hp}{us:List V}{i:Nat}{u:V},aD K Hi n xs H us->us[i]? =some u->∃x,xs[i]? =some x/\Rp K Hi n x H u
 | [],_,_,_,_,h,e=>by unfold aD at h;subst h;simp at e
 | y::xs,_,_,i,x,h,e=>by
  unfold aD at h;obtain⟨u,r,rfl,a,b⟩:=h;cases i with
  | zero=>simp at e;subst e;exact⟨y,by simp,a⟩
  | succ i=>simpa using aD.at' (i:=i) (u:=x) b (by simpa using e)
theorem aD.nil{n:Bool}{H:Hp}:aD K Hi n [] H []:=by unfold aD;rfl
theorem aD.cons{n:Bool}{x:PV}{xs:List PV}{H:Hp}{u:V}{us:List V}(a:Rp K Hi n x H u)(b:aD K Hi n xs H us):aD K Hi n (x::xs) H (u::us):=by unfold aD;exact⟨u,us,rfl,a,b⟩
theorem aD.app{n:Bool}:∀{xs ys:List PV}{H:Hp}{us vs:List V},aD K Hi n xs H us->aD K Hi n ys H vs->aD K Hi n (xs++ys) H (us++vs)
 | [],_,_,_,_,h,g=>by unfold aD at h;subst h;exact g
 | x::xs,_,_,_,_,h,g=>by
  unfold aD at h;obtain⟨u,r,rfl,a,b⟩:=h;exact .cons a (aD.app b g)
theorem aD.take{n:Bool}:∀{xs:List PV}{H:Hp}{us:List V}(k:Nat),aD K Hi n xs H us->aD K Hi n (xs.take k) H (us.take k)
 | [],_,_,_,h=>by unfold aD at h;subst h;simp;exact .nil
 | x::xs,_,_,k,h=>by
  unfold aD at h;obtain⟨u,r,rfl,a,b⟩:=h;cases k with
  | zero=>exact .nil
  | succ k=>exact .cons a (aD.take k b)
theorem aD.drop{n:Bool}:∀{xs:List PV}{H:Hp}{us:List V}(k:Nat),aD K Hi n xs H us->aD K Hi n (xs.drop k) H (us.drop k)
 | [],_,_,_,h=>by unfold aD at h;subst h;simp;exact .nil
 | x::xs,_,_,k,h=>by
  unfold aD at h;obtain⟨u,r,rfl,a,b⟩:=h;cases k with
  | zero=>exact .cons a b
  | succ k=>exact aD.drop k b
theorem aD.set{n:Bool}:∀{xs:List PV}{H:Hp}{us:List V}(k:Nat){x:PV}{u:V},aD K Hi n xs H us->Rp K Hi n x H u->aD K Hi n (xs.set k x) H (us.set k u)
 | [],_,_,_,_,_,h,_=>by unfold aD at h;subst h;exact .nil
 | y::xs,_,_,k,_,_,h,g=>by
  unfold aD at h;obtain⟨u,r,rfl,a,b⟩:=h;cases k with
  | zero=>exact .cons g b
  | succ k=>exact .cons a (aD.set k b g)
theorem Rp.int{n:Bool}{i:Int}{H:Hp}{u:V}:Rp K Hi n (.int i) H u↔u=.int i:=by unfold Rp;rfl
theorem Rp.str{n:Bool}{i:Str}{H:Hp}{u:V}:Rp K Hi n (.str i) H u↔u=.str i:=by unfold Rp;rfl
theorem Rp.bl{n:Bool}{i:Bool}{H:Hp}{u:V}:Rp K Hi n (.bl i) H u↔u=.bl i:=by unfold Rp;rfl
theorem Rp.non{n:Bool}{H:Hp}{u:V}:Rp K Hi n .non H u↔u=.non:=by unfold Rp;rfl
theorem Rp.tup{n:Bool}{xs:List PV}{H:Hp}{u:V}:Rp K Hi n (.tup xs) H u↔∃p us,u=.ref p/\bQ K H p us/\aD K Hi n xs H us:=by rw[Rp]
theorem Rp.lst{n:Bool}{xs:List PV}{H:Hp}{u:V}:Rp K Hi n (.lst xs) H u↔∃p us,u=.ref p/\(n=true->Hi p=none/\H p=some (.lst us))/\ao K H p us/\aD K Hi n xs (del H p) us:=by rw[Rp]
theorem aD.ints{n:Bool}{H:Hp}:∀{xs:List Int}{us:List V},aD K Hi n (xs.map PV.int) H us↔us=xs.map V.int
 | [],us=>by unfold aD;rfl
 | x::xs,us=>by
  rw[Cc,Cc,aD]
  constructor
  ·rintro⟨u,r,rfl,a,b⟩
   rw[Rp.int.mp a,aD.ints.mp b]
  ·rintro rfl
   exact⟨_,_,rfl,Rp.int.mpr rfl,aD.ints.mpr rfl⟩
noncomputable def At:Bd->List V->HO->Prop
 | .lst,us,o=>o=.lst us
 | .dK ks,us,o=>o=.dK (ks.zip us)/\ks.length=us.length
 | .dT ks,us,o=>o=.dT (ks.zip us)/\ks.length=us.length
noncomputable def Mo(o:HO):Prop:=∃b us,At b us o
theorem Mo.lst{us:List V}:Mo (.lst us):=⟨.lst,us,rfl⟩
theorem Mo.tup{xs:List V}(h:Mo (.tup xs)):False:=by
 obtain⟨b,us,h⟩:=h;cases b with
 | lst=>cases h
 | dK ks=>cases h.1
 | dT ks=>cases h.1
variable(K Hi)in
structure aQ(O:List Addr)(τ:En)(σ:L2.St)(H:Hp):Prop where
 same:aA Hi H
 own:∀l∈O,Hi l=none/\∃o,H l=some o/\Mo o
 frz:∀(i:Nat)(v:PV)(n:Bool),τ[i]? =some (.frz v n)->∃u,σ[i]? =some (some u)/\Rp K Hi n v (aI H O) u
 obs:∀(i:Nat)(t:TV)(b:Bd)(xs:List PV)(n:Bool),τ[i]? =some t->t.ob=some (b,xs,n)->∃l us o,σ[i]? =some (some (.ref l))/\l∈O/\H l=some o/\At b us o/\aD K Hi n xs (aI H O) us
 dst:∀(i j:Nat)(t t' :TV)(x y:Bd×List PV×Bool)(l:Addr),τ[i]? =some t->t.ob=some x->τ[j]? =some t' ->t'.ob=some y->σ[i]? =some (some (.ref l))->σ[j]? =some (some (.ref l))->i=j
section
variable{O:List Addr}{τ:En}{σ:L2.St}{H H' :Hp}
theorem aQ.owns(R:aQ K Hi O τ σ H)(i:Nat)(xs:List PV)(n:Bool)(e:τ[i]? =some (.own xs n)):∃l us,σ[i]? =some (some (.ref l))/\l∈O/\H l=some (.lst us)/\aD K Hi n xs (aI H O) us:=by
 obtain⟨l,us,o,h1,h2,h3,h4,h5⟩:=R.obs i _ .lst xs n e rfl;cases h4;exact⟨l,us,h1,h2,h3,h5⟩
theorem aQ.ext(R:aQ K Hi O τ σ H)(s:aA H H'):aQ K Hi O τ σ H' where
 same:=R.same.trans s
 own:=fun l hl=>⟨(R.own l hl).1,by obtain⟨o,e,m⟩:=(R.own l hl).2;exact⟨o,s _ _ e,m⟩⟩
 frz:=fun i v n e=>by obtain⟨u,h1,h2⟩:=R.frz i v n e;exact⟨u,h1,h2.mono (aC s)⟩
 obs:=fun i t b xs n e ht=>by obtain⟨l,us,o,h1,h2,h3,h4,h5⟩:=R.obs i t b xs n e ht;exact⟨l,us,o,h1,h2,s _ _ h3,h4,h5.mono (aC s)⟩
 dst:=R.dst
theorem aQ.tups(R:aQ K Hi O τ σ H):nl H (aI H O):=by
 refine⟨fun b xs e=> ?_,fun b o xs e=> ?_⟩
 ·unfold aI
  rw[CM fun z=> ?_]
  ·exact e
  ·obtain⟨us,e',m⟩:=(R.own b z).2
   rw[e]at e';cases e';exact m.tup
 ·unfold aI
  rw[CM fun z=> ?_]
  ·exact e
  ·obtain⟨us,e',m⟩:=(R.own b z).2
   rw[e]at e';cases e';obtain⟨b,us,m⟩:=m;cases b with
   | lst=>cases m
   | dK ks=>cases m.1
   | dT ks=>cases m.1
theorem aZ{α:Type}{l:List α}{i j:Nat}{x y:α}(h:(l.set i x)[j]? =some y):(i=j/\y=x)\/(i≠j/\l[j]? =some y):=by
 rw[FO]at h
 split at h
 ·rename_i e
  split at h
  ·exact .inl ⟨e,(Cq h).symm⟩
  ·cases h
 ·rename_i e
  exact .inr ⟨e,h⟩
theorem aQ.setF(R:aQ K Hi O τ σ H){i:Nat}{v:PV}{n:Bool}{u:V}(hi:i<σ.length)(r:Rp K Hi n v (aI H O) u):aQ K Hi O (τ.set i (.frz v n)) (σ.set i (some u)) H where
 same:=R.same
 own:=R.own
 frz:=fun j w m e=>by
  rcases aZ e with⟨rfl,e'⟩|⟨ne,e'⟩
  ·cases e'
   exact⟨u,by rw[Dc hi],r⟩
  ·obtain⟨u',h1,h2⟩:=R.frz j w m e'
   exact⟨u',by rw[Ck ne];exact h1,h2⟩
 obs:=fun j t b xs m e ht=>by
  rcases aZ e with⟨rfl,e'⟩|⟨ne,e'⟩
  ·subst e'
   cases ht
  ·obtain⟨l,us,o,h1,h2⟩:=R.obs j t b xs m e' ht
   exact⟨l,us,o,by rw[Ck ne];exact h1,h2⟩
 dst:=fun a b t t' x y l e1 ht e2 ht' h1 h2=>by
  rcases aZ e1 with⟨_,z⟩|⟨ne1,z1⟩
  ·subst z
   cases ht
  ·rcases aZ e2 with⟨_,z⟩|⟨ne2,z2⟩
   ·subst z
    cases ht'
   ·rw[Ck ne1]at h1
    rw[Ck ne2]at h2;exact R.dst a b t t' x y l z1 ht z2 ht' h1 h2
theorem aQ.setB(R:aQ K Hi O τ σ H){i:Nat}{t0:TV}{b0:Bd}{xs:List PV}{n:Bool}{p:Addr}{us:List V}{o:HO}(hob:t0.ob=some (b0,xs,n))(hi:i<σ.length)(s:aA H H')(h0:H p=none)(h1:H' p=some o)(ha:At b0 us o)(r:aD K Hi n xs (aI H' (p::O)) us) :
  aQ K Hi (p::O) (τ.set i t0) (σ.set i (some (.ref p))) H' :=by
 have hs:aA (aI H O) (aI H' (p::O)):=fun b o e=>by
  unfold aI at e ⊢
  split at e
  ·cases e
  ·rename_i nb
   have ne:b≠p:=aP e h0;rw[CM (by simp[ne,nb])];exact s b o e
 have hn:Hi p=none:=R.same.free h0;refine⟨R.same.trans s,fun l hl=> ?_,fun j w m e=> ?_,fun j t b ys m e ht=> ?_,fun a b t t' x y l e1 ht e2 ht' g1 g2=> ?_⟩
 ·rcases Ca.mp hl with rfl|hl
  ·exact⟨hn,o,h1,_,_,ha⟩
  ·obtain⟨q,vs,e,m⟩:=R.own l hl
   exact⟨q,vs,s _ _ e,m⟩
 ·rcases aZ e with⟨rfl,e'⟩|⟨ne,e'⟩
  ·rw[<- e']at hob
   cases hob
  ·obtain⟨u',g1,g2⟩:=R.frz j w m e'
   exact⟨u',by rw[Ck ne];exact g1,g2.mono hs⟩
 ·rcases aZ e with⟨rfl,e'⟩|⟨ne,e'⟩
  ·subst e'
   rw[hob]at ht;cases ht;exact⟨p,us,o,by rw[Dc hi],Cd,h1,ha,r⟩
  ·obtain⟨l,vs,o',g1,g2,g3,g4,g5⟩:=R.obs j t b ys m e' ht
   exact⟨l,vs,o',by rw[Ck ne];exact g1,CV _ g2,s _ _ g3,g4,g5.mono hs⟩
 ·have old:∀(c:Nat)(t:TV)(x:Bd×List PV×Bool),τ[c]? =some t->t.ob=some x->σ[c]? =some (some (.ref l))->l≠p:=fun c t x e ht g=>by
   obtain⟨b',zs,q⟩:=x;obtain⟨l',vs,o',q1,q2,q3,_⟩:=R.obs c t b' zs q e ht;rw[q1]at g;cases g;exact aP q3 h0
  rcases aZ e1 with⟨rfl,z1⟩|⟨ne1,z1⟩
  ·rw[Dc hi]at g1
   cases g1
   rcases aZ e2 with⟨rfl,_⟩|⟨ne2,z2⟩
   ·rfl
   ·rw[Ck ne2]at g2
    exact absurd rfl (old b t' y z2 ht' g2)
  ·rw[Ck ne1]at g1
   rcases aZ e2 with⟨rfl,z2⟩|⟨ne2,z2⟩
   ·rw[Dc hi]at g2
    cases g2;exact absurd rfl (old a t x z1 ht g1)
   ·rw[Ck ne2]at g2
    exact R.dst a b t t' x y l z1 ht z2 ht' g1 g2
theorem aQ.setO(R:aQ K Hi O τ σ H){i:Nat}{xs:List PV}{n:Bool}{p:Addr}{us:List V}(hi:i<σ.length)(s:aA H H')(h0:H p=none)(h1:H' p=some (.lst us))(r:aD K Hi n xs (aI H' (p::O)) us) :
  aQ K Hi (p::O) (τ.set i (.own xs n)) (σ.set i (some (.ref p))) H' :=R.setB (b0:=.lst) rfl hi s h0 h1 rfl r
theorem aQ.updB(R:aQ K Hi O τ σ H){i:Nat}{t t1:TV}{b b1:Bd}{xs ys:List PV}{n m:Bool}{l:Addr}{us:List V}{o:HO}(e:τ[i]? =some t)(ht:t.ob=some (b,xs,n))(ht1:t1.ob=some (b1,ys,m))(hl:σ[i]? =some (some (.ref l)))(ha:At b1 us o)(r:aD K Hi m ys (aI H O) us) :
  aQ K Hi O (τ.set i t1) σ (L2.upd H l o):=by
 obtain⟨l',vs,o',g1,g2,g3,g4,g5⟩:=R.obs i t b xs n e ht;rw[hl]at g1;cases g1;have hh:aI (L2.upd H l o) O=aI H O:=by
  funext b
  unfold aI
  split
  ·rfl
  ·rename_i nb
   exact aF fun z=>nb (z▸g2)
 have hn:=(R.own l g2).1;have hi:i<τ.length:=(CY.mp e).1;refine⟨fun b o q=> ?_,fun k hk=> ?_,fun j w q z=> ?_,fun j t2 b2 zs q z ht2=> ?_,fun a b t2 t3 x y c e1 h2 e2 h3 k1 k2=> ?_⟩
 ·rw[aF (aP q hn)]
  exact R.same b o q
 ·obtain⟨q,ws,z,mo⟩:=R.own k hk
  refine⟨q,?_⟩
  by_cases c:k=l
  ·subst c
   exact⟨o,aW,_,_,ha⟩
  ·exact⟨ws,by rw[aF c];exact z,mo⟩
 ·rw[hh]
  rcases aZ z with⟨rfl,z'⟩|⟨ne,z'⟩
  ·rw[<- z']at ht1
   cases ht1
  ·exact R.frz j w q z'
 ·rw[hh]
  rcases aZ z with⟨rfl,z'⟩|⟨ne,z'⟩
  ·subst z'
   rw[ht1]at ht2;cases ht2;exact⟨l,us,o,hl,g2,aW,ha,r⟩
  ·obtain⟨l2,ws,o2,q1,q2,q3,q4,q5⟩:=R.obs j t2 b2 zs q z' ht2
   refine⟨l2,ws,o2,q1,q2,?_,q4,q5⟩;rw[aF fun c=> ?_]
   ·exact q3
   ·subst c
    exact ne (R.dst i j t t2 _ _ l2 e ht z' ht2 hl q1)
 ·have back:∀(c:Nat)(t2:TV)(x:Bd×List PV×Bool),(τ.set i t1)[c]? =some t2->t2.ob=some x->∃(t3:TV)(y:Bd×List PV×Bool),τ[c]? =some t3/\t3.ob=some y:=fun c t2 x z h=>by
   rcases aZ z with⟨rfl,_⟩|⟨_,z'⟩
   ·exact⟨_,_,e,ht⟩
   ·exact⟨_,_,z',h⟩
  obtain⟨_,_,z1,w1⟩:=back a t2 x e1 h2;obtain⟨_,_,z2,w2⟩:=back b t3 y e2 h3;exact R.dst a b _ _ _ _ c z1 w1 z2 w2 k1 k2
theorem aQ.upd(R:aQ K Hi O τ σ H){i:Nat}{xs ys:List PV}{n m:Bool}{l:Addr}{us:List V}(e:τ[i]? =some (.own xs n))(hl:σ[i]? =some (some (.ref l)))(r:aD K Hi m ys (aI H O) us) :
  aQ K Hi O (τ.set i (.own ys m)) σ (L2.upd H l (.lst us)):=R.updB (b1:=.lst) e rfl rfl hl rfl r
theorem Rp.at{n:Bool}{b:Bd}{xs:List PV}{us:List V}{o:HO}{l:Addr}{G:Hp}(hn:n=true->Hi l=none)(h:G l=some o)(ha:At b us o)(r:aD K Hi n xs (del G l) us):Rp K Hi n (b.pv xs) G (.ref l):=by
 cases b with
 | lst=>cases ha;exact Rp.lst.mpr ⟨l,us,rfl,fun z=>⟨hn z,h⟩,ao.of h,r⟩
 | dK ks =>
  obtain⟨rfl,hl⟩:=ha;show Rp K Hi n (.dK ks xs) G (.ref l);unfold Rp;exact⟨l,us,rfl,hn,h,hl,r⟩
 | dT ks =>
  obtain⟨rfl,hl⟩:=ha;show Rp K Hi n (.dT ks xs) G (.ref l);unfold Rp;exact⟨l,us,rfl,hn,h,hl,r⟩
theorem aQ.freezeB(R:aQ K Hi O τ σ H){i:Nat}{t:TV}{b0:Bd}{xs:List PV}{n:Bool}(e:τ[i]? =some t)(ht:t.ob=some (b0,xs,n)):∃O',aQ K Hi O' (τ.set i (.frz (b0.pv xs) n)) σ H/\∀b∈O',b∈O:=by
 obtain⟨l,us,o,g1,g2,g3,g4,g5⟩:=R.obs i t b0 xs n e ht;refine⟨O.filter fun b=>decide (b≠l),?_,fun b hb=>(DW.mp hb).1⟩;have mem:∀b,b∈O.filter (fun b=>decide (b≠l))↔b∈O/\b≠l:=fun b=>by simp
 have hs:aA (aI H O) (aI H (O.filter fun b=>decide (b≠l))):=j0 fun b hb=>((mem b).mp hb).1;have hd:aA (aI H O) (del (aI H (O.filter fun b=>decide (b≠l))) l):=fun b o z=>by
  unfold aI at z
  split at z
  ·cases z
  ·rename_i nb
   have ne:b≠l:=fun c=>nb (c▸g2);unfold del aI;rw[CM ne,CM fun c=>nb ((mem b).mp c).1];exact z
 have hl:aI H (O.filter fun b=>decide (b≠l)) l=some o:=by
  unfold aI;rw[CM fun c=>((mem l).mp c).2 rfl];exact g3
 refine⟨R.same,fun b hb=>R.own b ((mem b).mp hb).1,fun j w m z=> ?_,fun j t2 b2 ys m z ht2=> ?_,fun a b t2 t3 x y c e1 h2 e2 h3 k1 k2=> ?_⟩
 ·rcases aZ z with⟨rfl,z'⟩|⟨ne,z'⟩
  ·cases z'
   exact⟨.ref l,g1,Rp.at (fun _=>(R.own l g2).1) hl g4 (g5.mono hd)⟩
  ·obtain⟨u,q1,q2⟩:=R.frz j w m z'
   exact⟨u,q1,q2.mono hs⟩
 ·rcases aZ z with⟨rfl,z'⟩|⟨ne,z'⟩
  ·subst z'
   cases ht2
  ·obtain⟨l2,ws,o2,q1,q2,q3,q4,q5⟩:=R.obs j t2 b2 ys m z' ht2
   exact⟨l2,ws,o2,q1,(mem l2).mpr ⟨q2,fun c=>by subst c;exact ne (R.dst i j _ _ _ _ l2 e ht z' ht2 g1 q1)⟩,q3,q4,q5.mono hs⟩
 ·rcases aZ e1 with⟨_,z⟩|⟨_,z1⟩
  ·subst z
   cases h2
  ·rcases aZ e2 with⟨_,z⟩|⟨_,z2⟩
   ·subst z
    cases h3
   ·exact R.dst a b t2 t3 x y c z1 h2 z2 h3 k1 k2
theorem aQ.freeze(R:aQ K Hi O τ σ H)(i:Nat):∃O',aQ K Hi O' (j6 τ i) σ H/\∀b∈O',b∈O:=by
 unfold j6;cases e:τ[i]? with
 | none=>exact⟨O,R,fun b hb=>hb⟩
 | some t =>
  cases t with
  | un=>exact⟨O,R,fun b hb=>hb⟩
  | frz v n=>exact⟨O,R,fun b hb=>hb⟩
  | own xs n=>exact R.freezeB e rfl
  | owd b xs n=>exact R.freezeB e rfl
theorem aQ.freezes:∀{cap:List Nat}{O:List Addr}{τ:En},aQ K Hi O τ σ H->∃O',aQ K Hi O' (bE cap τ) σ H/\∀b∈O',b∈O
 | [],O,_,R=>⟨O,R,fun b hb=>hb⟩
 | i::cap,_,_,R=>by
  obtain⟨O',R',h'⟩:=R.freeze i;obtain⟨O2,R2,h2⟩:=aQ.freezes (cap:=cap) R';exact⟨O2,R2,fun b hb=>h' b (h2 b hb)⟩
variable(K Hi)in
noncomputable def aT(O:List Addr)(H H' :Hp):RV->V->Prop
 | .frz v n,u=>Rp K Hi n v (aI H' O) u
 | .bor v,u=>Rp K Hi false v H' u
 | .own xs n,u=>∃p us,u=.ref p/\H p=none/\H' p=some (.lst us)/\aD K Hi n xs (aI (del H' p) O) us
 | .owd b xs n,u=>∃p us o,u=.ref p/\H p=none/\H' p=some o/\At b us o/\aD K Hi n xs (aI (del H' p) O) us
theorem aT.ext{H2:Hp}{r:RV}{u:V}(h:aT K Hi O H H' r u)(s:aA H' H2):aT K Hi O H H2 r u:=by
 cases r with
 | frz v n=>exact Rp.mono (aC s) h
 | bor v=>exact Rp.mono s h
 | own xs n =>
  obtain⟨p,us,e,h0,h1,h2⟩:=h;exact⟨p,us,e,h0,s _ _ h1,h2.mono (aC (dS s))⟩
 | owd b xs n =>
  obtain⟨p,us,o,e,h0,h1,ha,h2⟩:=h;exact⟨p,us,o,e,h0,s _ _ h1,ha,h2.mono (aC (dS s))⟩
theorem aT.back{H0:Hp}{r:RV}{u:V}(h:aT K Hi O H H' r u)(s:aA H0 H):aT K Hi O H0 H' r u:=by
 cases r with
 | frz v n=>exact h
 | bor v=>exact h
 | own xs n =>
  obtain⟨p,us,e,h0,h1,h2⟩:=h;exact⟨p,us,e,s.free h0,h1,h2⟩
 | owd b xs n =>
  obtain⟨p,us,o,e,h0,h1,ha,h2⟩:=h;exact⟨p,us,o,e,s.free h0,h1,ha,h2⟩
theorem fE{p:Addr}:aI (del H' p) O=del (aI H' O) p:=by
 funext b
 unfold aI del;dsimp only
 split<;>split<;>(try rfl)<;>simp_all
theorem aT.keep{r:RV}{u:V}{v:PV}{n:Bool}(R:aQ K Hi O τ σ H)(h:aT K Hi O H H' r u)(s:aA H H')(e:r.keep=some (v,n)):Rp K Hi n v (aI H' O) u:=by
 cases r with
 | frz w m =>
  cases e;exact h
 | bor w =>
  have e:(if imm w then some (w,true)else none)=some (v,n):=e
  split at e
  ·rename_i i
   cases e;exact Rp.imm i (R.ext s).tups h
  ·cases e
 | own xs m =>
  cases e;obtain⟨p,us,e,h0,h1,h2⟩:=h;have hl:aI H' O p=some (.lst us):=by
   unfold aI;rw[CM fun z=> ?_]
   ·exact h1
   ·obtain⟨vs,e',_⟩:=(R.own p z).2
    rw[h0]at e';cases e'
  exact Rp.lst.mpr ⟨p,us,e,fun _=>⟨R.same.free h0,hl⟩,ao.of hl,by rw[<- fE];exact h2⟩
 | owd b xs m =>
  cases e;obtain⟨p,us,o,e,h0,h1,ha,h2⟩:=h;subst e;have hl:aI H' O p=some o:=by
   unfold aI;rw[CM fun z=> ?_]
   ·exact h1
   ·obtain⟨vs,e',_⟩:=(R.own p z).2
    rw[h0]at e';cases e'
  exact Rp.at (fun _=>R.same.free h0) hl ha (by rw[<- fE];exact h2)
theorem aT.val{r:RV}{u:V}(R:aQ K Hi O τ σ H)(h:aT K Hi O H H' r u)(s:aA H H'):Rp K Hi false r.val H' u:=by
 cases r with
 | frz w m=>exact(Rp.mono aO h).weak
 | bor w=>exact h
 | own xs m=>exact(Rp.mono aO (h.keep R s rfl)).weak
 | owd b xs m=>exact(Rp.mono aO (h.keep R s rfl)).weak
theorem aT.its{r:RV}{u:V}{xs:List PV}{n:Bool}(R:aQ K Hi O τ σ H)(h:aT K Hi O H H' r u)(s:aA H H')(e:r.its=some (xs,n)) :
  ∃p us,u=.ref p/\((ao K H' p us/\∃ys,r.val=.lst ys)\/(bQ K H' p us/\∃ys,r.val=.tup ys))/\aD K Hi n xs (aI H' O) us:=by
 cases r with
 | frz w m =>
  cases w with
  | lst ys =>
   cases e;obtain⟨p,us,e,_,l,r⟩:=Rp.lst.mp h;exact⟨p,us,e,.inl ⟨(aO (O:=O)).seq l,_,rfl⟩,r.mono al⟩
  | tup ys =>
   cases e;obtain⟨p,us,e,l,r⟩:=Rp.tup.mp h;exact⟨p,us,e,.inr ⟨(aO (O:=O)).tup l,_,rfl⟩,r⟩
  | _=>cases e
 | bor w =>
  cases w with
  | lst ys =>
   have e:(if imms ys then some (ys,true)else none)=some (xs,n):=e
   split at e
   ·rename_i i
    cases e;obtain⟨p,us,e,_,l,r⟩:=Rp.lst.mp h;exact⟨p,us,e,.inl ⟨l,_,rfl⟩,aD.imm i (R.ext s).tups (r.mono al)⟩
   ·cases e
  | tup ys =>
   have e:(if imms ys then some (ys,true)else none)=some (xs,n):=e
   split at e
   ·rename_i i
    cases e;obtain⟨p,us,e,l,r⟩:=Rp.tup.mp h;exact⟨p,us,e,.inr ⟨l,_,rfl⟩,aD.imm i (R.ext s).tups r⟩
   ·cases e
  | _=>cases e
 | own ys m =>
  cases e;obtain⟨p,us,e,h0,h1,h2⟩:=h;exact⟨p,us,e,.inl ⟨ao.of h1,_,rfl⟩,h2.mono (aC al)⟩
 | owd b ys m=>cases e
end
end
section
variable{K:W.Frag}{Hi:Hp}{κ:Type}[DecidableEq κ]
theorem jT{n:Bool}{G:Hp}{k:κ}:∀{ks:List κ}{vs:List PV}{us:List V},aD K Hi n vs G us->ks.length=us.length->(gK ks vs k=none->eV (ks.zip us) k=none)/\∀e,gK ks vs k=some e->∃w,eV (ks.zip us) k=some w/\Rp K Hi n e G w
 | [],vs,us,r,hl=>by
  refine⟨fun _=>rfl,fun e h=> ?_⟩;unfold gK at h;cases h
 | k' ::ks,[],us,r,hl=>by
  unfold aD at r;subst r;cases hl
 | k' ::ks,v::vs,us,r,hl=>by
  unfold aD at r;obtain⟨u,ws,rfl,a,b⟩:=r;have hl:ks.length=ws.length:=by simpa using hl
  obtain⟨h1,h2⟩:=jT (k:=k) b hl;rw[FC];unfold gK
  by_cases e:k' =k
  ·rw[CQ e,eT (p:=(k',u)) e]
   exact⟨fun z=>(by cases z),fun x z=>⟨u,rfl,by cases z;exact a⟩⟩
  ·rw[CM e,eU (p:=(k',u)) e]
   exact⟨h1,h2⟩
end
end IR
namespace IR
open PySem
structure Ct where
 N:List Str
 S:List (Str×NameKind)
 F:List (Str×Nat)
 G:List (Str×PV)
 B:List Str
 M:List Nat
noncomputable def slot:List Str->Str->Option Nat
 | [],_=>none
 | y::ys,x=>if y==x then some 0 else(slot ys x).map (·+1)
theorem di:∀{N:List Str}{x:Str}{i:Nat},slot N x=some i->N[i]? =some x
 | [],_,_,h=>by cases h
 | y::ys,x,i,h=>by
  unfold slot at h
  split at h
  ·rename_i e
   cases h;simp[Cy e]
  ·cases e:slot ys x with
   | none=>rw[e]at h;cases h
   | some j =>
    rw[e]at h;cases h
    simpa using di e
noncomputable def AW(S:List (Str×NameKind))(x:Str):Bool:=S.lookup x==some .local||S.lookup x==some .cell||S.lookup x==some .free
noncomputable def qa(x:Str):Bool:=x==("__debug__":Str)||x==("__classdict__":Str)||x==("__name__":Str)
noncomputable def jV(ct:Ct)(x:Str):IE :=
 if qa x then .never else if AW ct.S x then(match slot ct.N x with
  | some i=>.var i
  | none=>.never)else if ct.S.lookup x==some .globalImplicit then(match ct.G.lookup x with
   | some v=>.con v
   | none=>.never)else .never
noncomputable def dH:Expr->Bool
 | .Set .. =>true
 | _=>false
noncomputable def fD:Expr->Bool
 | .Slice .. =>true
 | _=>false
noncomputable def isStar:Expr->Bool
 | .Starred .. =>true
 | _=>false
noncomputable def mZ:Expr->Bool
 | .Name .. =>true
 | .Constant .. =>true
 | _=>false
noncomputable def jW:Const->IE
 | .int i=>.con (.int i)
 | .bool b=>.con (.bl b)
 | .str z=>.con (.str z)
 | .none=>.con .non
 | _=>.never
noncomputable def iS(op:BoolOp):List IE->IE
 | []=>.never
 | [a]=>a
 | a::b::r=>match op with
  | .And=>.and a (iS op (b::r))
  | .Or=>.or a (iS op (b::r))
noncomputable def iR(op:BoolOp):List IC->IC
 | []=>.val .never
 | [a]=>a
 | a::b::r=>match op with
  | .And=>.and a (iR op (b::r))
  | .Or=>.or a (iR op (b::r))
noncomputable def lh(x:Str)(k:Nat):Option Bf :=
 if x==("len":Str)&&k==1 then some .len else if x==("int":Str)&&k==1 then some .int else if x==("list":Str)&&k==1 then some .list else if x==("tuple":Str)&&k==1 then some .tuple
 else if x==("all":Str)&&k==1 then some .all else if x==("min":Str)&&k==2 then some .min else if x==("max":Str)&&k==2 then some .max else if x==("abs":Str)&&k==1 then some .abs
 else if x==("any":Str)&&k==1 then some .any else if x==("sum":Str)&&k==1 then some .sum else if x==("sorted":Str)&&k==1 then some .sorted else none
noncomputable def qT(x:Str)(k:Nat):Option Bf:=lh x k
noncomputable def qz(x:Str):Option String :=
 if x==("int":Str)then some "int" else if x==("bool":Str)then some "bool" else if x==("str":Str)then some "str" else if x==("list":Str)then some "list" else if x==("tuple":Str)then some "tuple" else none
noncomputable def own(ct:Ct)(x:Str):Bool:=ct.B.contains x&&ct.S.lookup x==some .globalImplicit
noncomputable def kC:Expr->Option (Str×List Expr)
 | .Call (.Name x _) es [] _=>some (x,es)
 | _=>none
noncomputable def rh(S names:List (Str×NameKind)):List (Str×NameKind):=names.map fun(n,k)=>if(k== .free&&true&&S.lookup n==some .cell)then(n,.cell)else(n,k)
noncomputable def frees(scope:Scope):List Str:=(scope.names.filter fun y=>y.2== .free).map (·.1)
noncomputable def slots(N:List Str):List Str->Option (List Nat)
 | []=>some []
 | x::xs=>(slot N x).bind fun i=>(slots N xs).map (i::·)
noncomputable def mx(ct:Ct)(t:Str)(scope:Scope):Bool :=
 scope.kind== .function&&(scope.names.all fun y=> !(y.2== .cell)||scope.names.lookup y.1==some .cell)&&(scope.names.all fun y=> !(y.2== .local)||scope.names.lookup y.1==some .local) &&
 (scope.names.all fun y=> !(y.2== .free)||(ct.S.lookup y.1==some .cell||ct.S.lookup y.1==some .free))&&decide (t::frees scope).Nodup&&(scope.names.lookup t==some .local||scope.names.lookup t==some .cell) &&
 (frees scope).all fun x=>scope.names.lookup x==some .free
noncomputable def blk(ct:Ct)(t:Str)(scope:Scope):Ct:=⟨t::frees scope,rh ct.S scope.names,ct.F,ct.G,ct.B,[]⟩
noncomputable def pf:List IE->ue
 | []=>.nil
 | e::es=>.cons e (pf es)
mutual
noncomputable def af:Nat->Ct->Expr->IE
 | 0,_,_=>.never
 | n+1,ct,e=>match e with
  | .Constant c _ _=>jW c
  | .Name x _=>jV ct x
  | .BinOp a op b _=>.bin op (af n ct a) (af n ct b)
  | .UnaryOp op a _=>match op with
   | .USub=>.neg (af n ct a)
   | .Not=>.not (af n ct a)
   | _=>.never
  | .Compare a ops cs _=>match ops,cs with
   | [op],[b]=>if dH b then .never else .cmp op (af n ct a) (af n ct b)
   | _,_=>.never
  | .BoolOp op vs _=>if vs.length<2 then .never else iS op (vs.map (af n ct))
  | .IfExp c a b _=>.ite (jX n ct c) (af n ct a) (af n ct b)
  | .List es _=>.lst (eW n ct es)
  | .Tuple es _ _=>.tup (eW n ct es)
  | .Subscript a i _=>match i with
   | .Slice lo hi st _=>match st with
    | none=>.sl (af n ct a) (wY n ct lo) (wY n ct hi)
    | some _=>.never
   | i=>.ix (af n ct a) (af n ct i)
  | .Call f es ks cp=>match ks with
   | []=>match f with
    | .Name x _=>fQ n ct x es
    | .Attribute o m ap=>if ap.endLine==cp.line then jE n ct o m es else .never
    | _=>.never
   | _=>.never
  | .ListComp elt gs scope _=>match gs with
   | [⟨.Name t _,iter,ifs,0⟩]=>if mx ct t scope then(match slots ct.N (frees scope)with
    | some caps=>.lc (af n (blk ct t scope) elt) (rF n ct false iter) (match ifs with
     | []=>.no
     | [c]=>.yes (jX n (blk ct t scope) c)
     | _=>.yes (.val .never)) caps
    | none=>.never)else .never
   | _=>.never
  | _=>.never
noncomputable def eW:Nat->Ct->List Expr->ue
 | 0,_,_=>.cons .never .nil
 | n+1,ct,es=>pf (es.map fun e=>if isStar e then .never else af n ct e)
noncomputable def wY:Nat->Ct->Option Expr->IO
 | 0,_,_=>.yes .never
 | n+1,ct,e=>match e with
  | none=>.no
  | some e=>.yes (af n ct e)
noncomputable def jX:Nat->Ct->Expr->IC
 | 0,_,_=>.val .never
 | n+1,ct,e=>match e with
  | .UnaryOp op a p=>match op with
   | .Not=>.not (jX n ct a)
   | op=>.val (af n ct (.UnaryOp op a p))
  | .BoolOp op vs _=>iR op (vs.map (jX n ct))
  | .IfExp _ _ _ _=>.val .never
  | e=>.val (af n ct e)
noncomputable def fQ:Nat->Ct->Str->List Expr->IE
 | 0,_,_,_=>.never
 | n+1,ct,x,es=>if qa x then .never else if ct.S.lookup x==some .globalImplicit then(match ct.F.lookup x with
  | some f=>match es with
   | []=>.never
   | es=>.call f (eW n ct es)
  | none=>if ct.B.contains x then(if x==("isinstance":Str)then(match es with
    | [a,.Name t _]=>match qz t with
     | some ty=>if isStar a then .never else if own ct t then .bf (.isin ty) (.cons (af n ct a) .nil)else .never
     | none=>.never
    | _=>.never)else match es with
     | es=>match qT x es.length with
      | some f=>.bf f (eW n ct es)
      | none=>.never)else .never)else .never
noncomputable def jE:Nat->Ct->Expr->Str->List Expr->IE
 | 0,_,_,_,_=>.never
 | n+1,ct,o,m,es=>if mZ o then(match es with
  | [a]=>if isStar a then .never else if m==("join":Str)then .mth .join (af n ct o) (.cons (af n ct a) .nil)else .never
  | _=>.never)else .never
noncomputable def rF:Nat->Ct->Bool->Expr->IT
 | 0,_,_,_=>.never
 | n+1,ct,tp,e=>if dH e then .never else match kC e with
  | some (x,es)=>if x==("range":Str)then(if own ct x then .rng (eW n ct es)else .never)else if x==("zip":Str)then(match es with
    | [a,b]=>if isStar a||isStar b|| !tp|| !own ct x then .never else .zip (af n ct a) (af n ct b)
    | _=>.never)else if x==("enumerate":Str)then(match es with
    | [a]=>if isStar a|| !tp|| !own ct x then .never else .enum (af n ct a)
    | _=>.never)else .seq (af n ct e)
  | none=>.seq (af n ct e)
end
noncomputable def i8:Nat->Ct->Expr->List Nat
 | 0,_,_=>[]
 | n+1,ct,e=>match e with
  | .Name x _=>(slot ct.N x).toList
  | .List es _=>es.flatMap (i8 n ct)
  | .Tuple es _ _=>es.flatMap (i8 n ct)
  | .IfExp _ a b _=>i8 n ct a++i8 n ct b
  | _=>[]
noncomputable def i7:Nat->Ct->Expr->List Nat
 | 0,_,_=>[]
 | n+1,ct,e=>match e with
  | .Name x _=>(slot ct.N x).toList
  | .List es _=>es.flatMap (i7 n ct)
  | .Tuple es _ _=>es.flatMap (i7 n ct)
  | .BinOp a _ b _=>i7 n ct a++i7 n ct b
  | .IfExp _ a b _=>i7 n ct a++i7 n ct b
  | .Call (.Name x _) es _ _=>if x==("tuple":Str)||x==("list":Str)||x==("sorted":Str)then es.flatMap (i7 n ct)else[]
  | .ListComp _ gs _ _=>gs.flatMap fun g=>i7 n ct g.iter
  | _=>[]
noncomputable def Bu(ct:Ct)(x:Str)(e:Expr):List Nat:=match e with
 | .BinOp (.Name y _) .Add (.List _ _) _=>(slot ct.N y).toList
 | .BinOp (.Name y _) .Add _ _=>if y==x then(slot ct.N x).toList else[]
 | _=>[]
noncomputable def Bv(n:Nat)(ct:Ct)(e:Expr):List Nat:=match kC e with
 | some (x,es)=>if x==("zip":Str)||x==("enumerate":Str)||x==("reversed":Str)then es.flatMap (i8 n ct)else[]
 | none=>i8 n ct e
noncomputable def loc(ct:Ct)(x:Str):Option Nat:=if(ct.S.lookup x==some .local||ct.S.lookup x==some .cell)&& !qa x then slot ct.N x else none
noncomputable def nB:Expr->Bool
 | .ListComp .. =>true
 | .SetComp .. =>true
 | .DictComp .. =>true
 | _=>false
noncomputable def locs(ct:Ct):List Expr->Option (List Nat)
 | []=>some []
 | .Name x _::es=>(loc ct x).bind fun i=>(locs ct es).map (i::·)
 | _::_=>none
noncomputable def rE(ct:Ct):Expr->Option (List Nat×Bool)
 | .Name x _=>(loc ct x).map fun i=>([i],true)
 | .Tuple es _ _=>(locs ct es).map fun is=>(is,false)
 | _=>none
mutual
noncomputable def mE:Nat->Ct->Stmt->IS
 | 0,_,_=>.never
 | n+1,ct,s=>match s with
  | .Return v _=>match v with
   | some e=>.ret (i7 n ct e) (af n ct e)
   | none=>.retN
  | .Assign ts e _=>match ts with
   | [.Name x _]=>match loc ct x with
    | some i=>.asg i (ct.M.contains i) (Bu ct x e++i8 n ct e) (af n ct e)
    | none=>.never
   | _=>.never
  | .If c a b _=>.ife (jX n ct c) (dv n ct a) (dv n ct b)
  | .For tg it body els _=>match els with
   | []=>match rE ct tg with
    | some (is,one)=>.forr is one (Bv n ct it) (rF n ct (!one) it) (dv n ct body)
    | none=>.never
   | _=>.never
  | .While c body els _=>match els with
   | []=>.whil (jX n ct c) (dv n ct body)
   | _=>.never
  | .Pass _=>.pass
  | .Break _=>.brk
  | .Continue _=>.cont
  | .Expr e _=>match e with
   | .Call (.Attribute (.Name x _) m ap) es [] cp=>if ap.endLine==cp.line then(match loc ct x with
    | some i=>(match es with
     | [a]=>if isStar a then .never else if m==("append":Str)then .app i (i8 n ct a) (af n ct a)else if m==("extend":Str)then .ext i (af n ct a)else .never
     | [a,b]=>if isStar a||isStar b then .never else if m==("insert":Str)then .ins i (af n ct a) (af n ct b)else .never
     | _=>.never)
    | none=>.never)else .never
   | _=>.never
  | _=>.never
noncomputable def dv:Nat->Ct->List Stmt->qb
 | 0,_,_=>.cons .never .nil
 | n+1,ct,ss=>match ss with
  | []=>.nil
  | s::ss=>.cons (mE n ct s) (dv n ct ss)
end
section
set_option autoImplicit true
set_option relaxedAutoImplicit true
variable{n:Nat}{ct:Ct}
theorem mD:af 0 w0 w1=.never:=rfl
theorem l7:af (n+1) ct (.Constant c w1 w2)=(jW c):=rfl
theorem lw:af (n+1) ct (.Name x w1)=(jV ct x):=rfl
theorem mC:af (n+1) ct (.BinOp a op b w1)=(.bin op (af n ct a) (af n ct b)):=rfl
theorem lr:af (n+1) ct (.UnaryOp op a w1)=(match op with
   | .USub=>.neg (af n ct a)
   | .Not=>.not (af n ct a)
   | _=>.never):=rfl
theorem l8:af (n+1) ct (.Compare a ops cs w1)=(match ops,cs with
   | [op],[b]=>if dH b then .never else .cmp op (af n ct a) (af n ct b)
   | _,_=>.never):=rfl
theorem mB:af (n+1) ct (.BoolOp op vs w1)=(if vs.length<2 then .never else iS op (vs.map (af n ct))):=rfl
theorem l6:af (n+1) ct (.IfExp c a b w1)=(.ite (jX n ct c) (af n ct a) (af n ct b)):=rfl
theorem l5:af (n+1) ct (.List es w1)=(.lst (eW n ct es)):=rfl
theorem lu:af (n+1) ct (.Tuple es w1 w2)=(.tup (eW n ct es)):=rfl
theorem lv:af (n+1) ct (.Subscript a i w1)=(match i with
   | .Slice lo hi st _=>match st with
    | none=>.sl (af n ct a) (wY n ct lo) (wY n ct hi)
    | some _=>.never
   | i=>.ix (af n ct a) (af n ct i)):=rfl
theorem l9:af (n+1) ct (.Call f es ks cp)=(match ks with
   | []=>match f with
    | .Name x _=>fQ n ct x es
    | .Attribute o m ap=>if ap.endLine==cp.line then jE n ct o m es else .never
    | _=>.never
   | _=>.never):=rfl
theorem lz:af (n+1) ct (.ListComp elt gs scope w1)=(match gs with
   | [⟨.Name t _,iter,ifs,0⟩]=>if mx ct t scope then(match slots ct.N (frees scope)with
    | some caps=>.lc (af n (blk ct t scope) elt) (rF n ct false iter) (match ifs with
     | []=>.no
     | [c]=>.yes (jX n (blk ct t scope) c)
     | _=>.yes (.val .never)) caps
    | none=>.never)else .never
   | _=>.never):=rfl
theorem z24:eW 0 w0 w1=.cons .never .nil:=rfl
theorem z25:eW (n+1) ct es=(pf (es.map fun e=>if isStar e then .never else af n ct e)):=rfl
theorem z28:wY 0 w0 w1=.yes .never:=rfl
theorem z29:wY (n+1) ct (none)=(.no):=rfl
theorem z2a:wY (n+1) ct (some e)=(.yes (af n ct e)):=rfl
theorem AV:jX 0 w0 w1=.val .never:=rfl
theorem AS:jX (n+1) ct (.UnaryOp op a p)=(match op with
   | .Not=>.not (jX n ct a)
   | op=>.val (af n ct (.UnaryOp op a p))):=rfl
theorem AU:jX (n+1) ct (.BoolOp op vs w1)=(iR op (vs.map (jX n ct))):=rfl
theorem AT:jX (n+1) ct (.IfExp w1 w2 w3 w4)=(.val .never):=rfl
theorem z1l:fQ 0 w0 w1 w2=.never:=rfl
theorem z1m:fQ (n+1) ct x es=(if qa x then .never else if ct.S.lookup x==some .globalImplicit then(match ct.F.lookup x with
  | some f=>match es with
   | []=>.never
   | es=>.call f (eW n ct es)
  | none=>if ct.B.contains x then(if x==("isinstance":Str)then(match es with
    | [a,.Name t _]=>match qz t with
     | some ty=>if isStar a then .never else if own ct t then .bf (.isin ty) (.cons (af n ct a) .nil)else .never
     | none=>.never
    | _=>.never)else match es with
     | es=>match qT x es.length with
      | some f=>.bf f (eW n ct es)
      | none=>.never)else .never)else .never):=rfl
theorem z26:jE 0 w0 w1 w2 w3=.never:=rfl
theorem z27:jE (n+1) ct o m es=(if mZ o then(match es with
  | [a]=>if isStar a then .never else if m==("join":Str)then .mth .join (af n ct o) (.cons (af n ct a) .nil)else .never
  | _=>.never)else .never):=rfl
theorem z2o:rF 0 w0 w1 w2=.never:=rfl
theorem z2p:rF (n+1) ct tp e=(if dH e then .never else match kC e with
  | some (x,es)=>if x==("range":Str)then(if own ct x then .rng (eW n ct es)else .never)else if x==("zip":Str)then(match es with
    | [a,b]=>if isStar a||isStar b|| !tp|| !own ct x then .never else .zip (af n ct a) (af n ct b)
    | _=>.never)else if x==("enumerate":Str)then(match es with
    | [a]=>if isStar a|| !tp|| !own ct x then .never else .enum (af n ct a)
    | _=>.never)else .seq (af n ct e)
  | none=>.seq (af n ct e)):=rfl
theorem qu:mE 0 w0 w1=.never:=rfl
theorem qj:mE (n+1) ct (.Return v w1)=(match v with
   | some e=>.ret (i7 n ct e) (af n ct e)
   | none=>.retN):=rfl
theorem qt:mE (n+1) ct (.Assign ts e w1)=(match ts with
   | [.Name x _]=>match loc ct x with
    | some i=>.asg i (ct.M.contains i) (Bu ct x e++i8 n ct e) (af n ct e)
    | none=>.never
   | _=>.never):=rfl
theorem qm:mE (n+1) ct (.If c a b w1)=(.ife (jX n ct c) (dv n ct a) (dv n ct b)):=rfl
theorem qo:mE (n+1) ct (.For tg it body els w1)=(match els with
   | []=>match rE ct tg with
    | some (is,one)=>.forr is one (Bv n ct it) (rF n ct (!one) it) (dv n ct body)
    | none=>.never
   | _=>.never):=rfl
theorem qi:mE (n+1) ct (.While c body els w1)=(match els with
   | []=>.whil (jX n ct c) (dv n ct body)
   | _=>.never):=rfl
theorem qk:mE (n+1) ct (.Pass w1)=(.pass):=rfl
theorem qr:mE (n+1) ct (.Break w1)=(.brk):=rfl
theorem qq:mE (n+1) ct (.Continue w1)=(.cont):=rfl
theorem qp:mE (n+1) ct (.Expr e w1)=(match e with
   | .Call (.Attribute (.Name x _) m ap) es [] cp=>if ap.endLine==cp.line then(match loc ct x with
    | some i=>(match es with
     | [a]=>if isStar a then .never else if m==("append":Str)then .app i (i8 n ct a) (af n ct a)else if m==("extend":Str)then .ext i (af n ct a)else .never
     | [a,b]=>if isStar a||isStar b then .never else if m==("insert":Str)then .ins i (af n ct a) (af n ct b)else .never
     | _=>.never)
    | none=>.never)else .never
   | _=>.never):=rfl
theorem z2b:dv 0 w0 w1=.cons .never .nil:=rfl
theorem z2d:dv (n+1) ct ([])=(.nil):=rfl
theorem z2c:dv (n+1) ct (s::ss)=(.cons (mE n ct s) (dv n ct ss)):=rfl
end
end IR
namespace L2
open PySem PySem.Spec PyProof.Rows
section
variable{X:Cx}
theorem vX:dM X (binaryOp .Add) (fun x y H Q=>∃(l b:Addr)(xs zs:List V),x=.ref l/\y=.ref b/\ao X.K H l xs/\ao X.K H b zs/\xs.length+zs.length<=sizeLine/\∀p,H p=none->Q (.ref p) (upd H p (.lst (xs++zs)))):=by
 intro pins s σ H x y v u Q I rx ry h;obtain⟨l,b,xs,zs,rfl,rfl,hH,hB,hz,q⟩:=h;cases rx;cases ry;obtain⟨its,r,pl,_⟩:=I.list hH;obtain⟨its2,r2,pl2,_⟩:=I.list hB;have hl:=r.length;have hl2:=r2.length;obtain⟨⟨cls,dd,data,sl⟩,ho,hc,n,hd⟩:=id pl.isList;obtain⟨⟨cls2,dd2,data2,je⟩,ho2,hc2,n2,hd2⟩:=id pl2.isList;simp only at hc hd hc2 hd2;subst hc hd hc2 hd2;have e:its.toArray++its2.toArray=(its++its2).toArray:=by simp
 refine concat_meets ⟨_,ho,rfl⟩ ⟨_,ho2,rfl⟩ noFill_list_add seq_list_add PySem.F.slot_list_add PySem.F.entry_list_add (PySem.F.args_list_add_2 _ _) (list_addW l b its.toArray its2.toArray n n2 dd dd2 sl je (by rw[CN,CN];omega)) ⟨ho,ho2,?_⟩;rw[e];exact⟨.ref _,_,I.lnew (t' :=s.toks) (r.append r2) (by rw[CP];omega),rfl,q _ I.fresh⟩
theorem vV:dM X (binaryOp .Add) (fun x y H Q=>∃(a b:Addr)(xs ys:List V),x=.ref a/\y=.ref b/\bQ X.K H a xs/\bQ X.K H b ys/\xs.length+ys.length<=sizeLine/\∀p H',aA H H' ->bQ X.K H' p (xs++ys)->Q (.ref p) H'):=by
 intro pins s σ H x y u v Q I rx ry h;obtain⟨a,b,xs,ys,rfl,rfl,ha,hb,hz,q⟩:=h
 by_cases hx:xs=[]
 ·subst hx
  cases rx;cases ry;obtain⟨its,r1,p1,_⟩:=I.tuple ha;obtain⟨its2,r2,p2,_⟩:=I.tuple hb;cases r1;obtain⟨⟨cls,dd,data,sl⟩,ho,hc,n,hd⟩:=id p1;obtain⟨⟨cls2,dd2,data2,je⟩,ho2,hc2,n2,hd2⟩:=id p2;simp only at hc hd hc2 hd2;subst hc hd hc2 hd2
  exact concat_meets ⟨_,ho,rfl⟩ ⟨_,ho2,rfl⟩ noFill_tuple_add seq_tuple_add PySem.F.slot_tuple_add PySem.F.entry_tuple_add (FT _ _)
   (tuple_addW0 a b #[] its2.toArray n n2 dd dd2 sl je rfl) ⟨ho,ho2,⟨.ref b,H,I,rfl,q b H (aA.refl H) hb⟩⟩
 ·refine vW pins s σ H (.ref a) (.ref b) u v Q I rx ry ⟨a,b,xs,ys,rfl,rfl,ha,hb,hx,hz,fun e=> ?_,fun _ p hp=>q p _ (aH hp _) (bQ.of aW)⟩
  subst e;exact q a H (aA.refl H) (by rw[DL];exact ha)
theorem uy:AO X (fun x lo hi H Q=>∃a xs,x=.ref a/\bQ X.K H a xs/\(HT.bC xs.length 0 lo=0/\HT.bC xs.length xs.length hi=xs.length)/\Q (.ref a) H):=by
 intro pins s σ H x v vl vu lo hi sl Q I rx hs pl pu h;obtain⟨a,xs,rfl,hx,hw,q⟩:=h;cases rx;obtain⟨its,r,ht,hz⟩:=I.tuple hx;have hlen:its.toArray.size=xs.length:=by rw[CN];exact r.length.symm
 refine⟨"tuple",_,DP.lookup,ht.typeIs,?_⟩;obtain⟨os,hos,hcs,hds⟩:=id hs;have hTs:s.TypeIs (.ref sl) "slice":=⟨os,hos,hcs⟩;unfold getItem
 try with_reducible refine EJ ?_
 first|refine CJ (Ce ?_)|skip
 refine CJ (wpAny_sequenceKey ht.typeIs (by decide) ?_)
 refine CJ (Et (name:=Str.ofString "__getitem__") ht.typeIs DP
  (EL DP ht.typeIs entry_tuple_getitem ?_ (args_tuple_getitem _ _)))
 show wpAny _ _ (Builtin.Tuple.tupleItemsOf (.ref a) >>= _) _ _ s;refine CJ (tupleItemsOf_ ht ?_);refine CJ (wpAny_typeOf hTs ?_);rw[CQ (by decide)];refine CJ (HT.cZ hs pl pu ?_);rw[<- hlen]at hw;show wpAny _ _ (if(((HT.bC its.toArray.size 0 lo:Nat):Int)==0&&(1:Int)==1&&(HT.bC its.toArray.size its.toArray.size hi-HT.bC its.toArray.size 0 lo)==its.toArray.size)=true then _ else _) _ _ s;rw[CQ (by rw[hw.1,hw.2];simp)];unfold Builtin.Tuple.tupleIsExact;refine CJ (CJ (wpAny_typeOf ht.typeIs (Ce ?_)));rw[CQ (by decide)];exact CJ (Ep (Ce ⟨_,rfl,Ce ⟨.ref a,H,I,rfl,q⟩⟩))
theorem kL{v:V}{u:Value}(r:RelV v u):∀n:Nat,aK (List.replicate n v) (List.replicate n u)
 | 0=>.nil
 | n+1=>.cons r (kL r n)
theorem sU:dM X (binaryOp .Mult) (fun x y H Q=>∃(a:Addr)(v:V)(N:Int),x=.ref a/\y=.int N/\2<=N/\N<=8/\bQ X.K H a [v]/\∀p,H p=none->Q (.ref p) (upd H p (.tup (List.replicate N.toNat v)))):=by
 intro pins s σ H x y u v' Q I rx ry h;obtain⟨a,v,N,rfl,rfl,n3,n8,ha,q⟩:=h;cases rx;obtain⟨t,rfl⟩:=ry;obtain⟨its,r,ht,hz⟩:=I.tuple ha;obtain⟨u,rfl,ru⟩:=vals1 r;obtain⟨⟨cls,dd,data,sl⟩,ho,hc,n,hd⟩:=id ht;simp only at hc hd;subst hc hd
 refine wpAny_binaryOp_repeat_ref (T:="tuple") (U:="int") (by decide) ⟨_,ho,rfl⟩ (fun s' =>typeIs_int s' N t) fZ F.fills_int_mul F.slot_int_rmul ji F.slot_int_index.lookup
  (Er F.slot_int_rmul (typeIs_int s N t) F.entry_int_rmul (F.args_int_rmul_2 _ _) (mU N t a _ n dd sl) ⟨ho,rfl,⟨_,ho,rfl⟩,Er F.slot_tuple_mul ⟨_,ho,rfl⟩ F.entry_tuple_mul (F.args_tuple_mul_2 _ _) (mI a u n dd sl t N n3 n8) ⟨ho,?_⟩⟩)
 refine⟨.ref s.heap.objs.size,_,I.laid (t' :=s.toks) (o:=.tup (List.replicate N.toNat v)) (fun b ob q=>CL _ q) (CO _) ?_,rfl,q _ (I.hok.fresh (CO _))⟩;have z:N.toNat<=8:=by omega
 exact⟨by rw[Dh];exact DF z (by decide),_,kL ru _,dD.new _ _⟩
end
end L2
namespace IR
open PySem PySem.Spec PyProof.Rows L2
noncomputable abbrev WE(X:Cx)(e:Expr)(σ:L2.St)(H:Hp)(Q:VK):Prop:=∀(pins:List (Addr×Obj))(s:Shared),Inv X pins σ H s->wpAny (model X.prog X.w) X.A (eval e X.env) (EP X pins σ Q) X.xe s
noncomputable abbrev WT(X:Cx)(e:Expr)(σ:L2.St)(H:Hp)(Q:Bool->Hp->Prop):Prop:=∀(pins:List (Addr×Obj))(s:Shared),Inv X pins σ H s->wpAny (model X.prog X.w) X.A (isTrue e X.env (eval e X.env)) (TP X pins σ Q) X.xe s
noncomputable abbrev WA(X:Cx)(es:List Expr)(σ:L2.St)(H:Hp)(Q:List V->Hp->Prop):Prop:=∀(pos:Pos)(pins:List (Addr×Obj))(s:Shared),Inv X pins σ H s->wpAny (model X.prog X.w) X.A (spliced (backTo pos (starEach es X.env))) (AP X pins σ Q) X.xe s
theorem aU{X:Cx}{e:Expr}:PE X e (fun σ H Q=>WE X e σ H Q):=fun pins s σ H Q I h=>h pins s I
theorem iq{X:Cx}{e:Expr}:PT X e (fun σ H Q=>WT X e σ H Q):=fun pins s σ H Q I h=>h pins s I
theorem mf{X:Cx}{e:List Expr}:PA X e (fun σ H Q=>WA X e σ H Q):=fun pos pins s σ H Q I h=>h pos pins s I
theorem we{X:Cx}{e:Expr}{t:TE}{σ:L2.St}{H:Hp}{Q:VK}(h:PE X e t)(q:t σ H Q):WE X e σ H Q:=fun pins s I=>h pins s σ H Q I q
theorem wt{X:Cx}{e:Expr}{t:TT}{σ:L2.St}{H:Hp}{Q:Bool->Hp->Prop}(h:PT X e t)(q:t σ H Q):WT X e σ H Q:=fun pins s I=>h pins s σ H Q I q
theorem wa{X:Cx}{e:List Expr}{t:TA}{σ:L2.St}{H:Hp}{Q:List V->Hp->Prop}(h:PA X e t)(q:t σ H Q):WA X e σ H Q:=fun pos pins s I=>h pos pins s σ H Q I q
noncomputable def ub(K:W.Frag)(m:List PV->Option PV):Sp:=fun vs H Q _=>∃pvs r,aD K H false pvs H vs/\m pvs=some r/\∀u H',aA H H' ->Rp K H true r H' u->Q u H'
structure bB(cd:Nat->List PV->Option PV)(X:Cx)(ct:Ct):Prop where
 N:X.N=ct.N
 nd:ct.N.Nodup
 S:X.env.scope.names=ct.S
 kind:X.env.scope.kind=.function
 calm:X.calm=true
 glob:∀x v,ct.G.lookup x=some v->∃u w,X.mg x=some u/\RelV w u/\∀Hi n H,Rp X.K Hi n v H w
 bl:∀x,ct.B.contains x=true->X.mg x=none
 fns:∀x f,ct.F.lookup x=some f->∃k a fd ps,bt X.prog X.w X.K X.mg X.base jD k a fd ps (ub X.K (cd f))/\eQ k X.A/\X.mg x=some (.ref a)/\W.keepIn X.K (.ref a)=true/\Binds X.K fd ps []
 xe:PassesOwn (model X.prog X.w) X.A X.env X.xe
 un:X.A.units+64<cLine
section
variable{X:Cx}{Hi:Hp}{τ:En}
variable(X Hi τ)in
noncomputable def aE(e:Expr)(r:RV):Prop:=∀(O:List Addr)(σ:L2.St)(H:Hp)(Q:VK),aQ X.K Hi O τ σ H->(∀u H',aA H H' ->aT X.K Hi O H H' r u->Q u H')->WE X e σ H Q
variable(X Hi τ)in
noncomputable def de(e:Expr)(b:Bool):Prop:=∀(O:List Addr)(σ:L2.St)(H:Hp)(Q:Bool->Hp->Prop),aQ X.K Hi O τ σ H->(∀H',aA H H' ->Q b H')->WT X e σ H Q
variable(X Hi)in
noncomputable def bZ(O:List Addr)(H H' :Hp):List RV->List V->Prop
 | [],us=>us=[]
 | r::rs,us=>∃u vs,us=u::vs/\aT X.K Hi O H H' r u/\bZ O H H' rs vs
variable(X Hi τ)in
noncomputable def kK(es:List Expr)(rs:List RV):Prop:=∀(O:List Addr)(σ:L2.St)(H:Hp)(Q:List V->Hp->Prop),aQ X.K Hi O τ σ H->(∀us H',aA H H' ->bZ X Hi O H H' rs us->Q us H')->WA X es σ H Q
theorem bW:sizeLine=16777216:=DX
theorem bZ.ext{O:List Addr}{H H' H2:Hp}(s:aA H' H2):∀{rs:List RV}{us:List V},bZ X Hi O H H' rs us->bZ X Hi O H H2 rs us
 | [],_,h=>h
 | r::rs,_,h=>by
  obtain⟨u,vs,e,a,b⟩:=h;exact⟨u,vs,e,a.ext s,bZ.ext s b⟩
theorem bZ.back{O:List Addr}{H0 H H' :Hp}(s:aA H0 H):∀{rs:List RV}{us:List V},bZ X Hi O H H' rs us->bZ X Hi O H0 H' rs us
 | [],_,h=>h
 | r::rs,_,h=>by
  obtain⟨u,vs,e,a,b⟩:=h;exact⟨u,vs,e,a.back s,bZ.back s b⟩
theorem bZ.vals{O:List Addr}{σ:L2.St}{H H' :Hp}(R:aQ X.K Hi O τ σ H)(s:aA H H'):∀{rs:List RV}{us:List V},bZ X Hi O H H' rs us->aD X.K Hi false (rs.map RV.val) H' us
 | [],_,h=>by cases h;exact .nil
 | r::rs,_,h=>by
  obtain⟨u,vs,rfl,a,b⟩:=h;exact .cons (a.val R s) (bZ.vals R s b)
theorem bZ.keeps{O:List Addr}{σ:L2.St}{H H' :Hp}(R:aQ X.K Hi O τ σ H)(s:aA H H'):∀{rs:List RV}{us:List V}{vs:List PV}{n:Bool},bZ X Hi O H H' rs us->IR.keeps rs=some (vs,n)->aD X.K Hi n vs (aI H' O) us
 | [],_,_,_,h,e=>by cases h;cases e;exact .nil
 | r::rs,_,vs,n,h,e=>by
  obtain⟨u,ws,rfl,a,b⟩:=h;unfold IR.keeps at e;cases hk:r.keep with
  | none=>rw[hk]at e;cases e
  | some p =>
   obtain⟨v,n1⟩:=p;rw[hk]at e;cases hs:IR.keeps rs with
   | none=>rw[hs]at e;cases e
   | some p =>
    obtain⟨vs',n2⟩:=p;rw[hs]at e;cases e;refine .cons ((a.keep R s hk).low fun z=> ?_) ((bZ.keeps R s b hs).low fun z=> ?_)
    ·rw[CK]at z;exact z.1
    ·rw[CK]at z;exact z.2
theorem eC{v:PV}{u:V}{O:List Addr}{H H' :Hp}(h:∀G,Rp X.K Hi true v G u):aT X.K Hi O H H' (sc v) u:=h _
theorem tq{c:Const}{k:Nat}{pos:Pos}{r:RV}{cd:Nat->List PV->Option PV}(h:aS cd (jW c) τ=some r):aE X Hi τ (.Constant c k pos) r:=by
 intro O σ H Q R q;cases c with
 | int i =>
  cases h;exact we iD (q _ _ (aA.refl _) (eC fun _=>Rp.int.mpr rfl))
 | bool b =>
  cases h;exact we wo (q _ _ (aA.refl _) (eC fun _=>Rp.bl.mpr rfl))
 | str b =>
  cases h;exact we me (q _ _ (aA.refl _) (eC fun _=>Rp.str.mpr rfl))
 | none =>
  cases h;exact we yI (q _ _ (aA.refl _) (eC fun _=>Rp.non.mpr rfl))
 | _=>cases h
theorem gr{S:List (Str×NameKind)}{sc:Scope}(e:sc.names=S){x:Str}(h:AW S x=true):B6 sc x:=by
 unfold AW at h;unfold B6;rw[e]
 simpa [Do,or_assoc]using h
theorem bI{x:Str}(h:qa x=false):(x==("__debug__":Str))=false/\(x==("__classdict__":Str))=false/\x≠"__name__":=by
 unfold qa at h;simp only[Bool.or_eq_false_iff]at h;exact⟨h.1.1,h.1.2,fun e=>by rw[e]at h;simp at h⟩
theorem vc{cd:Nat->List PV->Option PV}{ct:Ct}(C:bB cd X ct){x:Str}{pos:Pos}{r:RV}(h:aS cd (jV ct x) τ=some r):aE X Hi τ (.Name x pos) r:=by
 intro O σ H Q R q;unfold jV at h
 split at h
 ·simp[cC,bu,cF,cQ,cD,cH,bx,bz,cR,cE,cG,b8,b9,bv,cS,cT,cB,cO,cA,cP]at h
 rename_i ho;obtain⟨o1,o2,o3⟩:=bI (Dn.mpr ho)
 split at h
 ·rename_i hv
  cases hs:slot ct.N x with
  | none=>rw[hs]at h;simp[cC,bu,cF,cQ,cD,cH,bx,bz,cR,cE,cG,b8,b9,bv,cS,cT,cB,cO,cA,cP]at h
  | some i =>
   rw[hs]at h;have h:lJ τ i=some r:=by simpa [cC,bu,cF,cQ,cD,cH,bx,bz,cR,cE,cG,b8,b9,bv,cS,cT,cB,cO,cA,cP]using h
   refine we (fW (by rw[C.N];exact di hs) (gr C.S hv) o1 o2) ?_;unfold lJ at h;cases ht:τ[i]? with
   | none=>rw[ht]at h;cases h
   | some t =>
    rw[ht]at h;cases t with
    | un=>cases h
    | frz v n =>
     cases h;obtain⟨u,h1,h2⟩:=R.frz i v n ht;exact⟨u,h1,q u H (aA.refl _) h2⟩
    | own xs n =>
     cases h;obtain⟨l,us,h1,h2,h3,h4⟩:=R.owns i xs n ht;refine⟨_,h1,q _ H (aA.refl _) ?_⟩;refine Rp.lst.mpr ⟨l,us,rfl,(fun z=>absurd z CT),ao.of h3,h4.weak.mono fun b o e=> ?_⟩;unfold aI at e
     split at e
     ·cases e
     ·rename_i nb
      unfold del;have ne:b≠l:=fun z=>nb (z▸h2);rw[CM ne];exact e
    | owd b xs n =>
     cases h;obtain⟨l,us,o,h1,h2,h3,ha,h4⟩:=R.obs i _ b xs n ht rfl;refine⟨_,h1,q _ H (aA.refl _) ?_⟩;refine Rp.at (fun z=>absurd z CT) h3 ha (h4.weak.mono fun c o e=> ?_);unfold aI at e
     split at e
     ·cases e
     ·rename_i nb
      unfold del;have ne:c≠l:=fun z=>nb (z▸h2);rw[CM ne];exact e
 ·split at h
  ·rename_i hg
   cases hx:ct.G.lookup x with
   | none=>rw[hx]at h;simp[cC,bu,cF,cQ,cD,cH,bx,bz,cR,cE,cG,b8,b9,bv,cS,cT,cB,cO,cA,cP]at h
   | some v =>
    rw[hx]at h;have h:some (sc v)=some r:=by simpa [cC,bu,cF,cQ,cD,cH,bx,bz,cR,cE,cG,b8,b9,bv,cS,cT,cB,cO,cA,cP]using h
    cases h;obtain⟨u,w,h1,h2,h3⟩:=C.glob x v hx;have g:Gl X x:=by
     show X.env.scope.names.lookup x=_;rw[C.S]
     simpa using hg
    exact we (vR g h1 h2 o1) (q _ _ (aA.refl _) (eC fun _=>h3 _ _ _))
  ·simp[cC,bu,cF,cQ,cD,cH,bx,bz,cR,cE,cG,b8,b9,bv,cS,cT,cB,cO,cA,cP]at h
theorem dW{a b:Expr}{op:Operator}{pos:Pos}{x y r:RV}{rr:R2}(ho:dM X (binaryOp op) rr)(ha:aE X Hi τ a x)(hb:aE X Hi τ b y)
  (k:∀(O:List Addr)(σ:L2.St)(H H2:Hp)(u v:V)(Q:VK),aQ X.K Hi O τ σ H->aA H H2->aT X.K Hi O H H2 x u->aT X.K Hi O H H2 y v->(∀w H3,aA H2 H3->aT X.K Hi O H H3 r w->Q w H3)->rr u v H2 Q) :
  aE X Hi τ (.BinOp a op b pos) r:=by
 intro O σ H Q R q;refine we (A6 ho aU aU) ?_;refine ha O σ H _ R fun u H1 s1 r1=>hb O σ H1 _ (R.ext s1) fun v H2 s2 r2=> ?_;exact k O σ H H2 u v Q R (s1.trans s2) (r1.ext s2) (r2.back s1) fun w H3 s3 r3=>q w H3 (s1.trans (s2.trans s3)) r3
theorem aT.int{O:List Addr}{σ:L2.St}{H H' :Hp}{x:RV}{u:V}{i:Int}(R:aQ X.K Hi O τ σ H)(s:aA H H')(h:aT X.K Hi O H H' x u)(e:x.val=.int i):u=.int i:=by
 have z:=h.val R s;rw[e]at z;exact Rp.int.mp z
theorem aT.str{O:List Addr}{σ:L2.St}{H H' :Hp}{x:RV}{u:V}{i:Str}(R:aQ X.K Hi O τ σ H)(s:aA H H')(h:aT X.K Hi O H H' x u)(e:x.val=.str i):u=.str i:=by
 have z:=h.val R s;rw[e]at z;exact Rp.str.mp z
theorem aT.bl{O:List Addr}{σ:L2.St}{H H' :Hp}{x:RV}{u:V}{i:Bool}(R:aQ X.K Hi O τ σ H)(s:aA H H')(h:aT X.K Hi O H H' x u)(e:x.val=.bl i):u=.bl i:=by
 have z:=h.val R s;rw[e]at z;exact Rp.bl.mp z
theorem aT.tup{O:List Addr}{σ:L2.St}{H H' :Hp}{x:RV}{u:V}{ys:List PV}(R:aQ X.K Hi O τ σ H)(s:aA H H')(h:aT X.K Hi O H H' x u)(e:x.val=.tup ys):∃p us,u=.ref p/\bQ X.K H' p us/\aD X.K Hi false ys H' us:=by
 have z:=h.val R s;rw[e]at z;exact Rp.tup.mp z
theorem aT.lst{O:List Addr}{σ:L2.St}{H H' :Hp}{x:RV}{u:V}{ys:List PV}(R:aQ X.K Hi O τ σ H)(s:aA H H')(h:aT X.K Hi O H H' x u)(e:x.val=.lst ys):∃p us,u=.ref p/\ao X.K H' p us/\aD X.K Hi false ys H' us:=by
 have z:=h.val R s;rw[e]at z;obtain⟨p,us,h1,_,h2,h3⟩:=Rp.lst.mp z;exact⟨p,us,h1,h2,h3.mono al⟩
theorem aT.itsL{O:List Addr}{σ:L2.St}{H H' :Hp}{r:RV}{u:V}{xs ys:List PV}{n:Bool}(R:aQ X.K Hi O τ σ H)(s:aA H H')(h:aT X.K Hi O H H' r u)(e:r.its=some (xs,n))(ev:r.val=.lst ys) :
  ∃p us,u=.ref p/\ao X.K H' p us/\aD X.K Hi n xs (aI H' O) us:=by
 obtain⟨p,us,h1,h2,h3⟩:=h.its R s e
 rcases h2 with⟨h2,_⟩|⟨_,zs,h2⟩
 ·exact⟨p,us,h1,h2,h3⟩
 ·rw[ev]at h2
  cases h2
theorem aT.itsT{O:List Addr}{σ:L2.St}{H H' :Hp}{r:RV}{u:V}{xs ys:List PV}{n:Bool}(R:aQ X.K Hi O τ σ H)(s:aA H H')(h:aT X.K Hi O H H' r u)(e:r.its=some (xs,n))(ev:r.val=.tup ys) :
  ∃p us,u=.ref p/\bQ X.K H' p us/\aD X.K Hi n xs (aI H' O) us:=by
 obtain⟨p,us,h1,h2,h3⟩:=h.its R s e
 rcases h2 with⟨_,zs,h2⟩|⟨h2,_⟩
 ·rw[ev]at h2
  cases h2
 ·exact⟨p,us,h1,h2,h3⟩
theorem cM{O:List Addr}{H H2:Hp}{xs:List PV}{n:Bool}{p:Addr}{us:List V}(s:aA H H2)(hp:H2 p=none)(r:aD X.K Hi n xs (aI H2 O) us):aT X.K Hi O H (L2.upd H2 p (.lst us)) (.own xs n) (.ref p):=by
 refine⟨p,us,rfl,s.free hp,aW,r.mono (aC fun b o e=> ?_)⟩;have ne:=aP e hp;unfold del;rw[CM ne,aF ne];exact e
theorem gn{O:List Addr}{σ:L2.St}{H H2:Hp}{p:Addr}{o:HO}(R:aQ X.K Hi O τ σ H)(s:aA H H2)(hp:H2 p=none):aI (L2.upd H2 p o) O p=some o:=by
 unfold aI;rw[CM fun z=> ?_]
 ·exact aW
 ·obtain⟨us,e,_⟩:=(R.own p z).2
  rw[s _ _ e]at hp;cases hp
theorem oT{O:List Addr}{σ:L2.St}{H H2:Hp}{p:Addr}{us:List V}(R:aQ X.K Hi O τ σ H)(s:aA H H2)(h:bQ X.K H2 p us):bQ X.K (aI H2 O) p us:=(R.ext s).tups.at h
theorem vi{n m:Bool}{xs ys:List PV}{H:Hp}{us vs:List V}(a:aD X.K Hi n xs H us)(b:aD X.K Hi m ys H vs):aD X.K Hi (n&&m) (xs++ys) H (us++vs):=by
 refine aD.app (a.low fun z=> ?_) (b.low fun z=> ?_)
 ·rw[CK]at z;exact z.1
 ·rw[CK]at z;exact z.2
theorem uc{O:List Addr}{H H' :Hp}{i:Int}:aT X.K Hi O H H' (sc (.int i)) (.int i):=eC fun _=>Rp.int.mpr rfl
theorem xc{O:List Addr}{H H' :Hp}{i:Bool}:aT X.K Hi O H H' (sc (.bl i)) (.bl i):=eC fun _=>Rp.bl.mpr rfl
theorem AJ{O:List Addr}{H H' :Hp}{i:Str}:aT X.K Hi O H H' (sc (.str i)) (.str i):=eC fun _=>Rp.str.mpr rfl
theorem oK{xs:List PV}{n:Bool}{r:RV}(h:gN xs n=some r):xs.length<=LN/\r=.own xs n:=by
 unfold gN at h
 split at h
 ·rename_i e;cases h;exact⟨e,rfl⟩
 ·cases h
theorem jq{xs:List PV}{n:Bool}{r:RV}(h:kq xs n=some r):xs.length<=LN/\r=.frz (.tup xs) n:=by
 unfold kq at h
 split at h
 ·rename_i e;cases h;exact⟨e,rfl⟩
 ·cases h
theorem binI{a b:Expr}{op:Operator}{pos:Pos}{x y:RV}{i j:Int}{C:Int->Int->Prop}{g:Int->Int->V}{w:PV}(ho:dM X (binaryOp op) (rI C g))(ha:aE X Hi τ a x)(hb:aE X Hi τ b y)(ex:x.val=.int i)(ey:y.val=.int j)(c:C i j)
  (hg:∀G,Rp X.K Hi true w G (g i j)):aE X Hi τ (.BinOp a op b pos) (sc w) :=
 dW ho ha hb fun O σ H H2 u v Q R s ru rv q=>⟨i,j,ru.int R s ex,rv.int R s ey,c,q _ _ (aA.refl _) (eC hg)⟩
theorem xF{a b:Expr}{op:Operator}{pos:Pos}{x y:RV}{i j:Int}{g:Int->Int->V}{w:PV}(ho:dM X (binaryOp op) (vG g))(ha:aE X Hi τ a x)(hb:aE X Hi τ b y)(ex:x.val=.int i)(ey:y.val=.int j)
  (hg:∀G,Rp X.K Hi true w G (g i j)):aE X Hi τ (.BinOp a op b pos) (sc w) :=
 dW ho ha hb fun O σ H H2 u v Q R s ru rv q=>⟨i,j,ru.int R s ex,rv.int R s ey,q _ _ (aA.refl _) (eC hg)⟩
theorem lM(a:Array Nat):∀(m:Nat)(acc:Array Nat),((List.replicate m a).foldl (·++·) acc).toList=acc.toList++(List.replicate m a.toList).flatten
 | 0,acc=>by simp
 | m+1,acc=>by
  rw[DM,Ey,lM a m,DM,Cz];simp
theorem yb{z:Str}{n:Nat}:Txt.mul z (n:Int)=(⟨(List.replicate n z.cps.toList).flatten.toArray⟩:Str):=by
 refine UM.jb ?_;unfold Txt.mul
 split
 ·rename_i c
  have:n=0:=by omega
  subst this;rfl
 ·split
  ·rename_i c1 c
   rcases(Do ..).mp c with c|c
   ·have:n=1:=by
     have:=EV.mp c;omega
    subst this;simp
   ·have e:z.cps.toList=[]:=EF.mp (by have:=EV.mp c;simpa [Str.length]using this)
    show z.cps.toList=(List.replicate n z.cps.toList).flatten;rw[e];simp
  ·rw[FQ]
   have:=lM z.cps n #[]
   simpa using this
theorem aD.rep{n:Bool}{xs:List PV}{H:Hp}{us:List V}(h:aD X.K Hi n xs H us):∀k:Nat,aD X.K Hi n (List.replicate k xs).flatten H (List.replicate k us).flatten
 | 0=>by simp;exact .nil
 | k+1=>by
  rw[DM,Cz,DM,Cz];exact h.app (aD.rep h k)
theorem aD.rep1{K:W.Frag}{Hi:Hp}{n:Bool}{x:PV}{H:Hp}{u:V}(a:Rp K Hi n x H u):∀m:Nat,aD K Hi n (List.replicate m [x]).flatten H (List.replicate m u)
 | 0=>.nil
 | m+1=>by
  rw[DM,Cz];exact .cons a (aD.rep1 a m)
theorem uH{a b:Expr}{op:Operator}{pos:Pos}{x y r:RV}(ha:aE X Hi τ a x)(hb:aE X Hi τ b y)(h:dU op x y=some r):aE X Hi τ (.BinOp a op b pos) r:=by
 cases op with
 | Add =>
  have h:nZ x y=some r:=h;unfold nZ at h
  split at h
  case h_1 i j e1 e2=>cases h;exact xF yT ha hb e1 e2 fun _=>Rp.int.mpr rfl
  case h_2 i j e1 e2 =>
   split at h
   ·rename_i hz
    cases h;exact dW mh ha hb fun O σ H H2 u v Q R s ru rv q=>⟨i,j,ru.str R s e1,rv.str R s e2,by rw[bW];exact hz,q _ _ (aA.refl _) AJ⟩
   ·cases h
  case h_3 e1 e2 =>
   split at h
   ·rename_i xs n ys m ix iy
    obtain⟨hz,rfl⟩:=oK h;refine dW vX ha hb fun O σ H H2 u v Q R s ru rv q=> ?_;obtain⟨p,us,rfl,l1,r1⟩:=ru.itsL R s ix e1;obtain⟨p2,us2,rfl,l2,r2⟩:=rv.itsL R s iy e2;have z1:=r1.len;have z2:=r2.len;rw[CP]at hz;exact⟨p,p2,us,us2,rfl,rfl,l1,l2,by rw[bW,<-z1,<-z2];exact hz,fun p3 hp=>q _ _ (aH hp _) (cM s hp (vi r1 r2))⟩
   ·cases h
  case h_4 e1 e2 =>
   split at h
   ·rename_i xs n ys m ix iy
    obtain⟨hz,rfl⟩:=jq h;refine dW vV ha hb fun O σ H H2 u v Q R s ru rv q=> ?_;obtain⟨p,us,rfl,l1,r1⟩:=ru.itsT R s ix e1;obtain⟨p2,us2,rfl,l2,r2⟩:=rv.itsT R s iy e2;have z1:=r1.len;have z2:=r2.len;rw[CP]at hz;exact⟨p,p2,us,us2,rfl,rfl,l1,l2,by rw[bW,<-z1,<-z2];exact hz,fun p3 H3 s3 l3=>q _ _ s3 (Rp.tup.mpr ⟨p3,_,rfl,oT R (s.trans s3) l3,(vi r1 r2).mono (aC s3)⟩)⟩
   ·cases h
  case h_5=>cases h
 | Sub =>
  have h:nX x y=some r:=h;unfold nX at h
  split at h
  case h_1 i j e1 e2=>cases h;exact xF yK ha hb e1 e2 fun _=>Rp.int.mpr rfl
  case h_2=>cases h
 | Mult =>
  have h:kE x y=some r:=h;unfold kE at h
  split at h
  case h_1 i j e1 e2 =>
   split at h
   ·rename_i c
    cases h;exact binI yO ha hb e1 e2 c fun _=>Rp.int.mpr rfl
   ·split at h
    ·rename_i c
     cases h;exact binI vU ha hb e1 e2 c fun _=>Rp.int.mpr rfl
    ·cases h
  case h_2 k e1 e2 =>
   split at h
   ·rename_i xs n
    split at h
    ·rename_i c
     cases h;refine dW yM ha hb fun O σ H H2 u v Q R s ru rv q=> ?_;obtain⟨p,us,rfl,l0,l1,r1⟩:=ru;have z1:=r1.len;refine⟨p,k,us,rfl,rv.int R s e2,l1,by omega,by omega,by rw[bW,<-z1];exact c.2.2,fun p3 hp=>q _ _ (aH hp _) (cM s hp ((r1.mono (aC al)).rep _))⟩
    ·cases h
   ·cases h
  case h_3 k e1 e2 =>
   split at h
   ·rename_i xs n ix
    split at h
    ·rename_i c
     obtain⟨n3,n8,c2⟩:=c;obtain⟨hz,rfl⟩:=jq h;refine dW sU ha hb fun O σ H H2 u v Q R s ru rv q=> ?_;obtain⟨p,us,rfl,l1,r1⟩:=ru.itsT R s ix e1;obtain⟨x1,rfl⟩:∃x1,xs=[x1]:=by
      match xs,c2 with
      | [x1],_=>exact⟨x1,rfl⟩
     have r1' :=r1;unfold aD at r1';obtain⟨u1,us',rfl,a1,b1⟩:=r1';unfold aD at b1;subst b1;refine⟨p,u1,k,rfl,rv.int R s e2,n3,n8,l1,fun p3 hp=>q _ _ (aH hp _) (Rp.tup.mpr ⟨p3,_,rfl,bQ.of (gn R s hp),?_⟩)⟩;exact aD.rep1 (Rp.mono (aC (O:=O) (aH hp (.tup (List.replicate k.toNat u1)))) a1) _
    ·cases h
   ·cases h
  case h_4 z k e1 e2 =>
   split at h
   ·rename_i c
    cases h;refine dW (rr:=fun x y H Q=>∃(z:Str)(n:Nat),x=.str z/\y=.int n/\z.length<=16/\n<=1000/\Q (.str (Txt.mul z (n:Int))) H) ?_ ha hb fun O σ H H2 u v Q R s ru rv q=> ?_
    ·intro pins s σ H x y u v Q I rx ry h
     obtain⟨z,n,rfl,rfl,hz,hn,q⟩:=h;obtain⟨t,rfl⟩:=rx;obtain⟨t',rfl⟩:=ry;exact SB.mul (mulOk_of 16 1048576 (by omega) (by omega) (by omega) (by decide) (by decide)) fun t2 k=>⟨.str _,H,I.tok _,⟨_,rfl⟩,q⟩
    ·refine⟨z,k.toNat,ru.str R s e1,by rw[rv.int R s e2];congr 1;omega,c.2.2,by omega,?_⟩
     rw[yb];exact q _ _ (aA.refl _) AJ
   ·cases h
  case h_5=>cases h
 | FloorDiv =>
  have h:dZ x y=some r:=h;unfold dZ at h
  split at h
  case h_1 i j e1 e2 =>
   split at h
   ·rename_i c
    cases h;exact binI sX ha hb e1 e2 ⟨c.1,Eb ((Nat.log2_lt (n:=j.natAbs) (k:=200) (by omega)).mpr (by omega)) (by decide)⟩ fun _=>Rp.int.mpr rfl
   ·cases h
  case h_2=>cases h
 | Mod =>
  have h:nY x y=some r:=h;unfold nY at h
  split at h
  case h_1 i j e1 e2 =>
   split at h
   ·rename_i c
    cases h;exact binI yP ha hb e1 e2 c fun _=>Rp.int.mpr rfl
   ·cases h
  case h_2=>cases h
 | LShift =>
  have h:fm x y=some r:=h;unfold fm at h
  split at h
  case h_1 i j e1 e2 =>
   split at h
   ·rename_i c
    cases h;exact binI yL ha hb e1 e2 c fun _=>Rp.int.mpr rfl
   ·cases h
  case h_2=>cases h
 | _=>exact absurd (show(none:Option RV)=some r from h) (by intro z;cases z)
mutual
theorem bP{pins:List (Addr×Obj)}{σ:L2.St}{H:Hp}{s:Shared}(I:Inv X pins σ H s):∀{a:PV}{n:Nat}{u:V}{u' :Value},eE n a=true->Rp X.K Hi false a H u->RelV u u' ->∃as,Reads s.heap u' (fN a) as
 | .non,_,_,_,_,r,e=>by cases Rp.non.mp r;cases e;exact⟨_,.none⟩
 | .bl b,_,_,_,_,r,e=>by cases Rp.bl.mp r;cases e;exact⟨_,.bool b⟩
 | .int i,_,_,_,_,r,e=>by cases Rp.int.mp r;obtain⟨t,rfl⟩:=e;exact⟨_,.int i t⟩
 | .str z,_,_,_,_,r,e=>by cases Rp.str.mp r;obtain⟨t,rfl⟩:=e;exact⟨_,.str z t⟩
 | .lst xs,n,_,_,f,r,e=>by
  obtain⟨p,us,rfl,_,l,r⟩:=Rp.lst.mp r;cases e;cases n with
  | zero=>cases f
  | succ n =>
   obtain⟨its,rv,pl,_⟩:=I.list l;obtain⟨as,z⟩:=c0 I (xs:=xs) (n:=n) f (r.mono al) rv;obtain⟨o,ho,hc,m,hd⟩:=pl.isList;exact⟨_,.list ho hc hd (by simpa using z)⟩
 | .tup xs,n,_,_,f,r,e=>by
  obtain⟨p,us,rfl,l,r⟩:=Rp.tup.mp r;cases e;cases n with
  | zero=>cases f
  | succ n =>
   obtain⟨its,rv,pl,_⟩:=I.tuple l;obtain⟨as,z⟩:=c0 I (xs:=xs) (n:=n) f r rv;obtain⟨o,ho,hc,m,hd⟩:=pl;exact⟨_,.tuple ho hc hd (by simpa using z)⟩
 | .dK _ _,n,_,_,f,_,_=>by cases n<;>cases f
 | .dT _ _,n,_,_,f,_,_=>by cases n<;>cases f
theorem c0{pins:List (Addr×Obj)}{σ:L2.St}{H:Hp}{s:Shared}(I:Inv X pins σ H s):∀{xs:List PV}{n:Nat}{us:List V}{us' :List Value},xs.all (eE n)=true->aD X.K Hi false xs H us->aK us us' ->∃as,ReadsAll s.heap us' (be xs) as
 | [],_,_,_,_,r,e=>by
  unfold aD at r;subst r;cases e;exact⟨_,.nil⟩
 | x::xs,n,_,_,f,r,e=>by
  unfold aD at r;obtain⟨u,us,rfl,r1,r2⟩:=r;cases e with
  | cons e1 e2 =>
   rw[FV,CK]at f;obtain⟨as,z⟩:=bP I f.1 r1 e1;obtain⟨bs,y⟩:=c0 I f.2 r2 e2;exact⟨_,.cons z y⟩
end
mutual
theorem cz:∀{a:PV}{n:Nat},eE n a=true->(fN a).canLay0=true/\(fN a).depth<=n
 | .non,n,_=>⟨rfl,DG _⟩
 | .bl _,n,_=>⟨rfl,DG _⟩
 | .int _,n,_=>⟨rfl,DG _⟩
 | .str z,n,h=>⟨by cases n<;>exact h,DG _⟩
 | .lst xs,0,h=>by cases h
 | .lst xs,n+1,h=>⟨(dR (xs:=xs) (n:=n) h).1,Nat.succ_le_succ (dR (xs:=xs) (n:=n) h).2⟩
 | .tup xs,0,h=>by cases h
 | .tup xs,n+1,h=>⟨(dR (xs:=xs) (n:=n) h).1,Nat.succ_le_succ (dR (xs:=xs) (n:=n) h).2⟩
 | .dK _ _,n,h=>by cases n<;>cases h
 | .dT _ _,n,h=>by cases n<;>cases h
theorem dR:∀{xs:List PV}{n:Nat},xs.all (eE n)=true->PyData.canLayAll0 (be xs)=true/\PyData.depthAll (be xs)<=n
 | [],n,_=>⟨rfl,DG _⟩
 | x::xs,n,h=>by
  rw[FV,CK]at h;obtain⟨a,b⟩:=cz h.1;obtain⟨c,d⟩:=dR h.2;refine⟨?_,?_⟩
  ·show((fN x).canLay0&&PyData.canLayAll0 (be xs))=true
   rw[a,c];rfl
  ·show max (fN x).depth (PyData.depthAll (be xs))<=n
   omega
end
mutual
theorem gp:∀(a b:PV),PyData.eqv (fN a) (fN b)=qH a b
 | .lst xs,b=>by
  cases b with
  | lst ys=>show PyData.eqvAll (be xs) (be ys)=nF xs ys;exact iU xs ys
  | _=>rfl
 | .tup xs,b=>by
  cases b with
  | tup ys=>show PyData.eqvAll (be xs) (be ys)=nF xs ys;exact iU xs ys
  | _=>rfl
 | .non,b=>by cases b<;>rfl
 | .bl x,b=>by cases b<;>first|rfl|exact beq_eq_decide _ _|(unfold qH;simp[fN,PyData.eqv,eqf,Bool.beq_eq_decide_eq])
 | .int x,b=>by cases b<;>first|rfl|exact beq_eq_decide _ _|(unfold qH;simp[fN,PyData.eqv,eqf,Bool.beq_eq_decide_eq])
 | .str x,b=>by cases b<;>first|rfl|exact beq_eq_decide _ _|(unfold qH;simp[fN,PyData.eqv,eqf,Bool.beq_eq_decide_eq])
 | .dK k v,b=>by cases b<;>rfl
 | .dT k v,b=>by cases b<;>rfl
theorem iU:∀(xs ys:List PV),PyData.eqvAll (be xs) (be ys)=nF xs ys
 | [],[]=>rfl
 | [],_::_=>rfl
 | _::_,[]=>rfl
 | x::xs,y::ys=>by
  show(PyData.eqv (fN x) (fN y)&&PyData.eqvAll (be xs) (be ys))=(qH x y&&nF xs ys);rw[gp x y,iU xs ys]
end
variable(X Hi)in
noncomputable def Aw(g:Bool->Bool):R2:=fun x y H Q=>∃a b,eE 12 a=true/\eE 12 b=true/\Rp X.K Hi false a H x/\Rp X.K Hi false b H y/\Q (.bl (g (qH a b))) H
theorem yR(hu:X.A.units+64<cLine):dM X (compareOp .Eq) (Aw X Hi id):=by
 intro pins s σ H x y u v Q I rx ry h;obtain⟨a,b,fa,fb,ra,rb,q⟩:=h;obtain⟨as,za⟩:=bP I fa ra rx;obtain⟨bs,zb⟩:=bP I fb rb ry;obtain⟨ca,da⟩:=cz fa;obtain⟨cb,db⟩:=cz fb;refine SeqAt.compareEq_reads za zb ca cb (by omega) ?_;rw[gp];exact⟨.bl _,H,I,rfl,q⟩
theorem yN(hu:X.A.units+64<cLine):dM X (compareOp .NotEq) (Aw X Hi not):=by
 intro pins s σ H x y u v Q I rx ry h;obtain⟨a,b,fa,fb,ra,rb,q⟩:=h;obtain⟨as,za⟩:=bP I fa ra rx;obtain⟨bs,zb⟩:=bP I fb rb ry;obtain⟨ca,da⟩:=cz fa;obtain⟨cb,db⟩:=cz fb;refine SeqAt.compareNe_reads za zb ca cb (by omega) ?_;rw[gp];exact⟨.bl _,H,I,rfl,q⟩
noncomputable def ll(op:CmpOp)(A:Around)(s:Shared)(a b:Value)(t:Bool):Prop:=∀(prog:Program)(w:World)(E:Value->Shared->Prop)(Q:Value->Shared->Prop),Q (.bool t) s->wpAny (model prog w) A (richCompare op a b) Q E s
inductive OW(op:CmpOp)(A:Around)(s:Shared):List (Value×Value)->Option Bool->Prop
 | nil:OW op A s [] none
 | eq {p q:Value} {r:List (Value×Value)} {t:Option Bool}:SeqAt.EqAt A s p q true->OW op A s r t->OW op A s ((p,q)::r) t
 | ne {p q:Value} {r:List (Value×Value)} {t:Bool}:SeqAt.EqAt A s p q false->ll op A s p q t->OW op A s ((p,q)::r) (some t)
structure TOp(op:CmpOp)(f:Int->Int->Bool)(g:Nat->Nat->Bool):Prop where
 int:∀{A:Around}{s:Shared}{i j:Int}{t t' :Tok},ll op A s (.int i t) (.int j t') (f i j)
 tup:∀{A:Around}{s:Shared}{l b:Addr}{xs ys:Array Value}{t:Option Bool},s.heap.IsTuple l xs->s.heap.IsTuple b ys->A.units<cLine->OW op A.in1 s (xs.toList.zip ys.toList) t->ll op A s (.ref l) (.ref b) (t.getD (g xs.size ys.size))
 co:∀a b:Value,compareOp op a b=richCompare op a b
 s1:∀n,g (n+1) 0=g 1 0
 s2:∀a b,g (a+1) (b+1)=g a b
theorem fT{h:Heap}:∀{xs:List PV}{vs:List Value}{as:List Addr},ReadsAll h vs (be xs) as->vs.length=xs.length
 | [],_,_,r=>by cases r;rfl
 | x::xs,_,_,r=>by
  cases r with
  | cons a b=>rw[Cv,Cv,fT b]
mutual
theorem uA{op:CmpOp}{f:Int->Int->Bool}{g:Nat->Nat->Bool}(T:TOp op f g):∀{x y:PV}{n:Nat}{A:Around}{s:Shared}{a b:Value}{as bs:List Addr}{t:Bool},Reads s.heap a (fN x) as->Reads s.heap b (fN y) bs->eE n x=true->eE n y=true->A.units+n<cLine->Bt f g x y=some t->ll op A s a b t
 | .int i,y,_,_,_,_,_,_,_,_,ra,rb,_,_,_,h=>by
  cases y with
  | int j =>
   cases h;cases ra;cases rb;exact T.int
  | _=>cases h
 | .tup xs,y,n,A,s,_,_,_,_,t,ra,rb,fa,fb,hu,h=>by
  cases y with
  | tup ys =>
   cases n with
   | zero=>cases fa
   | succ n =>
    cases ra with
    | @tuple l o vs m _ _ h1 h2 h3 h4 =>
     cases rb with
     | @tuple l' o' ws m' _ _ k1 k2 k3 k4 =>
      obtain⟨o,ow,e⟩:=fG T (A:=A.in1) (n:=n) h4 k4 fa fb (by show A.units+1+n<cLine;omega) h;rw[Ci,Ci]at e;rw[e];exact T.tup ⟨_,h1,h2,_,h3⟩ ⟨_,k1,k2,_,k3⟩ (by omega) ow
  | _=>cases h
 | .non,_,_,_,_,_,_,_,_,_,_,_,_,_,_,h=>by cases h
 | .bl _,_,_,_,_,_,_,_,_,_,_,_,_,_,_,h=>by cases h
 | .str _,_,_,_,_,_,_,_,_,_,_,_,_,_,_,h=>by cases h
 | .lst _,_,_,_,_,_,_,_,_,_,_,_,_,_,_,h=>by cases h
 | .dK _ _,_,_,_,_,_,_,_,_,_,_,_,_,_,_,h=>by cases h
 | .dT _ _,_,_,_,_,_,_,_,_,_,_,_,_,_,_,h=>by cases h
theorem fG{op:CmpOp}{f:Int->Int->Bool}{g:Nat->Nat->Bool}(T:TOp op f g):∀{xs ys:List PV}{n:Nat}{A:Around}{s:Shared}{vs ws:List Value}{as bs:List Addr}{t:Bool},ReadsAll s.heap vs (be xs) as->ReadsAll s.heap ws (be ys) bs->xs.all (eE n)=true->ys.all (eE n)=true->A.units+n<cLine->qN f g xs ys=some t ->
  ∃o:Option Bool,OW op A s (vs.zip ws) o/\t=o.getD (g vs.length ws.length)
 | [],ys,_,_,_,_,_,_,_,_,ra,rb,_,_,_,h=>by
  cases h;cases ra;exact⟨none,.nil,by rw[fT rb];rfl⟩
 | x::xs,[],_,_,_,_,_,_,_,_,ra,rb,_,_,_,h=>by
  cases h;cases rb;exact⟨none,by rw[List.zip_nil_right];exact .nil,by rw[fT ra];exact(T.s1 _).symm⟩
 | x::xs,y::ys,n,A,s,_,_,_,_,t,ra,rb,fa,fb,hu,h=>by
  rw[FV,CK]at fa fb;cases ra with
  | cons r rs =>
   cases rb with
   | cons r' rs' =>
    obtain⟨c1,d1⟩:=cz fa.1;obtain⟨c2,d2⟩:=cz fb.1;have he:=SeqAt.eqAt_reads (fN x) (fN y) A s _ _ _ _ r r' c1 c2 (by omega);rw[gp]at he;have h:(if qH x y=true then qN f g xs ys else Bt f g x y)=some t:=h;cases e:qH x y with
    | true =>
     rw[e]at h he;obtain⟨o,ow,z⟩:=fG T rs rs' fa.2 fb.2 hu h;refine⟨o,.eq he ow,?_⟩;rw[z,Cv,Cv,T.s2]
    | false =>
     rw[e]at h he;exact⟨some t,.ne he (uA T r r' fa.1 fb.1 hu h),rfl⟩
end
variable(X Hi)in
noncomputable def Ax(f:Int->Int->Bool)(g:Nat->Nat->Bool):R2:=fun x y H Q=>∃a b t,eE 12 a=true/\eE 12 b=true/\Rp X.K Hi false a H x/\Rp X.K Hi false b H y/\Bt f g a b=some t/\Q (.bl t) H
theorem yS{op:CmpOp}{f:Int->Int->Bool}{g:Nat->Nat->Bool}(T:TOp op f g)(hu:X.A.units+64<cLine):dM X (compareOp op) (Ax X Hi f g):=by
 intro pins s σ H x y u v Q I rx ry h;obtain⟨a,b,t,fa,fb,ra,rb,e,q⟩:=h;obtain⟨as,za⟩:=bP I fa ra rx;obtain⟨bs,zb⟩:=bP I fb rb ry;have z:=uA T (A:=X.A) za zb fa fb (by omega) e;rw[T.co];exact z _ _ _ _ ⟨.bl _,H,I,rfl,q⟩
theorem xM(l b:Addr)(xs ys:Array Value)(n n2:Nat)(d1 d2:Option Addr)(sl je:Array (Option Value)):Meets (Builtin.«tuple.__lt__» ⟨[.ref l,.ref b],[]⟩)
  (fun A R s=>s.heap.get? l=some ⟨.type "tuple",d1,.seq xs n,sl⟩/\s.heap.get? b=some ⟨.type "tuple",d2,.seq ys n2,je⟩ /\
   ∃t:Option Bool,OW .Lt A.in1 s (xs.toList.zip ys.toList) t/\R (.ok (.ret (.bool (t.getD (decide (xs.size<ys.size)))))) s) :=
 .of_wp fun prog w A R s h=>by
  obtain⟨hp,g,d,tk,os⟩:=s;obtain⟨h1,h2,t,ow,hR⟩:=h;have f2:=AutoSeq1.sub_tuple_tuple
  wp_walk using Cg h1,Cg h2,wpAny_forIn_list _ (fun aJ c s' =>c.1=none/\s' =⟨hp,g,d,tk,os⟩/\∃t:Option Bool,OW .Lt A.in1 ⟨hp,g,d,tk,os⟩ aJ t/\R (.ok (.ret (.bool (t.getD (decide (xs.size<ys.size)))))) ⟨hp,g,d,tk,os⟩) _
  case turn =>
   rintro⟨y,x⟩ aJ c s' ⟨hc,rfl,t,ow,hR⟩;cases ow with
   | eq he ow =>
    refine CJ (he prog w _ _ ?_)
    wp_walk
    exact⟨rfl,rfl,t,ow,hR⟩
   | ne he hl =>
    refine CJ (he prog w _ _ ?_);refine CJ (Ep (CJ (hl prog w _ _ ?_)));refine CJ (Ce (Ce ?_));exact Ce ⟨_,rfl,hR⟩
  case fin =>
   rintro⟨c1,c2⟩ s' ⟨hc,rfl,t,ow,hR⟩;cases ow;simp only at hc;subst hc
   wp_walk
   exact⟨_,rfl,by simpa [Builtin.Tuple.tupleCompareSizes]using hR⟩
  case h =>
   exact⟨rfl,rfl,t,ow,hR⟩
theorem pj{A:Around}{s:Shared}{l b:Addr}{xs ys:Array Value}{t:Option Bool}(hl:s.heap.IsTuple l xs)(hb:s.heap.IsTuple b ys)(hu:A.units<cLine)(ow:OW .Lt A.in1 s (xs.toList.zip ys.toList) t):ll .Lt A s (.ref l) (.ref b) (t.getD (decide (xs.size<ys.size))):=fun prog w E Q h=>by
 obtain⟨⟨c1,d1,x1,s1⟩,h1,e1,n,y1⟩:=id hl;obtain⟨⟨c2,d2,x2,s2⟩,h2,e2,m,y2⟩:=id hb;simp only at e1 y1 e2 y2;subst e1 y1 e2 y2;exact richCompare_meets_room (op:=.Lt) ⟨_,h1,rfl⟩ ⟨_,h2,rfl⟩ PySem.F.slot_tuple_lt PySem.F.entry_tuple_lt (PySem.F.args_tuple_lt_2 _ _) (xM l b xs ys n m d1 d2 s1 s2) ⟨h1,h2,t,ow,(fun z=>nomatch z),h⟩ hu
theorem oN:TOp .Lt (fun i j=>decide (i<j)) fun a b=>decide (a<b):=⟨fun _ _ _ _ q=>PyProof.Rows.lt_int q,pj,fun _ _=>rfl,fun n=>rfl,fun a b=>decide_eq_decide.mpr (by omega)⟩
theorem sV(hu:X.A.units+64<cLine):dM X (compareOp .Lt) (Ax X Hi (fun i j=>decide (i<j)) fun a b=>decide (a<b)):=yS oN hu
theorem lC{y:PV}{k:bA}{n:Bool}{G:Hp}{v:V}(h:fC y=some k)(r:Rp X.K Hi n y G v):v=kV k:=by
 cases y with
 | int i=>cases h;exact Rp.int.mp r
 | str z=>cases h;exact Rp.str.mp r
 | _=>cases h
theorem Rp.dT{n:Bool}{ks:List (List bA)}{vs:List PV}{G:Hp}{u:V}(h:Rp X.K Hi n (.dT ks vs) G u):∃p us,u=.ref p/\G p=some (.dT (ks.zip us))/\ks.length=us.length/\aD X.K Hi n vs (IR.del G p) us:=by
 unfold Rp at h;obtain⟨p,us,e,_,h1,h2,h3⟩:=h;exact⟨p,us,e,h1,h2,h3⟩
theorem Rp.dK{n:Bool}{ks:List bA}{vs:List PV}{G:Hp}{u:V}(h:Rp X.K Hi n (.dK ks vs) G u):∃p us,u=.ref p/\G p=some (.dK (ks.zip us))/\ks.length=us.length/\aD X.K Hi n vs (IR.del G p) us:=by
 unfold Rp at h;obtain⟨p,us,e,_,h1,h2,h3⟩:=h;exact⟨p,us,e,h1,h2,h3⟩
end
end IR
namespace TS
open PySem PySem.W PyProof.Rows
theorem sM{α β:Type}{f:α->β}{m n:List β}(h:m.Perm n):∀{l:List α},n=l.map f->∃js:List α,js.Perm l/\m=js.map f:=by
 induction h with
 | nil =>
  intro l e;exact⟨l,Dl _,e⟩
 | cons x _ ih =>
  intro l e;obtain⟨a,r,rfl,rfl,e2⟩:=EX.mp e.symm;obtain⟨js,p,z⟩:=ih e2.symm;exact⟨a::js,p.cons a,by rw[z];rfl⟩
 | swap x y r =>
  intro l e;obtain⟨a,r1,rfl,rfl,e2⟩:=EX.mp e.symm;obtain⟨b,r2,rfl,rfl,rfl⟩:=EX.mp e2;exact⟨b::a::r2,List.Perm.swap a b r2,rfl⟩
 | trans _ _ ih1 ih2 =>
  intro l e;obtain⟨j2,p2,e2⟩:=ih2 e;obtain⟨j1,p1,e1⟩:=ih1 e2;exact⟨j1,p1.trans p2,e1⟩
section
variable{prog:Program}{w:World}{A:Around}{E:Value->Shared->Prop}{s:Shared}
theorem vh{a:Addr}{vs:List Value}{n:Nat}{κ:SortKind}{key:Nat->Int}{P:PySem.Fin->Shared->Prop}(ho:s.heap.get? a=some (seqObj "list" vs.toArray n))(h2:2<=vs.length)(hz:vs.length<4096)
  (hd:∀i j,i<vs.length->j<vs.length->vs.getD i Value.none=vs.getD j Value.none->key i=key j)
  (hk:∀(s1:Shared)(Q:SortKind->Shared->Prop),(∀b o,b≠a->s.heap.get? b=some o->s1.heap.get? b=some o)->Q κ s1->wpAny (model prog w) A (keyKind' vs.toArray) Q E s1)
  (hc:∀(s1:Shared) i j (E:Value->Shared->Prop) C,(∀b o,b≠a->s.heap.get? b=some o->s1.heap.get? b=some o)->i<vs.length->j<vs.length->C (decide (key i<key j)) s1->wpAny (model prog w) A (keyLt' κ (vs.getD i Value.none) (vs.getD j Value.none)) C E s1)
  (h:∀js:List Nat,js.Perm (List.range vs.length)->(js.map key).Pairwise (·<=·)->P (.done (.ret .none)) {s with heap:=sortedHeap s.heap a vs (js.map fun i=>vs.getD i Value.none).toArray}) :
  wpAny (model prog w) A (Builtin.«list.sort» ⟨[.ref a],[]⟩) P E s:=by
 have ha:a<s.heap.objs.size:=CU ho;rw[list_sort_plain];refine CJ (listItems_at ho rfl (CJ (listUpdate_at ho rfl ?_ (by rw[CN,DX];omega) (DG _))));obtain⟨e1,g1⟩:∃e1,(s.heap.update a (Obj.mapSeq fun _=>(#[]:Array Value))).get? a=some (seqObj "list" #[] e1):=⟨_,get?_update_seq ho fun _=> #[]⟩;refine CJ (seqEpoch_at g1 rfl (CJ (wpAny_newTuple ?_ (by show vs.length<=_;rw[DX];omega))));refine CJ (wpAny_newList ?_ (DG _));refine EJ ?_;have g2:(((s.heap.update a (Obj.mapSeq fun _=>(#[]:Array Value))).push (seqObj "tuple" vs.toArray 0)).push (seqObj "list" #[] 0)).get? a=some (seqObj "list" #[] e1):=CL _ (CL _ g1)
 have old:∀b o,b≠a->s.heap.get? b=some o->(((s.heap.update a (Obj.mapSeq fun _=>(#[]:Array Value))).push (seqObj "tuple" vs.toArray 0)).push (seqObj "list" #[] 0)).get? b=some o:=fun b o nb e =>
  CL _ (CL _ (by rw[Ex _ _ (FK nb)];exact e))
 show wpAny (model prog w) A _ P E {s with heap:=((s.heap.update a (Obj.mapSeq fun _=>(#[]:Array Value))).push (seqObj "tuple" vs.toArray 0)).push (seqObj "list" #[] 0)};dsimp only;have n2:¬vs.toArray.size<2:=by rw[CN];omega
 rw[CM n2,CM n2];refine CJ (hk _ _ old ?_);have px:∀x:Keyed,(∃i,i<vs.length/\x=(vs.getD i Value.none,vs.getD i Value.none))->∃k:Int,∃i,i<vs.length/\x=(vs.getD i Value.none,vs.getD i Value.none)/\k=key i:=fun x ⟨i,hi,e⟩=>⟨key i,i,hi,e,rfl⟩;obtain⟨kf,hkf⟩:∃kf:Keyed->Int,∀x,(∃i,i<vs.length/\x=(vs.getD i Value.none,vs.getD i Value.none))->∃i,i<vs.length/\x=(vs.getD i Value.none,vs.getD i Value.none)/\kf x=key i:=by
  refine⟨fun x=>open Classical in if h:∃i,i<vs.length/\x=(vs.getD i Value.none,vs.getD i Value.none)then(px x h).choose else 0,fun x h=> ?_⟩;obtain⟨i,hi,e,z⟩:=(px x h).choose_spec;exact⟨i,hi,e,by simp only[dif_pos h];exact z⟩
 have kfi:∀i,i<vs.length->kf (vs.getD i Value.none,vs.getD i Value.none)=key i:=fun i hi=>by
  obtain⟨j,hj,e,z⟩:=hkf _ ⟨i,hi,rfl⟩;rw[z];exact hd j i hj hi (Prod.mk.inj e).1.symm
 have ez:(vs.toArray.zip vs.toArray).toList=(List.range vs.length).map fun i=>(vs.getD i Value.none,vs.getD i Value.none):=by
  rw[Array.toList_zip]
  apply List.ext_getElem (by simp)
  intro i h1 h2;have:i<vs.length:=by simpa using h2
  simp[this]
 refine CJ (Dq (show wpS (model prog w) A E {s with heap:=((s.heap.update a (Obj.mapSeq fun _=>(#[]:Array Value))).push (seqObj "tuple" vs.toArray 0)).push (seqObj "list" #[] 0)} sortRuns' (fun _ st' =>∃js:List Nat,js.Perm (List.range vs.length)/\(js.map key).Pairwise (·<=·)/\(arrOf st').map (·.2)=(js.map fun i=>vs.getD i Value.none).toArray/\failedOf st' =none) (SortSt.mk' κ (vs.toArray.zip vs.toArray) #[] 7 none)from
  xg (kf:=kf) (κ:=κ) (D:=fun x=>∃i,i<vs.length/\x=(vs.getD i Value.none,vs.getD i Value.none)) (a₀:=(vs.toArray.zip vs.toArray).toList) (fun x y dx dy E C q=> ?_) (fun x hx=> ?_) rfl rfl rfl rfl fun st' f1 f2 f3=> ?_) ?_ fun _ _ e=>e)
 ·obtain⟨i,hi,e1,z1⟩:=hkf x dx
  obtain⟨j,hj,e2,z2⟩:=hkf y dy;rw[z1,z2]at q;rw[e1,e2];exact hc _ i j E C old hi hj q
 ·rw[ez]at hx
  obtain⟨i,hi,rfl⟩:=DR.mp hx;exact⟨i,DC.mp hi,rfl⟩
 ·obtain⟨js,p,z⟩:=sM f2 ez
  refine⟨js,p,?_,?_,f1⟩
  ·rw[z]at f3
   have f3:=FN.mp f3;rw[FN];exact f3.imp_of_mem fun{i j} hi hj le=>by
    rw[kfi i (DC.mp (p.mem_iff.mp hi)),kfi j (DC.mp (p.mem_iff.mp hj))]at le;exact le
  ·apply Array.toList_inj.mp
   rw[Array.toList_map,z,Ed];rfl
 ·rintro⟨⟨⟩,st'⟩ s' ⟨rfl,js,p,z,hout,hf⟩
  dsimp only;rw[hout];refine CJ (seqEpoch_at g2 rfl ?_);refine CJ (listUpdate_at g2 rfl ?_ (DG _) (by rw[CN,CI,p.length_eq,C9,DX];omega));rw[hf];simp only[bne_self_eq_false,Ek,Em];exact Ce (h js p z)
theorem rN{l:Addr}{vs:List Value}{κ:SortKind}{key:Nat->Int}{Q:Value->Shared->Prop}(hl:s.heap.IsList l vs.toArray)(hz:vs.length<4096)
  (hd:∀i j,i<vs.length->j<vs.length->vs.getD i Value.none=vs.getD j Value.none->key i=key j)
  (hk:2<=vs.length->∀(E:Value->Shared->Prop)(s1:Shared)(Q:SortKind->Shared->Prop),(∀b o,s.heap.get? b=some o->s1.heap.get? b=some o)->Q κ s1->wpAny (model prog w) A.in1.in1 (keyKind' vs.toArray) Q E s1)
  (hc:∀(s1:Shared) i j (E:Value->Shared->Prop) C,(∀b o,s.heap.get? b=some o->s1.heap.get? b=some o)->i<vs.length->j<vs.length->C (decide (key i<key j)) s1->wpAny (model prog w) A.in1.in1 (keyLt' κ (vs.getD i Value.none) (vs.getD j Value.none)) C E s1)
  (h:∀js:List Nat,js.Perm (List.range vs.length)->(js.map key).Pairwise (·<=·)->Q (.ref (s.heap.objs.size+1)) {s with heap:=sortedAll s.heap vs (js.map fun i=>vs.getD i Value.none).toArray}) :
  wpAny (model prog w) A (call (.builtin "sorted") [.ref l]) Q E s:=by
 refine Calls.call_function_entry kind_sorted plain_sorted entry_sorted (args_sorted1 _) ?_;unfold Builtin.«sorted»;refine CJ (m:=checkCount "sorted" 1 1 _) (Ce ?_);refine CJ (collect_list hl ?_ (by rw[DX];omega));refine CJ (wpAny_newList ?_ (by rw[DX];omega));have hsz:((s.heap.push (seqObj "list" #[] 0)).update s.heap.objs.size (Obj.mapSeq (·++vs.toArray))).objs.size=s.heap.objs.size+1:=by rw[Heap.size_update,size_push']
 have hoL:(((s.heap.push (seqObj "list" #[] 0)).update s.heap.objs.size (Obj.mapSeq (·++vs.toArray))).push (seqObj "list" vs.toArray 0)).get? (s.heap.objs.size+1)=some (seqObj "list" vs.toArray 0):=by
  rw[<- hsz];exact Co _ rfl
 have keep:∀b o,s.heap.get? b=some o->(((s.heap.push (seqObj "list" #[] 0)).update s.heap.objs.size (Obj.mapSeq (·++vs.toArray))).push (seqObj "list" vs.toArray 0)).get? b=some o:=fun b o e=>by
  have lt:b<s.heap.objs.size:=CU e;refine CL _ ?_;rw[Ex _ _ (FA lt)];exact CL _ e
 show wpAny _ _ _ _ _ {s with heap:=((s.heap.push (seqObj "list" #[] 0)).update s.heap.objs.size (Obj.mapSeq (·++vs.toArray))).push (seqObj "list" vs.toArray 0)};rw[hsz]
 by_cases h2:vs.length<2
 ·refine CJ (EJ (EL slot_list_sort ⟨_,hoL,rfl⟩ entry_list_sort (SW.k8 hoL h2 ⟨_,rfl,?_⟩) (args_list_sort _)))
  have q:=h (List.range vs.length) (Dl _) (SW.rW h2);rw[SW.mT h2]at q;exact Ce ⟨_,rfl,q⟩
 ·refine CJ (EJ (EL slot_list_sort ⟨_,hoL,rfl⟩ entry_list_sort (vh (κ:=κ) (key:=key) hoL (by omega) hz hd (fun s1 Q1 k q1=> ?_) (fun s1 i j E C k hi hj c=> ?_) fun js p z=>⟨_,rfl,Ce ⟨_,rfl,h js p z⟩⟩) (args_list_sort _)))
  ·exact hk (by omega) _ s1 Q1 (fun b o e=>k b o (Cr (ES (CU e))) (keep b o e)) q1
  ·exact hc s1 i j E C (fun b o e=>k b o (Cr (ES (CU e))) (keep b o e)) hi hj c
end
end TS
namespace IR
open PySem PySem.W PyProof.Rows L2
section
variable{prog:Program}{w:World}{A:Around}{E:Value->Shared->Prop}{s:Shared}
theorem si{b fin:Bool}{Q:Bool->Shared->Prop}{l:List (Value×Value)}{o:Option Bool}(ow:OW .Lt A s l o):∀i,(b&&i==0)=false->Q (o.getD fin) s->KatLex prog w A b fin Q l i s:=by
 induction ow with
 | nil=>exact fun i _ h=>kat_nil h
 | eq he _ ih=>exact fun i _ h=>kat_cons (he prog w _ _ (kat_yes (ih (i+1) (by simp) h)))
 | ne he hl=>exact fun i f h=>kat_cons (he prog w _ _ (kat_no (by rw[f];exact kat_one _ _ (hl prog w _ _ h))))
noncomputable abbrev cl:=qN (fun i j=>decide (i<j)) fun a b=>decide (a<b)
noncomputable def isInt:PV->Bool
 | .int _=>true
 | _=>false
noncomputable def isTu:PV->Bool
 | .tup _=>true
 | _=>false
noncomputable def oY(b:Bool):List PV->Bool
 | x::_=>if b then isInt x else isTu x
 | []=>false
theorem vf{b:Bool}{xs ys:List PV}{n:Nat}{v u:Value}{as bs:List Addr}{t:Bool}{Q:Bool->Shared->Prop}(rv:Reads s.heap v (fN (.tup xs)) as)(ru:Reads s.heap u (fN (.tup ys)) bs)(fx:xs.all (eE n)=true)(fy:ys.all (eE n)=true)(hu:A.units+n<cLine)
  (f1:oY b xs=true) (f2:oY b ys=true) (e:cl xs ys=some t) (h:Q t s):wpAny (model prog w) A (keyLt' (tuples' b) v u) Q E s:=by
 cases rv with
 | @tuple a o vs m _ _ h1 h2 h3 h4 =>
  cases ru with
  | @tuple a' o' ws m' _ _ k1 k2 k3 k4 =>
   refine kat_lt h1 h3 k1 k3 ?_;cases b with
   | false =>
    obtain⟨o,ow,e⟩:=fG oN (A:=A) (n:=n) h4 k4 fx fy hu e;rw[Ci,Ci]at e;subst e;exact si ow 0 rfl h
   | true =>
    match xs,ys,f1,f2 with
    | .int i::xs,.int j::ys,_,_ =>
     rw[FV,CK]at fx fy
     generalize hv:vs.toList=vl at h4
     generalize hw:ws.toList=wl at k4
     have zv:vs.size=vl.length:=by rw[<- hv,Ci]
     have zw:ws.size=wl.length:=by rw[<- hw,Ci]
     rw[zv,zw];cases h4 with
     | cons r rs =>
      cases k4 with
      | cons r' rs' =>
       cases r;cases r';have e:(if qH (.int i) (.int j)=true then cl xs ys else some (decide (i<j)))=some t:=e;refine kat_cons (wpAny_eqBool_int (kat_go (fun q=>kat_yes ?_) fun q=>kat_no (oneLt_int ?_)))
       ·have q:i=j:=by simpa using q
        rw[CQ (by show decide (i=j)=true;simpa using q)]at e;obtain⟨o,ow,e⟩:=fG oN (A:=A) (n:=n) rs rs' fx.2 fy.2 hu e;refine si ow 1 rfl ?_;rw[Cv,Cv,show∀a b:Nat,decide (a+1<b+1)=decide (a<b)from fun a b=>decide_eq_decide.mpr (by omega),<-e];exact h
       ·have q:¬i=j:=by simpa using q
        rw[CM (by show¬decide (i=j)=true;simpa using q)]at e;cases e;exact h
theorem py{b:Bool}{vs:List Value}{xss:List (List PV)}{as:List Addr}{Q:SortKind->Shared->Prop}(h1:1<=vs.length)(r:ReadsAll s.heap vs (be (xss.map .tup)) as)(f:∀xs∈xss,oY b xs=true)(h:Q (tuples' b) s):wpAny (model prog w) A (keyKind' vs.toArray) Q E s:=by
 obtain⟨fs,hf,hl,hi⟩:∃fs,KatTups s.heap vs fs/\fs.length=vs.length/\∀v∈fs,Looks (model prog w) s.heap (typeOf v) (.type (if b then "int" else "tuple")):=by
  clear h1 h
  induction xss generalizing vs as with
  | nil =>
   cases r;exact⟨[],.nil,rfl,fun v hv=>by cases hv⟩
  | cons xs xss ih =>
   cases r with
   | cons r rs =>
    obtain⟨fs,a1,a2,a3⟩:=ih rs fun xs hx=>f xs (CV _ hx);have f1:=f xs Cd;cases r with
    | @tuple a o us m _ _ k1 k2 k3 k4 =>
     match xs,f1 with
     | x::xs,f1 =>
      generalize hv:us.toList=ul at k4
      cases k4 with
      | @cons v vs' _ _ _ _ r' rs' =>
       refine⟨v::fs,KatTups.cons k1 k2 k3 (by rw[<- Cu,hv];rfl) a1,by simp[a2],fun z hz=> ?_⟩
       rcases Ca.mp hz with q|q
       ·subst q
        cases b with
        | true =>
         match x,f1 with
         | .int i,_ =>
          cases r';exact .now
        | false =>
         match x,f1 with
         | .tup ys,_ =>
          cases r' with
          | @tuple a' o' us' m' _ _ l1 l2 l3 l4 =>
           have:=(show Looks (model prog w) s.heap (typeOf (.ref a')) o'.cls from(Looks.ld l1).andThen .now);rw[l2]at this;exact this
       ·exact a3 z q
 have q:=kat_kind (M:=model prog w) (A:=A) (E:=E) (Q:=Q) (T:=.type (if b then "int" else "tuple")) hf (by omega) hi (by cases b<;>decide);refine q ?_;cases b<;>exact h
theorem vj(l c:Addr)(xs ys:Array Value)(n n2:Nat)(d1 d2:Option Addr)(sl je:Array (Option Value))(k:Nat):∀i:Nat,xs.size-i=k->Meets (Builtin.«list.__eq__.loop» ⟨[.ref l,.ref c,rawInt i,rawInt 0],[]⟩)
  (fun A R s=>s.heap.get? l=some ⟨.type "list",d1,.seq xs n,sl⟩/\s.heap.get? c=some ⟨.type "list",d2,.seq ys n2,je⟩ /\
   ∃o:Option Bool,OW .Lt A.in1 s ((xs.toList.drop i).zip (ys.toList.drop i)) o/\R (.ok (.ret (.bool (o.getD (decide (xs.size<ys.size)))))) s):=by
 induction k with
 | zero =>
  intro i hk prog w A R s h;obtain⟨hp,g,d,tk,os⟩:=s;obtain⟨h1,h2,o,ow,hR⟩:=h;have z1:xs[((i:Nat):Int).toNat]? =none:=by simp;omega
  rw[show xs.toList.drop i=[]by simp;omega]at ow;cases ow
  wp_walk using Cg h1,Cg h2
  rw[z1]
  wp_walk using Cg h1,Cg h2
  exact hR
 | succ k ih =>
  intro i hk prog w A R s h;obtain⟨hp,g,d,tk,os⟩:=s;obtain⟨h1,h2,o,ow,hR⟩:=h;have hi:i<xs.size:=by omega
  have z1:xs[((i:Nat):Int).toNat]? =some xs[i]:=by simp[hi]
  have dx:xs.toList.drop i=xs[i]::xs.toList.drop (i+1):=by simp[DU,hi]
  by_cases hj:i<ys.size
  ·have z2:ys[((i:Nat):Int).toNat]? =some ys[i]:=by simp[hj]
   have dy:ys.toList.drop i=ys[i]::ys.toList.drop (i+1):=by simp[DU,hj]
   rw[dx,dy,FC]at ow
   wp_walk using Cg h1,Cg h2
   rw[z1,z2];cases ow with
   | eq he ow =>
    refine CJ (he prog w _ _ ?_);have hc:((i:Int)+1)=((i+1:Nat):Int):=by push_cast;rfl
    wp_walk
    rw[hc]
    exact⟨plainId_quiet Eu _,codeAny_builtin MeetsSeq3.entry_eq_loop (by
     rw[Around.under_plainId Eu _];exact ih (i+1) (by omega) prog w A R _ ⟨h1,h2,o,ow,hR⟩)⟩
   | ne he hl =>
    refine CJ (he prog w _ _ ?_);rw[CM (by simp)]
    wp_walk using Cg h1,Cg h2
    rw[z1,z2];refine CJ (hl prog w _ _ ?_)
    wp_walk
    exact hR
  ·have z2:ys[((i:Nat):Int).toNat]? =none:=by simp;omega
   rw[show ys.toList.drop i=[]by simp;omega,List.zip_nil_right]at ow;cases ow
   wp_walk using Cg h1,Cg h2
   rw[z1,z2]
   wp_walk using Cg h1,Cg h2
   exact hR
theorem vk(l c:Addr)(xs ys:Array Value)(n n2:Nat)(d1 d2:Option Addr)(sl je:Array (Option Value)):Meets (Builtin.«list.__lt__» ⟨[.ref l,.ref c],[]⟩)
  (fun A R s=>s.heap.get? l=some ⟨.type "list",d1,.seq xs n,sl⟩/\s.heap.get? c=some ⟨.type "list",d2,.seq ys n2,je⟩ /\
   ∃o:Option Bool,OW .Lt A.in1 s (xs.toList.zip ys.toList) o/\R (.ok (.ret (.bool (o.getD (decide (xs.size<ys.size)))))) s):=by
 intro prog w A R s h;obtain⟨hp,g,d,tk,os⟩:=s;obtain⟨h1,h2,h⟩:=h;have f3:=AutoSeq1.sub_list_list
 wp_walk using Cg h1,Cg h2
 exact⟨plainId_quiet Eu _,codeAny_builtin MeetsSeq3.entry_eq_loop (by
  rw[Around.under_plainId Eu _];exact vj l c xs ys n n2 d1 d2 sl je _ 0 rfl prog w A R _ ⟨h1,h2,h⟩)⟩
theorem vg{xs ys:List PV}{n:Nat}{v u:Value}{as bs:List Addr}{t:Bool}{Q:Bool->Shared->Prop}(rv:Reads s.heap v (fN (.lst xs)) as)(ru:Reads s.heap u (fN (.lst ys)) bs)(fx:xs.all (eE n)=true)(fy:ys.all (eE n)=true)(hu:A.units+n+2<cLine)
  (e:cl xs ys=some t) (h:Q t s):wpAny (model prog w) A (keyLt' oneType' v u) Q E s:=by
 cases rv with
 | @list a o vs m _ _ h1 h2 h3 h4 =>
  cases ru with
  | @list a' o' ws m' _ _ k1 k2 k3 k4 =>
   obtain⟨c1,d1,x1,s1⟩:=o;obtain⟨c2,d2,x2,s2⟩:=o';simp only at h2 h3 k2 k3;subst h2 h3 k2 k3;obtain⟨o,ow,e⟩:=fG oN (A:=A.in1) (n:=n) h4 k4 fx fy (by show A.units+1+n<cLine;omega) e;rw[Ci,Ci]at e;subst e;rw[keyLt'_oneType,oneLt'_eq];simp only[Ei];refine CJ (wpAny_cRoomFor (by omega) ?_);exact CJ (wpAny_callSpecialIfBound?_slot (T:="list") ⟨_,h1,rfl⟩ PySem.F.slot_list_lt (Er PySem.F.slot_list_lt ⟨_,h1,rfl⟩ PySem.F.entry_list_lt (PySem.F.args_list_lt_2 _ _) (vk a a' vs ws m m' d1 d2 s1 s2) ⟨h1,k1,o,ow,Dp h⟩))
theorem pz{vs:List Value}{xss:List (List PV)}{as:List Addr}{Q:SortKind->Shared->Prop}(h2:2<=vs.length)(r:ReadsAll s.heap vs (be (xss.map .lst)) as)(h:Q oneType' s):wpAny (model prog w) A (keyKind' vs.toArray) Q E s:=by
 refine kas_kind (T:=.type "list") h2 (fun v hv=> ?_) (by decide) (by decide) h
 clear h2 h
 induction xss generalizing vs as with
 | nil =>
  cases r;cases hv
 | cons xs xss ih =>
  cases r with
  | cons r rs =>
   rcases Ca.mp hv with z|z
   ·subst z
    cases r with
    | @list a o us m _ _ k1 k2 k3 k4 =>
     have:=(show Looks (model prog w) s.heap (typeOf (.ref a)) o.cls from(Looks.ld k1).andThen .now)
     rwa [k2]at this
   ·exact ih rs z
end
noncomputable def kG(ys:List PV)(key:Nat->Int):Prop:=(∀i j,i<ys.length->j<ys.length->fN (ys.getD i .non)=fN (ys.getD j .non)->key i=key j) /\
 ∃xss:List (List PV),((∃b,ys=xss.map .tup/\∀xs∈xss,oY b xs=true)\/ys=xss.map .lst)/\∀i j,i<ys.length->j<ys.length->cl (xss.getD i []) (xss.getD j [])=some (decide (key i<key j))
theorem bo{h:Heap}:∀{ys:List PV}{vs:List Value}{as:List Addr}(i:Nat),ReadsAll h vs (be ys) as->i<ys.length->∃bs,Reads h (vs.getD i Value.none) (fN (ys.getD i .non)) bs
 | y::ys,_,_,0,.cons r _,_=>⟨_,r⟩
 | y::ys,_,_,i+1,.cons _ rs,h=>by
  obtain⟨bs,z⟩:=bo i rs (by simpa using h);exact⟨bs,by simpa using z⟩
mutual
theorem mV{h h' :Heap}(k:∀b o,h.get? b=some o->h'.get? b=some o):∀{v:Value}{d:PyData}{as:List Addr},Reads h v d as->Reads h' v d as
 | _,_,_,.none=>.none
 | _,_,_,.bool b=>.bool b
 | _,_,_,.int i t=>.int i t
 | _,_,_,.str x t=>.str x t
 | _,_,_,.list a b c d=>.list (k _ _ a) b c (aY k d)
 | _,_,_,.tuple a b c d=>.tuple (k _ _ a) b c (aY k d)
 | _,_,_,.dict a b c d e=>.dict (k _ _ a) b c (aY k d) (aY k e)
theorem aY{h h' :Heap}(k:∀b o,h.get? b=some o->h'.get? b=some o):∀{vs:List Value}{ds:List PyData}{as:List Addr},ReadsAll h vs ds as->ReadsAll h' vs ds as
 | _,_,_,.nil=>.nil
 | _,_,_,.cons a b=>.cons (mV k a) (aY k b)
end
theorem ak{α β:Type}(f:α->β)(l:List α)(d:α)(e:β)(i:Nat)(h:i<l.length):(l.map f).getD i e=f (l.getD i d):=by simp[h]
variable{X:Cx}{Hi:Hp}
theorem eF(hu:X.A.units+64<cLine):bK X (.builtin "sorted") (fun xs H Q=>∃(p:Addr)(us:List V)(ys:List PV)(key:Nat->Int),xs=[.ref p]/\ao X.K H p us/\aD X.K Hi false ys H us/\ys.all (eE 12)=true/\us.length<4096/\kG ys key /\
  ∀a (js:List Nat),H a=none->js.Perm (List.range us.length)->(js.map key).Pairwise (·<=·)->Q (.ref a) (L2.upd H a (.lst (js.map fun i=>us.getD i .non)))):=by
 intro pins s σ H xs us Q I r h;obtain⟨p,ws,ys,key,rfl,hq,hp,hf,hz,⟨hd,xss,hk,hc⟩,q⟩:=h;obtain⟨u,rfl,rx⟩:=vals1 r;cases rx;obtain⟨its,r',pl,hz'⟩:=I.list hq;have hlen:=r'.length;have hy:=hp.len;obtain⟨as,ra⟩:=c0 I hf hp r';have fat:∀i,i<ys.length->eE 12 (ys.getD i .non)=true:=fun i hi=>by
  have:=Cw.mp hf (ys[i]) (Dj hi)
  simpa [hi]using this
 have un:X.A.in1.in1.units=X.A.units+2:=rfl
 obtain⟨κ,hkind,hcmp⟩:∃κ:SortKind,(2<=its.length->∀(E:Value->Shared->Prop)(s1:Shared)(Q:SortKind->Shared->Prop),(∀b o,s.heap.get? b=some o->s1.heap.get? b=some o)->Q κ s1->wpAny (model X.prog X.w) X.A.in1.in1 (keyKind' its.toArray) Q E s1) /\
   ∀(s1:Shared) i j (E:Value->Shared->Prop) C,(∀b o,s.heap.get? b=some o->s1.heap.get? b=some o)->i<its.length->j<its.length->C (decide (key i<key j)) s1->wpAny (model X.prog X.w) X.A.in1.in1 (keyLt' κ (its.getD i Value.none) (its.getD j Value.none)) C E s1:=by
  rcases hk with⟨b,rfl,fb⟩|rfl
  ·refine⟨tuples' b,fun h2 E s1 Q k q=>py (xss:=xss) (by omega) (aY k ra) fb q,fun s1 i j E C k hi hj c=> ?_⟩
   rw[CI]at hy;obtain⟨b1,r1⟩:=bo i (aY k ra) (by rw[CI];omega);obtain⟨b2,r2⟩:=bo j (aY k ra) (by rw[CI];omega);have f1:=fat i (by rw[CI];omega);have f2:=fat j (by rw[CI];omega);rw[ak PV.tup xss [] .non _ (by omega)]at r1 f1;rw[ak PV.tup xss [] .non _ (by omega)]at r2 f2;have m1:∀i,i<xss.length->xss.getD i []∈xss:=fun i hi=>by simp[hi]
   exact vf (n:=11) r1 r2 f1 f2 (by omega) (fb _ (m1 i (by omega))) (fb _ (m1 j (by omega))) (hc i j (by rw[CI];omega) (by rw[CI];omega)) c
  ·refine⟨oneType',fun h2 E s1 Q k q=>pz (xss:=xss) h2 (aY k ra) q,fun s1 i j E C k hi hj c=> ?_⟩
   rw[CI]at hy;obtain⟨b1,r1⟩:=bo i (aY k ra) (by rw[CI];omega);obtain⟨b2,r2⟩:=bo j (aY k ra) (by rw[CI];omega);have f1:=fat i (by rw[CI];omega);have f2:=fat j (by rw[CI];omega);rw[ak PV.lst xss [] .non _ (by omega)]at r1 f1;rw[ak PV.lst xss [] .non _ (by omega)]at r2 f2;exact vg (n:=11) r1 r2 f1 f2 (by omega) (hc i j (by rw[CI];omega) (by rw[CI];omega)) c
 refine TS.rN (κ:=κ) (key:=key) pl.isList (by omega) (fun i j hi hj e=> ?_) hkind hcmp fun js pm pw=> ?_
 ·obtain⟨b1,r1⟩:=bo i ra (by omega)
  obtain⟨b2,r2⟩:=bo j ra (by omega);rw[e]at r1;exact hd i j (by omega) (by omega) (PySem.Reads.unique r1 _ _ r2).1
 obtain⟨c,hc'⟩:=sortedAll_at s.heap its (js.map fun i=>its.getD i Value.none).toArray;rw[<- hlen]at pm;refine⟨.ref (s.heap.objs.size+1),_,I.laid (t' :=s.toks) (o:=.lst (js.map fun i=>ws.getD i .non)) (fun b o z=>sortedAll_old z) (Nat.le_succ _) ?_,rfl,q _ js (I.hok.fresh (Nat.le_succ _)) pm pw⟩;refine⟨?_,js.map fun i=>its.getD i Value.none,c,aK.pick r' fun j hj=>DC.mp (pm.mem_iff.mp hj),by simpa [seqObj]using hc'⟩;rw[CI,pm.length_eq,C9,DX];omega
end IR
namespace IR
open PySem PySem.Spec PyProof.Rows L2
section
variable{X:Cx}{Hi:Hp}
end
section
variable{X:Cx}{Hi:Hp}{τ:En}
theorem tV{a b:PV}{t:Bool}{H H' :Hp}{u v:V}(h:eqs a b=some t)(ha:Rp X.K Hi false a H u)(hb:Rp X.K Hi false b H' v):xa u v=true/\decide (u=v)=t:=by
  cases a<;>cases b<;>first
    | exact absurd (show(none:Option Bool)=some t from h) (by intro z;cases z)
    | (have e:=Cq (show some _=some t from h)
       subst e
       first
       | rw[Rp.int.mp ha]|rw[Rp.str.mp ha]|rw[Rp.bl.mp ha]|rw[Rp.non.mp ha]
       first
       | rw[Rp.int.mp hb]|rw[Rp.str.mp hb]|rw[Rp.bl.mp hb]|rw[Rp.non.mp hb]
       exact⟨rfl,by simp⟩)
theorem yZ{a:PV}{H:Hp}{u:V}(ha:Rp X.K Hi false a H u)(h:∀z,a≠z\/z≠PV.non):u≠.non:=by
 intro e;subst e;cases a with
 | non=>rcases h .non with z|z<;>exact z rfl
 | bl b=>cases Rp.bl.mp ha
 | int b=>cases Rp.int.mp ha
 | str b=>cases Rp.str.mp ha
 | lst xs=>obtain⟨p,us,z,_⟩:=Rp.lst.mp ha;cases z
 | tup xs=>obtain⟨p,us,z,_⟩:=Rp.tup.mp ha;cases z
 | dK ks vs=>unfold Rp at ha;obtain⟨p,us,z,_⟩:=ha;cases z
 | dT ks vs=>unfold Rp at ha;obtain⟨p,us,z,_⟩:=ha;cases z
theorem lV(hun:X.A.units+64<cLine){op:CmpOp}{x y:RV}{t:Bool}(h:bY op x.val y.val=some t):∃rr:R2,dM X (compareOp op) rr /\
  ∀(O:List Addr)(σ:L2.St)(H H2:Hp)(u v:V)(Q:VK),aQ X.K Hi O τ σ H->aA H H2->aT X.K Hi O H H2 x u->aT X.K Hi O H H2 y v->Q (.bl t) H2->rr u v H2 Q:=by
 cases op with
 | Lt =>
  have h:tu x.val y.val=some t:=h;unfold tu at h
  split at h
  case h_1 i j e1 e2=>cases h;exact⟨_,A8,fun O σ H H2 u v Q R s ru rv q=>⟨i,j,ru.int R s e1,rv.int R s e2,q⟩⟩
  case h_2 xs ys e1 e2 =>
   unfold ltT at h
   split at h
   ·rename_i c
    rw[CK]at c;exact⟨_,sV (Hi:=Hi) hun,fun O σ H H2 u v Q R s ru rv q=>⟨_,_,t,c.1,c.2,by have z:=ru.val R s;rw[e1]at z;exact z,by have z:=rv.val R s;rw[e2]at z;exact z,h,q⟩⟩
   ·cases h
  case h_3=>cases h
 | LtE =>
  have h:nN x.val y.val=some t:=h;unfold nN at h
  split at h
  case h_1 i j e1 e2=>cases h;exact⟨_,A9,fun O σ H H2 u v Q R s ru rv q=>⟨i,j,ru.int R s e1,rv.int R s e2,q⟩⟩
  case h_2=>cases h
 | Gt =>
  have h:tz x.val y.val=some t:=h;unfold tz at h
  split at h
  case h_1 i j e1 e2=>cases h;exact⟨_,BA,fun O σ H H2 u v Q R s ru rv q=>⟨i,j,ru.int R s e1,rv.int R s e2,q⟩⟩
  case h_2=>cases h
 | GtE =>
  have h:nP x.val y.val=some t:=h;unfold nP at h
  split at h
  case h_1 i j e1 e2=>cases h;exact⟨_,BB,fun O σ H H2 u v Q R s ru rv q=>⟨i,j,ru.int R s e1,rv.int R s e2,q⟩⟩
  case h_2=>cases h
 | Eq =>
  have h:xB x.val y.val=some t:=h;unfold xB at h
  split at h
  ·rename_i z
   cases h;refine⟨_,BC,fun O σ H H2 u v Q R s ru rv q=> ?_⟩;obtain⟨z1,z2⟩:=tV z (ru.val R s) (rv.val R s);exact⟨z1,by rw[z2];exact q⟩
  ·split at h
   ·rename_i c
    rw[CK]at c;cases h;exact⟨_,yR (Hi:=Hi) hun,fun O σ H H2 u v Q R s ru rv q=>⟨_,_,c.1,c.2,ru.val R s,rv.val R s,q⟩⟩
   ·cases h
 | NotEq =>
  have h:(xB x.val y.val).map (!·)=some t:=h;obtain⟨k,e,rfl⟩:∃k,xB x.val y.val=some k/\t= !k:=by
   cases e:xB x.val y.val with
   | none=>rw[e]at h;cases h
   | some k=>rw[e]at h;cases h;exact⟨k,rfl,rfl⟩
  unfold xB at e
  split at e
  ·rename_i z
   cases e;refine⟨_,A7,fun O σ H H2 u v Q R s ru rv q=> ?_⟩;obtain⟨z1,z2⟩:=tV z (ru.val R s) (rv.val R s);exact⟨z1,by rw[z2];exact q⟩
  ·split at e
   ·rename_i c
    rw[CK]at c;cases e;exact⟨_,yN (Hi:=Hi) hun,fun O σ H H2 u v Q R s ru rv q=>⟨_,_,c.1,c.2,ru.val R s,rv.val R s,q⟩⟩
   ·cases e
 | Is =>
  have h:tw x.val y.val=some t:=h;unfold tw at h
  split at h
  case h_1 e1 e2 =>
   cases h;refine⟨_,sW,fun O σ H H2 u v Q R s ru rv q=> ?_⟩;have z1:=ru.val R s;have z2:=rv.val R s;rw[e1]at z1;rw[e2]at z2;exact⟨Rp.non.mp z2,by rw[Rp.non.mp z1];exact q⟩
  case h_2 e2 ne =>
   cases h;refine⟨_,sW,fun O σ H H2 u v Q R s ru rv q=> ?_⟩;have z2:=rv.val R s;rw[e2]at z2;have n:u≠.non:=yZ (ru.val R s) fun z=>by
    by_cases c:z=.non
    ·left;intro c2;exact ne (c2.trans c)
    ·right;exact c
   exact⟨Rp.non.mp z2,by rw[C6 n];exact q⟩
  case h_3 b c e1 e2=>cases h;exact⟨_,yQ,fun O σ H H2 u v Q R s ru rv q=>⟨b,c,ru.bl R s e1,rv.bl R s e2,q⟩⟩
  case h_4=>cases h
 | _=>exact absurd (show(none:Option Bool)=some t from h) (by intro z;cases z)
theorem wu{op:CmpOp}{b:Expr}(h:dH b=false):behindInMarks op b=false:=by
 cases b<;>first|rfl|cases h
theorem zN(hun:X.A.units+64<cLine){a b:Expr}{op:CmpOp}{pos:Pos}{x y:RV}{t:Bool}(ha:aE X Hi τ a x)(hb:aE X Hi τ b y)(hs:dH b=false)(h:bY op x.val y.val=some t):aE X Hi τ (.Compare a [op] [b] pos) (sc (.bl t)):=by
 obtain⟨rr,ho,k⟩:=lV (X:=X) (Hi:=Hi) (τ:=τ) hun h;intro O σ H Q R q;refine we (vS ho aU aU (wu hs)) ?_;refine ha O σ H _ R fun u H1 s1 r1=>hb O σ H1 _ (R.ext s1) fun v H2 s2 r2=> ?_;exact k O σ H H2 u v Q R (s1.trans s2) (r1.ext s2) (r2.back s1) (q _ _ (s1.trans s2) xc)
theorem zM(hun:X.A.units+64<cLine){a b:Expr}{op:CmpOp}{pos:Pos}{x y:RV}{t:Bool}(ha:aE X Hi τ a x)(hb:aE X Hi τ b y)(hs:dH b=false)(h:bY op x.val y.val=some t):de X Hi τ (.Compare a [op] [b] pos) t:=by
 obtain⟨rr,ho,k⟩:=lV (X:=X) (Hi:=Hi) (τ:=τ) hun h;intro O σ H Q R q;refine wt (vJ ho aU aU (wu hs)) ?_;refine ha O σ H _ R fun u H1 s1 r1=>hb O σ H1 _ (R.ext s1) fun v H2 s2 r2=> ?_;exact k O σ H H2 u v _ R (s1.trans s2) (r1.ext s2) (r2.back s1) ⟨t,rfl,q _ (s1.trans s2)⟩
theorem ya{a:Expr}{pos:Pos}{x:RV}{i:Int}(ha:aE X Hi τ a x)(e:x.val=.int i):aE X Hi τ (.UnaryOp .USub a pos) (sc (.int (-i))):=by
 intro O σ H Q R q;refine we (A3 xK aU) ?_;exact ha O σ H _ R fun u H1 s1 r1=>⟨i,r1.int R s1 e,q _ _ s1 uc⟩
theorem yY{a:Expr}{pos:Pos}{x:RV}{b:Bool}(ha:aE X Hi τ a x)(e:x.val=.bl b):aE X Hi τ (.UnaryOp .Not a pos) (sc (.bl !b)):=by
 intro O σ H Q R q;refine we (yH aU) ?_;exact ha O σ H _ R fun u H1 s1 r1=>⟨b,r1.bl R s1 e,q _ _ s1 xc⟩
theorem yV{op:BoolOp}{a:Expr}{pos:Pos}{x:RV}(ha:aE X Hi τ a x):aE X Hi τ (.BoolOp op [a] pos) x:=by
 intro O σ H Q R q;exact we (yG aU) (ha O σ H _ R q)
theorem B2{a b:Expr}{aJ:List Expr}{pos:Pos}{x y:RV}(ha:aE X Hi τ a x)(e:x.val=.bl true)(hb:aE X Hi τ (.BoolOp .And (b::aJ) pos) y):aE X Hi τ (.BoolOp .And (a::b::aJ) pos) y:=by
 intro O σ H Q R q;refine we (sR aU aU) ?_;exact ha O σ H _ R fun u H1 s1 r1=>⟨true,r1.bl R s1 e,mz (hb O σ H1 _ (R.ext s1) fun w H2 s2 r2=>q w H2 (s1.trans s2) (r2.back s1))⟩
theorem B3{a b:Expr}{aJ:List Expr}{pos:Pos}{x:RV}(ha:aE X Hi τ a x)(e:x.val=.bl false):aE X Hi τ (.BoolOp .And (a::b::aJ) pos) (sc (.bl false)):=by
 intro O σ H Q R q;refine we (sR aU aU) ?_;exact ha O σ H _ R fun u H1 s1 r1=>⟨false,r1.bl R s1 e,ju (q _ _ s1 xc)⟩
theorem or_f{a b:Expr}{aJ:List Expr}{pos:Pos}{x y:RV}(ha:aE X Hi τ a x)(e:x.val=.bl false)(hb:aE X Hi τ (.BoolOp .Or (b::aJ) pos) y):aE X Hi τ (.BoolOp .Or (a::b::aJ) pos) y:=by
 intro O σ H Q R q;refine we (wk aU aU) ?_;exact ha O σ H _ R fun u H1 s1 r1=>⟨false,r1.bl R s1 e,ju (hb O σ H1 _ (R.ext s1) fun w H2 s2 r2=>q w H2 (s1.trans s2) (r2.back s1))⟩
theorem or_t{a b:Expr}{aJ:List Expr}{pos:Pos}{x:RV}(ha:aE X Hi τ a x)(e:x.val=.bl true):aE X Hi τ (.BoolOp .Or (a::b::aJ) pos) (sc (.bl true)):=by
 intro O σ H Q R q;refine we (wk aU aU) ?_;exact ha O σ H _ R fun u H1 s1 r1=>⟨true,r1.bl R s1 e,mz (q _ _ s1 xc)⟩
theorem yp{c a b:Expr}{pos:Pos}{t:Bool}{r:RV}(hc:de X Hi τ c t)(h:aE X Hi τ (if t=true then a else b) r):aE X Hi τ (.IfExp c a b pos) r:=by
 intro O σ H Q R q;refine we (sQ iq aU aU) ?_;refine hc O σ H _ R fun H1 s1=> ?_;cases t with
 | true=>exact mz ((show aE X Hi τ a r from h) O σ H1 _ (R.ext s1) fun w H2 s2 r2=>q w H2 (s1.trans s2) (r2.back s1))
 | false=>exact ju ((show aE X Hi τ b r from h) O σ H1 _ (R.ext s1) fun w H2 s2 r2=>q w H2 (s1.trans s2) (r2.back s1))
theorem gt{v:PV}{b:Bool}{H:Hp}{u:V}(h:kP v=some b)(r:Rp X.K Hi false v H u):zn X.K u H b:=by
 cases v with
 | non=>cases h;rw[Rp.non.mp r];rfl
 | bl c=>cases h;rw[Rp.bl.mp r];rfl
 | int i=>cases h;rw[Rp.int.mp r];rfl
 | str z =>
  have h:(if z.length<=LN then some ((z.length:Int) !=0)else none)=some b:=h
  split at h
  ·rename_i c
   cases h;rw[Rp.str.mp r];exact⟨by rw[bW];exact c,rfl⟩
  ·cases h
 | lst xs =>
  cases h;obtain⟨p,us,rfl,_,l,r⟩:=Rp.lst.mp r;have:=r.len;exact .inl ⟨us,l,by cases xs<;>cases us<;>simp_all⟩
 | tup xs =>
  cases h;obtain⟨p,us,rfl,l,r⟩:=Rp.tup.mp r;have:=r.len;exact .inr (.inl ⟨us,l,by cases xs<;>cases us<;>simp_all⟩)
 | dK ks vs =>
  cases h;unfold Rp at r;obtain⟨p,us,rfl,_,l,z,r⟩:=r;exact .inr (.inr ⟨_,l,by cases ks<;>cases us<;>simp_all⟩)
 | dT ks vs=>cases h
theorem xJ{e:Expr}{x:RV}{b:Bool}(he:aE X Hi τ e x)(h:kP x.val=some b)(hp:∀whole,isTrue e X.env whole=(do let v<-whole;standAt e.pos;holding [v] (truthy v))):de X Hi τ e b:=by
 intro O σ H Q R q;refine wt (hX aU hp) ?_;exact he O σ H _ R fun u H1 s1 r1=>⟨b,gt h (r1.val R s1),q _ s1⟩
theorem yX{a:Expr}{pos:Pos}{b:Bool}(ha:de X Hi τ a b):de X Hi τ (.UnaryOp .Not a pos) !b:=by
 intro O σ H Q R q;exact wt (mW iq) (ha O σ H _ R fun H1 s1=>q _ s1)
noncomputable def jB(X:Cx)(Hi:Hp)(τ:En)(e:Expr)(b:Bool):Prop:=∀(O:List Addr)(σ:L2.St)(H:Hp)(Q:Bool->Hp->Prop),aQ X.K Hi O τ σ H->(∀H',aA H H' ->Q b H') ->
 ∀(whole:Sem Value)(pins:List (Addr×Obj))(s:Shared),Inv X pins σ H s->wpAny (model X.prog X.w) X.A (isTrue e X.env whole) (TP X pins σ Q) X.xe s
theorem Az{e:Expr}:PW X e (fun σ H Q=>∀(whole:Sem Value)(pins:List (Addr×Obj))(s:Shared),Inv X pins σ H s->wpAny (model X.prog X.w) X.A (isTrue e X.env whole) (TP X pins σ Q) X.xe s):=fun wh pins s σ H Q I h=>h wh pins s I
theorem jB.tc{e:Expr}{b:Bool}(h:jB X Hi τ e b):de X Hi τ e b:=fun O σ H Q R q pins s I=>h O σ H Q R q _ pins s I
theorem yU{op:BoolOp}{a:Expr}{pos:Pos}{b:Bool}(ha:de X Hi τ a b):jB X Hi τ (.BoolOp op [a] pos) b:=by
 intro O σ H Q R q wh pins s I;cases op with
 | And=>exact vI iq wh pins s σ H Q I (ha O σ H Q R q)
 | Or=>exact rk iq wh pins s σ H Q I (ha O σ H Q R q)
theorem uN{a b:Expr}{aJ:List Expr}{pos:Pos}{t u:Bool}(ha:de X Hi τ a t)(hb:if t=true then jB X Hi τ (.BoolOp .And (b::aJ) pos) u else u=false):jB X Hi τ (.BoolOp .And (a::b::aJ) pos) u:=by
 intro O σ H Q R q wh pins s I;refine xr iq Az wh pins s σ H Q I ?_;refine ha O σ H _ R fun H1 s1=> ?_;cases t with
 | true=>exact mz ((show jB X Hi τ _ u from hb) O σ H1 _ (R.ext s1) fun H2 s2=>q _ (s1.trans s2))
 | false =>
  have hb:u=false:=hb;subst hb;exact ju (q _ s1)
theorem wp{a b:Expr}{aJ:List Expr}{pos:Pos}{t u:Bool}(ha:de X Hi τ a t)(hb:if t=true then u=true else jB X Hi τ (.BoolOp .Or (b::aJ) pos) u):jB X Hi τ (.BoolOp .Or (a::b::aJ) pos) u:=by
 intro O σ H Q R q wh pins s I;refine wj iq Az wh pins s σ H Q I ?_;refine ha O σ H _ R fun H1 s1=> ?_;cases t with
 | false=>exact ju ((show jB X Hi τ _ u from hb) O σ H1 _ (R.ext s1) fun H2 s2=>q _ (s1.trans s2))
 | true =>
  have hb:u=true:=hb;subst hb;exact mz (q _ s1)
end
end IR
namespace L2
open PySem PySem.Spec PyProof.Rows
section
variable{X:Cx}
inductive B7(K:W.Frag)(H:Hp):V->Value->Prop where
 | of {x:V} {t:Value} (h:ft K H x t):B7 K H x t
 | lst {a:Addr} {xs:List V} (e:ao K H a xs):B7 K H (.ref a) (.type "list")
 | tup {a:Addr} {xs:List V} (e:bQ K H a xs):B7 K H (.ref a) (.type "tuple")
theorem nS:bK X (.builtin "isinstance") (fun xs H Q=>∃x c t b,xs=[x,.ty c]/\B7 X.K H x t/\W.kitOne X.K t (.type c)=some b/\Q (.bl b) H):=by
 intro pins s σ H xs us Q I r h;obtain⟨x,c,t,b,rfl,ty,e,q⟩:=h;obtain⟨u,w',rfl,rx,ry⟩:=vals2 r;cases ry;cases ty with
 | of ty=>exact qC I rx ty e fun tk=>⟨.bl b,H,I.tok _,rfl,q⟩
 | lst l =>
  cases rx;obtain⟨its,r',pl,hz⟩:=I.list l;obtain⟨o,n,h1,h2,_⟩:=pl;exact EM W.kitx_list I.kIn ⟨o,h1,h2⟩ e (fun z=>nomatch z) fun tk=>⟨.bl b,H,I.tok _,rfl,q⟩
 | tup l =>
  cases rx;obtain⟨its,r',pl,hz⟩:=I.tuple l;obtain⟨o,h1,h2,_⟩:=pl;exact EM W.kitx_tuple I.kIn ⟨o,h1,h2⟩ e (fun z=>nomatch z) fun tk=>⟨.bl b,H,I.tok _,rfl,q⟩
end
section
variable{K:W.Frag}
theorem kits:(W.kitOne K (.type "NoneType") (.type "int")=some false/\W.kitOne K (.type "NoneType") (.type "str")=some false/\W.kitOne K (.type "NoneType") (.type "list")=some false/\W.kitOne K (.type "NoneType") (.type "tuple")=some false/\W.kitOne K (.type "NoneType") (.type "bool")=some false) /\
  (W.kitOne K (.type "bool") (.type "int")=some true/\W.kitOne K (.type "bool") (.type "str")=some false/\W.kitOne K (.type "bool") (.type "list")=some false/\W.kitOne K (.type "bool") (.type "tuple")=some false) /\
  (W.kitOne K (.type "int") (.type "bool")=some false/\W.kitOne K (.type "int") (.type "str")=some false/\W.kitOne K (.type "int") (.type "list")=some false/\W.kitOne K (.type "int") (.type "tuple")=some false) /\
  (W.kitOne K (.type "str") (.type "bool")=some false/\W.kitOne K (.type "str") (.type "int")=some false/\W.kitOne K (.type "str") (.type "list")=some false/\W.kitOne K (.type "str") (.type "tuple")=some false) /\
  (W.kitOne K (.type "list") (.type "bool")=some false/\W.kitOne K (.type "list") (.type "int")=some false/\W.kitOne K (.type "list") (.type "str")=some false/\W.kitOne K (.type "list") (.type "tuple")=some false) /\
  (W.kitOne K (.type "tuple") (.type "bool")=some false/\W.kitOne K (.type "tuple") (.type "int")=some false/\W.kitOne K (.type "tuple") (.type "str")=some false/\W.kitOne K (.type "tuple") (.type "list")=some false) /\
  (W.kitOne K (.type "dict") (.type "bool")=some false/\W.kitOne K (.type "dict") (.type "int")=some false/\W.kitOne K (.type "dict") (.type "str")=some false/\W.kitOne K (.type "dict") (.type "list")=some false/\W.kitOne K (.type "dict") (.type "tuple")=some false):=by
 refine⟨⟨?_,?_,?_,?_,?_⟩,⟨?_,?_,?_,?_⟩,⟨?_,?_,?_,?_⟩,⟨?_,?_,?_,?_⟩,⟨?_,?_,?_,?_⟩,⟨?_,?_,?_,?_⟩,⟨?_,?_,?_,?_,?_⟩⟩<;>kernel_rfl
end
end L2
namespace IR
open PySem PySem.Spec PyProof.Rows L2
section
variable{X:Cx}{Hi:Hp}{τ:En}
theorem aL{e:Expr}{es:List Expr}{env:Env}(h:isStar e=false):starEach (e::es) env=(false,eval e env)::starEach es env:=by
 cases e<;>first|rfl|cases h
theorem dq{env:Env}{pos:Pos}:∀{es:List Expr},(∀e∈es,isStar e=false)->(backTo pos (starEach es env)).any (·.1)=false
 | [],_=>rfl
 | e::es,h=>by
  rw[aL (h e Cd)];show(false||(backTo pos (starEach es env)).any (·.1))=false;rw[dq fun x hx=>h x (CV _ hx)];rfl
theorem zj:kK X Hi τ [] []:=by
 intro O σ H Q R q;exact wa aV (q _ _ (aA.refl _) rfl)
theorem wP{e:Expr}{es:List Expr}{r:RV}{rs:List RV}(he:aE X Hi τ e r)(hs:isStar e=false)(hr:kK X Hi τ es rs):kK X Hi τ (e::es) (r::rs):=by
 intro O σ H Q R q;refine wa (aG aU mf (aL hs)) ?_;refine he O σ H _ R fun u H1 s1 r1=>hr O σ H1 _ (R.ext s1) fun us H2 s2 r2=> ?_;exact q _ _ (s1.trans s2) ⟨u,us,rfl,r1.ext s2,r2.back s1⟩
theorem ye{es:List Expr}{pos:Pos}{rs:List RV}{vs:List PV}{n:Bool}{r:RV}(h:kK X Hi τ es rs)(hk:keeps rs=some (vs,n))(hn:gN vs n=some r):aE X Hi τ (.List es pos) r:=by
 obtain⟨hz,rfl⟩:=oK hn;intro O σ H Q R q;refine we (iC mf) ?_;refine h O σ H _ R fun us H1 s1 r1=> ?_;have k:=r1.keeps R s1 hk;have hl:=k.len;exact⟨by rw[bW,<-hl];exact hz,fun p hp=>q _ _ (s1.trans (aH hp _)) (cM s1 hp k)⟩
theorem xL{es:List Expr}{m:Nat}{pos:Pos}{rs:List RV}{vs:List PV}{n:Bool}{r:RV}(h:kK X Hi τ es rs)(hk:keeps rs=some (vs,n))(hn:kq vs n=some r):aE X Hi τ (.Tuple es m pos) r:=by
 obtain⟨hz,rfl⟩:=jq hn;intro O σ H Q R q;refine we (jp mf) ?_;refine h O σ H _ R fun us H1 s1 r1=> ?_;have k:=r1.keeps R s1 hk;have hl:=k.len;exact⟨by rw[bW,<-hl];exact hz,fun p hp=>q _ _ (s1.trans (aH hp _)) (Rp.tup.mpr ⟨p,us,rfl,bQ.of (gn R s1 hp),k.mono (aC (aH hp _))⟩)⟩
noncomputable def fM(O:List Addr)(G:Hp):Prop:=∀l∈O,(∀xs,G l≠some (.tup xs))/\∀o xs,G l≠some (.frz o (.tup xs))
theorem Mo.noTup{o:HO}{G:Hp}{l:Addr}(m:Mo o)(e:G l=some o):(∀xs,G l≠some (.tup xs))/\∀o xs,G l≠some (.frz o (.tup xs)):=by
 obtain⟨b,us,m⟩:=m;refine⟨fun xs z=> ?_,fun o xs z=> ?_⟩<;>(rw[e]at z;cases z;cases b<;>first|cases m.1|cases m)
theorem fM.del{O:List Addr}{G:Hp}{p:Addr}(h:fM O G):fM O (IR.del G p):=fun l hl=>by
 refine⟨fun xs e=> ?_,fun o xs e=> ?_⟩
 ·unfold IR.del at e
  split at e
  ·cases e
  ·exact(h l hl).1 xs e
 ·unfold IR.del at e
  split at e
  ·cases e
  ·exact(h l hl).2 o xs e
theorem fM.tups{O:List Addr}{G:Hp}(h:fM O G):nl G (aI G O):=by
 refine⟨fun b xs e=> ?_,fun b o xs e=> ?_⟩
 ·unfold aI
  rw[CM fun z=>(h b z).1 xs e];exact e
 ·unfold aI
  rw[CM fun z=>(h b z).2 o xs e];exact e
mutual
theorem Rp.avoid{K:W.Frag}{Hj:Hp}{O:List Addr}(hO:∀l∈O,Hj l≠none):∀{v:PV}{G:Hp}{u:V},fM O G->Rp K Hj true v G u->Rp K Hj true v (aI G O) u
 | .non,_,_,_,h=>by unfold Rp at h ⊢;exact h
 | .bl _,_,_,_,h=>by unfold Rp at h ⊢;exact h
 | .int _,_,_,_,h=>by unfold Rp at h ⊢;exact h
 | .str _,_,_,_,h=>by unfold Rp at h ⊢;exact h
 | .lst xs,G,_,t,h=>by
  unfold Rp at h ⊢;obtain⟨p,us,e,q,l,r⟩:=h;obtain⟨q1,q2⟩:=q rfl;have q3:aI G O p=some (.lst us):=by
   unfold aI;rw[CM fun z=>hO p z q1];exact q2
  exact⟨p,us,e,fun _=>⟨q1,q3⟩,ao.of q3,by rw[<- fE];exact aD.avoid hO t.del r⟩
 | .tup xs,_,_,t,h=>by
  unfold Rp at h ⊢;obtain⟨p,us,e,l,r⟩:=h;exact⟨p,us,e,t.tups.at l,aD.avoid hO t r⟩
 | .dK ks vs,G,_,t,h=>by
  unfold Rp at h ⊢;obtain⟨p,us,e,q,l,z,r⟩:=h;refine⟨p,us,e,q,?_,z,by rw[<- fE];exact aD.avoid hO t.del r⟩;unfold aI;rw[CM fun z=>hO p z (q rfl)];exact l
 | .dT ks vs,G,_,t,h=>by
  unfold Rp at h ⊢;obtain⟨p,us,e,q,l,z,r⟩:=h;refine⟨p,us,e,q,?_,z,by rw[<- fE];exact aD.avoid hO t.del r⟩;unfold aI;rw[CM fun z=>hO p z (q rfl)];exact l
theorem aD.avoid{K:W.Frag}{Hj:Hp}{O:List Addr}(hO:∀l∈O,Hj l≠none):∀{xs:List PV}{G:Hp}{us:List V},fM O G->aD K Hj true xs G us->aD K Hj true xs (aI G O) us
 | [],_,_,_,h=>by unfold aD at h ⊢;exact h
 | x::xs,_,_,t,h=>by
  unfold aD at h ⊢;obtain⟨u,r,e,a,b⟩:=h;exact⟨u,r,e,Rp.avoid hO t a,aD.avoid hO t b⟩
end
theorem ut{O:List Addr}{σ:L2.St}{H H1 H' :Hp}{v:PV}{u:V}(R:aQ X.K Hi O τ σ H)(s1:aA H H1)(s:aA H1 H')(h:Rp X.K H1 true v H' u):aT X.K Hi O H H' (kR v) u:=by
 have e1:∀p,H1 p=none->Hi p=none:=fun p hp=>R.same.free (s1.free hp);have hO:∀l∈O,H1 l≠none:=fun l hl z=>by
  obtain⟨us,e,_⟩:=(R.own l hl).2;rw[s1 _ _ e]at z;cases z
 have hT:fM O H' :=fun l hl=>by
  obtain⟨us,e,mo⟩:=(R.own l hl).2;have e' :=s _ _ (s1 _ _ e);exact mo.noTup e'
 have gen:Rp X.K Hi true v (aI H' O) u:=(Rp.avoid hO hT h).entry fun _=>e1;cases v with
 | lst xs =>
  obtain⟨p,us,e,q,l,r⟩:=Rp.lst.mp h;obtain⟨q1,q2⟩:=q rfl;exact⟨p,us,e,s1.free q1,q2,(aD.avoid hO hT.del r).entry fun _=>e1⟩
 | _=>exact gen
theorem call_ok{cd:Nat->List PV->Option PV}{ct:Ct}(C:bB cd X ct){x:Str}{f:Nat}{e:Expr}{es:List Expr}{p pos:Pos}{rs:List RV}{v:PV}(hx:qa x=false)(hg:ct.S.lookup x=some .globalImplicit)(hf:ct.F.lookup x=some f)
  (hs:∀a∈e::es,isStar a=false) (ha:kK X Hi τ (e::es) rs) (hv:cd f (rs.map RV.val)=some v):aE X Hi τ (.Call (.Name x p) (e::es) [] pos) (kR v):=by
 intro O σ H Q R q;obtain⟨k,a,fd,ps,F,hr,hm,kp,bd⟩:=C.fns x f hf;have g:Gl X x:=by
  show X.env.scope.names.lookup x=_;rw[C.S];exact hg
 refine we (cL F hr g hm kp bd .nil gB mf (bI hx).1 (aL (hs e Cd)) (dq fun b hb=>hs b (CV _ hb))) ?_;refine ha O σ H _ R fun us H1 s1 r1=> ?_;have vs:=r1.vals R s1;rw[DL];exact⟨_,v,vs.entry (fun z=>by cases z),hv,fun u H' s' ru=>q _ _ (s1.trans s') (ut R s1 s' ru)⟩
theorem gF{cd:Nat->List PV->Option PV}{ct:Ct}(C:bB cd X ct){x:Str}(h:own ct x=true):Gl X x/\X.mg x=none:=by
 unfold own at h;rw[CK]at h;refine⟨?_,C.bl x h.1⟩;show X.env.scope.names.lookup x=_;rw[C.S]
 simpa using h.2
theorem eG{cd:Nat->List PV->Option PV}{ct:Ct}(C:bB cd X ct){x:Str}{id:String}{a:Expr}{p pos:Pos}{ra r:RV}{rr:List V->Hp->VK->Prop}(hc:bK X (.builtin id) rr)(ho:own ct x=true)(hb:bootBuiltins x=some (.builtin id))(hx:qa x=false)(hs:isStar a=false)(ha:aE X Hi τ a ra)
  (k:∀(O:List Addr)(σ:L2.St)(H H2:Hp)(u:V)(Q:VK),aQ X.K Hi O τ σ H->aA H H2->aT X.K Hi O H H2 ra u->(∀w H3,aA H2 H3->aT X.K Hi O H H3 r w->Q w H3)->rr [u] H2 Q):aE X Hi τ (.Call (.Name x p) [a] [] pos) r:=by
 intro O σ H Q R q;obtain⟨g,hm⟩:=gF C ho;refine we (iE hc g hm hb (aG aU aV (aL hs)) (bI hx).2.2 (bI hx).1 (aL hs) rfl) ?_;exact ha O σ H _ R fun u H1 s1 r1=>k O σ H H1 u Q R s1 r1 fun w H3 s3 r3=>q w H3 (s1.trans s3) r3
theorem oA{cd:Nat->List PV->Option PV}{ct:Ct}(C:bB cd X ct){x:Str}{id:String}{a:Expr}{p pos:Pos}{ra r:RV}{rr:List V->Hp->VK->Prop}(hc:bK X (.type id) rr)(ho:own ct x=true)(hb:bootBuiltins x=some (.type id))(hx:qa x=false)(hs:isStar a=false)(ha:aE X Hi τ a ra)
  (k:∀(O:List Addr)(σ:L2.St)(H H2:Hp)(u:V)(Q:VK),aQ X.K Hi O τ σ H->aA H H2->aT X.K Hi O H H2 ra u->(∀w H3,aA H2 H3->aT X.K Hi O H H3 r w->Q w H3)->rr [u] H2 Q):aE X Hi τ (.Call (.Name x p) [a] [] pos) r:=by
 intro O σ H Q R q;obtain⟨g,hm⟩:=gF C ho;refine we (pV hc g hm hb (aG aU aV (aL hs)) (bI hx).2.2 (bI hx).1 (aL hs) rfl) ?_;exact ha O σ H _ R fun u H1 s1 r1=>k O σ H H1 u Q R s1 r1 fun w H3 s3 r3=>q w H3 (s1.trans s3) r3
theorem b2_go{cd:Nat->List PV->Option PV}{ct:Ct}(C:bB cd X ct){x:Str}{id:String}{a b:Expr}{p pos:Pos}{ra rb r:RV}{rr:List V->Hp->VK->Prop}(hc:bK X (.builtin id) rr)(ho:own ct x=true)(hb:bootBuiltins x=some (.builtin id))(hx:qa x=false)(hs:isStar a=false)(hs2:isStar b=false)(ha:aE X Hi τ a ra)(hb' :aE X Hi τ b rb)
  (k:∀(O:List Addr)(σ:L2.St)(H H2:Hp)(u v:V)(Q:VK),aQ X.K Hi O τ σ H->aA H H2->aT X.K Hi O H H2 ra u->aT X.K Hi O H H2 rb v->(∀w H3,aA H2 H3->aT X.K Hi O H H3 r w->Q w H3)->rr [u,v] H2 Q):aE X Hi τ (.Call (.Name x p) [a,b] [] pos) r:=by
 intro O σ H Q R q;obtain⟨g,hm⟩:=gF C ho;refine we (iE hc g hm hb (aG aU (aG aU aV (aL hs2)) (aL hs)) (bI hx).2.2 (bI hx).1 (aL hs) (dq fun c hc=>by simp at hc;subst hc;exact hs2)) ?_;exact ha O σ H _ R fun u H1 s1 r1=>hb' O σ H1 _ (R.ext s1) fun v H2 s2 r2=>k O σ H H2 u v Q R (s1.trans s2) (r1.ext s2) (r2.back s1) fun w H3 s3 r3=>q w H3 (s1.trans (s2.trans s3)) r3
theorem iX:∀{xs:List PV}{bs:List Bool}{H:Hp}{us:List V},dJ xs=some bs->aD X.K Hi false xs H us->us=bs.map V.bl
 | [],bs,_,_,h,r=>by cases h;unfold aD at r;exact r
 | x::xs,bs,_,_,h,r=>by
  unfold aD at r;obtain⟨u,ws,rfl,a,b⟩:=r;cases x with
  | bl c =>
   have h:(dJ xs).map (c::·)=some bs:=h;cases e:dJ xs with
   | none=>rw[e]at h;cases h
   | some ds =>
    rw[e]at h;cases h;rw[Rp.bl.mp a,iX e b];rfl
  | _=>cases h
theorem fe:∀{xs:List PV}{bs:List Int}{H:Hp}{us:List V},aa xs=some bs->aD X.K Hi false xs H us->us=bs.map V.int
 | [],bs,_,_,h,r=>by cases h;unfold aD at r;exact r
 | x::xs,bs,_,_,h,r=>by
  unfold aD at r;obtain⟨u,ws,rfl,a,b⟩:=r;cases x with
  | int c =>
   have h:(aa xs).map (c::·)=some bs:=h;cases e:aa xs with
   | none=>rw[e]at h;cases h
   | some ds =>
    rw[e]at h;cases h;rw[Rp.int.mp a,fe e b];rfl
  | _=>cases h
theorem gv:∀{xs:List PV}{bs:List Str}{H:Hp}{us:List V},bH xs=some bs->aD X.K Hi false xs H us->us=bs.map V.str
 | [],bs,_,_,h,r=>by cases h;unfold aD at r;exact r
 | x::xs,bs,_,_,h,r=>by
  unfold aD at r;obtain⟨u,ws,rfl,a,b⟩:=r;cases x with
  | str c =>
   have h:(bH xs).map (c::·)=some bs:=h;cases e:bH xs with
   | none=>rw[e]at h;cases h
   | some ds =>
    rw[e]at h;cases h;rw[Rp.str.mp a,gv e b];rfl
  | _=>cases h
theorem yq{t:String}{v:PV}{b:Bool}{H:Hp}{u:V}(h:dr t v=some b)(r:Rp X.K Hi false v H u):∃c,B7 X.K H u c/\W.kitOne X.K c (.type t)=some b:=by
 obtain⟨⟨n1,n2,n3,n4,n5⟩,⟨b1,b2,b3,b4⟩,⟨i1,i2,i3,i4⟩,⟨s1,s2,s3,s4⟩,⟨l1,l2,l3,l4⟩,⟨t1,t2,t3,t4⟩,⟨d1,d2,d3,d4,d5⟩⟩:= @kits X.K;cases v with
 | non =>
  rw[Rp.non.mp r];refine⟨_,.of .non,?_⟩;simp only[dr]at h
  split at h
  ·rename_i c
   cases h
   rcases c with rfl|rfl|rfl|rfl|rfl<;>assumption
  ·cases h
 | bl x =>
  rw[Rp.bl.mp r];refine⟨_,.of (.bl x),?_⟩;simp only[dr]at h
  split at h
  ·rename_i c
   cases h
   rcases c with rfl|rfl
   ·assumption
   ·exact dQ _
  ·split at h
   ·rename_i c
    cases h
    rcases c with rfl|rfl|rfl<;>assumption
   ·cases h
 | int x =>
  rw[Rp.int.mp r];refine⟨_,.of (.int x),?_⟩;simp only[dr]at h
  split at h
  ·rename_i c
   cases h;subst c;exact dQ _
  ·split at h
   ·rename_i c
    cases h
    rcases c with rfl|rfl|rfl|rfl<;>assumption
   ·cases h
 | str x =>
  rw[Rp.str.mp r];refine⟨_,.of (.str x),?_⟩;simp only[dr]at h
  split at h
  ·rename_i c
   cases h;subst c;exact dQ _
  ·split at h
   ·rename_i c
    cases h
    rcases c with rfl|rfl|rfl|rfl<;>assumption
   ·cases h
 | lst x =>
  obtain⟨p,us,rfl,_,l,_⟩:=Rp.lst.mp r;refine⟨_,.lst l,?_⟩;simp only[dr]at h
  split at h
  ·rename_i c
   cases h;subst c;exact dQ _
  ·split at h
   ·rename_i c
    cases h
    rcases c with rfl|rfl|rfl|rfl<;>assumption
   ·cases h
 | tup x =>
  obtain⟨p,us,rfl,l,_⟩:=Rp.tup.mp r;refine⟨_,.tup l,?_⟩;simp only[dr]at h
  split at h
  ·rename_i c
   cases h;subst c;exact dQ _
  ·split at h
   ·rename_i c
    cases h
    rcases c with rfl|rfl|rfl|rfl<;>assumption
   ·cases h
 | dK ks vs =>
  unfold Rp at r;obtain⟨p,us,rfl,_,l,_⟩:=r;refine⟨_,.of (.dK l),?_⟩;simp only[dr]at h
  split at h
  ·rename_i c
   cases h
   rcases c with rfl|rfl|rfl|rfl|rfl<;>assumption
  ·cases h
 | dT ks vs=>cases h
theorem wG{t:Str}{ty:String}(h:qz t=some ty):bootBuiltins t=some (.type ty)/\qa t=false:=by
 unfold qz at h
 split at h
 ·rename_i c;cases h;rw[Cy c];exact⟨PyProof.Rows.boot_int,by decide⟩
 split at h
 ·rename_i c;cases h;rw[Cy c];exact⟨PyProof.Rows.boot_bool,by decide⟩
 split at h
 ·rename_i c;cases h;rw[Cy c];exact⟨PyProof.Rows.boot_str,by decide⟩
 split at h
 ·rename_i c;cases h;rw[Cy c];exact⟨PyProof.Rows.boot_list,by decide⟩
 split at h
 ·rename_i c;cases h;rw[Cy c];exact⟨PyProof.Rows.boot_tuple,by decide⟩
 cases h
theorem isin_ok{cd:Nat->List PV->Option PV}{ct:Ct}(C:bB cd X ct){t:Str}{ty:String}{a:Expr}{p pt pos:Pos}{ra:RV}{b:Bool}(ho:own ct ("isinstance":Str)=true)(ht:qz t=some ty)(hot:own ct t=true)(hs:isStar a=false)(ha:aE X Hi τ a ra)(h:dr ty ra.val=some b) :
  aE X Hi τ (.Call (.Name "isinstance" p) [a,.Name t pt] [] pos) (sc (.bl b)):=by
 intro O σ H Q R q;obtain⟨g,hm⟩:=gF C ho;obtain⟨g2,hm2⟩:=gF C hot;obtain⟨hb,hod⟩:=wG ht;refine we (iE nS g hm boot_isinstance (aG aU (aG (A4 g2 hm2 hb (bI hod).2.2 (bI hod).1) aV) (aL hs)) (by decide) (by decide) (aL hs) rfl) ?_;refine ha O σ H _ R fun u H1 s1 r1=> ?_;obtain⟨c,ty',k⟩:=yq h (r1.val R s1);exact⟨u,ty,c,b,rfl,ty',k,q _ _ s1 xc⟩
end
end IR
namespace L2
open PySem PySem.Spec PyProof.Rows
end L2
namespace IR
open PySem L2
section
variable{X:Cx}{Hi:Hp}{τ:En}
theorem vM{x:PV}{q:Int×Int}(h:sA x=some q):x=ah q:=by
 cases x with
 | tup xs =>
  have h:((aa xs).bind fun ns=>match ns with
   | [a,b]=>some (a,b)
   | _=>none)=some q:=h
  cases e:aa xs with
  | none=>rw[e]at h;cases h
  | some ns =>
   rw[e]at h
   match ns,h with
   | [a,b],h =>
    cases h;have:xs=[PV.int a,PV.int b]:=by
     have key:∀(xs:List PV)(ns:List Int),aa xs=some ns->xs=ns.map PV.int:=by
      intro xs
      induction xs with
      | nil=>intro ns z;cases z;rfl
      | cons y r ih =>
       intro ns z;cases y with
       | int i =>
        have z:(aa r).map (i::·)=some ns:=z;cases e2:aa r with
        | none=>rw[e2]at z;cases z
        | some m=>rw[e2]at z;cases z;rw[ih m e2];rfl
       | _=>cases z
     exact key xs _ e
    subst this;rfl
 | _=>cases h
theorem hZ:∀{xs:List PV}{ps:List (Int×Int)},dG xs=some ps->xs=ps.map ah
 | [],_,h=>by cases h;rfl
 | x::r,ps,h=>by
  have h:((sA x).bind fun q=>(dG r).map (q::·))=some ps:=h;cases e:sA x with
  | none=>rw[e]at h;cases h
  | some q =>
   rw[e]at h;have h:(dG r).map (q::·)=some ps:=h;cases e2:dG r with
   | none=>rw[e2]at h;cases h
   | some m =>
    rw[e2]at h;cases h;rw[vM e,hZ e2];rfl
theorem aD.pick{n:Bool}{H:Hp}{xs:List PV}{us:List V}(r:aD X.K Hi n xs H us):∀{js:List Nat},(∀j∈js,j<us.length)->aD X.K Hi n (js.map fun i=>xs.getD i .non) H (js.map fun i=>us.getD i .non)
 | [],_=>.nil
 | j::js,h=>by
  have hj:=h j Cd;obtain⟨x,hx,rx⟩:=r.at' (i:=j) (u:=us[j]) (CW hj);refine .cons ?_ (aD.pick r fun i hi=>h i (CV _ hi));dsimp only;rw[Cs,hx,Cs,CW hj];exact rx
theorem bN(ps:List (Int×Int)):(aX ps).Perm ps:=List.mergeSort_perm _ _
theorem kZ(ps:List (Int×Int)):(aX ps).Pairwise fun a b=>SW.bD a<=SW.bD b:=by
 have:=List.pairwise_mergeSort (le:=fun a b:Int×Int=>decide (SW.bD a<=SW.bD b)) (fun a b c h1 h2=>by simp only[D2]at *;omega) (fun a b=>by simp only[Do,D2];omega) ps;exact this.imp fun h=>by simpa using h
theorem lB{a b:Int×Int}(ha:0<=a.2/\a.2<1000)(hb:0<=b.2/\b.2<1000)(h:SW.bD a=SW.bD b):a=b:=by
 unfold SW.bD at h;exact Prod.ext (by omega) (by omega)
theorem eZ{ps qs:List (Int×Int)}(hb:∀q∈ps,0<=q.2/\q.2<1000)(p:qs.Perm ps)(s:qs.Pairwise fun a b=>SW.bD a<=SW.bD b):qs=aX ps :=
 FW (le:=fun a b=>SW.bD a<=SW.bD b) (fun a b ha hb' h1 h2=>lB (hb _ (p.mem_iff.mp ha)) (hb _ ((bN ps).mem_iff.mp hb')) (by omega)) s (kZ ps) (p.trans (bN ps).symm)
theorem hU{α:Type}(d:α)(xs:List α):(List.range xs.length).map (fun i=>xs.getD i d)=xs:=by
 apply List.ext_getElem (by simp)
 intro i h1 h2;simp[h2]
theorem iL:∀ps:List (Int×Int),imms (ps.map ah)=true
 | []=>rfl
 | q::ps=>by
  show(imm (ah q)&&imms (ps.map ah))=true;rw[iL ps];rfl
theorem ot(p q:Int×Int)(hp:0<=p.2/\p.2<1000)(hq:0<=q.2/\q.2<1000)(xs ys:List PV)(h:p=q->cl xs ys=some (decide (SW.bD p<SW.bD q))):cl (.int p.1::.int p.2::xs) (.int q.1::.int q.2::ys)=some (decide (SW.bD p<SW.bD q)):=by
 show(if decide (p.1=q.1)=true then(if decide (p.2=q.2)=true then cl xs ys else some (decide (p.2<q.2)))else some (decide (p.1<q.1)))=_;unfold SW.bD at h ⊢
 by_cases e1:p.1=q.1
 ·rw[CQ (by simpa using e1)]
  by_cases e2:p.2=q.2
  ·rw[CQ (by simpa using e2)]
   exact h (Prod.ext e1 e2)
  ·rw[CM (by simpa using e2)]
   exact Da some (decide_eq_decide.mpr (by omega))
 ·rw[CM (by simpa using e1)]
  exact Da some (decide_eq_decide.mpr (by omega))
theorem om{p q:Int×Int}(h:fN (ah p)=fN (ah q)):p=q:=by
 have h:PyData.tuple [.int p.1,.int p.2]=.tuple [.int q.1,.int q.2]:=h
 injection h with h
 injection h with h1 h
 injection h with h2
 injection h1 with h1
 injection h2 with h2
 exact Prod.ext h1 h2
theorem j7(n:Nat):∀ps:List (Int×Int),(ps.map ah).all (eE (n+1))=true
 | []=>rfl
 | p::ps=>by
  have e:eE (n+1) (ah p)=true:=by simp[ah,eE]
  rw[Cc,FV,e,j7 n ps];rfl
theorem pI{ps:List (Int×Int)}(hb:∀q∈ps,0<=q.2/\q.2<1000):kG (ps.map ah) fun i=>SW.bD (ps.getD i (0,0)):=by
 have hm:∀i,i<ps.length->ps.getD i (0,0)∈ps:=fun i hi=>by simp[hi]
 refine⟨fun i j hi hj e=> ?_,ps.map fun q=>[.int q.1,.int q.2],.inl ⟨true,by rw[Ed];rfl,fun xs hx=> ?_⟩,fun i j hi hj=> ?_⟩
 ·rw[CI]at hi hj
  rw[ak ah ps (0,0) _ _ hi,ak ah ps (0,0) _ _ hj]at e;show SW.bD _=SW.bD _;rw[om e]
 ·obtain⟨q,_,rfl⟩:=DR.mp hx
  rfl
 ·rw[CI]at hi hj
  rw[ak _ ps (0,0) _ _ hi,ak _ ps (0,0) _ _ hj];exact ot _ _ (hb _ (hm i hi)) (hb _ (hm j hj)) [] [] fun e=>by rw[e];simp[cl,qN]
theorem rO{cd:Nat->List PV->Option PV}{ct:Ct}(C:bB cd X ct){a:Expr}{p pos:Pos}{ra r:RV}{xs:List PV}(ho:own ct ("sorted":Str)=true)(hs:isStar a=false)(ha:aE X Hi τ a ra)(e:ra.val=.lst xs)(h:kW xs=some r) :
  aE X Hi τ (.Call (.Name "sorted" p) [a] [] pos) r:=by
 unfold kW at h;cases eb:dG xs with
 | none=>rw[eb]at h;cases h
 | some ps =>
  rw[eb]at h;have h:(if ps.length<4096/\ps.all (fun q=>decide (0<=q.2)&&decide (q.2<1000))=true then some (RV.own ((aX ps).map ah) true)else none)=some r:=h
  split at h
  ·rename_i c
   cases h;refine eG C (eF (Hi:=Hi) C.un) ho PyProof.Rows.boot_sorted (by decide) hs ha fun O σ H H2 u Q R s r q=> ?_;obtain⟨p,us,rfl,l,r⟩:=r.lst R s e;have ex:=hZ eb;subst ex;have hl:=r.len;rw[CI]at hl;have hb:∀q∈ps,0<=q.2/\q.2<1000:=fun q hq=>by
    have:=Cw.mp c.2 q hq
    simpa using this
   refine⟨p,us,ps.map ah,_,rfl,l,r,j7 11 ps,by omega,pI hb,fun d js hd pm pw=>q _ _ (aH hd _) (cM s hd ?_)⟩;have hj:∀j∈js,j<us.length:=fun j hj=>DC.mp (pm.mem_iff.mp hj);have e1:js.map (fun i=>ps.getD i (0,0))=aX ps:=by
    refine eZ hb ?_ ?_
    ·have:=pm.map fun i=>ps.getD i (0,0)
     rw[<- hl,hU]at this;exact this
    ·rw[FN]at pw ⊢
     exact pw
   have e2:js.map (fun i=>(ps.map ah).getD i .non)=(aX ps).map ah:=by
    rw[<- e1,Ed];refine Ee fun i hi=> ?_;have:=hj i hi;have lt:i<ps.length:=by omega
    simp[lt]
   have rp:=r.pick hj;rw[e2]at rp;exact rp.imm (iL _) (R.ext s).tups
  ·cases h
theorem xq{x:PV}{q:List (Int×Int)}(h:qOf x=some q):x=qV q:=by
 cases x with
 | lst xs =>
  have:=hZ (show dG xs=some q from h);subst this;rfl
 | _=>cases h
theorem oE:∀{xs:List PV}{qs:List (List (Int×Int))},jl xs=some qs->xs=qs.map qV
 | [],_,h=>by cases h;rfl
 | x::r,qs,h=>by
  have h:((qOf x).bind fun q=>(jl r).map (q::·))=some qs:=h;cases e1:qOf x with
  | none=>rw[e1]at h;cases h
  | some q =>
   rw[e1]at h;have h:(jl r).map (q::·)=some qs:=h;cases e2:jl r with
   | none=>rw[e2]at h;cases h
   | some m =>
    rw[e2]at h;cases h;rw[xq e1,oE e2];rfl
theorem dN(qs:List (List (Int×Int))):(bV qs).Perm qs:=List.mergeSort_perm _ _
theorem pJ(qs:List (List (Int×Int))):(bV qs).Pairwise fun a b=>bp a<=bp b:=by
 have:=List.pairwise_mergeSort (le:=fun a b:List (Int×Int)=>decide (bp a<=bp b)) (fun a b c h1 h2=>by simp only[D2]at *;omega) (fun a b=>by simp only[Do,D2];omega) qs;exact this.imp fun h=>by simpa using h
theorem lA{α:Type}{f:α->Int}{l:List α}(h:(l.map f).Nodup):∀{a b:α},a∈l->b∈l->f a=f b->a=b:=by
 induction l with
 | nil=>intro a b ha;cases ha
 | cons x l ih =>
  intro a b ha hb e;rw[Cc,DV]at h
  rcases Ca.mp ha with z|z
  ·rcases Ca.mp hb with y|y
   ·rw[z,y]
   ·exact absurd (DR.mpr ⟨b,y,by rw[<- e,z]⟩) h.1
  ·rcases Ca.mp hb with y|y
   ·exact absurd (DR.mpr ⟨a,z,by rw[e,y]⟩) h.1
   ·exact ih h.2 z y e
theorem il{qs rs:List (List (Int×Int))}(hn:(qs.map bp).Nodup)(p:rs.Perm qs)(s:rs.Pairwise fun a b=>bp a<=bp b):rs=bV qs :=
 FW (le:=fun a b=>bp a<=bp b) (fun a b ha hb' h1 h2=>lA hn (p.mem_iff.mp ha) ((dN qs).mem_iff.mp hb') (by omega)) s (pJ qs) (p.trans (dN qs).symm)
theorem oq:∀ps:List (Int×Int),cl (ps.map ah) (ps.map ah)=some false
 | []=>rfl
 | p::ps=>by
  show(if(decide (p.1=p.1)&&(decide (p.2=p.2)&&true))=true then cl (ps.map ah) (ps.map ah)else _)=_;rw[CQ (by simp)];exact oq ps
theorem rM{qs:List (List (Int×Int))}(hb:∀q∈qs,q≠[]/\∀p∈q,0<=p.2/\p.2<1000)(hn:(qs.map bp).Nodup):kG (qs.map qV) fun i=>bp (qs.getD i []):=by
 have hm:∀i,i<qs.length->qs.getD i []∈qs:=fun i hi=>by simp[hi]
 have key:∀a∈qs,∀b∈qs,cl (a.map ah) (b.map ah)=some (decide (bp a<bp b)):=fun a ha b hb' =>by
  obtain⟨a0,a1⟩:=hb a ha;obtain⟨b0,b1⟩:=hb b hb'
  by_cases e:bp a=bp b
  ·have:=lA hn ha hb' e
   subst this;rw[oq];simp
  ·match a,b,a0,b0 with
   | p::a,q::b,_,_ =>
    have e:SW.bD p≠SW.bD q:=e;have ne:¬(p.1=q.1/\p.2=q.2):=fun z=>e (by rw[show p=q from Prod.ext z.1 z.2]);have hp:=a1 p Cd;have hq:=b1 q Cd;show(if(decide (p.1=q.1)&&(decide (p.2=q.2)&&true))=true then cl (a.map ah) (b.map ah)else cl [.int p.1,.int p.2] [.int q.1,.int q.2])=some (decide (SW.bD p<SW.bD q));rw[CM (by simpa using ne)];exact ot p q hp hq [] [] fun z=>absurd (by rw[z]) e
 refine⟨fun i j hi hj e=> ?_,qs.map fun q=>q.map ah,.inr (by rw[Ed];rfl),fun i j hi hj=> ?_⟩
 ·rw[CI]at hi hj
  rw[ak qV qs [] _ _ hi,ak qV qs [] _ _ hj]at e;show bp _=bp _;obtain⟨a0,a1⟩:=hb _ (hm i hi);obtain⟨b0,b1⟩:=hb _ (hm j hj)
  revert e a0 b0
  generalize qs.getD i []=a
  generalize qs.getD j []=b
  intro e a0 b0
  match a,b,a0,b0 with
  | p::a,q::b,_,_ =>
   have e:PyData.list (fN (ah p)::be (a.map ah))=.list (fN (ah q)::be (b.map ah)):=e
   injection e with e
   injection e with e
   show SW.bD p=SW.bD q;rw[om e]
 ·rw[CI]at hi hj
  rw[ak _ qs [] _ _ hi,ak _ qs [] _ _ hj];exact key _ (hm i hi) _ (hm j hj)
theorem tS:∀qs:List (List (Int×Int)),(qs.map qV).all (eE 12)=true
 | []=>rfl
 | q::qs=>by
  show((q.map ah).all (eE 11)&&(qs.map qV).all (eE 12))=true;rw[j7 10 q,tS qs];rfl
theorem rP{cd:Nat->List PV->Option PV}{ct:Ct}(C:bB cd X ct){a:Expr}{p pos:Pos}{ra r:RV}{xs ys:List PV}{n:Bool}(ho:own ct ("sorted":Str)=true)(hs:isStar a=false)(ha:aE X Hi τ a ra)(e:ra.val=.lst xs)(ei:ra.its=some (ys,n))(h:kY ys n=some r) :
  aE X Hi τ (.Call (.Name "sorted" p) [a] [] pos) r:=by
 unfold kY at h;cases eb:jl ys with
 | none=>rw[eb]at h;cases h
 | some qs =>
 rw[eb]at h;have h:(if qs.length<4096/\qs.all (fun q=> !q.isEmpty&&q.all fun p=>decide (0<=p.2)&&decide (p.2<1000))=true/\(qs.map bp).Nodup then some (RV.own ((bV qs).map qV) n)else none)=some r:=h
 split at h
 case isFalse=>cases h
 rename_i c;cases h;have ex:=oE eb;subst ex;have hb:∀q∈qs,q≠[]/\∀p∈q,0<=p.2/\p.2<1000:=fun q hq=>by
  have:=Cw.mp c.2.1 q hq;rw[CK]at this;exact⟨fun z=>by rw[z]at this;simp at this,fun p hp=>by simpa using Cw.mp this.2 p hp⟩
 refine eG C (eF (Hi:=Hi) C.un) ho PyProof.Rows.boot_sorted (by decide) hs ha fun O σ H H2 u Q R s r q=> ?_;obtain⟨p,us,rfl,l,r⟩:=r.itsL R s ei e;have hl:=r.len;rw[CI]at hl;refine⟨p,us,qs.map qV,_,rfl,l,r.weak.mono aO,tS qs,by omega,rM hb c.2.2,fun d js hd pm pw=>q _ _ (aH hd _) (cM s hd ?_)⟩;have hj:∀j∈js,j<us.length:=fun j hj=>DC.mp (pm.mem_iff.mp hj);have e1:js.map (fun i=>qs.getD i [])=bV qs:=by
  refine il c.2.2 ?_ ?_
  ·have:=pm.map fun i=>qs.getD i []
   rw[<- hl,hU]at this;exact this
  ·rw[FN]at pw ⊢
   exact pw
 have e2:js.map (fun i=>(qs.map qV).getD i .non)=(bV qs).map qV:=by
  rw[<- e1,Ed];refine Ee fun i hi=> ?_;have:=hj i hi;have lt:i<qs.length:=by omega
  simp[lt]
 have rp:=r.pick hj;rw[e2]at rp;exact rp
end
end IR
namespace IR
open PySem PySem.Spec PyProof.Rows L2
section
variable{X:Cx}{Hi:Hp}{τ:En}
theorem sj{cd:Nat->List PV->Option PV}{ct:Ct}(C:bB cd X ct){a:Expr}{p pos:Pos}{ra:RV}{n:Nat}(ho:own ct ("len":Str)=true)(hs:isStar a=false)(ha:aE X Hi τ a ra)(h:gE ra.val=some n) :
  aE X Hi τ (.Call (.Name "len" p) [a] [] pos) (sc (.int n)):=by
 cases e:ra.val with
 | str z =>
  rw[e]at h;have h:(if z.length<=LN then some z.length else none)=some n:=h
  split at h
  ·rename_i c
   cases h;exact eG C kB ho PySem.boot_len (by decide) hs ha fun O σ H H2 u Q R s r q=>⟨z,by rw[r.str R s e],by rw[bW];exact c,q _ _ (aA.refl _) uc⟩
  ·cases h
 | lst xs =>
  rw[e]at h;cases h;refine eG C fJ ho PySem.boot_len (by decide) hs ha fun O σ H H2 u Q R s r q=> ?_;obtain⟨p,us,rfl,l,r⟩:=r.lst R s e;exact⟨p,us,rfl,.inl l,by rw[<- r.len];exact q _ _ (aA.refl _) uc⟩
 | tup xs =>
  rw[e]at h;cases h;refine eG C fJ ho PySem.boot_len (by decide) hs ha fun O σ H H2 u Q R s r q=> ?_;obtain⟨p,us,rfl,l,r⟩:=r.tup R s e;exact⟨p,us,rfl,.inr l,by rw[<- r.len];exact q _ _ (aA.refl _) uc⟩
 | dK ks vs =>
  rw[e]at h;cases h;refine eG C nR ho PySem.boot_len (by decide) hs ha fun O σ H H2 u Q R s r q=> ?_;have z:=r.val R s;rw[e]at z;unfold Rp at z;obtain⟨p,us,rfl,_,hp,hl,_⟩:=z;refine⟨p,_,rfl,.inl hp,?_⟩;have:(ks.zip us).length=ks.length:=by rw[List.length_zip,<-hl,Ea]
  rw[this];exact q _ _ (aA.refl _) uc
 | _=>rw[e]at h;cases h
theorem fo{x:Str}{k:Nat}{f:Bf}(h:lh x k=some f):(x="len"/\k=1/\f=.len)\/(x="int"/\k=1/\f=.int)\/(x="list"/\k=1/\f=.list)\/(x="tuple"/\k=1/\f=.tuple)\/(x="all"/\k=1/\f=.all)\/(x="min"/\k=2/\f=.min)\/(x="max"/\k=2/\f=.max)\/(x="abs"/\k=1/\f=.abs)\/(x="any"/\k=1/\f=.any)\/(x="sum"/\k=1/\f=.sum)\/(x="sorted"/\k=1/\f=.sorted):=by
 unfold lh at h
 split at h
 ·rename_i c;rw[CK]at c;cases h;exact .inl ⟨Cy c.1,Cy c.2,rfl⟩
 split at h
 ·rename_i c;rw[CK]at c;cases h;exact .inr (.inl ⟨Cy c.1,Cy c.2,rfl⟩)
 split at h
 ·rename_i c;rw[CK]at c;cases h;exact .inr (.inr (.inl ⟨Cy c.1,Cy c.2,rfl⟩))
 split at h
 ·rename_i c;rw[CK]at c;cases h;exact .inr (.inr (.inr (.inl ⟨Cy c.1,Cy c.2,rfl⟩)))
 split at h
 ·rename_i c;rw[CK]at c;cases h;exact .inr (.inr (.inr (.inr (.inl ⟨Cy c.1,Cy c.2,rfl⟩))))
 split at h
 ·rename_i c;rw[CK]at c;cases h;exact .inr (.inr (.inr (.inr (.inr (.inl ⟨Cy c.1,Cy c.2,rfl⟩)))))
 split at h
 ·rename_i c;rw[CK]at c;cases h;exact .inr (.inr (.inr (.inr (.inr (.inr (.inl ⟨Cy c.1,Cy c.2,rfl⟩))))))
 split at h
 ·rename_i c;rw[CK]at c;cases h;exact .inr (.inr (.inr (.inr (.inr (.inr (.inr (.inl ⟨Cy c.1,Cy c.2,rfl⟩)))))))
 split at h
 ·rename_i c;rw[CK]at c;cases h;exact .inr (.inr (.inr (.inr (.inr (.inr (.inr (.inr (.inl ⟨Cy c.1,Cy c.2,rfl⟩))))))))
 split at h
 ·rename_i c;rw[CK]at c;cases h;exact .inr (.inr (.inr (.inr (.inr (.inr (.inr (.inr (.inr (.inl ⟨Cy c.1,Cy c.2,rfl⟩)))))))))
 split at h
 ·rename_i c;rw[CK]at c;cases h;exact .inr (.inr (.inr (.inr (.inr (.inr (.inr (.inr (.inr (.inr (⟨Cy c.1,Cy c.2,rfl⟩))))))))))
 cases h
theorem zg{cd:Nat->List PV->Option PV}{ct:Ct}(C:bB cd X ct){x:Str}{f:Bf}{a:Expr}{p pos:Pos}{ra r:RV}(ho:own ct x=true)(hb:qT x 1=some f)(hs:isStar a=false)(ha:aE X Hi τ a ra)(h:ii f [ra]=some r) :
  aE X Hi τ (.Call (.Name x p) [a] [] pos) r:=by
 have hb:lh x 1=some f:=hb
 rcases fo hb with⟨rfl,_,rfl⟩|⟨rfl,_,rfl⟩|⟨rfl,_,rfl⟩|⟨rfl,_,rfl⟩|⟨rfl,_,rfl⟩|⟨_,z,_⟩|⟨_,z,_⟩|⟨rfl,_,rfl⟩|⟨rfl,_,rfl⟩|⟨rfl,_,rfl⟩|⟨rfl,_,rfl⟩
 ·have h:(gE ra.val).map (fun n=>sc (.int (n:Nat)))=some r:=h
  cases e:gE ra.val with
  | none=>rw[e]at h;cases h
  | some n =>
   rw[e]at h;cases h;exact sj C ho hs ha e
 ·unfold ii at h
  cases e:ra.val with
  | int i =>
   simp only[e]at h;cases h;exact oA C jO ho PyProof.Rows.boot_int (by decide) hs ha fun O σ H H2 u Q R s r q=>.inl ⟨i,by rw[r.int R s e],q _ _ (aA.refl _) uc⟩
  | bl i =>
   simp only[e]at h;cases h;exact oA C jO ho PyProof.Rows.boot_int (by decide) hs ha fun O σ H H2 u Q R s r q=>.inr ⟨i,by rw[r.bl R s e],q _ _ (aA.refl _) uc⟩
  | _=>simp only[e]at h;cases h
 ·have h:(match ra.its with|some (xs,n)=>some (RV.own xs n)|none=>none)=some r:=h
  cases e:ra.its with
  | none=>rw[e]at h;cases h
  | some w =>
   obtain⟨xs,n⟩:=w;rw[e]at h;cases h;refine oA C kA ho PyProof.Rows.boot_list (by decide) hs ha fun O σ H H2 u Q R s r q=> ?_;obtain⟨p,us,rfl,l,r⟩:=r.its R s e;exact⟨p,us,rfl,l.imp (·.1) (·.1),fun l2 hl=>q _ _ (aH hl _) (cM s hl r)⟩
 ·have h:(match ra.its with|some (xs,n)=>some (RV.frz (.tup xs) n)|none=>none)=some r:=h
  cases e:ra.its with
  | none=>rw[e]at h;cases h
  | some w =>
   obtain⟨xs,n⟩:=w;rw[e]at h;cases h;refine oA C i9 ho PyProof.Rows.boot_tuple (by decide) hs ha fun O σ H H2 u Q R s r q=> ?_;obtain⟨p,us,rfl,l,r⟩:=r.its R s e;refine⟨p,us,rfl,l.imp (fun l=>⟨l.1,fun l2 hl=> ?_⟩) (fun l=>⟨l.1,?_⟩)⟩
   ·exact q _ _ (aH hl _) (Rp.tup.mpr ⟨l2,us,rfl,bQ.of (gn R s hl),r.mono (aC (aH hl _))⟩)
   ·exact q _ _ (aA.refl _) (Rp.tup.mpr ⟨p,us,rfl,oT R s l.1,r⟩)
 ·unfold ii at h
  cases e:ra.val with
  | lst xs =>
   simp only[e]at h;cases eb:dJ xs with
   | none=>rw[eb]at h;cases h
   | some bs =>
    rw[eb]at h;cases h;refine eG C (lZ C.calm) ho boot_all (by decide) hs ha fun O σ H H2 u Q R s r q=> ?_;obtain⟨p,us,rfl,l,r⟩:=r.lst R s e;have:=iX eb r;subst this;exact⟨p,bs,rfl,l,q _ _ (aA.refl _) xc⟩
  | _=>simp only[e]at h;cases h
 ·cases z
 ·cases z
 ·exact absurd (show(none:Option RV)=some r from h) (by simp)
 ·have h:(match ra.val with
   | .lst xs=>(dJ xs).map fun bs=>sc (.bl (bs.any id))
   | _=>none)=some r:=h
  cases e:ra.val with
  | lst xs =>
   simp only[e]at h;cases eb:dJ xs with
   | none=>rw[eb]at h;cases h
   | some bs =>
    rw[eb]at h;cases h;refine eG C (lY C.calm) ho boot_any (by decide) hs ha fun O σ H H2 u Q R s r q=> ?_;obtain⟨p,us,rfl,l,r⟩:=r.lst R s e;have:=iX eb r;subst this;exact⟨p,bs,rfl,l,q _ _ (aA.refl _) xc⟩
  | _=>simp only[e]at h;cases h
 ·have h:(match ra.val with
   | .lst xs=>(aa xs).map fun ns=>sc (.int ns.sum)
   | _=>none)=some r:=h
  cases e:ra.val with
  | lst xs =>
   simp only[e]at h;cases eb:aa xs with
   | none=>rw[eb]at h;cases h
   | some bs =>
    rw[eb]at h;cases h;refine eG C (jA C.calm) ho boot_sum (by decide) hs ha fun O σ H H2 u Q R s r q=> ?_;obtain⟨p,us,rfl,l,r⟩:=r.lst R s e;have:=fe eb r;subst this;exact⟨p,bs,rfl,l,q _ _ (aA.refl _) uc⟩
  | _=>simp only[e]at h;cases h
 ·have h:(match ra.val with
   | .lst xs=>eA xs ra
   | _=>none)=some r:=h
  cases e:ra.val with
  | lst xs =>
   simp only[e]at h;unfold eA at h;cases es:g8 xs with
   | none =>
    rw[es]at h;dsimp only at h
    split at h
    ·rename_i ys n ei
     exact rP C ho hs ha e ei h
    ·cases h
   | some r' =>
   rw[es]at h;cases h;have h:=es;unfold g8 at h;cases eb:aa xs with
   | none =>
    rw[eb]at h;exact rO C ho hs ha e h
   | some bs =>
    rw[eb]at h;have h:(if bs.length<64 then some (RV.own ((L2.sortI bs).map PV.int) true)else none)=some r:=h
    split at h
    ·rename_i c
     cases h;refine eG C fj ho boot_sorted (by decide) hs ha fun O σ H H2 u Q R s r q=> ?_;obtain⟨p,us,rfl,l,r⟩:=r.lst R s e;have:=fe eb r;subst this;exact⟨p,bs,rfl,l,c,fun a ha=>q _ _ (aH ha _) (cM s ha (aD.ints.mpr rfl))⟩
    ·cases h
  | _=>simp only[e]at h;cases h
theorem zf{cd:Nat->List PV->Option PV}{ct:Ct}(C:bB cd X ct){x:Str}{f:Bf}{a b:Expr}{p pos:Pos}{ra rb r:RV}(ho:own ct x=true)(hb:qT x 2=some f)(hs:isStar a=false)(hs2:isStar b=false)(ha:aE X Hi τ a ra)(hb' :aE X Hi τ b rb)(h:ii f [ra,rb]=some r) :
  aE X Hi τ (.Call (.Name x p) [a,b] [] pos) r:=by
 refine Dz fun no=> ?_;have hb:lh x 2=some f:=hb
 rcases fo hb with⟨_,z,_⟩|⟨_,z,_⟩|⟨_,z,_⟩|⟨_,z,_⟩|⟨_,z,_⟩|⟨rfl,_,rfl⟩|⟨rfl,_,rfl⟩|⟨_,z,_⟩|⟨_,z,_⟩|⟨_,z,_⟩|⟨_,z,_⟩
 ·cases z
 ·cases z
 ·cases z
 ·cases z
 ·cases z
 ·unfold ii at h
  cases e1:ra.val with
  | int i =>
   cases e2:rb.val with
   | int j =>
    simp only[e1,e2]at h;cases h;exact no<|b2_go C (qO C.calm) ho boot_min (by decide) hs hs2 ha hb' fun O σ H H2 u v Q R s r r2 q=>⟨i,j,by rw[r.int R s e1,r2.int R s e2],q _ _ (aA.refl _) uc⟩
   | _=>simp only[e1,e2]at h;cases h
  | _=>simp only[e1]at h;cases h
 ·unfold ii at h
  cases e1:ra.val with
  | int i =>
   cases e2:rb.val with
   | int j =>
    simp only[e1,e2]at h;cases h;exact no<|b2_go C (qP C.calm) ho boot_max (by decide) hs hs2 ha hb' fun O σ H H2 u v Q R s r r2 q=>⟨i,j,by rw[r.int R s e1,r2.int R s e2],q _ _ (aA.refl _) uc⟩
   | _=>simp only[e1,e2]at h;cases h
  | _=>simp only[e1]at h;cases h
 ·cases z
 ·cases z
 ·cases z
 ·cases z
theorem aD.lrng{n:Bool}{H:Hp}(k:Nat):aD X.K Hi n (lrng k) H (wy k):=by
 unfold IR.lrng wy
 generalize List.range k=l
 induction l with
 | nil=>exact .nil
 | cons x l ih=>exact .cons (Rp.int.mpr rfl) ih
theorem oX(sep:Str):∀ys:List Str,Str.join sep ys=eL sep ys
 | []=>rfl
 | [x]=>rfl
 | x::y::r=>by
  show x++sep++Str.join sep (y::r)=_;rw[oX sep (y::r)];rfl
theorem join_ok{o a:Expr}{apos cpos:Pos}{ro ra r:RV}(hp:mZ o=true)(hl:(apos.endLine==cpos.line)=true)(hs:isStar a=false)(h0:aE X Hi τ o ro)(ha:aE X Hi τ a ra)(h:pZ .join ro [ra]=some r) :
  aE X Hi τ (.Call (.Attribute o "join" apos) [a] [] cpos) r:=by
 have hbase:attributeBase o "join" X.env (eval o X.env)=eval o X.env:=by
  cases o<;>first|rfl|cases hp
 have key:∀(sep:Str)(ys:List Str)(hsep:ro.val=.str sep),(∀(O:List Addr)(σ:L2.St)(H H2:Hp)(u:V),aQ X.K Hi O τ σ H->aA H H2->aT X.K Hi O H H2 ra u->∃p,u=.ref p/\(ao X.K H2 p (ys.map V.str)\/bQ X.K H2 p (ys.map V.str))) ->
   (ys.map (·.length)).sum+ys.length*sep.length<=LN->aE X Hi τ (.Call (.Attribute o "join" apos) [a] [] cpos) (sc (.str (eL sep ys))):=by
  intro sep ys hsep ig hz O σ H Q R q;refine we (km PySem.F.plainAttrs_str PySem.F.slot_str_join PySem.F.type_str_join vd aU (aG aU aV (aL hs)) hbase (by rw[aL hs];rfl) hl (aL hs) rfl) ?_;refine h0 O σ H _ R fun u H1 s1 r1=> ?_;have e1:=r1.str R s1 hsep;subst e1;refine⟨rfl,ha O σ H1 _ (R.ext s1) fun v H2 s2 r2=> ?_⟩;obtain⟨p,rfl,hq⟩:=ig O σ H H2 v R (s1.trans s2) (r2.back s1);refine⟨sep,p,ys,rfl,rfl,hq,hz,?_⟩;have e:Txt.join sep ys=eL sep ys:=(PySem.StrLaws.glued_eq_join _ _).trans (oX sep ys);rw[e];exact q _ _ (s1.trans s2) AJ
 unfold pZ at h;cases e1:ro.val with
 | str sep =>
  cases e2:ra.val with
  | lst xs =>
   simp only[e1,e2]at h;cases et:bH xs with
   | none=>rw[et]at h;cases h
   | some ys =>
    rw[et]at h;have h:(if(ys.map (·.length)).sum+ys.length*sep.length<=LN then some (sc (.str (eL sep ys)))else none)=some r:=h
    split at h
    ·rename_i c
     cases h;refine key sep ys e1 (fun O σ H H2 u R s r=> ?_) c;obtain⟨p,us,rfl,l,r⟩:=r.lst R s e2;have:=gv et r;subst this;exact⟨p,rfl,.inl l⟩
    ·cases h
  | tup xs =>
   simp only[e1,e2]at h;cases et:bH xs with
   | none=>rw[et]at h;cases h
   | some ys =>
    rw[et]at h;have h:(if(ys.map (·.length)).sum+ys.length*sep.length<=LN then some (sc (.str (eL sep ys)))else none)=some r:=h
    split at h
    ·rename_i c
     cases h;refine key sep ys e1 (fun O σ H H2 u R s r=> ?_) c;obtain⟨p,us,rfl,l,r⟩:=r.tup R s e2;have:=gv et r;subst this;exact⟨p,rfl,.inr l⟩
    ·cases h
  | _=>simp only[e1,e2]at h;cases h
 | _=>simp only[e1]at h;cases h
theorem BF{b:Expr}(h:fD b=false):AB b:=by
 intro o i;cases b<;>first|rfl|cases h
theorem oG{b:Expr}(h:fD b=false):o7 b:=by
 intro o i;cases b<;>first|rfl|cases h
theorem iY{n:Bool}{xs:List PV}{H:Hp}{us:List V}{k:Int}{e:PV}(r:aD X.K Hi n xs H us)(h:dc xs k=some e):∃u,dc us k=some u/\Rp X.K Hi n e H u:=by
 unfold dc at h ⊢;rw[<- r.len];cases c:tF xs.length k with
 | none=>rw[c]at h;cases h
 | some j =>
  rw[c]at h;exact r.at (i:=j) h
theorem tJ(hun:X.A.units+64<cLine){a i:Expr}{pos:Pos}{x y r:RV}(hb:fD i=false)(ha:aE X Hi τ a x)(hi:aE X Hi τ i y)(h:index x y=some r):aE X Hi τ (.Subscript a i pos) r:=by
 have go:∀{rr:R2}(hr:CA X rr),(∀(O:List Addr)(σ:L2.St)(H H2:Hp)(u v:V)(Q:VK),aQ X.K Hi O τ σ H->aA H H2->aT X.K Hi O H H2 x u->aT X.K Hi O H H2 y v->(∀w,aT X.K Hi O H H2 r w->Q w H2)->rr u v H2 Q)->aE X Hi τ (.Subscript a i pos) r:=by
  intro rr hr k O σ H Q R q;refine we (wn hr aU aU (oG hb)) ?_;refine ha O σ H _ R fun u H1 s1 r1=>hi O σ H1 _ (R.ext s1) fun v H2 s2 r2=> ?_;exact k O σ H H2 u v Q R (s1.trans s2) (r1.ext s2) (r2.back s1) fun w r3=>q w H2 (s1.trans s2) r3
 unfold index at h
 split at h
 case h_1 xs n k e2 =>
  cases c:dc xs k with
  | none=>rw[c]at h;cases h
  | some e =>
   rw[c]at h;cases h;refine go gm fun O σ H H2 u v Q R s r1 r2 q=> ?_;obtain⟨p,us,rfl,_,l,r⟩:=Rp.lst.mp (show Rp X.K Hi n (.lst xs) (aI H2 O) u from r1);obtain⟨w,hw,rw'⟩:=iY r c;exact⟨p,us,k,w,rfl,r2.int R s e2,(aO (O:=O)).seq l,hw,q w (rw'.mono al).up⟩
 case h_2 xs n k e2 =>
  cases c:dc xs k with
  | none=>rw[c]at h;cases h
  | some e =>
   rw[c]at h;cases h;refine go tE fun O σ H H2 u v Q R s r1 r2 q=> ?_;obtain⟨p,us,rfl,l,r⟩:=Rp.tup.mp (show Rp X.K Hi n (.tup xs) (aI H2 O) u from r1);obtain⟨w,hw,rw'⟩:=iY r c;exact⟨p,us,k,w,rfl,r2.int R s e2,(aO (O:=O)).tup l,hw,q w rw'.up⟩
 case h_3 xs n k e2 =>
  cases c:dc xs k with
  | none=>rw[c]at h;cases h
  | some e =>
   rw[c]at h;cases h;refine go gm fun O σ H H2 u v Q R s r1 r2 q=> ?_;obtain⟨p,us,rfl,h0,h1,r⟩:=r1;obtain⟨w,hw,rw'⟩:=iY r c;exact⟨p,us,k,w,rfl,r2.int R s e2,ao.of h1,hw,q w (rw'.mono (aC al)).up⟩
 case h_4 xs k e2 =>
  cases c:dc xs k with
  | none=>rw[c]at h;cases h
  | some e =>
   rw[c]at h;cases h;refine go gm fun O σ H H2 u v Q R s r1 r2 q=> ?_;obtain⟨p,us,rfl,_,l,r⟩:=Rp.lst.mp (show Rp X.K Hi false (.lst xs) H2 u from r1);obtain⟨w,hw,rw'⟩:=iY r c;refine⟨p,us,k,w,rfl,r2.int R s e2,l,hw,q w ?_⟩;unfold gC
   split
   ·rename_i im
    exact Rp.imm im (R.ext s).tups (rw'.mono al)
   ·exact rw'.mono al
 case h_5 xs k e2 =>
  cases c:dc xs k with
  | none=>rw[c]at h;cases h
  | some e =>
   rw[c]at h;cases h;refine go tE fun O σ H H2 u v Q R s r1 r2 q=> ?_;obtain⟨p,us,rfl,l,r⟩:=Rp.tup.mp (show Rp X.K Hi false (.tup xs) H2 u from r1);obtain⟨w,hw,rw'⟩:=iY r c;refine⟨p,us,k,w,rfl,r2.int R s e2,l,hw,q w ?_⟩;unfold gC
   split
   ·rename_i im
    exact Rp.imm im (R.ext s).tups rw'
   ·exact rw'
 case h_6 z n k e2 =>
  split at h
  ·rename_i hz
   cases c:dc z.cps.toList k with
   | none=>rw[c]at h;cases h
   | some e =>
    rw[c]at h;cases h;exact go yo fun O σ H H2 u v Q R s r1 r2 q=>⟨z,k,e,r1.str R s rfl,r2.int R s e2,by rw[bW];exact hz,c,q _ AJ⟩
  ·cases h
 case h_7 ks vs n =>
  cases ek:fC y.val with
  | none=>rw[ek]at h;cases h
  | some k =>
   rw[ek]at h;have h:(gK ks vs k).map (fun e=>RV.frz e (n||imm e))=some r:=h;cases c:gK ks vs k with
   | none=>rw[c]at h;cases h
   | some e =>
    rw[c]at h;cases h;intro O σ H Q R q;refine we (oH (by omega) aU aU (BF hb)) ?_;refine ha O σ H _ R fun u H1 s1 r1=>hi O σ H1 _ (R.ext s1) fun v H2 s2 r2=> ?_;obtain⟨p,us,rfl,h1,h2,h3⟩:=Rp.dK (show Rp X.K Hi n (.dK ks vs) (aI H2 O) u from r1.ext s2);obtain⟨w,hw,rw'⟩:=(jT (k:=k) h3 h2).2 e c;rw[lC ek ((r2.back s1).val R (s1.trans s2))];have g:kJ H2 p (kV k) (some w):=by rw[<- hw];exact .k (aO p _ h1)
    exact⟨p,w,rfl,g,q w H2 (s1.trans s2) (rw'.mono al).up⟩
 case h_8 ks vs =>
  cases ek:fC y.val with
  | none=>rw[ek]at h;cases h
  | some k =>
   rw[ek]at h;have h:(gK ks vs k).map gC=some r:=h;cases c:gK ks vs k with
   | none=>rw[c]at h;cases h
   | some e =>
    rw[c]at h;cases h;intro O σ H Q R q;refine we (oH (by omega) aU aU (BF hb)) ?_;refine ha O σ H _ R fun u H1 s1 r1=>hi O σ H1 _ (R.ext s1) fun v H2 s2 r2=> ?_;obtain⟨p,us,rfl,h1,h2,h3⟩:=Rp.dK (show Rp X.K Hi false (.dK ks vs) H2 u from r1.ext s2);obtain⟨w,hw,rw'⟩:=(jT (k:=k) h3 h2).2 e c;rw[lC ek ((r2.back s1).val R (s1.trans s2))];have g:kJ H2 p (kV k) (some w):=by rw[<- hw];exact .k h1
    refine⟨p,w,rfl,g,q w H2 (s1.trans s2) ?_⟩;unfold gC
    split
    ·rename_i im
     exact Rp.imm im (R.ext (s1.trans s2)).tups (rw'.mono al)
    ·exact rw'.mono al
 case h_9=>cases h
variable(X Hi τ)in
noncomputable def qX(e:Option Expr)(o:Option Int):Prop:=match e,o with
 | none,none=>True
 | some e,some i=>∃r,aE X Hi τ e r/\r.val=.int i
 | _,_=>False
theorem dO{a:Expr}{lo hi:Option Expr}{l h:Option Int}{p2 pos:Pos}{x r:RV}{rr:V->Option Int->Option Int->Hp->VK->Prop}(hr:AO X rr)(ha:aE X Hi τ a x)(hl:qX X Hi τ lo l)(hh:qX X Hi τ hi h)
  (k:∀(O:List Addr)(σ:L2.St)(H H2:Hp)(u:V)(Q:VK),aQ X.K Hi O τ σ H->aA H H2->aT X.K Hi O H H2 x u->(∀w H3,aA H2 H3->aT X.K Hi O H H3 r w->Q w H3)->rr u l h H2 Q):aE X Hi τ (.Subscript a (.Slice lo hi none p2) pos) r:=by
 have part:∀{e:Option Expr}{o:Option Int},qX X Hi τ e o->∃t,PO X e t/\∀(O:List Addr)(σ:L2.St)(H:Hp)(Q:Option Int->Hp->Prop),aQ X.K Hi O τ σ H->(∀H',aA H H' ->Q o H')->t σ H Q:=by
  intro e o he;cases e with
  | none =>
   cases o with
   | none=>exact⟨_,vO,fun O σ H Q R q=>q H (aA.refl _)⟩
   | some i=>cases he
  | some e =>
   cases o with
   | none=>cases he
   | some i =>
    obtain⟨r,h1,h2⟩:=he;exact⟨_,vN aU,fun O σ H Q R q=>h1 O σ H _ R fun u H1 s1 r1=>⟨i,r1.int R s1 h2,q _ s1⟩⟩
 obtain⟨tl,pl,ql⟩:=part hl;obtain⟨th,ph,qh⟩:=part hh;intro O σ H Q R q;refine we (sN hr aU pl ph) ?_;refine ha O σ H _ R fun u H1 s1 r1=>ql O σ H1 _ (R.ext s1) fun H2 s2=>qh O σ H2 _ (R.ext (s1.trans s2)) fun H3 s3=> ?_;exact k O σ H H3 u Q R (s1.trans (s2.trans s3)) (r1.ext (s2.trans s3)) fun w H4 s4 r4=>q w H4 (s1.trans (s2.trans (s3.trans s4))) r4
theorem aD.cut{n:Bool}{xs:List PV}{H:Hp}{us:List V}(r:aD X.K Hi n xs H us)(lo hi:Option Int):aD X.K Hi n (IR.cut xs lo hi) H (lU us lo hi):=by
 unfold IR.cut lU;rw[<- r.len];exact(r.drop _).take _
theorem aT.whole{O:List Addr}{σ:L2.St}{H H' :Hp}{x:RV}{u:V}{xs ys:List PV}{n:Bool}(R:aQ X.K Hi O τ σ H)(s:aA H H')(h:aT X.K Hi O H H' x u)(e:x.its=some (xs,n))(ev:x.val=.tup ys):aT X.K Hi O H H' (.frz (.tup xs) n) u:=by
 cases x with
 | frz w m =>
  obtain rfl:w=.tup ys:=ev;cases e;exact h
 | bor w =>
  obtain rfl:w=.tup ys:=ev;have e:(if imms ys then some (ys,true)else none)=some (xs,n):=e
  split at e
  ·rename_i i
   cases e;exact Rp.imm (by rw[imm];exact i) (R.ext s).tups (show Rp X.K Hi false (.tup _) H' u from h)
  ·cases e
 | own ys m=>cases ev
 | owd b ys m=>cases b<;>cases ev
theorem rT{a:Expr}{lo hi:Option Expr}{l h:Option Int}{p2 pos:Pos}{x r:RV}(ha:aE X Hi τ a x)(hl:qX X Hi τ lo l)(hh:qX X Hi τ hi h)(e:slice x l h=some r):aE X Hi τ (.Subscript a (.Slice lo hi none p2) pos) r:=by
 unfold slice at e
 split at e
 case h_1 z ev =>
  split at e
  ·rename_i hz
   split at e
   ·rename_i k
    split at e
    ·rename_i hk
     cases e;refine dO rV ha hl hh fun O σ H H2 u Q R s r1 q=>⟨z,r1.str R s ev,by rw[bW];exact hz,?_⟩;have e1:Txt.slice z none (some k)=(⟨(z.cps.toList.take k.toNat).toArray⟩:Str):=by
      refine UM.jb ?_;have:=pM z k.toNat;rw[show((k.toNat:Nat):Int)=k by omega]at this;rw[this]
     rw[e1];exact q _ _ (aA.refl _) AJ
    ·cases e
   ·rename_i k
    split at e
    ·rename_i hk
     cases e;refine dO rV ha hl hh fun O σ H H2 u Q R s r1 q=>⟨z,r1.str R s ev,by rw[bW];exact hz,?_⟩;have e1:Txt.slice z (some k) none=(⟨(z.cps.toList.drop k.toNat).toArray⟩:Str):=by
      refine UM.jb ?_;have:=pL z k.toNat;rw[show((k.toNat:Nat):Int)=k by omega]at this;rw[this]
     rw[e1];exact q _ _ (aA.refl _) AJ
    ·cases e
   ·cases e
  ·cases e
 case h_2 ev =>
  cases ei:x.its with
  | none=>rw[ei]at e;cases e
  | some w =>
   obtain⟨xs,n⟩:=w;rw[ei]at e;cases e;refine dO uz ha hl hh fun O σ H H2 u Q R s r1 q=> ?_;obtain⟨p,us,rfl,l1,r2⟩:=r1.itsL R s ei ev;exact⟨p,us,rfl,l1,fun p3 hp=>q _ _ (aH hp _) (cM s hp (r2.up.cut _ _))⟩
 case h_3 ev =>
  cases ei:x.its with
  | none=>rw[ei]at e;cases e
  | some w =>
   obtain⟨xs,n⟩:=w;rw[ei]at e;dsimp only at e
   split at e
   ·rename_i hw
    cases e;refine dO uy ha hl hh fun O σ H H2 u Q R s r1 q=> ?_;obtain⟨p,us,rfl,l1,r2⟩:=r1.itsT R s ei ev;exact⟨p,us,rfl,l1,by rw[<- r2.len];exact hw,q _ _ (aA.refl _) (r1.whole R s ei ev)⟩
   ·rename_i hw
    cases e;refine dO xY ha hl hh fun O σ H H2 u Q R s r1 q=> ?_;obtain⟨p,us,rfl,l1,r2⟩:=r1.itsT R s ei ev;refine⟨p,us,rfl,l1,by rw[<- r2.len];exact hw,fun p3 hp=>q _ _ (aH hp _) ?_⟩;exact Rp.tup.mpr ⟨p3,_,rfl,bQ.of (gn R s hp),(r2.cut _ _).mono (aC (aH hp _))⟩
 case h_4=>cases e
end
end IR
namespace IR
open PySem L2
section
variable{X:Cx}{Hi:Hp}{τ:En}
end
end IR
namespace IR
open PySem PySem.Spec PyProof.Rows L2
section
variable{X:Cx}{Hi:Hp}{τ:En}
noncomputable def WI(X:Cx)(tg iter:Expr)(σ:L2.St)(H:Hp)(R:It->Hp->Prop):Prop:=∃wi,PI X tg iter wi/\wi σ H R
theorem md{tg iter:Expr}:PI X tg iter (fun σ H R=>WI X tg iter σ H R):=fun pins s σ H R I ⟨wi,h,q⟩=>h pins s σ H R I q
noncomputable def nu(O:List Addr)(H:Hp):Prop:=∀l∈O,∃o,H l=some o/\Mo o
theorem aQ.lsts{K:W.Frag}{O:List Addr}{σ:L2.St}{H:Hp}(R:aQ K Hi O τ σ H):nu O H:=fun l hl=>(R.own l hl).2
noncomputable def ud(B:Hp)(H:Hp)(O:List Addr):Prop:=nu O H/\aA B (aI H O)
noncomputable def OkB(B:Hp)(H:Hp)(O:List Addr):Prop:=nu O H/\aA B H
theorem nu.tups{O:List Addr}{H:Hp}(h:nu O H):nl H (aI H O):=by
 refine fM.tups fun l hl=> ?_;obtain⟨us,e,mo⟩:=h l hl;exact mo.noTup e
variable(X Hi)in
structure gI(J:It)(Ok:Hp->List Addr->Prop)(xs:List PV)(n:Bool):Prop where
 go:∀(H:Hp)(O:List Addr)(i:Nat),Ok H O->i<xs.length->J.go i H
 stop:∀(H:Hp)(O:List Addr),Ok H O->J.stop xs.length H
 yld:∀(H:Hp)(O:List Addr)(i:Nat)(u:V)(H' :Hp),Ok H O->i<xs.length->J.yld i H u H' ->aA H H' /\∃x,xs[i]? =some x/\Rp X.K Hi n x (aI H' O) u
variable(X Hi τ)in
noncomputable def kI(tg iter:Expr)(xs:List PV)(n b:Bool):Prop:=∀(O:List Addr)(σ:L2.St)(H:Hp)(R:It->Hp->Prop),aQ X.K Hi O τ σ H ->
 (∀J H1,aA H H1->gI X Hi J (if b=true then OkB H1 else ud (aI H1 O)) xs n->R J H1)->WI X tg iter σ H R
theorem xC{B:Hp}{p:Addr}{us:List V}{xs:List PV}{n:Bool}(l:ao X.K B p us)(r:aD X.K Hi n xs B us):gI X Hi (AD X.K p) (ud B) xs n where
 go:=fun H O i ok hi=>⟨us,us[i]'(by rw[<- r.len];exact hi),(ok.2.trans aO).seq l,by simp⟩
 stop:=fun H O ok=>⟨us,(ok.2.trans aO).seq l,by rw[r.len];exact CO _⟩
 yld:=fun H O i u H' ok hi y=>by
  obtain⟨e,y⟩:=y;subst e;obtain⟨x,h1,h2⟩:=r.at' (y us ((ok.2.trans aO).seq l));exact⟨aA.refl _,x,h1,h2.mono ok.2⟩
theorem Bh{B:Hp}{p:Addr}{us:List V}{xs:List PV}{n:Bool}(l:bQ X.K B p us)(r:aD X.K Hi n xs B us):gI X Hi (Itt X.K p) (ud B) xs n where
 go:=fun H O i ok hi=>⟨us,us[i]'(by rw[<- r.len];exact hi),(ok.2.trans aO).tup l,by simp⟩
 stop:=fun H O ok=>⟨us,(ok.2.trans aO).tup l,by rw[r.len];exact CO _⟩
 yld:=fun H O i u H' ok hi y=>by
  obtain⟨e,y⟩:=y;subst e;obtain⟨x,h1,h2⟩:=r.at' (y us ((ok.2.trans aO).tup l));exact⟨aA.refl _,x,h1,h2.mono ok.2⟩
theorem zK{B:Hp}{p:Addr}{us:List V}{xs:List PV}{n m:Bool}(l:ao X.K B p us)(r:aD X.K Hi m xs B us)(im:imms xs=true):gI X Hi (AD X.K p) (OkB B) xs n where
 go:=fun H O i ok hi=>⟨us,us[i]'(by rw[<- r.len];exact hi),ok.2.seq l,by simp⟩
 stop:=fun H O ok=>⟨us,ok.2.seq l,by rw[r.len];exact CO _⟩
 yld:=fun H O i u H' ok hi y=>by
  obtain⟨e,y⟩:=y;subst e;have r2:aD X.K Hi n xs (aI H' O) us:=aD.imm im ok.1.tups (r.mono ok.2);obtain⟨x,h1,h2⟩:=r2.at' (y us (ok.2.seq l));exact⟨aA.refl _,x,h1,h2⟩
theorem zJ{B:Hp}{p:Addr}{us:List V}{xs:List PV}{n m:Bool}(l:bQ X.K B p us)(r:aD X.K Hi m xs B us)(im:imms xs=true):gI X Hi (Itt X.K p) (OkB B) xs n where
 go:=fun H O i ok hi=>⟨us,us[i]'(by rw[<- r.len];exact hi),ok.2.tup l,by simp⟩
 stop:=fun H O ok=>⟨us,ok.2.tup l,by rw[r.len];exact CO _⟩
 yld:=fun H O i u H' ok hi y=>by
  obtain⟨e,y⟩:=y;subst e;have r2:aD X.K Hi n xs (aI H' O) us:=aD.imm im ok.1.tups (r.mono ok.2);obtain⟨x,h1,h2⟩:=r2.at' (y us (ok.2.tup l));exact⟨aA.refl _,x,h1,h2⟩
theorem dj(z:Str):(signs z).length=z.cps.size:=by unfold signs;rw[CI,Ci]
theorem signs_at{z:Str}{i:Nat}{c:Nat}(h:z.cps[i]? =some c):(signs z)[i]? =some (.str ⟨#[c]⟩):=by
 unfold signs;rw[Cb,Cu,h];rfl
theorem Bi{B:Hp}{z:Str}{n:Bool}:gI X Hi (CB z) (ud B) (signs z) n where
 go:=fun H O i ok hi=>by rw[dj]at hi;exact hi
 stop:=fun H O ok=>by show(signs z).length=z.cps.size;exact dj z
 yld:=fun H O i u H' ok hi y=>by
  obtain⟨e,c,hc,rfl⟩:=y;subst e;exact⟨aA.refl _,_,signs_at hc,Rp.str.mpr rfl⟩
theorem og{B:Hp}{lo:Int}{k:Nat}{n:Bool}:gI X Hi (CC lo k) (ud B) ((List.range k).map fun i=>.int (lo+(i:Nat))) n where
 go:=fun H O i ok hi=>by show i<k;simpa using hi
 stop:=fun H O ok=>by show k<=_;simp
 yld:=fun H O i u H' ok hi y=>by
  obtain⟨e,rfl⟩:=y;subst e;have hi:i<k:=by simpa using hi
  exact⟨aA.refl _,_,by rw[Cb,DN hi];rfl,Rp.int.mpr rfl⟩
theorem tY{B:Hp}{lo c:Int}{k:Nat}{n:Bool}:gI X Hi (Itc lo c k) (ud B) ((List.range k).map fun i=>.int (lo+(i:Nat)*c)) n where
 go:=fun H O i ok hi=>by show i<k;simpa using hi
 stop:=fun H O ok=>by show _=k;simp
 yld:=fun H O i u H' ok hi y=>by
  obtain⟨e,rfl⟩:=y;subst e;have hi:i<k:=by simpa using hi
  exact⟨aA.refl _,_,by rw[Cb,DN hi];rfl,Rp.int.mpr rfl⟩
theorem xZ{tg e:Expr}{r:RV}{xs:List PV}{n b:Bool}(he:aE X Hi τ e r)(h:kd r=some (xs,n,b)):kI X Hi τ tg e xs n b:=by
 intro O σ H R Rl q;cases r with
 | frz v m =>
  cases v with
  | str z =>
   cases h;refine⟨_,yD aU,?_⟩;exact he O σ H _ Rl fun u H1 s1 r1=>⟨z,r1.str Rl s1 rfl,q _ _ s1 Bi⟩
  | lst ys =>
   cases h;refine⟨_,gk aU,?_⟩;refine he O σ H _ Rl fun u H1 s1 r1=> ?_;obtain⟨p,us,rfl,_,l,r⟩:=Rp.lst.mp (show Rp X.K Hi n (.lst xs) (aI H1 O) u from r1);exact⟨p,rfl,⟨us,(aO (O:=O)).seq l⟩,q _ _ s1 (xC l (r.mono al))⟩
  | tup ys =>
   cases h;refine⟨_,sF aU,?_⟩;refine he O σ H _ Rl fun u H1 s1 r1=> ?_;obtain⟨p,us,rfl,l,r⟩:=Rp.tup.mp (show Rp X.K Hi n (.tup xs) (aI H1 O) u from r1);exact⟨p,rfl,⟨us,(aO (O:=O)).tup l⟩,q _ _ s1 (Bh l r)⟩
  | _=>cases h
 | bor v =>
  cases v with
  | lst ys =>
   have h:(if imms ys then some (ys,true,true)else none)=some (xs,n,b):=h
   split at h
   ·rename_i im
    cases h;refine⟨_,gk aU,?_⟩;refine he O σ H _ Rl fun u H1 s1 r1=> ?_;obtain⟨p,us,rfl,_,l,r⟩:=Rp.lst.mp (show Rp X.K Hi false (.lst xs) H1 u from r1);exact⟨p,rfl,⟨us,l⟩,q _ _ s1 (zK l (r.mono al) im)⟩
   ·cases h
  | tup ys =>
   have h:(if imms ys then some (ys,true,true)else none)=some (xs,n,b):=h
   split at h
   ·rename_i im
    cases h;refine⟨_,sF aU,?_⟩;refine he O σ H _ Rl fun u H1 s1 r1=> ?_;obtain⟨p,us,rfl,l,r⟩:=Rp.tup.mp (show Rp X.K Hi false (.tup xs) H1 u from r1);exact⟨p,rfl,⟨us,l⟩,q _ _ s1 (zJ l r im)⟩
   ·cases h
  | _=>cases h
 | owd bd ys m=>cases h
 | own ys m =>
  cases h;refine⟨_,gk aU,?_⟩;refine he O σ H _ Rl fun u H1 s1 r1=> ?_;obtain⟨p,us,rfl,h0,h1,r⟩:=r1;have hl:aI H1 O p=some (.lst us):=by
   unfold aI;rw[CM fun z=> ?_]
   ·exact h1
   ·obtain⟨vs,e',_⟩:=(Rl.own p z).2
    rw[h0]at e';cases e'
  exact⟨p,rfl,⟨us,ao.of h1⟩,q _ _ s1 (xC (ao.of hl) (r.mono (aC al)))⟩
theorem xk{cd:Nat->List PV->Option PV}{ct:Ct}(C:bB cd X ct){tg:Expr}{es:List Expr}{p pos:Pos}{rs:List RV}{xs:List PV}(ho:own ct ("range":Str)=true)(hs:∀a∈es,isStar a=false)(ha:kK X Hi τ es rs)(hl:es.length=rs.length)(h:fS rs=some xs) :
  kI X Hi τ tg (.Call (.Name "range" p) es [] pos) xs true false:=by
 intro O σ H R Rl q;obtain⟨g,hm⟩:=gF C ho;unfold fS at h
 split at h
 ·rename_i ra
  cases e:ra.val with
  | int j =>
   simp only[e]at h
   split at h
   ·rename_i c
    cases h
    match es,hl with
    | [a],_ =>
     refine⟨_,pU g hm mf (aL (hs a (by simp))),?_⟩;refine ha O σ H _ Rl fun us H1 s1 r1=> ?_;obtain⟨u,vs,rfl,r2,z⟩:=r1;cases z;exact⟨j,by rw[r2.int Rl s1 e],c.1,c.2,q _ _ s1 og⟩
   ·cases h
  | _=>simp only[e]at h;cases h
 ·rename_i ra rb
  cases e:ra.val with
  | int i =>
   cases e2:rb.val with
   | int j =>
    simp only[e,e2]at h
    split at h
    ·rename_i c
     cases h
     match es,hl with
     | [a,b],_ =>
      have h1:starEach [a,b] X.env=[(false,eval a X.env),(false,eval b X.env)]:=by rw[aL (hs a (by simp)),aL (hs b (by simp))];rfl
      refine⟨_,pT g hm mf h1 (aL (hs b (by simp))),?_⟩;refine ha O σ H _ Rl fun us H1 s1 r1=> ?_;obtain⟨u,vs,rfl,r2,u2,vs2,rfl,r3,z⟩:=r1;cases z;exact⟨i,j,by rw[r2.int Rl s1 e,r3.int Rl s1 e2],c,q _ _ s1 og⟩
    ·cases h
   | _=>simp only[e,e2]at h;cases h
  | _=>simp only[e]at h;cases h
 ·rename_i ra rb rc
  cases e:ra.val with
  | int i =>
   cases e2:rb.val with
   | int j =>
    cases e3:rc.val with
    | int k =>
     simp only[e,e2,e3]at h
     split at h
     ·rename_i c
      cases h
      match es,hl with
      | [a,b,d],_ =>
       refine⟨_,pS g hm mf (aL (hs a (by simp))) (dq fun z hz=>hs z (by simp at hz ⊢;rcases hz with rfl|rfl<;>simp)),?_⟩;refine ha O σ H _ Rl fun us H1 s1 r1=> ?_;obtain⟨u,vs,rfl,r2,u2,vs2,rfl,r3,u3,vs3,rfl,r4,z⟩:=r1;cases z;exact⟨i,j,k,by rw[r2.int Rl s1 e,r3.int Rl s1 e2,r4.int Rl s1 e3],c.1,c.2.1,c.2.2,q _ _ s1 tY⟩
     ·cases h
    | _=>simp only[e,e2,e3]at h;cases h
   | _=>simp only[e,e2]at h;cases h
  | _=>simp only[e]at h;cases h
 ·cases h
theorem jr{O:List Addr}{σ:L2.St}{H H1:Hp}{r:RV}{xs:List PV}{n:Bool}{u:V}(R:aQ X.K Hi O τ σ H)(s:aA H H1)(h:sg r=some (xs,n))(ok:aT X.K Hi O H H1 r u):∃p us,u=.ref p/\ao X.K (aI H1 O) p us/\aD X.K Hi n xs (aI H1 O) us:=by
 cases r with
 | frz v m =>
  cases v with
  | lst ys =>
   cases h;obtain⟨p,us,rfl,_,l,r⟩:=Rp.lst.mp (show Rp X.K Hi n (.lst xs) (aI H1 O) u from ok);exact⟨p,us,rfl,l,r.mono al⟩
  | _=>cases h
 | bor v=>cases h
 | owd bd ys m=>cases h
 | own ys m =>
  cases h;obtain⟨p,us,rfl,h0,h1,r⟩:=ok;have hl:aI H1 O p=some (.lst us):=by
   unfold aI;rw[CM fun z=> ?_]
   ·exact h1
   ·obtain⟨vs,e',_⟩:=(R.own p z).2
    rw[h0]at e';cases e'
  exact⟨p,us,rfl,ao.of hl,r.mono (aC al)⟩
theorem gl{O:List Addr}{H:Hp}{p:Addr}{us:List V}{xs:List PV}{n:Bool}(l:nu O H)(hp:H p=none)(r:aD X.K Hi n xs (aI H O) us):Rp X.K Hi n (.tup xs) (aI (L2.upd H p (.tup us)) O) (.ref p):=by
 refine Rp.tup.mpr ⟨p,us,rfl,bQ.of ?_,r.mono (aC (aH hp _))⟩;unfold aI;rw[CM fun z=> ?_]
 ·exact aW
 ·obtain⟨us,e,_⟩:=l p z
  rw[e]at hp;cases hp
theorem xI{cd:Nat->List PV->Option PV}{ct:Ct}(C:bB cd X ct){ts:List Expr}{kt:Nat}{tpos:Pos}{a b:Expr}{p pos:Pos}{ra rb:RV}{xs:List PV}{n:Bool}(ho:own ct ("zip":Str)=true)(hs:isStar a=false)(hs2:isStar b=false)(ha:aE X Hi τ a ra)(hb:aE X Hi τ b rb)(h:qg ra rb=some (xs,n)) :
  kI X Hi τ (.Tuple ts kt tpos) (.Call (.Name "zip" p) [a,b] [] pos) xs n false:=by
 intro O σ H R Rl q;obtain⟨g,hm⟩:=gF C ho;unfold qg at h
 split at h
 ·rename_i ys n1 zs n2 e1 e2
  split at h
  ·rename_i hlen
   cases h;refine⟨_,yC g hm (aG aU (aG aU aV (aL hs2)) (aL hs)) (aL hs) (dq fun c hc=>by simp at hc;subst hc;exact hs2),?_⟩;refine ha O σ H _ Rl fun u H1 s1 r1=>hb O σ H1 _ (Rl.ext s1) fun v H2 s2 r2=> ?_;obtain⟨p1,us,rfl,l1,q1⟩:=jr Rl (s1.trans s2) e1 (r1.ext s2);obtain⟨p2,vs,rfl,l2,q2⟩:=jr Rl (s1.trans s2) e2 (r2.back s1);refine⟨p1,p2,us,vs,rfl,(aO (O:=O)).seq l1,(aO (O:=O)).seq l2,q _ _ (s1.trans s2) ?_⟩;have z1:=q1.len;have z2:=q2.len;have zl:(List.zipWith oI ys zs).length=us.length:=by rw[Ef,<-hlen,Ea];exact z1
   refine⟨fun G P i ok hi=> ?_,fun G P ok=> ?_,fun G P i w G' ok hi y=> ?_⟩
   ·rw[zl]at hi
    exact⟨us,vs,us[i],vs[i]'(by omega),(ok.2.trans aO).seq l1,(ok.2.trans aO).seq l2,by simp,by simp⟩
   ·exact⟨us,vs,(ok.2.trans aO).seq l1,(ok.2.trans aO).seq l2,.inl (by rw[zl];exact CO _)⟩
   ·rw[zl]at hi
    obtain⟨p3,hp3,rfl,y⟩:=y;have e:=y us vs us[i] (vs[i]'(by omega)) ((ok.2.trans aO).seq l1) ((ok.2.trans aO).seq l2) (by simp) (by simp);subst e;obtain⟨x1,hx1,rx1⟩:=q1.at' (i:=i) (u:=us[i]) (by simp);obtain⟨x2,hx2,rx2⟩:=q2.at' (i:=i) (u:=vs[i]'(by omega)) (by simp);refine⟨aH hp3 _,oI x1 x2,by rw[Du,hx1,hx2],gl ok.1 hp3 (.cons ((rx1.mono ok.2).low fun z=> ?_) (.cons ((rx2.mono ok.2).low fun z=> ?_) .nil))⟩
    ·rw[CK]at z;exact z.1
    ·rw[CK]at z;exact z.2
  ·cases h
 ·cases h
theorem v4{cd:Nat->List PV->Option PV}{ct:Ct}(C:bB cd X ct){ts:List Expr}{kt:Nat}{tpos:Pos}{a:Expr}{p pos:Pos}{ra:RV}{xs:List PV}{n:Bool}(ho:own ct ("enumerate":Str)=true)(hs:isStar a=false)(ha:aE X Hi τ a ra)(h:lR ra=some (xs,n)) :
  kI X Hi τ (.Tuple ts kt tpos) (.Call (.Name "enumerate" p) [a] [] pos) xs n false:=by
 intro O σ H R Rl q;obtain⟨g,hm⟩:=gF C ho;unfold lR at h
 split at h
 ·rename_i z m
  cases h;refine⟨_,sI g hm (aG aU aV (aL hs)) (aL hs),?_⟩;refine ha O σ H _ Rl fun u H1 s1 r1=>⟨z,by rw[r1.str Rl s1 rfl],q _ _ s1 ?_⟩;have zl:(List.zipWith e8 (List.range z.length) (signs z)).length=z.length:=by rw[Ef,dj,C9];exact Ea _
  have hsl:(bh z).length=z.length:=hE z;refine⟨fun G P i ok hi=> ?_,fun G P ok=> ?_,fun G P i w G' ok hi y=> ?_⟩
  ·rw[zl]at hi
   exact⟨_,(bh z)[i]'(by omega),rfl,by simp⟩
  ·exact⟨_,rfl,by rw[zl,hsl]⟩
  ·rw[zl]at hi
   obtain⟨p3,hp3,rfl,y⟩:=y;have hz:i<z.cps.size:=hi;obtain⟨c,hc⟩:∃c,z.cps[i]? =some c:=⟨z.cps[i],by simp[hz]⟩;have hv:(bh z)[i]? =some (.str ⟨#[c]⟩):=by
    unfold bh;rw[Cb,Cu,hc];rfl
   have e:=y _ (.str ⟨#[c]⟩) rfl hv;subst e;refine⟨aH hp3 _,e8 i (.str ⟨#[c]⟩),by rw[Du,signs_at hc,DN hi],gl ok.1 hp3 (.cons (Rp.int.mpr rfl) (.cons (Rp.str.mpr rfl) .nil))⟩
 ·rename_i ys m
  cases h;refine⟨_,sH g hm (aG aU aV (aL hs)) (aL hs),?_⟩;refine ha O σ H _ Rl fun u H1 s1 r1=> ?_;obtain⟨p1,us,rfl,l,r⟩:=Rp.tup.mp (show Rp X.K Hi n (.tup ys) (aI H1 O) u from r1);refine⟨p1,us,rfl,(aO (O:=O)).tup l,q _ _ s1 ?_⟩;have zl:(List.zipWith e8 (List.range ys.length) ys).length=ys.length:=by rw[Ef,C9];exact Ea _
  have hsl:=r.len;refine⟨fun G P i ok hi=> ?_,fun G P ok=> ?_,fun G P i w G' ok hi y=> ?_⟩
  ·rw[zl]at hi
   exact⟨us,us[i]'(by omega),(ok.2.trans aO).tup l,by simp⟩
  ·exact⟨us,(ok.2.trans aO).tup l,by rw[zl,hsl]⟩
  ·rw[zl]at hi
   obtain⟨p3,hp3,rfl,y⟩:=y;have hv:us[i]? =some (us[i]'(by omega)):=by simp
   have e:=y us _ ((ok.2.trans aO).tup l) hv;subst e;obtain⟨x1,hx1,rx1⟩:=r.at' hv;exact⟨aH hp3 _,e8 i x1,by rw[Du,hx1,DN hi],gl ok.1 hp3 (.cons (Rp.int.mpr rfl) (.cons (rx1.mono ok.2) .nil))⟩
 ·split at h
  ·rename_i ys m e1
   cases h;refine⟨_,sK g hm (aG aU aV (aL hs)) (aL hs),?_⟩;refine ha O σ H _ Rl fun u H1 s1 r1=> ?_;obtain⟨p1,us,rfl,l,r⟩:=jr Rl s1 e1 r1;refine⟨p1,us,rfl,(aO (O:=O)).seq l,q _ _ s1 ?_⟩;have zl:(List.zipWith e8 (List.range ys.length) ys).length=ys.length:=by rw[Ef,C9];exact Ea _
   have hsl:=r.len;refine⟨fun G P i ok hi=> ?_,fun G P ok=> ?_,fun G P i w G' ok hi y=> ?_⟩
   ·rw[zl]at hi
    exact⟨us,us[i]'(by omega),(ok.2.trans aO).seq l,by simp⟩
   ·exact⟨us,(ok.2.trans aO).seq l,by rw[zl,hsl]⟩
   ·rw[zl]at hi
    obtain⟨p3,hp3,rfl,y⟩:=y;have hv:us[i]? =some (us[i]'(by omega)):=by simp
    have e:=y us _ ((ok.2.trans aO).seq l) hv;subst e;obtain⟨x1,hx1,rx1⟩:=r.at' hv;exact⟨aH hp3 _,e8 i x1,by rw[Du,hx1,DN hi],gl ok.1 hp3 (.cons (Rp.int.mpr rfl) (.cons (rx1.mono ok.2) .nil))⟩
  ·cases h
theorem fR{N:List Str}:∀{xs:List Str}{is:List Nat},slots N xs=some is->xs.length=is.length
 | [],is,h=>by cases h;rfl
 | x::xs,is,h=>by
  unfold slots at h;cases e:slot N x with
  | none=>rw[e]at h;cases h
  | some i =>
   rw[e]at h;cases e2:slots N xs with
   | none=>simp[e2]at h
   | some js =>
    simp[e2]at h;subst h;simp[fR e2]
theorem kc{N:List Str}:∀{xs:List Str}{is:List Nat}{j i:Nat},slots N xs=some is->is[j]? =some i->∃x,xs[j]? =some x/\N[i]? =some x
 | [],is,j,i,h,hj=>by cases h;simp at hj
 | x::xs,is,j,i,h,hj=>by
  unfold slots at h;cases e:slot N x with
  | none=>rw[e]at h;cases h
  | some i0 =>
   rw[e]at h;cases e2:slots N xs with
   | none=>simp[e2]at h
   | some js =>
    simp[e2]at h;subst h;cases j with
    | zero =>
     simp at hj;subst hj;exact⟨x,by simp,di e⟩
    | succ j=>simpa using kc e2 (by simpa using hj)
theorem fB{ct:Ct}{t:Str}{scope:Scope}(h:mx ct t scope=true):scope.kind=.function/\(∀y∈scope.names,y.2=.cell->scope.names.lookup y.1=some .cell)/\(∀y∈scope.names,y.2=.local->scope.names.lookup y.1=some .local) /\
  (∀y∈scope.names,y.2=.free->(ct.S.lookup y.1=some .cell\/ct.S.lookup y.1=some .free))/\(t::frees scope).Nodup/\(scope.names.lookup t=some .local\/scope.names.lookup t=some .cell)/\∀x∈frees scope,scope.names.lookup x=some .free:=by
 unfold mx at h;simp only[CK]at h;obtain⟨⟨⟨⟨⟨⟨h1,h2⟩,h3⟩,h4⟩,h5⟩,h6⟩,h7⟩:=h;refine⟨Cy h1,fun y hy e=> ?_,fun y hy e=> ?_,fun y hy e=> ?_,ER h5,by simpa using h6,fun x hx=> ?_⟩
 ·have:=Cw.mp h2 y hy
  rw[e]at this
  simpa using this
 ·have:=Cw.mp h3 y hy
  rw[e]at this
  simpa using this
 ·have:=Cw.mp h4 y hy
  rw[e]at this
  simpa using this
 ·have:=Cw.mp h7 x hx
  simpa using this
theorem el{env:Env}:∀{names:List (Str×NameKind)}{x:Str},names.lookup x=some .cell ->
  (names.map fun(n,k)=>if(k==NameKind.free&&env.scope.kind== .function&&env.kindOf n==some .cell)then(n,NameKind.cell)else(n,k)).lookup x=some .cell
 | [],_,h=>by simp at h
 | (n,k)::r,x,h=>by
  have ih:= @el env r x;show List.lookup x ((if(k==NameKind.free&&env.scope.kind== .function&&env.kindOf n==some .cell)=true then(n,NameKind.cell)else(n,k))::_)=_;cases hx:x==n with
  | true =>
   simp only[C8,hx]at h;cases h;rw[CM (by simp)];simp only[C8,hx]
  | false =>
   simp only[C8,hx]at h
   by_cases hc:(k==NameKind.free&&env.scope.kind== .function&&env.kindOf n==some .cell)=true
   ·rw[CQ hc];simp only[C8,hx];exact ih h
   ·rw[CM hc];simp only[C8,hx];exact ih h
theorem n9{N' :List Str}{scope:Scope}{Cf:Addr}{s2:Shared}{H2:Hp}{fp:List Addr}{cl:List (Str×Addr)}{t:Str}(h:scope.names.lookup t=some .local\/scope.names.lookup t=some .cell):L2.Loc (am X N' scope Cf s2 H2 fp cl).env.scope t:=by
 rcases h with h|h
 ·exact .inl (lookup_relabel_local h)
 ·exact .inr (el h)
theorem rG{N' :List Str}{scope:Scope}{Cf:Addr}{s2:Shared}{H2:Hp}{fp:List Addr}{cl:List (Str×Addr)}{t:Str}(h:scope.names.lookup t=some .local\/scope.names.lookup t=some .cell):(am X N' scope Cf s2 H2 fp cl).fn t=true\/(am X N' scope Cf s2 H2 fp cl).env.scope.names.lookup t=some .local:=by
 rcases h with h|h
 ·exact .inr (lookup_relabel_local h)
 ·left
  show(scope.names.lookup t==some .cell)=true;rw[h];rfl
theorem bB.blk{cd:Nat->List PV->Option PV}{ct:Ct}(C:bB cd X ct){t:Str}{scope:Scope}(h:mx ct t scope=true)(Cf:Addr)(s2:Shared)(H2:Hp)(fp:List Addr)(cl:List (Str×Addr)):bB cd (am X (t::frees scope) scope Cf s2 H2 fp cl) (blk ct t scope):=by
 obtain⟨h1,h2,h3,h4,h5,h6,h7⟩:=fB h;refine⟨rfl,h5,?_,h1,C.calm,C.glob,C.bl,C.fns,PassesOwn.never,C.un⟩;show(scope.names.map fun(n,k)=>if(k==NameKind.free&&X.env.scope.kind== .function&&X.env.kindOf n==some .cell)then(n,NameKind.cell)else(n,k))=rh ct.S scope.names;unfold rh;refine Ee fun y hy=> ?_;obtain⟨n,k⟩:=y;have e:(X.env.scope.kind==ScopeKind.function)=true:=by rw[C.kind];rfl
 have e2:X.env.kindOf n=ct.S.lookup n:=by
  show X.env.scope.names.lookup n=_;rw[C.S]
 dsimp only;rw[e,e2]
theorem g0{cd:Nat->List PV->Option PV}{ct:Ct}(C:bB cd X ct){scope:Scope}:∀{xs:List Str}{caps:List Nat},slots ct.N xs=some caps->(∀x∈xs,scope.names.lookup x=some .free/\(ct.S.lookup x=some .cell\/ct.S.lookup x=some .free))->bF X scope xs (caps.map some)
 | [],caps,h,_=>by cases h;exact True.intro
 | x::xs,caps,h,k=>by
  unfold slots at h;cases e:slot ct.N x with
  | none=>rw[e]at h;cases h
  | some i0 =>
   rw[e]at h;cases e2:slots ct.N xs with
   | none=>simp[e2]at h
   | some js =>
    simp[e2]at h;subst h;obtain⟨k1,k2⟩:=k x Cd;exact⟨⟨by rw[C.N];exact di e,k1,by rw[C.S];exact k2⟩,g0 C e2 fun y hy=>k y (CV _ hy)⟩
theorem sY{t:TV}{x:Bd×List PV×Bool}(h:t.ob=some x):t≠.un:=fun e=>by subst e;cases h
theorem aQ.block{K:W.Frag}{O:List Addr}{σ:L2.St}{H:Hp}{caps:List Nat}{x:PV}{n:Bool}{u:V}(R:aQ K Hi O τ σ H)(nd:caps.Nodup)(r:Rp K Hi n x (aI H O) u) :
  aQ K Hi O (.frz x n::caps.map fun i=>τ.getD i .un) (some u::bT (caps.map some) σ) H:=by
 have hτ:∀(j:Nat)(v:TV),(caps.map fun i=>τ.getD i .un)[j]? =some v->v≠.un->∃i,caps[j]? =some i/\τ[i]? =some v:=fun j v e hv=>by
  rw[Cb]at e;cases ec:caps[j]? with
  | none=>rw[ec]at e;cases e
  | some i =>
   rw[ec]at e;refine⟨i,rfl,?_⟩;have e:τ.getD i .un=v:=Cq e;rw[Cs]at e;cases et:τ[i]? with
   | none=>rw[et]at e;exact absurd e.symm hv
   | some w=>rw[et]at e;exact Da some e
 have hσ:∀(j i:Nat),caps[j]? =some i->(bT (caps.map some) σ)[j]? =some ((σ[i]?).join):=fun j i e=>by
  unfold bT;rw[Cb,Cb,e];rfl
 refine⟨R.same,R.own,fun j v m e=> ?_,fun j t bd ys m e ht=> ?_,fun a b t t' x1 y1 l e1 ht e2 ht' h1 h2=> ?_⟩
 ·cases j with
  | zero =>
   simp at e;obtain⟨rfl,rfl⟩:=e;exact⟨u,by simp,r⟩
  | succ j =>
   obtain⟨i,h1,h2⟩:=hτ j _ (by simpa using e) (by simp);obtain⟨w,h3,h4⟩:=R.frz i v m h2;exact⟨w,by rw[EH,hσ j i h1,h3];rfl,h4⟩
 ·cases j with
  | zero =>
   simp at e;subst e;cases ht
  | succ j =>
   obtain⟨i,h1,h2⟩:=hτ j _ (by simpa using e) (sY ht);obtain⟨l,us,o,h3,h4⟩:=R.obs i t bd ys m h2 ht;exact⟨l,us,o,by rw[EH,hσ j i h1,h3];rfl,h4⟩
 ·cases a with
  | zero =>
   simp at e1;subst e1;cases ht
  | succ a =>
   cases b with
   | zero =>
    simp at e2;subst e2;cases ht'
   | succ b =>
    obtain⟨i,c1,c2⟩:=hτ a _ (by simpa using e1) (sY ht);obtain⟨j,d1,d2⟩:=hτ b _ (by simpa using e2) (sY ht');rw[EH,hσ a i c1]at h1;rw[EH,hσ b j d1]at h2;obtain⟨b1,xs1,n1⟩:=x1;obtain⟨b2,xs2,n2⟩:=y1;obtain⟨l1,us1,o1,g1,_⟩:=R.obs i t b1 xs1 n1 c2 ht;obtain⟨l2,us2,o2,g2,_⟩:=R.obs j t' b2 xs2 n2 d2 ht';rw[g1]at h1;rw[g2]at h2;cases h1;cases h2;have e:=R.dst i j t t' _ _ l c2 ht d2 ht' g1 g2;subst e
    congr 1
    have ha:a<caps.length:=(CY.mp c1).1;have hb:b<caps.length:=(CY.mp d1).1;have e1:caps[a]=i:=by rw[CW ha]at c1;exact Cq c1
    have e2:caps[b]=i:=by rw[CW hb]at d1;exact Cq d1
    exact(List.getElem_inj nd).mp (e1.trans e2.symm)
theorem eO{N:List Str}:∀{xs:List Str}{caps:List Nat},slots N xs=some caps->xs.Nodup->caps.Nodup
 | [],caps,h,_=>by cases h;exact List.nodup_nil
 | x::xs,caps,h,nd=>by
  unfold slots at h;cases e:slot N x with
  | none=>rw[e]at h;cases h
  | some i0 =>
   rw[e]at h;cases e2:slots N xs with
   | none=>simp[e2]at h
   | some js =>
    simp[e2]at h;subst h;refine DV.mpr ⟨fun hm=> ?_,eO e2 (DV.mp nd).2⟩;obtain⟨k,hk⟩:=List.mem_iff_getElem?.mp hm;obtain⟨y,h1,h2⟩:=kc e2 hk;rw[di e]at h2;cases h2;exact(DV.mp nd).1 (C7 h1)
theorem aQ.hide{K:W.Frag}{O:List Addr}{σ:L2.St}{H H' :Hp}{D:Addr}{us:List V}(R:aQ K Hi O τ σ H)(s:aA H H')(h0:H D=none)(h1:H' D=some (.lst us)):aQ K Hi (D::O) τ σ H' :=by
 have hs:aA (aI H O) (aI H' (D::O)):=fun b o e=>by
  unfold aI at e ⊢
  split at e
  ·cases e
  ·rename_i nb
   have ne:b≠D:=aP e h0;rw[CM (by simp[ne,nb])];exact s b o e
 refine⟨R.same.trans s,fun l hl=> ?_,fun i v n e=> ?_,fun i t b xs n e ht=> ?_,R.dst⟩
 ·rcases Ca.mp hl with rfl|hl
  ·exact⟨R.same.free h0,_,h1,.lst⟩
  ·obtain⟨q,vs,e,mo⟩:=R.own l hl
   exact⟨q,vs,s _ _ e,mo⟩
 ·obtain⟨u,g1,g2⟩:=R.frz i v n e
  exact⟨u,g1,g2.mono hs⟩
 ·obtain⟨l,vs,o,g1,g2,g3,g4,g5⟩:=R.obs i t b xs n e ht
  exact⟨l,vs,o,g1,CV _ g2,s _ _ g3,g4,g5.mono hs⟩
theorem cv{e:Expr}{env:Env}(h:dH e=false):∀x,foldedSetIterable e env x=pure x:=by
 intro x;cases e with
 | Set a b c=>cases h
 | _=>rfl
noncomputable def Br(cd:Nat->List PV->Option PV)(ifs:CD)(elt:IE)(n:Bool)(aJ:En):PV->Option (Option (PV×Bool)):=fun x=>(j8 cd ifs (.frz x (n||imm x)::aJ)).bind fun b=>if b then(aS cd elt (.frz x (n||imm x)::aJ)).bind fun r=>r.keep.map some else some none
theorem yg{cd:Nat->List PV->Option PV}{ctb:Ct}{Nn:List Str}{pre:List (Option Nat)}{tg iter elt:Expr}{ifs:List Expr}{ifs' :CD}{elt' :IE}{scope:Scope}{xs:List PV}{n b:Bool}{VS:List PV}{NN:Bool}{CF:PV->Option (Option (PV×Bool))}
  (ig:kI X Hi τ tg iter xs n b) (hz:xs.length<=LN) (hblk:∀(Cf:Addr)(s2:Shared)(H2:Hp)(fp:List Addr)(cl:List (Str×Addr)),bB cd (am X Nn scope Cf s2 H2 fp cl) ctb)
  (hifs:∀(X' :Cx)(τ' :En)(k:Bool),bB cd X' ctb->j8 cd ifs' τ' =some k->∃tt,uQ X' ifs tt/\∀(O:List Addr)(σ:L2.St)(H:Hp)(Q:Bool->Hp->Prop),aQ X'.K Hi O τ' σ H->(∀H',aA H H' ->Q k H')->tt σ H Q)
  (helt:∀(X' :Cx)(τ' :En)(r:RV),bB cd X' ctb->aS cd elt' τ' =some r->aE X' Hi τ' elt r)
  (step:∀(O:List Addr)(σ:L2.St)(D:Addr)(x:PV)(r0:Option (PV×Bool))(u:V)(G' :Hp)(Cf:Addr)(s2:Shared)(H2:Hp)(fp:List Addr)(cl:List (Str×Addr)),CF x=some r0->aQ X.K Hi (D::O) τ σ G' ->Rp X.K Hi n x (aI G' (D::O)) u ->
   ∃(τx:En)(σx:L2.St)(g:TG),((j8 cd ifs' τx).bind fun t=>if t then(aS cd elt' τx).bind fun r=>r.keep.map some else some none)=some r0/\aQ X.K Hi (D::O) τx σx G' /\PG (am X Nn scope Cf s2 H2 fp cl) tg g /\
    ∀K:L2.St->Hp->Prop,K σx G' ->g u (bT pre σ) G' fun σ2 H3=>(σ2.length=Nn.length/\∀(j:Nat)(v:V),(bT pre σ)[j]? =some (some v)->σ2[j]? =some (some v))/\K σ2 H3)
  (hrun:cq CF xs=some (VS,NN)) (O:List Addr) (σ:L2.St) (H:Hp) (Q:VK) (R:aQ X.K Hi O τ σ H) (q:∀u H',aA H H' ->aT X.K Hi O H H' (.own VS NN) u->Q u H'):xT X Nn pre scope tg ifs elt (fun σ H R=>WI X tg iter σ H R) σ H Q:=by
 refine ig O σ H _ R fun J H1 s1 En=> ?_;intro D hD;have ok:∀(G:Hp)(ys:List V),aA H1 G->G D=some (.lst ys)->(if b=true then OkB H1 else ud (aI H1 O)) G (D::O):=by
  intro G ys sG gD;have ls:nu (D::O) G:=fun l hl=>by
   rcases Ca.mp hl with rfl|hl
   ·exact⟨_,gD,.lst⟩
   ·obtain⟨us,e,mo⟩:=(R.own l hl).2
    exact⟨us,sG _ _ (s1 _ _ e),mo⟩
  cases b with
  | true=>exact⟨ls,sG⟩
  | false =>
   refine⟨ls,fun c o e=> ?_⟩;unfold aI at e ⊢
   split at e
   ·cases e
   ·rename_i nb
    have ne:c≠D:=aP e hD;rw[CM (by simp[ne,nb])];exact sG c o e
 refine⟨fun i m ys G=>m=xs.length-i/\i<=xs.length/\aA H1 G/\G D=some (.lst ys)/\ys.length<=i/\∃dn ws mm,cq CF (xs.drop i)=some (ws,mm)/\VS=dn++ws/\(NN=true->mm=true)/\aD X.K Hi NN dn (aI G (D::O)) ys,
  ⟨xs.length,by simp,DG _,aH hD _,aW,CO _,[],VS,NN,hrun,rfl,id,.nil⟩,?_⟩
 rintro i m ys G ⟨rfl,hi,sG,gD,hyl,dn,ws,mm,hc1,hv,hn,hr⟩
 by_cases hlt:i<xs.length
 ·refine .inr ⟨En.go G (D::O) i (ok G ys sG gD) hlt,fun u G' y=> ?_⟩
  obtain⟨sGG,x,hx,rx⟩:=En.yld G (D::O) i u G' (ok G ys sG gD) hlt y;intro Cf s2 H2 fp cl;have C' :=hblk Cf s2 H2 fp cl;have hd:xs.drop i=x::xs.drop (i+1):=by
   rw[DU hlt];rw[CW hlt]at hx;rw[Cq hx]
  rw[hd]at hc1;unfold cq at hc1;cases hf:CF x with
  | none=>rw[hf]at hc1;cases hc1
  | some r0 =>
   rw[hf]at hc1;cases hcr:cq CF (xs.drop (i+1))with
   | none=>rw[hcr]at hc1;cases hc1
   | some w =>
    obtain⟨ws',mm'⟩:=w;rw[hcr]at hc1;have gD' :G' D=some (.lst ys):=sGG _ _ gD;obtain⟨τx,σx,g,hf,RB,pg,hg⟩:=step O σ D x r0 u G' Cf s2 H2 fp cl hf (R.hide (s1.trans (sG.trans sGG)) (s1.free hD) gD') rx;cases hco:j8 cd ifs' τx with
    | none=>rw[hco]at hf;cases hf
    | some k =>
     rw[hco]at hf;obtain⟨tt,ptt,qtt⟩:=hifs _ _ _ C' hco;refine⟨g,tt,_,pg,ptt,aU,hg _ ?_⟩;refine qtt (D::O) _ G' _ RB fun G4 s4=> ?_;cases k with
     | false =>
      rw[CM CT];have hf:(some none:Option (Option (PV×Bool)))=some r0:=hf;cases hf;cases hc1;exact⟨xs.length-(i+1),by omega,rfl,hlt,sG.trans (sGG.trans s4),s4 _ _ gD',by omega,dn,ws,mm,hcr,hv,hn,hr.mono (aC (sGG.trans s4))⟩
     | true =>
      rw[CQ rfl];have hf:((aS cd elt' τx).bind fun r=>r.keep.map some)=some r0:=hf;cases he:aS cd elt' τx with
      | none=>rw[he]at hf;cases hf
      | some r =>
       rw[he]at hf;have hf:r.keep.map some=some r0:=hf;cases hk:r.keep with
       | none=>rw[hk]at hf;cases hf
       | some vn =>
        obtain⟨v,nv⟩:=vn;rw[hk]at hf;cases hf;have hc1:some (v::ws',nv&&mm')=some (ws,mm):=hc1;cases hc1;refine helt _ _ _ C' he (D::O) _ G4 _ (RB.ext s4) fun w G5 s5 r5=> ?_;have kp:=r5.keep (RB.ext s4) s5 hk;have gD5:=s5 _ _ (s4 _ _ gD');have sT:=sG.trans (sGG.trans (s4.trans s5));have hz' :xs.length<=16777216:=hz;refine⟨gD5,by rw[bW];omega,xs.length-(i+1),by omega,rfl,hlt,sT.upd hD,aW,by rw[CP];simp;omega,dn++[v],ws',mm',hcr,by rw[hv];simp,fun z=> ?_,?_⟩
        ·have:=hn z
         rw[CK]at this;exact this.2
        ·have e:aI (L2.upd G5 D (.lst (ys++[w]))) (D::O)=aI G5 (D::O):=by
          funext c
          unfold aI
          split
          ·rfl
          ·rename_i nc
           exact aF fun z=>nc (z▸Cd)
         rw[e];refine(hr.mono (aC (sGG.trans (s4.trans s5)))).app (.cons (kp.low fun z=> ?_) .nil);have:=hn z;rw[CK]at this;exact this.1
 ·have e:i=xs.length:=by omega
  subst e;rw[List.drop_length]at hc1;cases hc1;refine .inl ⟨En.stop G (D::O) (ok G ys sG gD),q _ _ (s1.trans sG) ?_⟩;refine⟨D,ys,rfl,s1.free hD,gD,?_⟩;rw[hv,DL];refine hr.mono fun c o e=> ?_;unfold aI at e;unfold aI del
  split at e
  ·cases e
  ·rename_i nc
   have n1:c≠D:=fun z=>nc (z▸Cd);have n2:c∉O:=fun z=>nc (CV _ z);rw[CM n2,CM n1];exact e
theorem vq{cd:Nat->List PV->Option PV}{ct:Ct}(C:bB cd X ct){t:Str}{tp:Pos}{iter elt:Expr}{ifs:List Expr}{ifs' :CD}{elt' :IE}{scope:Scope}{caps:List Nat}{xs:List PV}{n b:Bool}{VS:List PV}{NN:Bool}
  (h:mx ct t scope=true) (hc:slots ct.N (frees scope)=some caps) (hset:dH iter=false) (ig:kI X Hi τ (.Name t tp) iter xs n b) (hz:xs.length<=LN)
  (hifs:∀(X' :Cx)(τ' :En)(k:Bool),bB cd X' (blk ct t scope)->j8 cd ifs' τ' =some k->∃tt,uQ X' ifs tt/\∀(O:List Addr)(σ:L2.St)(H:Hp)(Q:Bool->Hp->Prop),aQ X'.K Hi O τ' σ H->(∀H',aA H H' ->Q k H')->tt σ H Q)
  (helt:∀(X' :Cx)(τ' :En)(r:RV),bB cd X' (blk ct t scope)->aS cd elt' τ' =some r->aE X' Hi τ' elt r)
  (hrun:cq (Br cd ifs' elt' n (caps.map fun i=>τ.getD i .un)) xs=some (VS,NN)):bF X scope (t::frees scope) (none::caps.map some)/\eD X.env.scope scope=true /\
  ∀(O:List Addr)(σ:L2.St)(H:Hp)(Q:VK),aQ X.K Hi O τ σ H->(∀u H',aA H H' ->aT X.K Hi O H H' (.own VS NN) u->Q u H')->xT X (t::frees scope) (none::caps.map some) scope (.Name t tp) ifs elt (fun σ H R=>WI X (.Name t tp) iter σ H R) σ H Q:=by
 obtain⟨h1,h2,h3,h4,h5,h6,h7⟩:=fB h;have hmem:∀x∈frees scope,(x,NameKind.free)∈scope.names:=fun x hx=>C2 (h7 x hx);have hsrc:bF X scope (t::frees scope) (none::caps.map some):=g0 C hc fun x hx=>⟨h7 x hx,h4 _ (hmem x hx) rfl⟩;have hfr:eD X.env.scope scope=true:=by
  unfold eD;rw[Cw];intro y hy;rw[C.S]
  by_cases e:y.2=.free
  ·rcases h4 y hy e with z|z<;>simp[e,z]
  ·simp[e]
 have hlen:=fR hc;refine⟨hsrc,hfr,yg ig hz (C.blk h) hifs helt (fun O σ D x r0 u G' Cf s2 H2 fp cl hf R rx=> ?_) hrun⟩;exact⟨_,some u::bT (caps.map some) σ,lK 0,hf,R.block (eO hc (DV.mp h5).2) rx.up,dk h5 rfl (n9 h6) (rG h6),fun K k=>⟨lf (by simp[hlen]),k⟩⟩
end
theorem bind_some{α β:Type}{o:Option α}{f:α->Option β}{b:β}(h:o.bind f=some b):∃a,o=some a/\f a=some b:=by
 cases o with
 | none=>cases h
 | some a=>exact⟨a,rfl,h⟩
theorem map_some{α β:Type}{o:Option α}{f:α->β}{b:β}(h:o.map f=some b):∃a,o=some a/\f a=b:=by
 cases o with
 | none=>cases h
 | some a=>exact⟨a,rfl,Cq h⟩
structure gJ(cd:Nat->List PV->Option PV)(n:Nat):Prop where
 e:∀(X:Cx)(ct:Ct)(Hi:Hp)(τ:En)(e:Expr)(r:RV),bB cd X ct->aS cd (af n ct e) τ=some r->aE X Hi τ e r
 cm:∀(X:Cx)(ct:Ct)(Hi:Hp)(τ:En)(a:Expr)(ops:List CmpOp)(cs:List Expr)(pos:Pos)(r:RV),bB cd X ct->aS cd (af n ct (.Compare a ops cs pos)) τ=some r->∃t,r=sc (.bl t)/\de X Hi τ (.Compare a ops cs pos) t
 es:∀(X:Cx)(ct:Ct)(Hi:Hp)(τ:En)(es:List Expr)(rs:List RV),bB cd X ct->bO cd (eW n ct es) τ=some rs->kK X Hi τ es rs/\(∀a∈es,isStar a=false)/\es.length=rs.length/\∀(i:Nat)(a:Expr)(r:RV),es[i]? =some a->rs[i]? =some r->aE X Hi τ a r
 o:∀(X:Cx)(ct:Ct)(Hi:Hp)(τ:En)(e:Option Expr)(o:Option RV)(i:Option Int),bB cd X ct->zI cd (wY n ct e) τ=some o->lG o=some i->qX X Hi τ e i
 c:∀(X:Cx)(ct:Ct)(Hi:Hp)(τ:En)(e:Expr)(b:Bool),bB cd X ct->dw cd (jX n ct e) τ=some b->de X Hi τ e b
 call:∀(X:Cx)(ct:Ct)(Hi:Hp)(τ:En)(x:Str)(es:List Expr)(p pos:Pos)(r:RV),bB cd X ct->aS cd (fQ n ct x es) τ=some r->aE X Hi τ (.Call (.Name x p) es [] pos) r
 mth:∀(X:Cx)(ct:Ct)(Hi:Hp)(τ:En)(o:Expr)(m:Str)(es:List Expr)(ap cp:Pos)(r:RV),bB cd X ct->(ap.endLine==cp.line)=true->aS cd (jE n ct o m es) τ=some r->aE X Hi τ (.Call (.Attribute o m ap) es [] cp) r
 t:∀(X:Cx)(ct:Ct)(Hi:Hp)(τ:En)(tp:Bool)(e tg:Expr)(xs:List PV)(k b:Bool),bB cd X ct->(tp=true->∃ts kk p,tg=.Tuple ts kk p)->lQ cd (rF n ct tp e) τ=some (xs,k,b)->kI X Hi τ tg e xs k b/\dH e=false
section
variable{cd:Nat->List PV->Option PV}
theorem fk{v:PV}{b:Bool}(h:fK v=some b):v=.bl b:=by
 cases v<;>first|(cases h;done)|(cases h;rfl)
theorem tG{v:PV}{b:Int}(h:yr v=some b):v=.int b:=by
 cases v<;>first|(cases h;done)|(cases h;rfl)
theorem mi{α:Type}{l:List α}(h:l.length=1):∃a,l=[a]:=by
 cases l with
 | nil=>cases h
 | cons a l =>
  cases l with
  | nil=>exact⟨a,rfl⟩
  | cons b l=>cases h
theorem rA{α:Type}{l:List α}(h:l.length=2):∃a b,l=[a,b]:=by
 cases l with
 | nil=>cases h
 | cons a l =>
  obtain⟨b,rfl⟩:=mi (show l.length=1 from Nat.succ.inj h);exact⟨a,b,rfl⟩
theorem aM{τ:En}{r:RV}(h:aS cd .never τ=some r){P:Prop}:P:=by simp[cC,bu,cF,cQ,cD,cH,bx,bz,cR,cE,cG,b8,b9,bv,cS,cT,cB,cO,cA,cP]at h
theorem lO{X:Cx}{Hi:Hp}{τ:En}{op:BoolOp}{pos:Pos}{f:Expr->IE}(hf:∀e r,aS cd (f e) τ=some r->aE X Hi τ e r):∀{vs:List Expr}{r:RV},aS cd (iS op (vs.map f)) τ=some r->aE X Hi τ (.BoolOp op vs pos) r
 | [],r,h=>aM h
 | [a],r,h=>yV (hf a r h)
 | a::b::aJ,r,h=>by
  have ih:= @lO X Hi τ op pos f hf (b::aJ);cases op with
  | And =>
   have h:aS cd (.and (f a) (iS .And ((b::aJ).map f))) τ=some r:=h;simp only[cC,bu,cF,cQ,cD,cH,bx,bz,cR,cE,cG,b8,b9,bv,cS,cT,cB,cO,cA,cP]at h;obtain⟨x,hx,h⟩:=bind_some h;have hx:=hf a x hx;obtain⟨t,ht,h⟩:=bind_some h;have e:=fk ht;cases t with
   | true=>exact B2 hx e (ih h)
   | false=>cases h;exact B3 hx e
  | Or =>
   have h:aS cd (.or (f a) (iS .Or ((b::aJ).map f))) τ=some r:=h;simp only[cC,bu,cF,cQ,cD,cH,bx,bz,cR,cE,cG,b8,b9,bv,cS,cT,cB,cO,cA,cP]at h;obtain⟨x,hx,h⟩:=bind_some h;have hx:=hf a x hx;obtain⟨t,ht,h⟩:=bind_some h;have e:=fk ht;cases t with
   | true=>cases h;exact or_t hx e
   | false=>exact or_f hx e (ih h)
theorem lN{X:Cx}{Hi:Hp}{τ:En}{op:BoolOp}{pos:Pos}{f:Expr->IC}(hf:∀e b,dw cd (f e) τ=some b->de X Hi τ e b):∀{vs:List Expr}{b:Bool},dw cd (iR op (vs.map f)) τ=some b->jB X Hi τ (.BoolOp op vs pos) b
 | [],r,h=>by
  have h:dw cd (.val .never) τ=some r:=h;simp[uY,ua,uk,uZ,cC,bu,cF,cQ,cD,cH,bx,bz,cR,cE,cG,b8,b9,bv,cS,cT,cB,cO,cA,cP]at h
 | [a],r,h=>yU (hf a r h)
 | a::b::aJ,r,h=>by
  have ih:= @lN X Hi τ op pos f hf (b::aJ);cases op with
  | And =>
   have h:dw cd (.and (f a) (iR .And ((b::aJ).map f))) τ=some r:=h;simp only[uY,ua,uk,uZ]at h;obtain⟨x,hx,h⟩:=bind_some h;have hx:=hf a x hx;cases x with
   | true=>exact uN hx (ih h)
   | false=>cases h;exact uN hx rfl
  | Or =>
   have h:dw cd (.or (f a) (iR .Or ((b::aJ).map f))) τ=some r:=h;simp only[uY,ua,uk,uZ]at h;obtain⟨x,hx,h⟩:=bind_some h;have hx:=hf a x hx;cases x with
   | true=>cases h;exact wp hx rfl
   | false=>exact wp hx (ih h)
theorem oM{X:Cx}{Hi:Hp}{τ:En}{f:Expr->IE}(hf:∀e r,aS cd (f e) τ=some r->aE X Hi τ e r):∀{es:List Expr}{rs:List RV},bO cd (pf (es.map fun e=>if isStar e then .never else f e)) τ=some rs->kK X Hi τ es rs/\(∀a∈es,isStar a=false)/\es.length=rs.length/\∀(i:Nat)(a:Expr)(r:RV),es[i]? =some a->rs[i]? =some r->aE X Hi τ a r
 | [],rs,h=>by
  have h:some []=some rs:=by simpa [pf,o9,pB]using h
  cases h;exact⟨zj,fun a ha=>(by cases ha),rfl,fun i a r e=>(by simp at e)⟩
 | e::es,rs,h=>by
  have h:bO cd (.cons (if isStar e then .never else f e) (pf (es.map fun e=>if isStar e then .never else f e))) τ=some rs:=h;simp only[o9,pB]at h;obtain⟨x,hx,h⟩:=bind_some h;obtain⟨ys,hy,h⟩:=map_some h;subst h;obtain⟨i1,i2,i3,i4⟩:=oM hf hy;cases hs:isStar e with
  | true=>rw[hs]at hx;exact aM hx
  | false =>
   rw[hs]at hx;refine⟨wP (hf e x hx) hs i1,fun a ha=> ?_,by rw[Cv,Cv,i3],fun i a r e1 e2=> ?_⟩
   ·rcases Ca.mp ha with rfl|ha
    ·exact hs
    ·exact i2 a ha
   ·cases i with
    | zero =>
     simp at e1 e2;subst e1 e2;exact hf _ _ hx
    | succ i=>exact i4 i a r (by simpa using e1) (by simpa using e2)
theorem Bs{n:Nat}(IH:gJ cd n){X:Cx}{ct:Ct}{Hi:Hp}{τ:En}{a:Expr}{ops:List CmpOp}{cs:List Expr}{pos:Pos}{r:RV}(C:bB cd X ct)(h:aS cd (af (n+1) ct (.Compare a ops cs pos)) τ=some r) :
  ∃t,r=sc (.bl t)/\aE X Hi τ (.Compare a ops cs pos) r/\de X Hi τ (.Compare a ops cs pos) t:=by
 refine Dz fun no=> ?_;simp only[mD,l7,lw,mC,lr,l8,mB,l6,l5,lu,lv,l9,lz]at h
 split at h
 ·rename_i op b
  split at h
  ·exact aM h
  ·rename_i hs
   have hs:=Dn.mpr hs;simp only[cC,bu,cF,cQ,cD,cH,bx,bz,cR,cE,cG,b8,b9,bv,cS,cT,cB,cO,cA,cP]at h;obtain⟨x,hx,h⟩:=bind_some h;obtain⟨y,hy,h⟩:=bind_some h;obtain⟨t,ht,h⟩:=map_some h;subst h;have ha:=IH.e X ct Hi τ a x C hx;have hb:=IH.e X ct Hi τ b y C hy;exact no<|⟨t,rfl,zN C.un ha hb hs ht,zM C.un ha hb hs ht⟩
 ·exact aM h
theorem Bw{n:Nat}(IH:gJ cd n){X:Cx}{ct:Ct}{Hi:Hp}{τ:En}{x:Str}{es:List Expr}{p pos:Pos}{r:RV}(C:bB cd X ct)(h:aS cd (fQ (n+1) ct x es) τ=some r):aE X Hi τ (.Call (.Name x p) es [] pos) r:=by
 refine Dz fun no=> ?_;simp only[z1l,z1m]at h
 split at h
 ·exact aM h
 rename_i ho;have ho:=Dn.mpr ho
 split at h
 ·rename_i hg
  have hg:ct.S.lookup x=some .globalImplicit:=by simpa using hg
  cases hf:ct.F.lookup x with
  | some f =>
   rw[hf]at h;dsimp only at h;cases es with
   | nil=>exact aM h
   | cons e es =>
    simp only[cC,bu,cF,cQ,cD,cH,bx,bz,cR,cE,cG,b8,b9,bv,cS,cT,cB,cO,cA,cP]at h;obtain⟨rs,hrs,h⟩:=bind_some h;obtain⟨v,hv,h⟩:=map_some h;subst h;obtain⟨i1,i2,i3,i4⟩:=IH.es X ct Hi τ (e::es) rs C hrs;exact no<|call_ok C ho hg hf i2 i1 hv
  | none =>
   rw[hf]at h;dsimp only at h
   split at h
   ·rename_i hb
    have hown:own ct x=true:=by
     unfold own;rw[hb,hg];rfl
    have plain:∀{es:List Expr}{r:RV},aS cd (match qT x es.length with|some f=>IE.bf f (eW n ct es)|none=>.never) τ=some r->aE X Hi τ (.Call (.Name x p) es [] pos) r:=by
     intro es r h;cases hbf:qT x es.length with
     | none=>rw[hbf]at h;exact aM h
     | some f =>
      rw[hbf]at h;simp only[cC,bu,cF,cQ,cD,cH,bx,bz,cR,cE,cG,b8,b9,bv,cS,cT,cB,cO,cA,cP]at h;obtain⟨rs,hrs,h⟩:=bind_some h;obtain⟨i1,i2,i3,i4⟩:=IH.es X ct Hi τ es rs C hrs;have one:∀a,es=[a]->aE X Hi τ (.Call (.Name x p) es [] pos) r:=by
       intro a ea;subst ea;obtain⟨ra,rfl⟩:=mi (show rs.length=1 from i3.symm);exact zg C hown hbf (i2 a (by simp)) (i4 0 a ra rfl rfl) h
      have two:∀a b,es=[a,b]->aE X Hi τ (.Call (.Name x p) es [] pos) r:=by
       intro a b ea;subst ea;obtain⟨ra,rb,rfl⟩:=rA (show rs.length=2 from i3.symm);exact zf C hown hbf (i2 a (by simp)) (i2 b (by simp)) (i4 0 a ra rfl rfl) (i4 1 b rb rfl rfl) h
      have hk:es.length=1\/es.length=2:=by
       rcases fo hbf with⟨_,z,_⟩|⟨_,z,_⟩|⟨_,z,_⟩|⟨_,z,_⟩|⟨_,z,_⟩|⟨_,z,_⟩|⟨_,z,_⟩|⟨_,z,_⟩|⟨_,z,_⟩|⟨_,z,_⟩|⟨_,z,_⟩<;>simp[z]
      rcases hk with hk|hk
      ·obtain⟨a,ha⟩:=mi hk
       exact one a ha
      ·obtain⟨a,b,ha⟩:=rA hk
       exact two a b ha
    split at h
    ·rename_i hi
     have hi:x=("isinstance":Str):=Cy hi;subst hi
     split at h
     ·rename_i a t tpos
      split at h
      ·rename_i ty hty
       split at h
       ·exact aM h
       ·rename_i hs
        have hs:=Dn.mpr hs
        split at h
        ·rename_i hot
         simp only[cC,bu,cF,cQ,cD,cH,bx,bz,cR,cE,cG,b8,b9,bv,cS,cT,cB,cO,cA,cP,o9,pB]at h;obtain⟨rs,hrs,h⟩:=bind_some h;obtain⟨ra,hra,h2⟩:=bind_some hrs;cases h2;have h:(dr ty ra.val).map (fun b=>sc (.bl b))=some r:=h;obtain⟨b,hb2,h⟩:=map_some h;subst h;exact no<|isin_ok C hown hty hot hs (IH.e X ct Hi τ a ra C hra) hb2
        ·exact aM h
      ·exact aM h
     ·exact aM h
    ·exact no<|plain h
   ·exact aM h
 ·exact aM h
theorem mthE{n:Nat}(IH:gJ cd n){X:Cx}{ct:Ct}{Hi:Hp}{τ:En}{o:Expr}{m:Str}{es:List Expr}{ap cp:Pos}{r:RV}(C:bB cd X ct)(hl:(ap.endLine==cp.line)=true)(h:aS cd (jE (n+1) ct o m es) τ=some r):aE X Hi τ (.Call (.Attribute o m ap) es [] cp) r:=by
 refine Dz fun no=> ?_;simp only[z26,z27]at h
 split at h
 ·rename_i hp
  split at h
  ·rename_i a
   split at h
   ·exact aM h
   ·rename_i hs
    have hs:=Dn.mpr hs
    split at h
    ·rename_i hm
     have hm:=Cy hm;subst hm;simp only[cC,bu,cF,cQ,cD,cH,bx,bz,cR,cE,cG,b8,b9,bv,cS,cT,cB,cO,cA,cP,o9,pB]at h;obtain⟨ro,hro,h⟩:=bind_some h;obtain⟨rs,hrs,h⟩:=bind_some h;obtain⟨ra,hra,h2⟩:=bind_some hrs;cases h2;exact no<|join_ok hp hl hs (IH.e X ct Hi τ o ro C hro) (IH.e X ct Hi τ a ra C hra) h
    ·exact aM h
  ·exact aM h
 ·exact aM h
theorem BP{n:Nat}(IH:gJ cd n){X:Cx}{ct:Ct}{Hi:Hp}{τ:En}{tp:Bool}{e tg:Expr}{xs:List PV}{k b:Bool}(C:bB cd X ct)(ht:tp=true->∃ts kk p,tg=.Tuple ts kk p)(h:lQ cd (rF (n+1) ct tp e) τ=some (xs,k,b)):kI X Hi τ tg e xs k b/\dH e=false:=by
 simp only[z2o,z2p]at h
 split at h
 ·simp[uV,uW,uU,uX,uf]at h
 rename_i hset;have hset:=Dn.mpr hset;refine⟨?_,hset⟩;have seq:lQ cd (.seq (af n ct e)) τ=some (xs,k,b)->kI X Hi τ tg e xs k b:=by
  intro h;simp only[uV,uW,uU,uX,uf]at h;obtain⟨r,hr,h⟩:=bind_some h;exact xZ (IH.e X ct Hi τ e r C hr) h
 have nv:∀{P:Prop},lQ cd .never τ=some (xs,k,b)->P:=by
  intro P h;simp[uV,uW,uU,uX,uf]at h
 split at h
 ·rename_i x es hc
  obtain⟨p,pos,rfl⟩:∃p pos,e=.Call (.Name x p) es [] pos:=by
   unfold kC at hc
   split at hc
   ·cases hc;exact⟨_,_,rfl⟩
   ·cases hc
  split at h
  ·rename_i hx
   have hx:=Cy hx;subst hx
   split at h
   ·rename_i ho
    simp only[uV,uW,uU,uX,uf]at h;obtain⟨rs,hrs,h⟩:=bind_some h;obtain⟨ys,hy,h⟩:=map_some h;cases h;obtain⟨i1,i2,i3,i4⟩:=IH.es X ct Hi τ es rs C hrs;exact xk C ho i2 i1 i3 hy
   ·exact nv h
  ·split at h
   ·rename_i hx
    have hx:=Cy hx;subst hx
    split at h
    ·rename_i a b'
     split at h
     ·exact nv h
     ·rename_i hc
      simp only[Do,not_or,Bool.not_eq_true,FR]at hc;obtain⟨⟨⟨c1,c2⟩,c3⟩,c4⟩:=hc;obtain⟨ts,kk,tpos,rfl⟩:=ht (by simpa using c3);simp only[uV,uW,uU,uX,uf]at h;obtain⟨ra,hra,h⟩:=bind_some h;obtain⟨rb,hrb,h⟩:=bind_some h;obtain⟨w,hw,h⟩:=map_some h;cases h;exact xI C (by simpa using c4) c1 c2 (IH.e X ct Hi τ _ ra C hra) (IH.e X ct Hi τ _ rb C hrb) hw
    ·exact nv h
   ·split at h
    ·rename_i hx
     have hx:=Cy hx;subst hx
     split at h
     ·rename_i a
      split at h
      ·exact nv h
      ·rename_i hc
       simp only[Do,not_or,Bool.not_eq_true,FR]at hc;obtain⟨⟨c1,c3⟩,c4⟩:=hc;obtain⟨ts,kk,tpos,rfl⟩:=ht (by simpa using c3);simp only[uV,uW,uU,uX,uf]at h;obtain⟨ra,hra,h⟩:=bind_some h;obtain⟨w,hw,h⟩:=map_some h;cases h;exact v4 C (by simpa using c4) c1 (IH.e X ct Hi τ _ ra C hra) hw
     ·exact nv h
    ·exact seq h
 ·exact seq h
theorem lcE{n:Nat}(IH:gJ cd n){X:Cx}{ct:Ct}{Hi:Hp}{τ:En}{elt:Expr}{gs:List Comprehension}{scope:Scope}{pos:Pos}{r:RV}(C:bB cd X ct)(h:aS cd (af (n+1) ct (.ListComp elt gs scope pos)) τ=some r) :
  ∃tg iter ifs N' src,gs=[⟨tg,iter,ifs,0⟩]/\bF X scope N' src/\scope.kind=.function/\(∀y∈scope.names,y.2=.cell->scope.names.lookup y.1=some .cell)/\(∀y∈scope.names,y.2=.local->scope.names.lookup y.1=some .local)/\eD X.env.scope scope=true/\dH iter=false /\
   ∀(O:List Addr)(σ:L2.St)(H:Hp)(Q:VK),aQ X.K Hi O τ σ H->(∀u H',aA H H' ->aT X.K Hi O H H' r u->Q u H')->xT X N' src scope tg ifs elt (fun σ H R=>WI X tg iter σ H R) σ H Q:=by
 refine Dz fun no=> ?_;simp only[mD,l7,lw,mC,lr,l8,mB,l6,l5,lu,lv,l9,lz]at h
 split at h
 ·rename_i t tp iter ifs
  split at h
  ·rename_i hlc
   cases hc:slots ct.N (frees scope)with
   | none=>rw[hc]at h;exact aM h
   | some caps =>
    rw[hc]at h;simp only[cC,bu,cF,cQ,cD,cH,bx,bz,cR,cE,cG,b8,b9,bv,cS,cT,cB,cO,cA,cP]at h;obtain⟨w,hw,h⟩:=bind_some h;obtain⟨xs,n',b⟩:=w;dsimp only at h
    split at h
    ·rename_i hz
     obtain⟨w2,hw2,h⟩:=map_some h;obtain⟨VS,NN⟩:=w2;subst h;obtain⟨ig,hset⟩:=IH.t X ct Hi τ false iter (.Name t tp) xs n' b C (fun z=>by cases z) hw;obtain⟨g1,g2,g3,g4,g5,g6,g7⟩:=fB hlc;obtain⟨q1,q2,q3⟩:=vq (elt:=elt) (ifs:=ifs) C hlc hc hset ig hz (fun X' τ' k C' hk=>by
      split at hk
      ·simp only[AH,AG]at hk
       cases hk;exact⟨_,kl,fun O σ H Q R q=>q H (aA.refl _)⟩
      ·rename_i c
       simp only[AH,AG]at hk;exact⟨_,sC iq,fun O σ H Q R q=>IH.c X' _ Hi τ' _ k C' hk O σ H Q R q⟩
      ·simp[AH,AG,uY,ua,uk,uZ,cC,bu,cF,cQ,cD,cH,bx,bz,cR,cE,cG,b8,b9,bv,cS,cT,cB,cO,cA,cP]at hk) (fun X' τ' r' C' hr' =>IH.e X' _ Hi τ' elt r' C' hr') hw2
     exact no<|⟨.Name t tp,iter,ifs,_,_,rfl,q1,g1,g2,g3,q2,hset,q3⟩
    ·cases h
  ·exact aM h
 ·exact aM h
theorem expE{n:Nat}(IH:gJ cd n){X:Cx}{ct:Ct}{Hi:Hp}{τ:En}{e:Expr}{r:RV}(C:bB cd X ct)(h:aS cd (af (n+1) ct e) τ=some r):aE X Hi τ e r:=by
 cases e with
 | Constant c k pos=>simp only[mD,l7,lw,mC,lr,l8,mB,l6,l5,lu,lv,l9,lz]at h;exact tq h
 | Name x pos=>simp only[mD,l7,lw,mC,lr,l8,mB,l6,l5,lu,lv,l9,lz]at h;exact vc C h
 | BinOp a op b pos =>
  simp only[mD,l7,lw,mC,lr,l8,mB,l6,l5,lu,lv,l9,lz,cC,bu,cF,cQ,cD,cH,bx,bz,cR,cE,cG,b8,b9,bv,cS,cT,cB,cO,cA,cP]at h;obtain⟨x,hx,h⟩:=bind_some h;obtain⟨y,hy,h⟩:=bind_some h;exact uH (IH.e X ct Hi τ a x C hx) (IH.e X ct Hi τ b y C hy) h
 | UnaryOp op a pos =>
  simp only[mD,l7,lw,mC,lr,l8,mB,l6,l5,lu,lv,l9,lz]at h;cases op with
  | USub =>
   simp only[cC,bu,cF,cQ,cD,cH,bx,bz,cR,cE,cG,b8,b9,bv,cS,cT,cB,cO,cA,cP]at h;obtain⟨x,hx,h⟩:=bind_some h;obtain⟨i,hi,h⟩:=map_some h;subst h;exact ya (IH.e X ct Hi τ a x C hx) (tG hi)
  | Not =>
   simp only[cC,bu,cF,cQ,cD,cH,bx,bz,cR,cE,cG,b8,b9,bv,cS,cT,cB,cO,cA,cP]at h;obtain⟨x,hx,h⟩:=bind_some h;obtain⟨i,hi,h⟩:=map_some h;subst h;exact yY (IH.e X ct Hi τ a x C hx) (fk hi)
  | _=>exact aM h
 | Compare a ops cs pos =>
  obtain⟨t,_,h1,_⟩:=Bs IH (Hi:=Hi) C h;exact h1
 | BoolOp op vs pos =>
  simp only[mD,l7,lw,mC,lr,l8,mB,l6,l5,lu,lv,l9,lz]at h
  split at h
  ·exact aM h
  ·exact lO (fun e r h=>IH.e X ct Hi τ e r C h) h
 | IfExp c a b pos =>
  simp only[mD,l7,lw,mC,lr,l8,mB,l6,l5,lu,lv,l9,lz,cC,bu,cF,cQ,cD,cH,bx,bz,cR,cE,cG,b8,b9,bv,cS,cT,cB,cO,cA,cP]at h;obtain⟨t,ht,h⟩:=bind_some h;refine yp (IH.c X ct Hi τ c t C ht) ?_;cases t with
  | true=>exact IH.e X ct Hi τ a r C h
  | false=>exact IH.e X ct Hi τ b r C h
 | List es pos =>
  simp only[mD,l7,lw,mC,lr,l8,mB,l6,l5,lu,lv,l9,lz,cC,bu,cF,cQ,cD,cH,bx,bz,cR,cE,cG,b8,b9,bv,cS,cT,cB,cO,cA,cP]at h;obtain⟨rs,hrs,h⟩:=bind_some h;obtain⟨w,hw,h⟩:=bind_some h;obtain⟨vs,n'⟩:=w;exact ye (IH.es X ct Hi τ es rs C hrs).1 hw h
 | Tuple es k pos =>
  simp only[mD,l7,lw,mC,lr,l8,mB,l6,l5,lu,lv,l9,lz,cC,bu,cF,cQ,cD,cH,bx,bz,cR,cE,cG,b8,b9,bv,cS,cT,cB,cO,cA,cP]at h;obtain⟨rs,hrs,h⟩:=bind_some h;obtain⟨w,hw,h⟩:=bind_some h;obtain⟨vs,n'⟩:=w;exact xL (IH.es X ct Hi τ es rs C hrs).1 hw h
 | Subscript a i pos =>
  simp only[mD,l7,lw,mC,lr,l8,mB,l6,l5,lu,lv,l9,lz]at h
  split at h
  ·rename_i lo hi st sp
   cases st with
   | none =>
    simp only[cC,bu,cF,cQ,cD,cH,bx,bz,cR,cE,cG,b8,b9,bv,cS,cT,cB,cO,cA,cP]at h;obtain⟨x,hx,h⟩:=bind_some h;obtain⟨l,hl,h⟩:=bind_some h;obtain⟨u,hu,h⟩:=bind_some h;obtain⟨l',hl',h⟩:=bind_some h;obtain⟨u',hu',h⟩:=bind_some h;exact rT (IH.e X ct Hi τ a x C hx) (IH.o X ct Hi τ lo l l' C hl hl') (IH.o X ct Hi τ hi u u' C hu hu') h
   | some st=>exact aM h
  ·rename_i hns
   simp only[cC,bu,cF,cQ,cD,cH,bx,bz,cR,cE,cG,b8,b9,bv,cS,cT,cB,cO,cA,cP]at h;obtain⟨x,hx,h⟩:=bind_some h;obtain⟨y,hy,h⟩:=bind_some h;refine tJ C.un ?_ (IH.e X ct Hi τ a x C hx) (IH.e X ct Hi τ i y C hy) h;cases i<;>first|rfl|(exfalso;exact hns _ _ _ _ rfl)
 | Call f es ks cp =>
  simp only[mD,l7,lw,mC,lr,l8,mB,l6,l5,lu,lv,l9,lz]at h;cases ks with
  | nil =>
   dsimp only at h;cases f with
   | Name x p=>exact IH.call X ct Hi τ x es p cp r C h
   | Attribute o m ap =>
    dsimp only at h
    split at h
    ·rename_i hl
     exact IH.mth X ct Hi τ o m es ap cp r C hl h
    ·exact aM h
   | _=>exact aM h
  | cons k ks=>exact aM h
 | ListComp elt gs scope pos =>
  obtain⟨tg,iter,ifs,N',src,rfl,h1,h2,h3,h4,h5,h6,h7⟩:=lcE IH (Hi:=Hi) C h;intro O σ H Q R q;exact we (sO C.calm md h1 h2 h3 h4 h5 (cv h6)) (h7 O σ H Q R q)
 | _=>(try simp only[mD,l7,lw,mC,lr,l8,mB,l6,l5,lu,lv,l9,lz]at h);exact aM h
theorem tstE{n:Nat}(IH:gJ cd n){X:Cx}{ct:Ct}{Hi:Hp}{τ:En}{e:Expr}{b:Bool}(C:bB cd X ct)(h:dw cd (jX (n+1) ct e) τ=some b):de X Hi τ e b:=by
 have plain:∀{e:Expr},dw cd (.val (af n ct e)) τ=some b->(∀whole,isTrue e X.env whole=(do let v<-whole;standAt e.pos;holding [v] (truthy v)))->de X Hi τ e b:=by
  intro e h hp;simp only[uY,ua,uk,uZ]at h;obtain⟨x,hx,h⟩:=bind_some h;exact xJ (IH.e X ct Hi τ e x C hx) h hp
 cases e with
 | UnaryOp op a p =>
  simp only[AV,AS,AU,AT]at h;cases op with
  | Not =>
   simp only[uY,ua,uk,uZ]at h;obtain⟨t,ht,h⟩:=map_some h;subst h;exact yX (IH.c X ct Hi τ a t C ht)
  | _=>exact plain h fun _=>rfl
 | BoolOp op vs p =>
  simp only[AV,AS,AU,AT]at h;exact(lN (fun e b h=>IH.c X ct Hi τ e b C h) h).tc
 | IfExp c a b' p =>
  simp[AV,AS,AU,AT,uY,ua,uk,uZ,cC,bu,cF,cQ,cD,cH,bx,bz,cR,cE,cG,b8,b9,bv,cS,cT,cB,cO,cA,cP]at h
 | Compare a ops cs pos =>
  have h:dw cd (.val (af n ct (.Compare a ops cs pos))) τ=some _:=h;simp only[uY,ua,uk,uZ]at h;obtain⟨x,hx,h⟩:=bind_some h;obtain⟨t,rfl,ht⟩:=IH.cm X ct Hi τ a ops cs pos x C hx;cases h;exact ht
 | _=>(try simp only[AV,AS,AU,AT]at h);exact plain h fun _=>rfl
theorem bM:∀n:Nat,gJ cd n
 | 0=>by
  refine⟨fun X ct Hi τ e r C h=> ?_,fun X ct Hi τ a ops cs pos r C h=> ?_,fun X ct Hi τ es rs C h=> ?_,fun X ct Hi τ e o i C h=> ?_,fun X ct Hi τ e b C h=> ?_,fun X ct Hi τ x es p pos r C h=> ?_,fun X ct Hi τ o m es ap cp r C hl h=> ?_,fun X ct Hi τ tp e tg xs k b C ht h=> ?_⟩
  ·simp[mD,l7,lw,mC,lr,l8,mB,l6,l5,lu,lv,l9,lz,cC,bu,cF,cQ,cD,cH,bx,bz,cR,cE,cG,b8,b9,bv,cS,cT,cB,cO,cA,cP]at h
  ·simp[mD,l7,lw,mC,lr,l8,mB,l6,l5,lu,lv,l9,lz,cC,bu,cF,cQ,cD,cH,bx,bz,cR,cE,cG,b8,b9,bv,cS,cT,cB,cO,cA,cP]at h
  ·simp[z24,z25,o9,pB,cC,bu,cF,cQ,cD,cH,bx,bz,cR,cE,cG,b8,b9,bv,cS,cT,cB,cO,cA,cP]at h
  ·simp[z28,z29,z2a,z0s,z0t,cC,bu,cF,cQ,cD,cH,bx,bz,cR,cE,cG,b8,b9,bv,cS,cT,cB,cO,cA,cP]at h
  ·simp[AV,AS,AU,AT,uY,ua,uk,uZ,cC,bu,cF,cQ,cD,cH,bx,bz,cR,cE,cG,b8,b9,bv,cS,cT,cB,cO,cA,cP]at h
  ·simp[z1l,z1m,cC,bu,cF,cQ,cD,cH,bx,bz,cR,cE,cG,b8,b9,bv,cS,cT,cB,cO,cA,cP]at h
  ·simp[z26,z27,cC,bu,cF,cQ,cD,cH,bx,bz,cR,cE,cG,b8,b9,bv,cS,cT,cB,cO,cA,cP]at h
  ·simp[z2o,z2p,uV,uW,uU,uX,uf]at h
 | n+1=>by
  have IH:=bM n;refine⟨fun X ct Hi τ e r C h=>expE IH C h,fun X ct Hi τ a ops cs pos r C h=> ?_,fun X ct Hi τ es rs C h=> ?_,fun X ct Hi τ e o i C h hi=> ?_,fun X ct Hi τ e b C h=>tstE IH C h,fun X ct Hi τ x es p pos r C h=>Bw IH C h,fun X ct Hi τ o m es ap cp r C hl h=>mthE IH C hl h,fun X ct Hi τ tp e tg xs k b C ht h=>BP IH C ht h⟩
  ·obtain⟨t,h1,_,h2⟩:=Bs IH (Hi:=Hi) C h
   exact⟨t,h1,h2⟩
  ·simp only[z24,z25]at h
   exact oM (fun e r h=>IH.e X ct Hi τ e r C h) h
  ·cases e with
   | none =>
    simp only[z28,z29,z2a,z0s,z0t]at h;cases h;cases hi;exact True.intro
   | some e =>
    simp only[z28,z29,z2a,z0s,z0t]at h;obtain⟨r,hr,h⟩:=map_some h;subst h;simp only[lG]at hi
    split at hi
    ·rename_i j ej
     cases hi;exact⟨r,IH.e X ct Hi τ e r C hr,ej⟩
    ·cases hi
end
end IR
namespace L2
open PySem PySem.Spec PyProof.Rows
section
variable{X:Cx}{pins:List (Addr×Obj)}{σ:St}{H:Hp}{s:Shared}
theorem ki{xn:Str}{ix:Nat}{xpos apos:Pos}{elt target iter:Expr}{ifs:List Expr}{scope:Scope}{pos:Pos}{N' :List Str}{src:List (Option Nat)}{wi:TI}(hc:X.calm=true)(hi:PI X target iter wi)(hsrc:bF X scope N' src)
  (hkind:scope.kind=.function) (hcell:∀y∈scope.names,y.2=.cell->scope.names.lookup y.1=some .cell) (hnames:∀y∈scope.names,y.2=.local->scope.names.lookup y.1=some .local)
  (hfr:eD X.env.scope scope=true)
  (hs:∀x,foldedSetIterable iter X.env x=pure x) (hN:X.N.Nodup) (hix:X.N[ix]? =some xn) (hxl:Loc X.env.scope xn) (hf:X.fn xn=true\/X.env.scope.names.lookup xn=some .local)
  (hsw:swapsWith (.ListComp elt [⟨target,iter,ifs,0⟩] scope pos) (some (.Name xn xpos)) apos.line X.env=pure true) :
  PS X (.Assign [.Name xn xpos] (.ListComp elt [⟨target,iter,ifs,0⟩] scope pos) apos) (xV (xT X N' src scope target ifs elt wi) (lK ix)):=by
 intro pins s σ H D0 I h;rw[exec_Assign_Name_used xn xpos _ apos hsw];refine CJ (wpAny_standAt (CJ ?_));show wpAny (model X.prog X.w) X.A (comprehension (.ListComp elt [⟨target,iter,ifs,0⟩] scope pos) scope X.env _ (newList []) false _ (some (assign (.Name xn xpos) X.env)) >>= fun _=>pure ()) _ _ _;refine CJ (aq (Q:=fun _ s' =>SP X pins D0 .next s') ?_ fun _ s9 h9=>Ce (Ce h9));refine oQ (use:=some (assign (.Name xn xpos) X.env)) hc hi hsrc hkind hcell hnames hfr hs I h fun C a' s2 s4 H2 H3 fp cl m I2 f2 below hCle I4 hn qn _=> ?_;have u4:Un (nE X.stack) fp H2 H3 s2.heap s4.heap:=I4.base;have IX:Inv X pins σ H3 s4:=I2.call' (s' :=s4) (ch:=fp) I4.os u4 I4.hok I4.bare fun b hb=>⟨(f2 b hb).2.2.2.1,(f2 b hb).2.1,(f2 b hb).2.2.2.2.1,(f2 b hb).2.2.2.2.2⟩;have hC3:H3 C=none:=I4.free;refine wpAny_assign_Name (jG IX hN hix hxl (v:=.ref a') rfl (fun s5 I5 ⟨a,sb,ha⟩=> ?_) hf);have ane:C≠a:=by
  rcases ha with rfl|ha
  ·exact(below _ I2.lt).symm
  ·obtain⟨v,qc⟩:=I2.cell _ _ ha
   exact(below _ qc.lt).symm
 refine⟨m,?_,fun h' hs' => ?_⟩
 ·obtain⟨ob,es,ep,ho,rr⟩:=hn
  exact⟨ob,es,ep,(sb.2 _ ane).trans ho,rr⟩
 ·refine⟨_,H3,I5.turned (t' :=s5.toks) (it:=C) (fun b o ne e=>(hs'.2 b ne).trans e) hC3 (below _ I2.lt).symm (.inr (DF I2.sz hCle)) (fun x c e=> ?_) (fun p hp=> ?_),qn⟩
  ·obtain⟨v,qc⟩:=I2.cell x c e
   exact below _ qc.lt
  ·exact below _ (CU (I2.pin p hp).1)
end
end L2
namespace IR
open PySem PySem.Spec PyProof.Rows L2
section
variable{X:Cx}{Hi:Hp}{τ:En}{cd:Nat->List PV->Option PV}{ct:Ct}
noncomputable abbrev WS(X:Cx)(st:Stmt)(D:dh)(σ:L2.St)(H:Hp):Prop:=∀(pins:List (Addr×Obj))(s:Shared),Inv X pins σ H s->wpAny (model X.prog X.w) X.A (exec st X.env) (SP X pins D) X.xe s
noncomputable abbrev wT(X:Cx)(st:List Stmt)(D:dh)(σ:L2.St)(H:Hp):Prop:=∀(pins:List (Addr×Obj))(s:Shared),Inv X pins σ H s->wpAny (model X.prog X.w) X.A (execs st X.env) (SP X pins D) X.xe s
theorem gM{st:Stmt}:PS X st (fun D σ H=>WS X st D σ H):=fun pins s σ H D I h=>h pins s I
theorem bX{st:List Stmt}:nt X st (fun D σ H=>wT X st D σ H):=fun pins s σ H D I h=>h pins s I
theorem ws{st:Stmt}{t:TS}{σ:L2.St}{H:Hp}{D:dh}(h:PS X st t)(q:t D σ H):WS X st D σ H:=fun pins s I=>h pins s σ H D I q
theorem n6{st:List Stmt}{t:TS}{σ:L2.St}{H:Hp}{D:dh}(h:nt X st t)(q:t D σ H):wT X st D σ H:=fun pins s I=>h pins s σ H D I q
variable(X Hi)in
noncomputable def lq(O:List Addr)(H:Hp)(τ' :En)(P:L2.St->Hp->Prop):Prop:=∀(σ' :L2.St)(H' :Hp)(O' :List Addr),aQ X.K Hi O' τ' σ' H' ->σ'.length=X.N.length->aA (aI H O) (aI H' O')->P σ' H'
variable(X Hi)in
noncomputable def uP(fl:Fl)(O:List Addr)(H:Hp)(D:dh):Prop:=match fl with
 | .nx τ' =>lq X Hi O H τ' D.nx
 | .bk τ' =>lq X Hi O H τ' D.bk
 | .ct τ' =>lq X Hi O H τ' D.ct
 | .rt v=>∀u H',aA Hi H' ->Rp X.K Hi true v H' u->D.rt u H'
variable(X Hi τ)in
noncomputable def ic(st:Stmt)(fl:Fl):Prop:=∀(O:List Addr)(σ:L2.St)(H:Hp)(D:dh),aQ X.K Hi O τ σ H->σ.length=X.N.length->uP X Hi fl O H D->WS X st D σ H
variable(X Hi τ)in
noncomputable def qW(st:List Stmt)(fl:Fl):Prop:=∀(O:List Addr)(σ:L2.St)(H:Hp)(D:dh),aQ X.K Hi O τ σ H->σ.length=X.N.length->uP X Hi fl O H D->wT X st D σ H
theorem lq.from{O O' :List Addr}{H H' :Hp}{τ' :En}{P:L2.St->Hp->Prop}(h:lq X Hi O H τ' P)(s:aA (aI H O) (aI H' O')):lq X Hi O' H' τ' P:=fun σ2 H2 O2 R hl s2=>h σ2 H2 O2 R hl (s.trans s2)
theorem uP.from{O O' :List Addr}{H H' :Hp}{fl:Fl}{D:dh}(h:uP X Hi fl O H D)(s:aA (aI H O) (aI H' O')):uP X Hi fl O' H' D:=by
 cases fl with
 | nx τ' =>exact lq.from (show lq X Hi O H τ' D.nx from h) s
 | bk τ' =>exact lq.from (show lq X Hi O H τ' D.bk from h) s
 | ct τ' =>exact lq.from (show lq X Hi O H τ' D.ct from h) s
 | rt v=>exact h
theorem cx(C:bB cd X ct){x:Str}{i:Nat}(h:loc ct x=some i):X.N[i]? =some x/\L2.Loc X.env.scope x/\qa x=false/\AW ct.S x=true:=by
 unfold loc at h
 split at h
 ·rename_i c
  rw[CK]at c;refine⟨by rw[C.N];exact di h,?_,by simpa using c.2,?_⟩
  ·unfold L2.Loc
   rw[C.S]
   simpa using c.1
  ·unfold AW
   have:=c.1;simp only[Do]at this ⊢;exact .inl this
 ·cases h
theorem j4{cap:List Nat}{O:List Addr}{σ:L2.St}{H:Hp}(R:aQ X.K Hi O τ σ H):∃O',aQ X.K Hi O' (bE cap τ) σ H/\aA (aI H O) (aI H O'):=by
 obtain⟨O',R',h⟩:=R.freezes (cap:=cap);exact⟨O',R',j0 h⟩
theorem xt{o:Bool}{i:Nat}{r:RV}{τ' :En}{O:List Addr}{σ:L2.St}{H H' :Hp}{u:V}(R:aQ X.K Hi O τ σ H)(s:aA H H')(hi:i<σ.length)(ok:aT X.K Hi O H H' r u)(h:jm o i r τ=some τ') :
  ∃O',aQ X.K Hi O' τ' (σ.set i (some u)) H' /\aA (aI H O) (aI H' O'):=by
 unfold jm at h
 split at h
 ·rename_i xs n
  cases h;obtain⟨p,us,rfl,h0,h1,r1⟩:=ok;have hs:aA (aI (del H' p) O) (aI H' (p::O)):=fun b o e=>by
   unfold aI del at e;unfold aI
   split at e
   ·cases e
   ·rename_i nb
    split at e
    ·cases e
    ·rename_i np
     rw[CM (by simp[np,nb])];exact e
  refine⟨p::O,R.setO hi s h0 h1 (r1.mono hs),fun b o e=> ?_⟩;unfold aI at e ⊢
  split at e
  ·cases e
  ·rename_i nb
   have ne:b≠p:=aP e h0;rw[CM (by simp[ne,nb])];exact s b o e
 ·rename_i b xs n
  cases h;obtain⟨p,us,o,rfl,h0,h1,ha,r1⟩:=ok;have hs:aA (aI (del H' p) O) (aI H' (p::O)):=fun b o e=>by
   unfold aI del at e;unfold aI
   split at e
   ·cases e
   ·rename_i nb
    split at e
    ·cases e
    ·rename_i np
     rw[CM (by simp[np,nb])];exact e
  refine⟨p::O,R.setB rfl hi s h0 h1 ha (r1.mono hs),fun b o e=> ?_⟩;unfold aI at e ⊢
  split at e
  ·cases e
  ·rename_i nb
   have ne:b≠p:=aP e h0;rw[CM (by simp[ne,nb])];exact s b o e
 ·obtain⟨w,hw,h⟩:=map_some h
  obtain⟨v,n⟩:=w;subst h;exact⟨O,(R.ext s).setF hi (ok.keep R s hw),aC s⟩
theorem sZ{e:Expr}{x:Str}{p:Pos}{l:Nat}{env:Env}(h:nB e=false\/env.kindOf x≠some .local):swapsWith e (some (.Name x p)) l env=pure false:=by
 rcases h with h|h
 ·cases e<;>first|rfl|cases h
 ·have hk:(env.kindOf x==some NameKind.local)=false:=by simpa using h
  cases e<;>first|rfl|(show(pure (_&&(env.kindOf x==some NameKind.local)&&_&&_):Sem Bool)=pure false;rw[hk,Bool.and_false,FH,FH])
theorem zi(C:bB cd X ct)(hfn:X.fn=fun _=>true){n:Nat}{x:Str}{i:Nat}{o:Bool}{cap:List Nat}{e:Expr}{xp pos:Pos}{r:RV}{τ' :En}(hx:loc ct x=some i)(hr:aS cd (af n ct e) (bE cap τ)=some r)(hp:jm o i r (bE cap τ)=some τ') :
  ic X Hi τ (.Assign [.Name x xp] e pos) (.nx τ'):=by
 intro O σ H D R hl q;obtain⟨h1,h2,h3,h4⟩:=cx C hx;obtain⟨O1,R1,s1⟩:=j4 (cap:=cap) R;have he:=(bM n).e X ct Hi (bE cap τ) e r C hr;have hi:i<σ.length:=by rw[hl];exact(CY.mp h1).1
 have hN:X.N.Nodup:=by rw[C.N];exact C.nd
 have fin:∀u H',aA H H' ->aT X.K Hi O1 H H' r u->D.nx (σ.set i (some u)) H' :=fun u H' s ok=>by
  obtain⟨O2,R2,s2⟩:=xt R1 s hi ok hp;exact q _ _ O2 R2 (by rw[Dg];exact hl) (s1.trans s2)
 by_cases hc:nB e=false\/X.env.kindOf x≠some .local
 ·refine ws (fU hN h1 h2 aU (sZ hc) (.inl (by rw[hfn]))) ?_
  exact he O1 σ H _ R1 fin
 ·rw[not_or]at hc
  obtain⟨c1,c2⟩:=hc;have c2:X.env.kindOf x=some .local:=Classical.not_not.mp c2;cases e with
  | ListComp elt gs scope lp =>
   cases n with
   | zero=>simp[mD,l7,lw,mC,lr,l8,mB,l6,l5,lu,lv,l9,lz,cC,bu,cF,cQ,cD,cH,bx,bz,cR,cE,cG,b8,b9,bv,cS,cT,cB,cO,cA,cP]at hr
   | succ n =>
    obtain⟨tg,iter,ifs,N',src,rfl,g1,g2,g3,g4,g5,g6,g7⟩:=lcE (bM n) (Hi:=Hi) C hr;obtain⟨b,hb⟩:∃b,swapsWith (.ListComp elt [⟨tg,iter,ifs,0⟩] scope lp) (some (.Name x xp)) pos.line X.env=pure b:=⟨_,rfl⟩;cases b with
    | true=>exact ws (ki C.calm md g1 g2 g3 g4 g5 (cv g6) hN h1 h2 (.inl (by rw[hfn])) hb) (g7 O1 σ H _ R1 fin)
    | false=>exact ws (fU hN h1 h2 aU hb (.inl (by rw[hfn]))) (he O1 σ H _ R1 fin)
  | SetComp a b c d=>exact aM (by cases n<;>exact hr)
  | DictComp a b c d e=>exact aM (by cases n<;>exact hr)
  | _=>exact absurd rfl c1
theorem xm(C:bB cd X ct){n:Nat}{cap:List Nat}{e:Expr}{pos:Pos}{r:RV}{v:PV}(hr:aS cd (af n ct e) (bE cap τ)=some r)(hk:r.keep=some (v,true)):ic X Hi τ (.Return (some e) pos) (.rt v):=by
 intro O σ H D R hl q;obtain⟨O1,R1,s1⟩:=j4 (cap:=cap) R;refine ws (mX aU) ?_;exact(bM n).e X ct Hi _ e r C hr O1 σ H _ R1 fun u H' s ok=>q u H' (R.same.trans s) ((ok.keep R1 s hk).mono aO)
theorem vE{pos:Pos}:ic X Hi τ (.Return none pos) (.rt .non):=by
 intro O σ H D R hl q;exact ws vK (q _ _ R.same (Rp.non.mpr rfl))
theorem yw{c:Expr}{a b:List Stmt}{pos:Pos}{t:Bool}{fl:Fl}(hc:de X Hi τ c t)(h:qW X Hi τ (if t=true then a else b) fl):ic X Hi τ (.If c a b pos) fl:=by
 intro O σ H D R hl q;refine ws (rn iq bX bX) ?_;refine hc O σ H _ R fun H1 s1=> ?_;cases t with
 | true=>exact mz ((show qW X Hi τ a fl from h) O σ H1 _ (R.ext s1) hl (q.from (aC s1)))
 | false=>exact ju ((show qW X Hi τ b fl from h) O σ H1 _ (R.ext s1) hl (q.from (aC s1)))
theorem oO(C:bB cd X ct)(hfn:X.fn=fun _=>true):∀{es:List Expr}{is:List Nat},locs ct es=some is->∃t,B9 X es t/\(assignEach es X.env).length=is.length/\(assignEach es X.env).findIdx? (·.1)=none /\
  ∀(O:List Addr)(τ τ' :En)(σ:L2.St)(H:Hp)(n:Bool)(xs:List PV)(us:List V)(Q:L2.St->Hp->Prop),aQ X.K Hi O τ σ H->σ.length=X.N.length->aD X.K Hi n xs (aI H O) us->cU n is xs τ=some τ' ->
   (∀σ',aQ X.K Hi O τ' σ' H->σ'.length=X.N.length->Q σ' H)->t us σ H Q
 | [],is,h=>by
  cases h;refine⟨_,vQ,rfl,rfl,fun O τ τ' σ H n xs us Q R hl r e q=> ?_⟩;cases xs with
  | nil =>
   unfold aD at r;subst r;cases e;exact⟨rfl,q σ R hl⟩
  | cons x xs=>cases e
 | .Name x p::es,is,h=>by
  have h:(loc ct x).bind (fun i=>(locs ct es).map (i::·))=some is:=h;obtain⟨i,hi,h⟩:=bind_some h;obtain⟨js,hj,h⟩:=map_some h;subst h;obtain⟨h1,h2,h3,h4⟩:=cx C hi;obtain⟨t,pt,hlen,hf,k⟩:=oO C hfn hj;refine⟨_,sL (dk (by rw[C.N];exact C.nd) h1 h2 (.inl (by rw[hfn]))) pt rfl,?_,?_,fun O τ τ' σ H n xs us Q R hl r e q=> ?_⟩
  ·show(assignEach es X.env).length+1=_
   rw[hlen];rfl
  ·show List.findIdx? (·.1) ((false,assign (.Name x p) X.env)::assignEach es X.env)=none
   rw[List.findIdx?_cons,hf];rfl
  ·cases xs with
   | nil=>cases e
   | cons y ys =>
    unfold aD at r;obtain⟨u,vs,rfl,a,b⟩:=r;have hi' :i<σ.length:=by rw[hl];exact(CY.mp h1).1
    exact⟨u,vs,rfl,k O _ τ' _ H n ys vs Q (R.setF hi' a.up) (by rw[Dg];exact hl) b e q⟩
 | .BoolOp .. ::_,_,h=>by cases h
 | .NamedExpr .. ::_,_,h=>by cases h
 | .BinOp .. ::_,_,h=>by cases h
 | .UnaryOp .. ::_,_,h=>by cases h
 | .Lambda .. ::_,_,h=>by cases h
 | .IfExp .. ::_,_,h=>by cases h
 | .Dict .. ::_,_,h=>by cases h
 | .Set .. ::_,_,h=>by cases h
 | .ListComp .. ::_,_,h=>by cases h
 | .SetComp .. ::_,_,h=>by cases h
 | .DictComp .. ::_,_,h=>by cases h
 | .GeneratorExp .. ::_,_,h=>by cases h
 | .Await .. ::_,_,h=>by cases h
 | .Yield .. ::_,_,h=>by cases h
 | .YieldFrom .. ::_,_,h=>by cases h
 | .Compare .. ::_,_,h=>by cases h
 | .Call .. ::_,_,h=>by cases h
 | .FormattedValue .. ::_,_,h=>by cases h
 | .JoinedStr .. ::_,_,h=>by cases h
 | .Constant .. ::_,_,h=>by cases h
 | .Attribute .. ::_,_,h=>by cases h
 | .Subscript .. ::_,_,h=>by cases h
 | .Starred .. ::_,_,h=>by cases h
 | .List .. ::_,_,h=>by cases h
 | .Tuple .. ::_,_,h=>by cases h
 | .Slice .. ::_,_,h=>by cases h
theorem AX(C:bB cd X ct)(hfn:X.fn=fun _=>true){tg:Expr}{is:List Nat}{one:Bool}(h:rE ct tg=some (is,one)):(one=false->∃ts k p,tg=.Tuple ts k p)/\∃g,PG X tg g /\
  ∀(O:List Addr)(τ τ' :En)(σ:L2.St)(H:Hp)(n:Bool)(x:PV)(u:V)(Q:L2.St->Hp->Prop),aQ X.K Hi O τ σ H->σ.length=X.N.length->Rp X.K Hi n x (aI H O) u->jf is one n x τ=some τ' ->
   (∀σ',aQ X.K Hi O τ' σ' H->σ'.length=X.N.length->Q σ' H)->g u σ H Q:=by
 cases tg with
 | Name x p =>
  obtain⟨i,hi,h⟩:=map_some (show(loc ct x).map (fun i=>([i],true))=some (is,one)from h);cases h;obtain⟨h1,h2,h3,h4⟩:=cx C hi;refine⟨fun z=>(by cases z),_,dk (by rw[C.N];exact C.nd) h1 h2 (.inl (by rw[hfn])),fun O τ τ' σ H n x u Q R hl r e q=> ?_⟩;have e:some (τ.set i (.frz x (n||imm x)))=some τ' :=e;cases e;have hi' :i<σ.length:=by rw[hl];exact(CY.mp h1).1
  exact q _ (R.setF hi' r.up) (by rw[Dg];exact hl)
 | Tuple es k p =>
  obtain⟨js,hj,h⟩:=map_some (show(locs ct es).map (fun is=>(is,false))=some (is,one)from h);cases h;obtain⟨t,pt,hlen,hf,kk⟩:=oO (Hi:=Hi) C hfn hj;refine⟨fun _=>⟨_,_,_,rfl⟩,_,yE C.calm pt hlen hf,fun O τ τ' σ H n x u Q R hl r e q=> ?_⟩;cases x with
  | tup xs =>
   obtain⟨a,us,rfl,l,r2⟩:=Rp.tup.mp r;have e:cU n is xs τ=some τ' :=e;have hz:∀{is:List Nat}{xs:List PV}{τ τ' :En},cU n is xs τ=some τ' ->xs.length=is.length:=by
    intro is
    induction is with
    | nil=>intro xs τ τ' e;cases xs with
     | nil=>rfl
     | cons _ _=>cases e
    | cons i is ih=>intro xs τ τ' e;cases xs with
     | nil=>cases e
     | cons x xs=>rw[Cv,Cv,ih (show cU n is xs _=some τ' from e)]
   exact⟨a,us,rfl,(aO (O:=O)).tup l,by rw[<- r2.len];exact hz e,kk O τ τ' σ H n xs us Q R hl r2 e q⟩
  | _=>cases e
 | _=>cases h
theorem zC(C:bB cd X ct)(hfn:X.fn=fun _=>true){tg it:Expr}{is:List Nat}{one:Bool}{cap:List Nat}{n:Nat}{body:List Stmt}{pos:Pos}{xs:List PV}{k:Bool}{bd:En->Option Fl}{fl:Fl}(ht:rE ct tg=some (is,one))
  (hi:lQ cd (rF n ct (!one) it) (bE cap τ)=some (xs,k,false)) (hb:∀τ fl,bd τ=some fl->qW X Hi τ body fl) (h:iQ (jf is one k) bd xs (bE cap τ)=some fl):ic X Hi τ (.For tg it body [] pos) fl:=by
 intro O σ H D R hl q;obtain⟨O1,R1,s1⟩:=j4 (cap:=cap) R;obtain⟨htp,g,pg,kg⟩:=AX (Hi:=Hi) C hfn ht;obtain⟨ig,hset⟩:=(bM n).t X ct Hi (bE cap τ) (!one) it tg xs k false C (fun z=>htp (by simpa using z)) hi;refine ws (mY C.xe C.calm md pg bX (cv hset)) ?_;refine ig O1 σ H _ R1 fun J H1 sJ En=> ?_;rw[CM CT]at En;have s2:aA (aI H O) (aI H1 O1):=s1.trans (aC sJ);refine⟨fun i m σ' G=>m=xs.length-i/\i<=xs.length/\∃(P:List Addr)(υ:IR.En),aQ X.K Hi P υ σ' G/\σ'.length=X.N.length/\aA (aI H1 O1) (aI G P)/\iQ (jf is one k) bd (xs.drop i) υ=some fl,⟨xs.length,by simp,DG _,O1,_,R1.ext sJ,hl,aA.refl _,h⟩,?_⟩;rintro i m σ' G ⟨rfl,hi',P,υ,RP,hlP,sP,hrun⟩;have wr:ud (aI H1 O1) G P:=⟨RP.lsts,sP⟩
 by_cases hlt:i<xs.length
 ·refine .inr ⟨En.go G P i wr hlt,fun σ2 G2=>∃m',m' <xs.length-i/\(m' =xs.length-(i+1)/\i+1<=xs.length/\∃(P:List Addr)(υ:IR.En),aQ X.K Hi P υ σ2 G2/\σ2.length=X.N.length/\aA (aI H1 O1) (aI G2 P)/\iQ (jf is one k) bd (xs.drop (i+1)) υ=some fl),
   fun σ2 G2 h=>h,fun u G' y=> ?_⟩
  obtain⟨sG,x,hx,rx⟩:=En.yld G P i u G' wr hlt y;have hd:xs.drop i=x::xs.drop (i+1):=by
   rw[DU hlt];rw[CW hlt]at hx;rw[Cq hx]
  rw[hd]at hrun;unfold iQ at hrun;obtain⟨υ1,h1,hrun⟩:=bind_some hrun;obtain⟨f,hf,hrun⟩:=bind_some hrun;refine kg P υ υ1 σ' G' k x u _ (RP.ext sG) hlP rx h1 fun σ1 R2 hl1=> ?_;have s3:aA (aI H1 O1) (aI G' P):=sP.trans (aC sG);refine hb υ1 f hf P σ1 G' _ R2 hl1 ?_;cases f with
  | nx υ2=>exact fun σ3 G3 P3 R3 hl3 s4=>⟨_,by omega,rfl,hlt,P3,υ2,R3,hl3,s3.trans s4,hrun⟩
  | ct υ2=>exact fun σ3 G3 P3 R3 hl3 s4=>⟨_,by omega,rfl,hlt,P3,υ2,R3,hl3,s3.trans s4,hrun⟩
  | bk υ2 =>
   have hrun:some (Fl.nx υ2)=some fl:=hrun;cases hrun;exact fun σ3 G3 P3 R3 hl3 s4=>q σ3 G3 P3 R3 hl3 (s2.trans (s3.trans s4))
  | rt v =>
   have hrun:some (Fl.rt v)=some fl:=hrun;cases hrun;exact q
 ·have e:i=xs.length:=by omega
  subst e;rw[List.drop_length]at hrun;have hrun:some (Fl.nx υ)=some fl:=hrun;cases hrun;exact .inl ⟨En.stop G P wr,q σ' G P RP hlP (s2.trans sP)⟩
theorem qv(C:bB cd X ct){c:Expr}{body:List Stmt}{pos:Pos}{ce:En->Option Bool}{bd:En->Option Fl}{fl:Fl}(hc:∀τ b,ce τ=some b->de X Hi τ c b)(hb:∀τ fl,bd τ=some fl->qW X Hi τ body fl){fu:Nat}(h:wX ce bd fu τ=some fl) :
  ic X Hi τ (.While c body [] pos) fl:=by
 intro O σ H D R hl q;refine ws (rm C.xe iq bX) ?_;refine⟨fun m σ' G=>∃(P:List Addr)(υ:IR.En),aQ X.K Hi P υ σ' G/\σ'.length=X.N.length/\aA (aI H O) (aI G P)/\wX ce bd m υ=some fl,⟨fu,O,τ,R,hl,aA.refl _,h⟩,?_⟩;rintro m σ' G ⟨P,υ,RP,hlP,sP,hrun⟩;cases m with
 | zero=>cases hrun
 | succ m =>
  unfold wX at hrun;obtain⟨b,hbv,hrun⟩:=bind_some hrun;refine hc υ b hbv P σ' G _ RP fun G1 s1=> ?_;cases b with
  | false =>
   rw[CM CT]at hrun ⊢;cases hrun;exact q σ' G1 P (RP.ext s1) hlP (sP.trans (aC s1))
  | true =>
   rw[CQ rfl]at hrun ⊢;obtain⟨f,hf,hrun⟩:=bind_some hrun;refine⟨fun σ2 G2=>∃m',m' <m+1/\∃(P:List Addr)(υ:IR.En),aQ X.K Hi P υ σ2 G2/\σ2.length=X.N.length/\aA (aI H O) (aI G2 P)/\wX ce bd m' υ=some fl,fun σ2 G2 h=>h,?_⟩;have s3:aA (aI H O) (aI G1 P):=sP.trans (aC s1);refine hb υ f hf P σ' G1 _ (RP.ext s1) hlP ?_;cases f with
   | nx υ2=>exact fun σ3 G3 P3 R3 hl3 s4=>⟨m,by omega,P3,υ2,R3,hl3,s3.trans s4,hrun⟩
   | ct υ2=>exact fun σ3 G3 P3 R3 hl3 s4=>⟨m,by omega,P3,υ2,R3,hl3,s3.trans s4,hrun⟩
   | bk υ2 =>
    have hrun:some (Fl.nx υ2)=some fl:=hrun;cases hrun;exact fun σ3 G3 P3 R3 hl3 s4=>q σ3 G3 P3 R3 hl3 (s3.trans s4)
   | rt v =>
    have hrun:some (Fl.rt v)=some fl:=hrun;cases hrun;exact q
theorem jU{i:Nat}{xs ys:List PV}{n m:Bool}{O:List Addr}{σ:L2.St}{H:Hp}{l:Addr}{us:List V}{P:L2.St->Hp->Prop}(R:aQ X.K Hi O τ σ H)(hl:σ.length=X.N.length)(e:τ[i]? =some (.own xs n))(g:σ[i]? =some (some (.ref l)))(r:aD X.K Hi m ys (aI H O) us)
  (q:lq X Hi O H (τ.set i (.own ys m)) P):P σ (L2.upd H l (.lst us)):=by
 have R2:=R.upd e g r;refine q σ _ O R2 hl fun b o z=> ?_;obtain⟨l',vs,g1,g2,_⟩:=R.owns i xs n e;rw[g]at g1;cases g1;unfold aI at z ⊢
 split at z
 ·cases z
 ·rename_i nb
  have ne:b≠l:=fun c=>nb (c▸g2);rw[CM nb,aF ne];exact z
theorem zk(C:bB cd X ct){n:Nat}{x m:Str}{i:Nat}{cap:List Nat}{a:Expr}{xp ap cp pos:Pos}{r:RV}{v:PV}{k j:Bool}{xs:List PV}(hx:loc ct x=some i)(hm:m="append")(hline:(ap.endLine==cp.line)=true)(hs:isStar a=false)
  (hr:aS cd (af n ct a) (bE cap τ)=some r) (hk:r.keep=some (v,k)) (ho:(bE cap τ)[i]? =some (.own xs j)) (hz:xs.length<LN) :
  ic X Hi τ (.Expr (.Call (.Attribute (.Name x xp) m ap) [a] [] cp) pos) (.nx ((bE cap τ).set i (.own (xs++[v]) (j&&k)))):=by
 intro O σ H D R hl q;subst hm;obtain⟨h1,h2,h3,h4⟩:=cx C hx;obtain⟨O1,R1,s1⟩:=j4 (cap:=cap) R;obtain⟨o1,o2,o3⟩:=bI h3;refine ws (em (km ED PySem.F.slot_list_append PySem.F.type_list_append fc (fW h1 (gr C.S h4) o1 o2) (aG aU aV (aL hs)) rfl (by rw[aL hs];rfl) hline (aL hs) rfl) rfl) ?_;obtain⟨l,us,g1,g2,g3,g4⟩:=R1.owns i xs j ho;refine⟨_,g1,.inl ⟨rfl,us,ao.of g3⟩,?_⟩;refine(bM n).e X ct Hi _ a r C hr O1 σ H _ R1 fun u H' s ok=> ?_;have kp:=ok.keep R1 s hk;have hlen:=g4.len;refine⟨l,us,u,rfl,rfl,s _ _ g3,by rw[bW,<-hlen];exact hz,?_⟩;exact jU (R1.ext s) hl ho g1 (vi (g4.mono (aC s)) (.cons kp .nil)) (lq.from q (s1.trans (aC s)))
theorem pp(l b:Addr)(xs ys:Array Value)(n m:Nat)(dd:Option Addr)(sl:Array (Option Value))(h0:¬(!xs.isEmpty&&Builtin.List.listTooLong (xs.size+ys.size))=true)(h1:xs.size<=sizeLine)(h2:(xs++ys).size<=sizeLine+1):Meets (Builtin.«list.extend» ⟨[.ref l,.ref b],[]⟩)
  (fun _ R s=>s.heap.get? l=some ⟨.type "list",none,.seq xs n,#[]⟩/\s.heap.get? b=some ⟨.type "list",dd,.seq ys m,sl⟩/\R (.ok (.ret .none)) {s with heap:=s.heap.update l (Obj.mapSeq fun z=>z++ys)}) :=
 .of_wp fun prog w A R s h=>by
  obtain⟨hp,g,d,tk,os⟩:=s;obtain⟨hl,hb,h⟩:=h;have f3:=AutoSeq1.sub_list_list;have f5:=AutoSeq1.sub_list_tuple
  wp_walk using(PySem.wpAny_updateSeq hl rfl (hz:=h1) (_hz' :=h2)),Cg hl,Cg hb
  exact⟨_,rfl,h⟩
theorem ml:MtM X "list.extend" (fun x vs H Q=>∃l b xs zs,x=.ref l/\vs=[.ref b]/\H l=some (.lst xs)/\ao X.K H b zs/\xs.length+zs.length<=sizeLine/\Q .non (L2.upd H l (.lst (xs++zs)))):=by
 intro pins s σ H x vs v us Q I rx rv h;obtain⟨l,b,xs,zs,rfl,rfl,hH,hB,hz,q⟩:=h;cases rx;obtain⟨u,rfl,ru⟩:=rv.one;cases ru;obtain⟨z,its,n,r,hl,e⟩:=I.lstM hH;obtain⟨its2,r2,pl,hz2⟩:=I.list hB;have hl2:=r2.length;obtain⟨⟨cls,dd,data,sl⟩,ho,hc,m,hd⟩:=id pl.isList;simp only at hc hd;subst hc hd;have hsz:its.toArray.size+its2.toArray.size<=sizeLine:=by rw[CN,CN];omega
 refine Er PySem.F.slot_list_extend ⟨_,e,rfl⟩ PySem.F.entry_list_extend (PySem.F.args_list_extend_2 _ _) (pp l b its.toArray its2.toArray n m dd sl (by rw[ko hsz,Bool.and_false];exact CT) (by omega) (by rw[Array.size_append];omega)) ⟨e,ho,?_⟩;refine⟨.non,_,I.lset (its' :=its++its2) hH e (by simp) (r.append r2) ?_,rfl,q⟩;rw[CP];omega
theorem zF(C:bB cd X ct){n:Nat}{x m:Str}{i:Nat}{a:Expr}{xp ap cp pos:Pos}{k j:Bool}{xs ys:List PV}(hx:loc ct x=some i)(hm:m="extend")(hline:(ap.endLine==cp.line)=true)(hs:isStar a=false)
  (hr:aS cd (af n ct a) τ=some (.frz (.lst ys) k)) (ho:τ[i]? =some (.own xs j)) (hz:imms ys=true/\xs.length+ys.length<=LN) :
  ic X Hi τ (.Expr (.Call (.Attribute (.Name x xp) m ap) [a] [] cp) pos) (.nx (τ.set i (.own (xs++ys) j))):=by
 intro O σ H D R hl q;subst hm;obtain⟨h1,h2,h3,h4⟩:=cx C hx;obtain⟨o1,o2,o3⟩:=bI h3;refine ws (em (km ED PySem.F.slot_list_extend PySem.F.type_list_extend ml (fW h1 (gr C.S h4) o1 o2) (aG aU aV (aL hs)) rfl (by rw[aL hs];rfl) hline (aL hs) rfl) rfl) ?_;obtain⟨l,us,g1,g2,g3,g4⟩:=R.owns i xs j ho;refine⟨_,g1,.inl ⟨rfl,us,ao.of g3⟩,?_⟩;refine(bM n).e X ct Hi _ a _ C hr O σ H _ R fun u H' s ok=> ?_;obtain⟨p,vs,rfl,sq,rp⟩:=ok.itsL R s (xs:=ys) (n:=k) rfl rfl;have hlen:=g4.len;have hlen2:=rp.len;refine⟨l,p,us,vs,rfl,rfl,s _ _ g3,sq,by rw[bW,<-hlen,<-hlen2];exact hz.2,?_⟩;exact jU (R.ext s) hl ho g1 (aD.app (g4.mono (aC s)) (rp.imm hz.1 ⟨fun _ _ z=>z,fun _ _ _ z=>z⟩)) (lq.from q (aC s))
theorem yt(C:bB cd X ct){n:Nat}{x m:Str}{i:Nat}{a b:Expr}{xp ap cp pos:Pos}{rx r:RV}{v:PV}{jj:Int}{k j:Bool}{xs:List PV}(hx:loc ct x=some i)(hm:m="insert")(hline:(ap.endLine==cp.line)=true)(hs:isStar a=false)(hs2:isStar b=false)
  (hrx:aS cd (af n ct a) τ=some rx) (hjx:rx.val=.int jj) (hr:aS cd (af n ct b) τ=some r) (hk:r.keep=some (v,k)) (ho:τ[i]? =some (.own xs j)) (hz:0<=jj/\jj<=xs.length/\xs.length<LN) :
  ic X Hi τ (.Expr (.Call (.Attribute (.Name x xp) m ap) [a,b] [] cp) pos) (.nx (τ.set i (.own (xs.take jj.toNat++v::xs.drop jj.toNat) (j&&k)))):=by
 intro O σ H D R hl q;subst hm;obtain⟨h1,h2,h3,h4⟩:=cx C hx;obtain⟨o1,o2,o3⟩:=bI h3;refine ws (em (km ED PySem.F.slot_list_insert PySem.F.type_list_insert pc (fW h1 (gr C.S h4) o1 o2) (aG aU (aG aU aV (aL hs2)) (aL hs)) rfl (by rw[aL hs,aL hs2];rfl) hline (aL hs) (dq fun c hc=>by simp at hc;subst hc;exact hs2)) rfl) ?_;obtain⟨l,us,g1,g2,g3,g4⟩:=R.owns i xs j ho;refine⟨_,g1,.inl ⟨rfl,us,ao.of g3⟩,?_⟩;refine(bM n).e X ct Hi _ a rx C hrx O σ H _ R fun w H1 s1 ok1=>(bM n).e X ct Hi _ b r C hr O σ H1 _ (R.ext s1) fun u H' s ok=> ?_;have kp:=ok.keep (R.ext s1) s hk;have hlen:=g4.len;have ew:=ok1.int R s1 hjx;subst ew;refine⟨l,us,jj,u,rfl,rfl,s _ _ (s1 _ _ g3),hz.1,by rw[<- hlen];exact hz.2.1,by rw[bW,<-hlen];exact hz.2.2,?_⟩;have st:=s1.trans s;have g5:=g4.mono (aC (O:=O) st);exact jU (R.ext st) hl ho g1 (vi (g5.take _) (aD.low (n:=j&&k) (.cons (kp.low fun z=>by rw[CK]at z;exact z.2) ((g5.drop _).low fun z=>by rw[CK]at z;exact z.1)) id) |>.low fun z=>by simpa using z) (lq.from q (aC st))
theorem aQ.setN{K:W.Frag}{O:List Addr}{σ:L2.St}{H:Hp}(R:aQ K Hi O τ σ H){i:Nat}{u:V}:aQ K Hi O (τ.set i .un) (σ.set i (some u)) H where
 same:=R.same
 own:=R.own
 frz:=fun j w m e=>by
  rcases aZ e with⟨rfl,e'⟩|⟨ne,e'⟩
  ·cases e'
  ·obtain⟨u',h1,h2⟩:=R.frz j w m e'
   exact⟨u',by rw[Ck ne];exact h1,h2⟩
 obs:=fun j t b xs m e ht=>by
  rcases aZ e with⟨rfl,e'⟩|⟨ne,e'⟩
  ·subst e'
   cases ht
  ·obtain⟨l,us,o,h1,h2⟩:=R.obs j t b xs m e' ht
   exact⟨l,us,o,by rw[Ck ne];exact h1,h2⟩
 dst:=fun j k t t' x y l e1 ht e2 ht' h1 h2=>by
  rcases aZ e1 with⟨rfl,e'⟩|⟨ne,e'⟩
  ·subst e'
   cases ht
  ·rcases aZ e2 with⟨rfl,e''⟩|⟨ne2,e''⟩
   ·subst e''
    cases ht'
   ·rw[Ck ne]at h1
    rw[Ck ne2]at h2;exact R.dst j k t t' x y l e' ht e'' ht' h1 h2
end
section
variable{cd:Nat->List PV->Option PV}{fu:Nat}
structure CH(cd:Nat->List PV->Option PV)(fu:Nat)(n:Nat):Prop where
 s:∀(X:Cx)(ct:Ct)(Hi:Hp)(τ:En)(st:Stmt)(fl:Fl),bB cd X ct->(X.fn=fun _=>true)->eR cd fu (mE n ct st) τ=some fl->ic X Hi τ st fl
 ss:∀(X:Cx)(ct:Ct)(Hi:Hp)(τ:En)(st:List Stmt)(fl:Fl),bB cd X ct->(X.fn=fun _=>true)->bL cd fu (dv n ct st) τ=some fl->qW X Hi τ st fl
theorem au{τ:En}{r:Fl}(h:eR cd fu .never τ=some r){P:Prop}:P:=by simp[gh,gT,gS,gY,ga,gR,gU,gg,gf,gi,gX,gc,gb,gZ,gW]at h
theorem stE{n:Nat}(IH:CH cd fu n){X:Cx}{ct:Ct}{Hi:Hp}{τ:En}{st:Stmt}{fl:Fl}(C:bB cd X ct)(hfn:X.fn=fun _=>true)(h:eR cd fu (mE (n+1) ct st) τ=some fl):ic X Hi τ st fl:=by
 cases st with
 | Return v pos =>
  simp only[qu,qj,qt,qm,qo,qi,qk,qr,qq,qp]at h;cases v with
  | none =>
   simp only[gh,gT,gS,gY,ga,gR,gU,gg,gf,gi,gX,gc,gb,gZ,gW]at h;cases h;exact vE
  | some e =>
   simp only[gh,gT,gS,gY,ga,gR,gU,gg,gf,gi,gX,gc,gb,gZ,gW]at h;obtain⟨r,hr,h⟩:=bind_some h;obtain⟨w,hk,h⟩:=bind_some h;obtain⟨v,m⟩:=w;dsimp only at h
   split at h
   ·rename_i hm
    cases h;subst hm;exact xm C hr hk
   ·cases h
 | Assign ts e pos =>
  simp only[qu,qj,qt,qm,qo,qi,qk,qr,qq,qp]at h
  split at h
  ·rename_i x xp
   cases hx:loc ct x with
   | none=>rw[hx]at h;exact au h
   | some i =>
    rw[hx]at h;dsimp only at h;simp only[gh,gT,gS,gY,ga,gR,gU,gg,gf,gi,gX,gc,gb,gZ,gW]at h;obtain⟨r,hr,h⟩:=bind_some h;obtain⟨τ',hp',h⟩:=map_some h;subst h;exact zi C hfn hx hr hp'
  ·exact au h
 | If c a b pos =>
  simp only[qu,qj,qt,qm,qo,qi,qk,qr,qq,qp,gh,gT,gS,gY,ga,gR,gU,gg,gf,gi,gX,gc,gb,gZ,gW]at h;obtain⟨t,ht,h⟩:=bind_some h;refine yw ((bM n).c X ct Hi τ c t C ht) ?_;cases t with
  | true=>exact IH.ss X ct Hi τ a fl C hfn h
  | false=>exact IH.ss X ct Hi τ b fl C hfn h
 | For tg it body els pos =>
  simp only[qu,qj,qt,qm,qo,qi,qk,qr,qq,qp]at h;cases els with
  | cons _ _=>exact au h
  | nil =>
   dsimp only at h;cases ht:rE ct tg with
   | none=>rw[ht]at h;exact au h
   | some w =>
    obtain⟨is,one⟩:=w;rw[ht]at h;simp only[gh,gT,gS,gY,ga,gR,gU,gg,gf,gi,gX,gc,gb,gZ,gW]at h;obtain⟨w,hw,h⟩:=bind_some h;obtain⟨xs,k,b⟩:=w;dsimp only at h;cases b with
    | true=>cases h
    | false=>exact zC C hfn ht hw (fun τ fl h=>IH.ss X ct Hi τ body fl C hfn h) h
 | While c body els pos =>
  simp only[qu,qj,qt,qm,qo,qi,qk,qr,qq,qp]at h;cases els with
  | cons _ _=>exact au h
  | nil =>
   simp only[gh,gT,gS,gY,ga,gR,gU,gg,gf,gi,gX,gc,gb,gZ,gW]at h;exact qv C (fun τ b h=>(bM n).c X ct Hi τ c b C h) (fun τ fl h=>IH.ss X ct Hi τ body fl C hfn h) h
 | Pass pos =>
  simp only[qu,qj,qt,qm,qo,qi,qk,qr,qq,qp,gh,gT,gS,gY,ga,gR,gU,gg,gf,gi,gX,gc,gb,gZ,gW]at h;cases h;exact fun O σ H D R hl q=>ws vL (q σ H O R hl (aA.refl _))
 | Break pos =>
  simp only[qu,qj,qt,qm,qo,qi,qk,qr,qq,qp,gh,gT,gS,gY,ga,gR,gU,gg,gf,gi,gX,gc,gb,gZ,gW]at h;cases h;exact fun O σ H D R hl q=>ws rq (q σ H O R hl (aA.refl _))
 | Continue pos =>
  simp only[qu,qj,qt,qm,qo,qi,qk,qr,qq,qp,gh,gT,gS,gY,ga,gR,gU,gg,gf,gi,gX,gc,gb,gZ,gW]at h;cases h;exact fun O σ H D R hl q=>ws kj (q σ H O R hl (aA.refl _))
 | Expr e pos =>
  simp only[qu,qj,qt,qm,qo,qi,qk,qr,qq,qp]at h
  split at h
  ·rename_i x xp m ap es cp
   split at h
   ·rename_i hline
    cases hx:loc ct x with
    | none=>rw[hx]at h;exact au h
    | some i =>
     rw[hx]at h;dsimp only at h
     split at h
     ·rename_i a
      split at h
      ·exact au h
      ·rename_i hs
       split at h
       ·rename_i hm
        simp only[gh,gT,gS,gY,ga,gR,gU,gg,gf,gi,gX,gc,gb,gZ,gW]at h;obtain⟨r,hr,h⟩:=bind_some h;obtain⟨w,hk,h⟩:=bind_some h;obtain⟨v,k⟩:=w
        split at h
        ·rename_i xs j ho
         split at h
         ·rename_i hz
          cases h;exact zk C hx (Cy hm) hline (Dn.mpr hs) hr hk ho hz
         ·cases h
        ·cases h
       ·split at h
        ·rename_i hm
         simp only[gh,gT,gS,gY,ga,gR,gU,gg,gf,gi,gX,gc,gb,gZ,gW]at h;obtain⟨r,hr,h⟩:=bind_some h
         split at h
         ·rename_i ys k xs j ho
          split at h
          ·rename_i hz
           cases h;exact zF C hx (Cy hm) hline (Dn.mpr hs) hr ho hz
          ·cases h
         ·cases h
        ·exact au h
     ·rename_i a b
      split at h
      ·exact au h
      ·rename_i hs
       simp only[Do,not_or,Bool.not_eq_true]at hs
       split at h
       ·rename_i hm
        simp only[gh,gT,gS,gY,ga,gR,gU,gg,gf,gi,gX,gc,gb,gZ,gW]at h;obtain⟨rx,hrx,h⟩:=bind_some h;obtain⟨r,hr,h⟩:=bind_some h;obtain⟨w,hk,h⟩:=bind_some h;obtain⟨v,k⟩:=w
        split at h
        ·rename_i jj xs j hj ho
         split at h
         ·rename_i hz
          cases h;exact yt C hx (Cy hm) hline hs.1 hs.2 hrx hj hr hk ho hz
         ·cases h
        ·cases h
       ·exact au h
     ·exact au h
   ·exact au h
  ·exact au h
 | _=>(try simp only[qu,qj,qt,qm,qo,qi,qk,qr,qq,qp]at h);exact au h
theorem wQ:∀n:Nat,CH cd fu n
 | 0=>by
  refine⟨fun X ct Hi τ st fl C hfn h=> ?_,fun X ct Hi τ st fl C hfn h=> ?_⟩
  ·simp[qu,qj,qt,qm,qo,qi,qk,qr,qq,qp,gh,gT,gS,gY,ga,gR,gU,gg,gf,gi,gX,gc,gb,gZ,gW]at h
  ·simp[z2b,z2d,z2c,ug,uh,gh,gT,gS,gY,ga,gR,gU,gg,gf,gi,gX,gc,gb,gZ,gW]at h
 | n+1=>by
  have IH:=wQ n;refine⟨fun X ct Hi τ st fl C hfn h=>stE IH C hfn h,fun X ct Hi τ st fl C hfn h=> ?_⟩;cases st with
  | nil =>
   simp only[z2b,z2d,z2c,ug,uh]at h;cases h;exact fun O σ H D R hl q=>n6 jo (q σ H O R hl (aA.refl _))
  | cons st ss =>
   simp only[z2b,z2d,z2c]at h;simp only[ug,uh]at h;obtain⟨f,hf,h⟩:=bind_some h;have h1:=IH.s X ct Hi τ st f C hfn hf;intro O σ H D R hl q;refine n6 (aj gM bX) ?_;refine h1 O σ H _ R hl ?_;cases f with
   | nx τ1=>exact fun σ1 H1 O1 R1 hl1 s1=>IH.ss X ct Hi τ1 ss fl C hfn h O1 σ1 H1 D R1 hl1 (q.from s1)
   | bk τ1 =>
    have h:some (Fl.bk τ1)=some fl:=h;cases h;exact q
   | ct τ1 =>
    have h:some (Fl.ct τ1)=some fl:=h;cases h;exact q
   | rt v =>
    have h:some (Fl.rt v)=some fl:=h;cases h;exact q
end
structure qY(K:W.Frag)(mg:Str->Option Value)(P:Nat->Option FD)(F:List (Str×Nat))(G:List (Str×PV))(B:List Str)(x:Str)(f:Nat)(a:Addr)(fd:FuncData)(ps:List Str):Prop where
 ex:(mg x=some (.ref a)/\W.keepIn K (.ref a)=true/\Binds K fd ps []/\∀(p:Program)(w:World)(base:Heap)(k:Nat),(∀j,j<=k->∀y g,F.lookup y=some g->∃b gd qs,mg y=some (.ref b)/\W.keepIn K (.ref b)=true/\Binds K gd qs []/\bt p w K mg base jD j b gd qs (ub K (aB P j g)))->bt p w K mg base jD (k+1) a fd ps (ub K (aB P (k+1) f)))\/∃st N M n body,Def K mg x st ps a fd/\dE N ps (aN st)/\P f=some ⟨N.length,ps.length,body⟩/\dv n ⟨N,(aN st).names,F,G,B,M⟩ (av st)=body
theorem qY.def{K:W.Frag}{mg:Str->Option Value}{P:Nat->Option FD}{F:List (Str×Nat)}{G:List (Str×PV)}{B:List Str}{x:Str}{f:Nat}{a:Addr}{fd:FuncData}{ps:List Str}(d:qY K mg P F G B x f a fd ps):mg x=some (.ref a)/\W.keepIn K (.ref a)=true/\Binds K fd ps []:=by
 rcases d.ex with⟨h1,h2,h3,_⟩|⟨st,N,M,n,body,D,_⟩
 ·exact⟨h1,h2,h3⟩
 ·exact⟨D.nm,D.fn.kp,D.bd⟩
theorem jM{K:W.Frag}{H:Hp}{d:FD}{N:List Str}{pvs:List PV}{vs:List V}(hn:d.nn=N.length)(r:aD K H false pvs H vs):aQ K H [] (entry d pvs) (start N vs) H:=by
 have hl:=r.len;have cX:∀(i:Nat)(t:TV),(entry d pvs)[i]? =some t->t=.un\/∃v u,t=.frz v (imm v)/\(start N vs)[i]? =some (some u)/\Rp K H false v H u:=fun i t e=>by
  unfold entry at e
  by_cases hi:i<pvs.length
  ·rw[Dy (by simpa using hi),Cb]at e
   have hv:pvs[i]? =some pvs[i]:=by simp
   rw[hv]at e;cases e;obtain⟨u,hu,ru⟩:=r.at hv;refine .inr ⟨_,u,rfl,?_,ru⟩;unfold L2.start;rw[Dy (by rw[CI];omega),Cb,hu];rfl
  ·rw[EY (by simpa using hi),List.getElem?_replicate]at e
   split at e
   ·cases e
    exact .inl rfl
   ·cases e
 refine⟨aA.refl _,fun l hl=>(by cases hl),fun i v n e=> ?_,fun i t b xs n e ht=> ?_,fun i j t t' x y l e1 ht e2 ht' h1 h2=> ?_⟩
 ·rcases cX i _ e with z|⟨v',u,z,h1,h2⟩
  ·cases z
  ·cases z
   refine⟨u,h1,?_⟩;rw[oU];cases him:imm v with
   | true=>exact Rp.imm him ⟨fun _ _ e=>e,fun _ _ _ e=>e⟩ h2
   | false=>exact h2
 ·rcases cX i _ e with z|⟨v',u,z,h1,h2⟩<;>(subst z;cases ht)
 ·rcases cX i _ e1 with z|⟨v',u,z,h1,h2⟩<;>(subst z;cases ht)
theorem zD{p:Program}{w:World}{K:W.Frag}{mg:Str->Option Value}{base:Heap}{P:Nat->Option FD}{F:List (Str×Nat)}{G:List (Str×PV)}{B:List Str}
  (hG:∀x v,G.lookup x=some v->∃u w,mg x=some u/\RelV w u/\∀Hi n H,Rp K Hi n v H w) (hB:∀x,B.contains x=true->mg x=none) (hF:∀x f,F.lookup x=some f->∃a fd ps,qY K mg P F G B x f a fd ps) :
  ∀(k:Nat)(x:Str)(f:Nat)(a:Addr)(fd:FuncData)(ps:List Str),qY K mg P F G B x f a fd ps->bt p w K mg base jD k a fd ps (ub K (aB P k f)):=by
 have S:∀k j:Nat,j<=k->∀(x:Str)(f:Nat)(a:Addr)(fd:FuncData)(ps:List Str),qY K mg P F G B x f a fd ps->bt p w K mg base jD j a fd ps (ub K (aB P j f)):=by
  intro k
  induction k with
  | zero =>
   intro j hj;have e:=Nat.le_zero.mp hj;subst e;intro x f a fd ps _;exact⟨fun vs H Q E h=>(by obtain⟨_,_,_,z,_⟩:=h;cases z),fun A outer s H args us vs Q E _ _ _ _ h=>(by obtain⟨_,_,_,z,_⟩:=h;cases z)⟩
  | succ k ih =>
  intro j hj
  by_cases hjk:j<=k
  ·exact ih j hjk
  have e:j=k+1:=by omega
  subst e;intro x f a fd ps d
  rcases d.ex with⟨_,_,_,hand⟩|⟨st,N,M,n,body,D,S,hP,hbody⟩
  ·exact hand p w base k fun j hj y g hy=>by
    obtain⟨b,gd,qs,dy⟩:=hF y g hy;obtain⟨z1,z2,z3⟩:=dy.def;exact⟨b,gd,qs,z1,z2,z3,ih j hj y g b gd qs dy⟩
  have run:∀{pvs:List PV}{r:PV},aB P (k+1) f pvs=some r->pvs.length=ps.length/\eM (bL (aB P k) 1000000 body (entry ⟨N.length,ps.length,body⟩ pvs))=some r:=fun{pvs r} h=>by
   unfold aB at h;rw[hP]at h;dsimp only[Option.bind]at h
   split at h
   ·rename_i hl
    exact⟨hl,h⟩
   ·cases h
  refine D.fn.ok S (fun vs H Q E h=> ?_) (fun cdv A outer s H vs Q E hr h=> ?_)
  ·obtain⟨pvs,r,h1,h2,_⟩:=h
   rw[<- h1.len];exact(run h2).1
  ·obtain⟨pvs,r,h1,h2,q⟩:=h
   obtain⟨hl,h2⟩:=run h2;have hps:ps.length<=N.length:=by have:=Da List.length S.pre;rw[DI]at this;omega
   cases he:bL (aB P k) 1000000 body (entry ⟨N.length,ps.length,body⟩ pvs)with
   | none=>rw[he]at h2;cases h2
   | some fl =>
    rw[he]at h2
    have C:bB (aB P k) (i6 jD p w K mg base N x (aN st) a cdv A outer s H E).nox ⟨N,(aN st).names,F,G,B,M⟩ :=
     ⟨rfl,S.nd,rfl,S.kind,rfl,hG,hB,fun y g hy=>by
      obtain⟨a',fd',ps',d'⟩:=hF y g hy;obtain⟨z1,z2,z3⟩:=d'.def;exact⟨k,a',fd',ps',ih k (CO k) y g a' fd' ps' d',hr,z1,z2,z3⟩,PassesOwn.never,hr.units⟩
    rw[<- hbody]at he;have h3:=(wQ n).ss _ _ H _ (av st) fl C rfl he;refine⟨_,bX,h3 [] (start N vs) H _ (jM rfl h1) ?_ ?_⟩
    ·show(start N vs).length=N.length
     unfold L2.start;rw[CP,CI,Dh];have:=h1.len;omega
    ·cases fl with
     | nx τ' =>
      cases h2;exact fun σ' H' O' R' _ _=>q _ _ R'.same (Rp.non.mpr rfl)
     | rt v =>
      cases h2;exact q
     | bk τ' =>cases h2
     | ct τ' =>cases h2
 exact fun k=>S k k (CO k)
theorem yi{p:Program}{w:World}{K:W.Frag}{mg:Str->Option Value}{base:Heap}{P:Nat->Option FD}{k f:Nat}{a:Addr}{fd:FuncData}{ps:List Str}(F:bt p w K mg base jD k a fd ps (ub K (aB P k f)))
  (h:∀ns:List Int,ns.length<=63->aB P k f [.lst (ns.map PV.int)]=some (.bl true)):bt p w K mg base jD k a fd ps (oD K) :=
 F.imp fun vs H Q E z=>by
  obtain⟨l,ns,rfl,hS,h63,q⟩:=z;refine⟨[.lst (ns.map PV.int)],.bl true,.cons (Rp.lst.mpr ⟨l,_,rfl,(fun z=>by cases z),hS,aD.ints.mpr rfl⟩) .nil,h ns h63,fun u H' s r=> ?_⟩;rw[Rp.bl.mp r];exact q H'
section
variable{K:W.Frag}{mg:Str->Option Value}{P:Nat->Option FD}{F0:List (Str×Nat)}{G0:List (Str×PV)}{B0:List Str}
theorem fnil:∀(x:Str)(f:Nat),([]:List (Str×Nat)).lookup x=some f->∃a fd ps,qY K mg P F0 G0 B0 x f a fd ps:=fun x f h=>by cases h
theorem bS{x0:Str}{f0:Nat}{r:List (Str×Nat)}(h:∃a fd ps,qY K mg P F0 G0 B0 x0 f0 a fd ps)(hr:∀(x:Str) (f:Nat),r.lookup x=some f->∃a fd ps,qY K mg P F0 G0 B0 x f a fd ps) :
  ∀(x:Str)(f:Nat),((x0,f0)::r).lookup x=some f->∃a fd ps,qY K mg P F0 G0 B0 x f a fd ps:=fun x f e=>by
 rw[C8]at e
 split at e
 ·rename_i c
  cases e;rw[Cy c];exact h
 ·exact hr x f e
theorem gnil:∀(x:Str)(v:PV),([]:List (Str×PV)).lookup x=some v->∃u w,mg x=some u/\RelV w u/\∀Hi n H,Rp K Hi n v H w:=fun x f h=>by cases h
theorem Bb{x0:Str}{v0:PV}{r:List (Str×PV)}(h:∃u w,mg x0=some u/\RelV w u/\∀Hi n H,Rp K Hi n v0 H w)(hr:∀(x:Str) (v:PV),r.lookup x=some v->∃u w,mg x=some u/\RelV w u/\∀Hi n H,Rp K Hi n v H w) :
  ∀(x:Str)(v:PV),((x0,v0)::r).lookup x=some v->∃u w,mg x=some u/\RelV w u/\∀Hi n H,Rp K Hi n v H w:=fun x f e=>by
 rw[C8]at e
 split at e
 ·rename_i c
  cases e;rw[Cy c];exact h
 ·exact hr x f e
theorem bnil:∀(x:Str),([]:List Str).contains x=true->mg x=none:=fun x h=>by simp at h
theorem br{x0:Str}{r:List Str}(h:mg x0=none)(hr:∀(x:Str),r.contains x=true->mg x=none):∀(x:Str),(x0::r).contains x=true->mg x=none:=fun x e=>by
 rw[List.contains_cons,Do]at e
 rcases e with e|e
 ·rw[Cy e]
  exact h
 ·exact hr x e
end
theorem BO{α:Type}{us:List α}(h:us.length=1):∃a,us=[a]:=by
 cases us with
 | nil=>cases h
 | cons a us=>cases us with
  | nil=>exact⟨a,rfl⟩
  | cons b us=>cases h
theorem yf{α:Type}{us:List α}(h:us.length=2):∃a b,us=[a,b]:=by
 cases us with
 | nil=>cases h
 | cons a us=>obtain⟨b,rfl⟩:=BO (Nat.succ.inj h);exact⟨a,b,rfl⟩
theorem len3{α:Type}{us:List α}(h:us.length=3):∃a b c,us=[a,b,c]:=by
 cases us with
 | nil=>cases h
 | cons a us=>obtain⟨b,c,rfl⟩:=yf (Nat.succ.inj h);exact⟨a,b,c,rfl⟩
theorem lL{set:PV->En->Option En}{body:En->Option Fl}(I:Nat->En->Prop)(R:Fl->Prop):∀(xs ys:List PV)(τ:En),I xs.length τ ->
  (∀(i:Nat)(x:PV)(τ:En),(xs++ys)[i]? =some x->xs.length<=i->I i τ->∃τ1 f,set x τ=some τ1/\body τ1=some f/\(match f with| .nx τ2=>I (i+1) τ2| .ct τ2=>I (i+1) τ2| .bk τ2=>R (.nx τ2)| .rt v=>R (.rt v))) ->
  (∀τ,I (xs++ys).length τ->R (.nx τ))->∃fl,iQ set body ys τ=some fl/\R fl
 | xs,[],τ,h0,hs,he=>⟨.nx τ,rfl,he τ (by rw[DL];exact h0)⟩
 | xs,y::ys,τ,h0,hs,he=>by
  obtain⟨τ1,f,h1,h2,h3⟩:=hs xs.length y τ (by simp) (CO _) h0;have e:xs++y::ys=(xs++[y])++ys:=by simp
  have ih:=fun τ2 (h:I (xs.length+1) τ2)=>lL (set:=set) (body:=body) I R (xs++[y]) ys τ2 (by rw[CP];exact h) (fun i x τ hx hi=>hs i x τ (by rw[e];exact hx) (by rw[CP]at hi;omega)) (by rw[<- e];exact he);unfold iQ;rw[h1];dsimp only[Option.bind];rw[h2];cases f with
  | nx τ2=>exact ih τ2 h3
  | ct τ2=>exact ih τ2 h3
  | bk τ2=>exact⟨_,rfl,h3⟩
  | rt v=>exact⟨_,rfl,h3⟩
theorem v2{set:PV->En->Option En}{body:En->Option Fl}{xs:List PV}{τ:En}(I:Nat->En->Prop)(R:Fl->Prop)(h0:I 0 τ)
  (hs:∀(i:Nat)(x:PV)(τ:En),xs[i]? =some x->I i τ->∃τ1 f,set x τ=some τ1/\body τ1=some f/\(match f with| .nx τ2=>I (i+1) τ2| .ct τ2=>I (i+1) τ2| .bk τ2=>R (.nx τ2)| .rt v=>R (.rt v)))
  (he:∀τ,I xs.length τ->R (.nx τ)):∃fl,iQ set body xs τ=some fl/\R fl :=
 lL I R [] xs τ h0 (fun i x τ hx _ hI=>hs i x τ hx hI) he
section
variable{v:PV}{n m:Bool}{xs ys:List PV}{i j:Int}{z y:Str}{a b:RV}{τ:En}{t:TV}{k:Nat}
theorem az:(RV.frz v n).val=v:=rfl
theorem ur:(RV.own xs n).val=.lst xs:=rfl
theorem tB:(RV.frz v n).keep=some (v,n):=rfl
theorem s0:(RV.own xs n).keep=some (.lst xs,n):=rfl
theorem vp:gE (.lst xs)=some xs.length:=rfl
theorem vm:gE (.tup xs)=some xs.length:=rfl
theorem len_str:gE (.str z)=if z.length<=LN then some z.length else none:=rfl
theorem v5:eM (some (.rt v))=some v:=rfl
theorem iM:lJ (.frz v n::τ) 0=some (.frz v n):=rfl
theorem iO:lJ (t::τ) (k+1)=lJ τ k:=rfl
theorem cg:bE [] τ=τ:=rfl
theorem ff{c:List Nat}:bE (k::c) τ=bE c (j6 τ k):=rfl
theorem v1:j6 (.own xs n::τ) 0=.frz (.lst xs) n::τ:=rfl
theorem j5:j6 (.frz v n::τ) 0=.frz v n::τ:=rfl
theorem nD:j6 (t::τ) (k+1)=t::j6 τ k:=by
 unfold j6;rw[EH];cases τ[k]? with
 | none=>rfl
 | some t=>cases t<;>rfl
theorem wM:dU .Add (.frz (.int i) n) (.frz (.int j) m)=some (sc (.int (i+j))):=rfl
theorem wJ:dU .Mult (.frz (.int i) n) (.frz (.int j) m)=if(-(2^64)<i/\i<2^64)\/(-(2^64)<j/\j<2^64)then some (sc (.int (i*j)))else if i.natAbs<2^2000/\j.natAbs<2^2000 then some (sc (.int (i*j)))else none:=rfl
theorem o4:dU .FloorDiv (.frz (.int i) n) (.frz (.int j) m)=if 0<j/\j<2^200 then some (sc (.int (i/j)))else none:=rfl
theorem wK:dU .Mod (.frz (.int i) n) (.frz (.int j) m)=if 0<j then some (sc (.int (i%j)))else none:=rfl
theorem wI:dU .LShift (.frz (.int i) n) (.frz (.int j) m)=if 0<=j/\j<=1000000/\i.natAbs<2^64 then some (sc (.int (i*2^j.toNat)))else none:=rfl
theorem wL:dU .Add (.frz (.str z) n) (.frz (.str y) m)=if z.length+y.length<=LN then some (sc (.str (z++y)))else none:=rfl
theorem zO:bY .Lt (.int i) (.int j)=some (decide (i<j)):=rfl
theorem zP:bY .Gt (.int i) (.int j)=some (decide (j<i)):=rfl
theorem wB:bY .Eq (.int i) (.int j)=some (decide (i=j)):=rfl
theorem wA:bY .Eq (.str z) (.str y)=some (decide (z=y)):=rfl
end
section
variable{cd:Nat->List PV->Option PV}{fu:Nat}{s:IS}{ss:qb}{τ τ1:En}{v:PV}
end
theorem qG{cd:Nat->List PV->Option PV}{fu:Nat}{s:IS}{ss:qb}{τ:En}:bL cd fu (.cons s ss) τ=(eR cd fu s τ).bind fun f=>gu f (bL cd fu ss):=by simp only[ug,uh]
theorem tU{cd:Nat->List PV->Option PV}{fu:Nat}{τ:En}:bL cd fu .nil τ=some (.nx τ):=by simp only[ug,uh]
theorem run{P:Nat->Option FD}{k f:Nat}{d:FD}{vs:List PV}{r:PV}(hP:P f=some d)(hl:vs.length=d.np)(h:eM (bL (aB P k) 1000000 d.body (entry d vs))=some r):aB P (k+1) f vs=some r:=by
 show(P f).bind _=_;rw[hP];show(if vs.length=d.np then _ else _)=_;rw[CQ hl];exact h
section
variable{a b:RV}{t:String}{n m:Bool}{xs ys:List PV}{i j:Int}{bl:Bool}
theorem gj{τ:En}{k:En->Option Fl}:gu (.nx τ) k=k τ:=rfl
theorem uv{v:PV}{k:En->Option Fl}:gu (.rt v) k=some (.rt v):=rfl
theorem rD:kP (.bl bl)=some bl:=rfl
theorem uE:fK (.bl bl)=some bl:=rfl
theorem jg:kd (.frz (.lst xs) n)=some (xs,n,false):=rfl
theorem vA:kd (.own xs n)=some (xs,n,false):=rfl
theorem A0{τ:En}{k:Nat}:jm true k (.own xs n) τ=some (τ.set k (.own xs n)):=rfl
theorem xu{τ:En}{k:Nat}:jm false k (.own xs n) τ=some (τ.set k (.frz (.lst xs) n)):=rfl
theorem xw{τ:En}{k:Nat}{o:Bool}{v:PV}:jm o k (.frz v n) τ=some (τ.set k (.frz v n)):=by cases o<;>rfl
theorem xP:kR (.lst xs)=.own xs true:=rfl
theorem xO:kR (.tup xs)=.frz (.tup xs) true:=rfl
theorem xQ:kR (.int i)=.frz (.int i) true:=rfl
theorem xR:kR (.bl bl)=.frz (.bl bl) true:=rfl
theorem ze:ii .len [a]=(gE a.val).map fun n=>sc (.int (n:Nat)):=rfl
theorem wO:ii .int [.frz (.bl bl) n]=some (sc (.int (if bl then 1 else 0))):=rfl
theorem wN:ii (.isin t) [a]=(dr t a.val).map fun b=>sc (.bl b):=rfl
theorem uK:ii .list [.frz (.tup xs) n]=some (.own xs n):=rfl
theorem uL:ii .list [.frz (.lst xs) n]=some (.own xs n):=rfl
theorem qR:ii .tuple [.own xs n]=some (.frz (.tup xs) n):=rfl
theorem qS:ii .tuple [.frz (.lst xs) n]=some (.frz (.tup xs) n):=rfl
theorem zZ:ii .min [.frz (.int i) n,.frz (.int j) m]=some (sc (.int (if j<i then j else i))):=rfl
theorem zd:ii .max [.frz (.int i) n,.frz (.int j) m]=some (sc (.int (if j>i then j else i))):=rfl
theorem uJ:ii .sorted [.own xs n]=eA xs (.own xs n):=rfl
theorem lg:ii .sorted [.frz (.lst xs) n]=eA xs (.frz (.lst xs) n):=rfl
theorem ix_L(k:Int):index (.frz (.lst xs) n) (.frz (.int k) m)=(dc xs k).map fun e=>.frz e (n||imm e):=rfl
theorem ix_T(k:Int):index (.frz (.tup xs) n) (.frz (.int k) m)=(dc xs k).map fun e=>.frz e (n||imm e):=rfl
theorem ix_O(k:Int):index (.own xs n) (.frz (.int k) m)=(dc xs k).map fun e=>.frz e (n||imm e):=rfl
theorem ix_S(k:Int)(z:Str):index (.frz (.str z) n) (.frz (.int k) m)=if z.length<=LN then(dc z.cps.toList k).map fun c=>sc (.str ⟨#[c]⟩)else none:=rfl
end
theorem lF{i:Int}:dr "int" (.int i)=some true:=by simp[dr]
theorem jy{i:Int}:dr "bool" (.int i)=some false:=by simp[dr]
theorem lE{i:Int}:dr "str" (.int i)=some false:=by simp[dr]
theorem lD{z:Str}:dr "str" (.str z)=some true:=by simp[dr]
theorem jx{i:Int}:dr "list" (.int i)=some false:=by simp[dr]
theorem jv{z:Str}:dr "list" (.str z)=some false:=by simp[dr]
theorem jw{xs:List PV}:dr "list" (.lst xs)=some true:=by simp[dr]
theorem i5{i:Int}:dr "tuple" (.int i)=some false:=by simp[dr]
theorem iw{z:Str}:dr "tuple" (.str z)=some false:=by simp[dr]
theorem iz{xs:List PV}:dr "tuple" (.lst xs)=some false:=by simp[dr]
theorem iu{xs:List PV}:dr "tuple" (.tup xs)=some true:=by simp[dr]
theorem nK  :bY .Is .non .non=some true:=rfl
theorem nM{i:Int}:bY .Is (.int i) .non=some false:=rfl
theorem nJ{z:Str}:bY .Is (.str z) .non=some false:=rfl
theorem nL{xs:List PV}:bY .Is (.lst xs) .non=some false:=rfl
theorem nI{xs:List PV}:bY .Is (.tup xs) .non=some false:=rfl
theorem bq{α:Type}{f:PV->Option (Option (PV×Bool))}{h:α->PV}{g:α->PV}:∀{l:List α},(∀x∈l,f (h x)=some (some (g x,true)))->cq f (l.map h)=some (l.map g,true)
 | [],_=>rfl
 | x::xs,k=>by
  rw[Cc];unfold cq;rw[k x Cd,bq fun y hy=>k y (CV _ hy)];rfl
noncomputable def To(o:Option Fl)(Q:Fl->Prop):Prop:=∃f,o=some f/\Q f
theorem uu{f:Fl}{Q:Fl->Prop}:To (some f) Q↔Q f:=⟨fun⟨g,e,h⟩=>by cases e;exact h,fun h=>⟨f,rfl,h⟩⟩
theorem To.imp{o:Option Fl}{Q Q' :Fl->Prop}(h:To o Q)(k:∀f,Q f->Q' f):To o Q' :=by
 obtain⟨f,e,q⟩:=h;exact⟨f,e,k f q⟩
theorem wf{P:Nat->Option FD}{k f:Nat}{d:FD}{vs:List PV}{Q:PV->Prop}(hP:P f=some d)(hl:vs.length=d.np)(h:To (bL (aB P k) 1000000 d.body (entry d vs)) fun fl=>∃v,eM (some fl)=some v/\Q v):∃v,aB P (k+1) f vs=some v/\Q v:=by
 obtain⟨fl,e,v,h1,h2⟩:=h;exact⟨v,run hP hl (by rw[e];exact h1),h2⟩
theorem dP{P:Nat->Option FD}{k f:Nat}{d:FD}{vs:List PV}{r:PV}(hP:P f=some d)(hl:vs.length=d.np)(h:To (bL (aB P k) 1000000 d.body (entry d vs)) fun fl=>eM (some fl)=some r):aB P (k+1) f vs=some r:=by
 obtain⟨fl,e,h1⟩:=h;exact run hP hl (by rw[e];exact h1)
section
variable{cd:Nat->List PV->Option PV}{fu:Nat}{τ:En}{cap:List Nat}{e e2:IE}{i j:Nat}{o one:Bool}{is:List Nat}{c:IC}{a b body:qb}{src:IT}
theorem iT:eR cd fu (.asg i o cap e) τ=(aS cd e (bE cap τ)).bind fun r=>(jm o i r (bE cap τ)).map .nx:=by simp only[gh,gT,gS,gY,ga,gR,gU,gg,gf,gi,gX,gc,gb,gZ,gW]
theorem tT:eR cd fu (.ret cap e) τ=(aS cd e (bE cap τ)).bind fun r=>r.keep.bind fun(v,n)=>if n then some (.rt v)else none:=by simp only[gh,gT,gS,gY,ga,gR,gU,gg,gf,gi,gX,gc,gb,gZ,gW]
theorem zG:eR cd fu (.ife c a b) τ=(dw cd c τ).bind fun r=>if r then bL cd fu a τ else bL cd fu b τ:=by simp only[gh,gT,gS,gY,ga,gR,gU,gg,gf,gi,gX,gc,gb,gZ,gW]
noncomputable def oF(i:Nat)(v:PV)(m:Bool)(τ:En):Option Fl:=match τ[i]? with
  | some (.own xs n)=>if xs.length<LN then some (.nx (τ.set i (.own (xs++[v]) (n&&m))))else none
  | _=>none
theorem zH:eR cd fu (.app i cap e) τ=(aS cd e (bE cap τ)).bind fun r=>r.keep.bind fun(v,m)=>oF i v m (bE cap τ):=by simp only[gh,gT,gS,gY,ga,gR,gU,gg,gf,gi,gX,gc,gb,gZ,gW];rfl
theorem hV{v:PV}{n m:Bool}{xs:List PV}(h:τ[i]? =some (.own xs n))(hz:xs.length<LN):oF i v m τ=some (.nx (τ.set i (.own (xs++[v]) (n&&m)))):=by
 unfold oF;rw[h];exact CQ hz
theorem ci{xs:List PV}{n:Bool}{k:En->Option Fl}{Q:Fl->Prop}(ht:lQ cd src (bE cap τ)=some (xs,n,false))(I:Nat->En->Prop)(h0:I 0 (bE cap τ))
  (hs:∀(i:Nat)(x:PV)(τ:En),xs[i]? =some x->I i τ->∃τ1,jf is one n x τ=some τ1/\To (bL cd fu body τ1) fun f=>match f with| .nx τ2=>I (i+1) τ2| .ct τ2=>I (i+1) τ2| .bk τ2=>To (k τ2) Q| .rt v=>Q (.rt v))
  (hk:∀τ',I xs.length τ' ->To (k τ') Q):To ((eR cd fu (.forr is one cap src body) τ).bind fun f=>gu f k) Q:=by
 obtain⟨fl,e,h⟩:=v2 (set:=jf is one n) (body:=fun τ=>bL cd fu body τ) (xs:=xs) (τ:=bE cap τ) I (fun fl=>To (gu fl k) Q) h0 (fun i x τ hx hI=>by
  obtain⟨τ1,h1,f,h2,h3⟩:=hs i x τ hx hI;refine⟨τ1,f,h1,h2,?_⟩;cases f with
  | nx τ2=>exact h3
  | ct τ2=>exact h3
  | bk τ2=>exact h3
  | rt v=>exact⟨_,rfl,h3⟩) hk
 have e2:eR cd fu (.forr is one cap src body) τ=some fl:=by
  simp only[gh,gT,gS,gY,ga,gR,gU,gg,gf,gi,gX,gc,gb,gZ,gW,ht,Ch];exact e
 rw[e2];exact h
end
theorem cf:∀l:List Str,imms (l.map PV.str)=true
 | []=>rfl
 | x::l=>by rw[Cc,imms,cf l];rfl
theorem tL(l:List Str):imm (.tup (l.map PV.str))=true:=by rw[imm];exact cf l
theorem qQ{n m:Bool}{xs ys:List PV}:dU .Add (.frz (.lst xs) n) (.own ys m)=gN (xs++ys) (n&&m):=rfl
theorem mS{n:Bool}{xs:List PV}{lo hi:Option Int}:slice (.frz (.lst xs) n) lo hi=some (.own (cut xs lo hi) (n||imms xs)):=rfl
theorem iW(P:Nat->Option FD)(k f:Nat)(vs:List PV):aB P (k+1) f vs=(P f).bind fun d=>if vs.length=d.np then eM (bL (aB P k) 1000000 d.body (entry d vs))else none:=rfl
section
variable{cd:Nat->List PV->Option PV}{fu:Nat}{τ:En}{e e2:IE}{i:Nat}
noncomputable def setO(i:Nat)(k v:PV)(m:Bool)(τ:En):Option Fl:=match k,τ[i]? with
  | .int j,some (.own xs n)=>(L2.tF xs.length j).map fun q=>.nx (τ.set i (.own (xs.set q v) (n&&m)))
  | y,some (.owd (.dK ks) xs n)=>(fC y).bind fun k=>if xs.length<LN then some (.nx (τ.set i (.owd (.dK (A1 ks k)) (putL ks xs k v) (n&&m))))else none
  | _,_=>none
end
theorem o5{xs:List PV}{n:Bool}:ii .sum [.frz (.lst xs) n]=(aa xs).map fun ns=>sc (.int ns.sum):=rfl
theorem at_0{α:Type}{x:α}{xs:List α}:L2.dc (x::xs) 0=some x:=by
 have:=cN (xs:=x::xs) (j:=0) (v:=x) (by simp);exact this
theorem at_1{α:Type}{x y:α}{xs:List α}:L2.dc (x::y::xs) 1=some y:=by
 have:=cN (xs:=x::y::xs) (j:=1) (v:=y) (by simp);exact this
theorem cc{n i:Nat}{x:PV}(h:((List.range n).map fun i=>PV.int (0+(i:Nat)))[i]? =some x):i<n/\x=.int (i:Nat):=by
 rw[Cb]at h
 by_cases hi:i<n
 ·rw[DN hi]at h
  refine⟨hi,?_⟩;have:=(Cq h).symm
  simpa using this
 ·rw[Dv (by simpa using hi)]at h
  cases h
theorem ef{n:Nat}:((List.range n).map fun i=>PV.int (0+(i:Nat))).length=n:=by simp
theorem oa{xs:List PV}{i:Nat}{x:PV}(h:(List.zipWith e8 (List.range xs.length) xs)[i]? =some x):∃y,xs[i]? =some y/\x=e8 i y:=by
 rw[Du]at h;cases e:xs[i]? with
 | none=>rw[e]at h;cases hh:(List.range xs.length)[i]? <;>rw[hh]at h<;>cases h
 | some y =>
  rw[e]at h;have hi:i<xs.length:=(CY.mp e).1;rw[DN hi]at h;exact⟨y,rfl,(Cq h).symm⟩
theorem lS{xs:List PV}:(List.zipWith e8 (List.range xs.length) xs).length=xs.length:=by rw[Ef,C9,Ea]
theorem vZ(c d:Nat):decide ((⟨#[c]⟩:Str)=⟨#[d]⟩)=decide (c=d):=by
 by_cases h:c=d
 ·subst h;simp
 ·rw[C6 h,C6]
  intro e;have:=Da (fun z:Str=>z.cps.toList) e;simp at this;exact h this
theorem uB(c:Nat):decide ((⟨#[c]⟩:Str)="x")=(c==120):=by
 have:=vZ c 120;rw[show(⟨#[120]⟩:Str)="x" from rfl]at this;rw[this];rfl
theorem dB{α:Type}{f:PV->Option (Option (PV×Bool))}{h:α->PV}{p:α->Bool}{g:α->PV}:∀{l:List α},(∀x∈l,f (h x)=some (if p x then some (g x,true)else none))->cq f (l.map h)=some ((l.filter p).map g,true)
 | [],_=>rfl
 | x::xs,k=>by
  rw[Cc];unfold cq;rw[k x Cd,dB fun y hy=>k y (CV _ hy)];cases e:p x
  ·simp[List.filter_cons,e]
  ·simp[List.filter_cons,e]
theorem map_set{L:Nat}{g:Nat->Int}{q:Nat}{v:Int}:((List.range L).map fun k=>PV.int (g k)).set q (.int v)=(List.range L).map fun k=>PV.int (if k=q then v else g k):=by
 refine FP fun i=> ?_;rw[FO,Cb,Cb,CI,C9]
 by_cases hi:i<L
 ·rw[DN hi]
  by_cases e:q=i
  ·subst e
   simp[hi]
  ·have e' :¬i=q:=fun z=>e z.symm
   simp[e,e']
 ·have:(List.range L)[i]? =none:=Dv (by simpa using hi)
  rw[this]
  by_cases e:q=i
  ·subst e
   simp[hi]
  ·simp[e]
noncomputable abbrev jC:=List (Int×Int)
noncomputable def Ba(c:jC)(k:Int):Option Int:=(c.find? fun p=>decide (p.1=k)).map (·.2)
noncomputable def xx(c:jC)(k v:Int):jC:=if(c.any fun p=>decide (p.1=k))=true then c.map (fun p=>if p.1=k then(p.1,v)else p)else c++[(k,v)]
noncomputable def addT(c:jC)(k n:Int):jC:=xx c k ((Ba c k).getD 0+n)
noncomputable def Am(t n:Int)(c:jC)(b:Int):jC:=if Builtin.bitAnd t b=0 then addT c (Builtin.bitOr t b) n else c
noncomputable def Al(B:List Int)(c:jC)(p:Int×Int):jC:=B.foldl (Am p.1 p.2) c
noncomputable def upT(B:List Int)(c lev:jC):jC:=lev.foldl (Al B) c
noncomputable def wl(Ls:List jC)(B:List Int):Nat->List jC
 | 0=>Ls++[[]]
 | i+1=>(wl Ls B i).set (i+1) (upT B ((wl Ls B i).getD (i+1) []) (Ls.getD i []))
section
variable{X:Cx}{Hi:Hp}{τ:En}{cd:Nat->List PV->Option PV}{ct:Ct}{O:List Addr}{σ:L2.St}{H H' :Hp}{D:dh}
noncomputable def Gr(O:List Addr)(A:Addr)(g:List (List Str))(H:Hp):Prop:=∃ds:List Addr,A∈O/\H A=some (.lst (ds.map V.ref))/\A∉ds/\ds.Nodup/\ds.length=g.length/\∀(q:Nat)(d:Addr)(r:List Str),ds[q]? =some d->g[q]? =some r->d∈O/\H d=some (.lst (r.map V.str))
theorem Gr.ext{A:Addr}{g:List (List Str)}(h:Gr O A g H)(s:aA H H'):Gr O A g H' :=by
 obtain⟨ds,h1,h2,h3,h4,h5,h6⟩:=h;exact⟨ds,h1,s _ _ h2,h3,h4,h5,fun q d r e1 e2=>⟨(h6 q d r e1 e2).1,s _ _ (h6 q d r e1 e2).2⟩⟩
theorem aQ.hides{K:W.Frag}{L:List Addr}(R:aQ K Hi O τ σ H)(s:aA H H')(h:∀d∈L,H d=none/\∃us,H' d=some (.lst us)):aQ K Hi (L++O) τ σ H' /\aA (aI H O) (aI H' (L++O)):=by
 have hs:aA (aI H O) (aI H' (L++O)):=fun b o e=>by
  unfold aI at e ⊢
  split at e
  ·cases e
  ·rename_i nb
   rw[CM fun z=> ?_]
   ·exact s b o e
   ·rcases DB.mp z with z|z
    ·rw[(h b z).1]at e
     cases e
    ·exact nb z
 refine⟨⟨R.same.trans s,fun l hl=> ?_,fun i v n e=> ?_,fun i t b xs n e ht=> ?_,R.dst⟩,hs⟩
 ·rcases DB.mp hl with hl|hl
  ·obtain⟨h0,us,h1⟩:=h l hl
   exact⟨R.same.free h0,_,h1,.lst⟩
  ·obtain⟨q,vs,e,mo⟩:=R.own l hl
   exact⟨q,vs,s _ _ e,mo⟩
 ·obtain⟨u,g1,g2⟩:=R.frz i v n e
  exact⟨u,g1,g2.mono hs⟩
 ·obtain⟨l,vs,o,g1,g2,g3,g4,g5⟩:=R.obs i t b xs n e ht
  exact⟨l,vs,o,g1,C1 _ g2,s _ _ g3,g4,g5.mono hs⟩
theorem oS{d:Addr}{o:HO}(hd:d∈O):aI (L2.upd H d o) O=aI H O:=by
 funext b
 unfold aI
 split
 ·rfl
 ·rename_i nb
  exact aF fun z=>nb (z▸hd)
theorem aQ.within{K:W.Frag}{d:Addr}{us:List V}(R:aQ K Hi O τ σ H)(no:∀(i:Nat) (t:TV),τ[i]? =some t->t.ob=none)(hd:d∈O):aQ K Hi O τ σ (L2.upd H d (.lst us)) where
 same:=R.same.upd (R.own d hd).1
 own:=fun l hl=>by
  obtain⟨q,o,e,mo⟩:=R.own l hl
  by_cases z:l=d
  ·exact⟨q,_,by rw[z,aW],.lst⟩
  ·exact⟨q,o,by rw[aF z];exact e,mo⟩
 frz:=fun i v n e=>by rw[oS hd];exact R.frz i v n e
 obs:=fun i t b xs n e ht=>by rw[no i t e]at ht;cases ht
 dst:=R.dst
theorem iP(C:bB cd X ct)(hfn:X.fn=fun _=>true){x:Str}{i n:Nat}{it:Expr}{it' :IT}{body:List Stmt}{xp pos:Pos}{xs:List PV}{k:Bool}(hx:loc ct x=some i)(ti:rF n ct false it=it')(hi:lQ cd it' τ=some (xs,k,false))
  (R:aQ X.K Hi O τ σ H) (hl:σ.length=X.N.length) (W:Nat->En->L2.St->Hp->Prop) (wm:∀j υ σ' G G',aA G G' ->W j υ σ' G->W j υ σ' G') (w0:W 0 τ σ H)
  (step:∀(j:Nat)(y:PV)(υ:En)(σ' :L2.St)(G:Hp)(u:V)(D' :dh),xs[j]? =some y->aQ X.K Hi O (υ.set i (.frz y (k||imm y))) (σ'.set i (some u)) G->(σ'.set i (some u)).length=X.N.length->W j υ σ' G ->
   (∀(υ2:En)(σ2:L2.St)(G2:Hp),aQ X.K Hi O υ2 σ2 G2->σ2.length=X.N.length->aA (aI G O) (aI G2 O)->W (j+1) υ2 σ2 G2->D'.nx σ2 G2)->wT X body D' (σ'.set i (some u)) G)
  (fin:∀(υ:En)(σ' :L2.St)(G:Hp),aQ X.K Hi O υ σ' G->σ'.length=X.N.length->aA (aI H O) (aI G O)->W xs.length υ σ' G->D.nx σ' G):WS X (.For (.Name x xp) it body [] pos) D σ H:=by
 obtain⟨h1,h2,h3,h4⟩:=cx C hx;rw[<- ti]at hi;obtain⟨ig,hset⟩:=(bM n).t X ct Hi τ false it (.Name x xp) xs k false C (fun z=>by cases z) hi;refine ws (mY C.xe C.calm md (dk (by rw[C.N];exact C.nd) h1 h2 (.inl (by rw[hfn]))) bX (cv hset)) ?_;refine ig O σ H _ R fun J H1 sJ En=> ?_;rw[CM CT]at En;refine⟨fun j m σ' G=>m=xs.length-j/\j<=xs.length/\∃υ:IR.En,aQ X.K Hi O υ σ' G/\σ'.length=X.N.length/\aA (aI H1 O) (aI G O)/\W j υ σ' G,⟨xs.length,by simp,DG _,_,R.ext sJ,hl,aA.refl _,wm _ _ _ _ _ sJ w0⟩,?_⟩;rintro j m σ' G ⟨rfl,hj,υ,RP,hlP,sP,w⟩;have wr:ud (aI H1 O) G O:=⟨RP.lsts,sP⟩;have s01:aA (aI H O) (aI H1 O):=aC sJ
 by_cases hlt:j<xs.length
 ·refine .inr ⟨En.go G O j wr hlt,fun σ2 G2=>∃m',m' <xs.length-j/\(m' =xs.length-(j+1)/\j+1<=xs.length/\∃υ:IR.En,aQ X.K Hi O υ σ2 G2/\σ2.length=X.N.length/\aA (aI H1 O) (aI G2 O)/\W (j+1) υ σ2 G2),
   fun σ2 G2 h=>h,fun u G' y=> ?_⟩
  obtain⟨sG,z,hz,rz⟩:=En.yld G O j u G' wr hlt y;have s3:aA (aI H1 O) (aI G' O):=sP.trans (aC sG);have hi' :i<σ'.length:=by rw[hlP];exact(CY.mp h1).1
  exact step j z υ σ' G' u _ hz ((RP.ext sG).setF hi' rz.up) (by rw[Dg];exact hlP) (wm _ _ _ _ _ sG w) fun υ2 σ2 G2 R2 hl2 s2 w2=>⟨_,by omega,rfl,hlt,υ2,R2,hl2,s3.trans s2,w2⟩
 ·have e:j=xs.length:=by omega
  subst e;exact .inl ⟨En.stop G O wr,fin υ σ' G RP hlP (s01.trans sP) w⟩
theorem vb(C:bB cd X ct)(hfn:X.fn=fun _=>true){n fu:Nat}{st:Stmt}{s' :IS}{τ' :En}(ts:mE n ct st=s')(h:eR cd fu s' τ=some (.nx τ'))(R:aQ X.K Hi O τ σ H)(hl:σ.length=X.N.length)(q:lq X Hi O H τ' D.nx):WS X st D σ H:=by
 subst ts;exact(wQ n).s X ct Hi τ st _ C hfn h O σ H D R hl q
theorem rt_w(C:bB cd X ct)(hfn:X.fn=fun _=>true){n fu:Nat}{st:Stmt}{s' :IS}{v:PV}(ts:mE n ct st=s')(h:eR cd fu s' τ=some (.rt v))(R:aQ X.K Hi O τ σ H)(hl:σ.length=X.N.length)(q:∀u H',aA Hi H' ->Rp X.K Hi true v H' u->D.rt u H'):WS X st D σ H:=by
 subst ts;exact(wQ n).s X ct Hi τ st _ C hfn h O σ H D R hl q
theorem if_w(C:bB cd X ct){n:Nat}{c:Expr}{c' :IC}{t:Bool}{a b:List Stmt}{pos:Pos}(tc:jX n ct c=c')(ht:dw cd c' τ=some t)(R:aQ X.K Hi O τ σ H)(h1:t=true->∀G,aA H G->wT X a D σ G)(h0:t=false->∀G,aA H G->wT X b D σ G):WS X (.If c a b pos) D σ H:=by
 refine ws (rn iq bX bX) ?_;rw[<- tc]at ht;refine(bM n).c X ct Hi τ c t C ht O σ H _ R fun G s=> ?_;cases t with
 | true=>exact mz (h1 rfl G s)
 | false=>exact ju (h0 rfl G s)
theorem aD.strs2{K:W.Frag}{n:Bool}{H:Hp}:∀{xs:List Str},aD K Hi n (xs.map PV.str) H (xs.map V.str)
 | []=>.nil
 | x::xs=>.cons (Rp.str.mpr rfl) aD.strs2
theorem fA{α:Type}{l:List α}{i j:Nat}{x:α}(h:l.Nodup)(hi:l[i]? =some x)(hj:l[j]? =some x):i=j:=by
 obtain⟨a,b⟩:=CY.mp hi;obtain⟨c,d⟩:=CY.mp hj;exact(List.getElem_inj h).mp (b.trans d.symm)
theorem aD.strs'{K:W.Frag}{n:Bool}{H:Hp}:∀{xs:List Str}{us:List V},aD K Hi n (xs.map PV.str) H us->us=xs.map V.str
 | [],us,h=>by unfold aD at h;exact h
 | x::xs,us,h=>by
  rw[Cc,aD]at h;obtain⟨u,r,rfl,a,b⟩:=h;rw[Rp.str.mp a,aD.strs' b];rfl
theorem pC(C:bB cd X ct){n:Nat}{x:Str}{i:Nat}{e ka kb:Expr}{e' ka' kb' :IE}{xp sp sp1 pos:Pos}{ra rb:RV}{z:Str}{m:Bool}{a b:Nat}{A:Addr}{g:List (List Str)}{r:List Str}(hx:loc ct x=some i)(ha1:fD ka=false)(hb1:fD kb=false)(hnc:nB e=false)
  (te:af n ct e=e') (ta:af n ct ka=ka') (tb:af n ct kb=kb') (hr:aS cd e' τ=some (.frz (.str z) m)) (hra:aS cd ka' τ=some ra) (hva:ra.val=.int a) (hrb:aS cd kb' τ=some rb) (hvb:rb.val=.int b)
  (R:aQ X.K Hi O τ σ H) (no:∀(i:Nat)(t:TV),τ[i]? =some t->t.ob=none) (hA:σ[i]? =some (some (.ref A))) (hg:Gr O A g H) (hr0:g[a]? =some r) (hb0:b<r.length)
  (q:∀H',aQ X.K Hi O τ σ H' ->aA (aI H O) (aI H' O)->Gr O A (g.set a (r.set b z)) H' ->D.nx σ H'):WS X (.Assign [.Subscript (.Subscript (.Name x xp) ka sp1) kb sp] e pos) D σ H:=by
 obtain⟨h1,h2,h3,h4⟩:=cx C hx;obtain⟨o1,o2,o3⟩:=bI h3;rw[<- te]at hr;rw[<- ta]at hra;rw[<- tb]at hrb
 have ha:∀v,assign (.Subscript (.Subscript (.Name x xp) ka sp1) kb sp) X.env v=(do
   let ov<-holding [v] (eval (.Subscript (.Name x xp) ka sp1) X.env)
   let iv<-holding [v,ov] (eval kb X.env)
   standAt sp
   holding [v,ov,iv] (setItem ov iv v)
   release [v,ov,iv] []):=by
  intro v;cases kb<;>first|rfl|cases hb1
 refine ws (yA aU (yF (wn gm (fW h1 (gr C.S h4) o1 o2) aU (oG ha1)) aU rX ha) (by cases e<;>first|rfl|cases hnc) (by cases e<;>rfl) rfl) ?_;refine(bM n).e X ct Hi _ e _ C hr O σ H _ R fun u H1 s1 ok=> ?_;have ok:Rp X.K Hi m (.str z) (aI H1 O) u:=ok;have eu:u=.str z:=Rp.str.mp ok;subst eu;refine⟨_,hA,?_⟩;refine(bM n).e X ct Hi _ ka _ C hra O σ H1 _ (R.ext s1) fun w H2 s2 ok2=> ?_;obtain⟨ds,d1,d2,d3,d4,d5,d6⟩:=hg.ext (s1.trans s2);have hal:a<ds.length:=by rw[d5];exact(CY.mp hr0).1
 have had:ds[a]? =some ds[a]:=CW hal;obtain⟨d,hd⟩:∃d,d=ds[a]:=⟨_,rfl⟩;rw[<- hd]at had;obtain⟨e1,e2⟩:=d6 a d r had hr0;refine⟨A,_,(a:Nat),.ref d,rfl,ok2.int (R.ext s1) s2 hva,ao.of d2,cN (by rw[Cb,had];rfl),?_⟩;refine(bM n).e X ct Hi _ kb _ C hrb O σ H2 _ (R.ext (s1.trans s2)) fun w3 H3 s3 ok3=> ?_;have e3:=s3 _ _ e2;refine⟨d,_,(b:Nat),b,rfl,ok3.int (R.ext (s1.trans s2)) s3 hvb,e3,?_,?_⟩
 ·unfold tF
  rw[CQ (Int.natCast_nonneg b),CQ (by rw[CI];omega)];rfl
 have R3:=R.ext (s1.trans (s2.trans s3));refine q _ (R3.within no e1) (by rw[oS e1];exact aC (s1.trans (s2.trans s3))) ?_;have dA:A≠d:=fun z=>d3 (z▸C7 had);refine⟨ds,d1,by rw[aF dA];exact s3 _ _ d2,d3,d4,by rw[Dg];exact d5,fun p c y g1 g2=> ?_⟩;rw[FO]at g2
 by_cases hp:a=p
 ·subst hp
  rw[had]at g1;cases g1;rw[CQ rfl,CQ (by rw[<- d5];exact hal)]at g2;cases g2;exact⟨e1,by rw[aW,List.map_set]⟩
 ·rw[CM hp]at g2
  obtain⟨f1,f2⟩:=d6 p c y g1 g2;have ne:c≠d:=fun w=>hp (fA d4 had (by rw[w]at g1;exact g1));exact⟨f1,by rw[aF ne];exact s3 _ _ f2⟩
theorem vz(C:bB cd X ct)(hfn:X.fn=fun _=>true){n:Nat}{x t:Str}{i:Nat}{iter elt:Expr}{iter' :IT}{elt' :IE}{scope:Scope}{xp tp lp pos:Pos}{caps:List Nat}{xs:List PV}{k:Bool}{row:List Str}(hx:loc ct x=some i)
  (h:mx ct t scope=true) (hc:slots ct.N (frees scope)=some caps) (ti:rF n ct false iter=iter') (te:af n (blk ct t scope) elt=elt') (hi:lQ cd iter' τ=some (xs,k,false)) (hz:xs.length<=LN)
  (he:∀y∈xs,aS cd elt' (.frz y (k||imm y)::caps.map fun i=>τ.getD i .un)=some (.own (row.map .str) true))
  (R:aQ X.K Hi O τ σ H) (hl:σ.length=X.N.length)
  (q:∀(A:Addr)(O' :List Addr)(H' :Hp),aQ X.K Hi O' (τ.set i .un) (σ.set i (some (.ref A))) H' ->aA (aI H O) (aI H' O')->Gr O' A (List.replicate xs.length row) H' ->D.nx (σ.set i (some (.ref A))) H') :
  WS X (.Assign [.Name x xp] (.ListComp elt [⟨.Name t tp,iter,[],0⟩] scope lp) pos) D σ H:=by
 obtain⟨h1,h2,h3,h4,h5,h6,h7⟩:=fB h;obtain⟨x1,x2,x3,x4⟩:=cx C hx;rw[<- ti]at hi;subst te;obtain⟨ig,hset⟩:=(bM n).t X ct Hi τ false iter (.Name t tp) xs k false C (fun z=>by cases z) hi;have hmem:∀x∈frees scope,(x,NameKind.free)∈scope.names:=fun x hx=>C2 (h7 x hx);have hsrc:bF X scope (t::frees scope) (none::caps.map some):=g0 C hc fun x hx=>⟨h7 x hx,h4 _ (hmem x hx) rfl⟩;have hfr:eD X.env.scope scope=true:=by
  unfold eD;rw[Cw];intro y hy;rw[C.S]
  by_cases e:y.2=.free
  ·rcases h4 y hy e with z|z<;>simp[e,z]
  ·simp[e]
 have hlen:=fR hc;have hN:X.N.Nodup:=by rw[C.N];exact C.nd
 have read:xT X (t::frees scope) (none::caps.map some) scope (.Name t tp) [] elt (fun σ H R=>WI X (.Name t tp) iter σ H R) σ H (fun u H' =>D.nx (σ.set i (some u)) H'):=by
  refine ig O σ H _ R fun J H1 s1 En=> ?_;intro A hA;rw[CM CT]at En;have ok:∀(G:Hp)(ys:List V),aA H1 G->G A=some (.lst ys)->ud (aI H1 O) G (A::O):=by
   intro G ys sG gD;refine⟨fun l hl=> ?_,fun c o e=> ?_⟩
   ·rcases Ca.mp hl with rfl|hl
    ·exact⟨_,gD,.lst⟩
    ·obtain⟨us,e,mo⟩:=(R.own l hl).2
     exact⟨us,sG _ _ (s1 _ _ e),mo⟩
   ·unfold aI at e ⊢
    split at e
    ·cases e
    ·rename_i nb
     have ne:c≠A:=aP e hA;rw[CM (by simp[ne,nb])];exact sG c o e
  refine⟨fun j m ys G=>m=xs.length-j/\j<=xs.length/\aA H1 G/\∃ds:List Addr,ys=ds.map V.ref/\G A=some (.lst ys)/\A∉ds/\ds.Nodup/\ds.length=j/\∀d∈ds,H1 d=none/\G d=some (.lst (row.map V.str)),
   ⟨xs.length,by simp,DG _,aH hA _,[],rfl,aW,by simp,by simp,rfl,by simp⟩,?_⟩
  rintro j m ys G ⟨rfl,hj,sG,ds,rfl,gA,dA,dn,dl,dd⟩
  by_cases hlt:j<xs.length
  ·refine .inr ⟨En.go G (A::O) j (ok G _ sG gA) hlt,fun u G' y=> ?_⟩
   obtain⟨sGG,y,hy,ry⟩:=En.yld G (A::O) j u G' (ok G _ sG gA) hlt y;intro Cf s2 H2 fp cl;have C' :=C.blk h Cf s2 H2 fp cl;have gA' :=sGG _ _ gA
   have RB:aQ X.K Hi (A::O) (.frz y (k||imm y)::caps.map fun i=>τ.getD i .un) (some u::bT (caps.map some) σ) G' :=
    (R.hide (s1.trans (sG.trans sGG)) (s1.free hA) gA').block (eO hc (DV.mp h5).2) ry.up
   refine⟨lK 0,wb,_,dk h5 rfl (n9 h6) (rG h6),kl,aU,?_⟩;refine⟨lf (by simp[hlen]),?_⟩;refine(bM n).e _ _ Hi _ elt _ C' (he y (C7 hy)) (A::O) _ G' _ RB fun w G5 s5 r5=> ?_;obtain⟨p,us,rfl,p0,p1,pr⟩:=r5;have eu:us=row.map V.str:=aD.strs' pr;subst eu;have pA:p≠A:=fun z=>by rw[z,gA']at p0;cases p0
   have pd:p∉ds:=fun z=>by rw[sGG _ _ (dd p z).2]at p0;cases p0
   have gA5:=s5 _ _ gA';have sT:=sG.trans (sGG.trans s5);have hz' :xs.length<=16777216:=hz;refine⟨gA5,by rw[bW,CI];omega,xs.length-(j+1),by omega,rfl,hlt,sT.upd hA,ds++[p],by rw[DQ];rfl,aW,?_,?_,by rw[CP,dl];rfl,fun d hd=> ?_⟩
   ·rw[DB,Cn]
    exact fun z=>z.elim dA (FK pA)
   ·exact List.nodup_append.mpr ⟨dn,by simp,fun a ha b hb z=>pd (by rw[Cn]at hb;rw[<- hb,<-z];exact ha)⟩
   ·rcases DB.mp hd with hd|hd
    ·obtain⟨f1,f2⟩:=dd d hd
     exact⟨f1,by rw[aF (show d≠A from fun z=>dA (by rw[<- z];exact hd))];exact s5 _ _ (sGG _ _ f2)⟩
    ·rw[Cn]at hd
     subst hd;exact⟨(sG.trans sGG).free p0,by rw[aF pA];exact p1⟩
  ·have e:j=xs.length:=by omega
   subst e;refine .inl ⟨En.stop G (A::O) (ok G _ sG gA),?_⟩;have hd:∀d∈A::ds,H d=none/\∃us,G d=some (.lst us):=fun d hd=>by
    rcases Ca.mp hd with rfl|hd
    ·exact⟨s1.free hA,_,gA⟩
    ·exact⟨s1.free (dd d hd).1,_,(dd d hd).2⟩
   obtain⟨R',sh⟩:=R.hides (s1.trans sG) hd;refine q A _ G R'.setN sh ⟨ds,Cd,gA,dA,dn,by rw[Dh];exact dl,fun p d r e1 e2=> ?_⟩;have hm:=C7 e1;rw[List.getElem?_replicate]at e2
   split at e2
   ·cases e2
    exact⟨D5 _ (CV _ hm),(dd d hm).2⟩
   ·cases e2
 by_cases hcc:X.env.kindOf x=some .local
 ·obtain⟨b,hb⟩:∃b,swapsWith (.ListComp elt [⟨.Name t tp,iter,[],0⟩] scope lp) (some (.Name x xp)) pos.line X.env=pure b:=⟨_,rfl⟩
  cases b with
  | true=>exact ws (ki C.calm md hsrc h1 h2 h3 hfr (cv hset) hN x1 x2 (.inl (by rw[hfn])) hb) read
  | false=>exact ws (fU hN x1 x2 (sO C.calm md hsrc h1 h2 h3 hfr (cv hset)) hb (.inl (by rw[hfn]))) read
 ·exact ws (fU hN x1 x2 (sO C.calm md hsrc h1 h2 h3 hfr (cv hset)) (sZ (.inr hcc)) (.inl (by rw[hfn]))) read
theorem aQ.shown{K:W.Frag}{i:Nat}{A:Addr}{g:List (List Str)}(R:aQ K Hi O τ σ H)(no:∀(i:Nat) (t:TV),τ[i]? =some t->t.ob=none)(hA:σ[i]? =some (some (.ref A)))(hg:Gr O A g H) :
  aQ K Hi [] (τ.set i (.frz (.lst (g.map fun r=>.lst (r.map .str))) true)) σ H/\aA (aI H O) (aI H []):=by
 have sh:aA (aI H O) (aI H []):=j0 fun b hb=>by cases hb
 have R0:aQ K Hi [] τ σ H:=⟨R.same,fun l hl=>(by cases hl),fun j v n e=>(by obtain⟨u,h1,h2⟩:=R.frz j v n e;exact⟨u,h1,h2.mono sh⟩),fun j t b xs n e ht=>(by rw[no j t e]at ht;cases ht),R.dst⟩;obtain⟨ds,d1,d2,d3,d4,d5,d6⟩:=hg;have key:∀(g:List (List Str))(es:List Addr),es.length=g.length->(∀(q:Nat)(d:Addr)(r:List Str),es[q]? =some d->g[q]? =some r->Hi d=none/\del H A d=some (.lst (r.map V.str)))->aD K Hi true (g.map fun r=>.lst (r.map .str)) (del H A) (es.map V.ref):=by
  intro g
  induction g with
  | nil =>
   intro es hl _;cases es with
   | nil=>exact .nil
   | cons _ _=>cases hl
  | cons r g ih =>
   intro es hl h;cases es with
   | nil=>cases hl
   | cons d es =>
    obtain⟨f1,f2⟩:=h 0 d r rfl rfl;refine .cons (Rp.lst.mpr ⟨d,_,rfl,fun _=>⟨f1,f2⟩,ao.of f2,?_⟩) (ih es (Nat.succ.inj hl) fun q c y e1 e2=>h (q+1) c y e1 e2);exact aD.strs2
 have hd:∀(q:Nat)(d:Addr)(r:List Str),ds[q]? =some d->g[q]? =some r->Hi d=none/\del H A d=some (.lst (r.map V.str)):=fun q d r e1 e2=>by
  obtain⟨f1,f2⟩:=d6 q d r e1 e2;refine⟨(R.own d f1).1,?_⟩;unfold del;rw[CM (show d≠A from fun z=>d3 (by rw[<- z];exact C7 e1))];exact f2
 have hi:i<σ.length:=(CY.mp hA).1
 have:=R0.setF (i:=i) (v:=.lst (g.map fun r=>.lst (r.map .str))) (n:=true) (u:=.ref A) hi (by
  rw[oU];exact Rp.lst.mpr ⟨A,_,rfl,fun _=>⟨(R.own A d1).1,d2⟩,ao.of d2,key g ds d5 hd⟩)
 have e:σ.set i (some (.ref A))=σ:=by
  refine FP fun j=> ?_;rw[FO]
  split
  ·rename_i z
   subst z
   first|rw[CQ hi,hA]|rw[hA]
  ·rfl
 rw[e]at this;exact⟨this,sh⟩
end
end IR
namespace IR
open PySem
noncomputable def xW{α:Type}(l:List α)(f:α->Int):Int:=(l.map f).sum
noncomputable def cnt:List (List Nat)->List Nat->Nat->Int
 | [],_,0=>1
 | [],_,_+1=>0
 | _::rs,T,0=>cnt rs T 0
 | r::rs,T,k+1=>cnt rs T (k+1)+xW (r.filter fun c=> !T.contains c) fun c=>cnt rs (c::T) k
noncomputable def Cols(rows:List (List Nat)):Prop:=∀r∈rows,∀c∈r,c<8
noncomputable abbrev uS:=Nat×Nat
noncomputable def zh(cells:List uS)(k:Nat):List uS:=(cells.drop (k+1)).filter fun c=>decide ((cells.getD k (0,0)).1<c.1)
noncomputable def pl:Nat->List uS->List Int->Nat->Int
 | _,_,_,0=>1
 | 0,_,_,_+1=>0
 | n+1,cells,T,j+1=>xW (List.range cells.length) fun k=>if T.contains ((cells.getD k (0,0)).2:Int)then 0 else pl n (zh cells k) (T++[((cells.getD k (0,0)).2:Int)]) j
noncomputable def freeC(T:List Nat)(l:List uS):List uS:=l.filter fun c=> !T.contains c.2
end IR
namespace IR
open PySem L2
noncomputable def bk(w j:Nat):Nat:=if j<w then w-1-j else j
noncomputable def ch:Nat->Nat->Nat
 | _,0=>1
 | 0,_+1=>0
 | n+1,k+1=>ch n (k+1)+ch n k
noncomputable def fl:Nat->Nat->Nat
 | _,0=>1
 | n,k+1=>n*fl (n-1) k
noncomputable def fn(m n k:Nat):Int:=((ch m k*fl n k:Nat):Int)
section
variable(b:Nat->Nat->Bool)
noncomputable def ig:List Nat->List Nat->Nat->Int
 | [],_,j=>if j=0 then 1 else 0
 | i::L,C,j=>xW C fun c=>if b i c then(if j=0 then 0 else ig L (C.erase c) (j-1))else ig L (C.erase c) j
end
noncomputable def fx(x:Int):Nat->Int
 | 0=>1
 | m+1=>fx x m*(x-m)
end IR
namespace IR
end IR
namespace IR
end IR
namespace IR
open PySem L2
end IR
namespace IR
open PySem
end IR
namespace L2
open SQ
end L2
namespace OD
section
variable{α:Type}[DecidableEq α](ok:List α->α->Bool)
noncomputable def cnt:List α->List α->Nat->Nat
 | _,_,0=>1
 | _,[],_+1=>0
 | b,c::L,m+1=>(if ok b c then cnt (b++[c]) L m else 0)+cnt b L (m+1)
noncomputable def unr:List α->List α->Nat->Nat->List α
 | _,_,0,_=>[]
 | _,[],_+1,_=>[]
 | b,c::L,m+1,n=>if ok b c then(if n<cnt ok (b++[c]) L m then c::unr (b++[c]) L m n else unr b L (m+1) (n-cnt ok (b++[c]) L m))else unr b L (m+1) n
variable{ok}
variable(lt:α->α->Bool)
variable{lt}
end
end OD
namespace OD
section
variable{α:Type}[DecidableEq α]{ok:List α->α->Bool}{lt:α->α->Bool}
noncomputable def turn(ok:List α->α->Bool)(nb:List α->Int)(s:List α×Int)(c:α):List α×Int :=
 if ok s.1 c then(if s.2<nb (s.1++[c])then(s.1++[c],s.2)else(s.1,s.2-nb (s.1++[c])))else s
end
end OD
namespace IR
open PySem
noncomputable def wr(b:List (Int×Int))(c:Int×Int):Bool:=(b.all fun x=>decide (x.1<c.1))&&(b.all fun x=>decide (x.2≠c.2))
structure eH(b:List (Int×Int)):Prop where
 rows:(b.map (·.1)).Pairwise (·<·)
 cols:(b.map (·.2)).Nodup
section
variable{rows:List (List Nat)}(hr:∀cs∈rows,cs.Pairwise (·<·))
end
end IR
namespace OD
section
variable{α:Type}[DecidableEq α]{ok:List α->α->Bool}
noncomputable def fs{β:Type}(f:Nat->Option β):Nat->Option β
 | 0=>none
 | n+1=>(f n).or (fs f n)
noncomputable def tr(ok:List α->α->Bool):List α->List α->List α->Nat->Option (List α)
 | _,_,[],_=>none
 | _,[],_::_,_=>none
 | b,c::L,x::p,0=>if x=c then(if 0<cnt ok b L (p.length+1)then some (unr ok b L (p.length+1) 0)else none)else tr ok b L (x::p) 0
 | b,c::L,x::p,i+1=>if x=c then(tr ok (b++[c]) L p i).map (c::·)else tr ok b L (x::p) (i+1)
end
end OD
namespace IR
open PySem
noncomputable def chR(C:List (List Int))(r:Int):List Int:=C.getD r.toNat []
noncomputable def tkL(rec:jC->Int->List Int->Bool×jC×List Int)(row:Int):List Int->jC->List Int->Bool×jC×List Int
 | [],H,T=>(false,H,T)
 | c::cs,H,T=>if T.contains c then tkL rec row cs H T else match Ba H c with
  | none=>(true,xx H c row,T++[c])
  | some r=>match rec H r (T++[c])with
   | (true,H',T')=>(true,xx H' c row,T')
   | (false,H',T')=>tkL rec row cs H' T'
noncomputable def tk(C:List (List Int)):Nat->jC->Int->List Int->Bool×jC×List Int
 | 0,H,_,T=>(false,H,T)
 | n+1,H,row,T=>tkL (tk C n) row (chR C row) H T
noncomputable def hd(C:List (List Int)):Nat->jC
 | 0=>[]
 | k+1=>(tk C 9 (hd C k) (k:Nat) []).2.1
section
variable{C:List (List Int)}{H:jC}{n k:Nat}{R Q:List Int}
end
section
variable{rows:List (List Nat)}(hc:Cols rows)(hr:∀cs∈rows,cs.Pairwise (·<·))
include hr
end
noncomputable def bG(c:Int):Nat->List Nat×Int
 | 0=>([],c)
 | i+1=>((bG c i).1.take ((bG c i).2%((i:Int)+1)).toNat++i::(bG c i).1.drop ((bG c i).2%((i:Int)+1)).toNat,(bG c i).2/((i:Int)+1))
theorem fX(c:Int):∀n,(bG c n).1.Perm (List.range n)
 | 0=>.nil
 | i+1=>by
  rw[List.range_succ];refine List.perm_middle.trans ?_;rw[Cm];exact((fX c i).cons i).trans (EO (l₁:=[i]))
theorem en(c:Int)(n:Nat):(bG c n).1.length=n:=by rw[(fX c n).length_eq,C9]
theorem oJ{c:Int}{n r:Nat}(h:r<n):(bG c n).1[r]? =some ((bG c n).1.getD r 0)/\(bG c n).1.getD r 0<n:=by
 have hr:r<(bG c n).1.length:=by rw[en];exact h
 have e:(bG c n).1[r]? =some (bG c n).1[r]:=CW hr;have e2:(bG c n).1.getD r 0=(bG c n).1[r]:=by rw[Cs,e];rfl
 exact⟨by rw[e2];exact e,by rw[e2];exact DC.mp ((fX c n).mem_iff.mp (Dj hr))⟩
noncomputable def mixA(c j:Int):Int:=(c%2147483647*39373+7877*j*j+60493)%2147483647
noncomputable def mixS(n:Int):Int:=n*n%2147483629
noncomputable def mixE(n j:Int):Int:=(n*48271+j)*n%2147483587
noncomputable def yc(c j:Int):Int:=mixE (mixS (mixA c j)) j
noncomputable abbrev Gd:=List (List Str)
noncomputable def xz(g:Gd)(a b:Nat):Gd:=g.set a ((g.getD a []).set b "x")
noncomputable def qM(c:Int)(o q:List Nat)(r j:Nat)(g:Gd):Gd:=if 0<yc c (8*(r:Int)+(j:Int))%4 then xz g (o.getD r 0) (q.getD j 0)else g
noncomputable def AM(c:Int)(o q:List Nat)(r lo:Nat)(g:Gd):Nat->Gd
 | 0=>g
 | i+1=>qM c o q r (lo+i) (AM c o q r lo g i)
noncomputable def AL(c:Int)(o q:List Nat)(lo cl cn:Nat)(g:Gd):Nat->Gd
 | 0=>g
 | i+1=>AM c o q (lo+i) cl (AL c o q lo cl cn g i) cn
noncomputable def zX(c:Int)(o q s t:List Nat)(g:Gd):Nat->Gd
 | 0=>g
 | j+1=>AL c o q (s.take j).sum (t.take j).sum (t.getD j 0) (zX c o q s t g j) (s.getD j 0)
noncomputable def cJ(x:Int):List Nat:=[(1+x/8%3).toNat,(1+x/24%3).toNat,(1+x/72%2).toNat]
noncomputable def bU(x:Int):List Nat:=[(1+x/144%3).toNat,(1+x/432%3).toNat,(1+x/1296%2).toNat]
noncomputable def oV(x c:Int):Gd:=zX c (bG c (cJ x).sum).1 (bG (c/40320) (bU x).sum).1 (cJ x) (bU x) (List.replicate (cJ x).sum (List.replicate (bU x).sum ".")) 3
noncomputable def dF(x c:Int):List Str:=(oV x c).map fun r=>eL "" r
noncomputable def zU:List PV->Option PV
 | [.int x,.int c]=>some (.tup ((dF x c).map .str))
 | _=>none
noncomputable def fO(n m:Nat)(g:Gd):Prop:=g.length=n/\∀r∈g,r.length=m/\∀z∈r,z="."\/z="x"
theorem fO.at{n m a:Nat}{g:Gd}(h:fO n m g)(ha:a<n):g[a]? =some (g.getD a [])/\(g.getD a []).length=m/\∀z∈g.getD a [],z="."\/z="x":=by
 have hl:a<g.length:=by rw[h.1];exact ha
 have e:g[a]? =some g[a]:=CW hl;have e2:g.getD a []=g[a]:=by rw[Cs,e];rfl
 rw[e2];exact⟨e,h.2 _ (Dj hl)⟩
theorem fO.put{n m a b:Nat}{g:Gd}(h:fO n m g)(ha:a<n):fO n m (xz g a b):=by
 obtain⟨e,l,z⟩:=h.at ha;refine⟨by unfold xz;rw[Dg];exact h.1,fun r hr=> ?_⟩
 rcases List.mem_or_eq_of_mem_set hr with hr|rfl
 ·exact h.2 r hr
 ·exact⟨by rw[Dg];exact l,fun y hy=>(List.mem_or_eq_of_mem_set hy).elim (z y) .inr⟩
theorem fO.col{n m r j:Nat}{c:Int}{o q:List Nat}{g:Gd}(h:fO n m g)(ho:o.getD r 0<n):fO n m (qM c o q r j g):=by
 unfold qM
 split
 ·exact h.put ho
 ·exact h
theorem fO.ln{n m r lo:Nat}{c:Int}{o q:List Nat}{g:Gd}(h:fO n m g)(ho:o.getD r 0<n):∀i,fO n m (AM c o q r lo g i)
 | 0=>h
 | i+1=>(fO.ln h ho i).col ho
theorem fO.rw{n m lo cl cn:Nat}{c:Int}{o q:List Nat}{g:Gd}(h:fO n m g):∀i,(∀r,r<lo+i->o.getD r 0<n)->fO n m (AL c o q lo cl cn g i)
 | 0,_=>h
 | i+1,ho=>(fO.rw h i fun r hr=>ho r (by omega)).ln (ho _ (by omega)) _
theorem gw(s:List Nat)(j:Nat):(s.take (j+1)).sum=(s.take j).sum+s.getD j 0:=by
 rw[Eo,Cs];cases s[j]? <;>simp
theorem jY(s:List Nat)(j:Nat):(s.take j).sum<=s.sum:=by
 have:s.sum=(s.take j).sum+(s.drop j).sum:=by rw[<- List.sum_append,Cm]
 omega
theorem fO.bk{n m:Nat}{c:Int}{o q s t:List Nat}{g:Gd}(h:fO n m g)(hs:s.sum=n)(ho:∀r,r<n->o.getD r 0<n):∀j,fO n m (zX c o q s t g j)
 | 0=>h
 | j+1=>(fO.bk h hs ho j).rw _ fun r hr=>ho r (by have:=gw s j;have:=jY s (j+1);omega)
theorem Bl(n m:Nat):fO n m (List.replicate n (List.replicate m ".")) :=
 ⟨Dh,fun r hr=>by
  rw[(List.mem_replicate.mp hr).2];exact⟨Dh,fun z hz=>.inl (List.mem_replicate.mp hz).2⟩⟩
theorem rJ(x:Int):3<=(cJ x).sum/\(cJ x).sum<=8:=by
 unfold cJ;simp only[FU,List.sum_nil];omega
theorem qw(x:Int):3<=(bU x).sum/\(bU x).sum<=8:=by
 unfold bU;simp only[FU,List.sum_nil];omega
theorem jL(x c:Int):fO (cJ x).sum (bU x).sum (oV x c):=(Bl _ _).bk rfl (fun _ hr=>(oJ hr).2) 3
theorem lH:∀{r:List Str},(∀z∈r,z="."\/z="x")->(eL "" r).length=r.length
 | [],_=>rfl
 | [z],h=>by
  rcases h z (by simp)with e|e<;>(rw[e];rfl)
 | z::y::r,h=>by
  have ih:=lH (r:=y::r) fun w hw=>h w (CV _ hw);show(z++""++eL "" (y::r)).length=_;have e1:∀a b:Str,(a++b).length=a.length+b.length:=fun a b=>by
   show(a++b).cps.size=_;rw[PySem.Str.cps_append,Array.size_append];rfl
  have e2:z.length=1:=by rcases h z (by simp)with e|e<;>(rw[e];rfl)
  rw[e1,e1,ih,e2];show 1+0+(r.length+1)=r.length+1+1;omega
theorem re(x c:Int):(dF x c).length=(cJ x).sum/\∀z∈dF x c,z.length=(bU x).sum:=by
 have d:=jL x c;refine⟨by unfold dF;rw[CI];exact d.1,fun z hz=> ?_⟩;obtain⟨r,hr,rfl⟩:=DR.mp hz;rw[lH (d.2 r hr).2];exact(d.2 r hr).1
noncomputable def wF(rows:List Str):Bool:=decide (1<=rows.length)&&decide (rows.length<=8)&&rows.all (fun z=>decide (z.length=(rows.headD "").length))&&decide ((rows.headD "").length<=8)
noncomputable def nW:List PV->Option PV
 | [.tup xs]=>(bH xs).bind fun rows=>if wF rows=true then some (.bl true)else none
 | _=>none
theorem pF:∀{xs:List PV}{rows:List Str},bH xs=some rows->xs=rows.map PV.str:=by
 intro xs
 induction xs with
 | nil=>intro rows h;cases h;rfl
 | cons x xs ih =>
  intro rows h;cases x with
  | str z =>
   have h:(bH xs).map (z::·)=some rows:=h;cases e:bH xs with
   | none=>rw[e]at h;cases h
   | some r =>
    rw[e]at h;cases h;rw[ih e];rfl
  | _=>cases h
theorem mQ:∀rows:List Str,bH (rows.map PV.str)=some rows:=by
 intro r
 induction r with
 | nil=>rfl
 | cons z r ih=>rw[Cc,bH,ih];rfl
theorem wE{vs:List PV}{r:PV}(h:nW vs=some r):r=.bl true/\∃(rows:List Str)(w:Nat),vs=[.tup (rows.map .str)]/\rows≠[]/\rows.length<=8/\w<=8/\∀z∈rows,z.length=w:=by
 unfold nW at h
 split at h
 ·rename_i xs
  cases e:bH xs with
  | none=>rw[e]at h;cases h
  | some rows =>
   rw[e,Ch]at h
   split at h
   ·rename_i hb
    cases h;unfold wF at hb;rw[CK,CK,CK,Cw]at hb;obtain⟨⟨⟨h1,h2⟩,h3⟩,h4⟩:=hb;have h1:=ER h1;exact⟨rfl,rows,_,by rw[pF e],(fun z=>by rw[z]at h1;exact absurd h1 (by decide)),ER h2,ER h4,fun z hz=>ER (h3 z hz)⟩
   ·cases h
 ·cases h
theorem zR{rows:List Str}{w:Nat}(h0:rows≠[])(h8:rows.length<=8)(w8:w<=8)(hw:∀z∈rows,z.length=w):nW [.tup (rows.map .str)]=some (.bl true):=by
 show((bH (rows.map PV.str)).bind fun rows=>if wF rows=true then some (PV.bl true)else none)=_;rw[mQ,Ch,CQ];cases rows with
 | nil=>exact absurd rfl h0
 | cons y rows =>
  have ey:=hw y Cd;unfold wF;rw[CK,CK,CK,Cw];exact⟨⟨⟨DZ (Nat.succ_le_succ (DG _)),DZ h8⟩,fun z hz=>DZ (by rw[hw z hz];exact ey.symm)⟩,DZ (by show y.length<=8;omega)⟩
end IR
namespace XE
open PySem
structure Up(fs ns:List Addr)(h h' :Heap):Prop where
 keep:∀b o,h.get? b=some o->b∉fs->b∉ns->h'.get? b=some o
 slot:∀b o,h.get? b=some o->b∈fs->∃sl,h'.get? b=some {o with slots:=sl}
section
variable{M:Model}{A:Around}{E:Value->Shared->Prop}{s:Shared}{base:Heap}{env:Env}{outer:List Env}{L e T:Addr}{cls fl:Value}{dd:Option Addr}{Q:Unit->Shared->Prop}{oe:Obj}{vs:Array Value}
end
end XE
namespace XE
open PySem PySem.W PyProof.Rows
section
variable{prog:Program}{w:World}{A:Around}{E:Value->Shared->Prop}{s:Shared}{K:Frag}{e C:Addr}{ox:Obj}{od:Option Obj}
end
end XE
namespace L2.XN
open PySem PySem.Spec PyProof.Rows L2 XE
section
variable{P:Program}{w:World}{H H' :Hp}{h h' h2:Heap}{a:Addr}{o:HO}{fs ns:List Addr}
end
section
variable{P:Program}{w:World}{K:W.Frag}{mg:Str->Option Value}{base:Heap}{N:List Str}{qual:Str}{scope:Scope}{f C:Addr}{cd:Value}{A:Around}{outer:List Env}{s s1:Shared}{H H1:Hp}{E:XK}
 {pins:List (Addr×Obj)} {σ:St}
end
end L2.XN
namespace L2.XN
open PySem PySem.Spec PyProof.Rows L2 XE
section
variable{X:Cx}{pins:List (Addr×Obj)}{σ:St}{H:Hp}{s:Shared}{Wh:Value->Shared->Prop}{A:Around}{cm:Bool}
noncomputable abbrev A2(X:Cx)(pn:List (Addr×Obj))(Wh:Value->Shared->Prop):Cx:={X with pn:=pn,xe:=Wh}
theorem pinned(I:Inv X pins σ H s):Inv (A2 X (X.pn++pins) Wh) [] σ H s :=
 ⟨⟨I.ok.mod,I.ok.kind,I.ok.glob,I.ok.blt,I.ok.above,I.ok.inj,I.ok.has,I.ok.cab,I.ok.hd,I.ok.frames,I.ok.stk,I.ok.exf,I.ok.bs,I.ok.bsz,I.ok.noex,I.ok.exfs,I.ok.funs,I.ok.frf⟩,I.os,I.bare,I.base,I.loc,I.cell,I.free,I.freeC,
  fun p hp=>I.pin p (by rw[DL]at hp;exact hp),I.hok,I.len⟩
theorem unpinned{p2:List (Addr×Obj)}(ok:X.Ok)(I:Inv (A2 X (X.pn++pins) Wh) p2 σ H s):Inv X pins σ H s :=
 ⟨ok,I.os,I.bare,I.base,I.loc,I.cell,I.free,I.freeC,fun p hp=>I.pin p (D5 _ hp),I.hok,I.len⟩
end
end L2.XN
namespace L2.XN
open PySem PySem.Spec PyProof.Rows L2 XE
section
variable{K:W.Frag}{mg:Str->Option Value}{x:Str}{C D:Addr}{b:Bool}
end
section
variable{X:Cx}{e C:Addr}{dd:Option Addr}{oe:Obj}{c:V}{u:Value}{b:Bool}
end
end L2.XN
namespace XE
open PySem
section
variable{M:Model}{A:Around}{E:Value->Shared->Prop}{h:Heap}{g:Array GenState}{d:Drawn}{t:Nat}{os:OsState}
variable{nm q:Str}{C N:Addr}{bs bm bmB:List Value}{hdct:Bool}{sn:List Str}{sub:List Value}{ab:Bool}{col:Option Bool}{dd:Option Addr}{k0 k1 k2 k3 k5:Option Value}{B Bn newId nid initId inN:String}{bmN:List Value}
end
section
variable{prog:Program}{w:World}{A:Around}{R:Result->Shared->Prop}{h:Heap}{g:Array GenState}{d:Drawn}{t:Nat}{os:OsState}
variable{nm q:Str}{C N:Addr}{bs bm bmB:List Value}{hdct:Bool}{sn:List Str}{sub:List Value}{ab:Bool}{col:Option Bool}{dd:Option Addr}{k0 k1 k2 k3 k5:Option Value}{B Bn newId nid initId inN:String}{bmN:List Value}
end
section
variable{prog:Program}{w:World}{A:Around}{E:Value->Shared->Prop}{h:Heap}{g:Array GenState}{d:Drawn}{t:Nat}{os:OsState}
variable{nm q:Str}{C N:Addr}{bs bm bmB:List Value}{hdct:Bool}{sn:List Str}{sub:List Value}{ab:Bool}{col:Option Bool}{dd:Option Addr}{k0 k1 k2 k3 k5:Option Value}{B Bn newId nid initId inN:String}{bmN:List Value}
end
section
open PySem.W Builtin Builtin.ObjectAttr
variable{prog:Program}{w:World}{A:Around}{E:Value->Shared->Prop}{s:Shared}{K:Frag}{x C:Addr}{name:Str}{v:Value}{cd:ClassData}{o:Obj}
end
end XE
namespace XE
open PySem PySem.W PyProof.Rows
section
variable{prog:Program}{w:World}{A:Around}{E:Value->Shared->Prop}{s:Shared}{K:Frag}{e C:Addr}{ox:Obj}{od:Option Obj}{name:Str}{v:Value}
end
end XE
namespace L2.XN
open PySem PySem.Spec PyProof.Rows L2 XE
noncomputable def XN(C:Addr)(dd:Option Addr)(e:Addr):HO:=.ext fun h=>∃t,h.get? e=some {cls:=.ref C,dict:=dd,data:=.fields #[.ref t,.none,.none,.none,.bool false,.none]}
section
variable{P:Program}{w:World}{H H1 H2:Hp}{h h2:Heap}{e C:Addr}{dd:Option Addr}{o:HO}{fs ex:List Addr}
end
section
variable{X:Cx}{pins:List (Addr×Obj)}{σ:St}{H:Hp}{s:Shared}{C f e:Addr}{nm:Str}{k:Nat}{fd:FuncData}{ps:List Str}{sp:Sp}{E:XK}{Q:VK}{us ws:List Value}{zs:List V}{kw:List (Str×Value)}
end
end L2.XN
namespace L2.XN
open PySem PySem.Spec PyProof.Rows L2 XE
section
variable{X:Cx}{pins:List (Addr×Obj)}{σ:St}{H:Hp}{s:Shared}{C f e:Addr}{nm x:Str}{k:Nat}{fd:FuncData}{ps:List Str}{sp:Sp}{E:XK}{Q:VK}{p pos pos' :Pos}{e1 o value:Expr}{es:List Expr}{t:TA}{ta tv te:TE}{dvs:List V}{ds:List Value}
end
section
variable{X:Cx}{ex:Expr}{te:TE}{pos:Pos}
end
section
variable{P:Program}{w:World}{K:W.Frag}{mg:Str->Option Value}{base:Heap}{N:List Str}{qual:Str}{scope:Scope}{f C:Addr}{cd:Value}{A:Around}{outer:List Env}{s s1:Shared}{H H1:Hp}{E:XK}
 {pins:List (Addr×Obj)} {σ:St}
end
end L2.XN
namespace L2.XN
open PySem PySem.Spec PyProof.Rows L2 XE
section
variable{X:Cx}{pins:List (Addr×Obj)}{σ:St}{H:Hp}{s:Shared}
end
end L2.XN
namespace L2.XN
open PySem PySem.Spec PyProof.Rows L2 XE
section
variable{X:Cx}{pins:List (Addr×Obj)}{σ:St}{H:Hp}{s:Shared}{C f e:Addr}{nm nk x:Str}{k:Nat}{fd:FuncData}{ps:List Str}{sp:Sp}{E:XK}{Q:VK}{p pos kpos:Pos}{e1:Expr}{te:TE}
end
end L2.XN
namespace L2.XN
open PySem PySem.Spec PyProof.Rows L2 XE
section
variable{P:Program}{w:World}{K:W.Frag}{mg:Str->Option Value}{base:Heap}{N ps:List Str}{qual:Str}{scope:Scope}{f:Addr}{A:Around}{outer:List Env}{s s1:Shared}{H:Hp}{us:List Value}{vs:List V}{k:Nat}{sp:Sp}
end
section
variable{X:Cx}{k:Nat}{f:Addr}{fd:FuncData}{ps:List Str}{sp:Sp}{x:Str}{p pos:Pos}{e:Expr}{es:List Expr}{t:TA}
end
end L2.XN
namespace IR
open PySem PySem.Spec PyProof.Rows L2 L2.XN
section
variable(cd:Nat->List PV->Option PV)(xd:Nat->List PV->Bool)(fu:Nat)(cn:Str)
end
section
variable{cd:Nat->List PV->Option PV}{xd:Nat->List PV->Bool}{fu:Nat}{cn:Str}{C:Addr}{E:XK}{X:Cx}{ct:Ct}{Hi:Hp}{τ:En}
end
section
variable{cd:Nat->List PV->Option PV}{xd:Nat->List PV->Bool}{fu:Nat}{cn:Str}{τ τ1:En}{s:IS}{ss:qb}
end
section
variable{K:W.Frag}{mg:Str->Option Value}{P:Nat->Option FD}{F:List (Str×Nat)}{G:List (Str×PV)}{B:List Str}{p:Program}{w:World}{base:Heap}{k:Nat}
variable(hG:∀x v,G.lookup x=some v->∃u w,mg x=some u/\RelV w u/\∀Hi n H,Rp K Hi n v H w)(hB:∀x,B.contains x=true->mg x=none)
include hG hB
end
section
variable{K:W.Frag}{mg:Str->Option Value}{P:Nat->Option FD}{F0:List (Str×Nat)}{G0:List (Str×PV)}{B0:List Str}
end
end IR
namespace Law
open PySem PySem.Spec PyProof.Rows L2 IR
noncomputable def kQ(i:Nat):Stmt:=PySem.Challenge.pw_unstruck_k21_parts_of.main.body.getD i (.Pass ⟨0,0,0,0⟩)
noncomputable def F:List (Str×Nat):=[("cells_of",3),("hangs_on",70),("joined",71),("parts_of",72),("_law_cell",4),("_law_mixed",5),("_law_board",6),("_law_order",21),("_law_blocks",76),("_law_cells",7),("_law_whole",8),("_law_same",9),("_law_all_same",10),("_law_shares",81),("_law_parts",82),("_law_good",83),("law",84)]
noncomputable def G:List (Str×PV):=[("CELL",(.str "x"))]
noncomputable def B:List Str:=["len","int","list","tuple","min","max","isinstance","str","bool","range","zip","enumerate","sorted","sum","any"]
noncomputable abbrev s3:Stmt:=kQ 2
noncomputable abbrev N3:List Str:=["board","cells","row","line","column","sign"]
noncomputable abbrev s70:Stmt:=kQ 4
noncomputable abbrev N70:List Str:=["part","cell"]
noncomputable abbrev s71:Stmt:=kQ 5
noncomputable abbrev N71:List Str:=["parts","cell","cells","part"]
noncomputable abbrev s72:Stmt:=kQ 6
noncomputable abbrev N72:List Str:=["board","parts","cell","hanging","apart"]
noncomputable abbrev s4:Stmt:=kQ 8
noncomputable abbrev N4:List Str:=["_law_script","_law_k"]
noncomputable abbrev s5:Stmt:=kQ 9
noncomputable abbrev N5:List Str:=["_law_cell_here","_law_k","_law_number"]
noncomputable abbrev s6:Stmt:=kQ 10
noncomputable abbrev N6:List Str:=["_law_head","_law_cell_here","_law_most","_law_rows","_law_columns","_law_thick","_law_lines","_law_row","_law_signs","_law_column","_law_place","_law_one"]
noncomputable abbrev s21:Stmt:=kQ 11
noncomputable abbrev N21:List Str:=["_law_cell_here","_law_many","_law_found","_law_k"]
noncomputable abbrev AK:Stmt:=kQ 12
noncomputable abbrev AQ:List Str:=["_law_head","_law_cell_here","_law_sizes","_law_wide","_law_rows","_law_columns","_law_lines","_law_k","_law_row","_law_column"]
noncomputable abbrev s7:Stmt:=kQ 13
noncomputable abbrev N7:List Str:=["_law_board_here","_law_found","_law_row","_law_column"]
noncomputable abbrev s8:Stmt:=kQ 14
noncomputable abbrev N8:List Str:=["_law_found"]
noncomputable abbrev s9:Stmt:=kQ 15
noncomputable abbrev N9:List Str:=["_law_found","_law_due"]
noncomputable abbrev s10:Stmt:=kQ 16
noncomputable abbrev N10:List Str:=["_law_found","_law_due","_law_one","_law_other"]
noncomputable abbrev s81:Stmt:=kQ 17
noncomputable abbrev N81:List Str:=["_law_part","_law_cell_here"]
noncomputable abbrev s82:Stmt:=kQ 18
noncomputable abbrev N82:List Str:=["_law_board_here","_law_parts_here","_law_cell_here","_law_joined","_law_others","_law_part"]
noncomputable abbrev Ap:Stmt:=kQ 19
noncomputable abbrev N83:List Str:=["_law_board_here","_law_due","_law_found","_law_part"]
noncomputable abbrev s84:Stmt:=kQ 20
noncomputable abbrev N84:List Str:=["_law_script","_law_k","_law_head","_law_board_here"]
noncomputable def d3:FD:=⟨6,1,
  (.cons (.asg 1 true [] (.lst .nil))
  (.cons (.forr [2,3] false [0] (.enum (.var 0)) (.cons (.forr [4,5] false [3] (.enum (.var 3)) (.cons (.ife (.val (.cmp .Eq (.var 5) (.con (.str "x")))) (.cons (.app 1 [2,4] (.tup (.cons (.var 2) (.cons (.var 4) .nil))))
  .nil) .nil)
  .nil))
  .nil))
  (.cons (.ret [1] (.var 1))
  .nil)))⟩
noncomputable def d70:FD:=⟨2,2,
  (.cons (.ret [] (.bf .any (.cons (.lc (.or (.cmp .Eq (.ix (.var 0) (.con (.int 0))) (.ix (.var 1) (.con (.int 0)))) (.cmp .Eq (.ix (.var 0) (.con (.int 1))) (.ix (.var 1) (.con (.int 1))))) (.seq (.var 0)) .no [1]) .nil)))
  .nil)⟩
noncomputable def d71:FD:=⟨4,2,
  (.cons (.asg 2 true [1] (.lst (.cons (.var 1) .nil)))
  (.cons (.forr [3] true [0] (.seq (.var 0)) (.cons (.ext 2 (.var 3))
  .nil))
  (.cons (.ret [2] (.bf .sorted (.cons (.var 2) .nil)))
  .nil)))⟩
noncomputable def d72:FD:=⟨5,1,
  (.cons (.asg 1 false [] (.lst .nil))
  (.cons (.forr [2] true [] (.seq (.call 3 (.cons (.var 0) .nil))) (.cons (.asg 3 false [] (.lc (.var 0) (.seq (.var 1)) (.yes (.val (.call 70 (.cons (.var 0) (.cons (.var 1) .nil))))) [2]))
  (.cons (.asg 4 false [] (.lc (.var 0) (.seq (.var 1)) (.yes (.not (.val (.call 70 (.cons (.var 0) (.cons (.var 1) .nil)))))) [2]))
  (.cons (.asg 1 false [4] (.bin .Add (.var 4) (.lst (.cons (.call 71 (.cons (.var 3) (.cons (.var 2) .nil))) .nil))))
  .nil))))
  (.cons (.ret [1] (.bf .sorted (.cons (.var 1) .nil)))
  .nil)))⟩
noncomputable def d4:FD:=⟨2,2,
  (.cons (.ife (.val (.cmp .Lt (.var 1) (.bf .len (.cons (.var 0) .nil)))) (.cons (.ret [] (.ix (.var 0) (.var 1)))
  .nil) .nil)
  (.cons (.ret [] (.con (.int 0)))
  .nil))⟩
noncomputable def d5:FD:=⟨3,2,
  (.cons (.asg 2 false [] (.bin .Mod (.bin .Add (.bin .Add (.bin .Mult (.bin .Mod (.var 0) (.con (.int 2147483647))) (.con (.int 39373))) (.bin .Mult (.bin .Mult (.con (.int 7877)) (.var 1)) (.var 1))) (.con (.int 60493))) (.con (.int 2147483647))))
  (.cons (.asg 2 false [] (.bin .Mod (.bin .Mult (.var 2) (.var 2)) (.con (.int 2147483629))))
  (.cons (.ret [2,1,2] (.bin .Mod (.bin .Mult (.bin .Add (.bin .Mult (.var 2) (.con (.int 48271))) (.var 1)) (.var 2)) (.con (.int 2147483587))))
  .nil)))⟩
noncomputable def d6:FD:=⟨12,3,
  (.cons (.asg 3 false [] (.bin .Add (.con (.int 1)) (.bin .Mod (.var 0) (.var 2))))
  (.cons (.asg 4 false [] (.bin .Add (.con (.int 1)) (.bin .Mod (.bin .FloorDiv (.var 0) (.con (.int 8))) (.var 2))))
  (.cons (.asg 5 false [] (.bin .Add (.con (.int 1)) (.bin .Mod (.bin .FloorDiv (.var 0) (.con (.int 64))) (.con (.int 8)))))
  (.cons (.asg 6 true [] (.lst .nil))
  (.cons (.forr [7] true [] (.rng (.cons (.var 3) .nil)) (.cons (.asg 8 false [] (.con (.str "")))
  (.cons (.forr [9] true [] (.rng (.cons (.var 4) .nil)) (.cons (.asg 10 false [] (.bin .Add (.bin .Mult (.var 4) (.var 7)) (.var 9)))
  (.cons (.asg 11 false [] (.cmp .Eq (.bin .Mod (.bin .FloorDiv (.var 1) (.bin .LShift (.con (.int 1)) (.var 10))) (.con (.int 2))) (.con (.int 1))))
  (.cons (.ife (.val (.cmp .Lt (.var 1) (.bin .LShift (.con (.int 1)) (.con (.int 64))))) (.cons (.asg 11 false [] (.cmp .Lt (.bin .Mod (.call 5 (.cons (.var 1) (.cons (.var 10) .nil))) (.con (.int 8))) (.var 5)))
  .nil) .nil)
  (.cons (.asg 8 false [8] (.bin .Add (.var 8) (.ix (.lst (.cons (.con (.str ".")) (.cons (.con (.str "x")) .nil))) (.bf .int (.cons (.var 11) .nil)))))
  .nil)))))
  (.cons (.app 6 [8] (.var 8))
  .nil))))
  (.cons (.ret [6] (.bf .tuple (.cons (.var 6) .nil)))
  .nil))))))⟩
noncomputable def d21:FD:=⟨4,2,
  (.cons (.asg 2 true [] (.lst .nil))
  (.cons (.forr [3] true [] (.rng (.cons (.var 1) .nil)) (.cons (.ins 2 (.bin .Mod (.var 0) (.bin .Add (.var 3) (.con (.int 1)))) (.var 3))
  (.cons (.asg 0 false [] (.bin .FloorDiv (.var 0) (.bin .Add (.var 3) (.con (.int 1)))))
  .nil)))
  (.cons (.ret [2] (.var 2))
  .nil)))⟩
noncomputable def Bq:FD:=⟨10,2,
  (.cons (.drop (.call 20001 (.cons (.con .non) .nil))) (.cons (.hand 2 zU) .nil))⟩
noncomputable def d7:FD:=⟨4,1,
  (.cons (.asg 1 true [] (.lst .nil))
  (.cons (.forr [2] true [] (.rng (.cons (.bf .len (.cons (.var 0) .nil)) .nil)) (.cons (.forr [3] true [] (.rng (.cons (.bf .len (.cons (.ix (.var 0) (.con (.int 0))) .nil)) .nil)) (.cons (.ife (.val (.cmp .Eq (.ix (.ix (.var 0) (.var 2)) (.var 3)) (.con (.str "x")))) (.cons (.app 1 [2,3] (.tup (.cons (.var 2) (.cons (.var 3) .nil))))
  .nil) .nil)
  .nil))
  .nil))
  (.cons (.ret [1] (.var 1))
  .nil)))⟩
noncomputable def d8:FD:=⟨1,1,
  (.cons (.ret [] (.and (.bf (.isin "int") (.cons (.var 0) .nil)) (.not (.bf (.isin "bool") (.cons (.var 0) .nil)))))
  .nil)⟩
noncomputable def d9:FD:=⟨2,2,
  (.cons (.ife (.val (.cmp .Is (.var 1) (.con .non))) (.cons (.ret [] (.cmp .Is (.var 0) (.con .non)))
  .nil) .nil)
  (.cons (.ife (.val (.bf (.isin "tuple") (.cons (.var 1) .nil))) (.cons (.ret [] (.and (.bf (.isin "tuple") (.cons (.var 0) .nil)) (.and (.cmp .Eq (.bf .len (.cons (.var 0) .nil)) (.bf .len (.cons (.var 1) .nil))) (.call 10 (.cons (.bf .list (.cons (.var 0) .nil)) (.cons (.bf .list (.cons (.var 1) .nil)) .nil))))))
  .nil) .nil)
  (.cons (.ife (.val (.bf (.isin "list") (.cons (.var 1) .nil))) (.cons (.ret [] (.and (.bf (.isin "list") (.cons (.var 0) .nil)) (.and (.cmp .Eq (.bf .len (.cons (.var 0) .nil)) (.bf .len (.cons (.var 1) .nil))) (.call 10 (.cons (.var 0) (.cons (.var 1) .nil))))))
  .nil) .nil)
  (.cons (.ife (.val (.bf (.isin "str") (.cons (.var 1) .nil))) (.cons (.ret [] (.and (.bf (.isin "str") (.cons (.var 0) .nil)) (.cmp .Eq (.var 0) (.var 1))))
  .nil) .nil)
  (.cons (.ret [] (.and (.call 8 (.cons (.var 0) .nil)) (.cmp .Eq (.var 0) (.var 1))))
  .nil)))))⟩
noncomputable def d10:FD:=⟨4,2,
  (.cons (.forr [2,3] false [0,1] (.zip (.var 0) (.var 1)) (.cons (.ife (.not (.val (.call 9 (.cons (.var 2) (.cons (.var 3) .nil))))) (.cons (.ret [] (.con (.bl false)))
  .nil) .nil)
  .nil))
  (.cons (.ret [] (.con (.bl true)))
  .nil))⟩
noncomputable def d81:FD:=⟨2,2,
  (.cons (.ret [] (.cmp .Gt (.bf .len (.cons (.lc (.var 0) (.seq (.var 0)) (.yes (.or (.val (.cmp .Eq (.ix (.var 0) (.con (.int 0))) (.ix (.var 1) (.con (.int 0))))) (.val (.cmp .Eq (.ix (.var 0) (.con (.int 1))) (.ix (.var 1) (.con (.int 1))))))) [1]) .nil)) (.con (.int 0))))
  .nil)⟩
noncomputable def d82:FD:=⟨6,1,
  (.cons (.asg 1 false [] (.lst .nil))
  (.cons (.forr [2] true [] (.seq (.call 7 (.cons (.var 0) .nil))) (.cons (.asg 3 false [2] (.lst (.cons (.var 2) .nil)))
  (.cons (.asg 4 true [] (.lst .nil))
  (.cons (.forr [5] true [1] (.seq (.var 1)) (.cons (.ife (.val (.call 81 (.cons (.var 5) (.cons (.var 2) .nil)))) (.cons (.asg 3 false [3] (.bin .Add (.var 3) (.var 5)))
  .nil) (.cons (.app 4 [5] (.var 5))
  .nil))
  .nil))
  (.cons (.asg 1 false [4] (.bin .Add (.var 4) (.lst (.cons (.var 3) .nil))))
  .nil)))))
  (.cons (.ret [1] (.bf .sorted (.cons (.lc (.bf .sorted (.cons (.var 0) .nil)) (.seq (.var 1)) .no []) .nil)))
  .nil)))⟩
noncomputable def d83:FD:=⟨4,1,
  (.cons (.drop (.call 20020 (.cons (.con .non) .nil))) (.cons (.hand 1 nW) .nil))⟩
noncomputable def d84:FD:=⟨4,1,
  (.cons (.forr [1] true [] (.rng (.cons (.con (.int 0)) (.cons (.bf .min (.cons (.bf .max (.cons (.bf .len (.cons (.var 0) .nil)) (.cons (.con (.int 1)) .nil))) (.cons (.con (.int 8)) .nil))) (.cons (.con (.int 2)) .nil)))) (.cons (.asg 2 false [] (.call 4 (.cons (.var 0) (.cons (.var 1) .nil))))
  (.cons (.asg 3 false [] (.call 6 (.cons (.bin .FloorDiv (.var 2) (.con (.int 3))) (.cons (.call 4 (.cons (.var 0) (.cons (.bin .Add (.var 1) (.con (.int 1))) .nil))) (.cons (.con (.int 8)) .nil)))))
  (.cons (.ife (.val (.cmp .Eq (.bin .Mod (.var 2) (.con (.int 3))) (.con (.int 1)))) (.cons (.asg 3 false [] (.call 76 (.cons (.bin .FloorDiv (.var 2) (.con (.int 3))) (.cons (.call 4 (.cons (.var 0) (.cons (.bin .Add (.var 1) (.con (.int 1))) .nil))) .nil))))
  .nil) .nil)
  (.cons (.ife (.not (.val (.call 83 (.cons (.var 3) .nil)))) (.cons (.ret [] (.con (.bl false)))
  .nil) .nil)
  .nil)))))
  (.cons (.ret [] (.call 9 (.cons (.call 72 (.cons (.tup (.cons (.con (.str "..")) (.cons (.con (.str "..")) .nil))) .nil)) (.cons (.lst .nil) .nil))))
  .nil))⟩
noncomputable def P:Nat->Option FD:=fun n=>match n with
 | 3=>some d3
 | 4=>some d4
 | 5=>some d5
 | 6=>some d6
 | 7=>some d7
 | 8=>some d8
 | 9=>some d9
 | 10=>some d10
 | 21=>some d21
 | 70=>some d70
 | 71=>some d71
 | 72=>some d72
 | 76=>some Bq
 | 81=>some d81
 | 82=>some d82
 | 83=>some d83
 | 84=>some d84
 | 20000=>some ⟨1,1,.cons (.ret [] (.con .non)) .nil⟩
 | 20001=>some ⟨1,1,.cons (.ret [] (.call 20000 (.cons (.con .non) .nil))) .nil⟩
 | 20002=>some ⟨1,1,.cons (.ret [] (.call 20001 (.cons (.con .non) .nil))) .nil⟩
 | 20003=>some ⟨1,1,.cons (.ret [] (.call 20002 (.cons (.con .non) .nil))) .nil⟩
 | 20004=>some ⟨1,1,.cons (.ret [] (.call 20003 (.cons (.con .non) .nil))) .nil⟩
 | 20005=>some ⟨1,1,.cons (.ret [] (.call 20004 (.cons (.con .non) .nil))) .nil⟩
 | 20006=>some ⟨1,1,.cons (.ret [] (.call 20005 (.cons (.con .non) .nil))) .nil⟩
 | 20007=>some ⟨1,1,.cons (.ret [] (.call 20006 (.cons (.con .non) .nil))) .nil⟩
 | 20008=>some ⟨1,1,.cons (.ret [] (.call 20007 (.cons (.con .non) .nil))) .nil⟩
 | 20009=>some ⟨1,1,.cons (.ret [] (.call 20008 (.cons (.con .non) .nil))) .nil⟩
 | 20010=>some ⟨1,1,.cons (.ret [] (.call 20009 (.cons (.con .non) .nil))) .nil⟩
 | 20011=>some ⟨1,1,.cons (.ret [] (.call 20010 (.cons (.con .non) .nil))) .nil⟩
 | 20012=>some ⟨1,1,.cons (.ret [] (.call 20011 (.cons (.con .non) .nil))) .nil⟩
 | 20013=>some ⟨1,1,.cons (.ret [] (.call 20012 (.cons (.con .non) .nil))) .nil⟩
 | 20014=>some ⟨1,1,.cons (.ret [] (.call 20013 (.cons (.con .non) .nil))) .nil⟩
 | 20015=>some ⟨1,1,.cons (.ret [] (.call 20014 (.cons (.con .non) .nil))) .nil⟩
 | 20016=>some ⟨1,1,.cons (.ret [] (.call 20015 (.cons (.con .non) .nil))) .nil⟩
 | 20017=>some ⟨1,1,.cons (.ret [] (.call 20016 (.cons (.con .non) .nil))) .nil⟩
 | 20018=>some ⟨1,1,.cons (.ret [] (.call 20017 (.cons (.con .non) .nil))) .nil⟩
 | 20019=>some ⟨1,1,.cons (.ret [] (.call 20018 (.cons (.con .non) .nil))) .nil⟩
 | 20020=>some ⟨1,1,.cons (.ret [] (.call 20019 (.cons (.con .non) .nil))) .nil⟩
 | _=>none
end Law
namespace Law
open PySem IR L2
local macro_rules | `(tactic| walk_at "ev") => do
  let ids <- ("sc Option.bind_some Option.map_some Option.bind_none List.length_cons List.length_nil if_true if_false Nat.reduceAdd Nat.reduceSub List.map_cons List.map_nil List.replicate List.append_nil List.cons_append List.nil_append imm imms qG tU iT tT zG zH List.getD_cons_zero List.getD_cons_succ at_0 at_1 uu cC bu cF cD cH bx bz cE cG b8 b9 bv cB cA o9 pB uY ua uZ AH AG uV uW uU uX az ur tB s0 vp vm v5 iM iO sv fC o5 cg ff v1 j5 nD wM wJ o4 wK wI wL zO zP wB wA List.set_cons_zero List.set_cons_succ A0 xu xw gj uv rD uE jg vA ze wO wN uK uL qR qS qQ zZ zd uJ lg setU ix_L ix_T ix_O ix_S jf cU xP xO xQ xR nK nM nJ nL nI eq_self decide_true decide_false lF jy lE lD jx jv jw i5 iw iz iu reduceCtorEq bne_self_eq_false beq_self_eq_true Bool.true_bne Bool.bne_true Bool.false_bne Bool.bne_false LN Nat.reduceLeDiff Nat.reduceLT Nat.reducePow Int.reduceLT Int.reduceLE Int.reducePow Int.reduceNeg Int.natAbs_one and_self true_and and_true or_true true_or reduceIte Bool.not_true Bool.not_false Bool.and_true Bool.or_true Bool.or_false Bool.true_or Bool.false_or Bool.true_and Bool.and_false Bool.false_and Bool.false_eq_true keeps gN kq List.getElem?_cons_zero List.getElem?_cons_succ".splitOn " ").toArray.mapM fun s => do
   let i := Lean.mkIdent s.toName
   `(Lean.Parser.Tactic.simpLemma| $i:ident)
  `(tactic| (try simp -implicitDefEqProofs only [$ids,*]))
local macro_rules | `(tactic| walk_at "go") => `(tactic| (walk_at "ev"; repeat (rw [CQ (by first | omega | assumption | decide)]; walk_at "ev")))
noncomputable def ou(i j:Nat):PV:=.tup [.int (i:Nat),.int (j:Nat)]
noncomputable def ee(rows:List Str)(i j:Nat):List PV:=((List.range j).filter fun c=>cd rows i c==120).map fun c=>ou i c
noncomputable def eP(rows:List Str)(w i:Nat):List PV:=(List.range i).flatMap fun r=>ee rows r w
theorem jI(rows:List Str)(i j:Nat):ee rows i (j+1)=ee rows i j++(if cd rows i j==120 then[ou i j]else[]):=by
 unfold ee;rw[List.range_succ,List.filter_append,DQ];cases h:cd rows i j==120<;>simp[h]
theorem fr(rows:List Str)(w i:Nat):eP rows w (i+1)=eP rows w i++ee rows i w:=by
 unfold eP;rw[List.range_succ,List.flatMap_append];simp
theorem hJ(rows:List Str)(i j:Nat):(ee rows i j).length<=j:=by
 unfold ee;rw[CI];exact DF (EQ _ _) (by rw[C9];exact CO _)
theorem fL(rows:List Str)(w:Nat):∀i,(eP rows w i).length<=i*w
 | 0=>by simp[eP]
 | i+1=>by
  rw[fr,CP,Nat.succ_mul];have:=fL rows w i;have:=hJ rows i w;omega
theorem rC{rows:List Str}{i:Nat}{z:Str}(h:rows[i]? =some z):dc (rows.map PV.str) (i:Int)=some (.str z):=cN (by rw[Cb,h];rfl)
theorem c4(k:Nat)(ns:List Int)(j:Nat):aB P (k+1) 4 [.lst (ns.map .int),.int j]=some (.int (ns.getD j 0)):=by
 refine run rfl rfl ?_;simp only[d4,entry];walk_at "ev"
 by_cases h:j<ns.length
 ·have h1:(j:Int)<((ns.map PV.int).length:Nat):=by rw[CI];omega
  have h2:dc (ns.map PV.int) (j:Int)=some (.int ns[j]):=cN (by rw[Cb,CW h];rfl);simp only[h1,decide_true,Ei,h2];walk_at "ev";simp[h]
 ·have h1:¬(j:Int)<((ns.map PV.int).length:Nat):=by rw[CI];omega
  simp only[h1,decide_false];walk_at "ev";simp[h]
theorem c5(k:Nat)(c j:Int)(h0:0<=j)(h1:j<=1000000):∃r:Int,0<=r/\r<2147483587/\aB P (k+1) 5 [.int c,.int j]=some (.int r):=by
 obtain⟨v,h,r,h2,h3,rfl⟩:∃v,aB P (k+1) 5 [.int c,.int j]=some v/\∃r:Int,0<=r/\r<2147483587/\v=.int r:=by
  refine wf rfl rfl ?_;simp only[d5,entry];walk_at "go";exact⟨_,rfl,_,Int.emod_nonneg _ (by decide),FF _ (by decide),rfl⟩
 exact⟨r,h2,h3,h⟩
noncomputable def lj(z:Str)(n:Nat):Prop:=z.length=n/\∀c∈z.cps.toList,c=120\/c=46
theorem lj.more{z:Str}{n:Nat}(h:lj z n){y:Str}(hy:y=("x":Str)\/y=(".":Str)):lj (z++y) (n+1):=by
 refine⟨?_,fun c hc=> ?_⟩
 ·rw[PySem.Str.length_append,h.1]
  rcases hy with rfl|rfl<;>rfl
 ·rw[PySem.Str.cps_append,DD,DB]at hc
  rcases hc with hc|hc
  ·exact h.2 c hc
  ·rcases hy with rfl|rfl
   ·have:c∈[120]:=hc
    simp at this;exact .inl this
   ·have:c∈[46]:=hc
    simp at this;exact .inr this
noncomputable def pick(b:Bool):Str:=if b then "x" else "."
theorem vP(b:Bool):dc [PV.str ".",PV.str "x"] (if b then 1 else 0)=some (.str (pick b)):=by cases b<;>rfl
theorem sD(b:Bool):(pick b).length=1:=by cases b<;>rfl
theorem pR(b:Bool):pick b=("x":Str)\/pick b=(".":Str):=by cases b;exact .inr rfl;exact .inl rfl
theorem yB{j:Int}(h0:0<=j)(h1:j<=100):(0:Int)<1*2^j.toNat/\(1:Int)*2^j.toNat<2^200:=by
 have hp:(0:Int)<2^j.toNat:=Int.pow_pos (by decide);refine⟨by omega,?_⟩;have h2:(2:Nat)^j.toNat<2^200:=Nat.pow_lt_pow_right (by decide) (by omega);rw[Int.one_mul]
 exact_mod_cast h2
noncomputable abbrev bI1(x c R C TH:Int)(m i:Nat)(τ:En):Prop:=∃(rs:List Str)(a b d e g:TV),τ=[.frz (.int x) true,.frz (.int c) true,.frz (.int m) true,.frz (.int R) true,.frz (.int C) true,.frz (.int TH) true,.own (rs.map .str) true,a,b,d,e,g]/\rs.length=i/\∀r∈rs,lj r C.toNat
noncomputable abbrev bI2(x c R C TH:Int)(m:Nat)(rs:List Str)(i:Int)(j:Nat)(τ:En):Prop:=∃(z:Str)(d e g:TV),τ=[.frz (.int x) true,.frz (.int c) true,.frz (.int m) true,.frz (.int R) true,.frz (.int C) true,.frz (.int TH) true,.own (rs.map .str) true,.frz (.int i) true,.frz (.str z) true,d,e,g]/\lj z j
theorem c6(k:Nat)(x c:Int)(m:Nat)(m1:1<=m)(m8:m<=8):∃v,aB P (k+2) 6 [.int x,.int c,.int m]=some v/\∃rows:List Str,UM.CG m rows/\v=.tup (rows.map .str):=by
 have r1:0<=x%(m:Int):=Int.emod_nonneg _ (by omega);have r2:x%(m:Int)<m:=FF _ (by omega);have q1:0<=x/8%(m:Int):=Int.emod_nonneg _ (by omega);have q2:x/8%(m:Int)<m:=FF _ (by omega);have hm:(0:Int)<m:=by omega
 refine wf rfl rfl ?_;simp only[d6,entry];walk_at "go";obtain⟨R,hR⟩:∃R,R=1+x%(m:Int):=⟨_,rfl⟩;obtain⟨C,hC⟩:∃C,C=1+x/8%(m:Int):=⟨_,rfl⟩;obtain⟨TH,hT⟩:∃TH,TH=1+x/64%8:=⟨_,rfl⟩;rw[<- hR,<-hC,<-hT];refine ci (xs:=(List.range R.toNat).map fun i=>.int (0+(i:Nat))) (n:=true) ?_ (bI1 x c R C TH m) ?_ ?_ ?_
 ·walk_at "ev"
  simp only[fS,az];rw[CQ ⟨by omega,by omega⟩];rfl
 ·exact⟨[],.un,.un,.un,.un,.un,rfl,rfl,fun r hr=>by cases hr⟩
 ·rintro i y τ hy ⟨rs,a,b,d,e,g,rfl,hl,hsg⟩
  obtain⟨hi,rfl⟩:=cc hy;refine⟨_,rfl,?_⟩;walk_at "ev";refine ci (xs:=(List.range C.toNat).map fun i=>.int (0+(i:Nat))) (n:=true) ?_ (bI2 x c R C TH m rs i) ?_ ?_ ?_
  ·walk_at "ev"
   simp only[fS,az];rw[CQ ⟨by omega,by omega⟩];rfl
  ·exact⟨_,d,e,g,rfl,rfl,fun c hc=>by cases hc⟩
  ·rintro j y τ hy ⟨z,d,e,g,rfl,hz⟩
   obtain⟨hj,rfl⟩:=cc hy;refine⟨_,rfl,?_⟩;have hp:0<=C*(i:Int)+(j:Int)/\C*(i:Int)+(j:Int)<=100:=by
    have e1:(0:Int)<=C*(i:Int):=Int.mul_nonneg (by omega) (by omega);have e2:C*(i:Int)<=8*8:=Int.mul_le_mul (by omega) (by omega) (by omega) (by omega);omega
   have hz1:=hz.1;have hzL:∀b,z.length+(pick b).length<=LN:=fun b=>by rw[sD];show z.length+1<=16777216;omega
   have hp2:=yB hp.1 hp.2;walk_at "go"
   have fin:∀(b:Bool)(τ:En),τ=[.frz (.int x) true,.frz (.int c) true,.frz (.int m) true,.frz (.int R) true,.frz (.int C) true,.frz (.int TH) true,.own (rs.map .str) true,.frz (.int i) true,.frz (.str z) true,.frz (.int j) true,.frz (.int (C*(i:Int)+(j:Int))) true,.frz (.bl b) true] ->
     To (bL (aB P (k+1)) 1000000 (.cons (.asg 8 false [] (.bin .Add (.var 8) (.ix (.lst (.cons (.con (.str ".")) (.cons (.con (.str "x")) .nil))) (.bf .int (.cons (.var 11) .nil))))) .nil) τ) fun f=>match f with
      | .nx τ2=>bI2 x c R C TH m rs i (j+1) τ2
      | _=>False:=by
    rintro b τ rfl;have:=hzL b;walk_at "go";rw[vP];walk_at "go";exact⟨_,_,_,_,rfl,hz.more (pR b)⟩
   split
   ·obtain⟨q,b1,b2,e5⟩:=c5 k c (C*(i:Int)+(j:Int)) hp.1 (by omega)
    walk_at "ev";rw[e5];walk_at "go";refine(fin _ _ rfl).imp fun f h=> ?_;cases f<;>first|exact h|exact h.elim
   ·walk_at "ev"
    refine(fin _ _ rfl).imp fun f h=> ?_;cases f<;>first|exact h|exact h.elim
  ·rintro τ ⟨z,d,e,g,rfl,hz⟩
   rw[ef]at hz;walk_at "ev";rw[hV rfl (by rw[CI];show rs.length<16777216;omega)];walk_at "ev";refine⟨rs++[z],_,_,_,_,_,by rw[DQ];rfl,by rw[CP,hl];rfl,fun r hr=> ?_⟩
   rcases DB.mp hr with h|h
   ·exact hsg r h
   ·have e' :r=z:=by simpa using h
    rw[e'];exact hz
 ·rintro τ ⟨rs,a,b,d,e,g,rfl,hl,hsg⟩
  rw[ef]at hl;walk_at "ev";refine⟨_,rfl,rs,⟨?_,by omega,⟨C.toNat,by omega,by omega,fun r hr=>(hsg r hr).1⟩,fun r hr=>(hsg r hr).2⟩,rfl⟩;intro z;rw[z]at hl;simp at hl;omega
theorem c8(k:Nat)(i:Int):aB P (k+1) 8 [.int i]=some (.bl true):=by
 refine run rfl rfl ?_;simp only[d8,entry];walk_at "ev"
noncomputable def plain:PV->Bool
 | .non=>true| .int _=>true| .str _=>true
 | .lst xs=>plains xs
 | .tup xs=>plains xs
 | _=>false
where plains:List PV->Bool
 | []=>true
 | x::xs=>plain x&&plains xs
noncomputable def depth:PV->Nat
 | .lst xs=>depths xs+1
 | .tup xs=>depths xs+1
 | _=>1
where depths:List PV->Nat
 | []=>0
 | x::xs=>max (depth x) (depths xs)
theorem iA:∀{xs:List PV}{x:PV},plain.plains xs=true->x∈xs->plain x=true
 | [],_,_,h=>by cases h
 | y::ys,x,h,hx=>by
  rw[plain.plains,CK]at h
  rcases Ca.mp hx with rfl|hx
  ·exact h.1
  ·exact iA h.2 hx
theorem iV:∀{xs:List PV}{x:PV},x∈xs->depth x<=depth.depths xs
 | [],_,h=>by cases h
 | y::ys,x,hx=>by
  rw[depth.depths]
  rcases Ca.mp hx with rfl|hx
  ·exact Nat.le_max_left _ _
  ·exact DF (iV hx) (Nat.le_max_right _ _)
theorem c10(k:Nat)(xs:List PV)(h:∀x∈xs,aB P k 9 [x,x]=some (.bl true)):aB P (k+1) 10 [.lst xs,.lst xs]=some (.bl true):=by
 refine dP rfl rfl ?_;simp only[d10,entry];walk_at "ev";refine ci (xs:=List.zipWith oI xs xs) (n:=false) ?_ (fun i τ=>∃a b,τ=[.frz (.lst xs) false,.frz (.lst xs) false,a,b]) ⟨_,_,rfl⟩ ?_ ?_
 ·walk_at "ev"
  simp only[qg,sg,Ei,DA];rfl
 ·rintro i y τ hy ⟨a,b,rfl⟩
  rw[Du]at hy;cases e:xs[i]? with
  | none=>rw[e]at hy;cases hy
  | some x =>
   rw[e]at hy;cases hy;refine⟨_,rfl,?_⟩;walk_at "ev";rw[h x (C7 e)];walk_at "ev";exact⟨_,_,rfl⟩
 ·rintro τ ⟨a,b,rfl⟩
  walk_at "ev"
theorem c9(n k:Nat)(v:PV)(hd:depth v<=n)(hp:plain v=true):aB P (2*n+k) 9 [v,v]=some (.bl true):=by
 induction n generalizing v with
 | zero =>
  cases v with
  | non=>(simp[depth]at hd)
  | bl b=>cases hp
  | int i=>(simp[depth]at hd)
  | str z=>(simp[depth]at hd)
  | lst xs=>(simp[depth]at hd)
  | tup xs=>(simp[depth]at hd)
  | dK _ _=>cases hp
  | dT _ _=>cases hp
 | succ n ih =>
  have e:2*(n+1)+k=(2*n+k+1)+1:=by omega
  rw[e];have inner:∀xs:List PV,depth.depths xs<=n->plain.plains xs=true->aB P (2*n+k+1) 10 [.lst xs,.lst xs]=some (.bl true):=fun xs h1 h2=>c10 _ xs fun x hx=>ih x (DF (iV hx) h1) (iA h2 hx);refine run rfl rfl ?_;cases v with
  | non =>
   simp only[d9,entry];walk_at "ev"
  | bl b=>cases hp
  | int i =>
   simp only[d9,entry];walk_at "ev";rw[c8];walk_at "ev"
  | str z =>
   simp only[d9,entry];walk_at "ev"
  | lst xs =>
   simp only[d9,entry];walk_at "ev";rw[inner xs (by simpa [depth]using hd) (by simpa [plain]using hp)];walk_at "ev"
  | tup xs =>
   simp only[d9,entry];walk_at "ev";rw[inner xs (by simpa [depth]using hd) (by simpa [plain]using hp)];walk_at "ev"
  | dK _ _=>cases hp
  | dT _ _=>cases hp
theorem c7(k:Nat)(rows:List Str)(w:Nat)(hw:Wd rows w)(h0:rows≠[])(h8:rows.length<=8)(w8:w<=8):aB P (k+1) 7 [.tup (rows.map .str)]=some (.lst (eP rows w rows.length)):=by
 refine dP rfl rfl ?_;have im:=tL rows;have ims:=cf rows;simp only[d7,entry];walk_at "go";obtain⟨z0,hz0⟩:∃z,rows[0]? =some z:=by
  cases rows with
  | nil=>exact absurd rfl h0
  | cons z r=>exact⟨z,rfl⟩
 have l0:z0.length=w:=hw z0 (C7 hz0);have a0:dc (rows.map PV.str) 0=some (.str z0):=rC (i:=0) hz0;rw[ims];refine ci (xs:=(List.range rows.length).map fun i=>.int (0+(i:Nat))) (n:=true) ?_ (fun i τ=>∃a b,τ=[.frz (.tup (rows.map .str)) true,.own (eP rows w i) true,a,b]) ⟨_,_,rfl⟩ ?_ ?_
 ·walk_at "ev"
  simp only[fS,az,CI];rw[CQ ⟨by omega,by omega⟩];rfl
 ·rintro i y τ hy ⟨a,b,rfl⟩
  obtain⟨hi,rfl⟩:=cc hy;refine⟨_,rfl,?_⟩;walk_at "ev";refine ci (xs:=(List.range w).map fun i=>.int (0+(i:Nat))) (n:=true) ?_ (fun j τ=>∃b,τ=[.frz (.tup (rows.map .str)) true,.own (eP rows w i++ee rows i j) true,.frz (.int i) true,b]) ⟨b,by simp[ee,cg]⟩ ?_ ?_
  ·walk_at "ev"
   rw[a0];walk_at "ev";rw[len_str,CQ (by rw[l0];show w<=16777216;omega)];walk_at "ev";simp only[fS,az,l0];rw[CQ ⟨by omega,by omega⟩];rfl
  ·rintro j y τ hy ⟨b,rfl⟩
   obtain⟨hj,rfl⟩:=cc hy;refine⟨_,rfl,?_⟩;obtain⟨z,g1,g2,g3⟩:=xE hw hi hj;walk_at "ev";rw[rC g1];walk_at "ev";rw[CQ (by rw[g3];show w<=16777216;omega),cN g2];walk_at "ev";rw[uB];have hlen:(eP rows w i++ee rows i j).length<LN:=by
    rw[CP];have e1:=fL rows w i;have e2:=hJ rows i j;have e3:i*w<=8*8:=Nat.mul_le_mul (by omega) w8;show _<16777216;omega
   have rs:=jI rows i j;cases hc:cd rows i j==120 with
   | true =>
    rw[hc]at rs;walk_at "go";rw[hV rfl hlen];walk_at "ev";exact⟨.frz (.int j) true,by rw[rs];simp[ou]⟩
   | false =>
    rw[hc]at rs;walk_at "ev";exact⟨.frz (.int j) true,by rw[rs];simp⟩
  ·rintro τ ⟨b,rfl⟩
   rw[ef];walk_at "ev";exact⟨_,_,by rw[fr]⟩
 ·rintro τ ⟨a,b,rfl⟩
  rw[ef];walk_at "ev"
theorem xj{rows:List Str}{i:Nat}{x:PV}(hx:(rows.map PV.str)[i]? =some x):∃z,rows[i]? =some z/\z∈rows/\x=.str z:=by
 rw[Cb]at hx;cases e:rows[i]? with
 | none=>rw[e]at hx;cases hx
 | some z =>
  rw[e]at hx;exact⟨z,rfl,C7 e,(Cq hx).symm⟩
theorem c3(k:Nat)(rows:List Str)(w:Nat)(hw:Wd rows w)(h8:rows.length<=8)(w8:w<=8):aB P (k+1) 3 [.tup (rows.map .str)]=some (.lst (eP rows w rows.length)):=by
 refine dP rfl rfl ?_;have ims:=cf rows;simp only[d3,entry];walk_at "go";rw[ims];refine ci (xs:=List.zipWith e8 (List.range (rows.map PV.str).length) (rows.map PV.str)) (n:=true) ?_ (fun i τ=>∃a b c d,τ=[.frz (.tup (rows.map .str)) true,.own (eP rows w i) true,a,b,c,d]) ⟨_,_,_,_,rfl⟩ ?_ ?_
 ·walk_at "ev"
  rfl
 ·rintro i y τ hy ⟨a,b,c,d,rfl⟩
  obtain⟨y,hy2,rfl⟩:=oa hy;obtain⟨z,hz,hm,rfl⟩:=xj hy2;refine⟨_,rfl,?_⟩;have hi:i<rows.length:=(CY.mp hz).1;have hzl:z.length=w:=hw z hm;walk_at "ev";have hsl:(signs z).length=w:=by rw[dj];exact hzl
  refine ci (xs:=List.zipWith e8 (List.range (signs z).length) (signs z)) (n:=true) ?_ (fun j τ=>∃c d,τ=[.frz (.tup (rows.map .str)) true,.own (eP rows w i++ee rows i j) true,.frz (.int i) true,.frz (.str z) true,c,d]) ⟨c,d,by simp[ee,cg,ff,nD,j5]⟩ ?_ ?_
  ·walk_at "ev"
   simp only[lR,DA];rw[hsl,hzl]
  ·rintro j y τ hy ⟨c,d,rfl⟩
   obtain⟨y,hy1,rfl⟩:=oa hy;have hj:j<w:=by
    have:=(CY.mp hy1).1;omega
   obtain⟨z',g1,g2,g3⟩:=xE hw hi hj;rw[hz]at g1;cases g1;have hy2:(signs z)[j]? =some (.str ⟨#[cd rows i j]⟩):=by
    unfold signs;rw[Cb,g2];rfl
   rw[hy2]at hy1;cases hy1;refine⟨_,rfl,?_⟩;walk_at "ev";rw[uB];have hlen:(eP rows w i++ee rows i j).length<LN:=by
    rw[CP];have e1:=fL rows w i;have e2:=hJ rows i j;have e3:i*w<=8*8:=Nat.mul_le_mul (by omega) w8;show _<16777216;omega
   have rs:=jI rows i j;cases hc:cd rows i j==120 with
   | true =>
    rw[hc]at rs;walk_at "go";rw[hV rfl hlen];walk_at "ev";exact⟨.frz (.int j) true,.frz (.str ⟨#[cd rows i j]⟩) true,by rw[rs];simp[ou]⟩
   | false =>
    rw[hc]at rs;walk_at "ev";exact⟨.frz (.int j) true,.frz (.str ⟨#[cd rows i j]⟩) true,by rw[rs];simp⟩
  ·rintro τ ⟨c,d,rfl⟩
   rw[lS,hsl];walk_at "ev";exact⟨_,_,_,_,by rw[fr]⟩
 ·rintro τ ⟨a,b,c,d,rfl⟩
  rw[lS,CI];walk_at "ev"
noncomputable def cI(rows:List Str)(w:Nat):List (Int×Int):=(List.range rows.length).flatMap fun r=>((List.range w).filter fun c=>cd rows r c==120).map fun c:Nat=>((r:Int),(c:Int))
theorem nV(rows:List Str)(w:Nat):eP rows w rows.length=(cI rows w).map ah:=by
 unfold eP cI ee;rw[List.map_flatMap]
 congr 1
 funext r
 rw[Ed];rfl
theorem nU{rows:List Str}{w:Nat}(h8:rows.length<=8)(w8:w<=8):(cI rows w).length<=64:=by
 have e:=Da List.length (nV rows w);rw[CI]at e;rw[<- e];refine DF (fL rows w rows.length) ?_;exact Nat.mul_le_mul h8 w8
theorem zQ{rows:List Str}{w:Nat}{q:Int×Int}(h:q∈cI rows w):∃r c:Nat,q=((r:Int),(c:Int))/\r<rows.length/\c<w/\cd rows r c=120:=by
 unfold cI at h;rw[List.mem_flatMap]at h;obtain⟨r,hr,hq⟩:=h;obtain⟨c,hc,rfl⟩:=DR.mp hq;rw[DW,DC,EV]at hc;rw[DC]at hr;exact⟨r,c,rfl,hr,hc.1,hc.2⟩
theorem fV:∀ps:List (Int×Int),dG (ps.map ah)=some ps
 | []=>rfl
 | p::ps=>by
  show((sA (ah p)).bind fun q=>(dG (ps.map ah)).map (q::·))=_;rw[fV ps];rfl
theorem pK{ps:List (Int×Int)}(h0:ps≠[])(hl:ps.length<4096)(hb:∀q∈ps,0<=q.2/\q.2<1000):g8 (ps.map ah)=some (.own ((aX ps).map ah) true):=by
 unfold g8;have e:aa (ps.map ah)=none:=by
  cases ps with
  | nil=>exact absurd rfl h0
  | cons p ps=>rfl
 rw[e];show kW _=_;unfold kW;rw[fV];have ha:ps.all (fun q=>decide (0<=q.2)&&decide (q.2<1000))=true:=by
  rw[Cw];intro q hq
  simpa using hb q hq
 show(if ps.length<4096/\ps.all (fun q=>decide (0<=q.2)&&decide (q.2<1000))=true then some (RV.own ((aX ps).map ah) true)else none)=_;rw[CQ ⟨hl,ha⟩]
noncomputable abbrev Pr:=Int×Int
noncomputable def hg(c:Pr)(p:List Pr):Bool:=p.any fun o=>decide (o.1=c.1)||decide (o.2=c.2)
noncomputable def wd(ps:List (List Pr))(c:Pr):List (List Pr):=ps.filter (fun p=> !hg c p)++[aX (c::(ps.filter (hg c)).flatten)]
noncomputable def oB(ps:List (List Pr))(c:Pr):List (List Pr):=ps.filter (fun p=> !hg c p)++[c::(ps.filter (hg c)).flatten]
noncomputable def lm(l:List Pr):Prop:=∀q∈l,0<=q.2/\q.2<1000
theorem mR{a b:List Pr}(hb:lm b)(p:a.Perm b):aX a=aX b:=eZ hb ((bN a).trans p) (kZ a)
theorem vx{c:Pr}{p q:List Pr}(h:p.Perm q):hg c p=hg c q:=by
 unfold hg;rw[D1,Ew,Ew];exact⟨fun⟨x,a,b⟩=>⟨x,h.mem_iff.mp a,b⟩,fun⟨x,a,b⟩=>⟨x,h.mem_iff.mpr a,b⟩⟩
theorem du:∀L:List (List Pr),(L.map aX).flatten.Perm L.flatten
 | []=>Dl _
 | p::L=>by
  rw[Cc,Cz,Cz];exact(bN p).append (du L)
theorem fh(f:List Pr->Bool):∀L:List (List Pr),((L.filter fun p=> !f p).flatten++(L.filter f).flatten).Perm L.flatten
 | []=>Dl _
 | p::L=>by
  have ih:=fh f L;cases e:f p with
  | true =>
   rw[List.filter_cons_of_neg (by simp[e]),List.filter_cons_of_pos e,Cz,Cz];refine List.Perm.trans ?_ (ih.append_left p);rw[<- Cp,<-Cp];exact EO.append_right _
  | false =>
   rw[List.filter_cons_of_pos (by simp[e]),List.filter_cons_of_neg (by simp[e]),Cz,Cz,Cp];exact ih.append_left p
theorem kU(L:List (List Pr))(c:Pr):(oB L c).flatten.Perm (L.flatten++[c]):=by
 unfold oB;rw[Eg,Cz,List.flatten_nil,DL];refine(List.perm_middle.trans ?_).trans EO;rw[List.singleton_append];exact(fh (hg c) L).cons c
theorem xX{L:List (List Pr)}{c:Pr}(hb:lm L.flatten)(hc:0<=c.2/\c.2<1000):wd (L.map aX) c=(oB L c).map aX:=by
 have e1:∀f:Bool->Bool,(L.map aX).filter (fun p=>f (hg c p))=(L.filter fun p=>f (hg c p)).map aX:=fun f=>by
  rw[List.filter_map]
  congr 1
  refine List.filter_congr fun p _=> ?_;show f (hg c (aX p))=_;rw[vx (bN p)]
 unfold wd oB;rw[e1 (!·),show(L.map aX).filter (hg c)=(L.filter (hg c)).map aX from e1 id,DQ,Cc,DS]
 congr 2
 refine mR (fun q hq=> ?_) ((du _).cons c)
 rcases Ca.mp hq with z|z
 ·rw[z]
  exact hc
 ·obtain⟨p,hp,hq⟩:=EE.mp z
  exact hb q (EE.mpr ⟨p,(DW.mp hp).1,hq⟩)
noncomputable def gQ(cs:List Pr):List (List Pr):=cs.foldl oB []
noncomputable def iZ(cs:List Pr):List (List Pr):=cs.foldl wd []
theorem fq(cs:List Pr):(gQ cs).flatten.Perm cs:=by
 have:∀(cs:List Pr)(L:List (List Pr)),(cs.foldl oB L).flatten.Perm (L.flatten++cs):=by
  intro cs
  induction cs with
  | nil =>
   intro L;rw[DL];exact Dl _
  | cons c cs ih =>
   intro L;refine(ih (oB L c)).trans ?_;refine((kU L c).append_right cs).trans ?_;rw[Cp];exact Dl _
 have:=this cs []
 rwa [List.flatten_nil,List.nil_append]at this
theorem gq{cs:List Pr}(hb:lm cs):iZ cs=(gQ cs).map aX:=by
 have:∀(cs:List Pr)(L:List (List Pr)),lm (L.flatten++cs)->cs.foldl wd (L.map aX)=(cs.foldl oB L).map aX:=by
  intro cs
  induction cs with
  | nil=>exact fun L _=>rfl
  | cons c cs ih =>
   intro L h;rw[Ey,Ey,xX (fun q hq=>h q (by simp[hq])) (h c (by simp))];refine ih (oB L c) fun q hq=>h q ?_
   rcases DB.mp hq with z|z
   ·have:=(kU L c).mem_iff.mp z
    rcases DB.mp this with y|y
    ·exact D5 _ y
    ·rw[Cn.mp y]
     simp
   ·exact C1 _ (CV _ z)
 exact this cs [] (by simpa using hb)
theorem o6(cs:List Pr):∀p∈gQ cs,p≠[]:=by
 have:∀(cs:List Pr)(L:List (List Pr)),(∀p∈L,p≠[])->∀p∈cs.foldl oB L,p≠[]:=by
  intro cs
  induction cs with
  | nil=>exact fun L h=>h
  | cons c cs ih =>
   intro L h;refine ih _ fun p hp=> ?_;unfold oB at hp
   rcases DB.mp hp with z|z
   ·exact h p ((DW.mp z).1)
   ·rw[Cn.mp z]
    exact List.cons_ne_nil _ _
 exact this cs [] (fun p hp=>by cases hp)
theorem rQ{p:List Pr}(h:p≠[]):aX p≠[]:=fun z=>by
 have:=(bN p).length_eq;rw[z]at this;exact h (EF.mp this.symm)
theorem sS{L:List (List Pr)}{cs:List Pr}(p:L.flatten.Perm cs)(ne:∀p∈L,p≠[]):L.length<=cs.length/\∀q∈L,q.length<=cs.length:=by
 rw[<- p.length_eq]
 clear p
 induction L with
 | nil=>exact⟨CO _,fun q hq=>by cases hq⟩
 | cons a L ih =>
  obtain⟨i1,i2⟩:=ih fun p hp=>ne p (CV _ hp);have:=EB.mpr (ne a Cd);rw[Cz,CP,Cv];refine⟨by omega,fun q hq=> ?_⟩
  rcases Ca.mp hq with z|z
  ·rw[z]
   omega
  ·have:=i2 q z
   omega
theorem tN{L:List (List Pr)}(nd:L.flatten.Nodup)(hb:lm L.flatten)(ne:∀p∈L,p≠[]):(L.map bp).Nodup:=by
 induction L with
 | nil=>exact List.nodup_nil
 | cons a L ih =>
  rw[Cz]at nd hb;obtain⟨n1,n2,n3⟩:=List.nodup_append.mp nd;rw[Cc,DV];refine⟨fun z=> ?_,ih n2 (fun q hq=>hb q (C1 _ hq)) fun p hp=>ne p (CV _ hp)⟩;obtain⟨b,hb',e⟩:=DR.mp z
  match a,b,ne a Cd,ne b (CV _ hb')with
  | x::a,y::b,_,_ =>
   have e:SW.bD y=SW.bD x:=e;have my:y∈L.flatten:=EE.mpr ⟨_,hb',Cd⟩;have:=lB (hb y (C1 _ my)) (hb x (D5 _ Cd)) e;exact n3 x Cd y my this.symm
theorem kh:∀qs:List (List Pr),jl (qs.map qV)=some qs
 | []=>rfl
 | q::qs=>by
  show((dG (q.map ah)).bind fun q=>(jl (qs.map qV)).map (q::·))=_;rw[fV q,kh qs];rfl
theorem kX{L:List (List Pr)}{a:RV}(nd:L.flatten.Nodup)(hb:lm L.flatten)(ne:∀p∈L,p≠[])(hl:L.length<4096)(hi:a.its=some (L.map qV,true)):eA (L.map qV) a=some (.own ((bV L).map qV) true):=by
 cases L with
 | nil=>simp[eA,g8,aa,L2.sortI,bV]
 | cons p L =>
  have e1:g8 ((p::L).map qV)=none:=rfl;have all:(p::L).all (fun q=> !q.isEmpty&&q.all fun p=>decide (0<=p.2)&&decide (p.2<1000))=true:=by
   rw[Cw];intro q hq;rw[CK,Cw];refine⟨?_,fun x hx=> ?_⟩
   ·have:=ne q hq
    cases q with
    | nil=>exact absurd rfl this
    | cons _ _=>rfl
   ·have:=hb x (EE.mpr ⟨q,hq,hx⟩)
    simpa using this
  unfold eA;rw[e1,hi];show kY ((p::L).map qV) true=_;unfold kY;rw[kh,Ch,CQ ⟨hl,all,tN nd hb ne⟩]
theorem jH{ps:List Pr}{a:RV}(h0:ps≠[])(hl:ps.length<4096)(hb:lm ps):eA (ps.map ah) a=some (.own ((aX ps).map ah) true):=by
 unfold eA;rw[pK h0 hl hb]
theorem lb{α:Type}(f:α->Bool):∀l:List α,dJ (l.map fun x=>.bl (f x))=some (l.map f)
 | []=>rfl
 | x::l=>by
  show(dJ (l.map fun x=>.bl (f x))).map (f x::·)=_;rw[lb f l];rfl
theorem vy(k:Nat)(c o:Pr):(((index (RV.frz (ah o) (imm (ah o))) (RV.frz (PV.int 0) true)).bind fun x=>(index (RV.frz (ah c) (imm (ah c))) (RV.frz (PV.int 0) true)).bind fun y=>Option.map (fun r=>RV.frz (PV.bl r) true) (bY CmpOp.Eq x.val y.val)).bind
  fun x_1=>(fK x_1.val).bind fun t=>if t=true then some (RV.frz (PV.bl true) true)else
   (index (RV.frz (ah o) (imm (ah o))) (RV.frz (PV.int 1) true)).bind fun x=>(index (RV.frz (ah c) (imm (ah c))) (RV.frz (PV.int 1) true)).bind fun y=>Option.map (fun r=>RV.frz (PV.bl r) true) (bY CmpOp.Eq x.val y.val))=some (.frz (.bl (decide (o.1=c.1)||decide (o.2=c.2))) true):=by
 unfold ah;walk_at "ev"
 by_cases e:o.1=c.1
 ·rw[DZ e]
  rfl
 ·rw[C6 e]
  rfl
theorem c70(k:Nat)(c:Pr)(ps:List Pr)(hl:ps.length<=1000):aB P (k+1) 70 [.lst (ps.map ah),ah c]=some (.bl (hg c ps)):=by
 refine dP rfl rfl ?_;simp only[d70,entry];walk_at "ev";rw[CQ (by rw[CI];omega),bq (g:=fun o:Pr=>.bl (decide (o.1=c.1)||decide (o.2=c.2))) (fun o _=>by rw[vy k c o];rfl)];show To ((((dJ (ps.map fun o:Pr=>.bl (decide (o.1=c.1)||decide (o.2=c.2)))).map fun bs=>sc (.bl (bs.any id))).bind _).bind _) _;rw[lb];walk_at "ev";unfold hg;rw[List.any_map];rfl
theorem yv(c:Pr):imm (ah c)=true:=rfl
theorem c71(k:Nat)(c:Pr)(hs:List (List Pr))(hl:hs.length<=1000)(hz:hs.flatten.length<=1000)(hb:lm (c::hs.flatten)):aB P (k+1) 71 [.lst (hs.map qV),ah c]=some (qV (aX (c::hs.flatten))):=by
 refine dP rfl rfl ?_;simp only[d71,entry];walk_at "ev";rw[yv c];refine ci (xs:=hs.map qV) (n:=false) ?_ (fun i τ=>∃a,τ=[.frz (.lst (hs.map qV)) false,.frz (ah c) true,.own ((c::(hs.take i).flatten).map ah) true,a]) ⟨.un,?_⟩ ?_ ?_
 ·walk_at "ev"
 ·walk_at "ev"
  simp
 ·rintro i y τ hy ⟨a,rfl⟩
  obtain⟨q,hq,rfl⟩:∃q,hs[i]? =some q/\y=qV q:=by
   rw[Cb]at hy;obtain⟨x,hx,rfl⟩:=map_some hy;exact⟨x,hx,rfl⟩
  refine⟨_,rfl,?_⟩;have im:=iL q;have tk:(hs.take (i+1)).flatten=(hs.take i).flatten++q:=by rw[Eo,hq];simp
  have ln:(hs.take (i+1)).flatten.length<=hs.flatten.length:=by
   rw[<- Cm (i+1) hs,Eg,CP];rw[Cm];omega
  rw[tk,CP]at ln;simp only[ug,uh,gh,gT,gS,gY,ga,gR,gU,gg,gf,gi,gX,gc,gb,gZ,gW,cC,bu,cF,cQ,cD,cH,bx,bz,cR,cE,cG,b8,b9,bv,cS,cT,cB,cO,cA,cP];show To ((if imms (q.map ah)=true/\((c::(hs.take i).flatten).map ah).length+(q.map ah).length<=LN then some (Fl.nx _)else none).bind _) _;rw[CQ ⟨im,by show _<=16777216;rw[CI,CI,Cv];omega⟩];refine⟨_,rfl,.frz (qV q) (false||imm (qV q)),?_⟩;rw[tk,<-List.cons_append,DQ];rfl
 ·rintro τ ⟨a,rfl⟩
  walk_at "ev";rw[CI,Di,<-Cc,jH (List.cons_ne_nil _ _) (by rw[Cv];omega) hb];walk_at "ev";rfl
noncomputable def zT(L:List (List Pr)):Prop:=L.length<=64/\L.flatten.length<=64/\L.flatten.Nodup/\lm L.flatten/\∀p∈L,p≠[]
theorem uF{L:List (List Pr)}{cs:List Pr}(p:L.flatten.Perm cs)(ne:∀p∈L,p≠[])(h64:cs.length<=64)(nd:cs.Nodup)(hb:lm cs):zT L:=by
 have l:=sS p ne;exact⟨by omega,by rw[p.length_eq];exact h64,p.nodup_iff.mpr nd,fun q hq=>hb q (p.mem_iff.mp hq),ne⟩
theorem qU(cs:List Pr)(hb:lm cs):(iZ cs).flatten.Perm cs:=by
 rw[gq hb];exact(du _).trans (fq cs)
theorem wR(cs:List Pr)(hb:lm cs):∀p∈iZ cs,p≠[]:=by
 rw[gq hb];intro p hp;obtain⟨q,hq,rfl⟩:=DR.mp hp;exact rQ (o6 cs q hq)
theorem jF{α β:Type}(f:β->α->β)(b:β)(cs:List α)(i:Nat)(c:α)(h:cs[i]? =some c):(cs.take (i+1)).foldl f b=f ((cs.take i).foldl f b) c:=by
 rw[Eo,h,List.foldl_append];rfl
theorem rL{cs:List Pr}(nd:cs.Nodup)(i:Nat):(cs.take i).Nodup:=nd.sublist (FL _ _)
theorem ja{cs:List Pr}(hb:lm cs)(i:Nat):lm (cs.take i):=fun q hq=>hb q (D3 hq)
theorem kD{cs:List Pr}(h64:cs.length<=64)(nd:cs.Nodup)(hb:lm cs)(i:Nat):zT (iZ (cs.take i)):=uF (qU _ (ja hb i)) (wR _ (ja hb i)) (by rw[DI];omega) (rL nd i) (ja hb i)
theorem oz{cs:List Pr}(h64:cs.length<=64)(nd:cs.Nodup)(hb:lm cs)(i:Nat):zT (gQ (cs.take i)):=uF (fq _) (o6 _) (by rw[DI];omega) (rL nd i) (ja hb i)
theorem lP{L:List (List Pr)}(f:List Pr->Bool):(L.filter f).flatten.length<=L.flatten.length:=by
 have:=(fh f L).length_eq;rw[CP]at this;omega
theorem part_short{L:List (List Pr)}{p:List Pr}(h:p∈L):p.length<=L.flatten.length:=by
 induction L with
 | nil=>cases h
 | cons a L ih =>
  rw[Cz,CP]
  rcases Ca.mp h with z|z
  ·rw[z]
   omega
  ·have:=ih z
   omega
theorem uC(rows:List Str)(w:Nat):(cI rows w).Nodup:=by
 unfold cI;refine List.pairwise_flatMap.mpr ⟨fun r _=> ?_,?_⟩
 ·refine List.Pairwise.map _ (fun a b h z=>h ?_) (List.Nodup.sublist List.filter_sublist List.nodup_range)
  have:(a:Int)=(b:Int):=(Prod.mk.inj z).2;omega
 ·refine List.Pairwise.imp (fun{a b} h x hx y hy z=>h ?_) (List.nodup_range (n:=rows.length))
  obtain⟨c,_,rfl⟩:=DR.mp hx;obtain⟨d,_,rfl⟩:=DR.mp hy;have:(a:Int)=(b:Int):=(Prod.mk.inj z).1;omega
theorem uD{rows:List Str}{w:Nat}(w8:w<=8):lm (cI rows w):=fun q hq=>by
 obtain⟨r,c,rfl,h1,h2,_⟩:=zQ hq;exact⟨by show(0:Int)<=(c:Int);omega,by show(c:Int)<1000;omega⟩
noncomputable def cY(rows:List Str)(w:Nat):List (List Pr):=bV (iZ (cI rows w))
theorem c72(k:Nat)(rows:List Str)(w:Nat)(hw:Wd rows w)(h8:rows.length<=8)(w8:w<=8):aB P (k+3) 72 [.tup (rows.map .str)]=some (.lst ((cY rows w).map qV)):=by
 have e3:=c3 (k+1) rows w hw h8 w8;rw[nV]at e3;have h64:=nU h8 w8;have nd:=uC rows w;have hb:=uD (rows:=rows) w8;refine dP rfl rfl ?_;simp only[d72,entry];walk_at "ev";refine ci (xs:=(cI rows w).map ah) (n:=true) ?_ (fun i τ=>∃a b c d,τ=[.frz (.tup (rows.map .str)) d,.frz (.lst ((iZ ((cI rows w).take i)).map qV)) true,a,b,c]) ⟨.un,.un,.un,imms (rows.map PV.str),?_⟩ ?_ ?_
 ·walk_at "ev"
  rw[show k+2=k+1+1 from rfl,e3];walk_at "ev"
 ·walk_at "ev"
  rfl
 ·rintro i y τ hy ⟨a,b,d,t,rfl⟩
  obtain⟨q,hq,rfl⟩:∃q,(cI rows w)[i]? =some q/\y=ah q:=by
   rw[Cb]at hy;obtain⟨x,hx,rfl⟩:=map_some hy;exact⟨x,hx,rfl⟩
  refine⟨_,rfl,?_⟩;obtain⟨b1,b2,b3,b4,b5⟩:=kD h64 nd hb i;have eq:iZ ((cI rows w).take (i+1))=wd (iZ ((cI rows w).take i)) q:=jF wd [] _ i q hq;rw[eq]
  generalize iZ ((cI rows w).take i)=L at b1 b2 b3 b4 b5
  have l1:(L.map qV).length<=16777216:=by rw[CI];omega
  have e70:∀p∈L,aB P (k+2) 70 [qV p,ah q]=some (.bl (hg q p)):=fun p hp=>c70 (k+1) q p (by have:=part_short hp;omega);have bc:0<=q.2/\q.2<1000:=hb q (C7 hq);have f1:=lP (L:=L) (hg q);have e71:aB P (k+2) 71 [.lst ((L.filter (hg q)).map qV),ah q]=some (qV (aX (q::(L.filter (hg q)).flatten))):=c71 (k+1) q _ (by have:=EQ (hg q) L;omega) (by omega) fun x hx=>by
   rcases Ca.mp hx with z|z
   ·rw[z]
    exact bc
   ·obtain⟨p,hp,hx⟩:=EE.mp z
    exact b4 x (EE.mpr ⟨p,(DW.mp hp).1,hx⟩)
  walk_at "ev";rw[CQ l1,dB (p:=hg q) (g:=qV) (fun p hp=>by
   rw[e70 p hp];walk_at "ev";cases hg q p
   ·walk_at "ev"
   ·walk_at "ev")]
  walk_at "ev";rw[CQ l1,dB (p:=fun p=> !hg q p) (g:=qV) (fun p hp=>by
   rw[e70 p hp];walk_at "ev";cases hg q p
   ·walk_at "ev"
   ·walk_at "ev")]
  walk_at "ev";rw[e71];show To (((gN ((L.filter fun p=> !hg q p).map qV++[qV (aX (q::(L.filter (hg q)).flatten))]) true).bind _).bind _) _;unfold gN;rw[CQ (by rw[CP,CI];have:=EQ (fun p=> !hg q p) L;show _+1<=16777216;omega)];rw[show wd L q=(L.filter fun p=> !hg q p)++[aX (q::(L.filter (hg q)).flatten)]from rfl,DQ];walk_at "ev";exact⟨_,_,_,_,rfl⟩
 ·rintro τ ⟨a,b,c,t,rfl⟩
  obtain⟨b1,b2,b3,b4,b5⟩:=kD h64 nd hb (cI rows w).length;rw[Di]at b1 b2 b3 b4 b5;walk_at "ev";rw[CI,Di,kX b3 b4 b5 (by omega) rfl];walk_at "ev";rfl
theorem c81(k:Nat)(c:Pr)(ps:List Pr)(hl:ps.length<=1000):aB P (k+1) 81 [.lst (ps.map ah),ah c]=some (.bl (hg c ps)):=by
 refine dP rfl rfl ?_;simp only[d81,entry];walk_at "ev";rw[CQ (by rw[CI];omega),dB (p:=fun o:Pr=>decide (o.1=c.1)||decide (o.2=c.2)) (g:=ah) (fun o _=>by
  unfold ah;walk_at "ev"
  by_cases e:o.1=c.1
  ·rw[DZ e]
   rfl
  ·rw[C6 e]
   by_cases e2:o.2=c.2
   ·rw[DZ e2]
    rfl
   ·rw[C6 e2]
    rfl)]
 walk_at "ev";rw[CI]
 congr 2
 unfold hg;rw[D1,D2,Ew];refine⟨fun h=> ?_,fun⟨x,h1,h2⟩=> ?_⟩
 ·have h:0<(ps.filter fun o=>decide (o.1=c.1)||decide (o.2=c.2)).length:=by omega
  obtain⟨x,hx⟩:=List.exists_mem_of_length_pos h;exact⟨x,(DW.mp hx).1,(DW.mp hx).2⟩
 ·have:=List.length_pos_of_mem (DW (p:=fun o:Pr=>decide (o.1=c.1)||decide (o.2=c.2)) |>.mpr ⟨h1,h2⟩)
  omega
theorem c82(k:Nat)(rows:List Str)(w:Nat)(hw:Wd rows w)(h0:rows≠[])(h8:rows.length<=8)(w8:w<=8):aB P (k+3) 82 [.tup (rows.map .str)]=some (.lst ((cY rows w).map qV)):=by
 have e7:=c7 (k+1) rows w hw h0 h8 w8;rw[nV]at e7;have h64:=nU h8 w8;have nd:=uC rows w;have hb:=uD (rows:=rows) w8;refine dP rfl rfl ?_;simp only[d82,entry];walk_at "ev";refine ci (xs:=(cI rows w).map ah) (n:=true) ?_ (fun i τ=>∃a b c d e,τ=[.frz (.tup (rows.map .str)) d,.frz (.lst ((gQ ((cI rows w).take i)).map qV)) true,a,b,c,e]) ⟨.un,.un,.un,imms (rows.map PV.str),.un,?_⟩ ?_ ?_
 ·walk_at "ev"
  rw[show k+2=k+1+1 from rfl,e7];walk_at "ev"
 ·walk_at "ev"
  rfl
 ·rintro i y τ hy ⟨a,b,d,t,e',rfl⟩
  obtain⟨q,hq,rfl⟩:∃q,(cI rows w)[i]? =some q/\y=ah q:=by
   rw[Cb]at hy;obtain⟨x,hx,rfl⟩:=map_some hy;exact⟨x,hx,rfl⟩
  refine⟨_,rfl,?_⟩;obtain⟨b1,b2,b3,b4,b5⟩:=oz h64 nd hb i;have eq:gQ ((cI rows w).take (i+1))=oB (gQ ((cI rows w).take i)) q:=jF oB [] _ i q hq;rw[eq]
  generalize gQ ((cI rows w).take i)=L at b1 b2 b3 b4 b5
  have e81:∀p∈L,aB P (k+2) 81 [qV p,ah q]=some (.bl (hg q p)):=fun p hp=>c81 (k+1) q p (by have:=part_short hp;omega);walk_at "ev";refine ci (xs:=L.map qV) (n:=true) ?_ (fun j τ=>∃e,τ=[.frz (.tup (rows.map .str)) t,.frz (.lst (L.map qV)) true,.frz (ah q) true,.frz (qV (q::((L.take j).filter (hg q)).flatten)) true,.own (((L.take j).filter fun p=> !hg q p).map qV) true,e]) ⟨e',?_⟩ ?_ ?_
  ·walk_at "ev"
  ·walk_at "ev"
   rfl
  ·rintro j y τ hy ⟨e,rfl⟩
   obtain⟨p,hp,rfl⟩:∃p,L[j]? =some p/\y=qV p:=by
    rw[Cb]at hy;obtain⟨x,hx,rfl⟩:=map_some hy;exact⟨x,hx,rfl⟩
   refine⟨_,rfl,?_⟩;have e1:=e81 p (C7 hp);have mp:=C7 hp;have tk:∀f:List Pr->Bool,(L.take (j+1)).filter f=(L.take j).filter f++(if f p then[p]else[]):=fun f=>by
    have:(some p).toList.filter f=if f p then[p]else[]:=by cases e:f p<;>simp[e]
    rw[Eo,hp,List.filter_append,this]
   have sl:∀f:List Pr->Bool,((L.take j).filter f).flatten.length<=64:=fun f=>by
    have h1:=lP (L:=L.take j) f;have h2:(L.take j).flatten.length<=L.flatten.length:=by
     conv=>rhs;rw[<- Cm j L,Eg,CP]
     omega
    omega
   have ls:p.length<=64:=by have:=part_short mp;omega
   walk_at "ev";rw[e1];walk_at "ev";cases hh:hg q p
   ·rw[CM (by simp)]
    have pu:oF 4 (qV p) true [.frz (.tup (rows.map .str)) t,.frz (.lst (L.map qV)) true,.frz (ah q) true,.frz (qV (q::((L.take j).filter (hg q)).flatten)) true,.own (((L.take j).filter fun p=> !hg q p).map qV) true,.frz (qV p) true]=some (.nx [.frz (.tup (rows.map .str)) t,.frz (.lst (L.map qV)) true,.frz (ah q) true,.frz (qV (q::((L.take j).filter (hg q)).flatten)) true,.own (((L.take j).filter fun p=> !hg q p).map qV++[qV p]) true,.frz (qV p) true]):=by
     show(if _ then some _ else none)=_;rw[CQ (by rw[CI];have h1:=EQ (fun p=> !hg q p) (L.take j);have h2:(L.take j).length<=64:=(by rw[DI];omega);show _<16777216;omega)];rfl
    rw[pu];walk_at "ev";refine⟨.frz (qV p) true,?_⟩;rw[tk,tk,hh];simp
   ·rw[CQ rfl]
    have bi:dU .Add (.frz (qV (q::((L.take j).filter (hg q)).flatten)) true) (.frz (qV p) true)=some (.own ((q::((L.take j).filter (hg q)).flatten++p).map ah) true):=by
     show gN ((q::((L.take j).filter (hg q)).flatten).map ah++p.map ah) (true&&true)=_;unfold gN;rw[<- DQ,CQ (by have:=sl (hg q);rw[CI,CP,Cv];show _<=16777216;omega)];rfl
    rw[bi];walk_at "ev";refine⟨.frz (qV p) true,?_⟩;rw[tk,tk,hh];simp[qV]
  ·rintro τ ⟨e,rfl⟩
   rw[CI,Di];rw[show oB L q=(L.filter fun p=> !hg q p)++[q::(L.filter (hg q)).flatten]from rfl,DQ];walk_at "ev";rw[CQ (by rw[CP,CI];have:=EQ (fun p=> !hg q p) L;show _+1<=16777216;omega)];walk_at "ev";exact⟨_,_,_,_,_,rfl⟩
 ·rintro τ ⟨a,b,c,t,e,rfl⟩
  obtain⟨b1,b2,b3,b4,b5⟩:=oz h64 nd hb (cI rows w).length;rw[Di]at b1 b2 b3 b4 b5;rw[CI,Di];walk_at "ev";have so:∀p∈gQ (cI rows w),ii .sorted [.frz (qV p) true]=some (.own ((aX p).map ah) true):=fun p hp=>by
   rw[show qV p=.lst (p.map ah)from rfl,lg];exact jH (b5 p hp) (by have:=part_short hp;omega) fun x hx=>b4 x (EE.mpr ⟨p,hp,hx⟩)
  have fl:((gQ (cI rows w)).map aX).flatten.Perm (cI rows w):=(du _).trans (fq _);have bn:=kD h64 nd hb (cI rows w).length;rw[Di,gq hb]at bn;obtain⟨d1,d2,d3,d4,d5⟩:=bn;rw[CQ (by rw[CI];omega),bq (g:=fun p=>qV (aX p)) (fun p hp=>by
   rw[so p hp];rfl)]
  walk_at "ev";rw[show(gQ (cI rows w)).map (fun p=>qV (aX p))=((gQ (cI rows w)).map aX).map qV by rw[Ed];rfl,kX d3 d4 d5 (by omega) rfl];walk_at "ev";unfold cY;rw[gq hb]
theorem lv20{k:Nat}{v:PV}(h:aB P k 20020 [.non]=some v):21<=k:=by
 by_cases hk:21<=k
 ·exact hk
 ·have e:∀k,k<21->(aB P k 20020 [.non]).isNone=true:=by decide +kernel
  have:=e k (by omega);rw[h]at this;cases this
theorem oy{f k:Nat}{n:Nat}{vs:List PV}{r:PV}(hP:P f=some ⟨n+1,1,.cons (.drop (.call 20020 (.cons (.con .non) .nil))) (.cons (.hand 1 nW) .nil)⟩)(h:aB P (k+1) f vs=some r):21<=k/\r=.bl true/\∃(rows:List Str)(w:Nat),vs=[.tup (rows.map .str)]/\rows≠[]/\rows.length<=8/\w<=8/\Wd rows w:=by
 rw[iW,hP,Ch]at h
 split at h
 case isFalse=>cases h
 rename_i hl;have hl:vs.length=1:=hl
 match vs,hl with
 | [v],_ =>
  simp only[ug,uh,gh,gT,gS,gY,ga,gR,gU,gg,gf,gi,gX,gc,gb,gZ,gW,cC,bu,cF,cQ,cD,cH,bx,bz,cR,cE,cG,b8,b9,bv,cS,cT,cB,cO,cA,cP,o9,pB,entry,Ch,DA,Cc,DS,az]at h;cases h9:aB P k 20020 [.non]with
  | none=>rw[h9]at h;cases h
  | some x =>
   rw[h9]at h;simp only[DA,Ch,gj]at h;have e:(([TV.frz v (imm v)]++List.replicate (n+1-[v].length) TV.un).take 1).map TV.valD=[v]:=rfl;rw[e]at h;cases hg:nW [v]with
   | none=>rw[hg]at h;cases h
   | some r' =>
    rw[hg]at h;have h:some r' =some r:=h;cases h;exact⟨lv20 h9,wE hg⟩
theorem zS{f k:Nat}{n:Nat}(hP:P f=some ⟨n+1,1,.cons (.drop (.call 20020 (.cons (.con .non) .nil))) (.cons (.hand 1 nW) .nil)⟩){rows:List Str}{w:Nat}(h0:rows≠[])(h8:rows.length<=8)(w8:w<=8)(hw:Wd rows w):aB P (k+22) f [.tup (rows.map .str)]=some (.bl true):=by
 refine run hP rfl ?_;have e9:aB P (k+21) 20020 [.non]=some .non:=rfl;simp only[ug,uh,gh,gT,gS,gY,ga,gR,gU,gg,gf,gi,gX,gc,gb,gZ,gW,cC,bu,cF,cQ,cD,cH,bx,bz,cR,cE,cG,b8,b9,bv,cS,cT,cB,cO,cA,cP,o9,pB,entry,Ch,DA,Cc,DS,az,sc];rw[e9];simp only[DA,Ch,gj];have e:(([TV.frz (PV.tup (rows.map PV.str)) (imm (PV.tup (rows.map PV.str)))]++List.replicate (n+1-[PV.tup (rows.map PV.str)].length) TV.un).take 1).map TV.valD=[.tup (rows.map .str)]:=rfl;rw[e,zR h0 h8 w8 hw];rfl
section
open PySem.Spec PyProof.Rows
theorem An:dE N83 ["_law_board_here"] (aN Ap):=⟨rfl,rfl,rfl,by decide +kernel,rfl,by decide +kernel,by decide +kernel⟩
theorem c83(k:Nat)(rows:List Str)(w:Nat)(hw:Wd rows w)(h0:rows≠[])(h8:rows.length<=8)(w8:w<=8):aB P (k+22) 83 [.tup (rows.map .str)]=some (.bl true):=zS (n:=3) rfl h0 h8 w8 hw
theorem vB{k:Nat}(hk:8<=k){v:PV}(hd:depth v<=4)(hp:plain v=true):aB P k 9 [v,v]=some (.bl true):=by
 have:=c9 4 (k-8) v hd hp
 rwa [show 2*4+(k-8)=k by omega]at this
theorem pQ(l:List Pr):plain.plains (l.map ah)=true/\depth.depths (l.map ah)<=2:=by
 induction l with
 | nil=>exact⟨rfl,DG _⟩
 | cons x l ih =>
  rw[Cc];unfold plain.plains depth.depths;exact⟨by rw[ih.1];rfl,Nat.max_le.mpr ⟨CO _,ih.2⟩⟩
theorem sB(l:List (List Pr)):plain.plains (l.map qV)=true/\depth.depths (l.map qV)<=3:=by
 induction l with
 | nil=>exact⟨rfl,DG _⟩
 | cons x l ih =>
  obtain⟨a,b⟩:=pQ x;rw[Cc];unfold plain.plains depth.depths;refine⟨?_,Nat.max_le.mpr ⟨?_,ih.2⟩⟩
  ·show(plain.plains (x.map ah)&&_)=true
   rw[ih.1,a];rfl
  ·show depth.depths (x.map ah)+1<=3
   omega
theorem jh{k:Nat}(hk:8<=k)(l:List (List Pr)):aB P k 9 [.lst (l.map qV),.lst (l.map qV)]=some (.bl true):=by
 obtain⟨a,b⟩:=sB l;exact vB hk (by show depth.depths (l.map qV)+1<=4;omega) a
theorem je:Wd (["x.",".x"]:List Str) 2:=by
 intro z hz
 rcases Ca.mp hz with e|e
 ·rw[e]
  rfl
 ·rw[Cn.mp e]
  rfl
theorem AY:cY ["x.",".x"] 2=[[(0,0)],[(1,1)]]:=by
 have e:cI ["x.",".x"] 2=[(0,0),(1,1)]:=by decide +kernel
 unfold cY iZ;rw[e];simp[wd,hg,aX,bV,List.mergeSort,List.merge,bp,SW.bD]
theorem rH{rows:List Str}{w:Nat}(h8:rows.length<=8)(w8:w<=8):(cY rows w).length<16777216:=by
 have:=(kD (nU h8 w8) (uC rows w) (uD w8) (cI rows w).length).1;rw[Di]at this;unfold cY;rw[(dN _).length_eq];omega
theorem vD{K:W.Frag}{Hj G:Hp}{t:Addr}{a b:Int}(h:G t=some (.tup [.int a,.int b])):Rp K Hj false (ah (a,b)) G (.ref t):=Rp.tup.mpr ⟨t,_,rfl,bQ.of h,.cons (Rp.int.mpr rfl) (.cons (Rp.int.mpr rfl) .nil)⟩
theorem rZ{K:W.Frag}{Hj G:Hp}{l t:Addr}{a b:Int}(h:G l=some (.lst [.ref t]))(g:G t=some (.tup [.int a,.int b])):Rp K Hj false (qV [(a,b)]) G (.ref l):=Rp.lst.mpr ⟨l,_,rfl,(fun z=>by cases z),ao.of h,.cons (vD (by unfold del;rw[CM (fun z=>by rw[z,h]at g;cases g)];exact g)) .nil⟩
theorem zA{K:W.Frag}{mg:Str->Option Value}{f:Addr}{fd:FuncData}(D:Def K mg "_law_good" Ap ["_law_board_here"] f fd)(p:Program)(w:World)(base:Heap)(k:Nat)
  (fns:∀y g,F.lookup y=some g->∃b gd qs,mg y=some (.ref b)/\W.keepIn K (.ref b)=true/\Binds K gd qs []/\bt p w K mg base jD k b gd qs (ub K (aB P k g))):bt p w K mg base jD (k+1) f fd ["_law_board_here"] (ub K (aB P (k+1) 83)):=by
 refine D.fn.ok An (fun vs H Q E h=> ?_) (fun cdv A outer s H vs Q E hr h=> ?_)
 ·obtain⟨pvs,r,h1,h2,_⟩:=h
  rw[<- h1.len];obtain⟨_,_,_,_,rfl,_⟩:=oy (n:=3) rfl h2;rfl
 obtain⟨fb,gdb,qsb,mgb,kpb,bdb,FB⟩:=fns "parts_of" 72 rfl;obtain⟨fg,gdg,qsg,mgg,kpg,bdg,FG⟩:=fns "_law_parts" 82 rfl;obtain⟨fs,gds,qss,mgs,kps,bds,FS⟩:=fns "_law_same" 9 rfl;obtain⟨pvs,r,h1,h2,q⟩:=h;obtain⟨hk,rfl,rows,w',rfl,h0,h8,w8,hw⟩:=oy (n:=3) rfl h2;obtain⟨k,rfl⟩:∃k',k=k' +21:=⟨k-21,by omega⟩;have e72:aB P (k+21) 72 _=_:=c72 (k+18) rows w' hw h8 w8;have e82:aB P (k+21) 82 _=_:=c82 (k+18) rows w' hw h0 h8 w8;have e9:=jh (k:=k+21) (by omega) (cY rows w');have e73:aB P (k+21) 72 _=_:=c72 (k+18) ["x.",".x"] 2 je (by decide) (by decide);have e10:=jh (k:=k+21) (by omega) (cY ["x.",".x"] 2);rw[AY]at e73 e10;obtain⟨v,hv⟩:∃v,v=PV.tup (rows.map .str):=⟨_,rfl⟩;have hq:(cY rows w').length<16777216:=rH h8 w8
 generalize cY rows w' =qs at e72 e82 e9 hq
 rw[<- hv]at h1 e72 e82;have nd:=An.nd;have hs:sizeLine=16777216:=DX;have h1' :=h1;unfold aD at h1';obtain⟨a,_,rfl,ra,h1'⟩:=h1';unfold aD at h1';subst h1'
 refine⟨_,aj (fU (i:=1) nd rfl (Or.inl rfl) (cL FG hr rfl mgg kpg bdg .nil gB (aG (pv 0) aV)))
  (aj (fU (i:=2) nd rfl (Or.inl rfl) (cL FB hr rfl mgb kpb bdb .nil gB (aG (pv 0) aV)))
  (aj (rn (PW.pt (wj (mW (hX (cL FS hr rfl mgs kps bds .nil gB (aG (pv 2) (aG (pv 1) aV))) (by intro _;rfl)))
    (rk (mW (hX (cL FS hr rfl mgs kps bds .nil gB (aG (cL FB hr rfl mgb kpb bdb .nil gB (aG (jp (aG me (aG me aV))) aV)) (aG (iC (aG (iC (aG (jp (aG iD (aG iD aV))) aV)) (aG (iC (aG (jp (aG iD (aG iD aV))) aV)) aV))) aV))) (by intro _;rfl)))))) (cK (mX wo)) jo)
  (aj (mY PassesOwn.never rfl (gk (pv 2)) (dk (i:=3) nd rfl (Or.inl rfl)) (cK (em (yJ ED PySem.F.slot_list_clear PySem.F.type_list_clear se (pv 3) rfl rfl))))
  (aj (em (km ED PySem.F.slot_list_append PySem.F.type_list_append fc (pv 2) (aG (iC aV) aV)))
  (cK (mX (cL FS hr rfl mgs kps bds .nil gB (aG (cL FB hr rfl mgb kpb bdb .nil gB (aG (pv 0) aV)) (aG (pv 1) aV))))))))),?_⟩
 refine⟨_,rfl,[v],_,h1.entry (fun z=>by cases z),e82,fun u1 H1 s1 rp1=> ?_⟩;refine⟨_,rfl,[v],_,(h1.mono s1).entry (fun z=>by cases z),e72,fun u2 H2 s2 rp2=> ?_⟩;have rv:∀{G:Hp},aA H1 G->Rp K G false (.lst (qs.map qV)) G u1:=fun{G} z=>((rp1.mono z).weak).entry (fun z=>by cases z);refine⟨_,rfl,_,rfl,[.lst (qs.map qV),.lst (qs.map qV)],.bl true,.cons (rp2.weak.entry (fun z=>by cases z)) (.cons (rv s2) .nil),e9,fun u3 H3 s3 rp3=> ?_⟩;refine⟨true,gt (X:=(i6 jD p w K mg base N83 "_law_good" (aN Ap) f cdv A outer s H E).nox) rfl rp3.weak,ju ?_⟩;refine⟨by show 2<=sizeLine;rw[hs];decide,fun tx htx=> ?_⟩;have s4:=aH htx (.tup [.str "x.",.str ".x"]);refine⟨[.tup [.str "x.",.str ".x"]],_,.cons (Rp.tup.mpr ⟨tx,_,rfl,bQ.of aW,.cons (Rp.str.mpr rfl) (.cons (Rp.str.mpr rfl) .nil)⟩) .nil,e73,fun u5 H5 s5 rp5=> ?_⟩;refine⟨by show 2<=sizeLine;rw[hs];decide,fun t1 f1=>⟨by show 1<=sizeLine;rw[hs];decide,fun l1 f2=>⟨by show 2<=sizeLine;rw[hs];decide,fun t2 f3=>⟨by show 1<=sizeLine;rw[hs];decide,fun l2 f4=>⟨by show 2<=sizeLine;rw[hs];decide,fun l3 f5=> ?_⟩⟩⟩⟩⟩;have g1:=aH f1 (.tup [.int 0,.int 0]);have g2:=aH f2 (.lst [.ref t1]);have g3:=aH f3 (.tup [.int 1,.int 1]);have g4:=aH f4 (.lst [.ref t2]);have g5:=aH f5 (.lst [.ref l1,.ref l2]);obtain⟨H6,hH6⟩:∃H6,H6=L2.upd (L2.upd (L2.upd (L2.upd (L2.upd H5 t1 (.tup [.int 0,.int 0])) l1 (.lst [.ref t1])) t2 (.tup [.int 1,.int 1])) l2 (.lst [.ref t2])) l3 (.lst [.ref l1,.ref l2]):=⟨_,rfl⟩;rw[<- hH6]at g5;have s56:aA H5 H6:=(((g1.trans g2).trans g3).trans g4).trans g5;have up:∀{G:Hp}{a:Addr}{o:HO},L2.upd G a o a=some o:=aW;have k1:H6 t1=some (.tup [.int 0,.int 0]):=g5 _ _ (g4 _ _ (g3 _ _ (g2 _ _ up)));have k2:H6 l1=some (.lst [.ref t1]):=g5 _ _ (g4 _ _ (g3 _ _ up));have k3:H6 t2=some (.tup [.int 1,.int 1]):=g5 _ _ (g4 _ _ up);have k4:H6 l2=some (.lst [.ref t2]):=g5 _ _ up;have k5:H6 l3=some (.lst [.ref l1,.ref l2]):=by rw[hH6];exact up
 have dl:∀{b:Addr}{o:HO},H6 b=some o->o≠.lst [.ref l1,.ref l2]->del H6 l3 b=some o:=fun{b o} e n=>by
  unfold del;rw[CM (fun z=>by rw[z,k5]at e;exact n (Cq e).symm)];exact e
 have n1:(HO.lst [.ref t1])≠.lst [.ref l1,.ref l2]:=fun z=>by cases z
 have n2:(HO.lst [.ref t2])≠.lst [.ref l1,.ref l2]:=fun z=>by cases z
 have n3:∀a b:Int,(HO.tup [.int a,.int b])≠.lst [.ref l1,.ref l2]:=fun a b z=>by cases z
 have rl:Rp K H6 false (.lst (([[(0,0)],[(1,1)]]:List (List Pr)).map qV)) H6 (.ref l3):=Rp.lst.mpr ⟨l3,_,rfl,(fun z=>by cases z),ao.of k5,.cons (rZ (dl k2 n1) (dl k1 (n3 _ _))) (.cons (rZ (dl k4 n2) (dl k3 (n3 _ _))) .nil)⟩;rw[<- hH6];refine⟨_,.bl true,.cons ((rp5.mono s56).weak.entry (fun z=>by cases z)) (.cons rl .nil),e10,fun u7 H7 s7 rp7=> ?_⟩;refine⟨true,gt (X:=(i6 jD p w K mg base N83 "_law_good" (aN Ap) f cdv A outer s H E).nox) rfl rp7.weak,ju ?_⟩;have s27:aA H2 H7:=((s3.trans (s4.trans s5)).trans s56).trans s7;obtain⟨p2,us,rfl,hn,-,rus⟩:=Rp.lst.mp rp2;obtain⟨hp0,hp2⟩:=hn rfl;have lus:us.length=qs.length:=by rw[<- rus.len,CI]
 have itm:∀(i:Nat)(u:V),us[i]? =some u->∃l vs,u=.ref l/\H1 l=none/\l≠p2/\H2 l=some (.lst vs):=fun i u hu=>by
  obtain⟨x,hx,rx⟩:=rus.at' hu;rw[Cb]at hx;obtain⟨y,_,rfl⟩:=map_some hx;obtain⟨l,vs,rfl,hn,-,_⟩:=Rp.lst.mp rx;obtain⟨a1,a2⟩:=hn rfl;unfold del at a2
  split at a2
  ·cases a2
  ·rename_i ne
   exact⟨l,vs,rfl,a1,ne,a2⟩
 have hu1:∀b o,H1 b=some o->b≠p2:=fun b o e z=>by rw[z,hp0]at e;cases e
 refine⟨_,rfl,p2,rfl,⟨_,ao.of (s27 _ _ hp2)⟩,tQ (xs:=us) (fun i σ G=>aA H1 G/\G p2=some (.lst us)/\(∀(j:Nat)(u:V),us[j]? =some u->∃l vs,u=.ref l/\H1 l=none/\l≠p2/\G l=some (.lst vs))/\∃c,σ=[some a,some u1,some (.ref p2),c]) ⟨s2.trans s27,s27 _ _ hp2,fun j u hu=> ?_,_,rfl⟩ ?_ ?_ ?_⟩
 ·obtain⟨l,vs,e1,e2,e3,e4⟩:=itm j u hu
  exact⟨l,vs,e1,e2,e3,s27 _ _ e4⟩
 ·rintro i σ G _ ⟨_,hG,_⟩
  exact ao.of hG
 ·rintro i x σ G hx ⟨sG,hG,it,c,rfl⟩
  obtain⟨l,vs,rfl,e2,e3,e4⟩:=it i x hx;refine⟨_,rfl,.inl ⟨rfl,_,ao.of e4⟩,l,vs,rfl,rfl,e4,?_⟩;refine⟨fun b o e=> ?_,?_,fun j u hu=> ?_,_,rfl⟩
  ·rw[aF (fun z=>by rw[z,e2]at e;cases e)]
   exact sG _ _ e
  ·rw[aF (FK e3)]
   exact hG
  ·obtain⟨l',vs',e1,e5,e6,e7⟩:=it j u hu
   by_cases z:l' =l
   ·subst z
    exact⟨l',[],e1,e5,e6,up⟩
   ·exact⟨l',vs',e1,e5,e6,by rw[aF z];exact e7⟩
 ·rintro σ G ⟨sG,hG,it,c,rfl⟩
  refine⟨_,rfl,.inl ⟨rfl,_,ao.of hG⟩,DG _,fun d hd=> ?_⟩;have np:p2≠d:=fun z=>by rw[<- z,hG]at hd;cases hd
  refine⟨p2,us,.ref d,rfl,rfl,by rw[aF np];exact hG,by rw[hs,lus];exact hq,?_⟩;obtain⟨H8,hH8⟩:∃H8,H8=L2.upd (L2.upd G d (.lst [])) p2 (.lst (us++[.ref d])):=⟨_,rfl⟩;rw[<- hH8];have s18:aA H1 H8:=fun b o e=>by
   rw[hH8,aF (hu1 b o e),aF (fun z=>by have:=sG _ _ e;rw[z,hd]at this;cases this)];exact sG _ _ e
  refine⟨_,rfl,[v],_,(h1.mono (s1.trans s18)).entry (fun z=>by cases z),e72,fun u9 H9 s9 rp9=> ?_⟩;refine⟨_,rfl,_,.bl true,.cons (rp9.weak.entry (fun z=>by cases z)) (.cons (rv (s18.trans s9)) .nil),e9,fun u10 H10 s10 rp10=> ?_⟩;exact q _ _ (s1.trans (s18.trans (s9.trans s10))) (rp10.entry fun _ p hp=>(s1.trans (s18.trans s9)).free hp)
end
theorem rf(c hi:Nat)(hc:0<c)(hc2:c<1000)(h:Builtin.Range.small 0 (hi:Int) (c:Int)=true/\(Builtin.Range.rangeSize 0 (hi:Int) (c:Int)).toNat=(hi+(c-1))/c):fS [sc (.int 0),sc (.int (hi:Nat)),sc (.int (c:Nat))]=some ((List.range ((hi+(c-1))/c)).map fun m=>.int (0+(m:Nat)*(c:Nat))):=by
 show(if(c:Int)≠0/\(c:Int).natAbs<1073741824/\Builtin.Range.small 0 (hi:Int) (c:Int)=true then some ((List.range (Builtin.Range.rangeSize 0 (hi:Int) (c:Int)).toNat).map fun m=>PV.int (0+(m:Nat)*(c:Int)))else none)=_;rw[CQ ⟨by omega,by omega,h.1⟩,h.2]
theorem step_at{c n i:Nat}{y:PV}(h:((List.range n).map fun m=>PV.int (0+(m:Nat)*(c:Nat)))[i]? =some y):y=.int ((c*i:Nat):Int):=by
 rw[Cb]at h
 by_cases hi:i<n
 ·rw[DN hi]at h
  rw[<- Cq h];show PV.int (0+(i:Int)*(c:Int))=_
  congr 1
  rw[Int.zero_add,Int.mul_comm];rfl
 ·rw[Dv (by simpa using hi)]at h
  cases h
theorem sm2:∀hi:Nat,hi<64->(Builtin.Range.small 0 (hi:Int) ((2:Nat):Int)=true/\(Builtin.Range.rangeSize 0 (hi:Int) ((2:Nat):Int)).toNat=(hi+(2-1))/2):=by decide
noncomputable def yu(i:Nat)(x v:PV)(m:Bool)(τ:En):Option Fl:=match x,τ[i]? with
 | .int j,some (.own xs n)=>if 0<=j/\j<=xs.length/\xs.length<LN then some (.nx (τ.set i (.own (xs.take j.toNat++v::xs.drop j.toNat) (n&&m))))else none
 | _,_=>none
theorem v3{cd:Nat->List PV->Option PV}{fu i:Nat}{k e:IE}{τ:En}:eR cd fu (.ins i k e) τ=(aS cd k τ).bind fun x=>(aS cd e τ).bind fun r=>r.keep.bind fun p=>yu i x.val p.1 p.2 τ:=rfl
theorem tH{i:Nat}{j:Int}{v:PV}{n m:Bool}{xs:List PV}{τ:En}(h:τ[i]? =some (.own xs n))(h0:0<=j)(h1:j<=xs.length)(h2:xs.length<LN) :
  yu i (.int j) v m τ=some (.nx (τ.set i (.own (xs.take j.toNat++v::xs.drop j.toNat) (n&&m)))):=by
 unfold yu;rw[h];exact CQ ⟨h0,h1,h2⟩
theorem Bx(k:Nat)(c:Int)(m:Nat)(hm:m<=8):aB P (k+1) 21 [.int c,.int (m:Nat)]=some (.lst ((bG c m).1.map fun i=>.int (i:Nat))):=by
 refine dP rfl rfl ?_;simp only[d21,entry];walk_at "go";refine ci (xs:=(List.range m).map fun i=>.int (0+(i:Nat))) (n:=true) ?_ (fun i τ=>∃b:TV,τ=[.frz (.int (bG c i).2) true,.frz (.int m) true,.own ((bG c i).1.map fun i=>.int (i:Nat)) true,b]) ⟨.un,rfl⟩ ?_ ?_
 ·walk_at "ev"
  simp only[fS,az];rw[CQ ⟨by omega,by omega⟩];rfl
 ·rintro i y τ hy ⟨b,rfl⟩
  obtain⟨hi,rfl⟩:=cc hy;refine⟨_,rfl,?_⟩;have hl:(bG c i).1.length=i:=en c i;obtain⟨d,hd⟩:∃d,d=(bG c i).2:=⟨_,rfl⟩;obtain⟨o,ho⟩:∃o,o=(bG c i).1:=⟨_,rfl⟩;have e1:0<=d%((i:Int)+1):=Int.emod_nonneg _ (by omega);have e2:d%((i:Int)+1)<(i:Int)+1:=FF _ (by omega);have g1:(bG c (i+1)).1=o.take (d%((i:Int)+1)).toNat++i::o.drop (d%((i:Int)+1)).toNat:=by rw[ho,hd];rfl
  have g2:(bG c (i+1)).2=d/((i:Int)+1):=by rw[hd];rfl
  rw[g1,g2,<-ho,<-hd];rw[<- ho]at hl;walk_at "ev";rw[v3];walk_at "go";rw[tH rfl e1 (by rw[CI,hl];omega) (by rw[CI,hl];show i<16777216;omega)];walk_at "go";exact⟨.frz (.int i) true,by simp⟩
 ·rintro τ ⟨b,rfl⟩
  rw[ef];walk_at "ev"
theorem c5x(k:Nat)(c j:Int)(h0:0<=j)(h1:j<=1000000):aB P (k+1) 5 [.int c,.int j]=some (.int (yc c j)):=by
 refine dP rfl rfl ?_;simp only[d5,entry];walk_at "go";rfl
noncomputable abbrev iN(l:List Nat):PV:=.lst (l.map fun i=>.int (i:Nat))
theorem jz:∀l:List Nat,aa (l.map fun i=>.int (i:Nat))=some (l.map fun i:Nat=>(i:Int))
 | []=>rfl
 | x::l=>by rw[Cc,aa,jz l];rfl
theorem gz:∀l:List Nat,(l.map fun i:Nat=>(i:Int)).sum=(l.sum:Nat)
 | []=>rfl
 | x::l=>by rw[Cc,FU,FU,gz l];omega
theorem rK{l:List Nat}{n:Bool}:ii .sum [.frz (iN l) n]=some (sc (.int (l.sum:Nat))):=by
 rw[o5,jz,DA,gz]
theorem jZ{cd:Nat->List PV->Option PV}{τ:En}{i j:Nat}{e:IE}{l:List Nat}{n:Bool}{r:RV}(hi:lJ τ i=some (.frz (iN l) n))(he:aS cd e τ=some r)(hr:r.val=.int (j:Nat)):aS cd (.bf .sum (.cons (.sl (.var i) .no (.yes e)) .nil)) τ=some (sc (.int ((l.take j).sum:Nat))):=by
 simp only[cC,bu,cF,cQ,cD,cH,bx,bz,cR,cE,cG,b8,b9,bv,cS,cT,cB,cO,cA,cP,o9,pB,z0s,z0t,hi,he,Ch,DA];have e1:lG (some r)=some (some (j:Int)):=by
  show(match r.val with| .int i=>some (some i)|_=>none)=_;rw[hr]
 rw[show lG none=some none from rfl,Ch,e1,Ch,mS];have e2:cut (l.map fun i=>PV.int (i:Nat)) none (some (j:Int))=(l.take j).map fun i=>.int (i:Nat):=by
  unfold cut;rw[HT.rY,HT.vC,List.drop_zero,Nat.sub_zero,CI,<-List.map_take,<-List.take_eq_take_min]
 rw[e2];show(aa ((l.take j).map fun i=>PV.int (i:Nat))).map (fun ns=>sc (.int ns.sum))=_;rw[jz,DA,gz]
theorem Ar{a b:Nat}(ha:a<1000)(hb:b<1000):fS [sc (.int (a:Nat)),sc (.int (b:Nat))]=some ((List.range (b-a)).map fun k=>.int ((a:Nat)+(k:Nat))):=by
 simp only[fS,az];rw[CQ (by refine⟨?_,?_,?_,?_⟩<;>omega),show((b:Int)-(a:Int)).toNat=b-a by omega]
theorem tD{r:List Str}(h:∀z∈r,z="."\/z="x")(h8:r.length<=8):pZ .join (sc (.str "")) [.frz (.lst (r.map .str)) true]=some (sc (.str (eL "" r))):=by
 have tx:∀r:List Str,bH (r.map PV.str)=some r:=by
  intro r
  induction r with
  | nil=>rfl
  | cons z r ih=>rw[Cc,bH,ih];rfl
 have sl:∀r:List Str,(∀z∈r,z="."\/z="x")->(r.map (·.length)).sum=r.length:=by
  intro r
  induction r with
  | nil=>intro _;rfl
  | cons z r ih =>
   intro h;have e2:z.length=1:=by rcases h z (by simp)with e|e<;>(rw[e];rfl)
   rw[Cc,FU,ih fun y hy=>h y (CV _ hy),e2,Cv];omega
 show((bH (r.map PV.str)).bind fun ys=>if(ys.map (·.length)).sum+ys.length*(Str.ofString "").length<=LN then some (sc (.str (eL (Str.ofString "") ys)))else none)=_;rw[tx,Ch,sl r h,CQ (by show _+_*0<=16777216;omega)]
theorem oC{a n i:Nat}{y:PV}(h:((List.range n).map fun i=>PV.int ((a:Nat)+(i:Nat)))[i]? =some y):i<n/\y=.int ((a+i:Nat):Int):=by
 rw[Cb]at h
 by_cases hi:i<n
 ·rw[DN hi]at h
  cases h;exact⟨hi,by rw[Int.natCast_add]⟩
 ·rw[Dv (by rw[C9];omega)]at h
  cases h
section
open PySem.Spec PyProof.Rows
theorem xb:dE AQ ["_law_head","_law_cell_here"] (aN AK):=⟨rfl,rfl,rfl,by decide +kernel,rfl,by decide +kernel,by decide +kernel⟩
theorem lv1{k:Nat}{v:PV}(h:aB P k 20001 [.non]=some v):2<=k:=by
 by_cases hk:2<=k
 ·exact hk
 ·have e:∀k,k<2->(aB P k 20001 [.non]).isNone=true:=by decide +kernel
  have:=e k (by omega);rw[h]at this;cases this
theorem o0{k:Nat}{vs:List PV}{r:PV}(h:aB P (k+1) 76 vs=some r):2<=k/\∃x c,vs=[.int x,.int c]/\r=.tup ((dF x c).map .str):=by
 rw[iW]at h;have hP:P 76=some Bq:=rfl;rw[hP,Ch]at h
 split at h
 case isFalse=>cases h
 rename_i hl;have hl:vs.length=2:=hl;obtain⟨a,b,rfl⟩:=yf hl;simp only[Bq,ug,uh,gh,gT,gS,gY,ga,gR,gU,gg,gf,gi,gX,gc,gb,gZ,gW,cC,bu,cF,cQ,cD,cH,bx,bz,cR,cE,cG,b8,b9,bv,cS,cT,cB,cO,cA,cP,o9,pB,entry,Ch,DA,Cc,DS,az]at h;cases h9:aB P k 20001 [.non]with
 | none=>rw[h9]at h;cases h
 | some x =>
  rw[h9]at h;refine⟨lv1 h9,?_⟩;simp only[DA,Ch,gj]at h;have e:(([TV.frz a (imm a),.frz b (imm b)]++List.replicate (10-[a,b].length) TV.un).take 2).map TV.valD=[a,b]:=rfl;rw[e]at h;cases hg:zU [a,b]with
  | none=>rw[hg]at h;cases h
  | some r' =>
   rw[hg]at h;have h:some r' =some r:=h;cases h;unfold zU at hg
   split at hg
   ·rename_i x c heq
    cases heq;cases hg;exact⟨x,c,rfl,rfl⟩
   ·cases hg
theorem c76(k:Nat)(x c:Int):aB P (k+3) 76 [.int x,.int c]=some (.tup ((dF x c).map .str)):=rfl
noncomputable abbrev tm:Ct:=⟨AQ,(aN AK).names,F,G,B,[]⟩
noncomputable abbrev gP(x c:Int)(o q:List Nat)(g a b d:TV):En:=[.frz (.int x) true,.frz (.int c) true,.frz (iN (cJ x)) true,.frz (iN (bU x)) true,.frz (iN o) true,.frz (iN q) true,g,a,b,d]
theorem BG{x c:Int}{o q:List Nat}{a b d:TV}(ha:a.ob=none)(hb:b.ob=none)(hd:d.ob=none):∀(i:Nat)(t:TV),(gP x c o q .un a b d)[i]? =some t->t.ob=none:=by
 intro i t h;have:=C7 h;simp only[gP,Ca,DK,EU]at this
 rcases this with rfl|rfl|rfl|rfl|rfl|rfl|rfl|rfl|rfl|rfl<;>first|rfl|assumption
noncomputable abbrev b76(i:Nat):Stmt:=(av AK).getD i (.Pass ⟨0,0,0,0⟩)
noncomputable def pH:Stmt->Stmt
 | .For _ _ b _ _=>b.getD 0 (.Pass ⟨0,0,0,0⟩)
 | .If _ a _ _=>a.getD 0 (.Pass ⟨0,0,0,0⟩)
 | x=>x
section
variable{X:Cx}{Hi:Hp}{O:List Addr}{σ:L2.St}{H:Hp}{D:dh}{k:Nat}{x c:Int}{o q:List Nat}{A:Addr}{g:Gd}{n m:Nat}
theorem wH(C:bB (aB P (k+2)) X tm){j r l:Nat}(ho:o[r]? =some (o.getD r 0))(hq:q[l]? =some (q.getD l 0))(hr:r<8)(hl8:l<8)(hn:o.getD r 0<n)(hm:q.getD l 0<m)(dm:fO n m g)
  (R:aQ X.K Hi O (gP x c o q .un (.frz (.int (j:Nat)) true) (.frz (.int (r:Nat)) true) (.frz (.int (l:Nat)) true)) σ H) (hA:σ[6]? =some (some (.ref A))) (hg:Gr O A g H)
  (fin:∀G,aQ X.K Hi O (gP x c o q .un (.frz (.int (j:Nat)) true) (.frz (.int (r:Nat)) true) (.frz (.int (l:Nat)) true)) σ G->aA (aI H O) (aI G O)->Gr O A (qM c o q r l g) G->D.nx σ G):wT X [pH (pH (pH (b76 5)))] D σ H:=by
 refine n6 (cK gM) ?_;have e5:=c5x (k+1) c (8*(r:Int)+(l:Int)) (by omega) (by omega);refine if_w (n:=80) (c' :=.val (.cmp .Gt (.bin .Mod (.call 5 (.cons (.var 1) (.cons (.bin .Add (.bin .Mult (.con (.int 8)) (.var 8)) (.var 9)) .nil))) (.con (.int 4))) (.con (.int 0)))) (t:=decide (0<yc c (8*(r:Int)+(l:Int))%4)) C (by kernel_rfl) ?_ R (fun ht G s=> ?_) fun ht G s=> ?_
 ·walk_at "ev"
  rw[e5];walk_at "go"
 ·have ht:=ER ht
  refine n6 (cK gM) ?_;obtain⟨d1,d2,d3⟩:=dm.at hn;refine pC (n:=80) (i:=6) (e' :=.con (.str "x")) (ka' :=.ix (.var 4) (.var 8)) (kb' :=.ix (.var 5) (.var 9)) (z:="x") (m:=true) (a:=o.getD r 0) (b:=q.getD l 0) (ra:=.frz (.int (o.getD r 0:Nat)) true) (rb:=.frz (.int (q.getD l 0:Nat)) true) C (by kernel_rfl) rfl rfl rfl (by kernel_rfl) (by kernel_rfl) (by kernel_rfl) ?_ ?_ rfl ?_ rfl (R.ext s) (BG rfl rfl rfl) hA (hg.ext s) d1 (by rw[d2];exact hm) fun G2 R2 s2 g2=> ?_
  ·walk_at "ev"
  ·have ea:dc (o.map fun i=>PV.int (i:Nat)) (r:Int)=some (.int (o.getD r 0:Nat)):=cN (by rw[Cb,ho];rfl)
   walk_at "ev";rw[ea];walk_at "ev"
  ·have ea:dc (q.map fun i=>PV.int (i:Nat)) (l:Int)=some (.int (q.getD l 0:Nat)):=cN (by rw[Cb,hq];rfl)
   walk_at "ev";rw[ea];walk_at "ev"
  ·refine fin G2 R2 ((aC s).trans s2) ?_
   unfold qM;rw[CQ ht];exact g2
 ·have ht:=of_decide_eq_false ht
  refine n6 jo (fin G (R.ext s) (aC s) ?_);unfold qM;rw[CM ht];exact hg.ext s
theorem zV(C:bB (aB P (k+2)) X tm)(hfn:X.fn=fun _=>true){j r:Nat}(ho:o[r]? =some (o.getD r 0))(hr:r<8)(hn:o.getD r 0<n)(hq:∀l,l<(bU x).sum->q[l]? =some (q.getD l 0)/\q.getD l 0<m)(dm:fO n m g)(hj:j<3){d:TV}(hd:d.ob=none)
  (R:aQ X.K Hi O (gP x c o q .un (.frz (.int (j:Nat)) true) (.frz (.int (r:Nat)) true) d) σ H) (hl:σ.length=X.N.length) (hA:σ[6]? =some (some (.ref A))) (hg:Gr O A g H)
  (fin:∀d σ' G,d.ob=none->aQ X.K Hi O (gP x c o q .un (.frz (.int (j:Nat)) true) (.frz (.int (r:Nat)) true) d) σ' G->σ'.length=X.N.length->σ'[6]? =some (some (.ref A))->aA (aI H O) (aI G O)->Gr O A (AM c o q r ((bU x).take j).sum g ((bU x).getD j 0)) G->D.nx σ' G):wT X [pH (pH (b76 5))] D σ H:=by
 obtain⟨wb1,wb2⟩:=qw x;have t1:=gw (bU x) j;have t2:=jY (bU x) (j+1);have e1:=jZ (cd:=aB P (k+2)) (τ:=gP x c o q .un (.frz (.int (j:Nat)) true) (.frz (.int (r:Nat)) true) d) (i:=3) (j:=j) (e:=.var 7) (l:=bU x) (n:=true) (r:=.frz (.int (j:Nat)) true) rfl rfl rfl;have e2:=jZ (cd:=aB P (k+2)) (τ:=gP x c o q .un (.frz (.int (j:Nat)) true) (.frz (.int (r:Nat)) true) d) (i:=3) (j:=j+1) (e:=.bin .Add (.var 7) (.con (.int 1))) (l:=bU x) (n:=true) (r:=.frz (.int ((j:Int)+1)) true) rfl rfl rfl;refine n6 (cK gM) ?_
 refine iP (n:=80) (i:=9) (it' :=.rng (.cons (.bf .sum (.cons (.sl (.var 3) .no (.yes (.var 7))) .nil)) (.cons (.bf .sum (.cons (.sl (.var 3) .no (.yes (.bin .Add (.var 7) (.con (.int 1))))) .nil)) .nil))) (k:=true) C hfn (by kernel_rfl) (by kernel_rfl) ?_ R hl
  (fun i υ σ' G=>σ'[6]? =some (some (.ref A))/\(∃d:TV,d.ob=none/\υ=gP x c o q .un (.frz (.int (j:Nat)) true) (.frz (.int (r:Nat)) true) d)/\Gr O A (AM c o q r ((bU x).take j).sum g i) G)
  (fun _ _ _ _ _ s ⟨z1,z2,z3⟩=>⟨z1,z2,z3.ext s⟩) ⟨hA,⟨d,hd,rfl⟩,hg⟩ ?_ ?_ (xs:=(List.range ((bU x).getD j 0)).map fun i=>.int ((((bU x).take j).sum:Nat)+(i:Nat)))
 ·show(bO _ _ _).bind _=_
  rw[show bO (aB P (k+2)) (.cons (.bf .sum (.cons (.sl (.var 3) .no (.yes (.var 7))) .nil)) (.cons (.bf .sum (.cons (.sl (.var 3) .no (.yes (.bin .Add (.var 7) (.con (.int 1))))) .nil)) .nil)) (gP x c o q .un (.frz (.int (j:Nat)) true) (.frz (.int (r:Nat)) true) d)=some [sc (.int (((bU x).take j).sum:Nat)),sc (.int (((bU x).take (j+1)).sum:Nat))]by
   unfold bO;rw[e1,Ch];unfold bO;rw[e2,Ch];rfl,Ch,Ar (by omega) (by omega),DA,show((bU x).take (j+1)).sum-((bU x).take j).sum=(bU x).getD j 0 by omega]
 ·rintro i y υ σ' G u D' hy R2 hl2 ⟨z1,⟨d,hd,rfl⟩,z3⟩ nx
  obtain⟨hi,rfl⟩:=oC hy;obtain⟨q1,q2⟩:=hq (((bU x).take j).sum+i) (by omega);refine wH (n:=n) (m:=m) (j:=j) (r:=r) (l:=((bU x).take j).sum+i) (g:=AM c o q r ((bU x).take j).sum g i) C ho q1 hr (by omega) hn q2 (dm.ln hn i) R2 (by rw[Ck (by decide)];exact z1) z3 fun G2 R3 s3 g3=> ?_;exact nx _ _ G2 R3 hl2 s3 ⟨by rw[Ck (by decide)];exact z1,⟨_,rfl,rfl⟩,g3⟩
 ·rintro υ σ' G R2 hl2 s2 ⟨z1,⟨d,hd,rfl⟩,z3⟩
  rw[CI,C9]at z3;exact fin d σ' G hd R2 hl2 z1 s2 z3
theorem uG(C:bB (aB P (k+2)) X tm)(hfn:X.fn=fun _=>true){j:Nat}(hoo:∀r,r<(cJ x).sum->o[r]? =some (o.getD r 0)/\o.getD r 0<n)(hq:∀l,l<(bU x).sum->q[l]? =some (q.getD l 0)/\q.getD l 0<m)(dm:fO n m g)(hj:j<3){b d:TV}(hb:b.ob=none)(hd:d.ob=none)
  (R:aQ X.K Hi O (gP x c o q .un (.frz (.int (j:Nat)) true) b d) σ H) (hl:σ.length=X.N.length) (hA:σ[6]? =some (some (.ref A))) (hg:Gr O A g H)
  (fin:∀b d σ' G,b.ob=none->d.ob=none->aQ X.K Hi O (gP x c o q .un (.frz (.int (j:Nat)) true) b d) σ' G->σ'.length=X.N.length->σ'[6]? =some (some (.ref A))->aA (aI H O) (aI G O)->Gr O A (AL c o q ((cJ x).take j).sum ((bU x).take j).sum ((bU x).getD j 0) g ((cJ x).getD j 0)) G->D.nx σ' G):wT X [pH (b76 5)] D σ H:=by
 obtain⟨wb1,wb2⟩:=rJ x;have t1:=gw (cJ x) j;have t2:=jY (cJ x) (j+1);have e1:=jZ (cd:=aB P (k+2)) (τ:=gP x c o q .un (.frz (.int (j:Nat)) true) b d) (i:=2) (j:=j) (e:=.var 7) (l:=cJ x) (n:=true) (r:=.frz (.int (j:Nat)) true) rfl rfl rfl;have e2:=jZ (cd:=aB P (k+2)) (τ:=gP x c o q .un (.frz (.int (j:Nat)) true) b d) (i:=2) (j:=j+1) (e:=.bin .Add (.var 7) (.con (.int 1))) (l:=cJ x) (n:=true) (r:=.frz (.int ((j:Int)+1)) true) rfl rfl rfl;refine n6 (cK gM) ?_
 refine iP (n:=80) (i:=8) (it' :=.rng (.cons (.bf .sum (.cons (.sl (.var 2) .no (.yes (.var 7))) .nil)) (.cons (.bf .sum (.cons (.sl (.var 2) .no (.yes (.bin .Add (.var 7) (.con (.int 1))))) .nil)) .nil))) (k:=true) C hfn (by kernel_rfl) (by kernel_rfl) ?_ R hl
  (fun i υ σ' G=>σ'[6]? =some (some (.ref A))/\(∃b d:TV,b.ob=none/\d.ob=none/\υ=gP x c o q .un (.frz (.int (j:Nat)) true) b d)/\Gr O A (AL c o q ((cJ x).take j).sum ((bU x).take j).sum ((bU x).getD j 0) g i) G)
  (fun _ _ _ _ _ s ⟨z1,z2,z3⟩=>⟨z1,z2,z3.ext s⟩) ⟨hA,⟨b,d,hb,hd,rfl⟩,hg⟩ ?_ ?_ (xs:=(List.range ((cJ x).getD j 0)).map fun i=>.int ((((cJ x).take j).sum:Nat)+(i:Nat)))
 ·show(bO _ _ _).bind _=_
  rw[show bO (aB P (k+2)) (.cons (.bf .sum (.cons (.sl (.var 2) .no (.yes (.var 7))) .nil)) (.cons (.bf .sum (.cons (.sl (.var 2) .no (.yes (.bin .Add (.var 7) (.con (.int 1))))) .nil)) .nil)) (gP x c o q .un (.frz (.int (j:Nat)) true) b d)=some [sc (.int (((cJ x).take j).sum:Nat)),sc (.int (((cJ x).take (j+1)).sum:Nat))]by
   unfold bO;rw[e1,Ch];unfold bO;rw[e2,Ch];rfl,Ch,Ar (by omega) (by omega),DA,show((cJ x).take (j+1)).sum-((cJ x).take j).sum=(cJ x).getD j 0 by omega]
 ·rintro i y υ σ' G u D' hy R2 hl2 ⟨z1,⟨b,d,hb,hd,rfl⟩,z3⟩ nx
  obtain⟨hi,rfl⟩:=oC hy;obtain⟨q1,q2⟩:=hoo (((cJ x).take j).sum+i) (by omega);have dmi:fO n m (AL c o q ((cJ x).take j).sum ((bU x).take j).sum ((bU x).getD j 0) g i):=dm.rw i fun r hr=>(hoo r (by omega)).2;refine zV (n:=n) (m:=m) (j:=j) (r:=((cJ x).take j).sum+i) C hfn q1 (by omega) q2 hq dmi hj hd R2 hl2 (by rw[Ck (by decide)];exact z1) z3 fun d σ2 G2 hd R3 hl3 z4 s3 g3=> ?_;exact nx _ _ G2 R3 hl3 s3 ⟨z4,⟨_,d,rfl,hd,rfl⟩,g3⟩
 ·rintro υ σ' G R2 hl2 s2 ⟨z1,⟨b,d,hb,hd,rfl⟩,z3⟩
  rw[CI,C9]at z3;exact fin b d σ' G hb hd R2 hl2 z1 s2 z3
theorem zW(C:bB (aB P (k+2)) X tm)(hfn:X.fn=fun _=>true)(hoo:∀r,r<(cJ x).sum->o[r]? =some (o.getD r 0)/\o.getD r 0<n)(hq:∀l,l<(bU x).sum->q[l]? =some (q.getD l 0)/\q.getD l 0<m)(hn:(cJ x).sum=n)(dm:fO n m g)
  (R:aQ X.K Hi O (gP x c o q .un .un .un .un) σ H) (hl:σ.length=X.N.length) (hA:σ[6]? =some (some (.ref A))) (hg:Gr O A g H)
  (fin:∀a b d σ' G,a.ob=none->b.ob=none->d.ob=none->aQ X.K Hi O (gP x c o q .un a b d) σ' G->σ'.length=X.N.length->σ'[6]? =some (some (.ref A))->aA (aI H O) (aI G O)->Gr O A (zX c o q (cJ x) (bU x) g 3) G->D.nx σ' G):WS X (b76 5) D σ H:=by
 refine iP (n:=80) (i:=7) (it' :=.rng (.cons (.con (.int 3)) .nil)) (k:=true) C hfn (by kernel_rfl) (by kernel_rfl) ?_ R hl
  (fun i υ σ' G=>σ'[6]? =some (some (.ref A))/\(∃a b d:TV,a.ob=none/\b.ob=none/\d.ob=none/\υ=gP x c o q .un a b d)/\Gr O A (zX c o q (cJ x) (bU x) g i) G)
  (fun _ _ _ _ _ s ⟨z1,z2,z3⟩=>⟨z1,z2,z3.ext s⟩) ⟨hA,⟨_,_,_,rfl,rfl,rfl,rfl⟩,hg⟩ ?_ ?_ (xs:=(List.range 3).map fun i=>.int (0+(i:Nat)))
 ·rfl
 ·rintro i y υ σ' G u D' hy R2 hl2 ⟨z1,⟨a,b,d,ha,hb,hd,rfl⟩,z3⟩ nx
  obtain⟨hi,rfl⟩:=cc hy;have dmi:fO n m (zX c o q (cJ x) (bU x) g i):=dm.bk hn (fun r hr=>(hoo r (by omega)).2) i;refine uG (n:=n) (m:=m) (j:=i) C hfn hoo hq dmi hi hb hd R2 hl2 (by rw[Ck (by decide)];exact z1) z3 fun b d σ2 G2 hb hd R3 hl3 z4 s3 g3=> ?_;exact nx _ _ G2 R3 hl3 s3 ⟨z4,⟨_,b,d,rfl,hb,hd,rfl⟩,g3⟩
 ·rintro υ σ' G R2 hl2 s2 ⟨z1,⟨a,b,d,ha,hb,hd,rfl⟩,z3⟩
  rw[CI,C9]at z3;exact fin a b d σ' G ha hb hd R2 hl2 z1 s2 z3
end
theorem zB{K:W.Frag}{mg:Str->Option Value}{f:Addr}{fd:FuncData}(hG:∀x v,G.lookup x=some v->∃u w,mg x=some u/\RelV w u/\∀Hi n H,Rp K Hi n v H w)(hB:∀x,B.contains x=true->mg x=none)(D:Def K mg "_law_blocks" AK ["_law_head","_law_cell_here"] f fd)(p:Program)(w:World)(base:Heap)(k:Nat)
  (fns:∀y g,F.lookup y=some g->∃b gd qs,mg y=some (.ref b)/\W.keepIn K (.ref b)=true/\Binds K gd qs []/\bt p w K mg base jD k b gd qs (ub K (aB P k g))):bt p w K mg base jD (k+1) f fd ["_law_head","_law_cell_here"] (ub K (aB P (k+1) 76)):=by
 refine D.fn.ok xb (fun vs H Q E h=> ?_) (fun cdv A outer s H vs Q E hr h=> ?_)
 ·obtain⟨pvs,r,h1,h2,_⟩:=h
  rw[<- h1.len];obtain⟨_,x,c,rfl,_⟩:=o0 h2;rfl
 obtain⟨pvs,r,h1,h2,q⟩:=h;obtain⟨hk,x,c,rfl,rfl⟩:=o0 h2;obtain⟨k,rfl⟩:∃k',k=k' +2:=⟨k-2,by omega⟩
 have C:bB (aB P (k+2)) (i6 jD p w K mg base AQ "_law_blocks" (aN AK) f cdv A outer s H E).nox tm :=
  ⟨rfl,xb.nd,rfl,xb.kind,rfl,hG,hB,fun y g hy=>by
   obtain⟨b,gd,qs,z1,z2,z3,z4⟩:=fns y g hy;exact⟨k+2,b,gd,qs,z4,hr,z1,z2,z3⟩,PassesOwn.never,hr.units⟩
 have R0:=jM (d:=Bq) (N:=AQ) rfl h1;have hl0:(start AQ vs).length=AQ.length:=by
  have:=h1.len;unfold L2.start;rw[CP,CI,Dh,<-this];rfl
 obtain⟨sb1,sb2⟩:=rJ x;obtain⟨wb1,wb2⟩:=qw x;obtain⟨o,ho⟩:∃o,o=(bG c (cJ x).sum).1:=⟨_,rfl⟩;obtain⟨q',hq'⟩:∃q',q' =(bG (c/40320) (bU x).sum).1:=⟨_,rfl⟩;have e21:=Bx (k+1) c (cJ x).sum sb2;have e21' :=Bx (k+1) (c/40320) (bU x).sum wb2;rw[<- ho]at e21;rw[<- hq']at e21';refine⟨_,bX,?_⟩;refine n6 (aj gM bX) ?_;refine vb (fu:=0) (n:=80) C rfl (s' :=.asg 2 false [] (.lst (.cons (.bin .Add (.con (.int 1)) (.bin .Mod (.bin .FloorDiv (.var 0) (.con (.int 8))) (.con (.int 3)))) (.cons (.bin .Add (.con (.int 1)) (.bin .Mod (.bin .FloorDiv (.var 0) (.con (.int 24))) (.con (.int 3)))) (.cons (.bin .Add (.con (.int 1)) (.bin .Mod (.bin .FloorDiv (.var 0) (.con (.int 72))) (.con (.int 2)))) .nil))))) (τ' :=[.frz (.int x) true,.frz (.int c) true,.frz (iN (cJ x)) true,.un,.un,.un,.un,.un,.un,.un]) (by kernel_rfl) ?_ R0 hl0 fun σ1 H1 O1 R1 hl1 s1=> ?_
 ·have e1:iN (cJ x)=.lst [.int (1+x/8%3),.int (1+x/24%3),.int (1+x/72%2)]:=by
   unfold iN cJ;simp -implicitDefEqProofs only[Cc,DS];rw[show(((1+x/8%3).toNat:Nat):Int)=1+x/8%3 by omega,show(((1+x/24%3).toNat:Nat):Int)=1+x/24%3 by omega,show(((1+x/72%2).toNat:Nat):Int)=1+x/72%2 by omega]
  rw[e1,iT];simp -implicitDefEqProofs only[Bq,entry];walk_at "go"
 refine n6 (aj gM bX) ?_;refine vb (fu:=0) (n:=80) C rfl (s' :=.asg 3 false [] (.lst (.cons (.bin .Add (.con (.int 1)) (.bin .Mod (.bin .FloorDiv (.var 0) (.con (.int 144))) (.con (.int 3)))) (.cons (.bin .Add (.con (.int 1)) (.bin .Mod (.bin .FloorDiv (.var 0) (.con (.int 432))) (.con (.int 3)))) (.cons (.bin .Add (.con (.int 1)) (.bin .Mod (.bin .FloorDiv (.var 0) (.con (.int 1296))) (.con (.int 2)))) .nil))))) (τ' :=[.frz (.int x) true,.frz (.int c) true,.frz (iN (cJ x)) true,.frz (iN (bU x)) true,.un,.un,.un,.un,.un,.un]) (by kernel_rfl) ?_ R1 hl1 fun σ2 H2 O2 R2 hl2 s2=> ?_
 ·have e1:iN (bU x)=.lst [.int (1+x/144%3),.int (1+x/432%3),.int (1+x/1296%2)]:=by
   unfold iN bU;simp -implicitDefEqProofs only[Cc,DS];rw[show(((1+x/144%3).toNat:Nat):Int)=1+x/144%3 by omega,show(((1+x/432%3).toNat:Nat):Int)=1+x/432%3 by omega,show(((1+x/1296%2).toNat:Nat):Int)=1+x/1296%2 by omega]
  rw[e1,iT];walk_at "go"
 refine n6 (aj gM bX) ?_;refine vb (fu:=0) (n:=80) C rfl (s' :=.asg 4 false [] (.call 21 (.cons (.var 1) (.cons (.bf .sum (.cons (.var 2) .nil)) .nil)))) (τ' :=[.frz (.int x) true,.frz (.int c) true,.frz (iN (cJ x)) true,.frz (iN (bU x)) true,.frz (iN o) true,.un,.un,.un,.un,.un]) (by kernel_rfl) ?_ R2 hl2 fun σ3 H3 O3 R3 hl3 s3=> ?_
 ·obtain⟨L,hL⟩:∃L,L=cJ x:=⟨_,rfl⟩
  rw[<- hL]at e21 ⊢;rw[iT];simp -implicitDefEqProofs only[cC,bu,cF,cQ,cD,cH,bx,bz,cR,cE,cG,b8,b9,bv,cS,cT,cB,cO,cA,cP,o9,pB,cg,iO,iM,Ch,DA,rK,Cc,DS,az];rw[e21];walk_at "ev"
 refine n6 (aj gM bX) ?_;refine vb (fu:=0) (n:=80) C rfl (s' :=.asg 5 false [] (.call 21 (.cons (.bin .FloorDiv (.var 1) (.con (.int 40320))) (.cons (.bf .sum (.cons (.var 3) .nil)) .nil)))) (τ' :=gP x c o q' .un .un .un .un) (by kernel_rfl) ?_ R3 hl3 fun σ4 H4 O4 R4 hl4 s4=> ?_
 ·obtain⟨L,hL⟩:∃L,L=bU x:=⟨_,rfl⟩
  rw[gP,<-hL];rw[<- hL]at e21';rw[iT];simp -implicitDefEqProofs only[cC,bu,cF,cQ,cD,cH,bx,bz,cR,cE,cG,b8,b9,bv,cS,cT,cB,cO,cA,cP,o9,pB,cg,iO,iM,Ch,DA,rK,Cc,DS,az,o4,sc];rw[CQ (by decide)];simp -implicitDefEqProofs only[Ch,az,Cc,DS];rw[e21'];walk_at "ev"
 refine n6 (aj gM bX) ?_;have ol:o.length=(cJ x).sum:=by rw[ho];exact en _ _
 have ql:q'.length=(bU x).sum:=by rw[hq'];exact en _ _
 refine vz (n:=80) (k:=true) (i:=6) (caps:=[5]) (xs:=o.map fun i=>.int (i:Nat)) (row:=List.replicate (bU x).sum ".") (iter' :=.seq (.var 4)) (elt' :=.lc (.con (.str ".")) (.seq (.var 1)) .no []) C rfl (by kernel_rfl) (by kernel_rfl) (by kernel_rfl) (by kernel_rfl) (by kernel_rfl) ?_ ?_ ?_ R4 hl4 fun A5 O5 H5 R5 s5 g5=> ?_
 ·walk_at "ev"
 ·rw[CI,ol]
  show _<=16777216;omega
 ·intro y _
  simp -implicitDefEqProofs only[cC,bu,cF,cQ,cD,cH,bx,bz,cR,cE,cG,b8,b9,bv,cS,cT,cB,cO,cA,cP,uV,uW,uU,uX,uf,AH,AG,iO,iM,Ch,Cc,DS,List.getD_cons_succ,List.getD_cons_zero,gP,jg];rw[CQ (by rw[CI,ql];show _<=16777216;omega)];show Option.map (fun x=>RV.own x.fst x.snd) (cq (fun x=>some (some (PV.str ".",true))) (List.map (fun i=>PV.int (i:Nat)) q'))=_;rw[bq (g:=fun _:Nat=>PV.str ".") (fun _ _=>rfl),DA,<-ql,List.map_replicate,List.map_const']
 refine n6 (aj gM bX) ?_;have N10:σ4.length=10:=hl4;have rg:∀(d:Int)(n:Nat),∀r,r<n->(bG d n).1[r]? =some ((bG d n).1.getD r 0)/\(bG d n).1.getD r 0<n:=fun d n r hr=>oJ hr;rw[CI,ol]at g5;refine zW (n:=(cJ x).sum) (m:=(bU x).sum) C rfl (by rw[ho];exact rg _ _) (by rw[hq'];exact rg _ _) rfl (Bl _ _) R5 (by rw[Dg];exact hl4) (by rw[Dc (by omega)]) g5 fun a b d σ6 H6 ha hb hd R6 hl6 hA6 s6 g6=> ?_;obtain⟨R7,_⟩:=R6.shown (BG ha hb hd) hA6 g6;have eg:zX c o q' (cJ x) (bU x) (List.replicate (cJ x).sum (List.replicate (bU x).sum ".")) 3=oV x c:=by rw[ho,hq'];rfl
 rw[eg]at R7;have dg:=jL x c;refine n6 (cK gM) ?_;refine rt_w (fu:=0) (n:=80) (s' :=.ret [6] (.bf .tuple (.cons (.lc (.mth .join (.con (.str "")) (.cons (.var 0) .nil)) (.seq (.var 6)) .no []) .nil))) (v:=.tup ((dF x c).map .str)) C rfl (by kernel_rfl) ?_ R7 hl6 q;obtain⟨g,hg⟩:∃g,g=oV x c:=⟨_,rfl⟩;have er:(dF x c).map PV.str=g.map fun r=>.str (eL "" r):=by rw[hg];unfold dF;rw[Ed];rfl
 rw[er,<-hg];rw[<- hg]at dg;rw[tT];simp -implicitDefEqProofs only[gP,List.set_cons_zero,List.set_cons_succ,ff,cg,nD,j5,cC,bu,cF,cQ,cD,cH,bx,bz,cR,cE,cG,b8,b9,bv,cS,cT,cB,cO,cA,cP,o9,pB,uV,uW,uU,uX,uf,AH,AG,iO,iM,Ch,DA,DS,jg];rw[CQ (by rw[CI,dg.1];show _<=16777216;omega),bq (g:=fun r:List Str=>PV.str (eL "" r)) (fun r hr=> ?_)]
 ·walk_at "ev"
 ·have ej:=tD (dg.2 r hr).2 (by rw[(dg.2 r hr).1];exact wb2)
  show((pZ .join (sc (.str "")) [.frz (.lst (r.map .str)) true]).bind fun r=>r.keep.map some)=_;rw[ej];rfl
end
theorem uo:Wd (["..",".."]:List Str) 2:=by
 intro z hz
 rcases Ca.mp hz with e|e
 ·rw[e]
  rfl
 ·rw[Cn.mp e]
  rfl
theorem pG:cY ["..",".."] 2=[]:=by
 have e:cI ["..",".."] 2=[]:=by decide +kernel
 unfold cY iZ;rw[e];simp[bV]
theorem sr:∀ns:List Int,ns.length<=63->aB P 40 84 [.lst (ns.map PV.int)]=some (.bl true):=by
 intro ns h63;refine dP rfl rfl ?_;simp only[d84,entry];walk_at "ev";obtain⟨hi,hhi⟩:∃hi:Nat,hi=min (max ns.length 1) 8:=⟨_,rfl⟩;refine ci (xs:=(List.range ((hi+(2-1))/2)).map fun m=>.int (0+(m:Nat)*(2:Nat))) (n:=true) ?_ (fun i τ=>∃a b c,τ=[.frz (.lst (ns.map PV.int)) false,a,b,c]) ⟨_,_,_,rfl⟩ ?_ ?_
 ·walk_at "ev"
  simp only[CI];have q:(if(8:Int)<(if(1:Int)>(ns.length:Int)then 1 else(ns.length:Int))then(8:Int)else(if(1:Int)>(ns.length:Int)then 1 else(ns.length:Int)))=(hi:Int):=by
   split<;>split at* <;> omega
  rw[q];have:=rf 2 hi (by decide) (by decide) (sm2 hi (by omega));have:fS [RV.frz (PV.int 0) true,RV.frz (PV.int (hi:Int)) true,RV.frz (PV.int 2) true]=_:=this;rw[this];rfl
 ·rintro i y τ hy ⟨a,b,c,rfl⟩
  have ey:=step_at hy;subst ey;refine⟨_,rfl,?_⟩;obtain⟨hd,hhd⟩:∃hd,hd=ns.getD (2*i) 0:=⟨_,rfl⟩;obtain⟨ce,hce⟩:∃ce,ce=ns.getD (2*i+1) 0:=⟨_,rfl⟩;obtain⟨v6,e6,rows,bd,rfl⟩:=c6 37 (hd/3) ce 8 (by decide) (by decide);obtain⟨w,w1,w2,hw⟩:=bd.wide;have e6:aB P 39 6 [.int (hd/3),.int ce,.int 8]=some (.tup (rows.map PV.str)):=e6;have gP:aB P 39 76 [.int (hd/3),.int ce]=some (.tup ((dF (hd/3) ce).map PV.str)):=c76 36 _ _;have a0:aB P 39 4 [.lst (ns.map PV.int),.int ((2*i:Nat):Int)]=some (.int hd):=by rw[hhd];exact c4 38 ns (2*i)
  have a1:aB P 39 4 [.lst (ns.map PV.int),.int (((2*i:Nat):Int)+1)]=some (.int ce):=by rw[hce];exact c4 38 ns (2*i+1)
  have t1:=c83 17 rows w hw bd.some bd.few w2;obtain⟨l1,l2⟩:=re (hd/3) ce;obtain⟨s1,s2⟩:=rJ (hd/3);obtain⟨s3,s4⟩:=qw (hd/3);have t2:=c83 17 (dF (hd/3) ce) (bU (hd/3)).sum l2 (fun z=>by rw[z]at l1;simp only[List.length_nil]at l1;omega) (by omega) s4;have t1:aB P 39 83 _=_:=t1;have t2:aB P 39 83 _=_:=t2;have i1:=cf rows;have i2:=cf (dF (hd/3) ce);walk_at "ev";rw[a0];walk_at "go";rw[a1];walk_at "ev";rw[e6];walk_at "go"
  by_cases h3:hd%3=1
  ·rw[DZ h3]
   walk_at "ev";rw[a1];walk_at "ev";rw[gP];walk_at "ev";rw[t2];walk_at "ev";exact⟨_,_,_,rfl⟩
  ·rw[C6 h3]
   walk_at "ev";rw[t1];walk_at "ev";exact⟨_,_,_,rfl⟩
 ·rintro τ ⟨a,b,c,rfl⟩
  have e72:aB P 39 72 [.tup [.str "..",.str ".."]]=some (.lst []):=by
   have:=c72 36 ["..",".."] 2 uo (by decide) (by decide)
   rwa [pG]at this
  have e9:aB P 39 9 [.lst [],.lst []]=some (.bl true):=jh (by omega) [];walk_at "ev";rw[e72];walk_at "ev";rw[e9];walk_at "ev"
noncomputable abbrev Bds(nm:Str)(ps:List Str)(st:Stmt):Prop:=∀(kV doc pm:Value)(an:Option Addr)(cdv ct:Value)(us:List Value),us.length=ps.length->bindArgs (W.fnOf nm nm (bb st) (av st) (aN st) .none kV doc pm an cdv ct) ⟨us,[]⟩=pure (ps.zip us)
local macro_rules | `(tactic| walk_at "bd1") => `(tactic| (intro _ _ _ _ _ _ us hl; obtain ⟨_, h⟩ := BO hl; subst h; rfl))
local macro_rules | `(tactic| walk_at "bd2") => `(tactic| (intro _ _ _ _ _ _ us hl; obtain ⟨_, _, h⟩ := yf hl; subst h; rfl))
local macro_rules | `(tactic| walk_at "bd3") => `(tactic| (intro _ _ _ _ _ _ us hl; obtain ⟨_, _, _, h⟩ := len3 hl; subst h; rfl))
local macro_rules | `(tactic| walk_at "sc") => `(tactic| exact ⟨rfl, rfl, rfl, by decide +kernel, rfl, by decide +kernel, by decide +kernel⟩)
theorem nO{K:W.Frag}{h:Heap}{mg:Str->Option Value}{x:Str}(X:K.In h)(Gh:h.Ns mainGlobals mg)(z:W.nsIn K mainGlobals x=some none):mg x=none:=W.mg_none_of X Gh z
structure FI(K:W.Frag)(nm:Str)(st:Stmt)(f:Addr)(oc kV doc pm cd ct:Value)(od an:Option Addr)(sl:Array (Option Value)):Prop where
 a:W.nsIn K mainGlobals nm=some (some (.ref f))
 l:K.lookup f=some ⟨oc,od,.func (W.fnOf nm nm (bb st) (av st) (aN st) .none kV doc pm an cd ct),sl⟩
 c:W.codeIn K cd nm=true
 k:W.keepIn K (.ref f)=true
section
variable{K:W.Frag}{h:Heap}{mg:Str->Option Value}{nm:Str}{ps:List Str}{st:Stmt}{f:Addr}{k:Nat}{oc kV doc pm cd ct:Value}{od an:Option Addr}{sl:Array (Option Value)}(X:K.In h)(Gh:h.Ns mainGlobals mg)(a:FI K nm st f oc kV doc pm cd ct od an sl)
include X Gh a
theorem mkD(b:Bds nm ps st):Def K mg nm st ps f (W.fnOf nm nm (bb st) (av st) (aN st) .none kV doc pm an cd ct):=⟨tO a.l a.c a.k,W.mg_of X Gh a.a,(tO a.l a.c a.k).binds b⟩
theorem mn(N:List Str)(n:Nat)(M:List Nat){body:qb}(b:Bds nm (N.take n) st)(sc:dE N (N.take n) (aN st))(e:P k=some ⟨N.length,(N.take n).length,body⟩)(tr:dv 80 ⟨N,(aN st).names,F,G,B,M⟩ (av st)=body):qY K mg P F G B nm k f (W.fnOf nm nm (bb st) (av st) (aN st) .none kV doc pm an cd ct) (N.take n):=⟨.inr ⟨st,N,M,80,body,mkD X Gh a b,sc,e,tr⟩⟩
end
theorem zm{l:W.OpenLaw}{w:World}{K:W.Frag}{h:Heap}{mg:Str->Option Value}{fa f0 f1 f2 f3 f4 f5 f6 f7 f8 f9 f10 f11 f12 f13 f14 f15 f16:Addr}(X:K.In h)(Gh:h.Ns mainGlobals mg)(hfa:mg "law"=some (.ref fa))
  {q0 x0 q1 x1 q2 x2 q3 x3 q4 x4 q5 x5 q6 x6 q7 x7 q8 x8 q9 x9 q10 x10 q11 x11 q12 x12 q13 x13 q14 x14 q15 x15 q16 x16:Option Addr} {r0 r1 r2 r3 r4 r5 r6 r7 r8 r9 r10 r11 r12 r13 r14 r15 r16:Array (Option Value)} {p0 t0 u0 w0 y0 m0 p1 t1 u1 w1 y1 m1 p2 t2 u2 w2 y2 m2 p3 t3 u3 w3 y3 m3 p4 t4 u4 w4 y4 m4 p5 t5 u5 w5 y5 m5 p6 t6 u6 w6 y6 m6 p7 t7 u7 w7 y7 m7 p8 t8 u8 w8 y8 m8 p9 t9 u9 w9 y9 m9 p10 t10 u10 w10 y10 m10 p11 t11 u11 w11 y11 m11 p12 t12 u12 w12 y12 m12 p13 t13 u13 w13 y13 m13 p14 t14 u14 w14 y14 m14 p15 t15 u15 w15 y15 m15 p16 t16 u16 w16 y16 m16:Value}
  {tk0:Tok}
  (a0:FI K "cells_of" s3 f0 p0 t0 u0 w0 y0 m0 q0 x0 r0)
  (a1:FI K "hangs_on" s70 f1 p1 t1 u1 w1 y1 m1 q1 x1 r1)
  (a2:FI K "joined" s71 f2 p2 t2 u2 w2 y2 m2 q2 x2 r2)
  (a3:FI K "parts_of" s72 f3 p3 t3 u3 w3 y3 m3 q3 x3 r3)
  (a4:FI K "_law_cell" s4 f4 p4 t4 u4 w4 y4 m4 q4 x4 r4)
  (a5:FI K "_law_mixed" s5 f5 p5 t5 u5 w5 y5 m5 q5 x5 r5)
  (a6:FI K "_law_board" s6 f6 p6 t6 u6 w6 y6 m6 q6 x6 r6)
  (a7:FI K "_law_order" s21 f7 p7 t7 u7 w7 y7 m7 q7 x7 r7)
  (a8:FI K "_law_blocks" AK f8 p8 t8 u8 w8 y8 m8 q8 x8 r8)
  (a9:FI K "_law_cells" s7 f9 p9 t9 u9 w9 y9 m9 q9 x9 r9)
  (a10:FI K "_law_whole" s8 f10 p10 t10 u10 w10 y10 m10 q10 x10 r10)
  (a11:FI K "_law_same" s9 f11 p11 t11 u11 w11 y11 m11 q11 x11 r11)
  (a12:FI K "_law_all_same" s10 f12 p12 t12 u12 w12 y12 m12 q12 x12 r12)
  (a13:FI K "_law_shares" s81 f13 p13 t13 u13 w13 y13 m13 q13 x13 r13)
  (a14:FI K "_law_parts" s82 f14 p14 t14 u14 w14 y14 m14 q14 x14 r14)
  (a15:FI K "_law_good" Ap f15 p15 t15 u15 w15 y15 m15 q15 x15 r15)
  (a16:FI K "law" s84 f16 p16 t16 u16 w16 y16 m16 q16 x16 r16)
  (z0:W.nsIn K mainGlobals "len"=some none)
  (z1:W.nsIn K mainGlobals "int"=some none)
  (z2:W.nsIn K mainGlobals "list"=some none)
  (z3:W.nsIn K mainGlobals "tuple"=some none)
  (z4:W.nsIn K mainGlobals "min"=some none)
  (z5:W.nsIn K mainGlobals "max"=some none)
  (z6:W.nsIn K mainGlobals "isinstance"=some none)
  (z7:W.nsIn K mainGlobals "str"=some none)
  (z8:W.nsIn K mainGlobals "bool"=some none)
  (z9:W.nsIn K mainGlobals "range"=some none)
  (z10:W.nsIn K mainGlobals "zip"=some none)
  (z11:W.nsIn K mainGlobals "enumerate"=some none)
  (z12:W.nsIn K mainGlobals "sorted"=some none)
  (z13:W.nsIn K mainGlobals "sum"=some none)
  (z14:W.nsIn K mainGlobals "any"=some none)
  (v0:W.nsIn K mainGlobals "CELL"=some (some (.str "x" tk0)))
  :
  ∃fd:FuncData,(∀(s:Shared)(v:Value),BindsTo s fd ⟨[v],[]⟩ [("_law_script",v)])/\∀base:Heap,K.In base->base.Ns mainGlobals mg->bt l.prog w K mg base jD 40 fa fd ["_law_script"] (oD K):=by
 have hB:∀x,B.contains x=true->mg x=none:=br (nO X Gh z0) (br (nO X Gh z1) (br (nO X Gh z2) (br (nO X Gh z3) (br (nO X Gh z4) (br (nO X Gh z5) (br (nO X Gh z6) (br (nO X Gh z7) (br (nO X Gh z8) (br (nO X Gh z9) (br (nO X Gh z10) (br (nO X Gh z11) (br (nO X Gh z12) (br (nO X Gh z13) (br (nO X Gh z14) (bnil)))))))))))))));have e:=hfa.symm.trans (W.mg_of X Gh a16.a);cases e;have hG:∀x v,G.lookup x=some v->∃u w,mg x=some u/\RelV w u/\∀Hi n H,Rp K Hi n v H w:=Bb ⟨_,(.str "x"),W.mg_of X Gh v0,⟨_,rfl⟩,fun _ _ _=>Rp.str.mpr rfl⟩ (gnil);have E0:=mn (k:=3) X Gh a0 N3 1 [1] (by walk_at "bd1") (by walk_at "sc") rfl (by kernel_rfl);have E1:=mn (k:=70) X Gh a1 N70 2 [] (by walk_at "bd2") (by walk_at "sc") rfl (by kernel_rfl);have E2:=mn (k:=71) X Gh a2 N71 2 [2] (by walk_at "bd2") (by walk_at "sc") rfl (by kernel_rfl);have E3:=mn (k:=72) X Gh a3 N72 1 [] (by walk_at "bd1") (by walk_at "sc") rfl (by kernel_rfl);have E4:=mn (k:=4) X Gh a4 N4 2 [] (by walk_at "bd2") (by walk_at "sc") rfl (by kernel_rfl);have E5:=mn (k:=5) X Gh a5 N5 2 [] (by walk_at "bd2") (by walk_at "sc") rfl (by kernel_rfl);have E6:=mn (k:=6) X Gh a6 N6 3 [6] (by walk_at "bd3") (by walk_at "sc") rfl (by kernel_rfl);have E7:=mn (k:=21) X Gh a7 N21 2 [2] (by walk_at "bd2") (by walk_at "sc") rfl (by kernel_rfl);have D8:=mkD X Gh a8 (show Bds "_law_blocks" ["_law_head","_law_cell_here"] _ by walk_at "bd2");have E8:qY K mg P F G B "_law_blocks" 76 f8 _ ["_law_head","_law_cell_here"]:=⟨.inl ⟨D8.nm,D8.fn.kp,D8.bd,fun p w b k z=>zB hG hB D8 p w b k (z k (CO k))⟩⟩;have E9:=mn (k:=7) X Gh a9 N7 1 [1] (by walk_at "bd1") (by walk_at "sc") rfl (by kernel_rfl);have E10:=mn (k:=8) X Gh a10 N8 1 [] (by walk_at "bd1") (by walk_at "sc") rfl (by kernel_rfl);have E11:=mn (k:=9) X Gh a11 N9 2 [] (by walk_at "bd2") (by walk_at "sc") rfl (by kernel_rfl);have E12:=mn (k:=10) X Gh a12 N10 2 [] (by walk_at "bd2") (by walk_at "sc") rfl (by kernel_rfl);have E13:=mn (k:=81) X Gh a13 N81 2 [] (by walk_at "bd2") (by walk_at "sc") rfl (by kernel_rfl);have E14:=mn (k:=82) X Gh a14 N82 1 [4] (by walk_at "bd1") (by walk_at "sc") rfl (by kernel_rfl);have D15:=mkD X Gh a15 (show Bds "_law_good" ["_law_board_here"] _ by walk_at "bd1");have E15:qY K mg P F G B "_law_good" 83 f15 _ ["_law_board_here"]:=⟨.inl ⟨D15.nm,D15.fn.kp,D15.bd,fun p w b k z=>zA  D15 p w b k (z k (CO k))⟩⟩;have E16:=mn (k:=84) X Gh a16 N84 1 [] (by walk_at "bd1") (by walk_at "sc") rfl (by kernel_rfl);have hF:∀x f,F.lookup x=some f->∃a fd ps,qY K mg P F G B x f a fd ps:=bS ⟨_,_,_,E0⟩ (bS ⟨_,_,_,E1⟩ (bS ⟨_,_,_,E2⟩ (bS ⟨_,_,_,E3⟩ (bS ⟨_,_,_,E4⟩ (bS ⟨_,_,_,E5⟩ (bS ⟨_,_,_,E6⟩ (bS ⟨_,_,_,E7⟩ (bS ⟨_,_,_,E8⟩ (bS ⟨_,_,_,E9⟩ (bS ⟨_,_,_,E10⟩ (bS ⟨_,_,_,E11⟩ (bS ⟨_,_,_,E12⟩ (bS ⟨_,_,_,E13⟩ (bS ⟨_,_,_,E14⟩ (bS ⟨_,_,_,E15⟩ (bS ⟨_,_,_,E16⟩ (fnil)))))))))))))))));exact⟨W.fnOf "law" "law" (bb s84) (av s84) (aN s84) .none t16 u16 w16 x16 y16 m16,fun s v=>.of_eq rfl,fun base _ _=>yi (zD hG hB hF 40 "law" 84 fa _ _ E16) sr⟩
theorem walk{l:W.OpenLaw}{q:Program}{loose:List Str}{XP:(Str->Option Value)->Heap->Prop}{YP:World->Heap->Prop}{d:DefRec}{K:Params->W.Frag}(hn:l.most=some 63)(hdf:d.params.defaults=[])
  (hY:∀(w:World)(h:Heap),YP w h->(K w.params).In h)
  (F:∀(w:World)(mg:Str->Option Value)(fa:Addr)(h:Heap),(K w.params).In h->h.Ns mainGlobals mg->mg d.name=some (.ref fa) ->
   ∃fd:FuncData,(∀(s:Shared)(u:Value),BindsTo s fd ⟨[u],[]⟩ [("_law_script",u)])/\∀base:Heap,(K w.params).In base->base.Ns mainGlobals mg->bt l.prog w (K w.params) mg base jD 40 fa fd ["_law_script"] (oD (K w.params))) :
  W.WalkO q loose XP YP l.row.toRowW d [] (fun f vs=>PySem.call f vs) :=
 L2.uq (n:=63) (k:=40) (x:="_law_script") (CX:=fun _=>jD) (sp:=fun w=>oD (K w.params)) hn (by decide) hdf ⟨rfl,by decide,by decide⟩ hY F (fun _ _ a ns hl _ hS=>⟨a,ns,rfl,hS,hl,fun _=>rfl⟩) fun _ _ _ _ _ z=>z
end Law
open PySem PySem.W PyProof.Rows
set_option maxRecDepth 100000 in
set_option maxHeartbeats 0 in
theorem PySem.Challenge.cw_unstruck_k21_parts_of_holds : PySem.Challenge.rw_unstruck_k21_parts_of.Holds := by
 w_on;o_law;k_head;(case hw=>w_witness2)
 k_fill
 refine Law.walk (l:=PySem.Challenge.rw_unstruck_k21_parts_of) rfl rfl (fun w h Y=>PySem.W.kIn_of Y) ?F
 case F =>
  intro w mg fa h KX G hmg;refine' Law.zm KX G hmg ?a0 ?a1 ?a2 ?a3 ?a4 ?a5 ?a6 ?a7 ?a8 ?a9 ?a10 ?a11 ?a12 ?a13 ?a14 ?a15 ?a16 ?z0 ?z1 ?z2 ?z3 ?z4 ?z5 ?z6 ?z7 ?z8 ?z9 ?z10 ?z11 ?z12 ?z13 ?z14 ?v0
  (case a0|a1|a2|a3|a4|a5|a6|a7|a8|a9|a10|a11|a12|a13|a14|a15|a16=>exact⟨by k_is,by k_is,by k_is,by k_is⟩)
  (case z0|z1|z2|z3|z4|z5|z6|z7|z8|z9|z10|z11|z12|z13|z14|v0=>k_is)
#print axioms PySem.Challenge.cw_unstruck_k21_parts_of_holds
