import PyProof.Rows.All
import Wide.All
import OpenK.AllK
import Wide.FinOn
import Lean
import PyProof.EqAt
import PyProof.EqKinds
import PyProof.TupleCall
import PyProof.StrLawsTight
import PyProof.StrLawsChain
import PyProof.StrLawsOcc
import PyProof.Cells
import OpenK.KLine
import PyProof.SumAny
import PyProof.Rows.SortShell
import PyProof.DictItems
import PyProof.DictWalks
import KE.KRevIter
import PyProof.JoinWalk
import PyProof.CollectIter
import PyProof.StrLawsIn
import PyProof.Rows.SetFrom
import PyProof.CollectWalk
import PyProof.Rows.SortWalk
import KE.KSortTup
import KE.KxPercent
import PyProof.TupleOfGen
import KE.KDictList
import PyProof.P3In
import PyProof.NeData
import PyProof.FactsAll.tuple_2
import KE.KTryMore
import PyProof.ExcArgsOwn
import PyProof.ExcAttrAll.ValueError
import PyProof.ExcBaseAll.ValueError
import PyProof.InstStoreFacts
import PySem.Challenge.RW_unstruck_k62_no_stair
set_option bootstrap.genMatcherCode false
noncomputable section
set_option genSizeOf false
set_option genSizeOfSpec false
local macro_rules | `(tactic| omega) => `(tactic| first | lia | omega (config := {}))
set_option Elab.async false
set_option linter.all false
set_option maxRecDepth 100000
def CU:=@PySem.wpAny_bind
def CV:=@PySem.Heap.get?_push_of_some
def CW:=@List.length_map
def CY:=@List.getElem?_eq_getElem
def CZ:=@Bool.and_eq_true
def Ca:=@Nat.le_refl
def Cb:=@List.size_toArray
def Cc:=@PySem.Heap.lt_size
def Cd:=@if_pos
def Ce:=@PySem.wpAny_pure
def Cg:=@Bool.false_ne_true
def Ch:=@List.getElem?_eq_some_iff
def Ci:=@if_neg
def Cj:=@List.mem_cons_of_mem
def Ck:=@List.getD_eq_getElem?_getD
def Cm:=@List.length_append
def Cn:=@Array.length_toList
def Co:=@List.mem_cons
def Cp:=@List.getElem?_map
def Cq:=@List.map_cons
def Cr:=@List.getElem?_set_ne
def Cs:=@PySem.Heap.get?_push_size
def Cu:=@Nat.ne_of_lt
def Cv:=@List.mem_cons_self
def Cw:=@Option.some.inj
def Cy:=@List.length_range
def Cz:=@LawfulBEq.eq_of_beq
def C2:=@List.all_eq_true
def C3:=@List.length_cons
def C4:=@Nat.lt_of_lt_of_le
def C5:=@decide_eq_false
def C6:=@PySem.mem_of_lookup
def C7:=@Option.bind_some
def C8:=@List.not_mem_nil
def C9:=@Nat.le_trans
def DA:=@List.lookup_cons
def DB:=@List.mem_range
def DC:=@PySem.wpAny_loadPart'
def DD:=@List.replicate_succ
def DE:=@List.getElem?_set_self
def DF:=@PyProof.Rows.callWith_type1
def DG:=@List.mem_append_right
def DH:=@Nat.zero_le
def DI:=@List.mem_of_getElem?
def DJ:=@Array.getD_eq_getD_getElem?
def DK:=@PyProof.Rows.slot_tuple_getitem
def DL:=@beq_iff_eq
def DM:=@List.length_set
def DN:=@PySem.sizeLine_eq
def DO:=@List.getElem?_range
def DP:=@List.flatten_cons
def DQ:=@Int.toNat_natCast
def DR:=@PySem.Heap.get?_update_other
def DS:=@PySem.wpAny_mono
def DT:=@congrArg
def DU:=@List.nodup_cons
def DV:=@PySem.wpAny_holding
def DW:=@List.length_replicate
def DX:=@Int.emod_lt_of_pos
def DY:=@List.mem_map
def DZ:=@Bool.eq_false_iff
def Da:=@List.map_congr_left
def Db:=@List.take_of_length_le
def Dc:=@PySem.wpAny_truthy_bool
def Dd:=@PySem.wpAny_newObj_type
def De:=@Nat.lt_irrefl
def Dg:=@List.length_take
def Dh:=@List.getElem_mem
def Di:=@List.mem_singleton
def Dj:=@List.lookup_append
def Dk:=@List.getElem?_zipWith
def Dl:=@Classical.byContradiction
def Dm:=@List.map_append
def Do:=@List.append_nil
def Dp:=@Int.emod_nonneg
def Dq:=@Bool.or_eq_true
def Dr:=@List.map_map
def Ds:=@Option.isSome_iff_exists
def Dt:=@PySem.W.kia_one
def Du:=@Ne.symm
def Dv:=@List.length_zipWith
def Dw:=@PySem.wpAny_loadPart_at
def Dx:=@PySem.wpAny_field
def Dy:=@List.length_drop
def Dz:=@List.getElem?_cons_succ
def D2:=@Nat.lt_trans
def D5:=@List.map_nil
def D6:=@List.contains_cons
def D7:=@PySem.AutoSeq1.idx_int
def D8:=@Option.map_some
def D9:=@Bool.eq_iff_iff
def EA:=@or_false
def EB:=@PySem.wpAny_passesOwn
def EC:=@Array.getElem?_eq_some_iff
def ED:=@PySem.Heap.get?_update_self
def EE:=@Nat.le_of_lt
def EF:=@List.getElem_map
def EG:=@List.length_nil
def EH:=@List.find?_cons
def EI:=@PySem.wpAny_call_entry
def EJ:=@List.getElem?_replicate
def EK:=@Nat.ne_of_gt
def EL:=@Nat.lt_succ_of_lt
def EM:=@List.drop_of_length_le
def EN:=@PyProof.Rows.mirror_perm
def EO:=@PySem.wpAny_Call_Name_kw
def EQ:=@PySem.Obj.data_mapFields
def ER:=@PySem.wpAny_getItem_str_slice
def ES:=@PySem.wpAny_callSpecial?_slot
def ET:=@if_false
def EU:=@Nat.le_succ
def EV:=@List.mem_append_left
def EW:=@PyProof.Rows.boot_isinstance
def EX:=@List.mem_filter
def EY:=@List.mem_append
def EZ:=@Array.Perm.refl
def Ea:=@PySem.Obj.isFreed_of_fields
def Eb:=@if_true
def Ec:=@Nat.min_self
def Ed:=@decide_eq_true
def Ee:=@PySem.Heap.get?_none_of_le
def Ef:=@Nat.lt_of_le_of_lt
def Eg:=@Bool.false_eq_true
def Eh:=@Bool.false_and
def Ei:=@PySem.wpAny_execs_nil
def Ej:=@PySem.PassesOwn.never
def Ek:=@List.mem_or_eq_of_mem_set
def El:=@List.getElem?_append_left
def Em:=@List.drop_eq_getElem_cons
def Eo:=@decide_eq_true_eq
def Ep:=@PySem.wpAny_isSubtype_exc
def Er:=@Bool.not_eq_true'
def Es:=@PySem.F.args_tuple_add_2
def Et:=@PySem.wpAny_setField
def Eu:=@PySem.wpAny_pyIter_tuple
def Ev:=@PySem.wpAny_call
def Ew:=@PySem.Heap.size_push
def Ex:=@PySem.wpAny_pyIter_enum
namespace L2
open PySem PySem.Spec PyProof.Rows
noncomputable abbrev aq:=Sum Int Str
noncomputable def ig:aq->Value->Bool
 | .inl k,v=>Value.isInt k v
 | .inr x,v=>Value.isStrOf x v
noncomputable def keyH(w:World):aq->Int
 | .inl k=>hashInt k
 | .inr x=>hashStr w x
theorem ae:∀{k:aq}{v:Value},ig k v=true->(∃i t,k=Sum.inl i/\v=Value.int i t)\/(∃x t,k=Sum.inr x/\v=Value.str x t)
 | .inl i,v,h=>by
  obtain⟨t,e⟩:=Value.isInt_shape (k:=i) (v:=v) h;exact .inl ⟨i,t,rfl,e⟩
 | .inr x,v,h=>by
  obtain⟨t,e⟩:=Value.isStrOf_shape (x:=x) (v:=v) h;exact .inr ⟨x,t,rfl,e⟩
theorem pQ(i:Int)(t:Tok):ig (.inl i) (.int i t)=true:=by simp[ig,Value.isInt]
theorem pP(x:Str)(t:Tok):ig (.inr x) (.str x t)=true:=by simp[ig,Value.isStrOf]
theorem zH(a b:Int):decide ((Sum.inl a:aq)=Sum.inl b)=(a==b):=by
 by_cases e:a=b
 ·subst e;simp
 ·have h:¬(Sum.inl a:aq)=Sum.inl b:=fun q=>e (Sum.inl.inj q)
  rw[C5 h];exact(beq_eq_false_iff_ne.mpr e).symm
theorem zE(a b:Str):decide ((Sum.inr a:aq)=Sum.inr b)=decide (a=b):=by
 by_cases e:a=b
 ·subst e;simp
 ·have h:¬(Sum.inr a:aq)=Sum.inr b:=fun q=>e (Sum.inr.inj q)
  rw[C5 h,C5 e]
theorem zG(a:Int)(b:Str):decide ((Sum.inl a:aq)=Sum.inr b)=false:=C5 (fun q=>nomatch q)
theorem zF(a:Str)(b:Int):decide ((Sum.inr a:aq)=Sum.inl b)=false:=C5 (fun q=>nomatch q)
noncomputable def ah(prog:Program)(w:World):PySem.KeyKind prog w aq where
 is:=ig
 hash:=keyH w
 inj:=fun v a b ha hb=>by
  rcases ae ha with⟨i,t,rfl,rfl⟩|⟨x,t,rfl,rfl⟩
  ·rcases ae hb with⟨j,u,rfl,e⟩|⟨y,u,rfl,e⟩
   ·injection e with e1 _;rw[e1]
   ·exact nomatch e
  ·rcases ae hb with⟨j,u,rfl,e⟩|⟨y,u,rfl,e⟩
   ·exact nomatch e
   ·injection e with e1 _;rw[e1]
 byValue:=fun k v h=>by
  rcases ae h with⟨i,t,rfl,rfl⟩|⟨x,t,rfl,rfl⟩<;>rfl
 pyHash:=fun hv h=>by
  rcases ae hv with⟨i,t,rfl,rfl⟩|⟨x,t,rfl,rfl⟩
  ·exact wpAny_pyHash_int h
  ·exact wpAny_pyHash_str h
 eqBool:=fun hu hv h=>by
  rcases ae hu with⟨i,t,rfl,rfl⟩|⟨x,t,rfl,rfl⟩
  ·rcases ae hv with⟨j,u,rfl,rfl⟩|⟨y,u,rfl,rfl⟩
   ·rw[zH]at h;exact wpAny_eqBool_int h
   ·rw[zG]at h;exact SeqAt.EqAt.int_str i t y u _ _ _ _ h
  ·rcases ae hv with⟨j,u,rfl,rfl⟩|⟨y,u,rfl,rfl⟩
   ·rw[zF]at h;exact SeqAt.EqAt.str_int x t j u _ _ _ _ h
   ·rw[zE]at h;exact wpAny_eqBool_str h
 «strs»:=fun k x t v h=>by
  rcases ae h with⟨i,u,rfl,e⟩|⟨y,u,rfl,e⟩
  ·exact nomatch e
  ·injection e with e1 _
   subst e1;cases v<;>rfl
theorem kZ(prog:Program)(w:World)(i:Int)(t:Tok):(ah prog w).is (.inl i) (.int i t)=true:=pQ i t
theorem kY(prog:Program)(w:World)(x:Str)(t:Tok):(ah prog w).is (.inr x) (.str x t)=true:=pP x t
inductive V where
 | non|bl (b:Bool)|int (i:Int)|str (x:Str)|byt (b:Array UInt8)|flt (b:UInt64)|ref (a:Addr)|ty (n:String)
 deriving DecidableEq
noncomputable def RelV:V->Value->Prop
 | .non,u=>u=Value.none
 | .bl b,u=>u=Value.bool b
 | .int i,u=>∃t,u=Value.int i t
 | .str x,u=>∃t,u=Value.str x t
 | .byt b,u=>∃t,u=Value.bytes b t
 | .flt b,u=>∃t,u=Value.float b t
 | .ref a,u=>u=Value.ref a
 | .ty n,u=>u=Value.type n
noncomputable abbrev aK:List V->List Value->Prop:=Paired RelV
theorem aK.length{xs:List V}{us:List Value}(r:aK xs us):xs.length=us.length:=Paired.length r
theorem aK.get:∀{xs:List V}{us:List Value}{i:Nat}{x:V},aK xs us->xs[i]? =some x->∃u,us[i]? =some u/\RelV x u
 | _,_,_,_,.nil,e=>by simp at e
 | _,_,0,_,.cons r _,e=>by simp at e;subst e;exact⟨_,rfl,r⟩
 | _,_,i+1,x,.cons _ t,e=>by
  obtain⟨u,h1,h2⟩:=aK.get (i:=i) (x:=x) t (by simpa using e);exact⟨u,by simpa using h1,h2⟩
theorem aK.set{x:V}{u:Value}(r:RelV x u):∀{xs:List V}{us:List Value}(i:Nat),aK xs us->aK (xs.set i x) (us.set i u)
 | _,_,_,.nil=>.nil
 | _,_,0,.cons _ t=>.cons r t
 | _,_,i+1,.cons q t=>.cons q (aK.set r i t)
theorem aK.append{xs ys:List V}{us ws:List Value}(h:aK xs us)(k:aK ys ws):aK (xs++ys) (us++ws):=by
 induction h with
 | nil=>exact k
 | cons r t ih=>exact .cons r ih
theorem aK.take:∀{xs:List V}{us:List Value}(n:Nat),aK xs us->aK (xs.take n) (us.take n)
 | _,_,0,_=>.nil
 | _,_,_+1,.nil=>.nil
 | _,_,n+1,.cons r t=>.cons r (aK.take n t)
theorem aK.drop:∀{xs:List V}{us:List Value}(n:Nat),aK xs us->aK (xs.drop n) (us.drop n)
 | _,_,0,r=>r
 | _,_,_+1,.nil=>.nil
 | _,_,n+1,.cons _ t=>aK.drop n t
noncomputable def df:Option V->Option Value->Prop
 | some v,some u=>RelV v u
 | none,none=>True
 | _,_=>False
noncomputable def KV{κ:Type}:List (κ×V)->List (κ×Value)->Prop:=Paired fun(p:κ×V)(q:κ×Value)=>p.1=q.1/\RelV p.2 q.2
noncomputable def kV:aq->V
 | .inl i=>.int i
 | .inr x=>.str x
inductive HO where
 | lst (xs:List V)
 | tup (xs:List V)
 | dK (kvs:List (aq×V))|dT (kvs:List (List aq×V))
 | set (S:Int->Bool) (n:Nat)
 | ins (C dx:Addr) (fs:List (Str×V))
 | own (x:Addr)
 | xd (fs:List (Str×V))
 | met (f x:Addr)
 | rng (lo hi:Int)
 | frz (o:Obj) (u:HO)
 | tbl (ps:Array Value)
 | ext (φ:Heap->Prop)
noncomputable abbrev Hp:=Addr->Option HO
noncomputable def upd(H:Hp)(a:Addr)(o:HO):Hp:=fun b=>if b=a then some o else H b
theorem aJ{H:Hp}{a:Addr}{o:HO}:upd H a o a=some o:=by unfold upd;rw[Cd rfl]
theorem aD{H:Hp}{a b:Addr}{o:HO}(h:b≠a):upd H a o b=H b:=by unfold upd;rw[Ci h]
theorem uk{H:Hp}{a:Addr}{o u:HO}:upd (upd H a o) a u=upd H a u:=by
 funext b;unfold upd;split<;>rfl
theorem aH{H:Hp}{a b:Addr}{o:HO}(h:H a=some o)(h' :H b=none):a≠b:=by
 intro e;subst e;rw[h]at h';cases h'
noncomputable def ci(h:Heap)(a:Addr)(its:Array Value):Prop:=∃o,h.get? a=some o/\o.cls=.type "tuple"/\∃n,o.data=.seq its n/\o.dict=none
theorem ci.tup{h:Heap}{a:Addr}{its:Array Value}(x:ci h a its):IsTup h a its:=let⟨o,e,c,n,d,_⟩:=x;⟨o,e,c,n,d⟩
theorem ci.new(h:Heap)(its:Array Value):ci (h.push {cls:=.type "tuple",data:=.seq its}) h.objs.size its:=⟨_,Cs _ rfl,rfl,_,rfl,rfl⟩
section
variable(P:Program)(w:World)
noncomputable def aa(H:Hp)(h:Heap)(a:Addr):HO->Prop
 | .lst xs=>xs.length<=sizeLine/\∃(its:List Value)(n:Nat),aK xs its/\h.get? a=some {cls:=.type "list",data:=.seq its.toArray n}
 | .tup xs=>xs.length<=sizeLine/\∃its:List Value,aK xs its/\ci h a its.toArray
 | .dK kvs=>kvs.length<=sizeLine/\(a==sysModules)=false/\∃vs,KV kvs vs/\h.DictOf (ah P w) a vs
 | .dT kvs=>kvs.length<=sizeLine/\(a==sysModules)=false/\∃xs:List (List aq×Addr×Value),
   Paired (fun(p:List aq×V) (q:List aq×Addr×Value)=>p.1=q.1/\H q.2.1=some (.tup (p.1.map kV))/\RelV p.2 q.2.2) kvs xs /\
   ∃o es ep,h.get? a=some o/\o.ExactDict/\o.data=.dict es ep/\es.toList=xs.map (entryOfKey (tupleKind (ah P w)))/\(xs.map (·.1)).Nodup
 | .set S n=>h.SetOf (intKind P w) a S n
 | .ins C dx fs=>H dx=some (.own a)/\fs.length<=1000/\dx≠a/\h.get? a=some (W.instObj C dx) /\
   ∃mA,h.Ns1 dx mA/\(∀f,df (fs.lookup f) (mA f))/\PySem.Within mA (fs.map (·.1))
 | .own _=>∃o,h.get? a=some o
 | .xd fs=>∃mA,h.Ns1 a mA/\∀f,df (fs.lookup f) (mA f)
 | .rng lo hi=>∃t u v,h.get? a=some {cls:=.type "range",data:=.fields #[.int lo t,.int hi u,.int 1 v]}
 | .frz o u=>h.get? a=some o/\aa H h a u
 | .tbl ps=>h.get? a=some {cls:=.none,data:=.fields ps}
 | .met f x=>h.get? a=some (W.methodObj (.ref f) (.ref x))
 | .ext φ=>φ h/\(∃o,h.get? a=some o)/\∀h1 h2:Heap,φ h1->(∀o,h1.get? a=some o->h2.get? a=some o)->φ h2
noncomputable def bi(H:Hp)(h:Heap):Prop:=∀a o,H a=some o->aa P w H h a o
end
section
variable{P:Program}{w:World}{H H' :Hp}{h h' :Heap}{a:Addr}{o:HO}
theorem aa.lt(x:aa P w H h a o):a<h.objs.size:=by
 cases o with
 | lst xs=>obtain⟨_,_,_,_,e⟩:=x;exact Cc e
 | tup xs=>obtain⟨_,_,_,p⟩:=x;exact p.tup.lt
 | dK kvs=>obtain⟨_,_,_,_,o,_,_,e,_⟩:=x;exact Cc e
 | dT kvs=>obtain⟨_,_,_,_,o,_,_,e,_⟩:=x;exact Cc e
 | set S n=>obtain⟨o,_,_,_,e,_⟩:=x;exact Cc e
 | ins C dx fs=>obtain⟨_,_,_,e,_⟩:=x;exact Cc e
 | own y=>obtain⟨_,e⟩:=x;exact Cc e
 | xd fs=>obtain⟨_,⟨_,_,_,e,_⟩,_⟩:=x;exact Cc e
 | rng lo hi=>obtain⟨_,_,_,e⟩:=x;exact Cc e
 | frz ob u=>obtain⟨e,_⟩:=x;exact Cc e
 | tbl ps=>exact Cc (show h.get? a=some _ from x)
 | met f y=>exact Cc (show h.get? a=some _ from x)
 | ext φ=>obtain⟨_,⟨_,e⟩,_⟩:=x;exact Cc e
theorem Paired.mapP{α β:Type}{F G:α->β->Prop}{l₁:List α}{l₂:List β}(h:Paired F l₁ l₂)(f:∀a b,F a b->G a b):Paired G l₁ l₂:=by
 induction h with
 | nil=>exact .nil
 | cons r t ih=>exact .cons (f _ _ r) ih
theorem aa.stay(x:aa P w H h a o)(k:∀b u,(b=a\/H b=some (.own a))->h.get? b=some u->h'.get? b=some u)
  (ho:∀b,H b=some (.own a)->H' b=some (.own a)) (ht:∀b xs,H b=some (.tup xs)->H' b=some (.tup xs)):aa P w H' h' a o:=by
 induction o with
 | lst xs=>obtain⟨z,its,n,r,e⟩:=x;exact⟨z,its,n,r,k _ _ (.inl rfl) e⟩
 | tup xs=>obtain⟨z,its,r,ob,e,c⟩:=x;exact⟨z,its,r,ob,k _ _ (.inl rfl) e,c⟩
 | dK kvs=>obtain⟨z,y,vs,r,ob,es,ep,e,c⟩:=x;exact⟨z,y,vs,r,ob,es,ep,k _ _ (.inl rfl) e,c⟩
 | dT kvs =>
  obtain⟨z,y,xs,r,ob,es,ep,e,c⟩:=x;exact⟨z,y,xs,Paired.mapP r fun p q z=>⟨z.1,ht _ _ z.2.1,z.2.2⟩,ob,es,ep,k _ _ (.inl rfl) e,c⟩
 | set S n=>obtain⟨ob,es,ep,t,e,c⟩:=x;exact⟨ob,es,ep,t,k _ _ (.inl rfl) e,c⟩
 | ins C dx fs =>
  obtain⟨d,z,ne,e,mA,⟨od,es,ep,e2,c⟩,r⟩:=x;exact⟨ho _ d,z,ne,k _ _ (.inl rfl) e,mA,⟨od,es,ep,k _ _ (.inr d) e2,c⟩,r⟩
 | own y=>obtain⟨ob,e⟩:=x;exact⟨ob,k _ _ (.inl rfl) e⟩
 | xd fs=>obtain⟨mA,⟨od,es,ep,e,c⟩,r⟩:=x;exact⟨mA,⟨od,es,ep,k _ _ (.inl rfl) e,c⟩,r⟩
 | rng lo hi=>obtain⟨t,u,v,e⟩:=x;exact⟨t,u,v,k _ _ (.inl rfl) e⟩
 | frz ob u ih=>obtain⟨e,q⟩:=x;exact⟨k _ _ (.inl rfl) e,ih q⟩
 | tbl ps =>
  have e:h.get? a=some {cls:=.none,data:=.fields ps}:=x;show h'.get? a=some {cls:=.none,data:=.fields ps};exact k a _ (.inl rfl) e
 | met f y =>
  have e:h.get? a=some (W.methodObj (.ref f) (.ref y)):=x;show h'.get? a=some (W.methodObj (.ref f) (.ref y));exact k a _ (.inl rfl) e
 | ext φ=>obtain⟨p,⟨o,e⟩,st⟩:=x;exact⟨st _ _ p fun o q=>k _ _ (.inl rfl) q,⟨o,k _ _ (.inl rfl) e⟩,st⟩
theorem bi.lt(x:bi P w H h)(e:H a=some o):a<h.objs.size:=(x a o e).lt
theorem bi.fresh(x:bi P w H h)(e:h.objs.size<=a):H a=none:=by
 cases q:H a with
 | none=>rfl
 | some u=>exact absurd (C4 (x.lt q) e) (De _)
theorem bi.kept(x:bi P w H h)(k:∀b u,h.get? b=some u->h'.get? b=some u):bi P w H h' :=fun a o e =>
 (x a o e).stay (fun b u _ q=>k b u q) (fun _ q=>q) fun _ _ q=>q
theorem bi.laid(x:bi P w H h)(k:∀b u,h.get? b=some u->h'.get? b=some u)(hp:h.objs.size<=a)(new:aa P w (upd H a o) h' a o):bi P w (upd H a o) h' :=fun b u e=>by
 have hn:=x.fresh hp
 by_cases hb:b=a
 ·subst hb;rw[aJ]at e;cases e;exact new
 ·rw[aD hb]at e
  exact(x b u e).stay (fun c v _ q=>k c v q) (fun c q=>by rw[aD (aH q hn)];exact q) fun c xs q=>by rw[aD (aH q hn)];exact q
end
noncomputable def Rd(H:Hp)(a:Addr)(u:HO):Prop:=H a=some u\/∃o,H a=some (.frz o u)
theorem Rd.ok{P:Program}{w:World}{H:Hp}{h:Heap}{a:Addr}{u:HO}(r:Rd H a u)(x:bi P w H h):aa P w H h a u:=by
 rcases r with r|⟨o,r⟩
 ·exact x a u r
 ·obtain⟨_,q⟩:=x a _ r
  exact q
noncomputable def Ac:Option HO->Prop
 | some (.lst _)=>True
 | some (.dK _)=>True
 | some (.dT _)=>True
 | some (.set _ _)=>True
 | some (.ins _ _ _)=>True
 | some (.ext _)=>True
 | _=>False
section
variable{P:Program}{w:World}{H:Hp}{h h' :Heap}{x e:Addr}{o' :HO}
theorem bi.write(ok:bi P w H h)(mu:Ac (H x))(he:e=x\/H e=some (.own x))(k:∀b u,b≠e->h.get? b=some u->h'.get? b=some u)(heo:∃u,h'.get? e=some u)
  (new:aa P w (upd H x o') h' x o'):bi P w (upd H x o') h' :=fun b u q=>by
 have nown:∀c y,H c=some (.own y)->c≠x:=fun c y r z=>by subst z;rw[r]at mu;exact mu
 have ntup:∀c xs,H c=some (.tup xs)->c≠x:=fun c xs r z=>by subst z;rw[r]at mu;exact mu
 by_cases hb:b=x
 ·subst hb;rw[aJ]at q;cases q;exact new
 ·rw[aD hb]at q
  by_cases hbe:b=e
  ·have q' :H b=some (.own x):=by
    rcases he with z|z
    ·exact absurd (hbe.trans z) hb
    ·rw[hbe];exact z
   rw[q]at q';cases q';obtain⟨v,hv⟩:=heo;exact⟨v,by rw[hbe];exact hv⟩
  ·refine(ok b u q).stay (fun c v hc r=>k c v ?_ r) (fun c r=>by rw[aD (nown c b r)];exact r) fun c xs r=>by rw[aD (ntup c xs r)];exact r
   rcases hc with rfl|hc
   ·exact hbe
   ·rintro rfl
    rcases he with z|z
    ·exact nown c b hc z
    ·rw[hc]at z;cases z;exact hb rfl
end
structure Un(fs ex:List Addr)(H H' :Hp)(h h' :Heap):Prop where
 keep:∀b o,h.get? b=some o->H b=none->b∉fs->b∉ex->h'.get? b=some o
 slot:∀b o,h.get? b=some o->H b=none->b∈fs->b∉ex->∃sl,h'.get? b=some {o with slots:=sl}
 free:∀b o,h.get? b=some o->H b=none->b∉ex->H' b=none
 there:∀b o,h.get? b=some o->b∉ex->∃o',h'.get? b=some o'
 tups:∀b xs,H b=some (.tup xs)->H' b=some (.tup xs)
 frzs:∀b o u,H b=some (.frz o u)->H' b=some (.frz o u)
 tbls:∀b ps,H b=some (.tbl ps)->∃more,H' b=some (.tbl (ps++more))
section
variable{fs fs' ex ex' :List Addr}{H H1 H2:Hp}{h h1 h2 h' :Heap}{a x e:Addr}{o:HO}
theorem Un.any(u:Un fs ex H H1 h h1){b:Addr}{ob:Obj}(q:h.get? b=some ob)(n:H b=none)(hx:b∉ex):∃sl,h1.get? b=some {ob with slots:=sl}:=by
 by_cases hb:b∈fs
 ·exact u.slot b ob q n hb hx
 ·exact⟨ob.slots,u.keep b ob q n hb hx⟩
theorem Un.kept(k:∀b u,h.get? b=some u->h'.get? b=some u):Un fs ex H H h h' :=
 ⟨fun b ob q _ _ _=>k b ob q,fun b ob q _ _ _=>⟨ob.slots,k b ob q⟩,fun _ _ _ n _=>n,fun b ob q _=>⟨ob,k b ob q⟩,fun _ _ q=>q,fun _ _ _ q=>q,fun _ ps q=>⟨#[],by rw[q];simp⟩⟩
theorem Un.refl:Un fs ex H H h h:=Un.kept fun _ _ q=>q
theorem Un.laid(k:∀b u,h.get? b=some u->h'.get? b=some u)(hp:h.objs.size<=a)(hn:H a=none):Un fs ex H (upd H a o) h h' where
 keep:=fun b u q _ _ _=>k b u q
 slot:=fun b u q _ _ _=>⟨u.slots,k b u q⟩
 free:=fun b u q n _=>by rw[aD (Cu (C4 (Cc q) hp))];exact n
 there:=fun b u q _=>⟨u,k b u q⟩
 tups:=fun b xs q=>by rw[aD (aH q hn)];exact q
 frzs:=fun b u xs q=>by rw[aD (aH q hn)];exact q
 tbls:=fun b ps q=>⟨#[],by rw[aD (aH q hn),q];simp⟩
theorem Un.write(mu:Ac (H x))(he:e=x\/H e=some (.own x))(k:∀b u,b≠e->h.get? b=some u->h'.get? b=some u)(heo:∃u,h'.get? e=some u):Un fs ex H (upd H x o) h h' :=by
 have hx:∀b,H b=none->b≠x:=fun b n z=>by subst z;rw[n]at mu;exact mu
 have hb:∀b,H b=none->b≠e:=fun b n z=>by
  subst z
  rcases he with r|r
  ·exact hx b n r
  ·rw[n]at r;cases r
 have hm:∀b u,H b=some u->¬Ac (some u)->b≠x:=fun b u q nm z=>by subst z;rw[q]at mu;exact nm mu
 refine⟨fun b u q n _ _=>k b u (hb b n) q,fun b u q n _ _=>⟨u.slots,k b u (hb b n) q⟩,fun b u q n _=>by rw[aD (hx b n)];exact n,fun b u q _=> ?_,
  fun b xs q=>by rw[aD (hm b _ q fun z=>z)];exact q,fun b u xs q=>by rw[aD (hm b _ q fun z=>z)];exact q,fun b ps q=>⟨#[],by rw[aD (hm b _ q fun z=>z),q];simp⟩⟩
 by_cases hbe:b=e
 ·subst hbe;exact heo
 ·exact⟨u,k b u hbe q⟩
end
noncomputable def trk(h:Heap)(H:Hp):List Addr:=(List.range h.objs.size).filter fun a=>(H a).isSome
noncomputable def jh(h:Heap)(H:Hp):Heap:=W.hideAll h (trk h H)
theorem pT(h:Heap)(H:Hp):(jh h H).objs.size=h.objs.size:=W.hideAll_size _ _
theorem tJ{h:Heap}{H:Hp}{b:Addr}{o:Obj}(e:h.get? b=some o)(n:H b=none):(jh h H).get? b=some o :=
 W.hideAll_get _ e fun hm=>by
  have q:(H b).isSome=true:=(EX.mp hm).2;rw[n]at q;simp at q
theorem vm{h:Heap}{H:Hp}{b:Addr}{o:Obj}(e:(jh h H).get? b=some o):h.get? b=some o/\H b=none:=by
 have e' :h.get? b=some o:=W.of_hideAll (trk h H) e;refine⟨e',?_⟩;cases q:H b with
 | none=>rfl
 | some x =>
  have hm:b∈trk h H:=EX.mpr ⟨DB.mpr (Cc e'),by simp[q]⟩;have z:(jh h H).get? b=none:=W.hideAll_none (trk h H) hm;rw[z]at e;cases e
noncomputable def wz(g h:Heap)(L:Addr):List (Addr×Obj):=(List.range h.objs.size).filterMap fun a=>if a=L\/(g.get? a).isSome=true then none else(h.get? a).map fun o=>(a,o)
noncomputable def aP(g h:Heap)(L d:Addr):List (Addr×Obj):=(wz g h L).filter fun p=>decide (p.1≠d)
structure Mod(K:W.Frag)(mg:Str->Option Value)(base:Heap):Prop where
 kin:K.In base
 glob:base.Ns mainGlobals mg
 blt:∃mb,base.Ns builtinsNs mb/\∀x:Str,x≠"__name__"->mb x=bootBuiltins x
 nolimit:base.NoLimit
structure Cx where
 prog:Program
 w:World
 K:W.Frag
 mg:Str->Option Value
 base:Heap
 A:Around
 N:List Str
 s₀:Shared
 H₀:Hp
 env:Env
 outer:List Env
 stack:List Env
 ex:List Addr
 fn:Str->Bool
 calm:Bool
 pn:List (Addr×Obj)
 xe:Value->Shared->Prop
noncomputable def lf(l:List Env):List Addr:=l.filterMap (·.frame)
noncomputable abbrev Cx.fs(X:Cx):List Addr:=lf X.outer
noncomputable def CH(sc:Scope)(x:Str):Prop:=sc.names.lookup x=some .local\/sc.names.lookup x=some .cell\/sc.names.lookup x=some .free
noncomputable def Loc(sc:Scope)(x:Str):Prop:=sc.names.lookup x=some .local\/sc.names.lookup x=some .cell
noncomputable def Look(env:Env)(h:Heap)(m:Str->Option Value)(x:Str)(u:Value):Prop :=
 (env.kindOf x=some .local/\m x=some u)\/((env.kindOf x=some .cell\/env.kindOf x=some .free)/\∃c,env.cells.lookup x=some c/\h.IsCell c (some u))
structure Cx.Ok(X:Cx):Prop where
 mod:Mod X.K X.mg X.base
 kind:X.env.scope.kind=.function
 glob:X.env.globals=mainGlobals
 blt:X.env.builtins=builtinsNs
 above:X.s₀.heap.objs.size<=X.env.locals
 inj:∀x y c,X.env.cells.lookup x=some c->X.env.cells.lookup y=some c->x=y
 has:∀x,(X.env.kindOf x=some .cell\/X.env.kindOf x=some .free)->∃c,X.env.cells.lookup x=some c
 cab:∀x c,X.fn x=true->X.env.cells.lookup x=some c->X.s₀.heap.objs.size<=c
 hd:X.calm=true->X.A.handled=none
 frames:X.A.frames=some X.stack
 stk:X.stack=X.outer\/(X.stack=X.env::X.outer/\X.env.frame=some X.env.locals)
 exf:∀b∈X.ex,b≠X.env.locals/\∀x c,X.env.cells.lookup x=some c->c≠b
 bs:∀b o,X.base.get? b=some o->X.s₀.heap.get? b=some o/\X.H₀ b=none
 bsz:X.base.objs.size<=X.s₀.heap.objs.size
 noex:∀b o,X.base.get? b=some o->b∉X.ex
 exfs:∀b∈X.ex,b∉X.fs
 funs:X.s₀.heap.FunFrames X.base X.outer
 frf:∀b∈X.fs,X.H₀ b=none
structure Inv(X:Cx)(pins:List (Addr×Obj))(σ:List (Option V))(H:Hp)(s:Shared):Prop where
 ok:X.Ok
 os:s.os=X.s₀.os
 bare:AllBare s.gens
 base:Un X.fs X.ex X.H₀ H X.s₀.heap s.heap
 loc:∃m,s.heap.Ns X.env.locals m/\∀(i:Nat)(x:Str)(v:V),X.N[i]? =some x->σ[i]? =some (some v)->CH X.env.scope x->∃u,RelV v u/\Look X.env s.heap m x u
 cell:∀x c,X.env.cells.lookup x=some c->∃v,s.heap.IsCell c v
 free:H X.env.locals=none
 freeC:∀x c,X.env.cells.lookup x=some c->H c=none
 pin:∀p∈X.pn++pins,s.heap.get? p.1=some p.2/\H p.1=none/\p.1≠X.env.locals/\p.1∉X.fs/\∀v,p.2.data≠.cell v
 hok:bi X.prog X.w H s.heap
 len:σ.length=X.N.length
section
variable{X:Cx}{pins:List (Addr×Obj)}{σ:List (Option V)}{H H' :Hp}{s:Shared}{h' :Heap}
theorem Cx.Ok.nofr(ok:X.Ok){b:Addr}{o:Obj}(e:X.base.get? b=some o):b∉X.fs:=fun hb=>by
 have:=(ok.funs.mem hb).1;rw[e]at this;cases this
theorem Inv.bs(I:Inv X pins σ H s):∀b o,X.base.get? b=some o->s.heap.get? b=some o/\H b=none:=fun b o e =>
 ⟨I.base.keep b o (I.ok.bs b o e).1 (I.ok.bs b o e).2 (I.ok.nofr e) (I.ok.noex b o e),I.base.free b o (I.ok.bs b o e).1 (I.ok.bs b o e).2 (I.ok.noex b o e)⟩
theorem Inv.bk(I:Inv X pins σ H s):∀b o,X.base.get? b=some o->s.heap.get? b=some o:=fun b o e=>(I.bs b o e).1
theorem Inv.mod(I:Inv X pins σ H s):Mod X.K X.mg X.base:=I.ok.mod
theorem Inv.kIn(I:Inv X pins σ H s):X.K.In s.heap:=I.ok.mod.kin.keeps I.bk
theorem Inv.fr(I:Inv X pins σ H s):∃m,Fr X.base X.env.locals s.heap m :=
 let⟨m,hn,_⟩:=I.loc
 ⟨m,hn,I.bk,C9 I.ok.bsz I.ok.above⟩
theorem Inv.lt(I:Inv X pins σ H s):X.env.locals<s.heap.objs.size:=let⟨_,hn,_⟩:=I.loc;hn.lt
theorem Inv.sz(I:Inv X pins σ H s):X.s₀.heap.objs.size<=s.heap.objs.size:=C9 I.ok.above (EE I.lt)
theorem Inv.nofs(I:Inv X pins σ H s){a:Addr}(h:s.heap.objs.size<=a):a∉X.fs:=fun hb=>by
 obtain⟨_,o,ho,_⟩:=I.ok.funs.mem hb;exact absurd (C4 (Cc ho) (C9 I.sz h)) (De _)
theorem Inv.cne(I:Inv X pins σ H s):∀x c,X.env.cells.lookup x=some c->c≠X.env.locals:=fun x c e z=>by
 obtain⟨v,o,ho,hd⟩:=I.cell x c e;obtain⟨m,⟨o',es,ep,ho',hd',_⟩,_⟩:=I.loc;rw[z,ho']at ho;cases ho;rw[hd']at hd;cases hd
theorem Inv.funs(I:Inv X pins σ H s):s.heap.FunFrames X.base X.outer:=by
 have all:∀(l:List Env),(∀b∈lf l,b∈X.fs)->X.s₀.heap.FunFrames X.base l->s.heap.FunFrames X.base l:=by
  intro l
  induction l with
  | nil=>intro _ _;trivial
  | cons env r ih =>
   intro hs hl;obtain⟨hk,⟨L,o,hf,hn,ho,hd⟩,hr⟩:=hl;have hL:L∈X.fs:=hs L (by unfold lf;rw[List.filterMap_cons,hf];exact Cv);obtain⟨sl,e⟩:=I.base.slot L o ho (I.ok.frf L hL) hL fun z=>I.ok.exfs L z hL;exact⟨hk,⟨L,_,hf,hn,e,hd⟩,ih (fun b hb=>hs b (by unfold lf;rw[List.filterMap_cons,hf];exact Cj _ hb)) hr⟩
 exact all X.outer (fun _ hb=>hb) I.ok.funs
theorem Inv.stack(I:Inv X pins σ H s):s.heap.FunFrames X.base X.stack:=by
 rcases I.ok.stk with e|⟨e,hf⟩
 ·rw[e];exact I.funs
 ·rw[e]
  obtain⟨m,hn,_⟩:=I.loc;refine .cons (by rw[I.ok.kind];decide) hf hn ?_ I.funs;exact Ee (C9 I.ok.bsz I.ok.above)
theorem Inv.stkSub(I:Inv X pins σ H s):∀b∈lf X.stack,b∈X.env.locals::X.fs:=fun b hb=>by
 rcases I.ok.stk with e|⟨e,hf⟩
 ·rw[e]at hb;exact Cj _ hb
 ·rw[e]at hb
  unfold lf at hb;rw[List.filterMap_cons,hf]at hb;exact hb
theorem Inv.stkFree(I:Inv X pins σ H s):∀b∈lf X.stack,H b=none:=fun b hb=>by
 rcases Co.mp (I.stkSub b hb)with e|hb
 ·rw[e];exact I.free
 ·obtain⟨_,o,ho,_⟩:=I.ok.funs.mem hb
  exact I.base.free b o ho (I.ok.frf b hb) fun z=>I.ok.exfs b z hb
theorem Inv.step{g' :Array GenState}{t' :Nat}{d' :Drawn}{ch:List Addr}(I:Inv X pins σ H s)
  (hch:∀b∈ch,(b∈X.ex\/X.s₀.heap.objs.size<=b)/\b≠X.env.locals/\(∀x c,X.env.cells.lookup x=some c->c≠b)/\∀p∈X.pn++pins,p.1≠b)
  (keep:∀b o,b≠X.env.locals->b∉X.fs->b∉ch->s.heap.get? b=some o->H b=none->h'.get? b=some o)
  (slot:∀b o,b≠X.env.locals->b∈X.fs->b∉ch->s.heap.get? b=some o->H b=none->∃sl,h'.get? b=some {o with slots:=sl}) (free:∀b o,b∉ch->s.heap.get? b=some o->H b=none->H' b=none)
  (there:∀b o,b∉ch->s.heap.get? b=some o->∃o',h'.get? b=some o')
  (tups:∀b xs,H b=some (.tup xs)->H' b=some (.tup xs)) (frzs:∀b o u,H b=some (.frz o u)->H' b=some (.frz o u)) (tbls:∀b ps,H b=some (.tbl ps)->∃more,H' b=some (.tbl (ps++more)))
  (ns:∀m,s.heap.Ns X.env.locals m->h'.Ns X.env.locals m) (hok:bi X.prog X.w H' h') (hg:AllBare g') :
  Inv X pins σ H' {s with heap:=h',gens:=g',drawn:=d',toks:=t'}:=by
 have neL:∀b o,X.s₀.heap.get? b=some o->b≠X.env.locals:=fun b o e=>Cu (C4 (Cc e) I.ok.above);have neC:∀b o,X.s₀.heap.get? b=some o->b∉X.ex->b∉ch:=fun b o e hx hb=>by
  rcases(hch b hb).1 with z|z
  ·exact hx z
  ·exact absurd (C4 (Cc e) z) (De _)
 have cellK:∀x c,X.env.cells.lookup x=some c->∀v,s.heap.IsCell c v->h'.IsCell c v:=fun x c e v ⟨o,ho,hd⟩=>by
  have nch:c∉ch:=fun z=>(hch c z).2.2.1 x c e rfl
  by_cases hc:c∈X.fs
  ·obtain⟨sl,q⟩:=slot c o (I.cne x c e) hc nch ho (I.freeC x c e)
   exact⟨_,q,hd⟩
  ·exact⟨o,keep c o (I.cne x c e) hc nch ho (I.freeC x c e),hd⟩
 refine⟨I.ok,I.os,hg,⟨fun b o e n hb hx=> ?_,fun b o e n hb hx=> ?_,fun b o e n hx=> ?_,fun b o e hx=> ?_,fun b xs e=>tups b xs (I.base.tups b xs e),fun b o xs e=>frzs b o xs (I.base.frzs b o xs e),fun b ps e=> ?_⟩,?_,fun x c e=> ?_,?_,fun x c e=> ?_,fun p hp=> ?_,hok,I.len⟩
 ·exact keep b o (neL b o e) hb (neC b o e hx) (I.base.keep b o e n hb hx) (I.base.free b o e n hx)
 ·obtain⟨sl,e1⟩:=I.base.slot b o e n hb hx
  obtain⟨sl',e2⟩:=slot b _ (neL b o e) hb (neC b o e hx) e1 (I.base.free b o e n hx);exact⟨sl',e2⟩
 ·obtain⟨o',e1⟩:=I.base.there b o e hx
  exact free b o' (neC b o e hx) e1 (I.base.free b o e n hx)
 ·obtain⟨o',e1⟩:=I.base.there b o e hx
  exact there b o' (neC b o e hx) e1
 ·obtain⟨m1,e1⟩:=I.base.tbls b ps e
  obtain⟨m2,e2⟩:=tbls b _ e1;exact⟨m1++m2,by rw[e2,Array.append_assoc]⟩
 ·obtain⟨m,hn,hl⟩:=I.loc
  refine⟨m,ns m hn,fun i x v e1 e2 e3=> ?_⟩;obtain⟨u,r,l⟩:=hl i x v e1 e2 e3;refine⟨u,r,?_⟩
  rcases l with l|⟨k,c,e,z⟩
  ·exact .inl l
  ·exact .inr ⟨k,c,e,cellK x c e _ z⟩
 ·obtain⟨v,z⟩:=I.cell x c e
  exact⟨v,cellK x c e v z⟩
 ·obtain⟨m,⟨o,_,_,ho,_⟩,_⟩:=I.loc
  exact free _ o (fun z=>(hch _ z).2.1 rfl) ho I.free
 ·obtain⟨v,o,ho,hd⟩:=I.cell x c e
  exact free c o (fun z=>(hch c z).2.2.1 x c e rfl) ho (I.freeC x c e)
 ·obtain⟨e,n,ne,nf,d⟩:=I.pin p hp
  have nch:p.1∉ch:=fun z=>(hch p.1 z).2.2.2 p hp rfl;exact⟨keep p.1 p.2 ne nf nch e n,free p.1 p.2 nch e n,ne,nf,d⟩
theorem Inv.un{t' :Nat}(I:Inv X pins σ H s)(u:Un X.fs [] H H' s.heap h')(hok:bi X.prog X.w H' h'):Inv X pins σ H' {s with heap:=h',toks:=t'}:=by
 obtain⟨m,⟨o,es,ep,ho,r⟩,_⟩:=id I.loc;obtain⟨sl,hL⟩:=u.any ho I.free (by simp);exact I.step (g' :=s.gens) (d' :=s.drawn) (ch:=[]) (fun _ z=>nomatch z) (fun b o _ hb _ e n=>u.keep b o e n hb (by simp)) (fun b o _ hb _ e n=>u.slot b o e n hb (by simp)) (fun b o _ e n=>u.free b o e n (by simp)) (fun b o _ e=>u.there b o e (by simp)) u.tups u.frzs u.tbls (fun m' hm=>by
  obtain⟨o',es',ep',ho',r'⟩:=hm;rw[ho]at ho';cases ho';exact⟨_,es',ep',hL,r'⟩) hok I.bare
theorem Inv.call{g' :Array GenState}{t' :Nat}{d' :Drawn}{ch:List Addr}(I:Inv X pins σ H s)(u:Un (lf X.stack) ch H H' s.heap h')(hok:bi X.prog X.w H' h')(hg:AllBare g')
  (hch:∀b∈ch,(b∈X.ex\/X.s₀.heap.objs.size<=b)/\b≠X.env.locals/\(∀x c,X.env.cells.lookup x=some c->c≠b)/\∀p∈X.pn++pins,p.1≠b) :
  Inv X pins σ H' {s with heap:=h',gens:=g',drawn:=d',toks:=t'}:=by
 obtain⟨m,⟨o,es,ep,ho,r⟩,_⟩:=id I.loc;obtain⟨sl,hL⟩:=u.any ho I.free fun z=>(hch _ z).2.1 rfl;exact I.step (ch:=ch) hch (fun b o hL hb hc e n=>u.keep b o e n (fun z=>(Co.mp (I.stkSub b z)).elim hL hb) hc) (fun b o _ _ hc e n=>u.any e n hc) (fun b o hc e n=>u.free b o e n hc) (fun b o hc e=>u.there b o e hc) u.tups u.frzs u.tbls (fun m' hm=>by
  obtain⟨o',es',ep',ho',r'⟩:=hm;rw[ho]at ho';cases ho';exact⟨_,es',ep',hL,r'⟩) hok hg
theorem Inv.turned{t' :Nat}{it:Addr}(I:Inv X pins σ H s)(k:∀b o,b≠it->s.heap.get? b=some o->h'.get? b=some o)(hn:H it=none)(hL:it≠X.env.locals)
  (h1:it∈X.ex\/X.s₀.heap.objs.size<=it) (h2:∀x c,X.env.cells.lookup x=some c->c≠it) (h3:∀p∈X.pn++pins,p.1≠it):Inv X pins σ H {s with heap:=h',toks:=t'}:=by
 have nit:∀b u,H b=some u->b≠it:=fun b u e z=>by rw[z,hn]at e;cases e
 refine I.step (g' :=s.gens) (d' :=s.drawn) (ch:=[it]) (fun b hb=> ?_) (fun b o _ _ hc e _=>k b o (fun z=>hc (by simp[z])) e) (fun b o _ _ hc e _=>⟨o.slots,k b o (fun z=>hc (by simp[z])) e⟩) (fun _ _ _ _ n=>n)
  (fun b o hc e=>⟨o,k b o (fun z=>hc (by simp[z])) e⟩) (fun _ _ e=>e) (fun _ _ _ e=>e) (fun b ps e=>⟨#[],by rw[e];simp⟩) (fun m hm=> ?_) (fun b u e=> ?_) I.bare
 ·have e:b=it:=by simpa using hb
  subst e;exact⟨h1,hL,h2,h3⟩
 ·obtain⟨o,es,ep,ho,r⟩:=hm
  exact⟨o,es,ep,k _ o (Du hL) ho,r⟩
 ·refine(I.hok b u e).stay (fun c v hc q=>k c v ?_ q) (fun _ q=>q) fun _ _ q=>q
  rcases hc with z|z
  ·rw[z];exact nit b u e
  ·exact nit c _ z
theorem Inv.tok(I:Inv X pins σ H s)(t:Nat):Inv X pins σ H {s with toks:=t}:=I.un (h' :=s.heap) (t' :=t) Un.refl I.hok
theorem Inv.kept{t' :Nat}(I:Inv X pins σ H s)(k:∀b u,s.heap.get? b=some u->h'.get? b=some u):Inv X pins σ H {s with heap:=h',toks:=t'}:=I.un (Un.kept k) (I.hok.kept k)
theorem Inv.laid{a:Addr}{o:HO}{t' :Nat}(I:Inv X pins σ H s)(k:∀b u,s.heap.get? b=some u->h'.get? b=some u)(hp:s.heap.objs.size<=a)(new:aa X.prog X.w (upd H a o) h' a o) :
  Inv X pins σ (upd H a o) {s with heap:=h',toks:=t'}:=I.un (Un.laid k hp (I.hok.fresh hp)) (I.hok.laid k hp new)
theorem Inv.write{x e:Addr}{o:HO}{t' :Nat}(I:Inv X pins σ H s)(mu:Ac (H x))(he:e=x\/H e=some (.own x))(k:∀b u,b≠e->s.heap.get? b=some u->h'.get? b=some u)(heo:∃u,h'.get? e=some u)
  (new:aa X.prog X.w (upd H x o) h' x o):Inv X pins σ (upd H x o) {s with heap:=h',toks:=t'}:=I.un (Un.write mu he k heo) (I.hok.write mu he k heo new)
theorem Inv.weak{σ' :List (Option V)}(I:Inv X pins σ H s)(hl:σ'.length=σ.length)(w:∀(i:Nat) v,σ'[i]? =some (some v)->σ[i]? =some (some v)):Inv X pins σ' H s :=
 ⟨I.ok,I.os,I.bare,I.base,let⟨m,hn,hl'⟩:=I.loc;⟨m,hn,fun i x v e1 e2 e3=>hl' i x v e1 (w i v e2) e3⟩,I.cell,I.free,I.freeC,I.pin,I.hok,hl.trans I.len⟩
theorem Inv.pins_of{pins' :List (Addr×Obj)}(I:Inv X pins σ H s)(h:∀p∈pins',s.heap.get? p.1=some p.2/\H p.1=none/\p.1≠X.env.locals/\p.1∉X.fs/\∀v,p.2.data≠.cell v):Inv X pins' σ H s :=
 ⟨I.ok,I.os,I.bare,I.base,I.loc,I.cell,I.free,I.freeC,fun p hp=>(EY.mp hp).elim (fun z=>I.pin p (EV _ z)) (h p),I.hok,I.len⟩
theorem eA{N:List Str}(hN:N.Nodup){i j:Nat}{x:Str}(a:N[i]? =some x)(b:N[j]? =some x):i=j:=by
 obtain⟨h1,e1⟩:=Ch.mp a;obtain⟨h2,e2⟩:=Ch.mp b;exact(List.getElem_inj hN).mp (e1.trans e2.symm)
theorem iT{M:Model}{A:Around}{E:Value->Shared->Prop}{i:Nat}{x:Str}{v:V}{u:Value}{Q:Unit->Shared->Prop}(I:Inv X pins σ H s)(hN:X.N.Nodup)(hi:X.N[i]? =some x)(hx:Loc X.env.scope x)(r:RelV v u)
  (h:∀s',Inv X pins (σ.set i (some v)) H s' ->(∃a,Heap.SameBut a s.heap s'.heap/\(a=X.env.locals\/X.env.cells.lookup x=some a))->Q () s') (hf:X.fn x=true\/X.env.scope.names.lookup x=some .local:=by first|exact .inl rfl|exact .inr rfl|assumption):wpAny M A (storeName X.env x u) Q E s:=by
 obtain⟨m,hn,hl⟩:=id I.loc;have hcls:(X.env.scope.kind== .class||(X.env.scope.kind== .module&&X.env.locals !=X.env.globals))=false:=by rw[I.ok.kind];rfl
 have hiσ:i<σ.length:=by rw[I.len];exact(Ch.mp hi).1
 have cne:=I.cne;have tracked:∀{a:Addr}{h' :Heap},(∃o,s.heap.get? a=some o/\H a=none)->Heap.SameBut a s.heap h' ->bi X.prog X.w H h' :=fun{a h'} ha hs b ob e=>by
  obtain⟨_,_,hfree⟩:=ha;refine(I.hok b ob e).stay (fun c w' hc q=>(hs.2 c ?_).trans q) (fun _ q=>q) fun _ _ q=>q;rintro rfl
  rcases hc with rfl|hc
  ·rw[hfree]at e;cases e
  ·rw[hfree]at hc;cases hc
 rcases hx with hk|hk
 ·refine wpAny_storeName_local hk hn (fun h' hn' hs=> ?_) hcls
  obtain⟨oL,_,_,hoL,_⟩:=id hn;refine h _ ⟨I.ok,I.os,I.bare,⟨fun b o e n hb hx=> ?_,fun b o e n hb hx=> ?_,I.base.free,fun b o e hx=> ?_,I.base.tups,I.base.frzs,I.base.tbls⟩,⟨_,hn',fun j y v' e1 e2 e3=> ?_⟩,fun y c e=> ?_,I.free,I.freeC,fun p hp=> ?_,tracked ⟨oL,hoL,I.free⟩ hs,by simpa using I.len⟩ ⟨_,hs,.inl rfl⟩
  ·exact(hs.2 b (Cu (C4 (Cc e) I.ok.above))).trans (I.base.keep b o e n hb hx)
  ·obtain⟨sl,e1⟩:=I.base.slot b o e n hb hx
   exact⟨sl,(hs.2 b (Cu (C4 (Cc e) I.ok.above))).trans e1⟩
  ·obtain⟨o',e1⟩:=I.base.there b o e hx
   exact⟨o',(hs.2 b (Cu (C4 (Cc e) I.ok.above))).trans e1⟩
  ·by_cases hj:j=i
   ·subst hj
    rw[hi]at e1;cases e1;rw[DE hiσ]at e2;cases e2;exact⟨u,r,.inl ⟨hk,by simp⟩⟩
   ·rw[Cr (Du hj)]at e2
    obtain⟨u',r',q⟩:=hl j y v' e1 e2 e3;refine⟨u',r',?_⟩
    rcases q with⟨k,e⟩|⟨k,c,e,z⟩
    ·refine .inl ⟨k,?_⟩
     have:y≠x:=fun e=>hj (eA hN e1 (e▸hi));simp[this,e]
    ·exact .inr ⟨k,c,e,z.sameBut hs (cne y c e)⟩
  ·obtain⟨w',z⟩:=I.cell y c e
   exact⟨w',z.sameBut hs (cne y c e)⟩
  ·obtain⟨e,n,ne,nf,d⟩:=I.pin p hp
   exact⟨(hs.2 p.1 ne).trans e,n,ne,nf,d⟩
 ·have hfn:X.fn x=true:=by
   rcases hf with z|z
   ·exact z
   ·rw[z]at hk;cases hk
  obtain⟨c,hc⟩:=I.ok.has x (.inl hk);obtain⟨w',z⟩:=I.cell x c hc;refine wpAny_storeName_cell I.ok.kind hk hc z (fun h' hc' hs=> ?_);obtain⟨oc,hoc,hocd⟩:=id z;refine h {s with heap:=h'} ⟨I.ok,I.os,I.bare,⟨fun b o e n hb hx=> ?_,fun b o e n hb hx=> ?_,I.base.free,fun b o e hx=> ?_,I.base.tups,I.base.frzs,I.base.tbls⟩,⟨m,hn.sameBut hs (Du (cne x c hc)),fun j y v' e1 e2 e3=> ?_⟩,fun y c' e=> ?_,I.free,I.freeC,fun p hp=> ?_,tracked ⟨oc,hoc,I.freeC x c hc⟩ hs,by simpa using I.len⟩ ⟨c,hs,.inr hc⟩
  ·exact(hs.2 b (Cu (C4 (Cc e) (I.ok.cab x c hfn hc)))).trans (I.base.keep b o e n hb hx)
  ·obtain⟨sl,e1⟩:=I.base.slot b o e n hb hx
   exact⟨sl,(hs.2 b (Cu (C4 (Cc e) (I.ok.cab x c hfn hc)))).trans e1⟩
  ·obtain⟨o',e1⟩:=I.base.there b o e hx
   exact⟨o',(hs.2 b (Cu (C4 (Cc e) (I.ok.cab x c hfn hc)))).trans e1⟩
  ·by_cases hj:j=i
   ·subst hj
    rw[hi]at e1;cases e1;rw[DE hiσ]at e2;cases e2;exact⟨u,r,.inr ⟨.inl hk,c,hc,hc'⟩⟩
   ·rw[Cr (Du hj)]at e2
    obtain⟨u',r',q⟩:=hl j y v' e1 e2 e3;refine⟨u',r',?_⟩
    rcases q with q|⟨k,c',e,z'⟩
    ·exact .inl q
    ·refine .inr ⟨k,c',e,z'.sameBut hs ?_⟩
     rintro rfl;exact hj (eA hN e1 (I.ok.inj _ _ _ e hc▸hi))
  ·by_cases hcc:c' =c
   ·subst hcc;exact⟨_,hc'⟩
   ·obtain⟨w2,z2⟩:=I.cell y c' e
    exact⟨w2,z2.sameBut hs hcc⟩
  ·obtain⟨e,n,ne,nf,d⟩:=I.pin p hp
   refine⟨(hs.2 p.1 ?_).trans e,n,ne,nf,d⟩;intro q;rw[q,hoc]at e;have q' :oc=p.2:=Cw e;exact d w' (by rw[<- q'];exact hocd)
theorem dq{M:Model}{A:Around}{E:Value->Shared->Prop}{i:Nat}{x:Str}{v:V}{u:Value}{Q:Unit->Shared->Prop}(I:Inv X pins σ H s)(hN:X.N.Nodup)(hi:X.N[i]? =some x)(hx:Loc X.env.scope x)(r:RelV v u)
  (h:∀s',Inv X pins (σ.set i (some v)) H s' ->Q () s') (hf:X.fn x=true\/X.env.scope.names.lookup x=some .local:=by first|exact .inl rfl|exact .inr rfl|assumption):wpAny M A (storeName X.env x u) Q E s :=
 iT I hN hi hx r (fun s' I' _=>h s' I') hf
theorem Inv.call'{s' :Shared}{ch:List Addr}(I:Inv X pins σ H s)(ho:s'.os=s.os)(u:Un (lf X.stack) ch H H' s.heap s'.heap)(hok:bi X.prog X.w H' s'.heap)(hg:AllBare s'.gens)
  (hch:∀b∈ch,(b∈X.ex\/X.s₀.heap.objs.size<=b)/\b≠X.env.locals/\(∀x c,X.env.cells.lookup x=some c->c≠b)/\∀p∈X.pn++pins,p.1≠b):Inv X pins σ H' s' :=by
 obtain⟨h',g',d',t',o'⟩:=s';have e:o' =s.os:=ho;subst e;exact I.call (g' :=g') (t' :=t') (d' :=d') u hok hg hch
end
noncomputable abbrev XK:=Value->Option Addr->Hp->Prop
noncomputable abbrev St:=List (Option V)
noncomputable abbrev VK:=V->Hp->Prop
noncomputable abbrev TE:=St->Hp->VK->Prop
noncomputable abbrev TT:=St->Hp->(Bool->Hp->Prop)->Prop
noncomputable abbrev TA:=St->Hp->(List V->Hp->Prop)->Prop
structure cj where
 nx:St->Hp->Prop
 rt:VK
 bk:St->Hp->Prop:=fun _ _=>False
 ct:St->Hp->Prop:=fun _ _=>False
noncomputable abbrev TS:=cj->St->Hp->Prop
noncomputable def EP(X:Cx)(pins:List (Addr×Obj))(σ:St)(Q:VK)(u:Value)(s' :Shared):Prop:=∃v H',Inv X pins σ H' s' /\RelV v u/\Q v H'
noncomputable def TP(X:Cx)(pins:List (Addr×Obj))(σ:St)(Q:Bool->Hp->Prop)(b:Bool)(s' :Shared):Prop:=∃H',Inv X pins σ H' s' /\Q b H'
noncomputable def AP(X:Cx)(pins:List (Addr×Obj))(σ:St)(Q:List V->Hp->Prop)(us:List Value)(s' :Shared):Prop:=∃vs H',Inv X pins σ H' s' /\aK vs us/\Q vs H'
noncomputable def SP(X:Cx)(pins:List (Addr×Obj))(D:cj)(f:Flow)(s' :Shared):Prop :=
 match f with
 | .next=>∃σ' H',Inv X pins σ' H' s' /\D.nx σ' H'
 | .brk=>∃σ' H',Inv X pins σ' H' s' /\D.bk σ' H'
 | .cont=>∃σ' H',Inv X pins σ' H' s' /\D.ct σ' H'
 | .ret u=>∃v σ' H',Inv X pins σ' H' s' /\RelV v u/\D.rt v H'
noncomputable def PE(X:Cx)(e:Expr)(t:TE):Prop :=
 ∀(pins:List (Addr×Obj))(s:Shared)(σ:St)(H:Hp)(Q:VK),Inv X pins σ H s->t σ H Q->wpAny (model X.prog X.w) X.A (eval e X.env) (EP X pins σ Q) X.xe s
noncomputable def PT(X:Cx)(e:Expr)(t:TT):Prop :=
 ∀(pins:List (Addr×Obj))(s:Shared)(σ:St)(H:Hp)(Q:Bool->Hp->Prop),Inv X pins σ H s->t σ H Q->wpAny (model X.prog X.w) X.A (isTrue e X.env (eval e X.env)) (TP X pins σ Q) X.xe s
noncomputable def PW(X:Cx)(e:Expr)(t:TT):Prop :=
 ∀(whole:Sem Value)(pins:List (Addr×Obj))(s:Shared)(σ:St)(H:Hp)(Q:Bool->Hp->Prop),Inv X pins σ H s->t σ H Q->wpAny (model X.prog X.w) X.A (isTrue e X.env whole) (TP X pins σ Q) X.xe s
theorem PW.pt{X:Cx}{e:Expr}{t:TT}(h:PW X e t):PT X e t:=h _
noncomputable def PA(X:Cx)(es:List Expr)(t:TA):Prop :=
 ∀(pos:Pos)(pins:List (Addr×Obj))(s:Shared)(σ:St)(H:Hp)(Q:List V->Hp->Prop),Inv X pins σ H s->t σ H Q->wpAny (model X.prog X.w) X.A (spliced (backTo pos (starEach es X.env))) (AP X pins σ Q) X.xe s
noncomputable def PS(X:Cx)(st:Stmt)(t:TS):Prop :=
 ∀(pins:List (Addr×Obj))(s:Shared)(σ:St)(H:Hp)(D:cj),Inv X pins σ H s->t D σ H->wpAny (model X.prog X.w) X.A (exec st X.env) (SP X pins D) X.xe s
noncomputable def jz(X:Cx)(st:List Stmt)(t:TS):Prop :=
 ∀(pins:List (Addr×Obj))(s:Shared)(σ:St)(H:Hp)(D:cj),Inv X pins σ H s->t D σ H->wpAny (model X.prog X.w) X.A (execs st X.env) (SP X pins D) X.xe s
theorem af{α:Type}{t:Sem α}{Q Q' :α->Shared->Prop}{M:Model}{A:Around}{E:Value->Shared->Prop}{s:Shared}(h:wpAny M A t Q E s)(hQ:∀a s,Q a s->Q' a s):wpAny M A t Q' E s:=DS h hQ fun _ _ x=>x
section
variable{X:Cx}
theorem bin{a b:Expr}{ta tb:TE}(ha:PE X a ta)(hb:PE X b tb){pins:List (Addr×Obj)}{s:Shared}{σ:St}{H:Hp}{R:V->V->Hp->Prop}(I:Inv X pins σ H s)(h:ta σ H fun x H1=>tb σ H1 fun y H2=>R x y H2)
  {α:Type} {Q:α->Shared->Prop} {f:Value->Value->Sem α}
  (hf:∀v u s2 x y H2,Inv X pins σ H2 s2->RelV x v->RelV y u->R x y H2->wpAny (model X.prog X.w) X.A (f v u) Q X.xe s2) :
  wpAny (model X.prog X.w) X.A (eval a X.env) (fun v s₁=>wpAny (model X.prog X.w) X.A (eval b X.env) (fun u s₂=>wpAny (model X.prog X.w) X.A (f v u) Q X.xe s₂) X.xe s₁) X.xe s:=by
 refine af (ha pins s σ H _ I h) fun v s1 hpq=> ?_;obtain⟨x,H1,I1,r1,q1⟩:=hpq;refine af (hb pins s1 σ H1 _ I1 q1) fun u s2 hpq=> ?_;obtain⟨y,H2,I2,r2,q2⟩:=hpq;exact hf v u s2 x y H2 I2 r1 r2 q2
noncomputable def yE(i:Nat):TE:=fun σ H Q=>∃v,σ[i]? =some (some v)/\Q v H
noncomputable def tC(v:V):TE:=fun _ H Q=>Q v H
theorem jT{i:Nat}{x:Str}{pos:Pos}(hN:X.N[i]? =some x)(hv:CH X.env.scope x)(hd:(x==("__debug__":Str))=false:=by decide)(hcd:(x==("__classdict__":Str))=false:=by decide):PE X (.Name x pos) (yE i):=by
 intro pins s σ H Q I h;obtain⟨v,e,h⟩:=h;obtain⟨m,hn,hl⟩:=I.loc;obtain⟨u,r,l⟩:=hl i x v hN e hv;have fin:EP X pins σ Q u s:=⟨v,H,I,r,h⟩
 rcases l with⟨hk,hm⟩|⟨hk,c,hc,hcell⟩
 ·exact wpAny_Name (wpAny_loadName_local I.ok.kind hk hn hm fin) hd
 ·rcases hk with hk|hk
  ·exact wpAny_Name (wpAny_loadName_cell I.ok.kind hk hc hcell fin) hd
  ·exact wpAny_Name (wpAny_loadName_free I.ok.kind hk hc hcell fin hcd) hd
theorem mR{i j pos}:PE X (.Constant (.int i) j pos) (tC (.int i)):=fun _ _ _ H _ I h=>wpAny_Constant_int ⟨.int i,H,I.tok _,⟨_,rfl⟩,h⟩
theorem iW{b j pos}:PE X (.Constant (.bool b) j pos) (tC (.bl b)):=fun _ _ _ H _ I h=>Constant_bool ⟨.bl b,H,I,rfl,h⟩
theorem mQ{j pos}:PE X (.Constant .none j pos) (tC .non):=fun _ _ _ H _ I h=>Constant_none ⟨.non,H,I,rfl,h⟩
theorem gU{x j pos}:PE X (.Constant (.str x) j pos) (tC (.str x)):=fun _ _ _ H _ I h=>Calls.Constant_str ⟨.str x,H,I.tok _,⟨_,rfl⟩,h⟩
noncomputable def Gl(X:Cx)(x:Str):Prop:=X.env.kindOf x=some .globalImplicit
theorem eB{E:Value->Shared->Prop}{pins:List (Addr×Obj)}{s:Shared}{σ:St}{H:Hp}{x:Str}{u:Value}{pos:Pos}{Q:Value->Shared->Prop}(I:Inv X pins σ H s)(hg:Gl X x)(hm:X.mg x=some u)(h:Q u s)
  (hd:(x==("__debug__":Str))=false:=by decide):wpAny (model X.prog X.w) X.A (eval (.Name x pos) X.env) Q E s :=
 Calls.Name_function_global I.ok.kind hg (Calls.loadGlobal_global (by rw[I.ok.glob];exact I.mod.glob.keeps I.bk) hm h) hd
theorem bc{E:Value->Shared->Prop}{pins:List (Addr×Obj)}{s:Shared}{σ:St}{H:Hp}{x:Str}{u:Value}{pos:Pos}{Q:Value->Shared->Prop}(I:Inv X pins σ H s)(hg:Gl X x)(hm:X.mg x=none)(hv:bootBuiltins x=some u)(h:Q u s)
  (hn:x≠"__name__":=by decide) (hd:(x==("__debug__":Str))=false:=by decide):wpAny (model X.prog X.w) X.A (eval (.Name x pos) X.env) Q E s:=by
 obtain⟨mb,h1,h2⟩:=I.mod.blt;exact Calls.Name_function_global I.ok.kind hg (Calls.loadGlobal_builtin (by rw[I.ok.glob];exact I.mod.glob.keeps I.bk) hm (by rw[I.ok.blt];exact h1.keeps I.bk) ((h2 x hn).trans hv) h) hd
theorem d0{x:Str}{v:V}{u:Value}{pos:Pos}(hg:Gl X x)(hm:X.mg x=some u)(r:RelV v u)(hd:(x==("__debug__":Str))=false:=by decide):PE X (.Name x pos) (tC v) :=
 fun _ _ _ H _ I h=>eB I hg hm ⟨v,H,I,r,h⟩ hd
theorem vd{x:Str}{v:V}{u:Value}{pos:Pos}(hg:Gl X x)(hm:X.mg x=none)(hv:bootBuiltins x=some u)(r:RelV v u)(hn:x≠"__name__":=by decide)(hd:(x==("__debug__":Str))=false:=by decide):PE X (.Name x pos) (tC v) :=
 fun _ _ _ H _ I h=>bc I hg hm hv ⟨v,H,I,r,h⟩ hn hd
variable{a b:Expr}{ta tb:TE}{pos:Pos}
noncomputable def PC(X:Cx)(op:CmpOp)(a b:Expr)(t:TE):Prop :=
 ∀(pins:List (Addr×Obj))(s:Shared)(σ:St)(H:Hp)(Q:VK),Inv X pins σ H s->t σ H Q ->
  wpAny (model X.prog X.w) X.A (eval a X.env) (fun v s₁=>wpAny (model X.prog X.w) X.A (eval b X.env) (fun u s₂=>wpAny (model X.prog X.w) X.A (compareOp op v u) (EP X pins σ Q) X.xe s₂) X.xe s₁) X.xe s
theorem sR(b:Expr){op:CmpOp}(h:op≠.In)(h2:op≠.NotIn):behindInMarks op b=false:=by
 have e1:(op==CmpOp.In)=false:=by cases op<;>first|rfl|exact absurd rfl h
 have e2:(op==CmpOp.NotIn)=false:=by cases op<;>first|rfl|exact absurd rfl h2
 cases b<;>simp[behindInMarks,e1,e2]
noncomputable def tIsN(ta:TE):TE:=fun σ H Q=>ta σ H fun x H1=>Q (.bl (decide (x=.non))) H1
noncomputable def As(ta:TE):TE:=fun σ H Q=>ta σ H fun x H1=>Q (.bl (!decide (x=.non))) H1
theorem RelV.none_iff{x:V}{v:Value}(r:RelV x v):(v==Value.none)=decide (x=.non):=by
 cases x with
 | non=>cases r;rfl
 | bl _=>cases r;rfl
 | int _=>obtain⟨t,rfl⟩:=r;rfl
 | str _=>obtain⟨t,rfl⟩:=r;rfl
 | byt _=>obtain⟨t,rfl⟩:=r;rfl
 | flt _=>obtain⟨t,rfl⟩:=r;rfl
 | ref _=>cases r;rfl
 | ty _=>cases r;rfl
theorem rl{j pos'}(ha:PE X a ta):PC X .Is a (.Constant .none j pos') (tIsN ta):=by
 intro pins s σ H Q I h;refine af (ha pins s σ H _ I h) fun v s1 hpq=> ?_;obtain⟨x,H1,I1,r1,q1⟩:=hpq;exact Constant_none (is_none_gen ⟨.bl _,H1,I1,by rw[r1.none_iff];rfl,q1⟩)
theorem nt{j pos'}(ha:PE X a ta):PC X .IsNot a (.Constant .none j pos') (As ta):=by
 intro pins s σ H Q I h;refine af (ha pins s σ H _ I h) fun v s1 hpq=> ?_;obtain⟨x,H1,I1,r1,q1⟩:=hpq;exact Constant_none (isnot_none_gen ⟨.bl _,H1,I1,by rw[r1.none_iff];rfl,q1⟩)
noncomputable def tB(t:TE):TT:=fun σ H Q=>t σ H fun x H1=>∃c,x=.bl c/\Q c H1
theorem jQ{op:CmpOp}{t:TE}(h:PC X op a b t)(h1:behindInMarks op b=false:=by first|exact sR _ (by decide) (by decide)|rfl):PT X (.Compare a [op] [b] pos) (tB t):=by
 intro pins s σ H Q I hw;refine wpAny_isTrue_Compare1 (af (h pins s σ H _ I hw) fun v s1 h1=>af h1 fun u s2 h2=>af h2 fun c s3 ⟨x,H1,I1,r1,q1⟩=> ?_) h1;obtain⟨d,rfl,q⟩:=q1;cases r1;exact Dc ⟨H1,I1,q⟩
theorem mL{e:Expr}{t:TE}(h:PE X e t)(he:∀whole,isTrue e X.env whole=(do let v<-whole;standAt e.pos;holding [v] (truthy v)):=by intro _;rfl):PT X e (tB t):=by
 intro pins s σ H Q I hw;refine isTrue_plain (af (h pins s σ H _ I hw) fun v s1 ⟨x,H1,I1,r1,q1⟩=> ?_) (he _);obtain⟨d,rfl,q⟩:=q1;cases r1;exact Dc ⟨H1,I1,q⟩
variable{tA tB' :TT}{aP:List Expr}
noncomputable def tAnd(t u:TT):TT:=fun σ H Q=>t σ H fun c H1=>if c=true then u σ H1 Q else Q false H1
noncomputable def tOr(t u:TT):TT:=fun σ H Q=>t σ H fun c H1=>if c=true then Q true H1 else u σ H1 Q
noncomputable def tNot(t:TT):TT:=fun σ H Q=>t σ H fun c H1=>Q (!c) H1
theorem vN(ha:PT X a tA):PW X (.BoolOp .And [a] pos) tA:=by
 intro wh pins s σ H Q I h;refine isTrue_and (af (ha pins s σ H Q I h) fun c s1 e=> ?_);cases c with
 | true=>exact isTrue_and_nil e
 | false=>exact e
theorem rH(ha:PT X a tA):PW X (.BoolOp .Or [a] pos) tA:=by
 intro wh pins s σ H Q I h;refine isTrue_or (af (ha pins s σ H Q I h) fun c s1 e=> ?_);cases c with
 | false=>exact isTrue_or_nil e
 | true=>exact e
theorem yU(ha:PT X a tA)(hb:PW X (.BoolOp .And (b::aP) pos) tB'):PW X (.BoolOp .And (a::b::aP) pos) (tAnd tA tB'):=by
 intro wh pins s σ H Q I h;refine isTrue_and (af (ha pins s σ H _ I h) fun c s1 hpq=> ?_);obtain⟨H1,I1,q1⟩:=hpq;cases c with
 | true=>exact hb wh pins s1 σ H1 Q I1 q1
 | false=>exact⟨H1,I1,q1⟩
theorem rJ(ha:PT X a tA)(hb:PW X (.BoolOp .Or (b::aP) pos) tB'):PW X (.BoolOp .Or (a::b::aP) pos) (tOr tA tB'):=by
 intro wh pins s σ H Q I h;refine isTrue_or (af (ha pins s σ H _ I h) fun c s1 hpq=> ?_);obtain⟨H1,I1,q1⟩:=hpq;cases c with
 | true=>exact⟨H1,I1,q1⟩
 | false=>exact hb wh pins s1 σ H1 Q I1 q1
theorem rM(ha:PT X a tA):PT X (.UnaryOp .Not a pos) (tNot tA):=by
 intro pins s σ H Q I h;exact isTrue_not (ha pins s σ H (fun c H1=>Q (!c) H1) I h)
noncomputable def A2(ta tb:TE):TE:=fun σ H Q=>ta σ H fun x H1=>∃c,x=.bl c/\if c=true then tb σ H1 Q else Q (.bl false) H1
noncomputable def tOrV(ta tb:TE):TE:=fun σ H Q=>ta σ H fun x H1=>∃c,x=.bl c/\if c=true then Q (.bl true) H1 else tb σ H1 Q
noncomputable def Ar(ta:TE):TE:=fun σ H Q=>ta σ H fun x H1=>∃c,x=.bl c/\Q (.bl (!c)) H1
theorem yc{op}{t:TE}(h:PE X a t):PE X (.BoolOp op [a] pos) t:=fun pins s σ H Q I hw=>BoolOp_one (h pins s σ H Q I hw)
theorem rj(ha:PE X a ta)(hb:PE X (.BoolOp .And (b::aP) pos) tb):PE X (.BoolOp .And (a::b::aP) pos) (A2 ta tb):=by
 intro pins s σ H Q I h;refine BoolOp_and (af (ha pins s σ H _ I h) fun v s1 hpq=> ?_);obtain⟨x,H1,I1,r1,q1⟩:=hpq;obtain⟨c,rfl,q1⟩:=q1;cases r1;refine Dc ?_;cases c with
 | true=>exact hb pins s1 σ H1 Q I1 q1
 | false=>exact⟨.bl false,H1,I1,rfl,q1⟩
theorem xP(ha:PE X a ta)(hb:PE X (.BoolOp .Or (b::aP) pos) tb):PE X (.BoolOp .Or (a::b::aP) pos) (tOrV ta tb):=by
 intro pins s σ H Q I h;refine BoolOp_or (af (ha pins s σ H _ I h) fun v s1 hpq=> ?_);obtain⟨x,H1,I1,r1,q1⟩:=hpq;obtain⟨c,rfl,q1⟩:=q1;cases r1;refine Dc ?_;cases c with
 | false=>exact hb pins s1 σ H1 Q I1 q1
 | true=>exact⟨.bl true,H1,I1,rfl,q1⟩
theorem yd(ha:PE X a ta):PE X (.UnaryOp .Not a pos) (Ar ta):=by
 intro pins s σ H Q I h;refine UnaryOp_ (af (ha pins s σ H _ I h) fun v s1 hpq=> ?_);obtain⟨x,H1,I1,r1,q1⟩:=hpq;obtain⟨c,rfl,q1⟩:=q1;cases r1;exact not_of (Dc ⟨.bl (!c),H1,I1,rfl,q1⟩)
noncomputable def tIf(t:TT)(ta tb:TE):TE:=fun σ H Q=>t σ H fun c H1=>if c=true then ta σ H1 Q else tb σ H1 Q
theorem ri{c:Expr}(hc:PT X c tA)(ha:PE X a ta)(hb:PE X b tb):PE X (.IfExp c a b pos) (tIf tA ta tb):=by
 intro pins s σ H Q I h;refine wpAny_IfExp (af (hc pins s σ H _ I h) fun d s1 hpq=> ?_);obtain⟨H1,I1,q1⟩:=hpq;cases d with
 | true=>exact ha pins s1 σ H1 Q I1 q1
 | false=>exact hb pins s1 σ H1 Q I1 q1
end
noncomputable def ar(K:W.Frag)(H:Hp)(a:Addr)(xs:List V):Prop :=
 Rd H a (.lst xs) \/
  ∃(o:Obj)(its:Array Value)(n:Nat),K.lookup a=some o/\o.cls=.type "list"/\o.dict=none/\o.data=.seq its n/\its.size<=sizeLine/\aK xs its.toList
noncomputable def bL(K:W.Frag)(H:Hp)(a:Addr)(xs:List V):Prop :=
 Rd H a (.tup xs) \/
  ∃(o:Obj)(its:Array Value)(n:Nat),K.lookup a=some o/\o.cls=.type "tuple"/\o.dict=none/\o.data=.seq its n/\its.size<=sizeLine/\aK xs its.toList
noncomputable def absV:Value->Option V
 | .none=>some .non
 | .bool b=>some (.bl b)
 | .int i _=>some (.int i)
 | .str x _=>some (.str x)
 | .bytes b _=>some (.byt b)
 | .float b _=>some (.flt b)
 | .ref a=>some (.ref a)
 | .type n=>some (.ty n)
 | _=>none
theorem RelV.abs{x:V}{u:Value}(r:RelV x u):absV u=some x:=by
 cases x with
 | non=>cases r;rfl
 | bl _=>cases r;rfl
 | int _=>obtain⟨t,rfl⟩:=r;rfl
 | str _=>obtain⟨t,rfl⟩:=r;rfl
 | byt _=>obtain⟨t,rfl⟩:=r;rfl
 | flt _=>obtain⟨t,rfl⟩:=r;rfl
 | ref _=>cases r;rfl
 | ty _=>cases r;rfl
theorem RelV.inj{x y:V}{u:Value}(r:RelV x u)(q:RelV y u):x=y:=Cw (r.abs.symm.trans q.abs)
theorem aK.inj{xs ys:List V}{us:List Value}(h:aK xs us)(k:aK ys us):xs=ys:=by
 induction h generalizing ys with
 | nil=>cases k;rfl
 | cons r t ih =>
  cases k with
  | cons r' t' =>rw[r.inj r',ih t']
section
variable{X:Cx}{pins:List (Addr×Obj)}{σ:St}{H:Hp}{s:Shared}{a:Addr}{xs ys:List V}
theorem ar.of{K:W.Frag}(h:H a=some (.lst xs)):ar K H a xs:=.inl (.inl h)
theorem bL.of{K:W.Frag}(h:H a=some (.tup xs)):bL K H a xs:=.inl (.inl h)
theorem Inv.list(I:Inv X pins σ H s)(h:ar X.K H a xs):∃its:List Value,aK xs its/\PlainL s.heap a its.toArray/\xs.length<=sizeLine:=by
 rcases h with h|⟨o,its,n,hk,hc,hd,hs,hz,r⟩
 ·obtain⟨z,its,n,r,e⟩:=h.ok I.hok
  exact⟨its,r,⟨_,n,e,rfl,rfl,rfl⟩,z⟩
 ·refine⟨its.toList,r,⟨o,n,I.kIn a o hk,hc,hd,by simpa using hs⟩,?_⟩
  have e:=r.length;simp only[Cn]at e;omega
theorem Inv.tuple(I:Inv X pins σ H s)(h:bL X.K H a xs):∃its:List Value,aK xs its/\IsTup s.heap a its.toArray/\xs.length<=sizeLine:=by
 rcases h with h|⟨o,its,n,hk,hc,_,hs,hz,r⟩
 ·obtain⟨z,its,r,p⟩:=h.ok I.hok
  exact⟨its,r,p.tup,z⟩
 ·refine⟨its.toList,r,⟨o,I.kIn a o hk,hc,n,by simpa using hs⟩,?_⟩
  have e:=r.length;simp only[Cn]at e;omega
theorem Inv.tupleD(I:Inv X pins σ H s)(h:bL X.K H a xs):∃o,s.heap.get? a=some o/\o.cls=.type "tuple"/\o.dict=none:=by
 rcases h with h|⟨o,its,n,hk,hc,hd,_⟩
 ·obtain⟨z,its,r,o,e,c,n,_,d⟩:=h.ok I.hok
  exact⟨o,e,c,d⟩
 ·exact⟨o,I.kIn a o hk,hc,hd⟩
theorem Inv.list_inj(I:Inv X pins σ H s)(h:ar X.K H a xs)(h' :ar X.K H a ys):xs=ys:=by
 obtain⟨its,r,⟨o,n,e,_,_,d⟩,_⟩:=I.list h;obtain⟨its',r',⟨o',n',e',_,_,d'⟩,_⟩:=I.list h';rw[e]at e';cases e';rw[d]at d'
 injection d' with d1 _
 have:its=its' :=by simpa using DT Array.toList d1
 subst this;exact r.inj r'
theorem Inv.tuple_inj(I:Inv X pins σ H s)(h:bL X.K H a xs)(h' :bL X.K H a ys):xs=ys:=by
 obtain⟨its,r,⟨o,e,_,n,d⟩,_⟩:=I.tuple h;obtain⟨its',r',⟨o',e',_,n',d'⟩,_⟩:=I.tuple h';rw[e]at e';cases e';rw[d]at d'
 injection d' with d1 _
 have:its=its' :=by simpa using DT Array.toList d1
 subst this;exact r.inj r'
end
noncomputable abbrev Cx.wish(X:Cx)(E:Value->Shared->Prop):Cx:={X with xe:=E}
noncomputable abbrev Cx.nox(X:Cx):Cx:=X.wish fun _ _=>False
theorem Cx.Ok.wish{X:Cx}(ok:X.Ok)(E:Value->Shared->Prop):(X.wish E).Ok :=
 ⟨ok.mod,ok.kind,ok.glob,ok.blt,ok.above,ok.inj,ok.has,ok.cab,ok.hd,ok.frames,ok.stk,ok.exf,ok.bs,ok.bsz,ok.noex,ok.exfs,ok.funs,ok.frf⟩
theorem Cx.Ok.unwish{X:Cx}{E:Value->Shared->Prop}(ok:(X.wish E).Ok):X.Ok :=
 ⟨ok.mod,ok.kind,ok.glob,ok.blt,ok.above,ok.inj,ok.has,ok.cab,ok.hd,ok.frames,ok.stk,ok.exf,ok.bs,ok.bsz,ok.noex,ok.exfs,ok.funs,ok.frf⟩
section
variable{X:Cx}{pins:List (Addr×Obj)}{σ:St}{H:Hp}{s:Shared}{E:Value->Shared->Prop}
theorem Inv.wish(I:Inv X pins σ H s)(E:Value->Shared->Prop):Inv (X.wish E) pins σ H s:=⟨I.ok.wish E,I.os,I.bare,I.base,I.loc,I.cell,I.free,I.freeC,I.pin,I.hok,I.len⟩
theorem Inv.unwish(I:Inv (X.wish E) pins σ H s):Inv X pins σ H s:=⟨I.ok.unwish,I.os,I.bare,I.base,I.loc,I.cell,I.free,I.freeC,I.pin,I.hok,I.len⟩
theorem SP.unwish{D:cj}{f:Flow}{s' :Shared}(h:SP (X.wish E) pins D f s'):SP X pins D f s' :=by
 cases f with
 | next=>obtain⟨σ',H',I,q⟩:=h;exact⟨σ',H',I.unwish,q⟩
 | brk=>obtain⟨σ',H',I,q⟩:=h;exact⟨σ',H',I.unwish,q⟩
 | cont=>obtain⟨σ',H',I,q⟩:=h;exact⟨σ',H',I.unwish,q⟩
 | ret u=>obtain⟨v,σ',H',I,r,q⟩:=h;exact⟨v,σ',H',I.unwish,r,q⟩
theorem jz.nox{st:List Stmt}{t:TS}(h:jz X.nox st t):jz X st t:=fun pins s σ H D I hw =>
 DS (h pins s σ H D (I.wish _) hw) (fun _ _ q=>q.unwish) fun _ _ z=>False.elim z
end
section
variable{X:Cx}{st:Stmt}{aP:List Stmt}{t u:TS}{e:Expr}{te:TE}{pos:Pos}
noncomputable def xM:TS:=fun D σ H=>D.nx σ H
noncomputable def tSeq(t u:TS):TS:=fun D σ H=>t {D with nx:=u D} σ H
theorem fv:jz X [] xM:=fun _ _ σ H _ I h=>Ei ⟨σ,H,I,h⟩
theorem aV(h1:PS X st t)(h2:jz X aP u):jz X (st::aP) (tSeq t u):=by
 intro pins s σ H D I h;refine wpAny_execs_cons (af (h1 pins s σ H {D with nx:=u D} I h) fun f s1 q=> ?_);cases f with
 | next =>
  obtain⟨σ',H',I',q⟩:=q;exact h2 pins s1 σ' H' D I' q
 | ret v=>exact q
 | brk=>exact q
 | cont=>exact q
theorem am(h1:PS X st t):jz X [st] t:=by
 intro pins s σ H D I h;refine wpAny_execs_cons (af (h1 pins s σ H D I h) fun f s1 q=> ?_);cases f with
 | next=>exact Ei q
 | ret v=>exact q
 | brk=>exact q
 | cont=>exact q
noncomputable def yH:TS:=fun D σ H=>D.bk σ H
noncomputable def Ax:TS:=fun D σ H=>D.ct σ H
theorem vQ:PS X (.Pass pos) xM:=fun _ _ σ H _ I h=>wpAny_Pass ⟨σ,H,I,h⟩
theorem rR:PS X (.Break pos) yH:=fun _ _ σ H _ I h=>wpAny_Break ⟨σ,H,I,h⟩
theorem kM:PS X (.Continue pos) Ax:=fun _ _ σ H _ I h=>wpAny_Continue ⟨σ,H,I,h⟩
theorem Inv.quiet{pins:List (Addr×Obj)}{σ:St}{H:Hp}{s:Shared}(I:Inv X pins σ H s):interactive X.env=false:=by simp[interactive,I.ok.kind]
noncomputable def Au(te:TE):TS:=fun D σ H=>te σ H fun _ H1=>D.nx σ H1
theorem dG(he:PE X e te)(hs:swapsWith e none pos.line X.env=pure false:=by rfl):PS X (.Expr e pos) (Au te):=by
 intro pins s σ H D I h;exact wpAny_Expr_any (af (he pins s σ H _ I h) fun v s1 ⟨x,H1,I1,r1,q1⟩=>⟨σ,H1,I1,q1⟩) I.quiet hs
noncomputable def Ap(te:TE):TS:=fun D σ H=>te σ H D.rt
theorem mM(he:PE X e te):PS X (.Return (some e) pos) (Ap te):=by
 intro pins s σ H D I h;exact wpAny_Return_some (af (he pins s σ H _ I h) fun v s1 ⟨x,H1,I1,r1,q1⟩=>⟨x,σ,H1,I1,r1,q1⟩)
noncomputable def Ao:TS:=fun D _ H=>D.rt .non H
theorem vP:PS X (.Return none pos) Ao:=fun _ _ σ H _ I h=>wpAny_Return_none ⟨.non,σ,H,I,rfl,h⟩
noncomputable def tIfS(c:TT)(t u:TS):TS:=fun D σ H=>c σ H fun b H1=>if b=true then t D σ H1 else u D σ H1
theorem gO{c:Expr}{a b:List Stmt}{tc:TT}(hc:PT X c tc)(ha:jz X a t)(hb:jz X b u):PS X (.If c a b pos) (tIfS tc t u):=by
 intro pins s σ H D I h;refine wpAny_If (af (hc pins s σ H _ I h) fun d s1 hpq=> ?_);obtain⟨H1,I1,q1⟩:=hpq;cases d with
 | true=>exact ha pins s1 σ H1 D I1 q1
 | false=>exact hb pins s1 σ H1 D I1 q1
end
noncomputable abbrev TG:=V->St->Hp->(St->Hp->Prop)->Prop
noncomputable abbrev AQ:=List V->St->Hp->(St->Hp->Prop)->Prop
noncomputable def PG(X:Cx)(target:Expr)(t:TG):Prop :=
 ∀(pins:List (Addr×Obj))(s:Shared)(σ:St)(H:Hp)(v:V)(u:Value)(Q:St->Hp->Prop),Inv X pins σ H s->RelV v u->t v σ H Q ->
  wpAny (model X.prog X.w) X.A (assign target X.env u) (fun _ s' =>∃σ' H',Inv X pins σ' H' s' /\Q σ' H') X.xe s
noncomputable def CJ(X:Cx)(ts:List Expr)(t:AQ):Prop :=
 ∀(pins:List (Addr×Obj))(s:Shared)(σ:St)(H:Hp)(vs:List V)(us:List Value)(Q:St->Hp->Prop),Inv X pins σ H s->aK vs us->t vs σ H Q ->
  wpAny (model X.prog X.w) X.A (assignInOrder ((assignEach ts X.env).map (·.2)) us) (fun _ s' =>∃σ' H',Inv X pins σ' H' s' /\Q σ' H') X.xe s
section
variable{X:Cx}{pos:Pos}
noncomputable def oM(i:Nat):TG:=fun v σ H Q=>Q (σ.set i (some v)) H
theorem dH{i:Nat}{x:Str}(hN:X.N.Nodup)(hi:X.N[i]? =some x)(hx:Loc X.env.scope x)(hf:X.fn x=true\/X.env.scope.names.lookup x=some .local:=by first|exact .inl rfl|exact .inr rfl|assumption):PG X (.Name x pos) (oM i):=by
 intro pins s σ H v u Q I r h;exact wpAny_assign_Name (dq I hN hi hx r (fun s' I' =>⟨_,H,I',h⟩) hf)
noncomputable def gNil:AQ:=fun vs σ H Q=>vs=[]/\Q σ H
noncomputable def Bk(t:TG)(u:AQ):AQ:=fun vs σ H Q=>∃v r,vs=v::r/\t v σ H fun σ' H' =>u r σ' H' Q
theorem nl:CJ X [] gNil:=by
 intro pins s σ H vs us Q I r h;obtain⟨e,h⟩:=h;subst e;cases r;exact assignInOrder_nil ⟨σ,H,I,h⟩
theorem gS{e:Expr}{es:List Expr}{t:TG}{u:AQ}(h1:PG X e t)(h2:CJ X es u)
  (hs:(assignEach (e::es) X.env).map (·.2)=assign e X.env::(assignEach es X.env).map (·.2):=by rfl):CJ X (e::es) (Bk t u):=by
 intro pins s σ H vs us Q I r h;obtain⟨v,vr,e1,h⟩:=h;subst e1;cases r with
 | cons r rr =>
  rw[hs];refine assignInOrder_cons (af (h1 pins s σ H _ _ _ I r h) fun _ s1 hpq=> ?_);obtain⟨σ1,H1,I1,q1⟩:=hpq;exact h2 pins s1 σ1 H1 _ _ Q I1 rr q1
noncomputable def gTup(K:W.Frag)(n:Nat)(t:AQ):TG:=fun v σ H Q=>∃a xs,v=.ref a/\bL K H a xs/\xs.length=n/\t xs σ H Q
theorem rf{es:List Expr}{k:Nat}{t:AQ}{n:Nat}(hc:X.calm=true)(h:CJ X es t)
  (hn:(assignEach es X.env).length=n:=by rfl) (hst:(assignEach es X.env).findIdx? (·.1)=none:=by rfl):PG X (.Tuple es k pos) (gTup X.K n t):=by
 intro pins s σ H v u Q I r hw;obtain⟨a,xs,e1,hq,hl,hw⟩:=hw;subst e1;cases r;obtain⟨its,rv,ht,hz⟩:=I.tuple hq;refine assign_Tuple_tuple (I.ok.hd hc) ht (by simp[hn,<-hl,rv.length]) hst fun h' hx=> ?_;have I1:Inv X pins σ H {s with heap:=h'}:=I.kept (t' :=s.toks) fun b o e=>hx b o (Cu (Cc e)) e;exact h pins _ σ H xs _ Q I1 (by simpa using rv) hw
noncomputable def A0(te:TE)(g:TG):TS:=fun D σ H=>te σ H fun x H1=>g x σ H1 D.nx
theorem ba{i:Nat}{x:Str}{e:Expr}{te:TE}{pos' :Pos}(hN:X.N.Nodup)(hi:X.N[i]? =some x)(hx:Loc X.env.scope x)(he:PE X e te)(hs:swapsWith e (some (.Name x pos')) pos.line X.env=pure false:=by rfl)(hf:X.fn x=true\/X.env.scope.names.lookup x=some .local:=by first|exact .inl rfl|exact .inr rfl|assumption) :
  PS X (.Assign [.Name x pos'] e pos) (A0 te (oM i)):=by
 intro pins s σ H D I h;refine wpAny_Assign_Name (af (he pins s σ H _ I h) fun v s1 ⟨y,H1,I1,r1,q1⟩=> ?_) hs;exact dq I1 hN hi hx r1 (fun s2 I2=>⟨_,H1,I2,q1⟩) hf
noncomputable def yD(c:TT)(tb:TS):TS:=fun D σ H=>∃W:Nat->St->Hp->Prop,(∃m,W m σ H)/\∀m σ H,W m σ H ->
 c σ H fun b H1=>if b=true then∃N:St->Hp->Prop,(∀σ' H',N σ' H' ->∃m',m' <m/\W m' σ' H')/\tb {D with nx:=N,ct:=N,bk:=D.nx} σ H1 else D.nx σ H1
theorem rN{c:Expr}{body:List Stmt}{tc:TT}{tb:TS}(hp:PassesOwn (model X.prog X.w) X.A X.env X.xe)(hc:PT X c tc)(hb:jz X body tb):PS X (.While c body [] pos) (yD tc tb):=by
 intro pins s σ H D I h;obtain⟨W,⟨m0,w0⟩,turn⟩:=h;refine wpAny_While (codeAny_whileLoop (fun n s' =>∃σ' H',Inv X pins σ' H' s' /\W n σ' H') ?_ m0 ⟨σ,H,I,w0⟩);rintro n s1 ⟨σ1,H1,I1,w1⟩;refine EB hp (af (hc pins s1 σ1 H1 _ I1 (turn n σ1 H1 w1)) fun b s2 hpq=> ?_);obtain⟨H2,I2,q2⟩:=hpq;cases b with
 | true =>
  obtain⟨N,hN,q2⟩:=q2;rw[Cd rfl];refine EB hp (af (hb pins s2 σ1 H2 _ I2 q2) fun f s3 q3=> ?_);cases f with
  | next =>
   obtain⟨σ3,H3,I3,n3⟩:=q3;obtain⟨m',hm,w3⟩:=hN σ3 H3 n3;exact⟨m',hm,σ3,H3,I3,w3⟩
  | cont =>
   obtain⟨σ3,H3,I3,n3⟩:=q3;obtain⟨m',hm,w3⟩:=hN σ3 H3 n3;exact⟨m',hm,σ3,H3,I3,w3⟩
  | brk=>exact q3
  | ret v=>exact q3
 | false =>
  rw[Ci Cg];exact Ei ⟨σ1,H2,I2,q2⟩
end
structure It where
 go:Nat->Hp->Prop
 yld:Nat->Hp->V->Hp->Prop
 stop:Nat->Hp->Prop
noncomputable def fE(X:Cx)(pins:List (Addr×Obj))(H:Hp)(b:Addr):Prop :=
 H b=none/\b≠X.env.locals/\b∉X.fs/\(b∈X.ex\/X.s₀.heap.objs.size<=b)/\(∀x c,X.env.cells.lookup x=some c->c≠b)/\∀p∈X.pn++pins,p.1≠b
theorem Inv.fpOk{X:Cx}{pins:List (Addr×Obj)}{σ:St}{H H' :Hp}{s:Shared}{b:Addr}(I:Inv X pins σ H s)(hb:s.heap.objs.size<=b)(hn:H' b=none):fE X pins H' b:=by
 refine⟨hn,EK (C4 I.lt hb),I.nofs hb,.inr (C9 I.sz hb),fun x c e z=> ?_,fun p hp z=> ?_⟩
 ·obtain⟨v,q⟩:=I.cell x c e
  exact absurd (C4 q.lt (by rw[z];exact hb)) (De _)
 ·exact absurd (C4 (Cc (I.pin p hp).1) (by rw[z];exact hb)) (De _)
structure nQ(P:Program)(w:World)(K:W.Frag)(tg:Expr)(J:It)(fp:List Addr)(it:Addr)(tn:Nat->Heap->Prop):Prop where
 mem:it∈fp
 obj:∀i h,tn i h->∀b∈fp,∃o,h.get? b=some o/\∀v,o.data≠.cell v
 keep:∀i h h',tn i h->(∀b∈fp,∀o,h.get? b=some o->h'.get? b=some o)->tn i h'
 item:∀(X:Cx),X.prog=P->X.w=w->X.K=K->X.calm=true->∀(i:Nat)(pins:List (Addr×Obj))(s:Shared)(σ:St)(H:Hp)(E:Value->Shared->Prop),Inv X pins σ H s->(∀b∈fp,fE X pins H b)->tn i s.heap->J.go i H ->
  wpAny (model P w) X.A (pyNext (.ref it)) (fun r s1=>∃u,r=some u /\
   wpAny (model P w) X.A (letOwnedTupleGo tg (.ref it) u) (fun _ s2=>∃x H',Inv X pins σ H' s2/\RelV x u/\J.yld i H x H' /\tn (i+1) s2.heap/\∀b∈fp,H' b=none) E s1) E s
 done:∀(X:Cx),X.prog=P->X.w=w->X.K=K->X.calm=true->∀(i:Nat)(pins:List (Addr×Obj))(s:Shared)(σ:St)(H:Hp)(E:Value->Shared->Prop),Inv X pins σ H s->(∀b∈fp,fE X pins H b)->tn i s.heap->J.stop i H ->
  wpAny (model P w) X.A (pyNext (.ref it)) (fun r s1=>r=none/\Inv X pins σ H s1) E s
 self:∀(A:Around)(i:Nat)(s:Shared)(Q:Value->Shared->Prop)(E:Value->Shared->Prop),tn i s.heap->Q (.ref it) s->wpAny (model P w) A (pyIter (.ref it)) Q E s
noncomputable abbrev TI:=St->Hp->(It->Hp->Prop)->Prop
noncomputable def PIE(X:Cx)(pins:List (Addr×Obj))(σ:St)(tg:Expr)(R:It->Hp->Prop)(itv:Value)(s2:Shared):Prop :=
 ∃(it:Addr)(fp:List Addr)(tn:Nat->Heap->Prop)(J:It)(H' :Hp),itv=.ref it/\Inv X pins σ H' s2/\nQ X.prog X.w X.K tg J fp it tn/\tn 0 s2.heap/\(∀b∈fp,fE X pins H' b)/\R J H'
noncomputable def PI(X:Cx)(tg iter:Expr)(wi:TI):Prop :=
 ∀(pins:List (Addr×Obj))(s:Shared)(σ:St)(H:Hp)(R:It->Hp->Prop),Inv X pins σ H s->wi σ H R ->
  wpAny (model X.prog X.w) X.A (eval iter X.env) (fun v s1=>wpAny (model X.prog X.w) X.A (pyIter v) (PIE X pins σ tg R) X.xe s1) X.xe s
theorem oK{M:Model}{A:Around}{E:Value->Shared->Prop}{s:Shared}{tg:Expr}{it:Addr}{u:Value}{o:Obj}{n:String}{vs:Array Value}{Q:Unit->Shared->Prop}(ho:s.heap.get? it=some o)(hc:o.cls=.type n)(hd:o.data=.fields vs)
    (hn:["enumerate","zip","dict_itemiterator","dict_reverseitemiterator","odict_iterator","itertools.zip_longest","itertools.pairwise"].contains n=false) (hQ:Q () s):wpAny M A (letOwnedTupleGo tg (.ref it) u) Q E s:=by
  unfold letOwnedTupleGo
  cases tg<;>first
    | exact Ce hQ
    | (cases u<;>first
        | exact Ce hQ
        | (refine CU (wpAny_load ho ?_)
           rw[hc,hd];show wpAny M A (if(["enumerate","zip","dict_itemiterator","dict_reverseitemiterator","odict_iterator","itertools.zip_longest","itertools.pairwise"].contains n&&vs[0]? ==some (rawInt _))=true then _ else _) Q E s;rw[Ci (by intro h;rw[hn,Eh]at h;cases h)];exact Ce hQ))
noncomputable def Itl(K:W.Frag)(a:Addr):It :=
 ⟨fun i H=>∃xs x,ar K H a xs/\xs[i]? =some x,fun i H x H' =>H' =H/\∀xs,ar K H a xs->xs[i]? =some x,fun i H=>∃xs,ar K H a xs/\xs.length<=i⟩
noncomputable def Itt(K:W.Frag)(a:Addr):It :=
 ⟨fun i H=>∃xs x,bL K H a xs/\xs[i]? =some x,fun i H x H' =>H' =H/\∀xs,bL K H a xs->xs[i]? =some x,fun i H=>∃xs,bL K H a xs/\xs.length<=i⟩
noncomputable def CQ(lo:Int)(n:Nat):It:=⟨fun i _=>i<n,fun i H x H' =>H' =H/\x=.int (lo+i),fun i _=>n<=i⟩
theorem oj{P:Program}{w:World}{K:W.Frag}{tg:Expr}(a it:Addr):nQ P w K tg (Itl K a) [it] it (fun i h=>h.IsListIter it a i) where
 mem:=by simp
 obj:=fun i h st b hb=>by
  have e:b=it:=by simpa using hb
  subst e;obtain⟨o,e,c,d⟩:=st;exact⟨o,e,fun v z=>by rw[d]at z;cases z⟩
 keep:=fun i h h' st k=>st.at fun o e=>k it (by simp) o e
 item:=by
  intro X hP hw hK hc i pins s σ H E I hf st hg;subst hP hw hK;obtain⟨xs,x,hq,hx⟩:=hg;obtain⟨its,rv,p,hz⟩:=I.list hq;obtain⟨u,hu,ru⟩:=rv.get hx;obtain⟨f0,f1,f2,f3,f4,f5⟩:=hf it (by simp);refine wpAny_pyNext_list_item st p.isList (x:=u) (by simpa using hu) fun h' st' sb=> ?_;have I1:Inv X pins σ H {s with heap:=h'}:=I.turned (t' :=s.toks) (fun b o hb e=>(sb.2 b hb).trans e) f0 f1 f3 f4 f5;obtain⟨o,e,c,d⟩:=id st';exact⟨u,rfl,oK (s:={s with heap:=h'}) e c d (by decide) ⟨x,H,I1,ru,⟨rfl,fun ys hy=>by rw[I.list_inj hy hq];exact hx⟩,st',fun b hb=>(hf b hb).1⟩⟩
 done:=by
  intro X hP hw hK hc i pins s σ H E I hf st hg;subst hP hw hK;obtain⟨xs,hq,hx⟩:=hg;obtain⟨its,rv,p,hz⟩:=I.list hq;obtain⟨f0,f1,f2,f3,f4,f5⟩:=hf it (by simp);have hl:=rv.length;exact wpAny_pyNext_list_end (I.ok.hd hc) st p.isList (by simp;omega) fun h' eb=>⟨rfl,I.turned (t' :=s.toks) (fun b o hb e=>eb b o hb e) f0 f1 f3 f4 f5⟩
 self:=fun _ _ _ _ _ st h=>wpAny_pyIter_listiter st h
theorem lq{P:Program}{w:World}{K:W.Frag}{tg:Expr}(a it:Addr):nQ P w K tg (Itt K a) [it] it (fun i h=>h.IsTupleIter it a i) where
 mem:=by simp
 obj:=fun i h st b hb=>by
  have e:b=it:=by simpa using hb
  subst e;obtain⟨o,e,c,d⟩:=st;exact⟨o,e,fun v z=>by rw[d]at z;cases z⟩
 keep:=fun i h h' st k=>st.at fun o e=>k it (by simp) o e
 item:=by
  intro X hP hw hK hc i pins s σ H E I hf st hg;subst hP hw hK;obtain⟨xs,x,hq,hx⟩:=hg;obtain⟨its,rv,p,hz⟩:=I.tuple hq;obtain⟨u,hu,ru⟩:=rv.get hx;obtain⟨f0,f1,f2,f3,f4,f5⟩:=hf it (by simp);refine wpAny_pyNext_tuple_item st (show s.heap.IsTuple a its.toArray from p) (x:=u) (by simpa using hu) fun h' st' sb=> ?_;have I1:Inv X pins σ H {s with heap:=h'}:=I.turned (t' :=s.toks) (fun b o hb e=>(sb.2 b hb).trans e) f0 f1 f3 f4 f5;obtain⟨o,e,c,d⟩:=id st';exact⟨u,rfl,oK (s:={s with heap:=h'}) e c d (by decide) ⟨x,H,I1,ru,⟨rfl,fun ys hy=>by rw[I.tuple_inj hy hq];exact hx⟩,st',fun b hb=>(hf b hb).1⟩⟩
 done:=by
  intro X hP hw hK hc i pins s σ H E I hf st hg;subst hP hw hK;obtain⟨xs,hq,hx⟩:=hg;obtain⟨its,rv,p,hz⟩:=I.tuple hq;obtain⟨f0,f1,f2,f3,f4,f5⟩:=hf it (by simp);have hl:=rv.length;exact wpAny_pyNext_tuple_end (I.ok.hd hc) st (show s.heap.IsTuple a its.toArray from p) (by simp;omega) fun h' eb=>⟨rfl,I.turned (t' :=s.toks) (fun b o hb e=>eb b o hb e) f0 f1 f3 f4 f5⟩
 self:=fun _ _ _ _ _ st h=>wpAny_pyIter_tupleiter st h
theorem lu{P:Program}{w:World}{K:PySem.W.Frag}{tg:Expr}(it:Addr)(lo:Int)(n:Nat):nQ P w K tg (CQ lo n) [it] it (fun i h=>IsRangeIter h it (lo+(i:Nat)*1) ((n:Int)-(i:Nat)) 1) where
 mem:=by simp
 obj:=fun i h st b hb=>by
  have e:b=it:=by simpa using hb
  subst e;exact⟨_,st,fun v z=>by
   have z' :Data.fields _=Data.cell v:=z;cases z'⟩
 keep:=fun i h h' st k=>k it (by simp) _ st
 item:=by
  intro X hP hw hK hc i pins s σ H E I hf st hg;subst hP hw hK;obtain⟨f0,f1,f2,f3,f4,f5⟩:=hf it (by simp);have W:=Walks.range (prog:=X.prog) (w:=X.w) (I.ok.hd hc) it lo 1 n;refine W.item i s _ _ hg st fun v h' tk hv st' kk=> ?_;obtain⟨t,rfl⟩:=hv;have I1:Inv X pins σ H {s with heap:=h',toks:=tk}:=I.turned (fun b o hb e=>kk b o (by simpa using hb) e) f0 f1 f3 f4 f5;refine⟨_,rfl,oK (s:={s with heap:=h',toks:=tk}) (n:="range_iterator") st' rfl rfl (by decide) ⟨.int (lo+i),H,I1,⟨t,?_⟩,⟨rfl,rfl⟩,st',fun b hb=>(hf b hb).1⟩⟩;rw[Int.mul_one]
 done:=by
  intro X hP hw hK hc i pins s σ H E I hf st hg;subst hP hw hK;obtain⟨f0,f1,f2,f3,f4,f5⟩:=hf it (by simp);exact wpAny_pyNext_range_end (I.ok.hd hc) st (by have:n<=i:=hg;omega) fun h' eb=>⟨rfl,I.turned (t' :=s.toks) (fun b o hb e=>eb b o hb e) f0 f1 f3 f4 f5⟩
 self:=fun _ _ _ _ _ st h=>wpAny_pyIter_rangeiter st h
section
variable{X:Cx}{tg:Expr}
noncomputable def Bh(K:W.Frag)(tl:TE):TI:=fun σ H R=>tl σ H fun x H1=>∃a,x=.ref a/\(∃xs,ar K H1 a xs)/\R (Itl K a) H1
noncomputable def iTup(K:W.Frag)(tl:TE):TI:=fun σ H R=>tl σ H fun x H1=>∃a,x=.ref a/\(∃xs,bL K H1 a xs)/\R (Itt K a) H1
theorem jS{l:Expr}{tl:TE}(hl:PE X l tl):PI X tg l (Bh X.K tl):=by
 intro pins s σ H R I h;refine af (hl pins s σ H _ I h) fun v s1 hpq=> ?_;obtain⟨x,H1,I1,r1,q1⟩:=hpq;obtain⟨a,e,⟨xs,hq⟩,q⟩:=q1;subst e;cases r1;obtain⟨its,rv,p,hz⟩:=I1.list hq;refine wpAny_pyIter_list p.isList ?_;refine⟨s1.heap.objs.size,[s1.heap.objs.size],_,_,H1,rfl,I1.kept (t' :=s1.toks) fun b o e=>CV _ e,oj a _,⟨_,Cs _ rfl,rfl,rfl⟩,fun b hb=> ?_,q⟩;have e:b=s1.heap.objs.size:=by simpa using hb
 subst e;exact I1.fpOk (Ca _) (I1.hok.fresh (Ca _))
theorem rX{l:Expr}{tl:TE}(hl:PE X l tl):PI X tg l (iTup X.K tl):=by
 intro pins s σ H R I h;refine af (hl pins s σ H _ I h) fun v s1 hpq=> ?_;obtain⟨x,H1,I1,r1,q1⟩:=hpq;obtain⟨a,e,⟨xs,hq⟩,q⟩:=q1;subst e;cases r1;obtain⟨its,rv,p,hz⟩:=I1.tuple hq;refine Eu (show s1.heap.IsTuple a its.toArray from p) ?_;refine⟨s1.heap.objs.size,[s1.heap.objs.size],_,_,H1,rfl,I1.kept (t' :=s1.toks) fun b o e=>CV _ e,lq a _,⟨_,Cs _ rfl,rfl,rfl⟩,fun b hb=> ?_,q⟩;have e:b=s1.heap.objs.size:=by simpa using hb
 subst e;exact I1.fpOk (Ca _) (I1.hok.fresh (Ca _))
theorem kJ{pins:List (Addr×Obj)}{σ:St}{H:Hp}{s:Shared}{R:It->Hp->Prop}{E:Value->Shared->Prop}{lo hi:Int}{t u v:Tok}{tk:Nat}(I:Inv X pins σ H s)(h1: -(2^62)<=lo)(h2:lo<2^62)(h3: -(2^62)<=hi)(h4:hi<2^62)
  (q:R (CQ lo (hi-lo).toNat) H):wpAny (model X.prog X.w) X.A (pyIter (.ref s.heap.objs.size)) (PIE X pins σ tg R) E {s with heap:=s.heap.push {cls:=.type "range",data:=.fields #[.int lo t,.int hi u,.int 1 v]},toks:=tk}:=by
 refine wpAny_pyIter_range (IsRange.new ..) (small_one h1 h2 h3 h4) ?_;have I1:Inv X pins σ H {s with heap:=s.heap.push {cls:=.type "range",data:=.fields #[.int lo t,.int hi u,.int 1 v]},toks:=tk}:=I.kept fun b o e=>CV _ e
 refine⟨(s.heap.push {cls:=.type "range",data:=.fields #[.int lo t,.int hi u,.int 1 v]}).objs.size,[(s.heap.push {cls:=.type "range",data:=.fields #[.int lo t,.int hi u,.int 1 v]}).objs.size],_,_,H,rfl,
  I1.kept (t' :=tk) fun b o e=>CV _ e,lu _ lo (hi-lo).toNat,?_,fun b hb=> ?_,q⟩
 ·have e1:lo+((0:Nat):Int)*1=lo:=by simp
  have e2:(((hi-lo).toNat:Nat):Int)-((0:Nat):Int)=Builtin.Range.rangeSize lo hi 1:=by rw[rangeSize_one];split<;>omega
  show IsRangeIter _ _ (lo+((0:Nat):Int)*1) ((((hi-lo).toNat:Nat):Int)-((0:Nat):Int)) 1;rw[e1,e2];exact Cs _ rfl
 ·have e:b=(s.heap.push {cls:=.type "range",data:=.fields #[.int lo t,.int hi u,.int 1 v]}).objs.size:=by simpa using hb
  subst e;exact I1.fpOk (Ca _) (I1.hok.fresh (Ca _))
noncomputable def Bg(ta:TA):TI:=fun σ H R=>ta σ H fun vs H1=>∃j:Int,vs=[.int j]/\ -(2^62)<=j/\j<2^62/\R (CQ 0 j.toNat) H1
noncomputable def Be(ta:TA):TI:=fun σ H R=>ta σ H fun vs H1=>∃i j:Int,vs=[.int i,.int j]/\(-(2^62)<=i/\i<2^62/\ -(2^62)<=j/\j<2^62)/\R (CQ i (j-i).toNat) H1
theorem pC{a:Expr}{ta:TA}{p pos:Pos}(hg:Gl X "range")(hm:X.mg "range"=none)(ha:PA X [a] ta)(hs:starEach [a] X.env=[(false,eval a X.env)]:=by rfl):PI X tg (.Call (.Name "range" p) [a] [] pos) (Bg ta):=by
 intro pins s σ H R I h;refine Call_ (bc I hg hm boot_range (DF (af (ha pos pins s σ H _ I h) fun us s1 ⟨vs,H1,I1,r1,q1⟩=> ?_) hs rfl));obtain⟨j,e,q1,q2,q⟩:=q1;subst e;cases r1 with
 | cons r rr =>
  cases rr;obtain⟨t,rfl⟩:=r;exact call_range_1 (kJ I1 (by omega) (by omega) q1 q2 (by simpa using q))
theorem pB{a b:Expr}{ta:TA}{p pos:Pos}(hg:Gl X "range")(hm:X.mg "range"=none)(ha:PA X [a,b] ta)(hs:starEach [a,b] X.env=[(false,eval a X.env),(false,eval b X.env)]:=by rfl)(hs2:starEach [b] X.env=[(false,eval b X.env)]:=by rfl) :
  PI X tg (.Call (.Name "range" p) [a,b] [] pos) (Be ta):=by
 intro pins s σ H R I h;refine Call_ (bc I hg hm boot_range (DF (af (ha pos pins s σ H _ I h) fun us s1 ⟨vs,H1,I1,r1,q1⟩=> ?_) (by rw[hs,hs2]) (by rw[hs2];rfl)));obtain⟨i,j,e,⟨q1,q2,q3,q4⟩,q⟩:=q1;subst e;cases r1 with
 | cons r rr =>
  cases rr with
  | cons r' rr =>
   cases rr;obtain⟨t,rfl⟩:=r;obtain⟨t',rfl⟩:=r';exact call_range_2 (kJ I1 q1 q2 q3 q4 q)
noncomputable def tFor(wi:TI)(g:TG)(tb:TS):TS:=fun D σ H=>wi σ H fun J H1=>∃W:Nat->Nat->St->Hp->Prop,(∃m,W 0 m σ H1)/\∀i m σ H,W i m σ H ->
 (J.stop i H/\D.nx σ H)\/(J.go i H/\∃N:St->Hp->Prop,(∀σ' H',N σ' H' ->∃m',m' <m/\W (i+1) m' σ' H')/\∀x H',J.yld i H x H' ->g x σ H' fun σ2 H2=>tb {D with nx:=N,ct:=N,bk:=D.nx} σ2 H2)
noncomputable def gR(fp:List Addr)(h:Heap):List (Addr×Obj):=fp.filterMap fun b=>(h.get? b).map fun o=>(b,o)
theorem cX{fp:List Addr}{h:Heap}{b:Addr}{o:Obj}(hb:b∈fp)(e:h.get? b=some o):(b,o)∈gR fp h:=List.mem_filterMap.mpr ⟨b,hb,by rw[e];rfl⟩
theorem pG{fp:List Addr}{h:Heap}{p:Addr×Obj}(hp:p∈gR fp h):p.1∈fp/\h.get? p.1=some p.2:=by
 obtain⟨b,hb,e⟩:=List.mem_filterMap.mp hp;cases q:h.get? b with
 | none=>rw[q]at e;cases e
 | some o =>
  rw[q]at e;have e' :(b,o)=p:=Cw e;subst e';exact⟨hb,q⟩
theorem Inv.pinned{pins:List (Addr×Obj)}{σ:St}{H:Hp}{s:Shared}{fp:List Addr}(I:Inv X pins σ H s)(hf:∀b∈fp,fE X pins H b)(ho:∀b∈fp,∃o,s.heap.get? b=some o/\∀v,o.data≠.cell v):Inv X (pins++gR fp s.heap) σ H s :=
 I.pins_of fun p hp=>(EY.mp hp).elim (fun z=>I.pin p (DG _ z)) fun z=>by
  obtain⟨hb,e⟩:=pG z;obtain⟨f0,f1,f2,_⟩:=hf p.1 hb;obtain⟨o,e',d⟩:=ho p.1 hb;rw[e]at e';cases e';exact⟨e,f0,f1,f2,d⟩
theorem Inv.unpinned{pins pl:List (Addr×Obj)}{σ:St}{H:Hp}{s:Shared}(I:Inv X (pins++pl) σ H s):Inv X pins σ H s:=I.pins_of fun p hp=>I.pin p (DG _ (EV _ hp))
theorem rQ{iter:Expr}{body:List Stmt}{wi:TI}{g:TG}{tb:TS}{pos:Pos}(hp:PassesOwn (model X.prog X.w) X.A X.env X.xe)(hc:X.calm=true)(hi:PI X tg iter wi)(hg:PG X tg g)(hb:jz X body tb)
  (hs:∀x,foldedSetIterable iter X.env x=pure x:=by intro _;rfl):PS X (.For tg iter body [] pos) (tFor wi g tb):=by
 intro pins s σ H D I h;refine wpAny_For (af (hi pins s σ H _ I h) fun v s1 h1=>af h1 fun itv s2 h2=> ?_) hs;obtain⟨it,fp,tn,J,H2,e,I2,T,st2,f2,W,⟨m0,w0⟩,turn⟩:=h2;subst e;have stat:∀{H' :Hp},(∀b∈fp,H' b=none)->∀b∈fp,fE X pins H' b:=fun hn b hb=>⟨hn b hb,(f2 b hb).2⟩;refine codeAny_forLoop_any (fun n s' =>∃i σ' H',Inv X pins σ' H' s' /\tn i s'.heap/\(∀b∈fp,H' b=none)/\W i n σ' H') ?_ m0 ⟨0,σ,H2,I2,st2,fun b hb=>(f2 b hb).1,w0⟩;rintro n s3 ⟨i,σ3,H3,I3,st3,fr3,w3⟩
 rcases turn i n σ3 H3 w3 with⟨stop,qn⟩|⟨go,N,hN,step⟩
 ·refine EB hp (af (T.done X rfl rfl rfl hc i pins s3 σ3 H3 X.xe I3 (stat fr3) st3 stop) fun r s4 hpq=> ?_)
  obtain⟨hr,I4⟩:=hpq;subst hr;exact Ei ⟨σ3,H3,I4,qn⟩
 ·refine EB hp (af (T.item X rfl rfl rfl hc i pins s3 σ3 H3 X.xe I3 (stat fr3) st3 go) fun r s4 hpq=> ?_)
  obtain⟨u,hr,h4⟩:=hpq;subst hr;refine EB hp (af h4 fun _ s5 hpq=> ?_);obtain⟨x,H5,I5,r5,y5,st5,fr5⟩:=hpq;have I5' :=I5.pinned (stat fr5) (T.obj _ _ st5);refine EB hp (af (hg _ s5 σ3 H5 x u _ I5' r5 (step x H5 y5)) fun _ s6 hpq=> ?_);obtain⟨σ6,H6,I6,q6⟩:=hpq;refine EB hp (af (hb _ s6 σ6 H6 _ I6 q6) fun f s7 q7=> ?_);have again:∀{σ7:St}{H7:Hp},Inv X (pins++gR fp s5.heap) σ7 H7 s7->N σ7 H7->∃m,m<n/\∃i σ' H',Inv X pins σ' H' s7/\tn i s7.heap/\(∀b∈fp,H' b=none)/\W i m σ' H' :=fun{σ7 H7} I7 n7=>by
   obtain⟨m',hm,w7⟩:=hN σ7 H7 n7;refine⟨m',hm,i+1,σ7,H7,I7.unpinned,T.keep _ _ _ st5 fun b hb o e=>(I7.pin (b,o) (DG _ (DG _ (cX hb e)))).1,fun b hb=> ?_,w7⟩;obtain⟨o,e,d⟩:=T.obj _ _ st5 b hb;exact(I7.pin (b,o) (DG _ (DG _ (cX hb e)))).2.1
  cases f with
  | next=>obtain⟨σ7,H7,I7,n7⟩:=q7;exact again I7 n7
  | cont=>obtain⟨σ7,H7,I7,n7⟩:=q7;exact again I7 n7
  | brk=>obtain⟨σ7,H7,I7,q7⟩:=q7;exact⟨σ7,H7,I7.unpinned,q7⟩
  | ret v=>obtain⟨x7,σ7,H7,I7,r7,q7⟩:=q7;exact⟨x7,σ7,H7,I7.unpinned,r7,q7⟩
end
noncomputable abbrev R2:=V->V->Hp->VK->Prop
noncomputable def cg(X:Cx)(f:Value->Value->Sem Value)(r:R2):Prop :=
 ∀(pins:List (Addr×Obj))(s:Shared)(σ:St)(H:Hp)(x y:V)(v u:Value)(Q:VK),Inv X pins σ H s->RelV x v->RelV y u->r x y H Q ->
  wpAny (model X.prog X.w) X.A (f v u) (EP X pins σ Q) X.xe s
noncomputable def UnR(X:Cx)(f:Value->Sem Value)(r:V->Hp->VK->Prop):Prop :=
 ∀(pins:List (Addr×Obj))(s:Shared)(σ:St)(H:Hp)(x:V)(v:Value)(Q:VK),Inv X pins σ H s->RelV x v->r x H Q ->
  wpAny (model X.prog X.w) X.A (f v) (EP X pins σ Q) X.xe s
noncomputable def bA(X:Cx)(f:Value)(r:List V->Hp->VK->Prop):Prop :=
 ∀(pins:List (Addr×Obj))(s:Shared)(σ:St)(H:Hp)(xs:List V)(us:List Value)(Q:VK),Inv X pins σ H s->aK xs us->r xs H Q ->
  wpAny (model X.prog X.w) X.A (call f us) (EP X pins σ Q) X.xe s
noncomputable def TruR(X:Cx)(r:V->Hp->(Bool->Hp->Prop)->Prop):Prop :=
 ∀(pins:List (Addr×Obj))(s:Shared)(σ:St)(H:Hp)(x:V)(v:Value)(Q:Bool->Hp->Prop),Inv X pins σ H s->RelV x v->r x H Q ->
  wpAny (model X.prog X.w) X.A (truthy v) (TP X pins σ Q) X.xe s
noncomputable def tOp(r:R2)(ta tb:TE):TE:=fun σ H Q=>ta σ H fun x H1=>tb σ H1 fun y H2=>r x y H2 Q
noncomputable def tUn(r:V->Hp->VK->Prop)(ta:TE):TE:=fun σ H Q=>ta σ H fun x H1=>r x H1 Q
noncomputable def rI(C:Int->Int->Prop)(g:Int->Int->V):R2:=fun x y H Q=>∃i j,x=.int i/\y=.int j/\C i j/\Q (g i j) H
noncomputable def vL(g:Int->Int->V):R2:=fun x y H Q=>∃i j,x=.int i/\y=.int j/\Q (g i j) H
noncomputable def rU(g:Int->V):V->Hp->VK->Prop:=fun x H Q=>∃i,x=.int i/\Q (g i) H
section
variable{X:Cx}{a b c:Expr}{ta tb tc:TE}{pos:Pos}
theorem AA(ha:PE X a ta)(hb:PE X b tb){pins:List (Addr×Obj)}{s:Shared}{σ:St}{H:Hp}{R:V->V->Hp->Prop}(I:Inv X pins σ H s)
  (h:ta σ H fun x H1=>tb σ H1 fun y H2=>R x y H2) {Q:Value->Shared->Prop} {f:Value->Value->Sem Value}
  (hf:∀v u s2 x y H2,Inv X pins σ H2 s2->RelV x v->RelV y u->R x y H2->wpAny (model X.prog X.w) X.A (f v u) Q X.xe s2) :
  wpAny (model X.prog X.w) X.A (eval a X.env) (fun v s₁=>wpAny (model X.prog X.w) X.A (eval b X.env) (fun u s₂=>wpAny (model X.prog X.w) X.A (f v u) Q X.xe s₂) X.xe s₁) X.xe s:=by
 refine af (ha pins s σ H _ I h) fun v s1 hpq=> ?_;obtain⟨x,H1,I1,r1,q1⟩:=hpq;refine af (hb pins s1 σ H1 _ I1 q1) fun u s2 hpq=> ?_;obtain⟨y,H2,I2,r2,q2⟩:=hpq;exact hf v u s2 x y H2 I2 r1 r2 q2
theorem xQ{op:Operator}{r:R2}(ho:cg X (binaryOp op) r)(ha:PE X a ta)(hb:PE X b tb):PE X (.BinOp a op b pos) (tOp r ta tb):=by
 intro pins s σ H Q I h;exact wpAny_BinOp (AA ha hb I h fun v u s2 x y H2 I2 rx ry q=>ho pins s2 σ H2 x y v u Q I2 rx ry q)
theorem BJ{op:UnaryOp}{r:V->Hp->VK->Prop}(ho:UnR X (unaryOp op) r)(ha:PE X a ta):PE X (.UnaryOp op a pos) (tUn r ta):=by
 intro pins s σ H Q I h;exact UnaryOp_ (af (ha pins s σ H _ I h) fun v s1 ⟨x,H1,I1,r1,q1⟩=>ho pins s1 σ H1 x v Q I1 r1 q1)
theorem BU{f:Value->Value->Sem Value}{C:Int->Int->Prop}{g:Int->Int->Int}
  (rule:∀(i j:Int)(t u:Tok)(s:Shared)(Q:Value->Shared->Prop)(E:Value->Shared->Prop),C i j->Q (.int (g i j) s.toks) {s with toks:=s.toks+1}->wpAny (model X.prog X.w) X.A (f (.int i t) (.int j u)) Q E s) :
  cg X f (rI C fun i j=>.int (g i j)):=by
 intro pins s σ H x y v u Q I rx ry h;obtain⟨i,j,rfl,rfl,hc,q⟩:=h;obtain⟨t,rfl⟩:=rx;obtain⟨t',rfl⟩:=ry;exact rule i j t t' s _ _ hc ⟨.int (g i j),H,I.tok _,⟨_,rfl⟩,q⟩
theorem BS{f:Value->Value->Sem Value}{g:Int->Int->Int}
  (rule:∀(i j:Int)(t u:Tok)(s:Shared)(Q:Value->Shared->Prop)(E:Value->Shared->Prop),Q (.int (g i j) s.toks) {s with toks:=s.toks+1}->wpAny (model X.prog X.w) X.A (f (.int i t) (.int j u)) Q E s) :
  cg X f (vL fun i j=>.int (g i j)):=by
 intro pins s σ H x y v u Q I rx ry h;obtain⟨i,j,rfl,rfl,q⟩:=h;obtain⟨t,rfl⟩:=rx;obtain⟨t',rfl⟩:=ry;exact rule i j t t' s _ _ ⟨.int (g i j),H,I.tok _,⟨_,rfl⟩,q⟩
theorem vj{f:Value->Value->Sem Value}{g:Int->Int->Bool}
  (rule:∀(i j:Int)(t u:Tok)(s:Shared)(Q:Value->Shared->Prop)(E:Value->Shared->Prop),Q (.bool (g i j)) s->wpAny (model X.prog X.w) X.A (f (.int i t) (.int j u)) Q E s) :
  cg X f (vL fun i j=>.bl (g i j)):=by
 intro pins s σ H x y v u Q I rx ry h;obtain⟨i,j,rfl,rfl,q⟩:=h;obtain⟨t,rfl⟩:=rx;obtain⟨t',rfl⟩:=ry;exact rule i j t t' s _ _ ⟨.bl (g i j),H,I,rfl,q⟩
noncomputable def CPow(i j:Int):Prop:=0<=j/\j<=1000000/\i.natAbs<2^64
noncomputable def AW(i j:Int):Prop:=(-(2^64)<i/\i<2^64)\/(-(2^64)<j/\j<2^64)
theorem AW.ok{i j:Int}(h:AW i j):IntMulOk i j:=by
 rcases h with⟨h1,h2⟩|⟨h1,h2⟩
 ·exact .of_left (intBits_le_64 h1 h2)
 ·exact .of_right (intBits_le_64 h1 h2)
theorem yp:cg X (binaryOp .Add) (vL fun i j=>.int (i+j)):=BS fun _ _ _ _ _ _ _ q=>add_int q
theorem yf:cg X (binaryOp .Sub) (vL fun i j=>.int (i-j)):=BS fun _ _ _ _ _ _ _ q=>sub_int q
theorem yi:cg X (binaryOp .Mult) (rI AW fun i j=>.int (i*j)):=BU fun _ _ _ _ _ _ _ hc q=>mul_int q hc.ok
theorem yj:cg X (binaryOp .Mod) (rI (fun _ j=>0<j) fun i j=>.int (i%j)):=BU fun i j _ _ _ _ _ hc q=>by
 have h1:(0:Int)<j:=hc;exact mod_int' (by omega) (by rw[Int.fmod_eq_emod_of_nonneg i (by omega)];exact q)
theorem yg:cg X (binaryOp .LShift) (rI CPow fun i j=>.int (i*2^j.toNat)):=BU fun _ _ _ _ _ _ _ hc q=>lshift_int_small hc.1 hc.2.1 hc.2.2 q
theorem unI{f:Value->Sem Value}{g:Int->Int}
  (rule:∀(i:Int)(t:Tok)(s:Shared)(Q:Value->Shared->Prop)(E:Value->Shared->Prop),Q (.int (g i) s.toks) {s with toks:=s.toks+1}->wpAny (model X.prog X.w) X.A (f (.int i t)) Q E s) :
  UnR X f (rU fun i=>.int (g i)):=by
 intro pins s σ H x v Q I rx h;obtain⟨i,rfl,q⟩:=h;obtain⟨t,rfl⟩:=rx;exact rule i t s _ _ ⟨.int (g i),H,I.tok _,⟨_,rfl⟩,q⟩
theorem xr:UnR X (unaryOp .USub) (rU fun i=>.int (-i)):=unI fun _ _ _ _ _ q=>neg_int q
end
noncomputable def yO:V->V->Bool
 | .non,.non=>true| .non,.int _=>true| .int _,.non=>true| .non,.bl _=>true| .bl _,.non=>true| .non,.str _=>true| .str _,.non=>true
 | .int _,.int _=>true| .bl _,.bl _=>true| .str _,.str _=>true| .byt _,.byt _=>true
 | .int _,.str _=>true| .str _,.int _=>true| .bl _,.str _=>true| .str _,.bl _=>true
 | _,_=>false
noncomputable def rEq:R2:=fun x y H Q=>yO x y=true/\Q (.bl (decide (x=y))) H
noncomputable def rNe:R2:=fun x y H Q=>yO x y=true/\Q (.bl (!decide (x=y))) H
theorem oU{i j:Int}:decide (V.int i=V.int j)=(i==j):=by
 rw[D9];simp
theorem tZ{i j:Bool}:decide (V.bl i=V.bl j)=(i==j):=by
 rw[D9];simp
theorem oS{i j:Str}:decide (V.str i=V.str j)=(i==j):=by
 rw[D9];simp
theorem oV{i j:Array UInt8}:decide (V.byt i=V.byt j)=(i.toList==j.toList):=by
 rw[D9];cases i;cases j;simp
section
variable{X:Cx}{a b c:Expr}{ta tb tc:TE}{pos:Pos}
theorem aR{pins:List (Addr×Obj)}{σ:St}{H:Hp}{s:Shared}{Q:VK}{k k' :Bool}(I:Inv X pins σ H s)(q:Q (.bl k) H)(e:k=k'):EP X pins σ Q (.bool k') s:=by
 subst e;exact⟨.bl k,H,I,rfl,q⟩
theorem BR:cg X (compareOp .Eq) rEq:=by
 intro pins s σ H x y v u Q I rx ry h;obtain⟨hs,q⟩:=h;cases x with
 | non =>
  cases rx;cases y with
  | non=>cases ry;exact PySem.EqNone.eq_none_none (aR I q (by simp))
  | bl j=>cases ry;exact PySem.EqNone.eq_none_bool (aR I q (by simp))
  | int j=>obtain⟨t',rfl⟩:=ry;exact PySem.EqNone.eq_none_int (aR I q (by simp))
  | str j=>obtain⟨t',rfl⟩:=ry;exact PySem.EqNone.eq_none_str (aR I q (by simp))
  | _=>exact absurd (show false=true from hs) Cg
 | bl i =>
  cases rx;cases y with
  | non=>cases ry;exact PySem.EqNone.eq_bool_none (aR I q (by simp))
  | bl j=>cases ry;exact eq_bool (aR I q tZ)
  | str j=>obtain⟨t',rfl⟩:=ry;exact PySem.EqMixed.eq_bool_str (aR I q (by simp))
  | _=>exact absurd (show false=true from hs) Cg
 | int i =>
  obtain⟨t,rfl⟩:=rx;cases y with
  | non=>cases ry;exact PySem.EqNone.eq_int_none (aR I q (by simp))
  | int j=>obtain⟨t',rfl⟩:=ry;exact eq_int (aR I q oU)
  | str j=>obtain⟨t',rfl⟩:=ry;exact PySem.EqMixed.eq_int_str (aR I q (by simp))
  | _=>exact absurd (show false=true from hs) Cg
 | str i =>
  obtain⟨t,rfl⟩:=rx;cases y with
  | non=>cases ry;exact PySem.EqNone.eq_str_none (aR I q (by simp))
  | bl j=>cases ry;exact PySem.EqMixed.eq_str_bool (aR I q (by simp))
  | int j=>obtain⟨t',rfl⟩:=ry;exact PySem.EqMixed.eq_str_int (aR I q (by simp))
  | str j=>obtain⟨t',rfl⟩:=ry;exact eq_str (aR I q oS)
  | _=>exact absurd (show false=true from hs) Cg
 | byt i =>
  obtain⟨t,rfl⟩:=rx;cases y with
  | byt j=>obtain⟨t',rfl⟩:=ry;exact W.eq_bytes (aR I q oV)
  | _=>exact absurd (show false=true from hs) Cg
 | _=>cases y<;>exact absurd (show false=true from hs) Cg
theorem BM:cg X (compareOp .NotEq) rNe:=by
 intro pins s σ H x y v u Q I rx ry h;obtain⟨hs,q⟩:=h;cases x with
 | non =>
  cases rx;cases y with
  | non=>cases ry;exact PySem.EqNone.ne_none_none (aR I q (by simp))
  | bl j=>cases ry;exact PySem.EqNone.ne_none_bool (aR I q (by simp))
  | int j=>obtain⟨t',rfl⟩:=ry;exact PySem.EqNone.ne_none_int (aR I q (by simp))
  | str j=>obtain⟨t',rfl⟩:=ry;exact PySem.EqNone.ne_none_str (aR I q (by simp))
  | _=>exact absurd (show false=true from hs) Cg
 | bl i =>
  cases rx;cases y with
  | non=>cases ry;exact PySem.EqNone.ne_bool_none (aR I q (by simp))
  | bl j=>cases ry;exact ne_bool (aR I q (DT not tZ))
  | str j=>obtain⟨t',rfl⟩:=ry;exact PySem.EqMixed.ne_bool_str (aR I q (by simp))
  | _=>exact absurd (show false=true from hs) Cg
 | int i =>
  obtain⟨t,rfl⟩:=rx;cases y with
  | non=>cases ry;exact PySem.EqNone.ne_int_none (aR I q (by simp))
  | int j=>obtain⟨t',rfl⟩:=ry;exact ne_int (aR I q (DT not oU))
  | str j=>obtain⟨t',rfl⟩:=ry;exact PySem.EqMixed.ne_int_str (aR I q (by simp))
  | _=>exact absurd (show false=true from hs) Cg
 | str i =>
  obtain⟨t,rfl⟩:=rx;cases y with
  | non=>cases ry;exact PySem.EqNone.ne_str_none (aR I q (by simp))
  | bl j=>cases ry;exact PySem.EqMixed.ne_str_bool (aR I q (by simp))
  | int j=>obtain⟨t',rfl⟩:=ry;exact PySem.EqMixed.ne_str_int (aR I q (by simp))
  | str j=>obtain⟨t',rfl⟩:=ry;exact ne_str (aR I q (DT not oS))
  | _=>exact absurd (show false=true from hs) Cg
 | byt i =>
  obtain⟨t,rfl⟩:=rx;cases y with
  | byt j=>obtain⟨t',rfl⟩:=ry;exact W.ne_bytes (aR I q (DT not oV))
  | _=>exact absurd (show false=true from hs) Cg
 | _=>cases y<;>exact absurd (show false=true from hs) Cg
theorem BN:cg X (compareOp .Lt) (vL fun i j=>.bl (decide (i<j))):=vj fun _ _ _ _ _ _ _ q=>lt_int q
theorem BO:cg X (compareOp .LtE) (vL fun i j=>.bl (decide (i<=j))):=vj fun _ _ _ _ _ _ _ q=>le_int q
theorem BP:cg X (compareOp .Gt) (vL fun i j=>.bl (decide (j<i))):=vj fun _ _ _ _ _ _ _ q=>gt_int q
theorem BQ:cg X (compareOp .GtE) (vL fun i j=>.bl (decide (j<=i))):=vj fun _ _ _ _ _ _ _ q=>ge_int q
theorem sF:cg X (compareOp .Is) (fun x y H Q=>y=.non/\Q (.bl (decide (x=.non))) H):=by
 intro pins s σ H x y v u Q I rx ry h;obtain⟨rfl,q⟩:=h;cases ry;refine is_none_gen (aR I q ?_)
 cases x<;>first
  | (cases rx;rfl)
  | (obtain⟨t,rfl⟩:=rx;rfl)
theorem nz:cg X (compareOp .IsNot) (fun x y H Q=>y=.non/\Q (.bl (!decide (x=.non))) H):=by
 intro pins s σ H x y v u Q I rx ry h;obtain⟨rfl,q⟩:=h;cases ry;refine isnot_none_gen (aR I q ?_)
 cases x<;>first
  | (cases rx;rfl)
  | (obtain⟨t,rfl⟩:=rx;rfl)
noncomputable def isObj:HO->Bool
 | .lst _=>true
 | .ins _ _ _=>true
 | _=>false
theorem iY{pins:List (Addr×Obj)}{s:Shared}{σ:St}{H:Hp}{a:Addr}{o:HO}(I:Inv X pins σ H s)(h:H a=some o)(p:isObj o=true):∃ob,s.heap.get? a=some ob/\ob.cls≠.type "tuple":=by
 cases o with
 | lst xs =>
  obtain⟨_,its,n,_,e⟩:xs.length<=sizeLine/\∃(its:List Value)(n:Nat),aK xs its/\s.heap.get? a=some {cls:=.type "list",data:=.seq its.toArray n}:=I.hok a _ h;exact⟨_,e,(by show Value.type "list"≠.type "tuple";decide +kernel)⟩
 | ins C dx fs =>
  have x:=I.hok a _ h;obtain⟨_,_,_,e,_⟩:=x;exact⟨_,e,(by show Value.ref C≠.type "tuple";exact fun z=>by cases z)⟩
 | _=>exact absurd (show false=true from p) Cg
theorem yx(b:Expr){op:CmpOp}(h:op≠.In:=by decide)(h2:op≠.NotIn:=by decide):behindInMarks op b=false:=by
 have e1:(op==CmpOp.In)=false:=by cases op<;>first|rfl|exact absurd rfl h
 have e2:(op==CmpOp.NotIn)=false:=by cases op<;>first|rfl|exact absurd rfl h2
 cases b<;>simp[behindInMarks,e1,e2]
theorem vc{op:CmpOp}{r:R2}(ho:cg X (compareOp op) r)(ha:PE X a ta)(hb:PE X b tb)(hm:behindInMarks op b=false):PE X (.Compare a [op] [b] pos) (tOp r ta tb):=by
 intro pins s σ H Q I h;exact wpAny_Compare1 (AA ha hb I h fun v u s2 x y H2 I2 rx ry q=>ho pins s2 σ H2 x y v u Q I2 rx ry q) hm
noncomputable def An(t:TE):TT:=fun σ H Q=>t σ H fun x H' =>∃k,x=.bl k/\Q k H'
theorem ni{op:CmpOp}{r:R2}(ho:cg X (compareOp op) r)(ha:PE X a ta)(hb:PE X b tb)(hm:behindInMarks op b=false):PT X (.Compare a [op] [b] pos) (An (tOp r ta tb)):=by
 intro pins s σ H Q I h
 refine wpAny_isTrue_Compare1 (af (ha pins s σ H _ I h) fun v s1 ⟨x,H1,I1,r1,q1⟩=>af (hb pins s1 σ H1 _ I1 q1) fun u s2 ⟨y,H2,I2,r2,q2⟩ =>
  af (ho pins s2 σ H2 x y v u _ I2 r1 r2 q2) fun c s3 ⟨z,H3,I3,r3,k,e,q3⟩=> ?_) hm
 subst e;cases r3;exact Dc ⟨H3,I3,q3⟩
noncomputable def AO(K:W.Frag)(x:V)(H:Hp)(k:Bool):Prop :=
 match x with
 | .non=>k=false
 | .bl b=>k=b
 | .int i=>k=(i !=0)
 | .str y=>y.length<=sizeLine/\k=((y.length:Int) !=0)
 | .byt y=>y.size<=sizeLine/\k=((y.size:Int) !=0)
 | .ref p=>(∃xs,ar K H p xs/\k= !xs.isEmpty)\/(∃xs,bL K H p xs/\k= !xs.isEmpty)\/∃kvs,H p=some (.dK kvs)/\k= !kvs.isEmpty
 | _=>False
theorem mj{κ:Type}{kvs:List (κ×V)}{vs:List (κ×Value)}(r:KV kvs vs):(!vs.isEmpty)= !kvs.isEmpty:=by
 cases r<;>rfl
theorem gf{xs:List V}{its:List Value}(r:aK xs its):(!its.toArray.isEmpty)= !xs.isEmpty:=by
 cases r<;>simp
theorem eZ:(sizeLine:Nat)<2^63:=by rw[DN];decide
theorem xx:TruR X (fun x H Q=>∃k,AO X.K x H k/\Q k H):=by
 intro pins s σ H x v Q I rx h;obtain⟨k,e,q⟩:=h;have hl:=eZ;have hs:sizeLine=16777216:=DN;cases x with
 | non =>
  cases rx;have e' :k=false:=e;subst e';exact truthy_none ⟨H,I,q⟩
 | bl b =>
  cases rx;have e' :k=b:=e;subst e';exact Dc ⟨H,I,q⟩
 | int i =>
  obtain⟨t,rfl⟩:=rx;have e' :k=(i !=0):=e;subst e';exact PySem.P.truthy_int ⟨H,I,q⟩
 | str y =>
  obtain⟨t,rfl⟩:=rx;obtain⟨hy,e'⟩:y.length<=sizeLine/\k=((y.length:Int) !=0):=e;subst e';exact PySem.P.truthy_str (by omega) ⟨H,I.tok _,q⟩
 | byt y =>
  obtain⟨t,rfl⟩:=rx;obtain⟨hy,e'⟩:y.size<=sizeLine/\k=((y.size:Int) !=0):=e;subst e';exact W.truthy_bytes (by omega) ⟨H,I.tok _,q⟩
 | ref p =>
  cases rx;have e' :(∃xs,ar X.K H p xs/\k= !xs.isEmpty)\/(∃xs,bL X.K H p xs/\k= !xs.isEmpty)\/∃kvs,H p=some (.dK kvs)/\k= !kvs.isEmpty:=e
  rcases e' with⟨xs,hx,e'⟩|⟨xs,hx,e'⟩|⟨kvs,hx,e'⟩
  ·subst e'
   obtain⟨its,r,pl,hz⟩:=I.list hx;have hlen:=r.length;exact wpAny_truthy_list pl.isList (by simp only[Cb];omega) ⟨H,I.tok _,by rw[gf r];exact q⟩
  ·subst e'
   obtain⟨its,r,pl,hz⟩:=I.tuple hx;have hlen:=r.length;exact truthy_tuple pl (by simp only[Cb];omega) ⟨H,I.tok _,by rw[gf r];exact q⟩
  ·subst e'
   obtain⟨hz,hS,vs,r,m⟩:kvs.length<=sizeLine/\(p==sysModules)=false/\∃vs,KV kvs vs/\s.heap.DictOf (ah X.prog X.w) p vs:=I.hok p _ hx;have hlen:kvs.length=vs.length:=Paired.length r;exact wpAny_truthy_dict hS m (by omega) ⟨H,I.tok _,by rw[mj r];exact q⟩
 | _=>exact(show False from e).elim
theorem rL(ha:PE X a ta)(he:∀whole,isTrue a X.env whole=(do let v<-whole;standAt a.pos;holding [v] (truthy v))) :
  PT X a (fun σ H Q=>ta σ H fun x H' =>∃k,AO X.K x H' k/\Q k H'):=by
 intro pins s σ H Q I h;exact isTrue_plain (af (ha pins s σ H _ I h) fun v s1 ⟨x,H1,I1,r1,q1⟩=>xx pins s1 σ H1 x v Q I1 r1 q1) (he _)
theorem mT:cg X (binaryOp .Add) (fun x y H Q=>∃i j,x=.str i/\y=.str j/\i.length+j.length<=sizeLine/\Q (.str (i++j)) H):=by
 intro pins s σ H x y v u Q I rx ry h;obtain⟨i,j,rfl,rfl,hz,q⟩:=h;obtain⟨t,rfl⟩:=rx;obtain⟨t',rfl⟩:=ry;exact add_str (fun t' tk=>⟨.str (i++j),H,I.tok _,⟨_,rfl⟩,q⟩) hz
theorem vals1{x:V}{us:List Value}(r:aK [x] us):∃u,us=[u]/\RelV x u:=by
 cases r with
 | cons r1 r2=>cases r2;exact⟨_,rfl,r1⟩
theorem vals2{x y:V}{us:List Value}(r:aK [x,y] us):∃u w',us=[u,w']/\RelV x u/\RelV y w' :=by
 cases r with
 | cons r1 r2 =>
  cases r2 with
  | cons r3 r4=>cases r4;exact⟨_,_,rfl,r1,r3⟩
theorem pi(hc:X.calm=true):bA X (.builtin "max") (fun xs H Q=>∃i j,xs=[.int i,.int j]/\Q (.int (if j>i then j else i)) H):=by
 intro pins s σ H xs us Q I r h;obtain⟨i,j,rfl,q⟩:=h;obtain⟨u,w',rfl,⟨t,rfl⟩,⟨t',rfl⟩⟩:=vals2 r;refine max_two_ints (I.ok.hd hc) fun h' tk k=>⟨_,H,I.kept k,?_,q⟩
 by_cases hj:j>i
 ·rw[Cd hj,Cd hj];exact⟨_,rfl⟩
 ·rw[Ci hj,Ci hj];exact⟨_,rfl⟩
theorem pf(hc:X.calm=true):bA X (.builtin "min") (fun xs H Q=>∃i j,xs=[.int i,.int j]/\Q (.int (if j<i then j else i)) H):=by
 intro pins s σ H xs us Q I r h;obtain⟨i,j,rfl,q⟩:=h;obtain⟨u,w',rfl,⟨t,rfl⟩,⟨t',rfl⟩⟩:=vals2 r;refine min_two_ints (I.ok.hd hc) fun h' tk k=>⟨_,H,I.kept k,?_,q⟩
 by_cases hj:j<i
 ·rw[Cd hj,Cd hj];exact⟨_,rfl⟩
 ·rw[Ci hj,Ci hj];exact⟨_,rfl⟩
theorem io:bA X (.type "int") (fun xs H Q=>(∃i,xs=[.int i]/\Q (.int i) H)\/∃k,xs=[.bl k]/\Q (.int (if k then 1 else 0)) H):=by
 intro pins s σ H xs us Q I r h
 rcases h with⟨i,rfl,q⟩|⟨k,rfl,q⟩
 ·obtain⟨u,rfl,t,rfl⟩:=vals1 r
  exact call_int_int ⟨.int i,H,I,⟨_,rfl⟩,q⟩
 ·obtain⟨u,rfl,r1⟩:=vals1 r
  cases r1;exact call_int_bool ⟨.int (if k then 1 else 0),H,I.tok _,⟨_,rfl⟩,q⟩
end
structure AT(h:Heap)(x dx C:Addr)(mA:Str->Option Value):Prop where
 obj:h.get? x=some (W.instObj C dx)
 ns:h.Ns1 dx mA
 ne:dx≠x
theorem eX{h:Heap}{dx:Addr}{mA:Str->Option Value}(n:h.Ns1 dx mA):∃od,h.get? dx=some od/\∀name,W.lookIn name od=some (mA name):=by
 obtain⟨o,es,ep,ho,hd,hk,_,hm⟩:=n;refine⟨o,ho,fun name=> ?_⟩;have e:=hm name;unfold nsFind findBy at e;rw[<- Array.find?_toList]at e;unfold W.lookIn;rw[hd];dsimp only
 split
 ·rename_i y q
  rw[q]at e;exact DT some e
 ·rename_i q
  rw[q]at e;have a:es.toList.any (·.refKey)=false:=by
   rw[List.any_eq_false];intro y hy;obtain⟨z,t,hkey⟩:=hk y (Array.mem_toList_iff.mp hy);simp[DictEntry.refKey,hkey]
  have a' :¬es.toList.any (·.refKey)=true:=by rw[a];exact Cg
  rw[Ci a'];exact DT some e
theorem AT.look{h:Heap}{x dx C:Addr}{mA:Str->Option Value}(I:AT h x dx C mA):∃od,W.InstAt h x (W.instObj C dx) C (some od)/\∀name,W.lookIn name od=some (mA name) :=
 let⟨od,ho,hl⟩:=eX I.ns
 ⟨od,⟨I.obj,rfl,rfl,ho⟩,hl⟩
section
variable{prog:Program}{w:World}{A:Around}{E:Value->Shared->Prop}{s:Shared}{K:W.Frag}{x dx C f:Addr}{mA:Str->Option Value}{name:Str}{v:Value}
end
theorem df.some_of{v:V}{o:Option Value}(r:df (some v) o):∃u,o=some u/\RelV v u:=by
 cases o with
 | none=>exact(show False from r).elim
 | some u=>exact⟨u,rfl,r⟩
theorem pU{v:V}{u:Value}(r:RelV v u):W.handedIn u=true:=by
 cases v with
 | non=>cases(show u=Value.none from r);rfl
 | bl b=>cases(show u=Value.bool b from r);rfl
 | int i=>obtain⟨t,e⟩:=(show∃t,u=Value.int i t from r);cases e;rfl
 | str x=>obtain⟨t,e⟩:=(show∃t,u=Value.str x t from r);cases e;rfl
 | byt b=>obtain⟨t,e⟩:=(show∃t,u=Value.bytes b t from r);cases e;rfl
 | flt b=>obtain⟨t,e⟩:=(show∃t,u=Value.float b t from r);cases e;rfl
 | ref a=>cases(show u=Value.ref a from r);rfl
 | ty n=>cases(show u=Value.type n from r);rfl
section
variable{P:Program}{w:World}{H H' :Hp}{h h' :Heap}{a C dx:Addr}{fs fs' :List (Str×V)}
theorem wC(hok:bi P w H h)(e:H a=some (.ins C dx fs)):∃mA,AT h a dx C mA/\(∀f,df (fs.lookup f) (mA f))/\PySem.Within mA (fs.map (·.1))/\fs.length<=1000/\H dx=some (.own a):=by
 obtain⟨d,z,ne,ob,mA,n,r,q⟩:=(show aa P w H h a (.ins C dx fs)from hok a _ e);exact⟨mA,⟨ob,n,ne⟩,r,q,z,d⟩
end
structure Cls(K:W.Frag)(C:Addr):Prop where
 pg:W.plainGet K C Str.empty=true
 hd:W.hasDictIn K C=true
 po:W.plainOver K C=true
 sa:W.findIn K (.ref C) "__setattr__"=some (some (.builtin "object.__setattr__"))
theorem Cls.get{K:W.Frag}{C:Addr}(c:Cls K C)(f:Str):W.plainGet K C f=true:=c.pg
section
variable{X:Cx}{pins:List (Addr×Obj)}{σ:St}{H:Hp}{s:Shared}{a C dx:Addr}{fs:List (Str×V)}{f:Str}{v:V}{A:Around}{E:Value->Shared->Prop}
theorem ww{prog:Program}{w:World}{env:Env}{e:Expr}{f:Str}{pos:Pos}{s:Shared}{Q:Value->Shared->Prop}(hb:attributeBase e f env (eval e env)=eval e env)
  (h:wpAny (model prog w) A (eval e env) (fun o s₁=>wpAny (model prog w) A (getAttr o f true) Q E s₁) E s):wpAny (model prog w) A (eval (.Attribute e f pos) env) Q E s :=
 Attribute_any_ h (by rw[arm_eval_Attribute,hb])
end
section
variable{X:Cx}{o e value:Expr}{f:Str}{pos pos' tpos:Pos}{ta tv:TE}
end
section
variable{X:Cx}{pins:List (Addr×Obj)}{σ:St}{H:Hp}{s:Shared}{A:Around}{E:Value->Shared->Prop}{Q:Value->Shared->Prop}{c:Value}{b:Bool}
inductive fD(K:W.Frag)(H:Hp):V->Value->Prop where
 | non:fD K H .non (.type "NoneType")
 | bl (x:Bool):fD K H (.bl x) (.type "bool")
 | int (i:Int):fD K H (.int i) (.type "int")
 | str (x:Str):fD K H (.str x) (.type "str")
 | flt (x:UInt64):fD K H (.flt x) (.type "float")
 | lst {a:Addr} {xs:List V} (e:H a=some (.lst xs)):fD K H (.ref a) (.type "list")
 | frz {a:Addr} {o:Obj} {xs:List V} (e:H a=some (.frz o (.lst xs))):fD K H (.ref a) (.type "list")
 | tup {a:Addr} {xs:List V} (e:H a=some (.tup xs)):fD K H (.ref a) (.type "tuple")
 | dK {a:Addr} {kvs:List (aq×V)} (e:H a=some (.dK kvs)):fD K H (.ref a) (.type "dict")
 | dT {a:Addr} {kvs:List (List aq×V)} (e:H a=some (.dT kvs)):fD K H (.ref a) (.type "dict")
 | ins {a C dx:Addr} {fs:List (Str×V)} (e:H a=some (.ins C dx fs)) (cl:Cls K C) (ha:W.findIn K (.ref C) "__class__"=some (some (.builtin "object.__class__")))
   (hn:W.specialIn K (.builtin "object.__class__") "__get__"=some (some (.builtin "getset_descriptor.__get__"))) (htk:W.takesIn K (.builtin "object.__class__")=some true)
   (hm:W.mroIn K C (.type "object")=some true):fD K H (.ref a) (.ref C)
theorem pR{x:V}{u t:Value}(I:Inv X pins σ H s)(rx:RelV x u)(ty:fD X.K H x t)(e:W.kitOne X.K t c=some b)(h:∀tk,Q (.bool b) {s with toks:=tk}) :
  wpAny (model X.prog X.w) A (call (.builtin "isinstance") [u,c]) Q E s:=by
 cases ty with
 | non=>cases(show u=Value.none from rx);exact Dt W.kitx_none I.kIn True.intro e (fun z=>nomatch z) h
 | bl y=>cases(show u=Value.bool y from rx);exact Dt W.kitx_bool I.kIn True.intro e (fun z=>nomatch z) h
 | int i=>obtain⟨t,q⟩:=(show∃t,u=Value.int i t from rx);cases q;exact Dt W.kitx_int I.kIn True.intro e (fun z=>nomatch z) h
 | str y=>obtain⟨t,q⟩:=(show∃t,u=Value.str y t from rx);cases q;exact Dt W.kitx_str I.kIn True.intro e (fun z=>nomatch z) h
 | flt y=>obtain⟨t,q⟩:=(show∃t,u=Value.float y t from rx);cases q;exact Dt W.kitx_float I.kIn True.intro e (fun z=>nomatch z) h
 | @lst a xs ea =>
  cases(show u=Value.ref a from rx);obtain⟨_,_,n,_,h1⟩:=(show aa X.prog X.w H s.heap a (.lst xs)from I.hok a _ ea);exact Dt W.kitx_list I.kIn ⟨_,h1,rfl⟩ e (fun z=>nomatch z) h
 | @frz a ob xs ea =>
  cases(show u=Value.ref a from rx);obtain⟨_,_,_,n,_,h1⟩:=(show aa X.prog X.w H s.heap a (.frz ob (.lst xs))from I.hok a _ ea);exact Dt W.kitx_list I.kIn ⟨_,h1,rfl⟩ e (fun z=>nomatch z) h
 | @tup a xs ea =>
  cases(show u=Value.ref a from rx);obtain⟨_,_,_,p⟩:=(show aa X.prog X.w H s.heap a (.tup xs)from I.hok a _ ea);obtain⟨o,h1,h2,_⟩:=p;exact Dt W.kitx_tuple I.kIn ⟨o,h1,h2⟩ e (fun z=>nomatch z) h
 | @dK a kvs ea =>
  cases(show u=Value.ref a from rx);obtain⟨_,_,vs,_,p⟩:=(show aa X.prog X.w H s.heap a (.dK kvs)from I.hok a _ ea);obtain⟨o,es,ep,h1,h2,_⟩:=p;exact Dt W.kitx_dict I.kIn ⟨o,h1,h2.1⟩ e (fun z=>nomatch z) h
 | @dT a kvs ea =>
  cases(show u=Value.ref a from rx);obtain⟨_,_,xs,_,o,es,ep,h1,h2,_⟩:=(show aa X.prog X.w H s.heap a (.dT kvs)from I.hok a _ ea);exact Dt W.kitx_dict I.kIn ⟨o,h1,h2.1⟩ e (fun z=>nomatch z) h
 | @ins a C dx fs ea cl ha hn htk hm =>
  cases(show u=Value.ref a from rx);obtain⟨mA,O,_⟩:=wC I.hok ea;obtain⟨od,J,_⟩:=O.look;exact Dt (W.kitx_own (cl.get _) cl.hd ha hn htk hm) I.kIn J e (fun z=>nomatch z) h
end
structure bO(k:Nat)(A:Around):Prop where
 hd:A.handled=none
 dp:A.depth+3*k+5<recursionLimit
 un:A.units+16*k+200<cLine
theorem bO.mono{j k:Nat}{A:Around}(r:bO k A)(h:j<=k):bO j A:=⟨r.hd,by have:=r.dp;omega,by have:=r.un;omega⟩
theorem bO.deeper{k:Nat}{A:Around}(r:bO (k+1) A)(env:Env):bO k (A.deeper env) :=
 ⟨r.hd,by have:=r.dp;show A.depth+1+3*k+5<_;omega,by have:=r.un;show A.units+3+16*k+200<_;omega⟩
theorem md{A:Around}{C:Addr}{us:List Value}{kw:List (Str×Value)}:(A.under (.builtin "type.__call__" ⟨.ref C::us,kw⟩)).depth=A.depth+1:=by
 first|rfl|simp[Around.under,Code.weight,Code.isCreation,Code.isGuard,Code.isCaller,Code.frames,Code.isFrame,guardIds]
theorem ma{A:Around}{C:Addr}{us:List Value}{kw:List (Str×Value)}:(A.under (.builtin "type.__call__" ⟨.ref C::us,kw⟩)).units=A.units+1:=by
 first|rfl|simp[Around.under,Code.cUnits,Code.frames,Code.isFrame]
theorem bO.make{k:Nat}{A:Around}(r:bO (k+1) A)(C:Addr)(us:List Value)(kw:List (Str×Value)):bO k (A.under (.builtin "type.__call__" ⟨.ref C::us,kw⟩)) :=
 ⟨r.hd,by have:=r.dp;rw[md];omega,by have:=r.un;rw[ma];omega⟩
theorem bO.depth{k:Nat}{A:Around}(r:bO k A):A.depth<recursionLimit:=by have:=r.dp;omega
theorem bO.units{k:Nat}{A:Around}(r:bO k A):A.units+64<cLine:=by have:=r.un;omega
noncomputable def tNil:TA:=fun _ H Q=>Q [] H
noncomputable def Ay(ta:TE)(tr:TA):TA:=fun σ H Q=>ta σ H fun x H1=>tr σ H1 fun xs H2=>Q (x::xs) H2
section
variable{X:Cx}{e:Expr}{es:List Expr}{te:TE}{t:TA}{pos:Pos}
theorem aS:PA X [] tNil:=fun _ _ _ _ H Q I h=>Calls.spliced_nil ⟨[],H,I,.nil,h⟩
theorem aB(ha:PE X e te)(hr:PA X es t)(hs:starEach (e::es) X.env=(false,eval e X.env)::starEach es X.env:=by rfl):PA X (e::es) (Ay te t):=by
 intro pos pins s σ H Q I h;rw[hs];show wpAny _ _ (spliced ((false,eval e X.env)::backTo pos (starEach es X.env))) _ _ s;refine Calls.spliced_cons (af (ha pins s σ H _ I h) fun u s1 hpq=> ?_);obtain⟨x,H1,I1,r1,q1⟩:=hpq;exact af (hr pos pins s1 σ H1 _ I1 q1) fun us s2 ⟨xs,H2,I2,r2,q2⟩=>⟨x::xs,H2,I2,.cons r1 r2,q2⟩
noncomputable def tTup(t:TA):TE:=fun σ H Q=>t σ H fun xs H1=>xs.length<=sizeLine/\∀p,H1 p=none->Q (.ref p) (upd H1 p (.tup xs))
noncomputable def tLst(t:TA):TE:=fun σ H Q=>t σ H fun xs H1=>xs.length<=sizeLine/\∀p,H1 p=none->Q (.ref p) (upd H1 p (.lst xs))
theorem yb{x1}(h:PA X es t):PE X (.Tuple es x1 pos) (tTup t):=by
 intro pins s σ H Q I hq;refine wpAny_Tuple_spliced (af (h pos pins s σ H _ I hq) fun us s1 ⟨xs,H1,I1,r,z,q⟩=>⟨by rw[<- r.length];exact z,?_⟩);have hf:H1 s1.heap.objs.size=none:=I1.hok.fresh (Ca _);refine⟨.ref s1.heap.objs.size,upd H1 s1.heap.objs.size (.tup xs),I1.laid (t' :=s1.toks) (fun b u e=>CV _ e) (Ca _) ?_,rfl,q _ hf⟩;exact⟨z,us,r,⟨_,Cs _ rfl,rfl,_,rfl,rfl⟩⟩
theorem gW(h:PA X es t):PE X (.List es pos) (tLst t):=by
 intro pins s σ H Q I hq;refine wpAny_List_spliced (af (h pos pins s σ H _ I hq) fun us s1 ⟨xs,H1,I1,r,z,q⟩=>⟨by rw[<- r.length];exact z,?_⟩);have hf:H1 s1.heap.objs.size=none:=I1.hok.fresh (Ca _);refine⟨.ref s1.heap.objs.size,upd H1 s1.heap.objs.size (.lst xs),I1.laid (t' :=s1.toks) (fun b u e=>CV _ e) (Ca _) ?_,rfl,q _ hf⟩;exact⟨z,us,0,r,Cs _ rfl⟩
end
noncomputable abbrev Sp:=List V->Hp->VK->XK->Prop
noncomputable abbrev lg:=List Env->Hp->Shared->XK->Value->Shared->Prop
structure nV(P:Program)(w:World)(K:W.Frag)(mg:Str->Option Value)(base:Heap)(A:Around)(outer:List Env)(s:Shared)(H:Hp):Prop where
 frames:A.frames=some outer
 mod:Mod K mg base
 bs:∀b o,base.get? b=some o->s.heap.get? b=some o/\H b=none
 bsz:base.objs.size<=s.heap.objs.size
 funs:s.heap.FunFrames base outer
 frf:∀b∈lf outer,H b=none
 hok:bi P w H s.heap
 bare:AllBare s.gens
noncomputable def CE(outer:List Env)(P:Program)(w:World)(H:Hp)(s:Shared)(Q:VK)(u:Value)(s' :Shared):Prop :=
 ∃v H',s'.os=s.os/\AllBare s'.gens/\Un (lf outer) [] H H' s.heap s'.heap/\bi P w H' s'.heap/\RelV v u/\Q v H'
noncomputable def CR(CX:lg)(outer:List Env)(P:Program)(w:World)(H:Hp)(s:Shared)(Q:VK)(E:XK)(r:Result)(s' :Shared):Prop :=
 match r with
 | .ok (.ret u)=>CE outer P w H s Q u s'
 | .ok _=>False
 | .error e=>CX outer H s E e s'
structure aj(P:Program)(w:World)(K:W.Frag)(mg:Str->Option Value)(base:Heap)(CX:lg)(k:Nat)(f:Addr)(fd:FuncData)(ps:List Str)(sp:Sp):Prop where
 len:∀vs H Q E,sp vs H Q E->vs.length=ps.length
 run:∀(A:Around)(outer:List Env)(s:Shared)(H:Hp)(args:Args)(us:List Value)(vs:List V)(Q:VK)(E:XK),bO k A->nV P w K mg base A outer s H->BindsTo s fd args (ps.zip us)->aK vs us->sp vs H Q E ->
  codeAny (model P w) A (.call (.ref f) args) (CR CX outer P w H s Q E) s
theorem aj.mono{P:Program}{w:World}{K:W.Frag}{mg:Str->Option Value}{base:Heap}{CX:lg}{j k:Nat}{f:Addr}{fd:FuncData}{ps:List Str}{sp:Sp}(F:aj P w K mg base CX j f fd ps sp)(h:j<=k) :
  aj P w K mg base CX k f fd ps sp:=⟨F.len,fun A outer s H args us vs Q E hr=>F.run A outer s H args us vs Q E (hr.mono h)⟩
theorem aj.imp{P:Program}{w:World}{K:W.Frag}{mg:Str->Option Value}{base:Heap}{CX:lg}{k:Nat}{f:Addr}{fd:FuncData}{ps:List Str}{sp sp' :Sp}(F:aj P w K mg base CX k f fd ps sp)
  (h:∀vs H Q E,sp' vs H Q E->sp vs H Q E):aj P w K mg base CX k f fd ps sp' :=
 ⟨fun vs H Q E q=>F.len vs H Q E (h _ _ _ _ q),fun A outer s H args us vs Q E hr he hb hv hs=>F.run A outer s H args us vs Q E hr he hb hv (h _ _ _ _ hs)⟩
theorem nV.make{P:Program}{w:World}{K:W.Frag}{mg:Str->Option Value}{base:Heap}{A:Around}{outer:List Env}{s:Shared}{H:Hp}(e:nV P w K mg base A outer s H)(C:Addr)(us:List Value)(kw:List (Str×Value)) :
  nV P w K mg base (A.under (.builtin "type.__call__" ⟨.ref C::us,kw⟩)) outer s H:=⟨by first|exact e.frames|(simpa [Around.under,Code.envs,Code.isFrame,pushEnvs]using e.frames),e.mod,e.bs,e.bsz,e.funs,e.frf,e.hok,e.bare⟩
section
variable{X:Cx}{pins:List (Addr×Obj)}{σ:St}{H:Hp}{s s' :Shared}
theorem Inv.env0(I:Inv X pins σ H s):nV X.prog X.w X.K X.mg X.base X.A X.stack s H :=
 ⟨I.ok.frames,I.ok.mod,I.bs,C9 I.ok.bsz I.sz,I.stack,I.stkFree,I.hok,I.bare⟩
theorem Inv.after{Q:VK}{u:Value}(I:Inv X pins σ H s)(h:CE X.stack X.prog X.w H s Q u s'):EP X pins σ Q u s' :=by
 obtain⟨v,H',os,bare,un,hok,r,q⟩:=h;obtain⟨hh,g,d,t,os'⟩:=s';obtain rfl:os' =s.os:=os;exact⟨v,H',I.call (h' :=hh) (g' :=g) (d' :=d) (t' :=t) (ch:=[]) un hok bare (fun b z=>absurd z (by simp)),r,q⟩
end
noncomputable def Az(sp:Sp)(dvs:List V)(E:XK)(t:TA):TE:=fun σ H Q=>t σ H fun vs H1=>sp (vs++dvs) H1 Q E
noncomputable def Binds(K:W.Frag)(fd:FuncData)(ps:List Str)(ds:List Value):Prop :=
 ∀(s:Shared)(us:List Value),K.In s.heap->(us++ds).length=ps.length->BindsTo s fd ⟨us,[]⟩ (ps.zip (us++ds))
theorem Binds.all{K:W.Frag}{fd:FuncData}{ps:List Str}(h:∀us:List Value,us.length=ps.length->bindArgs fd ⟨us,[]⟩=pure (ps.zip us)):Binds K fd ps []:=fun s us _ hl=>by
 rw[Do]at hl ⊢;exact .of_eq (h us hl)
noncomputable def jv(CX:lg)(X:Cx)(E:XK):Prop:=∀(pins:List (Addr×Obj))(σ:St)(H:Hp)(s:Shared)(e:Value)(s' :Shared),Inv X pins σ H s->CX X.stack H s E e s' ->X.xe e s'
section
variable{X:Cx}{CX:lg}{k:Nat}{f C:Addr}{fd:FuncData}{ps:List Str}{sp:Sp}{dvs:List V}{ds:List Value}{E:XK}{x m:Str}{p pos apos:Pos}{e o:Expr}{es:List Expr}{ta:TE}{t:TA}
theorem yQ{pins:List (Addr×Obj)}{σ:St}{H:Hp}{s:Shared}{Q:VK}{us:List Value}{vs:List V}(F:aj X.prog X.w X.K X.mg X.base CX k f fd ps sp)(hr:bO k X.A)(hb:Binds X.K fd ps ds)(hd:aK dvs ds)(hx:jv CX X E)
  (I:Inv X pins σ H s) (r:aK vs us) (h:sp (vs++dvs) H Q E):wpAny (model X.prog X.w) X.A (call (.ref f) us) (EP X pins σ Q) X.xe s:=by
 have r2:aK (vs++dvs) (us++ds):=r.append hd;have hl:(us++ds).length=ps.length:=by rw[<- r2.length];exact F.len _ _ _ _ h
 refine Ev (codeAny_mono (F.run X.A X.stack s H ⟨us,[]⟩ (us++ds) (vs++dvs) Q E hr I.env0 (hb s us I.kIn hl) r2 h) fun r s' hq=> ?_);cases r with
 | error e=>exact hx pins σ H s e s' I hq
 | ok fl =>
  cases fl with
  | ret u=>exact I.after hq
  | next=>exact False.elim hq
  | brk=>exact False.elim hq
  | cont=>exact False.elim hq
theorem cV(F:aj X.prog X.w X.K X.mg X.base CX k f fd ps sp)(hr:bO k X.A)(hg:Gl X x)(hm:X.mg x=some (.ref f))(hk:W.keepIn X.K (.ref f)=true)(hb:Binds X.K fd ps ds)(hd:aK dvs ds)(hx:jv CX X E)
  (ha:PA X (e::es) t) (hdb:(x==("__debug__":Str))=false:=by decide) (he:starEach (e::es) X.env=(false,eval e X.env)::starEach es X.env:=by rfl) (hpl:(backTo pos (starEach es X.env)).any (·.1)=false:=by rfl) :
  PE X (.Call (.Name x p) (e::es) [] pos) (Az sp dvs E t):=by
 intro pins s σ H Q I h;refine EO (eB I hg hm ?_ hdb);refine W.callWith_K (h₀:=X.base) I.ok.mod.kin hk (af (ha pos pins s σ H _ I h) fun us s1 ⟨vs,H1,I1,r,q⟩=>⟨I1.kIn,?_⟩) he hpl;exact yQ F hr hb hd hx I1 r q
end
section
variable{X:Cx}{CX:lg}{k:Nat}{f C:Addr}{fd:FuncData}{ps ks:List Str}{sp:Sp}{E:XK}{x m:Str}{p pos apos kpos:Pos}{e o:Expr}{es:List Expr}{kws:List Keyword}{te ta:TE}{t tk:TA}{nm:Option Str}
variable{g:List Value->List Value->List Value}{gV:List V->List V->List V}
end
structure bH(N P:List Str)(sc:Scope):Prop where
 kind:sc.kind=.function
 co:sc.isCoroutine=false
 gen:sc.isGenerator=false
 nd:N.Nodup
 pre:N.take P.length=P
 par:∀x∈P,sc.names.lookup x=some .local\/sc.names.lookup x=some .cell
 nofree:∀y∈sc.names,y.2≠.free
theorem i5{kindOf:Str->Option NameKind}{x:Str}:∀{binds:List (Str×Value)}{m:Str->Option Value},(∀v,(x,v)∉binds)->bindL kindOf binds m x=m x
 | [],_,_=>rfl
 | (n,v)::r,m,h=>by
  unfold bindL;rw[i5 fun w hw=>h w (Cj _ hw)]
  split
  ·have:x≠n:=by rintro rfl;exact h v Cv
   simp[this]
  ·rfl
theorem i7{kindOf:Str->Option NameKind}{x:Str}:∀{binds:List (Str×Value)}{m:Str->Option Value},(∀v,(x,v)∉binds)->bindC kindOf binds m x=m x
 | [],_,_=>rfl
 | (n,v)::r,m,h=>by
  unfold bindC;rw[i7 fun w hw=>h w (Cj _ hw)]
  split
  ·rfl
  ·have:x≠n:=by rintro rfl;exact h v Cv
   simp[this]
theorem i6{kindOf:Str->Option NameKind}{x:Str}{v:Value}:∀{P:List Str}{vs:List Value}{i:Nat}{m:Str->Option Value},P.Nodup->P[i]? =some x->vs[i]? =some v->kindOf x=some .local ->
  bindL kindOf (P.zip vs) m x=some v
 | [],_,_,_,_,h,_,_=>by simp at h
 | _::_,[],_,_,_,_,h,_=>by simp at h
 | p::P,w::vs,0,m,nd,h1,h2,hk=>by
  simp at h1 h2;subst h1;subst h2;show bindL kindOf ((p,w)::P.zip vs) m p=_;unfold bindL;rw[i5 fun v hv=>(DU.mp nd).1 (List.of_mem_zip hv).1,Cd hk];simp
 | p::P,w::vs,i+1,m,nd,h1,h2,hk=>by
  show bindL kindOf ((p,w)::P.zip vs) m x=_;unfold bindL;exact i6 (i:=i) (DU.mp nd).2 (by simpa using h1) (by simpa using h2) hk
theorem i8{kindOf:Str->Option NameKind}{x:Str}{v:Value}:∀{P:List Str}{vs:List Value}{i:Nat}{m:Str->Option Value},P.Nodup->P[i]? =some x->vs[i]? =some v->kindOf x≠some .local ->
  bindC kindOf (P.zip vs) m x=some v
 | [],_,_,_,_,h,_,_=>by simp at h
 | _::_,[],_,_,_,_,h,_=>by simp at h
 | p::P,w::vs,0,m,nd,h1,h2,hk=>by
  simp at h1 h2;subst h1;subst h2;show bindC kindOf ((p,w)::P.zip vs) m p=_;unfold bindC;rw[i7 fun v hv=>(DU.mp nd).1 (List.of_mem_zip hv).1,Ci hk];simp
 | p::P,w::vs,i+1,m,nd,h1,h2,hk=>by
  show bindC kindOf ((p,w)::P.zip vs) m x=_;unfold bindC;exact i8 (i:=i) (DU.mp nd).2 (by simpa using h1) (by simpa using h2) hk
noncomputable def start(N:List Str)(vs:List V):St:=vs.map some++List.replicate (N.length-vs.length) none
noncomputable def eH(CX:lg)(P:Program)(w:World)(K:W.Frag)(mg:Str->Option Value)(base:Heap)(N:List Str)(qual:Str)(scope:Scope)(f:Addr)(cd:Value)(A:Around)(outer:List Env)(s:Shared)(H:Hp)(E:XK):Cx where
 prog:=P
 w:=w
 K:=K
 mg:=mg
 base:=base
 A:=A.deeper (envOfC qual scope s.heap.objs.size f cd)
 N:=N
 s₀:=s
 H₀:=H
 env:=envOfC qual scope s.heap.objs.size f cd
 outer:=outer
 stack:=envOfC qual scope s.heap.objs.size f cd::outer
 ex:=[]
 calm:=true
 fn:=fun _=>true
 pn:=[]
 xe:=fun e s' =>wpAny (model P w) (A.deeper (envOfC qual scope s.heap.objs.size f cd)) (leaving (envOfC qual scope s.heap.objs.size f cd) e) (fun _ s'' =>CX outer H s E e s'') (fun e' s'' =>CX outer H s E e' s'') s'
theorem lC{sc:Scope}{n:Nat}{x:Str}(h:sc.names.lookup x=some .cell):∃c,(cellsFrom n sc.names []).lookup x=some c:=by
 have q:=W.cellsFrom_some sc.names n [] (.inl h);exact Ds.mp q
theorem pS{CX:lg}{P:Program}{w:World}{K:W.Frag}{mg:Str->Option Value}{base:Heap}{N ps:List Str}{qual:Str}{scope:Scope}{f:Addr}{cd:Value}{A:Around}{outer:List Env}{s s1:Shared}{H:Hp}{E:XK}{us:List Value}{vs:List V}
  (S:bH N ps scope) (hd:A.handled=none) (e0:nV P w K mg base A outer s H) (hl:vs.length=ps.length) (r:aK vs us)
  (x:InCallC s s.heap.objs.size (bindL (envOfC qual scope s.heap.objs.size f cd).kindOf (ps.zip us) fun _=>none) (cellsFrom (s.heap.objs.size+1) scope.names []) (bindC (envOfC qual scope s.heap.objs.size f cd).kindOf (ps.zip us) fun _=>none) s1) :
  Inv (eH CX P w K mg base N qual scope f cd A outer s H E) [] (start N vs) H s1:=by
 have hpl:ps.length<=N.length:=by have:=DT List.length S.pre;rw[Dg]at this;omega
 obtain⟨h1,tk,rfl,hk⟩:=x.done;have noA:∀b:Addr,b∉(eH CX P w K mg base N qual scope f cd A outer s H E).ex:=fun b z=>absurd (show b∈([]:List Addr)from z) (by simp)
 refine⟨⟨e0.mod,S.kind,rfl,rfl,Ca _,fun y z c h1 h2=> ?_,fun y hy=> ?_,fun y c _ h=> ?_,fun _=>hd,Around.frames_deeper e0.frames,.inr ⟨rfl,rfl⟩,fun b z=>absurd z (noA b),e0.bs,e0.bsz,fun b _ _=>noA b,fun b z=>absurd z (noA b),e0.funs,e0.frf⟩,
  rfl,e0.bare,Un.kept hk,⟨_,x.toInCall.ns,fun i y v h1 h2 h3=> ?_⟩,fun y c h=>⟨_,x.cell y c h⟩,e0.hok.fresh (Ca _),fun y c h=> ?_,fun p hp=>absurd (show p∈([]:List (Addr×Obj))from hp) (by simp),e0.hok.kept hk,?_⟩
 ·exact name_of_addr x.apart (C6 h1) (C6 h2)
 ·have hy:scope.names.lookup y=some .cell\/scope.names.lookup y=some .free:=hy
  rcases hy with hy|hy
  ·exact lC hy
  ·exact absurd rfl (S.nofree _ (C6 hy))
 ·exact EE (x.above y c (C6 h))
 ·have hi:i<vs.length:=by
   unfold start at h2
   by_cases hi:i<vs.length
   ·exact hi
   ·rw[List.getElem?_append_right (by simpa using hi)]at h2
    rw[EJ]at h2
    split at h2<;>cases h2
  have ha:vs[i]? =some v:=by
   unfold start at h2;rw[El (by simpa using hi),Cp]at h2;cases e:vs[i]? with
   | none=>rw[e]at h2;cases h2
   | some a=>rw[e]at h2;cases h2;rfl
  obtain⟨u,hu,rv⟩:=r.get ha;have hp:ps[i]? =some y:=by
   rw[<- S.pre,List.getElem?_take_of_lt (by omega)];exact h1
  have ndP:ps.Nodup:=by rw[<- S.pre];exact S.nd.sublist (List.take_sublist _ _)
  refine⟨u,rv,?_⟩
  rcases S.par y (DI hp)with k|k
  ·exact .inl ⟨k,i6 ndP hp hu k⟩
  ·obtain⟨c,e⟩:=lC (n:=s.heap.objs.size+1) k
   refine .inr ⟨.inl k,c,e,?_⟩;have q:=x.cell y c e;rw[i8 ndP hp hu (by show scope.names.lookup y≠_;rw[k];decide)]at q;exact q
 ·exact e0.hok.fresh (EE (x.above y c (C6 h)))
 ·unfold start
  show _=N.length;rw[Cm,CW,DW];omega
theorem oN{CX:lg}{P:Program}{w:World}{K:W.Frag}{mg:Str->Option Value}{base:Heap}{k:Nat}{f:Addr}{name qual:Str}{params:Arguments}{body:List Stmt}{scope:Scope}{dV kV doc pm cdv ct oc:Value}{an od:Option Addr}
  {osl:Array (Option Value)} {N ps:List Str} {sp:Sp} (lk:K.lookup f=some ⟨oc,od,.func (W.fnOf name qual params body scope dV kV doc pm an cdv ct),osl⟩) (hcd:W.codeIn K cdv qual=true) (S:bH N ps scope)
  (len:∀vs H Q E,sp vs H Q E->vs.length=ps.length)
  (hbody:∀(A:Around)(outer:List Env)(s:Shared)(H:Hp)(vs:List V)(Q:VK)(E:XK),bO k (A.deeper (envOfC qual scope s.heap.objs.size f cdv))->sp vs H Q E ->
   ∃t,jz (eH CX P w K mg base N qual scope f cdv A outer s H E) body t/\t {nx:=fun _ H' =>Q .non H',rt:=Q} (start N vs) H) :
  aj P w K mg base CX (k+1) f (W.fnOf name qual params body scope dV kV doc pm an cdv ct) ps sp:=by
 refine⟨len,fun A outer s H args us vs Q E hr e0 hb r hsp=> ?_⟩;have hl:=len _ _ _ _ hsp;have KX:K.In s.heap:=e0.mod.kin.keeps fun b o e=>(e0.bs b o e).1;have lim:s.heap.NoLimit:=e0.mod.nolimit.keeps fun b o e=>(e0.bs b o e).1;have hkind:∀y∈ps.zip us,scope.names.lookup y.1=some .local\/(scope.names.lookup y.1=some .cell/\((cellsFrom (s.heap.objs.size+1) scope.names []).lookup y.1).isSome=true):=fun⟨n,v⟩ hy=>by
  rcases S.par n (List.of_mem_zip hy).1 with q|q
  ·exact .inl q
  ·exact .inr ⟨q,W.cellsFrom_some _ _ _ (.inl q)⟩
 refine codeAny_call_function hr.depth (KX _ _ lk) rfl S.co S.gen rfl (W.codeRec_of KX hcd) (hb _ _ _ _ ?_);refine wpAny_newFunctionEnv_cells S.kind hkind fun env he s1 x=> ?_;subst he;refine⟨lim.keeps x.toInCall.keep,codeAny_func ?_⟩;obtain⟨t,ht,hq⟩:=hbody A outer s H vs Q E (hr.deeper _) hsp;have I:Inv (eH CX P w K mg base N qual scope f cdv A outer s H E) [] (start N vs) H s1:=pS S hr.hd e0 hl r x;refine DS (ht [] s1 (start N vs) H _ I hq) (fun fl s' hs=> ?_) fun e s' hs=>hs
 have fin:∀{σ' :St}{H' :Hp}{v:V}{u:Value},Inv (eH CX P w K mg base N qual scope f cdv A outer s H E) [] σ' H' s' ->RelV v u->Q v H' ->CE outer P w H s Q u s' :=
  fun{σ' H' v u} J rv q=>⟨v,H',J.os,J.bare,J.base,J.hok,rv,q⟩
 cases fl with
 | ret u =>
  obtain⟨v,σ',H',J,rv,q⟩:=hs;exact fin J rv q
 | next =>
  obtain⟨σ',H',J,q⟩:=hs;exact fin (v:=V.non) (u:=Value.none) J rfl q
 | brk =>
  obtain⟨_,_,_,q⟩:=hs;exact False.elim q
 | cont =>
  obtain⟨_,_,_,q⟩:=hs;exact False.elim q
section
variable{X:Cx}{x:Str}{p pos:Pos}{e:Expr}{es:List Expr}{t:TA}{id T:String}{r:List V->Hp->VK->Prop}
noncomputable def tCB(r:List V->Hp->VK->Prop)(t:TA):TE:=fun σ H Q=>t σ H fun vs H1=>r vs H1 Q
theorem bM(hc:bA X (.builtin id) r)(hg:Gl X x)(hm:X.mg x=none)(hv:bootBuiltins x=some (.builtin id))(ha:PA X (e::es) t)(hn:x≠"__name__":=by decide)(hdb:(x==("__debug__":Str))=false:=by decide)
  (he:starEach (e::es) X.env=(false,eval e X.env)::starEach es X.env:=by rfl) (hpl:(backTo pos (starEach es X.env)).any (·.1)=false:=by rfl):PE X (.Call (.Name x p) (e::es) [] pos) (tCB r t):=by
 intro pins s σ H Q I h;refine EO (bc I hg hm hv ?_ hn hdb);exact PyProof.Rows.callWith_builtin1 (af (ha pos pins s σ H _ I h) fun us s1 ⟨vs,H1,I1,r1,q1⟩=>hc pins s1 σ H1 vs us Q I1 r1 q1) he hpl
theorem pD(hc:bA X (.type T) r)(hg:Gl X x)(hm:X.mg x=none)(hv:bootBuiltins x=some (.type T))(ha:PA X (e::es) t)(hn:x≠"__name__":=by decide)(hdb:(x==("__debug__":Str))=false:=by decide)
  (he:starEach (e::es) X.env=(false,eval e X.env)::starEach es X.env:=by rfl) (hpl:(backTo pos (starEach es X.env)).any (·.1)=false:=by rfl):PE X (.Call (.Name x p) (e::es) [] pos) (tCB r t):=by
 intro pins s σ H Q I h;refine EO (bc I hg hm hv ?_ hn hdb);exact DF (af (ha pos pins s σ H _ I h) fun us s1 ⟨vs,H1,I1,r1,q1⟩=>hc pins s1 σ H1 vs us Q I1 r1 q1) he hpl
end
end L2
namespace HT
open PySem PyProof.Rows
noncomputable def lexLt:List Int->List Int->Bool
 | [],[]=>false
 | [],_::_=>true
 | _::_,[]=>false
 | x::xs,y::ys=>if x=y then lexLt xs ys else decide (x<y)
theorem mf(x y:Int)(xs ys:List Int):lexLt (x::xs) (y::ys)=if x=y then lexLt xs ys else decide (x<y):=rfl
theorem iB:lexLt [] []=false:=rfl
theorem gZ(y:Int)(ys:List Int):lexLt [] (y::ys)=true:=rfl
theorem gb(x:Int)(xs:List Int):lexLt (x::xs) []=false:=rfl
theorem tT(A:Around)(s:Shared)(a:Int)(t:Tok)(c:Int)(u:Tok):∃e,SeqAt.EqAt A s (.int a t) (.int c u) e/\(e=true↔a=c) :=
 ⟨(a==c),SeqAt.EqAt.int_int a t c u,by simp⟩
theorem rG(A:Around)(s:Shared)(a:Int)(t:Tok)(c:Int)(u:Tok)(prog:Program)(w:World)(E:Value->Shared->Prop)(Q:Value->Shared->Prop)(h:Q (.bool (decide (a<c))) s) :
  wpAny (model prog w) A (richCompare .Lt (.int a t) (.int c u)) Q E s :=
 (PyProof.Rows.lt_int h:wpAny (model prog w) A (compareOp .Lt (.int a t) (.int c u)) Q E s)
section
open PySem.SeqAt
open PySem.AutoSeq1 (wpAny_loadPart')
open PySem.MeetsSeq PySem.MeetsSeq2 PySem.MeetsSeq3
theorem hU(l b:Addr)(items items2:Array Value)(n n2:Nat)(dd dd2:Option Addr)(sl sl2:Array (Option Value))(ns ms:List Int)(hi:IntsAre items.toList ns)(hj:IntsAre items2.toList ms) :
  Meets (Builtin.«tuple.__lt__» ⟨[.ref l,.ref b],[]⟩)
   (fun _ R s=>s.heap.get? l=some {cls:=.type "tuple",dict:=dd,data:=.seq items n,slots:=sl}/\s.heap.get? b=some {cls:=.type "tuple",dict:=dd2,data:=.seq items2 n2,slots:=sl2} /\
    R (.ok (.ret (.bool (lexLt ns ms)))) s) :=
 .of_wp fun prog w A R s h=>by
  obtain⟨hp,g,d,tk,os⟩:=s;obtain⟨hl,hb,h⟩:=h;have f2:=AutoSeq1.sub_tuple_tuple;have z1:items.size=ns.length:=by rw[<- hi.length];simp
  have z2:items2.size=ms.length:=by rw[<- hj.length];simp
  wp_walk using DC hl,DC hb,wpAny_forIn_list _ (fun aP b s' =>b.1=none/\s' =⟨hp,g,d,tk,os⟩/\∃(vs ws:List Value)(ns' ms' :List Int),aP=vs.zip ws /\
   IntsAre vs ns' /\IntsAre ws ms' /\ns'.length+items2.size=ms'.length+items.size/\R (.ok (.ret (.bool (lexLt ns' ms')))) ⟨hp,g,d,tk,os⟩) _
  case turn =>
   rintro⟨y,x⟩ aP b s' ⟨hb',rfl,vs,ws,ns',ms',hz,hvi,hwi,hlen,hR⟩;cases hvi with
   | nil=>rw[List.zip_nil_left]at hz;cases hz
   | cons a t hvi' =>
    cases hwi with
    | nil=>rw[List.zip_nil_right]at hz;cases hz
    | cons c u hwi' =>
     rw[List.zip_cons_cons]at hz
     injection hz with hyx hrest
     injection hyx with hy hx
     subst hy hx;rw[mf]at hR;simp only[C3]at hlen;obtain⟨e,he,hiff⟩:=tT A.in1 ⟨hp,g,d,tk,os⟩ a t c u;refine CU (he prog w _ _ ?_);cases e with
     | true =>
      rw[Cd (hiff.mp rfl)]at hR
      wp_walk
      exact⟨rfl,rfl,_,_,_,_,hrest,hvi',hwi',by omega,hR⟩
     | false =>
      rw[Ci (fun q=>absurd (hiff.mpr q) Cg)]at hR;have hri:=rG A.in1 ⟨hp,g,d,tk,os⟩ a t c u prog w
      wp_walk using hri
      exact⟨_,rfl,by simpa using hR⟩
  case fin =>
   rintro⟨b1,b2⟩ s' ⟨hb',rfl,vs,ws,ns',ms',hz,hvi,hwi,hlen,hR⟩;simp only at hb';subst hb';have hv:lexLt ns' ms' =decide (items.size<items2.size):=by
    cases hvi with
    | nil =>
     cases hwi with
     | nil =>
      simp only[EG]at hlen;rw[iB];exact(C5 (by omega)).symm
     | cons c u hw =>
      simp only[EG,C3]at hlen;rw[gZ];exact(Ed (by omega)).symm
    | cons a t hv =>
     cases hwi with
     | nil =>
      simp only[EG,C3]at hlen;rw[gb];exact(C5 (by omega)).symm
     | cons c u hw =>
      rw[List.zip_cons_cons]at hz;cases hz
   rw[hv]at hR
   wp_walk
   exact⟨_,rfl,by simpa [Builtin.Tuple.tupleCompareSizes]using hR⟩
  case h =>
   exact⟨rfl,rfl,items.toList,items2.toList,ns,ms,rfl,hi,hj,by omega,h⟩
end
section
variable{prog:Program}{w:World}{A:Around}{E:Value->Shared->Prop}{s:Shared}
theorem me{l b:Addr}{items items2:Array Value}{ns ms:List Int}{Q:Value->Shared->Prop}(hl:IsTup s.heap l items)(hb:IsTup s.heap b items2)(hi:IntsAre items.toList ns)(hj:IntsAre items2.toList ms)
  (hu:A.units<cLine) (h:Q (.bool (lexLt ns ms)) s):wpAny (model prog w) A (compareOp .Lt (.ref l) (.ref b)) Q E s:=by
 obtain⟨⟨cls,dd,data,sl⟩,ho,hc,n,hd⟩:=id hl;obtain⟨⟨cls2,dd2,data2,sl2⟩,ho2,hc2,n2,hd2⟩:=id hb;simp only at hc hd hc2 hd2;subst hc hd hc2 hd2
 exact richCompare_meets_room (op:=.Lt) ⟨_,ho,rfl⟩ ⟨_,ho2,rfl⟩ PySem.F.slot_tuple_lt PySem.F.entry_tuple_lt (PySem.F.args_tuple_lt_2 _ _) (hU l b items items2 n n2 dd dd2 sl sl2 ns ms hi hj)
  ⟨ho,ho2,show Value.bool (lexLt ns ms)≠Value.notImplemented/\Q (.bool (lexLt ns ms)) s from⟨(fun x=>nomatch x),h⟩⟩ hu
theorem wb{t b:Addr}{vs ws:List Value}{Q:Value->Shared->Prop}(ht:IsTup s.heap t vs.toArray)(hb:IsTup s.heap b ws.toArray)(hv:vs≠[])
  (h1:ws=[]->Q (.ref t) s) (h2:ws≠[]->Q (.ref s.heap.objs.size) {s with heap:=s.heap.push {cls:=.type "tuple",data:=.seq (vs++ws).toArray}})
  (hsz:vs.length+ws.length<=sizeLine):wpAny (model prog w) A (binaryOp .Add (.ref t) (.ref b)) Q E s:=by
 obtain⟨⟨cls,dd,data,sl⟩,ho,hc,n,hd⟩:=id ht;obtain⟨⟨cls2,dd2,data2,sl2⟩,ho2,hc2,n2,hd2⟩:=id hb;simp only at hc hd hc2 hd2;subst hc hd hc2 hd2;have e:vs.toArray++ws.toArray=(vs++ws).toArray:=by simp
 by_cases hw:ws=[]
 ·exact concat_meets ⟨_,ho,rfl⟩ ⟨_,ho2,rfl⟩ noFill_tuple_add seq_tuple_add PySem.F.slot_tuple_add PySem.F.entry_tuple_add (Es _ _)
   (tuple_addW1 t b vs.toArray ws.toArray n n2 dd dd2 sl sl2 (by simpa using hv) (by simp[hw])) ⟨ho,ho2,h1 hw⟩
 ·refine concat_meets ⟨_,ho,rfl⟩ ⟨_,ho2,rfl⟩ noFill_tuple_add seq_tuple_add PySem.F.slot_tuple_add PySem.F.entry_tuple_add (Es _ _)
   (tuple_addW2 t b vs.toArray ws.toArray n n2 dd dd2 sl sl2 (by simpa using hv) (by simpa using hw) (by rw[Cb,Cb];exact hsz)) ⟨ho,ho2,?_⟩
  rw[e];exact h2 hw
noncomputable def aw(n d:Nat):Option Int->Nat
 | none=>d
 | some v=>if v<0 then(v+(n:Int)).toNat else min v.toNat n
theorem kI(n d:Nat):aw n d none=d:=rfl
theorem ng(n d k:Nat):aw n d (some (k:Int))=min k n:=by
 show(if(k:Int)<0 then((k:Int)+(n:Int)).toNat else min (k:Int).toNat n)=min k n;rw[Ci (by omega),DQ]
theorem yP(n d:Nat)(hd:d<=n)(o:Option Int):aw n d o<=n:=by
 cases o with
 | none=>exact hd
 | some v =>
  show(if v<0 then(v+(n:Int)).toNat else min v.toNat n)<=n
  by_cases hv:v<0
  ·rw[Cd hv];omega
  ·rw[Ci hv];exact Nat.min_le_right _ _
theorem oX(v:Int)(n d:Nat):(if v<0 then max (v+(n:Int)) 0 else min v (n:Int))=((aw n d (some v):Nat):Int):=by
 show(if v<0 then max (v+(n:Int)) 0 else min v (n:Int))=(((if v<0 then(v+(n:Int)).toNat else min v.toNat n):Nat):Int)
 by_cases hv:v<0
 ·simp only[Cd hv];omega
 ·simp only[Ci hv];omega
theorem nP(lo hi:Option Int)(n:Nat):Builtin.Slice.sliceAdjust lo hi 1 (n:Int)=(((aw n 0 lo:Nat):Int),((aw n n hi:Nat):Int)):=by
 have h1:¬((1:Int)<0):=by omega
 unfold Builtin.Slice.sliceAdjust;simp only[h1,ET];refine Prod.ext ?_ ?_
 ·cases lo with
  | none=>rfl
  | some v=>exact oX v n 0
 ·cases hi with
  | none=>rfl
  | some v=>exact oX v n n
theorem mP(i j:Nat):Builtin.Slice.slicePlaces (i:Int) (j:Int) 1=j-i:=by
 unfold Builtin.Slice.slicePlaces;have h1:(1:Int)>0:=by omega
 simp only[h1,Eb,Int.ediv_one]
 split<;>omega
theorem gM{v:Value}{o:Option Int}{Q:Option Int->Shared->Prop}(p:IsPart v o)(h:Q o s):wpAny (model prog w) A (Builtin.Slice.slicePartIndex v) Q E s:=by
 cases p with
 | none=>exact slicePart_none h
 | int i t=>exact slicePart_int h
theorem bj{sl:Addr}{vl vu:Value}{lo hi:Option Int}{n:Nat}{Q:Int×Int×Nat->Shared->Prop}(hs:s.heap.IsSliceOf sl vl vu .none)(pl:IsPart vl lo)(pu:IsPart vu hi)
  (h:Q (((aw n 0 lo:Nat):Int),1,aw n n hi-aw n 0 lo) s):wpAny (model prog w) A (Builtin.Slice.sliceApplied (.ref sl) (pure (n:Int))) Q E s:=by
 obtain⟨os,hos,hcs,hds⟩:=id hs;unfold Builtin.Slice.sliceApplied Builtin.Slice.sliceFields;refine CU (CU (Dx hos hds (x:=vl) rfl (CU (Dx hos hds (x:=vu) rfl (CU (Dx hos hds (x:=.none) rfl (Ce ?_)))))));refine CU (slicePart_none ?_);show wpAny _ _ (if((1:Int)==0)=true then _ else _) _ _ s;rw[Ci (by decide)];refine CU (gM pl (CU (gM pu (CU (Ce ?_)))));show wpAny _ _ (match Builtin.Slice.sliceAdjust lo hi 1 (n:Int)with|(lo,hi)=>pure (lo,(1:Int),Builtin.Slice.slicePlaces lo hi 1)) _ _ s;rw[nP lo hi n];show wpAny _ _ (pure (((aw n 0 lo:Nat):Int),(1:Int),Builtin.Slice.slicePlaces ((aw n 0 lo:Nat):Int) ((aw n n hi:Nat):Int) 1)) _ _ s;rw[mP];exact Ce h
theorem rW(xs:Array Value)(i k:Nat):((List.range k).filterMap fun(m:Nat)=>xs[((i:Int)+(m:Int)*1).toNat]?).toArray=((xs.toList.drop i).take k).toArray:=by
 have e:(fun(m:Nat)=>xs[((i:Int)+(m:Int)*1).toNat]?)=fun m=>xs[i+m]? :=by
  funext m
  have:((i:Int)+(m:Int)*1).toNat=i+m:=by omega
  rw[this]
 rw[e];have:=pick_run xs i k;rw[List.filterMap_map]at this;have e2:((fun x=>xs[x]?)∘fun x=>i+x)=fun m=>xs[i+m]? :=rfl;rw[e2]at this;rw[this]
theorem eF{t sl:Addr}{items:Array Value}{vl vu:Value}{lo hi:Option Int}{Q:Value->Shared->Prop}(ht:IsTup s.heap t items)(hs:s.heap.IsSliceOf sl vl vu .none)(pl:IsPart vl lo)(pu:IsPart vu hi)
  (hw:¬(aw items.size 0 lo=0/\aw items.size items.size hi=items.size))
  (h:Q (.ref s.heap.objs.size) {s with heap:=s.heap.push {cls:=.type "tuple",data:=.seq ((items.toList.drop (aw items.size 0 lo)).take (aw items.size items.size hi-aw items.size 0 lo)).toArray}})
  (hsz:items.size<=sizeLine):wpAny (model prog w) A (getItem (.ref t) (.ref sl)) Q E s:=by
 have htake:sizeOk (.seq ((items.toList.drop (aw items.size 0 lo)).take (aw items.size items.size hi-aw items.size 0 lo)).toArray):=by
  show((items.toList.drop (aw items.size 0 lo)).take (aw items.size items.size hi-aw items.size 0 lo)).toArray.size<=sizeLine;rw[Cb,Dg,Dy,Cn];omega
 have hj:aw items.size items.size hi<=items.size:=yP _ _ (Ca _) hi;obtain⟨os,hos,hcs,hds⟩:=id hs;have hTs:s.TypeIs (.ref sl) "slice":=⟨os,hos,hcs⟩;unfold getItem
 try with_reducible refine DV ?_
 first|refine CU (Ce ?_)|skip
 refine CU (wpAny_sequenceKey ht.typeIs (by decide) ?_)
 refine CU (ES (name:=Str.ofString "__getitem__") ht.typeIs DK
  (EI DK ht.typeIs entry_tuple_getitem ?_ (args_tuple_getitem _ _)))
 show wpAny _ _ (Builtin.Tuple.tupleItemsOf (.ref t) >>= _) _ _ s;refine CU (tupleItemsOf_ ht ?_);refine CU (wpAny_typeOf hTs ?_);rw[Cd (by decide)];refine CU (bj hs pl pu ?_);have hno:¬((((aw items.size 0 lo:Nat):Int)==0&&(1:Int)==1&&(aw items.size items.size hi-aw items.size 0 lo)==items.size)=true):=by
  intro q;rw[CZ,CZ]at q;have q1:((aw items.size 0 lo:Nat):Int)=0:=Cz q.1.1;have q2:aw items.size items.size hi-aw items.size 0 lo=items.size:=Cz q.2;exact hw ⟨by omega,by omega⟩
 show wpAny _ _ (if(((aw items.size 0 lo:Nat):Int)==0&&(1:Int)==1&&(aw items.size items.size hi-aw items.size 0 lo)==items.size)=true then _ else _) _ _ s;rw[Ci hno,rW]
 first
  | exact CU (m:=Builtin.Tuple.tupleExact _) (Dd (Ce ⟨_,rfl,Ce h⟩) htake)
  | exact CU (m:=Builtin.Tuple.tupleExact _) (Dd (CU (Ce (Ce ⟨_,rfl,Ce h⟩))) htake)
  | exact CU (CU (m:=Builtin.Tuple.tupleExact _) (Dd (Ce (Ce ⟨_,rfl,Ce h⟩)) htake))
  | exact CU (CU (m:=Builtin.Tuple.tupleExact _) (Dd (Ce ⟨_,rfl,Ce h⟩) htake))
end
end HT
namespace L2
open PySem PySem.Spec PyProof.Rows
noncomputable abbrev TO:=St->Hp->(Option Int->Hp->Prop)->Prop
noncomputable def PO(X:Cx)(e:Option Expr)(t:TO):Prop :=
 ∀(pins:List (Addr×Obj))(s:Shared)(σ:St)(H:Hp)(Q:Option Int->Hp->Prop),Inv X pins σ H s->t σ H Q ->
  wpAny (model X.prog X.w) X.A (evalPart e X.env) (fun u s' =>∃o H',Inv X pins σ H' s' /\IsPart u o/\Q o H') X.xe s
noncomputable def ut:TO:=fun _ H Q=>Q none H
noncomputable def Aq(t:TE):TO:=fun σ H Q=>t σ H fun x H1=>∃i,x=.int i/\Q (some i) H1
theorem intsAre_of{ns:List Int}:∀{us:List Value},aK (ns.map V.int) us->IntsAre us ns:=by
 induction ns with
 | nil=>intro us r;rw[D5]at r;cases r;exact .nil
 | cons n ns ih =>
  intro us r;rw[Cq]at r;cases r with
  | cons r1 r2 =>
   obtain⟨t,e⟩:=r1;subst e;exact .cons n t (ih r2)
section
variable{X:Cx}{e:Expr}{te:TE}{lo hi:Option Expr}{tl th:TO}{pos p2:Pos}
theorem vV:PO X none ut:=by
 intro pins s σ H Q I h;rw[evalPart_none];exact Ce ⟨none,H,I,.none,h⟩
theorem vU(h:PE X e te):PO X (some e) (Aq te):=by
 intro pins s σ H Q I hw;rw[evalPart_some];refine af (h pins s σ H _ I hw) fun u s1 hpq=> ?_;obtain⟨x,H1,I1,r1,q1⟩:=hpq;obtain⟨i,rfl,q⟩:=q1;obtain⟨t,rfl⟩:=r1;exact⟨some i,H1,I1,.int i t,q⟩
noncomputable def Ab(X:Cx)(r:V->Option Int->Option Int->Hp->VK->Prop):Prop :=
 ∀(pins:List (Addr×Obj))(s:Shared)(σ:St)(H:Hp)(x:V)(v vl vu:Value)(lo hi:Option Int)(sl:Addr)(Q:VK),Inv X pins σ H s->RelV x v->s.heap.IsSliceOf sl vl vu .none->IsPart vl lo->IsPart vu hi->r x lo hi H Q ->
  ∃T id,typeLookup (.type T) "__getitem__"=pure (some (.builtin id))/\s.TypeIs v T/\wpAny (model X.prog X.w) X.A (getItem v (.ref sl)) (EP X pins σ Q) X.xe s
noncomputable def tSl(r:V->Option Int->Option Int->Hp->VK->Prop)(te:TE)(tl th:TO):TE:=fun σ H Q=>te σ H fun x H1=>tl σ H1 fun l H2=>th σ H2 fun u H3=>r x l u H3 Q
theorem rg{r:V->Option Int->Option Int->Hp->VK->Prop}(hr:Ab X r)(he:PE X e te)(hl:PO X lo tl)(hu:PO X hi th):PE X (.Subscript e (.Slice lo hi none p2) pos) (tSl r te tl th):=by
 intro pins s σ H Q I h;refine Subscript_ (af (he pins s σ H _ I h) fun v s1 hpq=> ?_);obtain⟨x,H1,I1,r1,q1⟩:=hpq;refine wpAny_Slice (af (hl pins s1 σ H1 _ I1 q1) fun vl s2 ⟨l,H2,I2,pl,q2⟩=>af (hu pins s2 σ H2 _ I2 q2) fun vu s3 hpq=> ?_);obtain⟨u,H3,I3,pu,q3⟩:=hpq;rw[evalPart_none];refine Ce ?_;have I4:Inv X pins σ H3 {s3 with heap:=s3.heap.push {cls:=.type "slice",data:=.fields #[vl,vu,.none]}}:=I3.kept (t' :=s3.toks) fun b ob q=>CV _ q;obtain⟨T,id,hT,ht,hg⟩:=hr pins {s3 with heap:=s3.heap.push {cls:=.type "slice",data:=.fields #[vl,vu,.none]}} σ H3 x v vl vu l u s3.heap.objs.size Q I4 r1 (Heap.IsSliceOf.new ..) pl pu q3;show wpAny (model X.prog X.w) X.A (subscriptTail e (.Slice lo hi none p2) v (.ref s3.heap.objs.size)) (EP X pins σ Q) X.xe {s3 with heap:=s3.heap.push {cls:=.type "slice",data:=.fields #[vl,vu,.none]}};exact tail_any (ops:=[.ref s3.heap.objs.size,v]) ht hT hg (by with_unfolding_all rfl)
noncomputable def lA(xs:List V)(lo hi:Option Int):List V:=(xs.drop (HT.aw xs.length 0 lo)).take (HT.aw xs.length xs.length hi-HT.aw xs.length 0 lo)
theorem fP(xs:List V)(lo hi:Option Int):(lA xs lo hi).length<=xs.length:=by
 unfold lA;rw[Dg,Dy];omega
noncomputable def rSlT(K:W.Frag):V->Option Int->Option Int->Hp->VK->Prop:=fun x lo hi H Q=>∃a xs,x=.ref a/\bL K H a xs /\
 ¬(HT.aw xs.length 0 lo=0/\HT.aw xs.length xs.length hi=xs.length)/\∀p,H p=none->Q (.ref p) (upd H p (.tup (lA xs lo hi)))
theorem yM:Ab X (rSlT X.K):=by
 intro pins s σ H x v vl vu lo hi sl Q I rx hs pl pu h;obtain⟨a,xs,rfl,hx,hw,q⟩:=h;cases rx;obtain⟨its,r,ht,hz⟩:=I.tuple hx;have hlen:its.toArray.size=xs.length:=by rw[Cb];exact r.length.symm
 refine⟨"tuple",_,DK.lookup,ht.typeIs,?_⟩;refine HT.eF ht hs pl pu (by rw[hlen];exact hw) ?_ (by rw[hlen];exact hz);rw[hlen];refine⟨.ref s.heap.objs.size,_,I.laid (t' :=s.toks) (o:=.tup (lA xs lo hi)) (fun b ob q=>CV _ q) (Ca _) ?_,rfl,q _ (I.hok.fresh (Ca _))⟩;exact⟨C9 (fP xs lo hi) hz,_,(r.drop (HT.aw xs.length 0 lo)).take (HT.aw xs.length xs.length hi-HT.aw xs.length 0 lo),ci.new _ _⟩
noncomputable def rLtT(K:W.Frag):R2:=fun x y H Q=>∃a b ns ms,x=.ref a/\y=.ref b/\bL K H a (ns.map V.int)/\bL K H b (ms.map V.int)/\Q (.bl (HT.lexLt ns ms)) H
theorem sE(hu:X.A.units<cLine):cg X (compareOp .Lt) (rLtT X.K):=by
 intro pins s σ H x y v u Q I rx ry h;obtain⟨a,b,ns,ms,rfl,rfl,ha,hb,q⟩:=h;cases rx;cases ry;obtain⟨its,r1,p1,_⟩:=I.tuple ha;obtain⟨its2,r2,p2,_⟩:=I.tuple hb;have i1:IntsAre its.toArray.toList ns:=intsAre_of r1;have i2:IntsAre its2.toArray.toList ms:=intsAre_of r2;exact HT.me p1 p2 i1 i2 hu ⟨.bl (HT.lexLt ns ms),H,I,rfl,q⟩
noncomputable def BD(K:W.Frag):R2:=fun x y H Q=>∃a b xs ys,x=.ref a/\y=.ref b/\bL K H a xs/\bL K H b ys/\xs≠[]/\xs.length+ys.length<=sizeLine /\
 (ys=[]->Q (.ref a) H)/\(ys≠[]->∀p,H p=none->Q (.ref p) (upd H p (.tup (xs++ys))))
theorem aK.nil_iff{xs:List V}{us:List Value}(r:aK xs us):us=[]↔xs=[]:=by
 cases r with
 | nil=>simp
 | cons _ _=>simp
theorem vi:cg X (binaryOp .Add) (BD X.K):=by
 intro pins s σ H x y v u Q I rx ry h;obtain⟨a,b,xs,ys,rfl,rfl,ha,hb,hx,hz,q1,q2⟩:=h;cases rx;cases ry;obtain⟨its,r1,p1,_⟩:=I.tuple ha;obtain⟨its2,r2,p2,_⟩:=I.tuple hb;refine HT.wb p1 p2 (fun z=>hx (r1.nil_iff.mp z)) (fun z=>⟨.ref a,H,I,rfl,q1 (r2.nil_iff.mp z)⟩) (fun z=> ?_) (by rw[<- r1.length,<-r2.length];exact hz);refine⟨.ref s.heap.objs.size,_,I.laid (t' :=s.toks) (o:=.tup (xs++ys)) (fun b ob q=>CV _ q) (Ca _) ?_,rfl,q2 (fun w=>z (r2.nil_iff.mpr w)) _ (I.hok.fresh (Ca _))⟩;exact⟨by rw[Cm];exact hz,_,r1.append r2,ci.new _ _⟩
end
noncomputable def wA(n:Nat)(i:Int):Option Nat:=if 0<=i then(if i<n then some i.toNat else none)else if -(n:Int)<=i then some (i+n).toNat else none
noncomputable def cO{α:Type}(xs:List α)(i:Int):Option α:=(wA xs.length i).bind fun j=>xs[j]?
theorem v9{n:Nat}{i:Int}{j:Nat}(h:wA n i=some j):seqIndex? i n=some j/\j<n/\ -(n:Int)<=i/\i<n:=by
 unfold wA at h
 by_cases h0:0<=i
 ·rw[Cd h0]at h
  by_cases h1:i<n
  ·rw[Cd h1]at h
   have e:i.toNat=j:=Cw h;exact⟨by rw[seqIndex_of h0 h1,e],by omega,by omega,h1⟩
  ·rw[Ci h1]at h;cases h
 ·rw[Ci h0]at h
  by_cases h1: -(n:Int)<=i
  ·rw[Cd h1]at h
   have e:(i+n).toNat=j:=Cw h;exact⟨by rw[seqIndex_neg (by omega) h1,e],by omega,h1,by omega⟩
  ·rw[Ci h1]at h;cases h
theorem ju{α:Type}{xs:List α}{i:Int}{v:α}(h:cO xs i=some v):∃j,seqIndex? i xs.length=some j/\xs[j]? =some v/\j<xs.length/\ -(xs.length:Int)<=i/\i<xs.length:=by
 unfold cO at h;cases e:wA xs.length i with
 | none=>rw[e]at h;cases h
 | some j =>
  rw[e]at h;obtain⟨h1,h2,h3,h4⟩:=v9 e;exact⟨j,h1,h,h2,h3,h4⟩
theorem bY{α:Type}{xs:List α}{j:Nat}{v:α}(h:xs[j]? =some v):cO xs (j:Int)=some v:=by
 have hj:j<xs.length:=(Ch.mp h).1;have e:wA xs.length (j:Int)=some j:=by
  unfold wA;rw[Cd (by omega),Cd (by omega)];simp
 unfold cO;rw[e];exact h
noncomputable def oY(b:Expr):Prop:=∀o i,subscripted b false o i=operate [o,i] (getItem o i)
noncomputable def CO(X:Cx)(r:R2):Prop :=
 ∀(value slice:Expr)(pins:List (Addr×Obj))(s:Shared)(σ:St)(H:Hp)(x y:V)(v u:Value)(Q:VK),Inv X pins σ H s->RelV x v->RelV y u->r x y H Q ->
  subscripted slice false v u=operate [v,u] (getItem v u)->wpAny (model X.prog X.w) X.A (subscriptTail value slice v u) (EP X pins σ Q) X.xe s
noncomputable def MtR(X:Cx)(id:String)(r:V->List V->Hp->VK->Prop):Prop :=
 ∀(pins:List (Addr×Obj))(s:Shared)(σ:St)(H:Hp)(x:V)(xs:List V)(v:Value)(us:List Value)(Q:VK),Inv X pins σ H s->RelV x v->aK xs us->r x xs H Q ->
  wpAny (model X.prog X.w) X.A (call (.builtin id) (v::us)) (EP X pins σ Q) X.xe s
section
variable{X:Cx}{a b:Expr}{ta tb:TE}{pos:Pos}
theorem rh{r:R2}(hr:CO X r)(ha:PE X a ta)(hb:PE X b tb)(hs:oY b):PE X (.Subscript a b pos) (tOp r ta tb):=by
 intro pins s σ H Q I h;exact Subscript_ (AA ha hb I h fun v u s2 x y H2 I2 rx ry q=>hr a b pins s2 σ H2 x y v u Q I2 rx ry q (hs _ _))
noncomputable def rIxL(K:W.Frag):R2:=fun x y H Q=>∃p xs i v,x=.ref p/\y=.int i/\ar K H p xs/\cO xs i=some v/\Q v H
noncomputable def rIxT(K:W.Frag):R2:=fun x y H Q=>∃p xs i v,x=.ref p/\y=.int i/\bL K H p xs/\cO xs i=some v/\Q v H
noncomputable def rIxS:R2:=fun x y H Q=>∃z i c,x=.str z/\y=.int i/\z.length<=sizeLine/\cO z.cps.toList i=some c/\Q (.str ⟨#[c]⟩) H
theorem eD:CO X (rIxL X.K):=by
 intro value slice pins s σ H x y v u Q I rx ry h hs;obtain⟨p,xs,i,z,rfl,rfl,hq,he,q⟩:=h;cases rx;obtain⟨t,rfl⟩:=ry;obtain⟨its,r,pl,hz⟩:=I.list hq;obtain⟨j,h1,h2,h3,h4,h5⟩:=ju he;obtain⟨w,ew,rw'⟩:=r.get h2;have hl:=r.length;have hn:=eZ;have fin:EP X pins σ Q w s:=⟨z,H,I,rw',q⟩
 by_cases h0:0<=i
 ·have hj:i.toNat=j:=by
   rw[seqIndex_of h0 h5]at h1;exact Cw h1
  exact item_listR pl.isList h0 (by omega) (by rw[hj];simpa using ew) fin hs
 ·have hj:(i+(its.toArray.size:Int)).toNat=j:=by
   rw[seqIndex_neg (by omega) h4]at h1;rw[Cb,<-hl];exact Cw h1
  exact subscriptTail_builtinR (x:=w) pl.isList.typeIs slot_list_getitem.lookup
   (wpAny_getItem_list_neg (Q:=fun r s' =>r=w/\EP X pins σ Q r s') pl.isList (by omega) (by rw[Cb]<;>omega) (by omega) (by rw[hj];simpa using ew) ⟨rfl,fin⟩) hs
theorem tD:CO X (rIxT X.K):=by
 intro value slice pins s σ H x y v u Q I rx ry h hs;obtain⟨p,xs,i,z,rfl,rfl,hq,he,q⟩:=h;cases rx;obtain⟨t,rfl⟩:=ry;obtain⟨its,r,pl,hz⟩:=I.tuple hq;obtain⟨j,h1,h2,h3,h4,h5⟩:=ju he;obtain⟨w,ew,rw'⟩:=r.get h2;have hl:=r.length;have hn:=eZ;have fin:EP X pins σ Q w s:=⟨z,H,I,rw',q⟩
 exact subscriptTail_builtinR (x:=w) pl.typeIs slot_tuple_getitem.lookup
  (getItem_tuple (j:=j) (Q:=fun r s' =>r=w/\EP X pins σ Q r s') pl (by omega) (by omega) (by rw[Cb,<-hl];exact h1) (by simpa using ew) ⟨rfl,fin⟩) hs
theorem zI:CO X rIxS:=by
 intro value slice pins s σ H x y v u Q I rx ry h hs;obtain⟨z,i,c,rfl,rfl,hz,he,q⟩:=h;obtain⟨t,rfl⟩:=rx;obtain⟨t',rfl⟩:=ry;obtain⟨j,h1,h2,h3,h4,h5⟩:=ju he;have hl:z.cps.toList.length=z.length:=by simp[Str.length]
 rw[hl]at h1 h4 h5;have hn:=eZ
 exact tail_any (typeIs_str s z t) slot_str_getitem.lookup (getItem_str (c:=c) (by
  have e1:decide (i< -(2^63:Int))=false:=C5 (by omega);have e2:decide (i ≥ 2^63)=false:=C5 (by omega);rw[e1,e2,Bool.or_false]) (by rw[h1];simpa using h2) ⟨.str ⟨#[c]⟩,H,I.tok _,⟨_,rfl⟩,q⟩) hs
theorem Inv.lst{pins:List (Addr×Obj)}{σ:St}{H:Hp}{s:Shared}{p:Addr}{xs:List V}(I:Inv X pins σ H s)(h:H p=some (.lst xs)) :
  ∃(its:List Value)(n:Nat),aK xs its/\s.heap.get? p=some {cls:=.type "list",data:=.seq its.toArray n}/\xs.length<=sizeLine:=by
 obtain⟨z,its,n,r,e⟩:=I.hok p _ h;exact⟨its,n,r,e,z⟩
theorem jJ(lo hi:Option Int)(n:Nat):(sliceBounds lo hi none n).1=((HT.aw n 0 lo:Nat):Int)/\(sliceBounds lo hi none n).2.1=((HT.aw n n hi:Nat):Int)/\(sliceBounds lo hi none n).2.2=1:=by
 refine⟨?_,?_,rfl⟩
 ·cases lo with
  | none=>simp[sliceBounds,HT.aw]
  | some i =>
   simp only[sliceBounds,HT.aw,Option.getD_none,show(1:Int)>0 by decide,Eb]
   by_cases h:i<0
   ·simp only[h,Eb]<;>omega
   ·simp only[h,ET]<;>omega
 ·cases hi with
  | none=>simp[sliceBounds,HT.aw]
  | some i =>
   simp only[sliceBounds,HT.aw,Option.getD_none,show(1:Int)>0 by decide,Eb]
   by_cases h:i<0
   ·simp only[h,Eb]<;>omega
   ·simp only[h,ET]<;>omega
theorem hX(its:List Value)(lo hi:Option Int):slicePick its.toArray lo hi none=((its.drop (HT.aw its.length 0 lo)).take (HT.aw its.length its.length hi-HT.aw its.length 0 lo)).toArray:=by
 obtain⟨h1,h2,h3⟩:=jJ lo hi its.toArray.size;unfold slicePick;rw[h1,h2,h3];simp only[sliceRange_one,pick_run,Cb]<;>rfl
noncomputable def rSlL(K:W.Frag):V->Option Int->Option Int->Hp->VK->Prop:=fun x lo hi H Q=>∃a xs,x=.ref a/\ar K H a xs/\∀p,H p=none->Q (.ref p) (upd H p (.lst (lA xs lo hi)))
theorem uz:Ab X (rSlL X.K):=by
 intro pins s σ H x v vl vu lo hi sl Q I rx hs pl pu h;obtain⟨a,xs,rfl,hx,q⟩:=h;cases rx;obtain⟨its,r,ht,hz⟩:=I.list hx;have hlen:=r.length;refine⟨"list",_,slot_list_getitem.lookup,ht.isList.typeIs,?_⟩;refine wpAny_getItem_list_slice ht.isList hs pl pu .none (by simp) ?_ (by rw[Cb]<;>omega);rw[hX,<-hlen];refine⟨.ref s.heap.objs.size,_,I.laid (t' :=s.toks) (o:=.lst (lA xs lo hi)) (fun b ob q=>CV _ q) (Ca _) ?_,rfl,q _ (I.hok.fresh (Ca _))⟩;exact⟨C9 (fP xs lo hi) hz,_,0,(r.drop (HT.aw xs.length 0 lo)).take (HT.aw xs.length xs.length hi-HT.aw xs.length 0 lo),Cs _ rfl⟩
theorem eL:bA X (.builtin "len") (fun xs H Q=>∃p ys,xs=[.ref p]/\(ar X.K H p ys\/bL X.K H p ys)/\Q (.int ys.length) H):=by
 intro pins s σ H xs us Q I r h;obtain⟨p,ys,rfl,hq,q⟩:=h;obtain⟨u,rfl,rx⟩:=vals1 r;cases rx;have hn:=eZ
 rcases hq with hq|hq
 ·obtain⟨its,r',pl,hz⟩:=I.list hq
  have hlen:=r'.length;exact Calls.call_len_list pl.isList (by simp only[Cb]<;>omega) ⟨.int ys.length,H,I.tok _,⟨s.toks+1,by rw[Cb,hlen]⟩,q⟩
 ·obtain⟨its,r',pl,hz⟩:=I.tuple hq
  have hlen:=r'.length;exact len_tuple pl (by simp only[Cb]<;>omega) ⟨.int ys.length,H,I.tok _,⟨s.toks+1,by rw[Cb,hlen]⟩,q⟩
theorem jq:bA X (.builtin "len") (fun xs H Q=>∃z,xs=[.str z]/\z.length<=sizeLine/\Q (.int z.length) H):=by
 intro pins s σ H xs us Q I r h;obtain⟨z,rfl,hz,q⟩:=h;obtain⟨u,rfl,t,rfl⟩:=vals1 r;have hn:=eZ;exact len_str (by omega) ⟨.int z.length,H,I.tok _,⟨_,rfl⟩,q⟩
theorem jp:bA X (.type "list") (fun xs H Q=>∃p ys,xs=[.ref p]/\(ar X.K H p ys\/bL X.K H p ys)/\∀l,H l=none->Q (.ref l) (upd H l (.lst ys))):=by
 intro pins s σ H xs us Q I r h;obtain⟨p,ys,rfl,hq,q⟩:=h;obtain⟨u,rfl,rx⟩:=vals1 r;cases rx
 have fin:∀(its:List Value),aK ys its->ys.length<=sizeLine->∀(h' :Heap)(c' :Nat),(∀b o',s.heap.get? b=some o' ->h'.get? b=some o') ->
   h'.get? s.heap.objs.size=some {cls:=.type "list",dict:=none,data:=.seq its.toArray c',slots:= #[]}->EP X pins σ Q (.ref s.heap.objs.size) {s with heap:=h'}:=fun its r' hz h' c' kp e =>
  ⟨.ref s.heap.objs.size,_,I.laid (t' :=s.toks) kp (Ca _) (show aa X.prog X.w _ h' _ (.lst ys)from⟨hz,its,c',r',e⟩),rfl,q _ (I.hok.fresh (Ca _))⟩
 rcases hq with hq|hq
 ·obtain⟨its,r',pl,hz⟩:=I.list hq
  have hlen:=r'.length;obtain⟨o,ho,hc,n,hd⟩:=pl.isList;exact call_list_seq p (.inl rfl) ho hc hd (fun h' c' kp e=>fin its r' hz h' c' kp e) (by simp only[Cb]<;>omega)
 ·obtain⟨its,r',pl,hz⟩:=I.tuple hq
  have hlen:=r'.length;obtain⟨o,ho,hc,n,hd⟩:=pl;exact call_list_seq p (.inr rfl) ho hc hd (fun h' c' kp e=>fin its r' hz h' c' kp e) (by simp only[Cb]<;>omega)
theorem iL:bA X (.type "tuple") (fun xs H Q=>∃p ys,xs=[.ref p]/\((ar X.K H p ys/\∀l,H l=none->Q (.ref l) (upd H l (.tup ys)))\/(bL X.K H p ys/\Q (.ref p) H))):=by
 intro pins s σ H xs us Q I r h;obtain⟨p,ys,rfl,h⟩:=h;obtain⟨u,rfl,rx⟩:=vals1 r;cases rx
 rcases h with⟨hq,q⟩|⟨hq,q⟩
 ·obtain⟨its,r',pl,hz⟩:=I.list hq
  have hlen:=r'.length;refine call_tuple_list pl.isList (fun h' kp=> ?_) (by simp only[Cb]<;>omega);have I1:Inv X pins σ H {s with heap:=h'}:=I.kept (t' :=s.toks) kp
  have I2:Inv X pins σ (upd H h'.objs.size (.tup ys)) {s with heap:=h'.push {cls:=.type "tuple",data:=.seq its.toArray}} :=
   I1.laid (t' :=s.toks) (fun b o e=>CV _ e) (Ca _) (show aa X.prog X.w _ _ _ (.tup ys)from⟨hz,its,r',ci.new _ _⟩)
  exact⟨.ref h'.objs.size,_,I2,rfl,q _ (I1.hok.fresh (Ca _))⟩
 ·obtain⟨its,r',pl,hz⟩:=I.tuple hq
  exact call_tuple_same pl ⟨.ref p,H,I,rfl,q⟩
noncomputable def tyV(K:W.Frag)(T:String)(x:V)(H:Hp):Prop:=match x with
 | .str _=>T="str"
 | .int _=>T="int"
 | .ref p=>(T="list"/\∃xs,ar K H p xs)\/(T="tuple"/\∃xs,bL K H p xs) \/
   (T="dict"/\((∃kvs,H p=some (.dK kvs))\/∃kvs,H p=some (.dT kvs)))\/(T="set"/\∃S n,H p=some (.set S n))
 | _=>False
theorem xt{pins:List (Addr×Obj)}{σ:St}{H:Hp}{s:Shared}{T:String}{x:V}{v:Value}(I:Inv X pins σ H s)(r:RelV x v)(ty:tyV X.K T x H) :
  s.TypeIs v T/\∀a,v=.ref a->∃ob,s.heap.get? a=some ob/\ob.dict=none:=by
 cases x with
 | str z =>
  obtain⟨t,rfl⟩:=r;cases(show T="str" from ty);exact⟨typeIs_str s z t,fun _ e=>nomatch e⟩
 | int i =>
  obtain⟨t,rfl⟩:=r;cases(show T="int" from ty);exact⟨typeIs_int s i t,fun _ e=>nomatch e⟩
 | ref p =>
  cases r
  rcases ty with⟨rfl,xs,hq⟩|⟨rfl,xs,hq⟩|⟨rfl,hk⟩|⟨rfl,S,n,hk⟩
  ·obtain⟨its,_,pl,_⟩:=I.list hq
   refine⟨pl.isList.typeIs,fun a e=> ?_⟩;cases e;obtain⟨o,n,e,c,hd,_⟩:=pl;exact⟨o,e,hd⟩
  ·obtain⟨o,e1,e2,e3⟩:=I.tupleD hq
   refine⟨⟨o,e1,e2⟩,fun a e=> ?_⟩;cases e;exact⟨o,e1,e3⟩
  ·have z:∃o,s.heap.get? p=some o/\o.ExactDict:=by
    rcases hk with⟨kvs,hk⟩|⟨kvs,hk⟩
    ·obtain⟨_,_,_,_,o,_,_,e,ex,_⟩:=I.hok p _ hk
     exact⟨o,e,ex⟩
    ·obtain⟨_,_,_,_,o,_,_,e,ex,_⟩:=I.hok p _ hk
     exact⟨o,e,ex⟩
   obtain⟨o,e,ex⟩:=z;refine⟨⟨o,e,ex.1⟩,fun a e2=> ?_⟩;cases e2;exact⟨o,e,ex.2.1⟩
  ·obtain⟨o,_,_,_,e,ex,_⟩:=I.hok p _ hk
   refine⟨⟨o,e,ex.1⟩,fun a e2=> ?_⟩;cases e2;exact⟨o,e,ex.2.1⟩
 | _=>exact False.elim ty
noncomputable def tBM(K:W.Frag)(T:String)(r:V->List V->Hp->VK->Prop)(to:TE)(t:TA):TE:=fun σ H Q=>to σ H fun x H1=>tyV K T x H1/\t σ H1 fun xs H2=>r x xs H2 Q
variable{o e:Expr}{es:List Expr}{to:TE}{t:TA}{name:Str}{apos cpos:Pos}{T id:String}{r:V->List V->Hp->VK->Prop}
theorem nr(pa:PlainAttrs T)(slot:Slot T name id)(hty:typeOf (.builtin id)=pure (.type "method_descriptor"))(hm:MtR X id r)(ho:PE X o to)(ha:PA X (e::es) t)
  (hbase:attributeBase o name X.env (eval o X.env)=eval o X.env:=by rfl)
  (hfew:((backTo cpos (starEach (e::es) X.env)).all (fun x=> !x.1)&&(backToKw cpos (keywordEach [] X.env)).all (fun x=>x.1.isSome)
   && decide ((e::es).length+([]:List Keyword).length+(if([]:List Keyword).isEmpty then 0 else 1)<30))=true:=by rfl)
  (hline:(apos.endLine==cpos.line)=true:=by rfl) (hs:starEach (e::es) X.env=(false,eval e X.env)::starEach es X.env:=by rfl) (hplain:(backTo cpos (starEach es X.env)).any (·.1)=false:=by rfl) :
  PE X (.Call (.Attribute o name apos) (e::es) [] cpos) (tBM X.K T r to t):=by
 intro pins s σ H Q I h;refine wpAny_Call_method_late hbase hfew hline rfl (af (ho pins s σ H _ I h) fun v s1 hpq=> ?_);obtain⟨x,H1,I1,r1,ty,q1⟩:=hpq;obtain⟨h1,h2⟩:=xt I1 r1 ty;refine⟨T,id,pa,slot,hty,h1,h2,?_⟩;have hA:=ha cpos pins s1 σ H1 _ I1 q1;rw[hs]at hA ⊢;refine Calls.callWith_builtin (by show(false||(backTo cpos (starEach es X.env)).any (·.1))=false;rw[hplain]<;>rfl) (Calls.evalArgs_plain ?_);exact af hA fun us s2 ⟨vs,H2,I2,r2,q2⟩=>hm pins s2 σ H2 x vs v us Q I2 r1 r2 q2
end
noncomputable def MtM(X:Cx)(id:String)(r:V->List V->Hp->VK->Prop):Prop :=
 ∀(pins:List (Addr×Obj))(s:Shared)(σ:St)(H:Hp)(x:V)(xs:List V)(v:Value)(us:List Value)(Q:VK),Inv X pins σ H s->RelV x v->aK xs us->r x xs H Q ->
  wpAny (model X.prog X.w) X.A (call (.builtin id) (v::us)) (EP X pins σ Q) X.xe s
theorem aK.one{x:V}{us:List Value}(h:aK [x] us):∃u,us=[u]/\RelV x u:=vals1 h
theorem aK.two{x y:V}{us:List Value}(h:aK [x,y] us):∃u v,us=[u,v]/\RelV x u/\RelV y v:=vals2 h
theorem aK.zero:∀{us:List Value},aK [] us->us=[]
 | _,.nil=>rfl
theorem aK.reverse{xs:List V}{us:List Value}(h:aK xs us):aK xs.reverse us.reverse:=by
 induction h with
 | nil=>exact .nil
 | cons r t ih=>rw[List.reverse_cons,List.reverse_cons];exact aK.append ih (.cons r .nil)
theorem aK.rep{xs:List V}{us:List Value}(h:aK xs us):∀k:Nat,aK (List.replicate k xs).flatten (List.replicate k us).flatten
 | 0=>.nil
 | k+1=>by
  rw[DD,DD,DP,DP];exact aK.append h (aK.rep h k)
theorem foldl_rep(its:List Value):∀(k:Nat)(acc:List Value),
  List.foldl (fun x1 x2=>x1++x2) acc.toArray (List.replicate k its.toArray)=(acc++(List.replicate k its).flatten).toArray
 | 0,acc=>by simp
 | k+1,acc=>by
  have e:acc.toArray++its.toArray=(acc++its).toArray:=by simp
  have e2:(acc++its)++(List.replicate k its).flatten=acc++(List.replicate (k+1) its).flatten:=by
   rw[DD,DP,List.append_assoc]
  rw[<- e2,<-foldl_rep its k (acc++its),<-e,DD,List.foldl_cons]
section
variable{X:Cx}{pins:List (Addr×Obj)}{σ:St}{H:Hp}{s:Shared}{l b:Addr}{xs ys zs:List V}
theorem Inv.lset{its its' :List Value}{n:Nat}{f:Array Value->Array Value}{t' :Nat}(I:Inv X pins σ H s)(hH:H l=some (.lst xs))
  (e:s.heap.get? l=some {cls:=.type "list",data:=.seq its.toArray n}) (hf:f its.toArray=its'.toArray) (hv:aK ys its') (hz:ys.length<=sizeLine) :
  Inv X pins σ (upd H l (.lst ys)) {s with heap:=s.heap.update l (Obj.mapSeq f),toks:=t'}:=by
 have q:=PySem.IsL.update e f;rw[hf]at q;refine I.write (x:=l) (e:=l) (by rw[hH];exact trivial) (.inl rfl) (fun b' u hb hu=>(DR s.heap (Obj.mapSeq f) (Du hb)).trans hu) ⟨_,q⟩ ?_;exact⟨hz,its',_,hv,q⟩
theorem Inv.lnew{its:List Value}{t' :Nat}(I:Inv X pins σ H s)(hv:aK ys its)(hz:ys.length<=sizeLine) :
  Inv X pins σ (upd H s.heap.objs.size (.lst ys)) {s with heap:=s.heap.push {cls:=.type "list",data:=.seq its.toArray},toks:=t'} :=
 I.laid (fun _ _ q=>CV _ q) (Ca _) ⟨hz,its,0,hv,Cs _ rfl⟩
theorem Inv.fresh(I:Inv X pins σ H s):H s.heap.objs.size=none:=I.hok.fresh (Ca _)
theorem Inv.lstM(I:Inv X pins σ H s)(hH:H l=some (.lst xs)):xs.length<=sizeLine/\∃(its:List Value)(n:Nat),aK xs its/\xs.length=its.length/\s.heap.get? l=some {cls:=.type "list",data:=.seq its.toArray n}:=by
 obtain⟨z,its,n,r,e⟩:=I.hok l _ hH;exact⟨z,its,n,r,r.length,e⟩
theorem sQ{n:Nat}(h:n<=sizeLine):Builtin.List.listTooLong n=false:=by
 unfold Builtin.List.listTooLong;exact C5 (by omega)
end
section
variable{X:Cx}
noncomputable def vM:V->List V->Hp->VK->Prop:=fun x vs H Q=>∃l xs y,x=.ref l/\vs=[y]/\H l=some (.lst xs)/\xs.length<sizeLine/\Q .non (upd H l (.lst (xs++[y])))
theorem ib:MtM X "list.append" vM:=by
 intro pins s σ H x vs v us Q I rx rv h;obtain⟨l,xs,y,rfl,rfl,hH,hz,q⟩:=h;cases rx;obtain⟨u,rfl,ru⟩:=rv.one;obtain⟨z,its,n,r,hl,e⟩:=I.lstM hH;refine call_meets F.slot_list_append ⟨_,e,rfl⟩ F.entry_list_append (F.args_list_append_2 _ _) (PySem.list_append l its.toArray n u (by rw[Cb];omega)) ⟨e,?_⟩;refine⟨.non,_,I.lset (its' :=its++[u]) hH e (by simp) (r.append (.cons ru .nil)) ?_,rfl,q⟩;rw[Cm,List.length_singleton];omega
noncomputable def rRep:R2:=fun x y H Q=>∃l k xs,x=.ref l/\y=.int k/\H l=some (.lst xs)/\ -(2^63)<=k/\k<2^63/\xs.length*k.toNat<=sizeLine /\
 ∀p,H p=none->Q (.ref p) (upd H p (.lst (List.replicate k.toNat xs).flatten))
theorem v3{α:Type}(xs:List α)(k:Nat):(List.replicate k xs).flatten.length=k*xs.length:=by
 induction k with
 | zero=>simp
 | succ k ih=>rw[DD,DP,Cm,ih,Nat.succ_mul,Nat.add_comm]
theorem yh:cg X (binaryOp .Mult) rRep:=by
 intro pins s σ H x y v u Q I rx ry h;obtain⟨l,k,xs,rfl,rfl,hH,h1,h2,hz,q⟩:=h;cases rx;obtain⟨t,rfl⟩:=ry;obtain⟨z,its,n,r,hl,e⟩:=I.lstM hH;have hlen:its.toArray.size*k.toNat<=sizeLine:=by rw[Cb,<-hl];exact hz
 have hcap:¬its.toArray.size*k.toNat>(2^63-1)/8:=by
  have:(sizeLine:Nat)<=(2^63-1)/8:=by decide
  omega
 have hfit:¬(!Builtin.List.listFitsIndex k)=true:=by
  rw[fitsIndex_both h1 h2];exact Cg
 have hlong:¬Builtin.List.listTooLong (its.toArray.size*k.toNat)=true:=by
  rw[sQ hlen];exact Cg
 have hnew:List.foldl (fun x1 x2=>x1++x2) #[] (List.replicate (if its.toArray.isEmpty=true then 0 else k.toNat) its.toArray)=(List.replicate k.toNat its).flatten.toArray:=by
  have f0:∀m:Nat,List.foldl (fun x1 x2=>x1++x2) #[] (List.replicate m its.toArray)=(List.replicate m its).flatten.toArray:=fun m=>by
   have:=foldl_rep its m [];rw[List.nil_append]at this;exact this
  rw[f0];cases its with
  | nil=>simp
  | cons a r' =>rw[Ci (by simp)]
 refine wpAny_binaryOp_repeat_ref (T:="list") (U:="int") (by decide) ⟨_,e,rfl⟩ (fun s' =>typeIs_int s' k t) noFill_list_mul F.fills_int_mul F.slot_int_rmul repeat_list F.slot_int_index.lookup
  (call_meets F.slot_int_rmul (typeIs_int s k t) F.entry_int_rmul (F.args_int_rmul_2 _ _) (int___rmul___int_list k t l its.toArray n)
   ⟨e,rfl,⟨_,e,rfl⟩,call_meets F.slot_list_mul ⟨_,e,rfl⟩ F.entry_list_mul (F.args_list_mul_2 _ _) (AutoListH.list___mul___list_int_3 l its.toArray n k t hfit hcap hlong) ⟨e,?_⟩⟩)
 rw[hnew];exact⟨.ref _,_,I.lnew (t' :=s.toks) (r.rep k.toNat) (by rw[v3,Nat.mul_comm];exact hz),rfl,q _ I.fresh⟩
end
section
variable{prog:Program}{w:World}{A:Around}{E:Value->Shared->Prop}{s:Shared}
end
section
variable{X:Cx}
end
end L2
namespace Att
open PySem PySem.W PySem.Calls PyProof.Rows
theorem fW{P:Params}{h:Heap}:∀(ns:List Int)(vs:List Value),WellAll P h vs (ns.map WData.int)->IntsAre vs ns:=by
 intro ns
 induction ns with
 | nil =>
  intro vs w;rw[D5]at w;cases w;exact .nil
 | cons n ns ih =>
  intro vs w;rw[Cq]at w;cases w with
  | cons a b =>
   cases a;exact .cons _ _ (ih _ b)
theorem oz{l:OpenLaw}{n:Nat}(hn:l.most=some n){P:Params}{h:Heap}{args:List WData}{vals:List Value}
  (hpre:l.row.toRowW.claim.pre args=true) (hwl:WellAll P h vals args) :
  ∃a vs ns,vals=[Value.ref a]/\args=[WData.list (ns.map WData.int)]/\h.get? a=some {cls:=.type "list",data:=.seq vs.toArray}/\IntsAre vs ns/\ns.length<=n:=by
 have hsh:WShape.hasAll [] args [.list .int]=true:=(pre_splitW hpre).1;have hc:l.pre.holds [] {args:=args}=true:=(pre_splitW hpre).2;obtain⟨d,r,rfl,h1,h2⟩:=hasAllW_cons hsh;obtain rfl:=hasAllW_nil h2;obtain⟨xs,rfl,h3⟩:=hasW_list h1;obtain⟨ns,rfl⟩:=items_int h3;have hlen:ns.length<=n:=by
  unfold OpenLaw.pre at hc;have h4:(WTm.not (.lt (.lit (.int (n:Int))) (.len (.arg 0)))).holds [] {args:=[.list (ns.map .int)]}=true:=by
   have h4:=(holds_andW hc).1;rw[hn]at h4;exact h4
  have h5:=condW_of h4 (w_not (w_lt w_lit (w_len_list (w_arg rfl))));rw[CW]at h5;refine Nat.le_of_not_lt fun q=> ?_;have q' :(n:Int)<((ns.length:Nat):Int):=by omega
  first
   | (rw[Ed q']at h5;exact absurd h5 (by decide))
   | (simp at h5;omega)
 cases hwl with
 | cons w1 w2 =>
  cases w2;cases w1 with
  | list ho hall=>exact⟨_,_,ns,rfl,rfl,ho,fW ns _ hall,hlen⟩
theorem o8(l:OpenLaw)(args:List WData):l.row.toRowW.claim.post args (.bool true) args=true :=
 postW_of (r:=l.row.toRowW) (X:=(true==true))
  (show WShape.has [] (.bool true) .bool=true by first|rfl|decide|simp[WShape.has,WShape.arms,WShape.armsAll])
  (show(WTm.eq .res (.lit (.bool true))).value [] {args:=args,res:=some (.bool true),after:=args}=some (.bool (true==true))from w_eq_bool (w_res rfl) w_lit) rfl
theorem lK{l:OpenLaw}{n:Nat}{q:Program}{loose:List Str}{XP:(Str->Option Value)->Heap->Prop}{YP:World->Heap->Prop}{d:DefRec}
  (hn:l.most=some n) (hdf:d.params.defaults=[])
  (call:∀(w:World)(s₀ s₁:Shared)(mg mb:Str->Option Value)(fa:Addr)(o:Obj)(pm cd doc:Value)(a:Addr)(vs:List Value)(ns:List Int),
   Ground q loose [] XP w s₀ mg mb s₁.heap->YP w s₁.heap ->
   s₁.heap.get? fa=some o->o.data=.func (docDef d.name d.params d.body d.scope pm cd doc)->s₁.heap.CodeRec cd d.name->mg d.name=some (.ref fa) ->
   s₁.heap.get? a=some {cls:=.type "list",data:=.seq vs.toArray}->IntsAre vs ns->ns.length<=n->s₁.gens= #[] ->
   codeAny (model l.prog w) callerA (.call (.ref fa) ⟨[.ref a],[]⟩) (fun r s' =>r=.ok (.ret (.bool true))/\OldK s₁.heap s'.heap/\s'.os=s₁.os/\AllBare s'.gens) s₁) :
  WalkO q loose XP YP l.row.toRowW d [] (fun f vs=>PySem.call f vs):=by
 intro w s₀ s₁ mg mb G Y fa o pm cd doc dV kV ho hd hcd hD hmg hg args vals as hpre hlay hrd hwl hlo;obtain rfl:dV=.none:=Dflts.none hD hdf;obtain rfl:kV=.none:=Dflts.noKw hD;obtain⟨a,vs,ns,rfl,rfl,hobj,hints,hlen⟩:=oz hn hpre hwl;refine enter_call (codeAny_mono (call w s₀ s₁ mg mb fa o pm cd doc a vs ns G Y ho (fd_plain hd) hcd hmg hobj hints hlen hg) fun r s' hq=> ?_);obtain⟨rfl,h2,h3,h4⟩:=hq;exact⟨.inl ⟨.bool true,.bool true,[],rfl,fun _=>rfl,.bool true,o8 l _,fun _=>⟨List.Pairwise.nil,fun _ hm=>(nomatch hm)⟩⟩,h2,h3,h4⟩
section
variable{prog:Program}{w:World}{A:Around}{E:Value->Shared->Prop}{s:Shared}{K:Frag}
end
end Att
namespace L2
open PySem PySem.Spec PyProof.Rows
theorem oh{vs:List Value}{ns:List Int}(h:IntsAre vs ns):aK (ns.map V.int) vs:=by
 induction h with
 | nil=>exact .nil
 | cons n t h ih=>exact .cons ⟨t,rfl⟩ ih
noncomputable def AS(H:Hp):Prop:=∀b,H b=none\/∃o xs,H b=some (.frz o (.lst xs))
theorem sj{P:Program}{w:World}{K:W.Frag}{mg mb:Str->Option Value}{CX:lg}{k:Nat}{fa a:Addr}{fd:FuncData}{x:Str}{sp:Sp}{s₁:Shared}{vs:List Value}{ns:List Int}
  (KX:K.In s₁.heap) (hns:s₁.heap.Ns mainGlobals mg) (hb:s₁.heap.Ns builtinsNs mb) (hbb:∀x:Str,x≠"__name__"->mb x=bootBuiltins x) (hlim:s₁.heap.NoLimit) (hg:s₁.gens= #[])
  (ha:s₁.heap.get? a=some {cls:=.type "list",data:=.seq vs.toArray}) (hi:IntsAre vs ns) (hl:ns.length<=sizeLine) (hr:bO k callerA)
  (F:∀base:Heap,K.In base->base.Ns mainGlobals mg->aj P w K mg base CX k fa fd [x] sp) (hbind:∀(s:Shared)(u:Value),BindsTo s fd ⟨[u],[]⟩ [(x,u)])
  (hsp:∀H:Hp,AS H->ar K H a (ns.map V.int)->sp [.ref a] H (fun v _=>v=.bl true) fun _ _ _=>False)
  (hCX:∀H e s',CX [] H s₁ (fun _ _ _=>False) e s' ->False) :
  codeAny (model P w) callerA (.call (.ref fa) ⟨[.ref a],[]⟩) (fun r s' =>r=.ok (.ret (.bool true))/\OldK s₁.heap s'.heap/\s'.os=s₁.os/\AllBare s'.gens) s₁:=by
 have rv:=oh hi;have BZ:=hi.length
 have core:∀H:Hp,AS H->ar K H a (ns.map V.int)->bi P w H s₁.heap->(∀b,H b≠none->b=a)->(H a≠none->K.lookup a=none) ->
   codeAny (model P w) callerA (.call (.ref fa) ⟨[.ref a],[]⟩) (fun r s' =>r=.ok (.ret (.bool true))/\OldK s₁.heap s'.heap/\s'.os=s₁.os/\AllBare s'.gens) s₁:=by
  intro H hO hS hok hA hK;have base_of:∀{b:Addr}{o:Obj},s₁.heap.get? b=some o->H b=none->(jh s₁.heap H).get? b=some o:=fun e n=>tJ e n;have noA:∀{b:Addr}{o:Obj}{es:Array DictEntry}{ep:Nat},s₁.heap.get? b=some o->o.data=.dict es ep->H b=none:=fun{b o es ep} e d=>by
   cases q:H b with
   | none=>rfl
   | some u =>
    have e' :b=a:=hA b (by rw[q];simp);subst e';rw[ha]at e;cases e;have d' :Data.seq vs.toArray _=Data.dict es ep:=d;cases d'
  have nsK:∀{b:Addr}{m:Str->Option Value},s₁.heap.Ns b m->(jh s₁.heap H).Ns b m:=fun{b m} ⟨o,es,ep,e,d,r⟩=>⟨o,es,ep,base_of e (noA e d),d,r⟩
  have hKb:K.In (jh s₁.heap H):=fun b o e=>base_of (KX b o e) (by
   cases q:H b with
   | none=>rfl
   | some u =>
    have e' :b=a:=hA b (by rw[q];simp);subst e';rw[hK (by rw[q];simp)]at e;cases e)
  have hM:Mod K mg (jh s₁.heap H):=⟨hKb,nsK hns,⟨mb,nsK hb,hbb⟩,let⟨mc,h1,h2⟩:=hlim;⟨mc,nsK h1,h2⟩⟩;have e0:nV P w K mg (jh s₁.heap H) callerA [] s₁ H:=⟨rfl,hM,fun b o e=>vm e,Nat.le_of_eq (pT _ _),trivial,fun b hb=>absurd (show b∈([]:List Addr)from hb) (by simp),hok,.of_eq hg⟩;refine codeAny_mono ((F _ hKb (nsK hns)).run callerA [] s₁ H ⟨[.ref a],[]⟩ [.ref a] [.ref a] _ _ hr e0 (hbind s₁ (.ref a)) (.cons rfl .nil) (hsp H hO hS)) fun r s' h=> ?_;cases r with
  | error e=>exact(hCX H e s' h).elim
  | ok fl =>
   cases fl with
   | next=>exact False.elim h
   | brk=>exact False.elim h
   | cont=>exact False.elim h
   | ret u =>
    obtain⟨v,H',os,bare,un,hok',r',q⟩:=h;have q' :v=.bl true:=q;subst q';obtain rfl:u=Value.bool true:=r';refine⟨rfl,OldK.of_keep fun b o e=> ?_,os,bare⟩;cases q:H b with
    | none=>exact un.keep b o e q (by intro z;exact absurd (show b∈([]:List Addr)from z) (by simp)) (by simp)
    | some u =>
     rcases hO b with z|⟨ob,xs,z⟩
     ·rw[q]at z;cases z
     ·have z2:=un.frzs b ob _ z
      obtain⟨e1,_⟩:=hok b _ z;obtain⟨e2,_⟩:=hok' b _ z2;rw[e]at e1;cases e1;exact e2
 cases hk:K.lookup a with
 | some o =>
  have e:=KX a o hk;rw[ha]at e;cases e;refine core (fun _=>none) (fun _=>.inl rfl) (.inr ⟨_,vs.toArray,_,hk,rfl,rfl,rfl,by rw[Cb,BZ];exact hl,by simpa using rv⟩) (fun b u z=>by have z' :(none:Option HO)=some u:=z;cases z') (fun b z=>absurd rfl z) fun z=>absurd rfl z
 | none =>
  refine core (fun b=>if b=a then some (.frz {cls:=.type "list",data:=.seq vs.toArray} (.lst (ns.map V.int)))else none) (fun b=> ?_) (.inl (.inr ⟨{cls:=.type "list",data:=.seq vs.toArray},Cd rfl⟩)) (fun b u z=> ?_) (fun b z=> ?_) fun _=>hk
  ·by_cases hb:b=a
   ·exact .inr ⟨_,_,Cd hb⟩
   ·exact .inl (Ci hb)
  ·by_cases hb:b=a
   ·have z' :=(Cd hb).symm.trans z
    cases z';subst hb;exact⟨ha,by rw[CW];exact hl,vs,_,rv,ha⟩
   ·have z' :=(Ci hb).symm.trans z
    cases z'
  ·by_cases hb:b=a
   ·exact hb
   ·exact absurd (Ci hb) z
theorem uf{l:W.OpenLaw}{n k:Nat}{q:Program}{loose:List Str}{XP:(Str->Option Value)->Heap->Prop}{YP:World->Heap->Prop}{d:DefRec}{K:Params->W.Frag}{CX:World->lg}{sp:World->Sp}{x:Str}
  (hn:l.most=some n) (hn2:n<=sizeLine) (hdf:d.params.defaults=[]) (hr:bO k callerA)
  (hY:∀(w:World)(h:Heap),YP w h->(K w.params).In h)
  (F:∀(w:World)(mg:Str->Option Value)(fa:Addr)(h:Heap),(K w.params).In h->h.Ns mainGlobals mg->mg d.name=some (.ref fa) ->
   ∃fd:FuncData,(∀(s:Shared)(u:Value),BindsTo s fd ⟨[u],[]⟩ [(x,u)]) /\
    ∀base:Heap,(K w.params).In base->base.Ns mainGlobals mg->aj l.prog w (K w.params) mg base (CX w) k fa fd [x] (sp w))
  (hsp:∀(w:World)(H:Hp)(a:Addr)(ns:List Int),ns.length<=n->AS H->ar (K w.params) H a (ns.map V.int)->sp w [.ref a] H (fun v _=>v=.bl true) fun _ _ _=>False)
  (hCX:∀(w:World)(H:Hp)(s:Shared)(e:Value)(s' :Shared),CX w [] H s (fun _ _ _=>False) e s' ->False) :
  W.WalkO q loose XP YP l.row.toRowW d [] (fun f vs=>PySem.call f vs):=by
 refine Att.lK hn hdf fun w s₀ s₁ mg mb fa o pm cd doc a vs ns G Y ho hd hcd hmg hobj hints hlen hg=> ?_;have KX:=hY w _ Y;obtain⟨fd,hb,hF⟩:=F w mg fa _ KX G.T.g hmg;exact sj KX G.T.g G.T.b G.T.builtins G.T.nolimit hg hobj hints (C9 hlen hn2) hr hF hb (fun H hO hS=>hsp w H a ns hlen hO hS) fun H e s' =>hCX w H s₁ e s'
noncomputable def bG(s:Stmt):Arguments:=match s with
 | .FunctionDef _ a _ _ _ _ _ _ _ _=>a
 | _=>{posonlyargs:=[],args:=[],vararg:=none,kwonlyargs:=[],kw_defaults:=[],kwarg:=none,defaults:=[]}
noncomputable def aZ(s:Stmt):List Stmt:=match s with
 | .FunctionDef _ _ b _ _ _ _ _ _ _=>b
 | _=>[]
noncomputable def aI(s:Stmt):Scope:=match s with
 | .FunctionDef _ _ _ _ _ _ sc _ _ _=>sc
 | _=>{kind:=.function,names:=[],isGenerator:=false,isCoroutine:=false}
noncomputable abbrev dg:lg:=fun _ _ _ _ _ _=>False
noncomputable abbrev E0:XK:=fun _ _ _=>False
theorem iX{X:Cx}:jv dg X E0:=fun _ _ _ _ _ _ _ h=>h.elim
structure Ad(K:W.Frag)(x qual:Str)(st:Stmt)(f:Addr)(fd:FuncData):Prop where
 ex:∃(oc:Value)(od:Option Addr)(kV doc pm:Value)(an:Option Addr)(cdv ct:Value)(osl:Array (Option Value)),
  fd=W.fnOf x qual (bG st) (aZ st) (aI st) .none kV doc pm an cdv ct/\K.lookup f=some ⟨oc,od,.func fd,osl⟩/\W.codeIn K cdv qual=true
 kp:W.keepIn K (.ref f)=true
section
variable{P:Program}{w:World}{K:W.Frag}{mg:Str->Option Value}{base:Heap}
theorem Ad.ok{x qual:Str}{st:Stmt}{f:Addr}{fd:FuncData}{N ps:List Str}{k:Nat}{sp:Sp}(F:Ad K x qual st f fd)(S:bH N ps (aI st))(len:∀vs H Q E,sp vs H Q E->vs.length=ps.length)
  (hbody:∀(cdv:Value)(A:Around)(outer:List Env)(s:Shared)(H:Hp)(vs:List V)(Q:VK)(E:XK),bO k (A.deeper (envOfC qual (aI st) s.heap.objs.size f cdv))->sp vs H Q E ->
   ∃t,jz (eH dg P w K mg base N qual (aI st) f cdv A outer s H E).nox (aZ st) t/\t {nx:=fun _ H' =>Q .non H',rt:=Q} (start N vs) H):aj P w K mg base dg (k+1) f fd ps sp:=by
 obtain⟨oc,od,kV,doc,pm,an,cdv,ct,osl,rfl,lk,hcd⟩:=F.ex;refine oN lk hcd S len fun A outer s H vs Q E hr hsp=> ?_;obtain⟨t,h,q⟩:=hbody cdv A outer s H vs Q E hr hsp;exact⟨t,h.nox,q⟩
theorem Ad.binds{x qual:Str}{st:Stmt}{f:Addr}{fd:FuncData}{ps:List Str}(F:Ad K x qual st f fd)
  (h:∀(kV doc pm:Value)(an:Option Addr)(cdv ct:Value)(us:List Value),us.length=ps.length->bindArgs (W.fnOf x qual (bG st) (aZ st) (aI st) .none kV doc pm an cdv ct) ⟨us,[]⟩=pure (ps.zip us)):Binds K fd ps []:=by
 obtain⟨oc,od,kV,doc,pm,an,cdv,ct,osl,rfl,lk,hcd⟩:=F.ex;exact .all (h kV doc pm an cdv ct)
theorem tL{x qual:Str}{st:Stmt}{f:Addr}{oc:Value}{od an:Option Addr}{osl:Array (Option Value)}{kV doc pm cdv ct:Value}(l:K.lookup f=some ⟨oc,od,.func (W.fnOf x qual (bG st) (aZ st) (aI st) .none kV doc pm an cdv ct),osl⟩)
  (c:W.codeIn K cdv qual=true) (k:W.keepIn K (.ref f)=true):Ad K x qual st f (W.fnOf x qual (bG st) (aZ st) (aI st) .none kV doc pm an cdv ct):=⟨⟨oc,od,kV,doc,pm,an,cdv,ct,osl,rfl,l,c⟩,k⟩
end
theorem Bi{A:Around}{k:Nat}(hr:bO k A):A.units+1<cLine:=Ef (Nat.add_le_add_left (by decide:1<=64) _) hr.units
section
variable{X:Cx}
theorem pv(i:Nat){x:Str}{pos:Pos}(hN:X.N[i]? =some x:=by rfl)(hv:CH X.env.scope x:=by first|exact Or.inl rfl|exact Or.inr (Or.inl rfl)|exact Or.inr (Or.inr rfl))(hd:(x==("__debug__":Str))=false:=by decide)
  (hcd:(x==("__classdict__":Str))=false:=by decide):PE X (.Name x pos) (yE i):=jT hN hv hd hcd
end
theorem ef{A B:Prop}(h:B):if false=true then A else B:=by
 rw[Ci Cg];exact h
theorem iC{A B:Prop}(h:A):if true=true then A else B:=by
 rw[Cd rfl];exact h
noncomputable def aA(H H' :Hp):Prop:=∀b o,H b=some o->H' b=some o
theorem aA.refl(H:Hp):aA H H:=fun _ _ h=>h
theorem aA.trans{H H1 H2:Hp}(a:aA H H1)(b:aA H1 H2):aA H H2:=fun c o h=>b c o (a c o h)
theorem aA.free{H H' :Hp}(e:aA H H'){l:Addr}(h:H' l=Option.none):H l=Option.none:=by
 cases q:H l with
 | none=>rfl
 | some o =>
  rw[e l o q]at h;cases h
theorem aA.seq{K:W.Frag}{H H' :Hp}{a:Addr}{xs:List V}(e:aA H H')(h:ar K H a xs):ar K H' a xs:=by
 rcases h with(h|⟨o,h⟩)|h
 ·exact .inl (.inl (e _ _ h))
 ·exact .inl (.inr ⟨o,e _ _ h⟩)
 ·exact .inr h
end L2
set_option maxHeartbeats 4000000
namespace UM
open PySem PySem.Builtin PySem.Builtin.Str
theorem ft{x y:Str}(h:x.cps.toList=y.cps.toList):x=y:=PySem.Str.ext' (Array.toList_inj.mp h)
structure bV(m:Nat)(rows:List Str):Prop where
 some:rows≠[]
 few:rows.length<=m
 wide:∃k,1<=k/\k<=m/\∀r∈rows,r.length=k
 signs:∀r∈rows,∀c∈r.cps.toList,c=120\/c=46
end UM
namespace L2
open PySem PySem.Spec PyProof.Rows
noncomputable def eJ(env:Env):List (Str×NameKind)->List (Str×Addr)->List (Str×Addr)
 | [],acc=>acc
 | (n,k)::r,acc=>if(k==NameKind.free)=true then eJ env r ((n,(env.cells.lookup n).getD 0)::acc)else eJ env r acc
theorem eo{env:Env}{n:Str}{k:NameKind}{r:List (Str×NameKind)}{acc:List (Str×Addr)}(h:(k==NameKind.free)=true) :
  eJ env ((n,k)::r) acc=eJ env r ((n,(env.cells.lookup n).getD 0)::acc):=by
 show(if(k==NameKind.free)=true then _ else _)=_;rw[Cd h]
theorem dc{env:Env}{n:Str}{k:NameKind}{r:List (Str×NameKind)}{acc:List (Str×Addr)}(h:¬(k==NameKind.free)=true) :
  eJ env ((n,k)::r) acc=eJ env r acc:=by
 show(if(k==NameKind.free)=true then _ else _)=_;rw[Ci h]
theorem lD{env:Env}{n:Str}{c:Addr}(h:env.cells.lookup n=some c):cellOf env n=pure c:=by
 unfold cellOf;rw[h]
theorem nF{scope:Scope}{env:Env}(h:∀x∈scope.names,x.2=.free->∃c,env.cells.lookup x.1=some c):closureFor scope env=pure (eJ env scope.names []):=by
 unfold closureFor
 suffices q:∀(l:List (Str×NameKind))(acc:List (Str×Addr)),(∀x∈l,x.2=.free->∃c,env.cells.lookup x.1=some c) ->
   (forIn l acc (fun(x:Str×NameKind) (r:List (Str×Addr))=>if(x.2==NameKind.free)=true then(do let a<-cellOf env x.1;pure (ForInStep.yield ((x.1,a)::r)))else pure (ForInStep.yield r)):Sem (List (Str×Addr)))=pure (eJ env l acc)by
  exact(DT (fun m=>m >>= pure) (q scope.names [] h)).trans (by rfl)
 intro l
 induction l with
 | nil=>intro acc _;rfl
 | cons x l ih =>
  intro acc hl;obtain⟨n,k⟩:=x;rw[List.forIn_cons]
  by_cases hk:(k==NameKind.free)=true
  ·obtain⟨c,hc⟩:=hl (n,k) Cv (by simpa using hk)
   rw[eo hk];simp only[hk,Eb];rw[lD hc];have e:(env.cells.lookup n).getD 0=c:=by rw[show env.cells.lookup n=some c from hc];rfl
   rw[e];exact ih _ fun y hy=>hl y (Cj _ hy)
  ·rw[dc hk]
   simp only[hk,ET];exact ih _ fun y hy=>hl y (Cj _ hy)
theorem bz{env:Env}:∀{l:List (Str×NameKind)}{acc:List (Str×Addr)}{x:Str}{c:Addr},(∀y∈l,y.2=.free->∃c,env.cells.lookup y.1=some c) ->
  (eJ env l acc).lookup x=some c->acc.lookup x=some c\/env.cells.lookup x=some c
 | [],acc,x,c,_,h=>.inl h
 | (n,k)::l,acc,x,c,hl,h=>by
  have hl' :∀y∈l,y.2=.free->∃c,env.cells.lookup y.1=some c:=fun y hy=>hl y (Cj _ hy)
  by_cases hk:(k==NameKind.free)=true
  ·rw[eo hk]at h
   rcases bz hl' h with q|q
   ·rw[DA]at q
    cases hx:(x==n)with
    | true =>
     rw[hx]at q;have hxn:x=n:=by simpa using hx
     subst hxn;obtain⟨c',hc'⟩:=hl (x,k) Cv (by simpa using hk);have hc2:env.cells.lookup x=some c' :=hc';rw[hc2]at q
     right
     rw[hc2]
     simpa using q
    | false =>
     rw[hx]at q;exact .inl q
   ·exact .inr q
  ·rw[dc hk]at h
   exact bz hl' h
theorem eI{env:Env}:∀{l:List (Str×NameKind)}{acc:List (Str×Addr)}{x:Str},((x,NameKind.free)∈l\/∃c,acc.lookup x=some c)->∃c,(eJ env l acc).lookup x=some c
 | [],acc,x,h=>by
  rcases h with h|h
  ·cases h
  ·exact h
 | (n,k)::l,acc,x,h=>by
  by_cases hk:(k==NameKind.free)=true
  ·rw[eo hk]
   refine eI ?_
   rcases h with h|⟨c,h⟩
   ·rcases Co.mp h with e|e
    ·right
     injection e with e1 e2
     subst e1;exact⟨(env.cells.lookup x).getD 0,by rw[DA];simp⟩
    ·exact .inl e
   ·right
    rw[DA];cases hx:(x==n)with
    | true=>exact⟨_,rfl⟩
    | false=>exact⟨c,h⟩
  ·rw[dc hk]
   refine eI ?_
   rcases h with h|h
   ·rcases Co.mp h with e|e
    ·injection e with e1 e2
     subst e2;exact absurd rfl hk
    ·exact .inl e
   ·exact .inr h
section
variable{prog:Program}{w:World}{A:Around}{R:Result->Shared->Prop}{s:Shared}
theorem jn{elt target iter:Expr}{ifs:List Expr}{scope:Scope}{pos:Pos}{it acc:Value}{env:Env}(I:Nat->Shared->Prop)
  (turn:∀n s,I n s->wpAny (model prog w) A (pyNext it) (fun r s₁=>match r with
   | none=>R (.ok .next) s₁
   | some v=>wpAny (model prog w) A (letOwnedTupleGo target it v) (fun _ s₁' =>wpAny (model prog w) A (assign target env v) (fun _ s₂ =>
     wpAny (model prog w) A (forIn ifs true fun c r=>if r=true then do let ok<-isTrue c env (eval c env);pure (ForInStep.yield ok)else pure (ForInStep.yield r)) (fun ok s₃ =>
      if ok=true then wpAny (model prog w) A (eval elt env) (fun x s₄ =>
       wpAny (model prog w) A (call (.builtin "list.append") [acc,x]) (fun _ s₅=>∃m,m<n/\I m s₅) (notedBy (model prog w) A env fun e s' =>R (.error e) s') s₄) (notedBy (model prog w) A env fun e s' =>R (.error e) s') s₃
      else∃m,m<n/\I m s₃) (notedBy (model prog w) A env fun e s' =>R (.error e) s') s₂) (notedBy (model prog w) A env fun e s' =>R (.error e) s') s₁')
       (notedBy (model prog w) A env fun e s' =>R (.error e) s') s₁) (notedBy (model prog w) A env fun e s' =>R (.error e) s') s)
  (n:Nat) (h:I n s) :
  codeAny (model prog w) A (.compLoop (.ListComp elt [⟨target,iter,ifs,0⟩] scope pos) 0 it acc env) R s:=by
 refine codeAny_loop rfl I (fun n s hI=> ?_) n h;show wpAny _ A ((compTurn (.ListComp elt [⟨target,iter,ifs,0⟩] scope pos) 0 it acc env).onRaise (fun x=>do noteFrame x env;theTreesLotGoes x)) _ _ s;refine wpAny_noted ?_;rw[compTurn_list];refine CU (wpAny_standAt (CU (DS (turn n s hI) (fun r s₁ h₁=> ?_) fun _ _ h' =>h')));cases r with
 | none=>exact Ce h₁
 | some v =>
  refine CU (DS h₁ (fun _ s₁' h₁' => ?_) fun _ _ h' =>h');refine CU (DS h₁' (fun _ s₂ h₂=>CU (DS h₂ (fun ok s₃ h₃=> ?_) fun _ _ h' =>h')) fun _ _ h' =>h');cases ok with
  | false=>exact Ce ⟨rfl,h₃⟩
  | true =>
   exact CU (CU (DS h₃ (fun x s₄ h₄=>CU (DS h₄ (fun _ s₅ h₅=>Ce (Ce ⟨rfl,h₅⟩)) fun _ _ h' =>h')) fun _ _ h' =>h'))
end
noncomputable abbrev ai(X:Cx)(N' :List Str)(scope:Scope)(C:Addr)(s2:Shared)(H2:Hp)(fp:List Addr)(cl:List (Str×Addr)):Cx where
 prog:=X.prog
 w:=X.w
 K:=X.K
 mg:=X.mg
 base:=X.base
 A:=X.A
 N:=N'
 s₀:=s2
 H₀:=H2
 env:=compEnvC scope cl C X.env
 outer:=X.stack
 stack:=X.stack
 ex:=fp
 fn:=fun x=>scope.names.lookup x==some .cell
 calm:=X.calm
 pn:=[]
 xe:=fun _ _=>False
noncomputable def az(X:Cx)(scope:Scope):List Str->List (Option Nat)->Prop
 | [],[]=>True
 | _::ns,none::r=>az X scope ns r
 | x::ns,some i::r=>(X.N[i]? =some x/\scope.names.lookup x=some .free/\(X.env.scope.names.lookup x=some .cell\/X.env.scope.names.lookup x=some .free))/\az X scope ns r
 | _,_=>False
noncomputable def ax(src:List (Option Nat))(σ:St):St:=src.map fun o=>match o with
 | none=>none
 | some i=>(σ[i]?).join
theorem az.len{X:Cx}{scope:Scope}:∀{N' :List Str}{src:List (Option Nat)},az X scope N' src->src.length=N'.length
 | [],[],_=>rfl
 | _::_,none::_,h=>DT (·+1) (az.len (show az X scope _ _ from h))
 | _::_,some _::_,h=>DT (·+1) (az.len h.2)
 | [],_::_,h=>by cases h
 | _::_,[],h=>by cases h
theorem az.at{X:Cx}{scope:Scope}{σ:St}:∀{N' :List Str}{src:List (Option Nat)}{j:Nat}{x:Str}{v:V},az X scope N' src->N'[j]? =some x->(ax src σ)[j]? =some (some v) ->
  ∃i:Nat,X.N[i]? =some x/\σ[i]? =some (some v)/\scope.names.lookup x=some .free/\(X.env.scope.names.lookup x=some .cell\/X.env.scope.names.lookup x=some .free)
 | [],[],j,x,v,_,h,_=>by simp at h
 | y::ns,none::r,0,x,v,_,_,h=>by simp[ax]at h
 | y::ns,none::r,j+1,x,v,s,h,h' =>az.at (N' :=ns) (src:=r) (j:=j) s (by simpa using h) (by simpa [ax]using h')
 | y::ns,some i::r,0,x,v,s,h,h' =>by
  have e:y=x:=by simpa using h
  subst e;have q:(σ[i]?).join=some v:=by simpa [ax]using h'
  refine⟨i,s.1.1,?_,s.1.2.1,s.1.2.2⟩;cases z:σ[i]? with
  | none=>rw[z]at q;cases q
  | some o=>rw[z]at q;exact DT some q
 | y::ns,some i::r,j+1,x,v,s,h,h' =>az.at (N' :=ns) (src:=r) (j:=j) s.2 (by simpa using h) (by simpa [ax]using h')
 | [],_::_,_,_,_,s,_,_=>by cases s
 | _::_,[],_,_,_,s,_,_=>by cases s
noncomputable def qB(X:Cx)(ifs:List Expr)(t:TT):Prop :=
 ∀(pins:List (Addr×Obj))(s:Shared)(σ:St)(H:Hp)(Q:Bool->Hp->Prop),Inv X pins σ H s->t σ H Q ->
  wpAny (model X.prog X.w) X.A (forIn ifs true fun c r=>if r=true then do let ok<-isTrue c X.env (eval c X.env);pure (ForInStep.yield ok)else pure (ForInStep.yield r)) (TP X pins σ Q) X.xe s
noncomputable def Am:TT:=fun _ H Q=>Q true H
theorem kQ{X:Cx}:qB X [] Am:=fun _ _ _ H _ I h=>wpAny_tests_nil ⟨H,I,h⟩
theorem kP{X:Cx}{c:Expr}{t:TT}(h:PT X c t):qB X [c] t:=fun pins s σ H Q I hw=>wpAny_tests_one (h pins s σ H Q I hw)
noncomputable def AU(X:Cx)(N' :List Str)(src:List (Option Nat))(scope:Scope)(target:Expr)(ifs:List Expr)(elt:Expr)(D:Addr)(σ:St)(x:V)(ys:List V)(H' :Hp)(N:List V->Hp->Prop):Prop :=
 ∀(C:Addr)(s2:Shared)(H2:Hp)(fp:List Addr)(cl:List (Str×Addr)),∃(g:TG)(tt:TT)(te:TE),PG (ai X N' scope C s2 H2 fp cl) target g/\qB (ai X N' scope C s2 H2 fp cl) ifs tt/\PE (ai X N' scope C s2 H2 fp cl) elt te /\
  g x (ax src σ) H' fun σ2 H3=>(σ2.length=N'.length/\∀(j:Nat)(v:V),(ax src σ)[j]? =some (some v)->σ2[j]? =some (some v)) /\
   tt σ2 H3 fun b H4=>if b=true then te σ2 H4 fun v H5=>H5 D=some (.lst ys)/\ys.length<sizeLine/\N (ys++[v]) (upd H5 D (.lst (ys++[v])))else N ys H4
noncomputable def yF(X:Cx)(N' :List Str)(src:List (Option Nat))(scope:Scope)(target:Expr)(ifs:List Expr)(elt:Expr)(wi:TI):TE:=fun σ H Q=>wi σ H fun J H1=>∀D,H1 D=none ->
 ∃W:Nat->Nat->List V->Hp->Prop,(∃m,W 0 m [] (upd H1 D (.lst [])))/\∀i m ys H,W i m ys H ->
  (J.stop i H/\Q (.ref D) H)\/(J.go i H/\∀x H',J.yld i H x H' ->AU X N' src scope target ifs elt D σ x ys H' fun ys' H'' =>∃m',m' <m/\W (i+1) m' ys' H'')
section
variable{X:Cx}{pins:List (Addr×Obj)}{σ:St}{H:Hp}{s:Shared}
structure qF(X:Cx)(scope:Scope)(C:Addr)(cl:List (Str×Addr)):Prop where
 ex:∃own,cl=own++eJ X.env scope.names []/\(∀n c,(n,c)∈own->C<c/\scope.names.lookup n=some .cell)/\(∀x,(x,NameKind.cell)∈scope.names->∃c,own.lookup x=some c)/\own.Pairwise fun x y=>x.2≠y.2
theorem qF.sub{scope:Scope}{C:Addr}{cl:List (Str×Addr)}(k:qF X scope C cl)(hfree:∀y∈scope.names,y.2=.free->∃c,X.env.cells.lookup y.1=some c){x:Str}{c:Addr}(e:cl.lookup x=some c) :
  (C<c/\scope.names.lookup x=some .cell)\/(scope.names.lookup x≠some .cell\/True)/\X.env.cells.lookup x=some c:=by
 obtain⟨own,rfl,h1,h2,h3⟩:=k.ex;rw[Dj]at e;cases z:own.lookup x with
 | some c' =>
  rw[z]at e;cases e;exact .inl (h1 x c (C6 z))
 | none =>
  rw[z]at e
  rcases bz hfree e with q|q
  ·cases q
  ·exact .inr ⟨.inr trivial,q⟩
theorem wU{N' :List Str}{scope:Scope}{C:Addr}{fp:List Addr}{cl:List (Str×Addr)}(I:Inv X pins σ H s)(hkind:scope.kind=.function)(k:qF X scope C cl)
  (hfree:∀y∈scope.names,y.2=.free->∃c,X.env.cells.lookup y.1=some c) (hC:s.heap.objs.size<=C) (hf:∀b∈fp,fE X pins H b) (hlt:∀b∈fp,b<s.heap.objs.size):(ai X N' scope C s H fp cl).Ok:=by
 have old:∀x c,X.env.cells.lookup x=some c->c<s.heap.objs.size:=fun x c e=>let⟨_,q⟩:=I.cell x c e;q.lt
 obtain⟨own,hcl,h1,h2,h3⟩:=k.ex;have look:∀x c,cl.lookup x=some c->(x,c)∈own\/X.env.cells.lookup x=some c:=fun x c e=>by
  rw[hcl,Dj]at e;cases z:own.lookup x with
  | some c' =>rw[z]at e;cases e;exact .inl (C6 z)
  | none =>
   rw[z]at e
   rcases bz hfree e with q|q
   ·cases q
   ·exact .inr q
 refine⟨I.ok.mod,hkind,I.ok.glob,I.ok.blt,hC,fun x y c e1 e2=> ?_,fun x hx=> ?_,fun x c h e=> ?_,I.ok.hd,I.ok.frames,.inl rfl,fun b hb=>⟨?_,fun x c e=> ?_⟩,
  I.bs,C9 I.ok.bsz I.sz,fun b o e hb=> ?_,fun b hb hs=> ?_,I.stack,I.stkFree⟩
 ·rcases look x c e1 with q1|q1<;>rcases look y c e2 with q2|q2
  ·exact PySem.name_of_addr h3 q1 q2
  ·exact absurd (D2 (old y c q2) (Ef hC (h1 x c q1).1)) (De _)
  ·exact absurd (D2 (old x c q1) (Ef hC (h1 y c q2).1)) (De _)
  ·exact I.ok.inj x y c q1 q2
 ·-- a name of the block's that is no local of it is one that it closes over,or has a cell of its own
  have hx' :(relabel scope X.env).names.lookup x=some .cell\/(relabel scope X.env).names.lookup x=some .free:=hx;have go:∀k,(k=NameKind.cell\/k=NameKind.free)->(relabel scope X.env).names.lookup x=some k->(x,NameKind.free)∈scope.names\/(x,NameKind.cell)∈scope.names:=fun k hk e=>by
   have m:=C6 e;obtain⟨⟨n,k'⟩,hm,e'⟩:=DY.mp m
   by_cases hfr:k' =NameKind.free
   ·subst hfr
    have e'' :(if(NameKind.free==NameKind.free&&X.env.scope.kind== .function&&X.env.kindOf n==some .cell)=true then(n,NameKind.cell)else(n,NameKind.free))=(x,k):=e';have hn:n=x:=by split at e'' <;>exact(Prod.mk.inj e'').1
    rw[<- hn];exact .inl hm
   ·have e'' :(if(k' ==NameKind.free&&X.env.scope.kind== .function&&X.env.kindOf n==some .cell)=true then(n,NameKind.cell)else(n,k'))=(x,k):=e'
    have hkf:(k' ==NameKind.free)=false:=by simpa using hfr
    rw[hkf,Eh,Eh,Ci Cg]at e'';obtain⟨g1,g2⟩:=Prod.mk.inj e'';subst g1 g2
    rcases hk with rfl|rfl
    ·exact .inr hm
    ·exact .inl hm
  have fin:(x,NameKind.free)∈scope.names\/(x,NameKind.cell)∈scope.names->∃c,cl.lookup x=some c:=by
   intro z;rw[hcl]
   rcases z with z|z
   ·obtain⟨c,hc⟩:=eI (env:=X.env) (l:=scope.names) (acc:=[]) (x:=x) (.inl z)
    rw[Dj];cases own.lookup x with
    | some c' =>exact⟨c',rfl⟩
    | none=>exact⟨c,hc⟩
   ·obtain⟨c,hc⟩:=h2 x z
    exact⟨c,by rw[Dj,hc];rfl⟩
  rcases hx' with e|e
  ·exact fin (go _ (.inl rfl) e)
  ·exact fin (go _ (.inr rfl) e)
 ·have h:scope.names.lookup x=some .cell:=by simpa using h
  obtain⟨c',hc'⟩:=h2 x (C6 h);have e:cl.lookup x=some c:=e;rw[hcl,Dj,hc']at e;cases e;exact C9 hC (EE (h1 x c (C6 hc')).1)
 ·exact fun e=>absurd (hlt b hb) (by show¬b<_;rw[e];exact Nat.not_lt.mpr hC)
 ·rcases look x c e with q|q
  ·exact fun z=>absurd (D2 (hlt b hb) (Ef hC (h1 x c q).1)) (by rw[z];exact De _)
  ·exact(hf b hb).2.2.2.2.1 x c q
 ·rcases(hf b hb).2.2.2.1 with q|q
  ·exact I.ok.noex b o e q
  ·exact absurd (Cc e) (Nat.not_lt.mpr (C9 I.ok.bsz q))
 ·rcases Co.mp (I.stkSub b hs)with q|q
  ·exact(hf b hb).2.1 q
  ·exact(hf b hb).2.2.1 q
theorem bK:∀(names:List (Str×NameKind))(n:Nat)(a b:List (Str×Addr)),cellsFrom n names (a++b)=cellsFrom n names a++b
 | [],_,_,_=>rfl
 | (x,k)::r,n,a,b=>by
  unfold cellsFrom
  split
  ·exact bK r (n+1) ((x,n)::a) b
  ·exact bK r n a b
theorem bg:∀(names:List (Str×NameKind))(n:Nat)(acc:List (Str×Addr))(x:Str)(c:Addr),(x,c)∈cellsFrom n names acc->(x,c)∈acc\/(x,NameKind.cell)∈names
 | [],_,_,_,_,h=>.inl h
 | (y,k)::r,n,acc,x,c,h=>by
  unfold cellsFrom at h
  split at h
  ·rename_i hk
   have hk:k=.cell:=by simpa using hk
   rcases bg r (n+1) ((y,n)::acc) x c h with q|q
   ·rcases Co.mp q with e|e
    ·cases e
     rw[hk];exact .inr Cv
    ·exact .inl e
   ·exact .inr (Cj _ q)
  ·rcases bg r n acc x c h with q|q
   ·exact .inl q
   ·exact .inr (Cj _ q)
theorem wZ{scope:Scope}{C:Addr}(hcn:∀y∈scope.names,y.2=.cell->scope.names.lookup y.1=some .cell)(h:Heap)(hC:h.objs.size=C+1):qF X scope C (cellsFrom (C+1) scope.names (eJ X.env scope.names [])):=by
 have ok:=cellsFrom_ok scope.names h (C+1) [] ⟨fun _ _ hm=>(nomatch hm),List.Pairwise.nil⟩ (by rw[hC];exact Ca _);rw[hC]at ok;refine⟨cellsFrom (C+1) scope.names [],by rw[<- bK];rfl,fun n c hm=>⟨(ok.empty n c hm).2,?_⟩,fun x hx=> ?_,ok.apart⟩
 ·rcases bg _ _ _ _ _ hm with q|q
  ·cases q
  ·exact hcn _ q rfl
 ·have:=W.cellsFrom_some (x:=x) scope.names (C+1) [] (.inl (hcn _ hx rfl))
  exact Ds.mp this
theorem tU{M:Model}{A:Around}{E:Value->Shared->Prop}{s:Shared}{scope:Scope}{globals:Addr}{cl:List (Str×Addr)}{qual:Str}{env:Env}{Q:Env->Shared->Prop}
  (h:Q {scope:=scope,locals:=s.heap.objs.size,globals:=globals,cells:=cellsFrom (s.heap.objs.size+1) scope.names cl,qual:=qual,func:=none,code:=env.code,frame:=env.frame,builtins:=env.builtins} {s with heap:=pushCells (s.heap.push {cls:=.type "dict",data:=.dict #[]}) scope.names}) :
  wpAny M A (newFunctionEnv scope globals cl [] qual none .none (some env)) Q E s:=by
 simp only[newFunctionEnv,Option.isSome_some,Eb];refine CU (wpAny_alloc ?_);refine CU (wpAny_layCells _ (fun name kind cells=>by cases hkc:kind==NameKind.cell<;>simp[hkc]) _ _ _ _ ?_);rw[show({s with heap:=s.heap.push {cls:=.type "dict",data:=.dict #[]}}:Shared).heap.objs.size=s.heap.objs.size+1 from Ew ..];rw[List.forIn_nil];exact CU (Ce (Ce h))
end
theorem dv{env:Env}:∀{names:List (Str×NameKind)}{x:Str},names.lookup x=some .free ->
  (names.map fun(n,k)=>if(k==NameKind.free&&env.scope.kind== .function&&env.kindOf n==some .cell)then(n,NameKind.cell)else(n,k)).lookup x=some .cell \/
  (names.map fun(n,k)=>if(k==NameKind.free&&env.scope.kind== .function&&env.kindOf n==some .cell)then(n,NameKind.cell)else(n,k)).lookup x=some .free
 | [],_,h=>by simp at h
 | (n,k)::r,x,h=>by
  have ih:= @dv env r x;show List.lookup x ((if(k==NameKind.free&&env.scope.kind== .function&&env.kindOf n==some .cell)=true then(n,NameKind.cell)else(n,k))::_)=_\/List.lookup x ((if(k==NameKind.free&&env.scope.kind== .function&&env.kindOf n==some .cell)=true then(n,NameKind.cell)else(n,k))::_)=_;cases hx:x==n with
  | true =>
   simp only[DA,hx]at h;cases h
   by_cases hc:(NameKind.free==NameKind.free&&env.scope.kind== .function&&env.kindOf n==some .cell)=true
   ·left;rw[Cd hc];simp only[DA,hx]
   ·right;rw[Ci hc];simp only[DA,hx]
  | false =>
   simp only[DA,hx]at h
   by_cases hc:(k==NameKind.free&&env.scope.kind== .function&&env.kindOf n==some .cell)=true
   ·rw[Cd hc];simp only[DA,hx];exact ih h
   ·rw[Ci hc];simp only[DA,hx];exact ih h
section
variable{X:Cx}{pins:List (Addr×Obj)}{σ:St}{H:Hp}{s:Shared}
theorem mw{N' :List Str}{src:List (Option Nat)}{scope:Scope}{D C:Addr}{fp:List Addr}{cl:List (Str×Addr)}{h₁:Heap}{m:Str->Option Value}{tk:Nat}(I:Inv X pins σ H s)(hkind:scope.kind=.function)(k:qF X scope C cl)
  (hfree:∀y∈scope.names,y.2=.free->∃c,X.env.cells.lookup y.1=some c) (hsrc:az X scope N' src) (hf:∀b∈fp,fE X pins H b) (hlt:∀b∈fp,b<s.heap.objs.size)
  (hD:D=s.heap.objs.size) (hC:s.heap.objs.size<C) (hns:h₁.Ns C m) (old:∀b o,s.heap.get? b=some o->h₁.get? b=some o) (hacc:h₁.get? D=some {cls:=.type "list",data:=.seq #[]})
  (hce:∀x c,cl.lookup x=some c->C<c->∃v,h₁.IsCell c v) :
  Inv (ai X N' scope C s H fp cl) [] (ax src σ) (upd H D (.lst [])) {s with heap:=h₁,toks:=tk}:=by
 have hn:H D=none:=by rw[hD];exact I.hok.fresh (Ca _)
 have ok:=wU (N' :=N') I hkind k hfree (EE hC) hf hlt;have hDC:D≠C:=by rw[hD];exact Cu hC
 refine⟨ok,rfl,I.bare,Un.laid old (by rw[hD];exact Ca _) hn,⟨m,hns,fun j x v h1 h2 h3=> ?_⟩,fun x c e=> ?_,?_,fun x c e=> ?_,fun p hp=>(by cases hp),I.hok.laid old (by rw[hD];exact Ca _) ?_,?_⟩
 ·obtain⟨i,e1,e2,e3,e4⟩:=hsrc.at h1 h2
  obtain⟨m0,_,hl⟩:=I.loc;obtain⟨u,r,l⟩:=hl i x v e1 e2 (.inr e4);refine⟨u,r,?_⟩;obtain⟨own,hcl,o1,o2,o3⟩:=k.ex;have hown:own.lookup x=none:=by
   cases z:own.lookup x with
   | none=>rfl
   | some c =>
    have:=(o1 x c (C6 z)).2;rw[e3]at this;cases this
  obtain⟨c',hc'⟩:=eI (env:=X.env) (l:=scope.names) (acc:=[]) (x:=x) (.inl (C6 e3));have hcX:X.env.cells.lookup x=some c' :=by
   rcases bz hfree hc' with q|q
   ·cases q
   ·exact q
  have hcl' :cl.lookup x=some c' :=by rw[hcl,Dj,hown];exact hc'
  rcases l with⟨hk,_⟩|⟨hk,c,hc,hcl2⟩
  ·have hk' :X.env.scope.names.lookup x=some .local:=hk
   rcases e4 with e4|e4
   ·rw[hk']at e4;cases e4
   ·rw[hk']at e4;cases e4
  ·have ec:c' =c:=Cw (hcX.symm.trans hc)
   subst ec
   right
   exact⟨dv e3,c',hcl',hcl2.keeps old⟩
 ·rcases k.sub hfree (show cl.lookup x=some c from e)with q|q
  ·exact hce x c e q.1
  ·obtain⟨v,z⟩:=I.cell x c q.2
   exact⟨v,z.keeps old⟩
 ·show upd H D (.lst []) C=none
  rw[aD (Du hDC)];exact I.hok.fresh (EE hC)
 ·show upd H D (.lst []) c=none
  rcases k.sub hfree (show cl.lookup x=some c from e)with q|q
  ·have:s.heap.objs.size<c:=D2 hC q.1
   rw[aD (by rw[hD];exact EK this)];exact I.hok.fresh (EE this)
  ·obtain⟨v,z⟩:=I.cell x c q.2
   rw[aD (by rw[hD];exact Cu z.lt)];exact I.freeC x c q.2
 ·exact⟨DH _,[],0,.nil,hacc⟩
 ·show(src.map _).length=N'.length
  rw[CW];exact hsrc.len
theorem bi.but{P:Program}{w:World}{H:Hp}{h h' :Heap}(x:bi P w H h)(k:∀b u,H b≠none->h.get? b=some u->h'.get? b=some u):bi P w H h' :=fun a o e =>
 (x a o e).stay (fun b u hb q=>k b u (by rcases hb with rfl|hb;(rw[e];simp);(rw[hb];simp)) q) (fun _ q=>q) fun _ _ q=>q
noncomputable def cy(sc scope:Scope):Bool:=scope.names.all fun y=> !(y.2==NameKind.free)||(sc.names.lookup y.1==some .cell||sc.names.lookup y.1==some .free)
theorem tN{sc scope:Scope}(h:cy sc scope=true):∀y∈scope.names,y.2=.free->(sc.names.lookup y.1=some .cell\/sc.names.lookup y.1=some .free):=fun y hy hf=>by
 have z:=C2.mp h y hy;rw[hf]at z
 simpa using z
theorem oG{use:Option (Value->Sem Unit)}{P:Value->Shared->Prop}{Q:VK}{elt target iter:Expr}{ifs:List Expr}{scope:Scope}{pos:Pos}{N' :List Str}{src:List (Option Nat)}{wi:TI}(hc:X.calm=true)(hi:PI X target iter wi)(hsrc:az X scope N' src)
  (hkind:scope.kind=.function) (hcell:∀y∈scope.names,y.2=.cell->scope.names.lookup y.1=some .cell) (hnames:∀y∈scope.names,y.2=.local->scope.names.lookup y.1=some .local)
  (hfr:cy X.env.scope scope=true)
  (hs:∀x,foldedSetIterable iter X.env x=pure x) (I:Inv X pins σ H s) (h:yF X N' src scope target ifs elt wi σ H Q)
  (fin:∀(C a:Addr)(s2 s4:Shared)(H2 H3:Hp)(fp:List Addr)(cl:List (Str×Addr))(m:Str->Option Value),Inv X pins σ H2 s2->(∀b∈fp,fE X pins H2 b)->(∀b,b<s2.heap.objs.size->b≠C)->s2.heap.objs.size<=C->Inv (ai X N' scope C s2 H2 fp cl) [] (ax src σ) H3 s4->s4.heap.Ns C m->Q (.ref a) H3->∀v,compPost (model X.prog X.w) X.A X.xe use P (.ref a) C (.ok v) s4) :
  wpAny (model X.prog X.w) X.A (comprehension (.ListComp elt [⟨target,iter,ifs,0⟩] scope pos) scope X.env (firstIterPos [⟨target,iter,ifs,0⟩] pos) (newList []) (firstAsync [⟨target,iter,ifs,0⟩]) (firstIter [⟨target,iter,ifs,0⟩] X.env) use) P X.xe s:=by
 have hfree:∀y∈scope.names,y.2=.free->∃c,X.env.cells.lookup y.1=some c:=fun y hy hf=>I.ok.has y.1 (tN hfr y hy hf);refine wpAny_comprehension_free (use:=use) rfl hs (nF hfree) hkind hnames ?_;refine af (hi pins s σ H _ I h) fun xv s1 h1=>af h1 fun itv s2 h2=> ?_;obtain⟨it,fp,tn,J,H2,e,I2,T,st2,f2,q⟩:=h2;subst e;have hlt:∀b∈fp,b<s2.heap.objs.size:=fun b hb=>by
  obtain⟨o,e,_⟩:=T.obj _ _ st2 b hb;exact Cc e
 refine Dd (tU ?_);dsimp only
 generalize hH2:s2.heap.push {cls:=.type "list",dict:=none,data:=.seq ([]:List Value).toArray}=G2
 have hC:G2.objs.size=s2.heap.objs.size+1:=by rw[<- hH2,Ew]
 have hCle:s2.heap.objs.size<=G2.objs.size:=by rw[hC];exact EU _
 have hClt:s2.heap.objs.size<G2.objs.size:=by rw[hC];exact Nat.lt_succ_self _
 have below:∀b,b<s2.heap.objs.size->b≠G2.objs.size:=fun b hb=>by rw[hC];exact Cu (EL hb)
 obtain⟨cl,hcl0⟩:∃cl,cl=cellsFrom (G2.objs.size+1) scope.names (eJ X.env scope.names []):=⟨_,rfl⟩;obtain⟨h₁,hh₁⟩:∃h₁,h₁=pushCells (G2.push {cls:=.type "dict",data:=.dict #[]}) scope.names:=⟨_,rfl⟩;rw[<- hcl0,<-hh₁];have hfr2:(G2.push {cls:=.type "dict",data:=.dict #[]}).objs.size=G2.objs.size+1:=Ew ..;have kcl:qF X scope G2.objs.size cl:=by rw[hcl0];exact wZ hcell _ hfr2
 have hns₁:h₁.Ns G2.objs.size (fun _=>none):=by rw[hh₁];exact(Heap.Ns.new G2 (.type "dict")).keeps (pushCells_keeps _ _)
 have old:∀b o,s2.heap.get? b=some o->h₁.get? b=some o:=fun b o e=>by rw[hh₁];exact pushCells_keeps _ _ b o (CV _ (hH2▸CV _ e))
 have hacc:h₁.get? s2.heap.objs.size=some {cls:=.type "list",data:=.seq #[]}:=by rw[hh₁];exact pushCells_keeps _ _ _ _ (CV _ (hH2▸Cs _ rfl))
 have hce:∀x c,cl.lookup x=some c->G2.objs.size<c->∃v,h₁.IsCell c v:=fun x c e hlt' =>by
  have okc:=cellsFrom_ok scope.names (G2.push {cls:=.type "dict",data:=.dict #[]}) (G2.objs.size+1) [] ⟨fun _ _ hm=>(nomatch hm),List.Pairwise.nil⟩ (by rw[hfr2];exact Ca _);rw[hfr2]at okc;have e1:cl=cellsFrom (G2.objs.size+1) scope.names []++eJ X.env scope.names []:=by rw[hcl0,<-bK];rfl
  rw[e1,Dj]at e;cases z:(cellsFrom (G2.objs.size+1) scope.names []).lookup x with
  | some c' =>
   rw[z]at e;cases e;exact⟨none,by rw[hh₁];exact(okc.empty x c (C6 z)).1⟩
  | none =>
   rw[z]at e
   rcases bz hfree e with q|q
   ·cases q
   ·obtain⟨v,zc⟩:=I2.cell x c q
    exact absurd (D2 zc.lt hClt) (Nat.not_lt.mpr (EE hlt'))
 have hDn:H2 s2.heap.objs.size=none:=I2.hok.fresh (Ca _);obtain⟨W,⟨m0,w0⟩,turn⟩:=q s2.heap.objs.size hDn;have st1:tn 0 h₁:=T.keep _ _ _ st2 fun b hb o e=>old b o e;have hsub:∀b∈fp,b∉lf X.stack:=fun b hb hz=>by
  rcases Co.mp (I2.stkSub b hz)with z|z
  ·exact(f2 b hb).2.1 z
  ·exact(f2 b hb).2.2.1 z
 have hcl:∀x c,cl.lookup x=some c->G2.objs.size<c\/X.env.cells.lookup x=some c:=fun x c e=>by
  rcases kcl.sub hfree e with q|q
  ·exact .inl q.1
  ·exact .inr q.2
 have stat:∀{H' :Hp},(∀b∈fp,H' b=none)->∀b∈fp,fE (ai X N' scope G2.objs.size s2 H2 fp cl) [] H' b:=fun hn b hb =>
  ⟨hn b hb,below b (hlt b hb),hsub b hb,.inl hb,fun x c e=>(by rcases hcl x c e with q|q;(exact fun z=>absurd (D2 (hlt b hb) (D2 hClt q)) (by rw[z];exact De _));exact(f2 b hb).2.2.2.2.1 x c q),fun p hp=>by cases hp⟩
 have loop:∀s3:Shared,s3={s2 with heap:=h₁} ->
   codeAny (model X.prog X.w) X.A (.compLoop (.ListComp elt [⟨target,iter,ifs,0⟩] scope pos) 0 (.ref it) (.ref s2.heap.objs.size) (compEnvC scope cl G2.objs.size X.env))
    (compPost (model X.prog X.w) X.A X.xe use P (.ref s2.heap.objs.size) G2.objs.size) s3:=by
  rintro s3 rfl
  refine jn (fun n s' =>∃i ys H',Inv (ai X N' scope G2.objs.size s2 H2 fp cl) [] (ax src σ) H' s' /\tn i s'.heap/\(∀b∈fp,H' b=none)/\W i n ys H') ?_ m0
   ⟨0,[],_,mw I2 hkind kcl hfree hsrc f2 hlt rfl hClt hns₁ old hacc hce,st1,fun b hb=>by rw[aD (Cu (hlt b hb))];exact(f2 b hb).1,w0⟩
  rintro n s' ⟨i,ys,H3,I3,st3,fr3,w3⟩
  rcases turn i n ys H3 w3 with⟨stop,qn⟩|⟨go,step⟩
  ·refine af (T.done (ai X N' scope G2.objs.size s2 H2 fp cl) rfl rfl rfl hc i [] s' _ H3 _ I3 (stat fr3) st3 stop) fun r s4 hpq=> ?_
   obtain⟨hr,I4⟩:=hpq;subst hr;obtain⟨m,hn,_⟩:=I4.loc;exact fin _ _ s2 s4 H2 H3 fp cl m I2 f2 below hCle I4 hn qn _
  ·refine af (T.item (ai X N' scope G2.objs.size s2 H2 fp cl) rfl rfl rfl hc i [] s' _ H3 _ I3 (stat fr3) st3 go) fun r s4 hpq=> ?_
   obtain⟨u,hr,h4⟩:=hpq;subst hr;refine af h4 fun _ s5 hpq=> ?_;obtain⟨x,H5,I5,r5,y5,st5,fr5⟩:=hpq;obtain⟨g,tt,te,hg,ht,he,rd⟩:=step x H5 y5 G2.objs.size s2 H2 fp cl;have I5' :=I5.pinned (stat fr5) (T.obj _ _ st5);have noE:∀{α:Type}{t:Sem α}{Q' :α->Shared->Prop}{s' :Shared}{E:Value->Shared->Prop},wpAny (model X.prog X.w) X.A t Q' (fun _ _=>False) s' ->wpAny (model X.prog X.w) X.A t Q' E s' :=fun z=>DS z (fun _ _ y=>y) fun _ _ y=>y.elim
   have again:∀{σ7:St}{H7:Hp}{s7:Shared}{ys' :List V},Inv (ai X N' scope G2.objs.size s2 H2 fp cl) ([]++gR fp s5.heap) σ7 H7 s7->(σ7.length=N'.length/\∀(j:Nat)(v:V),(ax src σ)[j]? =some (some v)->σ7[j]? =some (some v)) ->
     (∃m',m' <n/\W (i+1) m' ys' H7)->∃m,m<n/\∃i ys H',Inv (ai X N' scope G2.objs.size s2 H2 fp cl) [] (ax src σ) H' s7/\tn i s7.heap/\(∀b∈fp,H' b=none)/\W i m ys H' :=fun{σ7 H7 s7 ys'} I7 hσ ⟨m',hm,w7⟩=>by
    refine⟨m',hm,i+1,ys',H7,(I7.unpinned).weak (by rw[show(ax src σ).length=N'.length by(show(src.map _).length=_;rw[CW];exact hsrc.len)];exact hσ.1.symm) hσ.2,T.keep _ _ _ st5 fun b hb o e=>(I7.pin (b,o) (DG _ (DG _ (cX hb e)))).1,fun b hb=> ?_,w7⟩;obtain⟨o,e,d⟩:=T.obj _ _ st5 b hb;exact(I7.pin (b,o) (DG _ (DG _ (cX hb e)))).2.1
   refine noE (af (hg _ s5 _ H5 x u _ I5' r5 rd) fun _ s6 hpq=> ?_);obtain⟨σ6,H6,I6,hσ,q6⟩:=hpq;refine noE (af (ht _ s6 σ6 H6 _ I6 q6) fun b s7 hpq=> ?_);obtain⟨H7,I7,q7⟩:=hpq;cases b with
   | false=>exact again I7 hσ q7
   | true =>
    rw[Cd rfl]at q7 ⊢;refine noE (af (he _ s7 σ6 H7 _ I7 q7) fun y s8 hpq=> ?_);obtain⟨v,H8,I8,r8,hl8,hz8,q8⟩:=hpq;refine noE (af (ib _ s8 σ6 H8 (.ref s2.heap.objs.size) [v] (.ref s2.heap.objs.size) [y] (fun _ H9=>∃m',m' <n/\W (i+1) m' (ys++[v]) H9) I8 rfl (.cons r8 .nil) ⟨_,_,_,rfl,rfl,hl8,hz8,q8⟩) fun _ s9 hpq=> ?_);obtain⟨_,H9,I9,_,q9⟩:=hpq;exact again I9 hσ q9
 exact codeAny_compStart_list (loop _ rfl) (T.self X.A 0 _ _ _ st1 (loop _ rfl))
theorem BK{elt target iter:Expr}{ifs:List Expr}{scope:Scope}{pos:Pos}{N' :List Str}{src:List (Option Nat)}{wi:TI}(hc:X.calm=true)(hi:PI X target iter wi)(hsrc:az X scope N' src)
  (hkind:scope.kind=.function) (hcell:∀y∈scope.names,y.2=.cell->scope.names.lookup y.1=some .cell) (hnames:∀y∈scope.names,y.2=.local->scope.names.lookup y.1=some .local)
  (hfr:cy X.env.scope scope=true)
  (hs:∀x,foldedSetIterable iter X.env x=pure x:=by intro _;rfl) :
  PE X (.ListComp elt [⟨target,iter,ifs,0⟩] scope pos) (yF X N' src scope target ifs elt wi):=by
 intro pins s σ H Q I h;rw[eval_ListComp];refine oG hc hi hsrc hkind hcell hnames hfr hs I h fun C a s2 s4 H2 H3 fp cl m I2 f2 below hCle I4 hn qn _=> ?_;refine⟨m,hn,fun h' hs' => ?_⟩;have ne:∀b o,s2.heap.get? b=some o->b≠C:=fun b o e=>below b (Cc e);have hfree4:H3 C=none:=I4.free;have u4:Un (lf X.stack) fp H2 H3 s2.heap s4.heap:=I4.base
 have u5:Un (lf X.stack) fp H2 H3 s2.heap h' :=⟨fun b o e n z1 z2=>(hs'.2 b (ne b o e)).trans (u4.keep b o e n z1 z2),fun b o e n z1 z2=>let⟨sl,z⟩:=u4.slot b o e n z1 z2;⟨sl,(hs'.2 b (ne b o e)).trans z⟩,u4.free,
  fun b o e z=>let⟨o',z'⟩:=u4.there b o e z;⟨o',(hs'.2 b (ne b o e)).trans z'⟩,u4.tups,u4.frzs,u4.tbls⟩
 have hok:bi X.prog X.w H3 h' :=bi.but (h:=s4.heap) I4.hok fun b u hb z=>(hs'.2 b (fun w=>hb (by rw[w];exact hfree4))).trans z;exact⟨.ref a,H3,I2.call' (s' :={s4 with heap:=h'}) (ch:=fp) I4.os u5 hok I4.bare fun b hb=>⟨(f2 b hb).2.2.2.1,(f2 b hb).2.1,(f2 b hb).2.2.2.2.1,(f2 b hb).2.2.2.2.2⟩,rfl,qn⟩
end
section
variable{X:Cx}
theorem all_range(bs:List Bool):(List.range bs.length).all (fun i=>bs.getD i true)=bs.all id:=by
 rw[D9,C2,C2]
 constructor
 ·intro h b hb
  obtain⟨i,hi,e⟩:=List.mem_iff_getElem.mp hb;have z:=h i (DB.mpr hi);rw[Ck,CY hi,e]at z;exact z
 ·intro h i hi
  have hi' :=DB.mp hi;rw[Ck,CY hi'];exact h _ (Dh hi')
theorem lj{bs:List Bool}{us:List Value}(r:aK (bs.map V.bl) us){i:Nat}{v:Value}(e:us[i]? =some v):v=.bool (bs.getD i true):=by
 have hl:=r.length;rw[CW]at hl;have hi:i<us.length:=(Ch.mp e).1;have hb:(bs.map V.bl)[i]? =some (.bl (bs.getD i true)):=by
  rw[Cp,Ck,CY (by omega)];rfl
 obtain⟨u,e',ru⟩:=r.get hb;rw[e]at e';cases e';exact ru
theorem lF(hc:X.calm=true):bA X (.builtin "all") (fun xs H Q=>∃(p:Addr)(bs:List Bool),xs=[.ref p]/\ar X.K H p (bs.map V.bl)/\Q (.bl (bs.all id)) H):=by
 intro pins s σ H xs us Q I r h;obtain⟨p,bs,rfl,hq,q⟩:=h;obtain⟨u,rfl,rx⟩:=vals1 r;cases rx;obtain⟨its,r',pl,hz⟩:=I.list hq;have hlen:=r'.length;rw[CW]at hlen;have hp:p<s.heap.objs.size:=by
  obtain⟨o,e,_⟩:=pl.isList;exact Cc e
 refine call_all_walk (wpAny_pyIter_list pl.isList ?_);refine⟨s.heap.objs.size,_,_,its.toArray.size,_,_,(fun i=>bs.getD i true),rfl,Walks.list (A:=X.A.in1) (I.ok.hd hc) s.heap.objs.size p (Cu hp) its.toArray,⟨⟨_,Cs _ rfl,rfl,rfl⟩,pl.isList.push _⟩,?_,?_⟩
 ·intro i v s' Q' E' hv hQ
  have e:=lj r' (i:=i) (v:=v) (by simpa using hv);subst e;exact Dc hQ
 ·intro h' tk hk
  refine⟨.bl (bs.all id),H,I.kept (t' :=tk) (fun b o e=>hk b o (by simpa using Cu (Cc e)) (CV _ e)),?_,q⟩;rw[Cb,<-hlen,all_range];rfl
theorem dW:∀{ys:List Str}{us:List Value},aK (ys.map V.str) us->StrsAre us ys
 | [],_,r=>by
  rw[D5]at r;cases r;exact .nil
 | y::ys,_,r=>by
  rw[Cq]at r;cases r with
  | cons r1 r2 =>
   obtain⟨t,e⟩:=r1;subst e;exact .cons y t (dW r2)
noncomputable def BA(K:W.Frag):V->List V->Hp->VK->Prop:=fun x vs H Q=>∃sep p ys,x=.str sep/\vs=[.ref p]/\(ar K H p (ys.map V.str)\/bL K H p (ys.map V.str))/\(ys.map (·.length)).sum+ys.length*sep.length<=16777216/\Q (.str (Txt.join sep ys)) H
theorem vt:MtR X "str.join" (BA X.K):=by
 intro pins s σ H x xs v us Q I rx rs h;obtain⟨sep,p,ys,rfl,rfl,hq,hz,q⟩:=h;obtain⟨t,rfl⟩:=rx;obtain⟨u,rfl,ru⟩:=vals1 rs;cases ru
 rcases hq with hq|hq
 ·obtain⟨its,r,pl,_⟩:=I.list hq
  exact join_list pl.isList (dW (by simpa using r)) hz fun t' k=>⟨.str (Txt.join sep ys),H,I.tok _,⟨_,rfl⟩,q⟩
 ·obtain⟨its,r,pl,_⟩:=I.tuple hq
  exact join_tuple pl (dW (by simpa using r)) hz fun t' k=>⟨.str (Txt.join sep ys),H,I.tok _,⟨_,rfl⟩,q⟩
noncomputable def CP(x:Str):It:=⟨fun i _=>i<x.cps.size,fun i H v H' =>H' =H/\∃c,x.cps[i]? =some c/\v=.str ⟨#[c]⟩,fun i _=>i=x.cps.size⟩
noncomputable def iStr(tl:TE):TI:=fun σ H R=>tl σ H fun x H1=>∃z,x=.str z/\R (CP z) H1
theorem dU{P:Program}{w:World}{K:W.Frag}{tg:Expr}{it:Addr}{n:Nat}{Pw:Nat->Value->Prop}{tn:Nat->Heap->Prop}{J:It}(hW:∀A:Around,A.handled=none->Walks P w A it [it] [it] n Pw tn)
  (hob:∀i h,tn i h->∃(o:Obj)(ty:String)(vs:Array Value),h.get? it=some o/\o.cls=.type ty/\o.data=.fields vs/\["enumerate","zip","dict_itemiterator","dict_reverseitemiterator","odict_iterator","itertools.zip_longest","itertools.pairwise"].contains ty=false)
  (hgo:∀i H,J.go i H->i<n) (hst:∀i H,J.stop i H->i=n) (hy:∀i H v,Pw i v->∃x,RelV x v/\J.yld i H x H)
  (hself:∀(A:Around)(i:Nat)(s:Shared)(Q:Value->Shared->Prop)(E:Value->Shared->Prop),tn i s.heap->Q (.ref it) s->wpAny (model P w) A (pyIter (.ref it)) Q E s):nQ P w K tg J [it] it tn where
 mem:=by simp
 obj:=fun i h st b hb=>by
  have e:b=it:=by simpa using hb
  subst e;obtain⟨o,ty,vs,e,_,d,_⟩:=hob i h st;exact⟨o,e,fun v z=>by rw[d]at z;cases z⟩
 keep:=fun i h h' st k=>(hW {callerA with handled:=none} rfl).frame i h h' st k
 item:=by
  intro X hP hw hK hc i pins s σ H E I hf st hg;subst hP hw hK;obtain⟨f0,f1,f2,f3,f4,f5⟩:=hf it (by simp);refine(hW X.A (I.ok.hd hc)).item i s _ _ (hgo i H hg) st fun v h' tk hv st' kk=> ?_;obtain⟨x,rx,y⟩:=hy i H v hv;have I1:Inv X pins σ H {s with heap:=h',toks:=tk}:=I.turned (fun b o hb e=>kk b o (by simpa using hb) e) f0 f1 f3 f4 f5;obtain⟨o,ty,vs,e,c,d,nc⟩:=hob (i+1) h' st';exact⟨_,rfl,oK (s:={s with heap:=h',toks:=tk}) e c d nc ⟨x,H,I1,rx,y,st',fun b hb=>(hf b hb).1⟩⟩
 done:=by
  intro X hP hw hK hc i pins s σ H E I hf st hg;subst hP hw hK;obtain⟨f0,f1,f2,f3,f4,f5⟩:=hf it (by simp);have e:=hst i H hg;subst e;exact(hW X.A (I.ok.hd hc)).done s _ _ st fun h' tk kk=>⟨rfl,I.turned (fun b o hb e=>kk b o (by simpa using hb) e) f0 f1 f3 f4 f5⟩
 self:=hself
theorem ya{tg:Expr}{l:Expr}{tl:TE}(hl:PE X l tl):PI X tg l (iStr tl):=by
 intro pins s σ H R I h;refine af (hl pins s σ H _ I h) fun v s1 hpq=> ?_;obtain⟨x,H1,I1,r1,q1⟩:=hpq;obtain⟨z,rfl,q⟩:=q1;obtain⟨t,rfl⟩:=r1;have fp:∀b∈[s1.heap.objs.size],fE X pins H1 b:=fun b hb=>by
  have e:b=s1.heap.objs.size:=by simpa using hb
  subst e;exact I1.fpOk (Ca _) (I1.hok.fresh (Ca _))
 have yl:∀(i:Nat)(H:Hp)(v:Value),SignAt z i v->∃x,RelV x v/\(CP z).yld i H x H:=fun i H v hv=>by
  obtain⟨c,u,e,rfl⟩:=hv;exact⟨.str ⟨#[c]⟩,⟨_,rfl⟩,rfl,c,e,rfl⟩
 cases ha:z.cps.all (·<128)with
 | false =>
  refine wpAny_pyIter_wide ha ?_
  refine⟨s1.heap.objs.size,[s1.heap.objs.size],fun i h=>h.IsStrIter s1.heap.objs.size "str_iterator" z t i,CP z,H1,rfl,I1.kept (t' :=s1.toks) fun b o e=>CV _ e,
   dU (fun A hA=>Walks.strWide hA _ z t) (fun i h st=> ?_) (fun i H g=>g) (fun i H g=>g) yl (fun A i s Q E st h=>wpAny_pyIter_striter_wide st h),⟨_,Cs _ rfl,rfl,rfl⟩,fp,q⟩
  obtain⟨o,e,c,d⟩:=st;exact⟨o,_,_,e,c,d,by decide⟩
 | true =>
  refine wpAny_pyIter_ascii ha ?_
  refine⟨s1.heap.objs.size,[s1.heap.objs.size],fun i h=>h.IsStrIter s1.heap.objs.size "str_ascii_iterator" z t i,CP z,H1,rfl,I1.kept (t' :=s1.toks) fun b o e=>CV _ e,
   dU (fun A hA=>Walks.strAscii hA _ z t) (fun i h st=> ?_) (fun i H g=>g) (fun i H g=>g) yl (fun A i s Q E st h=>wpAny_pyIter_striter_ascii st h),⟨_,Cs _ rfl,rfl,rfl⟩,fp,q⟩
  obtain⟨o,e,c,d⟩:=st;exact⟨o,_,_,e,c,d,by decide⟩
noncomputable def Itc(lo c:Int)(n:Nat):It:=⟨fun i _=>i<n,fun i H x H' =>H' =H/\x=.int (lo+i*c),fun i _=>i=n⟩
noncomputable def Bc(ta:TA):TI:=fun σ H R=>ta σ H fun vs H1=>∃i j c:Int,vs=[.int i,.int j,.int c]/\c≠0/\c.natAbs<1073741824/\Builtin.Range.small i j c=true/\R (Itc i c (Builtin.Range.rangeSize i j c).toNat) H1
theorem jO(i j c:Int):0<=Builtin.Range.rangeSize i j c:=by
 unfold Builtin.Range.rangeSize
 split
 ·split
  ·have:=Int.ediv_nonneg (a:=j-i-1) (b:=c) (by omega) (by omega)
   omega
  ·exact Int.le_refl _
 ·split
  ·by_cases hc:c=0
   ·subst hc
    simp
   ·have:=Int.ediv_nonneg (a:=i-j-1) (b:= -c) (by omega) (by omega)
    omega
  ·exact Int.le_refl _
theorem pA{tg:Expr}{a b c:Expr}{ta:TA}{p pos:Pos}(hg:Gl X "range")(hm:X.mg "range"=none)(ha:PA X [a,b,c] ta)(hs:starEach [a,b,c] X.env=(false,eval a X.env)::starEach [b,c] X.env:=by rfl)
  (hs2:(backTo pos (starEach [b,c] X.env)).any (·.1)=false:=by rfl):PI X tg (.Call (.Name "range" p) [a,b,c] [] pos) (Bc ta):=by
 intro pins s σ H R I h;refine Call_ (bc I hg hm boot_range (DF (af (ha pos pins s σ H _ I h) fun us s1 ⟨vs,H1,I1,r1,q1⟩=> ?_) hs hs2));obtain⟨i,j,k,e,hk,hk2,hsm,q⟩:=q1;subst e;cases r1 with
 | cons r rr =>
  cases rr with
  | cons r' rr =>
   cases rr with
   | cons r'' rr =>
    cases rr;obtain⟨t,rfl⟩:=r;obtain⟨t',rfl⟩:=r';obtain⟨t'',rfl⟩:=r'';refine call_range_3 hk ?_ (.inl (PyProof.noPylong_small hk2));refine wpAny_pyIter_range (IsRange.new ..) hsm ?_;have I2:Inv X pins σ H1 {s1 with heap:=s1.heap.push {cls:=.type "range",data:=.fields #[.int i t,.int j t',.int k t'']}}:=I1.kept (t' :=s1.toks) fun b o e=>CV _ e
    refine⟨_,[_],_,_,H1,rfl,I2.kept (t' :=s1.toks) fun b o e=>CV _ e,
     dU (fun A hA=>Walks.range hA _ i k (Builtin.Range.rangeSize i j k).toNat) (fun m h st=>⟨_,_,_,st,rfl,rfl,by decide⟩) (fun m H g=>g) (fun m H g=>g) (fun m H v hv=> ?_) (fun A m s Q E st h=>wpAny_pyIter_rangeiter st h),?_,fun b hb=> ?_,q⟩
    ·obtain⟨u,rfl⟩:=hv
     exact⟨.int (i+m*k),⟨_,rfl⟩,rfl,rfl⟩
    ·have e1:i+((0:Nat):Int)*k=i:=by simp
     have e2:(((Builtin.Range.rangeSize i j k).toNat:Nat):Int)-((0:Nat):Int)=Builtin.Range.rangeSize i j k:=by
      have:=jO i j k;omega
     show IsRangeIter _ _ (i+((0:Nat):Int)*k) ((((Builtin.Range.rangeSize i j k).toNat:Nat):Int)-((0:Nat):Int)) k;rw[e1,e2];exact Cs _ rfl
    ·have e:b=(s1.heap.push {cls:=.type "range",data:=.fields #[.int i t,.int j t',.int k t'']}).objs.size:=by simpa using hb
     subst e;exact I2.fpOk (Ca _) (I2.hok.fresh (Ca _))
theorem Inv.drew{pins:List (Addr×Obj)}{σ:St}{H:Hp}{s:Shared}{h' :Heap}{fp:List Addr}{p:Addr}{o:HO}{t' :Nat}(I:Inv X pins σ H s)(hf:∀b∈fp,fE X pins H b)(k:∀b ob,b∉fp->s.heap.get? b=some ob->h'.get? b=some ob)
  (hp:s.heap.objs.size<=p) (new:aa X.prog X.w (upd H p o) h' p o):Inv X pins σ (upd H p o) {s with heap:=h',toks:=t'}:=by
 have ne:∀b u,H b=some u->b≠p:=fun b u e=>Cu (C4 (I.hok.lt e) hp);have nf:∀b u,H b=some u->b∉fp:=fun b u e hb=>by rw[(hf b hb).1]at e;cases e
 refine I.step (g' :=s.gens) (d' :=s.drawn) (ch:=fp) (fun b hb=>⟨(hf b hb).2.2.2.1,(hf b hb).2.1,(hf b hb).2.2.2.2.1,(hf b hb).2.2.2.2.2⟩) (fun b ob _ _ hc e _=>k b ob hc e) (fun b ob _ _ hc e _=>⟨ob.slots,k b ob hc e⟩)
  (fun b ob hc e n=>by rw[aD (Cu (C4 (Cc e) hp))];exact n) (fun b ob hc e=>⟨ob,k b ob hc e⟩) (fun b xs e=>by rw[aD (ne b _ e)];exact e) (fun b ob u e=>by rw[aD (ne b _ e)];exact e)
  (fun b ps e=>⟨#[],by rw[aD (ne b _ e),e];simp⟩) (fun m hm=> ?_) (fun b u e=> ?_) I.bare
 ·obtain⟨ob,es,ep,ho,r⟩:=hm
  exact⟨ob,es,ep,k _ _ (fun hb=>(hf _ hb).2.1 rfl) ho,r⟩
 ·by_cases hb:b=p
  ·subst hb
   rw[aJ]at e;cases e;exact new
  ·rw[aD hb]at e
   refine(I.hok b u e).stay (fun c v hc q=>k c v ?_ q) (fun c q=>by rw[aD (ne c _ q)];exact q) (fun c xs q=>by rw[aD (ne c _ q)];exact q)
   rcases hc with rfl|hc
   ·exact nf _ _ e
   ·exact nf _ _ hc
theorem Inv.drew0{pins:List (Addr×Obj)}{σ:St}{H:Hp}{s:Shared}{h' :Heap}{fp:List Addr}{t' :Nat}(I:Inv X pins σ H s)(hf:∀b∈fp,fE X pins H b)(k:∀b ob,b∉fp->s.heap.get? b=some ob->h'.get? b=some ob) :
  Inv X pins σ H {s with heap:=h',toks:=t'}:=by
 have nf:∀b u,H b=some u->b∉fp:=fun b u e hb=>by rw[(hf b hb).1]at e;cases e
 refine I.step (g' :=s.gens) (d' :=s.drawn) (ch:=fp) (fun b hb=>⟨(hf b hb).2.2.2.1,(hf b hb).2.1,(hf b hb).2.2.2.2.1,(hf b hb).2.2.2.2.2⟩) (fun b ob _ _ hc e _=>k b ob hc e) (fun b ob _ _ hc e _=>⟨ob.slots,k b ob hc e⟩)
  (fun b ob hc e n=>n) (fun b ob hc e=>⟨ob,k b ob hc e⟩) (fun b xs e=>e) (fun b ob u e=>e) (fun b ps e=>⟨#[],by rw[e];simp⟩) (fun m hm=> ?_) (fun b u e=> ?_) I.bare
 ·obtain⟨ob,es,ep,ho,r⟩:=hm
  exact⟨ob,es,ep,k _ _ (fun hb=>(hf _ hb).2.1 rfl) ho,r⟩
 ·refine(I.hok b u e).stay (fun c v hc q=>k c v ?_ q) (fun c q=>q) (fun c xs q=>q)
  rcases hc with rfl|hc
  ·exact nf _ _ e
  ·exact nf _ _ hc
noncomputable def Itz(K:W.Frag)(a b:Addr):It :=
  ⟨fun i H=>∃xs ys x y,ar K H a xs/\ar K H b ys/\xs[i]? =some x/\ys[i]? =some y,
   fun i H v H' =>∃p,H p=none/\v=.ref p/\∀xs ys x y,ar K H a xs->ar K H b ys->xs[i]? =some x->ys[i]? =some y->H' =upd H p (.tup [x,y]),
   fun i H=>∃xs ys,ar K H a xs/\ar K H b ys/\(xs.length<=i\/ys.length<=i)⟩
noncomputable def CG(z TI TO i1 i2 a b:Addr)(i:Nat)(h:Heap):Prop:=IsZip h z TI TO .none/\IsPair h TI (.ref i1) (.ref i2)/\(∃u v,IsPair h TO u v)/\h.IsListIter i1 a i/\h.IsListIter i2 b i
theorem qi{P:Program}{w:World}{K:W.Frag}{es:List Expr}{kt:Nat}{tpos:Pos}{z TI TO i1 i2 a b:Addr}(D:ZipApart z TI TO i1 i2 a b) :
  nQ P w K (.Tuple es kt tpos) (Itz K a b) [z,TI,TO,i1,i2] z (CG z TI TO i1 i2 a b) where
 mem:=by simp
 obj:=fun i h st c hc=>by
  obtain⟨hz,hTI,⟨u,v,hTO⟩,⟨o1,e1,_,d1⟩,⟨o2,e2,_,d2⟩⟩:=st;simp only[Co,C8,EA]at hc
  rcases hc with rfl|rfl|rfl|rfl|rfl
  ·exact⟨_,hz,fun v z=>by cases z⟩
  ·exact⟨_,hTI,fun v z=>by cases z⟩
  ·exact⟨_,hTO,fun v z=>by cases z⟩
  ·exact⟨_,e1,fun v z=>by rw[d1]at z;cases z⟩
  ·exact⟨_,e2,fun v z=>by rw[d2]at z;cases z⟩
 keep:=fun i h h' st k=>by
  obtain⟨hz,hTI,⟨u,v,hTO⟩,h1,h2⟩:=st;exact⟨k z (by simp) _ hz,k TI (by simp) _ hTI,⟨u,v,k TO (by simp) _ hTO⟩,h1.at fun o e=>k i1 (by simp) o e,h2.at fun o e=>k i2 (by simp) o e⟩
 item:=by
  intro X hP hw hK hc i pins s σ H E I hf st hg;subst hP hw hK;obtain⟨xs,ys,x,y,sa,sb,ex,ey⟩:=hg;obtain⟨its,ra,pa,_⟩:=I.list sa;obtain⟨its',rb,pb,_⟩:=I.list sb;obtain⟨u,eu,ru⟩:=ra.get ex;obtain⟨v,ev,rv⟩:=rb.get ey;obtain⟨hz,hTI,⟨u0,v0,hTO⟩,h1,h2⟩:=st;refine wpAny_pyNext_zip_item D hz hTI hTO h1 h2 pa.isList pb.isList (x:=u) (y:=v) (by simpa using eu) (by simpa using ev) fun h' a1 a2 a3 a4 a5 a6 hk=> ?_;refine⟨_,rfl,wpAny_letOwnedTupleGo_zip a1 fun h'' hz' hs' => ?_⟩;have zlt:z<s.heap.objs.size:=Cc hz;have kk:∀c o,c∉[z,TI,TO,i1,i2]->s.heap.get? c=some o->h''.get? c=some o:=fun c o hc e=>by
   simp only[Co,C8,EA,not_or]at hc;obtain⟨c1,c2,c3,c4,c5⟩:=hc;exact(hs'.2 c c1).trans (hk c o c1 c3 c4 c5 e)
  have tI:h''.get? TI=some _:=(hs'.2 TI D.TIz).trans (hk TI _ D.TIz D.TITO D.TIi1 D.TIi2 hTI);have new:h''.get? s.heap.objs.size=some {cls:=.type "tuple",data:=.seq #[u,v]}:=(hs'.2 _ (EK zlt)).trans a5;have I1:Inv X pins σ (upd H s.heap.objs.size (.tup [x,y])) {s with heap:=h''}:=I.drew (t' :=s.toks) hf kk (Ca _) ⟨by show 2<=sizeLine;decide,[u,v],.cons ru (.cons rv .nil),⟨_,new,rfl,_,rfl,rfl⟩⟩;refine⟨.ref s.heap.objs.size,upd H s.heap.objs.size (.tup [x,y]),I1,rfl,⟨s.heap.objs.size,I.hok.fresh (Ca _),rfl,fun xs' ys' x' y' sa' sb' ex' ey' => ?_⟩,⟨hz',tI,⟨_,_,(hs'.2 TO D.TOz).trans a2⟩,a3.at fun o e=>(hs'.2 i1 D.i1z).trans e,a4.at fun o e=>(hs'.2 i2 D.i2z).trans e⟩,fun c hc=> ?_⟩
  ·have q1:=I.list_inj sa sa'
   have q2:=I.list_inj sb sb';subst q1 q2;rw[ex]at ex';rw[ey]at ey';cases ex';cases ey';rfl
  ·rw[aD ?_]
   ·exact(hf c hc).1
   ·intro e
    have lt:c<s.heap.objs.size:=by
     simp only[Co,C8,EA]at hc;obtain⟨o1,e1,_⟩:=id h1;obtain⟨o2,e2,_⟩:=id h2
     rcases hc with rfl|rfl|rfl|rfl|rfl
     ·exact zlt
     ·exact Cc hTI
     ·exact Cc hTO
     ·exact Cc e1
     ·exact Cc e2
    exact absurd e (Cu lt)
 done:=by
  intro X hP hw hK hc i pins s σ H E I hf st hg;subst hP hw hK;obtain⟨xs,ys,sa,sb,hend⟩:=hg;obtain⟨its,ra,pa,_⟩:=I.list sa;obtain⟨its',rb,pb,_⟩:=I.list sb;obtain⟨hz,hTI,⟨u0,v0,hTO⟩,h1,h2⟩:=st;have l1:=ra.length;have l2:=rb.length;refine wpAny_pyNext_zip_end (I.ok.hd hc) D hz hTI hTO h1 h2 pa.isList pb.isList ?_ fun h' hk=>⟨rfl,I.drew0 (t' :=s.toks) hf fun c o hc e=> ?_⟩
  ·rcases hend with q|q
   ·exact .inl (by simp;omega)
   ·exact .inr (by simp;omega)
  ·simp only[Co,C8,EA,not_or]at hc
   exact hk c o hc.1 hc.2.2.1 hc.2.2.2.1 hc.2.2.2.2 e
 self:=fun _ _ _ _ _ st h=>wpAny_pyIter_zip st.1 h
noncomputable def iZip(K:W.Frag)(ta:TA):TI:=fun σ H R=>ta σ H fun vs H1=>∃a b xs ys,vs=[.ref a,.ref b]/\ar K H1 a xs/\ar K H1 b ys/\R (Itz K a b) H1
theorem yZ{es:List Expr}{kt:Nat}{tpos:Pos}{a b:Expr}{ta:TA}{p pos:Pos}(hg:Gl X "zip")(hm:X.mg "zip"=none)(ha:PA X [a,b] ta)(hs:starEach [a,b] X.env=(false,eval a X.env)::starEach [b] X.env:=by rfl)
  (hs2:(backTo pos (starEach [b] X.env)).any (·.1)=false:=by rfl):PI X (.Tuple es kt tpos) (.Call (.Name "zip" p) [a,b] [] pos) (iZip X.K ta):=by
 intro pins s σ H R I h;refine Call_ (bc I hg hm boot_zip (DF (af (ha pos pins s σ H _ I h) fun us s1 ⟨vs,H1,I1,r1,q1⟩=> ?_) hs hs2));obtain⟨l1,l2,xs,ys,e,sa,sb,q⟩:=q1;subst e;obtain⟨u,v,rfl,ru,rv⟩:=vals2 r1;cases ru;cases rv;obtain⟨its,ra,pa,_⟩:=I1.list sa;obtain⟨its',rb,pb,_⟩:=I1.list sb;have lt1:l1<s1.heap.objs.size:=by obtain⟨o,e,_⟩:=pa.isList;exact Cc e
 have lt2:l2<s1.heap.objs.size:=by obtain⟨o,e,_⟩:=pb.isList;exact Cc e
 refine call_zip_2 pa.isList pb.isList fun h' hz hTI hTO hit1 hit2 hsz hk=> ?_;refine wpAny_pyIter_zip hz ?_;have I2:Inv X pins σ H1 {s1 with heap:=h'}:=I1.kept (t' :=s1.toks) hk;refine⟨s1.heap.objs.size+4,[s1.heap.objs.size+4,s1.heap.objs.size+2,s1.heap.objs.size+3,s1.heap.objs.size,s1.heap.objs.size+1],_,_,H1,rfl,I2,qi (zipApart_new lt1 lt2),⟨hz,hTI,⟨_,_,hTO⟩,hit1,hit2⟩,fun c hc=> ?_,q⟩;have le:s1.heap.objs.size<=c:=by
  simp only[Co,C8,EA]at hc
  rcases hc with rfl|rfl|rfl|rfl|rfl<;>omega
 exact I1.fpOk le (I1.hok.fresh le)
theorem sH:cg X (binaryOp .FloorDiv) (rI (fun _ j=>0<j/\j.natAbs.log2<9000) fun i j=>.int (i/j)):=BU fun i j _ _ _ _ _ hc q=>by
 have h1:(0:Int)<j:=hc.1;exact floordiv_int (by omega) (by rw[Int.fdiv_eq_ediv_of_nonneg i (by omega)];exact q) (.inl (PyProof.noPylong_of_log2 hc.2))
end
theorem aA.tup{K:W.Frag}{H H' :Hp}{a:Addr}{xs:List V}(e:aA H H')(h:bL K H a xs):bL K H' a xs:=by
 rcases h with(h|⟨o,h⟩)|h
 ·exact .inl (.inl (e _ _ h))
 ·exact .inl (.inr ⟨o,e _ _ h⟩)
 ·exact .inr h
theorem aQ{H:Hp}{p:Addr}(h:H p=none)(o:HO):aA H (upd H p o):=fun b u q=>by rw[aD (aH q h)];exact q
theorem aA.upd{H H' :Hp}{D:Addr}{o:HO}(e:aA H H')(h:H D=none):aA H (upd H' D o):=fun b u q=>by rw[aD (aH q h)];exact e b u q
noncomputable def bR(z:Str):List V:=z.cps.toList.map fun c=>V.str ⟨#[c]⟩
theorem gN(z:Str):(bR z).length=z.length:=by
 unfold bR;rw[CW,Cn];rfl
noncomputable def xW(n:Nat):List V:=(List.range n).map fun i=>V.int (i:Nat)
section
variable{X:Cx}{N' :List Str}{scope:Scope}{elt:Expr}{σ:St}{H1:Hp}{J:It}{xs:List V}
theorem uC{r:List (Option Nat)}{σ:St}{x:V}(h:r.length+1=N'.length) :
  ((ax (none::r) σ).set 0 (some x)).length=N'.length/\∀(j:Nat)(v:V),(ax (none::r) σ)[j]? =some (some v)->((ax (none::r) σ).set 0 (some x))[j]? =some (some v):=by
 refine⟨by rw[DM];simp[ax,h],fun j v e=> ?_⟩;cases j with
 | zero=>simp[ax]at e
 | succ j=>simpa [ax]using e
end
structure qD(K:W.Frag)(mg:Str->Option Value)(x:Str)(st:Stmt)(ps:List Str)(f:Addr)(fd:FuncData):Prop where
 fn:Ad K x x st f fd
 nm:mg x=some (.ref f)
 bd:Binds K fd ps []
theorem xO{X:Cx}{x:Str}{n:String}{pos:Pos}(hg:Gl X x)(hm:X.mg x=none)(hv:bootBuiltins x=some (.type n))(hn:x≠"__name__":=by decide)(hd:(x==("__debug__":Str))=false:=by decide):PE X (.Name x pos) (tC (.ty n)) :=
 vd (v:=.ty n) hg hm hv rfl hn hd
section
variable{K:W.Frag}
theorem cx(n:String):W.kitOne K (.type n) (.type n)=some true:=by
 unfold W.kitOne;rw[Cd (by simp)]
end
noncomputable def BZ:V->Nat
 | .str z=>z.length
 | _=>0
noncomputable def nZ(K:W.Frag):Sp:=fun vs H Q _=>∃(a:Addr)(ns:List Int),vs=[.ref a]/\ar K H a (ns.map V.int)/\ns.length<=63/\∀H',Q (.bl true) H'
section
variable{X:Cx}{e st:Expr}{te ts:TE}{pos p2:Pos}
noncomputable def vK:V->List V->Hp->VK->Prop:=fun x vs H Q=>∃(l:Addr)(xs:List V)(i:Int)(y:V),x=.ref l/\vs=[.int i,y]/\H l=some (.lst xs)/\0<=i/\i<=xs.length/\xs.length<sizeLine/\Q .non (upd H l (.lst (xs.take i.toNat++y::xs.drop i.toNat)))
theorem pL:MtM X "list.insert" vK:=by
 intro pins s σ H x vs v us Q I rx rv h;obtain⟨l,xs,i,y,rfl,rfl,hH,h0,h1,hz,q⟩:=h;cases rx;obtain⟨u,w',rfl,⟨t,rfl⟩,ry⟩:=rv.two;obtain⟨z,its,n,r,hl,e⟩:=I.lstM hH;have hs:sizeLine=16777216:=DN;refine call_meets F.slot_list_insert ⟨_,e,rfl⟩ F.entry_list_insert (F.args_list_insert_3 _ _ _) (AutoListH.list_insert_list_int_val_1 l its.toArray n i t w' ?_ (by rw[Cb];omega)) ⟨e,?_⟩
 ·unfold Builtin.List.listFitsIndex
  simp;omega
 ·refine⟨.non,_,I.lset (its' :=its.take i.toNat++w' ::its.drop i.toNat) hH e ?_ ((r.take i.toNat).append (.cons ry (r.drop i.toNat))) ?_,rfl,q⟩
  ·have k:(if i<0 then(i+((its.toArray.size:Nat):Int)).toNat else min i.toNat its.toArray.size)=i.toNat:=by
    rw[Ci (by omega),Cb];omega
   simp only[k];simp;rw[Db (by simp)]
  ·simp only[Cm,Dg,C3,Dy]
   omega
end
section
variable{κ:Type}[DecidableEq κ]
noncomputable def dk(kvs:List (κ×V))(k:κ):Option V:=(kvs.find? fun kv=>decide (kv.1=k)).map (·.2)
noncomputable def dz(kvs:List (κ×V))(k:κ)(v:V):List (κ×V) :=
 if(kvs.any fun kv=>decide (kv.1=k))=true then kvs.map (fun kv=>if kv.1=k then(kv.1,v)else kv)else kvs++[(k,v)]
theorem di{p:κ×V}{r:List (κ×V)}{k:κ}(e:p.1=k):dk (p::r) k=some p.2:=by simp[dk,EH,e]
theorem dj{p:κ×V}{r:List (κ×V)}{k:κ}(e:¬p.1=k):dk (p::r) k=dk r k:=by simp[dk,EH,e]
theorem j4(k:κ):∀kvs:List (κ×V),(kvs.any fun kv=>decide (kv.1=k))=(dk kvs k).isSome
 | []=>rfl
 | p::r=>by
  rw[List.any_cons]
  by_cases e:p.1=k
  ·simp only[di e,Ed e,Bool.true_or,Option.isSome_some]
  ·rw[dj e,C5 e,Bool.false_or];exact j4 k r
theorem ke(kvs:List (κ×V))(k:κ)(v:V):(dz kvs k v).length<=kvs.length+1:=by
 unfold dz
 split
 ·rw[CW];omega
 ·rw[Cm,C3,EG];omega
theorem df.isSome_eq{o:Option V}{u:Option Value}(r:df o u):o.isSome=u.isSome:=by
 cases o with
 | none=>cases u with
  | none=>rfl
  | some _=>exact(show False from r).elim
 | some _=>cases u with
  | none=>exact(show False from r).elim
  | some _=>rfl
theorem df.getD{o:Option V}{u:Option Value}{d:V}{d' :Value}(r:df o u)(rd:RelV d d'):RelV (o.getD d) (u.getD d'):=by
 cases o with
 | none=>cases u with
  | none=>exact rd
  | some _=>exact(show False from r).elim
 | some _=>cases u with
  | none=>exact(show False from r).elim
  | some _=>exact r
theorem KV.val{kvs:List (κ×V)}{vs:List (κ×Value)}(r:KV kvs vs)(k:κ):df (dk kvs k) (valueAt vs k):=by
 unfold KV at r
 induction r with
 | nil=>exact True.intro
 | @cons p q ps qs h t ih =>
  obtain⟨h1,h2⟩:=h
  by_cases e:p.1=k
  ·have e' :q.1=k:=h1.symm.trans e
   have b:valueAt (q::qs) k=some q.2:=by simp[valueAt,EH,e']
   rw[di e,b];exact h2
  ·have e' :¬q.1=k:=fun z=>e (h1.trans z)
   have b:valueAt (q::qs) k=valueAt qs k:=by simp[valueAt,EH,e']
   rw[dj e,b];exact ih
theorem KV.any{kvs:List (κ×V)}{vs:List (κ×Value)}(r:KV kvs vs)(k:κ):(kvs.any fun kv=>decide (kv.1=k))=vs.any fun kv=>decide (kv.1=k):=by
 unfold KV at r
 induction r with
 | nil=>rfl
 | cons h t ih=>rw[List.any_cons,List.any_cons,ih,h.1]
theorem KV.repl{kvs:List (κ×V)}{vs:List (κ×Value)}(r:KV kvs vs)(k:κ){y:V}{u:Value}(ry:RelV y u) :
  KV (kvs.map fun kv=>if kv.1=k then(kv.1,y)else kv) (vs.map fun kv=>if kv.1=k then(kv.1,u)else kv):=by
 unfold KV at r ⊢
 induction r with
 | nil=>exact .nil
 | @cons p q ps qs h t ih =>
  rw[Cq,Cq];refine .cons ?_ ih;obtain⟨h1,h2⟩:=h
  by_cases e:p.1=k
  ·rw[Cd e,Cd (h1.symm.trans e)];exact⟨h1,ry⟩
  ·rw[Ci e,Ci (fun z=>e (h1.trans z))];exact⟨h1,h2⟩
theorem KV.put{kvs:List (κ×V)}{vs:List (κ×Value)}(r:KV kvs vs)(k:κ){y:V}{u:Value}(ry:RelV y u):KV (dz kvs k y) (stored vs k u):=by
 unfold dz stored;rw[r.any k]
 by_cases e:(vs.any fun kv=>decide (kv.1=k))=true
 ·rw[Cd e,Cd e];exact r.repl k ry
 ·rw[Ci e,Ci e];exact Paired.snoc r ⟨rfl,ry⟩
theorem KV.length{kvs:List (κ×V)}{vs:List (κ×Value)}(r:KV kvs vs):kvs.length=vs.length:=Paired.length r
end
theorem s0{P:Program}{w:World}{k:aq}{u:Value}(r:RelV (kV k) u):(ah P w).is k u=true:=by
 cases k with
 | inl i=>obtain⟨t,e⟩:=(show∃t,u=Value.int i t from r);subst e;exact kZ P w i t
 | inr x=>obtain⟨t,e⟩:=(show∃t,u=Value.str x t from r);subst e;exact kY P w x t
theorem ii{P:Program}{w:World}:∀{ks:List aq}{us:List Value},aK (ks.map kV) us->ItemsAre (ah P w) ks us
 | [],_,r=>by rw[D5]at r;cases r;exact .nil
 | k::ks,_,r=>by
  rw[Cq]at r;cases r with
  | cons h t=>exact .cons (s0 h) (ii t)
noncomputable abbrev KT(H:Hp):List (List aq×V)->List (List aq×Addr×Value)->Prop:=Paired fun p q=>p.1=q.1/\H q.2.1=some (.tup (p.1.map kV))/\RelV p.2 q.2.2
theorem KT.val{H:Hp}{kvs:List (List aq×V)}{xs:List (List aq×Addr×Value)}(r:KT H kvs xs)(k:List aq):df (dk kvs k) ((atKey xs k).map (·.2)):=by
 induction r with
 | nil=>exact True.intro
 | @cons p q ps qs h t ih =>
  obtain⟨h1,_,h2⟩:=h
  by_cases e:p.1=k
  ·have e' :q.1=k:=h1.symm.trans e
   have b:atKey (q::qs) k=some q.2:=by simp[atKey,EH,e']
   rw[di e,b];exact h2
  ·have e' :¬q.1=k:=fun z=>e (h1.trans z)
   have b:atKey (q::qs) k=atKey qs k:=by simp[atKey,EH,e']
   rw[dj e,b];exact ih
theorem KT.repl{H:Hp}{kvs:List (List aq×V)}{xs:List (List aq×Addr×Value)}(r:KT H kvs xs)(k:List aq){y:V}{u:Value}(ry:RelV y u) :
  KT H (kvs.map fun kv=>if kv.1=k then(kv.1,y)else kv) (xs.map (putAt k u)):=by
 induction r with
 | nil=>exact .nil
 | @cons p q ps qs h t ih =>
  rw[Cq,Cq];refine .cons ?_ ih;obtain⟨h1,h2,h3⟩:=h;unfold putAt
  by_cases e:p.1=k
  ·rw[Cd e,Cd (h1.symm.trans e)];exact⟨h1,h2,ry⟩
  ·rw[Ci e,Ci (fun z=>e (h1.trans z))];exact⟨h1,h2,h3⟩
theorem KT.put{H:Hp}{kvs:List (List aq×V)}{xs:List (List aq×Addr×Value)}(r:KT H kvs xs)(k:List aq){b:Addr}{y:V}{u:Value}(hb:H b=some (.tup (k.map kV)))(ry:RelV y u) :
  KT H (dz kvs k y) (storedH xs k b u):=by
 have e:(kvs.any fun kv=>decide (kv.1=k))=(atKey xs k).isSome:=by
  rw[j4,(r.val k).isSome_eq,Option.isSome_map]
 unfold dz storedH;rw[e]
 by_cases q:(atKey xs k).isSome=true
 ·rw[Cd q,Cd q];exact r.repl k ry
 ·rw[Ci q,Ci q];exact Paired.snoc r ⟨rfl,hb,ry⟩
theorem KT.keeps{H H' :Hp}{kvs:List (List aq×V)}{xs:List (List aq×Addr×Value)}(r:KT H kvs xs)(ht:∀b ys,H b=some (.tup ys)->H' b=some (.tup ys)):KT H' kvs xs :=
 Paired.mapP r fun _ _ z=>⟨z.1,ht _ _ z.2.1,z.2.2⟩
section
variable{P:Program}{w:World}{H:Hp}{h:Heap}{a:Addr}
theorem xN{u:HO}(ok:bi P w H h)(e:Rd H a u):aa P w H h a u:=e.ok ok
theorem oR{kvs:List (aq×V)}(ok:bi P w H h)(e:Rd H a (.dK kvs)):kvs.length<=sizeLine/\(a==sysModules)=false/\∃vs,KV kvs vs/\h.DictOf (ah P w) a vs :=
 show aa P w H h a (.dK kvs)from xN ok e
theorem Bq{kvs:List (aq×V)}(ok:bi P w H h)(e:H a=some (.dK kvs)):kvs.length<=sizeLine/\(a==sysModules)=false/\∃vs,KV kvs vs/\h.DictOf (ah P w) a vs:=oR ok (.inl e)
theorem sq{ks:List aq}(ok:bi P w H h)(e:H a=some (.tup (ks.map kV))):(tupleKind (ah P w)).is h ks a:=by
 obtain⟨_,its,r,o,h1,h2,n,h3,_⟩:=(show aa P w H h a (.tup (ks.map kV))from ok a _ e);exact⟨o,its.toArray,n,h1,h2,h3,by simpa using ii r⟩
theorem xb{kvs:List (List aq×V)}(ok:bi P w H h)(e:Rd H a (.dT kvs)):kvs.length<=sizeLine/\(a==sysModules)=false /\
  ∃xs,KT H kvs xs/\h.DictOfH (tupleKind (ah P w)) a xs:=by
 obtain⟨z,y,xs,r,o,es,ep,h1,h2,h3,h4,h5⟩:=(show aa P w H h a (.dT kvs)from xN ok e);refine⟨z,y,xs,r,o,es,ep,h1,h2,h3,h4,fun x hx=> ?_,h5⟩;have all:∀{l:List (List aq×V)}{m:List (List aq×Addr×Value)},KT H l m->∀x∈m,(tupleKind (ah P w)).is h x.1 x.2.1:=by
  intro l m q
  induction q with
  | nil=>intro x hx;exact nomatch hx
  | @cons p q ps qs hq t ih =>
   intro x hx
   rcases Co.mp hx with e|hx
   ·subst e
    exact sq ok (by rw[<- hq.1];exact hq.2.1)
   ·exact ih x hx
 exact all r x hx
end
noncomputable def g9(H:Hp)(a:Addr)(y:V)(r:Option V):Prop :=
 (∃kvs k,Rd H a (.dK kvs)/\y=kV k/\r=dk kvs k)\/∃kvs k b,Rd H a (.dT kvs)/\y=.ref b/\H b=some (.tup (k.map kV))/\r=dk kvs k
noncomputable def xD(H:Hp)(a:Addr)(y v:V)(H' :Hp):Prop :=
 (∃kvs k,H a=some (.dK kvs)/\y=kV k/\kvs.length<sizeLine/\H' =upd H a (.dK (dz kvs k v))) \/
 ∃kvs k b,H a=some (.dT kvs)/\y=.ref b/\H b=some (.tup (k.map kV))/\kvs.length<sizeLine/\H' =upd H a (.dT (dz kvs k v))
theorem g9.k{H:Hp}{a:Addr}{kvs:List (aq×V)}{k:aq}(e:H a=some (.dK kvs)):g9 H a (kV k) (dk kvs k):=.inl ⟨kvs,k,.inl e,rfl,rfl⟩
theorem g9.t{H:Hp}{a b:Addr}{kvs:List (List aq×V)}{k:List aq}(e:H a=some (.dT kvs))(eb:H b=some (.tup (k.map kV))):g9 H a (.ref b) (dk kvs k):=.inr ⟨kvs,k,b,.inl e,rfl,eb,rfl⟩
theorem xD.k{H:Hp}{a:Addr}{kvs:List (aq×V)}{k:aq}{v:V}(e:H a=some (.dK kvs))(hl:kvs.length<sizeLine):xD H a (kV k) v (upd H a (.dK (dz kvs k v))):=.inl ⟨kvs,k,e,rfl,hl,rfl⟩
theorem xD.t{H:Hp}{a b:Addr}{kvs:List (List aq×V)}{k:List aq}{v:V}(e:H a=some (.dT kvs))(eb:H b=some (.tup (k.map kV)))(hl:kvs.length<sizeLine) :
  xD H a (.ref b) v (upd H a (.dT (dz kvs k v))):=.inr ⟨kvs,k,b,e,rfl,eb,hl,rfl⟩
section
variable{X:Cx}{pins:List (Addr×Obj)}{σ:St}{H:Hp}{s:Shared}{a:Addr}{y v:V}{u r:Value}{o:Option V}{A:Around}{E:Value->Shared->Prop}
theorem Inv.big(I:Inv X pins σ H s):sysModules<s.heap.objs.size:=by
 have h:mainGlobals<s.heap.objs.size:=(I.mod.glob.keeps I.bk).lt;exact D2 (by decide) h
theorem pc{Q:Value->Shared->Prop}(hu:A.units+1<cLine)(I:Inv X pins σ H s)(g:g9 H a y (some v))(ry:RelV y u)(h:∀w' s',Inv X pins σ H s' ->RelV v w' ->Q w' s') :
  wpAny (model X.prog X.w) A (getItem (.ref a) u) Q E s:=by
 rcases g with⟨kvs,k,e,ey,l⟩|⟨kvs,k,b,e,ey,eb,l⟩
 ·subst ey
  obtain⟨z,hd,vs,rel,dd⟩:=oR I.hok e;obtain⟨w',hw,rw'⟩:=df.some_of (v:=v) (o:=valueAt vs k) (by rw[l];exact rel.val k);exact wpAny_getItem_of (s0 ry) dd.mapOf hw (h w' _ (I.tok _) rw')
 ·subst ey
  cases(show u=Value.ref b from ry);obtain⟨z,hd,xs,rel,dd⟩:=xb I.hok e;obtain⟨w',hw,rw'⟩:=df.some_of (v:=v) (o:=(atKey xs k).map (·.2)) (by rw[l];exact rel.val k);obtain⟨p,hp,hp2⟩:=Option.map_eq_some_iff.mp hw;refine wpAny_getItem_heap (tupleKind_room_in1 hu) (sq I.hok eb) dd hp ?_;rw[hp2];exact h w' _ (I.tok _) rw'
theorem wR{h' :Heap}{t' :Nat}{ob:HO}(I:Inv X pins σ H s)(mu:Ac (H a))(hs:Heap.SameBut a s.heap h')(he:∃q,h'.get? a=some q)(new:aa X.prog X.w (upd H a ob) h' a ob) :
  Inv X pins σ (upd H a ob) {s with heap:=h',toks:=t'} :=
 I.write (x:=a) (e:=a) mu (.inl rfl) (fun b q hb z=>(hs.2 b hb).trans z) he new
theorem zj{P:Program}{w:World}{H' :Hp}{h' :Heap}{kvs:List (aq×V)}{vs:List (aq×Value)}(z:kvs.length<=sizeLine)(hd:(a==sysModules)=false)(rel:KV kvs vs)(dd:h'.DictOf (ah P w) a vs) :
  aa P w H' h' a (.dK kvs):=⟨z,hd,vs,rel,dd⟩
end
section
variable{X:Cx}{pins:List (Addr×Obj)}{σ:St}{H:Hp}{s:Shared}{a:Addr}{kvs:List (aq×V)}{k:aq}{u:Value}{A:Around}{E:Value->Shared->Prop}
theorem Br{Q:Value->Shared->Prop}(I:Inv X pins σ H s)(e:Rd H a (.dK kvs))(h:∀t s',Inv X pins σ H s' ->Q (.int kvs.length t) s'):wpAny (model X.prog X.w) A (call (.builtin "len") [.ref a]) Q E s:=by
 obtain⟨z,hd,vs,rel,dd⟩:=oR I.hok e;refine call_len_dict hd dd (by rw[<- rel.length];rw[DN]at z;omega) ?_;rw[<- rel.length];exact h _ _ (I.tok _)
end
noncomputable def xB(i:Expr):Prop:=∀ov iv,subscripted i false ov iv=operate [ov,iv] (getItem ov iv)
theorem uv{prog:Program}{w:World}{A:Around}{E:Value->Shared->Prop}{s:Shared}{env:Env}{value slice:Expr}{pos:Pos}{T id:String}{Q:Value->Shared->Prop}
  (hl:typeLookup (.type T) "__getitem__"=pure (some (.builtin id))) (hs:xB slice)
  (h:wpAny (model prog w) A (eval value env) (fun o s₁=>wpAny (model prog w) A (eval slice env) (fun i s₂=>s₂.TypeIs o T/\wpAny (model prog w) A (getItem o i) Q E s₂) E s₁) E s) :
  wpAny (model prog w) A (eval (.Subscript value slice pos) env) Q E s:=by
 refine Subscript_ (DS h (fun o s₁ h₁=>DS h₁ (fun i s₂ h₂=> ?_) fun _ _ x=>x) fun _ _ x=>x);obtain⟨hT,h₂⟩:=h₂;unfold subscriptTail;refine CU ?_;rw[getitemInPython_of_ne hT.not_modules];refine CU (wpAny_specialOf hT hl ?_);have fin:wpAny (model prog w) A (subscripted slice false o i) (fun r s₃=>wpAny (model prog w) A (letTemporaryGo value o r >>= fun _=>pure r) Q E s₃) E s₂:=by
  rw[hs o i];exact wpAny_operating (DS h₂ (fun r s₃ h₃=>CU (wpAny_letTemporaryGo (Ce h₃))) fun _ _ x=>x)
 first
  | exact Ce (CU fin)
  | exact CU (Ce (CU fin))
  | exact CU fin
theorem k8{X:Cx}{pins:List (Addr×Obj)}{σ:St}{H:Hp}{s:Shared}{a:Addr}{y:V}{o:Option V}(I:Inv X pins σ H s)(g:g9 H a y o):s.TypeIs (.ref a) "dict":=by
 rcases g with⟨kvs,k,e,_,_⟩|⟨kvs,k,b,e,_,_,_⟩
 ·obtain⟨_,_,vs,_,dd⟩:=oR I.hok e
  exact dd.typeIs
 ·obtain⟨_,_,xs,_,dd⟩:=xb I.hok e
  exact dd.typeIs
noncomputable def Aw(td ty:TE):TE:=fun σ H Q=>td σ H fun x H1=>ty σ H1 fun y H2=>∃a v,x=.ref a/\g9 H2 a y (some v)/\Q v H2
section
variable{X:Cx}{o i e value:Expr}{pos pos' tpos:Pos}{td ty tv:TE}
theorem jU(hu:X.A.units+1<cLine)(ho:PE X o td)(hi:PE X i ty)(hs:xB i):PE X (.Subscript o i pos) (Aw td ty):=by
 intro pins s σ H Q I h;refine uv PySem.F.slot_dict_getitem.lookup hs (af (ho pins s σ H _ I h) fun u s1 ⟨x,H1,I1,rx,q1⟩=>af (hi pins s1 σ H1 _ I1 q1) fun iv s2 hpq=> ?_);obtain⟨y,H2,I2,ry,a,v,ex,g,q2⟩:=hpq;subst ex;obtain rfl:u=Value.ref a:=rx;exact⟨k8 I2 g,pc hu I2 g ry fun w' s3 I3 rw' =>⟨v,H2,I3,rw',q2⟩⟩
end
theorem tX{P:Program}{w:World}{H:Hp}(h:Heap)(hb:sysModules<h.objs.size):aa P w H (h.push {cls:=.type "dict",data:=.dict #[]}) h.objs.size (.dK []) :=
 ⟨DH _,beq_eq_false_iff_ne.mpr (Du (Cu hb)),[],.nil,Heap.DictOf.new h⟩
section
variable{X:Cx}{pos:Pos}
end
noncomputable def mD:List (TE×TE)->St->Hp->(List (V×V)->Hp->Prop)->Prop
 | [],_,H,Q=>Q [] H
 | (tk,tv)::r,σ,H,Q=>tk σ H fun x H1=>tv σ H1 fun y H2=>mD r σ H2 fun ps H3=>Q ((x,y)::ps) H3
noncomputable abbrev VV:List (V×V)->List (Value×Value)->Prop:=Paired fun p q=>RelV p.1 q.1/\RelV p.2 q.2
noncomputable def PPs(X:Cx)(pos:Pos)(keys:List (Option Expr))(values:List Expr)(trs:List (TE×TE)):Prop :=
 ∀(pins:List (Addr×Obj))(s:Shared)(σ:St)(H:Hp)(Q:List (V×V)->Hp->Prop),Inv X pins σ H s->mD trs σ H Q ->
  wpAny (model X.prog X.w) X.A (evalPairs (pairTrees keys values X.env pos)) (fun vs s' =>∃ps H',Inv X pins σ H' s' /\VV ps vs/\Q ps H') X.xe s
theorem vT{X:Cx}{pos:Pos}:PPs X pos [] [] []:=fun pins s σ H Q I h=>pairTrees_nil_walk ⟨[],H,I,.nil,h⟩
theorem kO{X:Cx}{pos:Pos}{k v:Expr}{ks:List (Option Expr)}{vs:List Expr}{tk tv:TE}{trs:List (TE×TE)}(hk:PE X k tk)(hv:PE X v tv)(hr:PPs X pos ks vs trs) :
  PPs X pos (some k::ks) (v::vs) ((tk,tv)::trs):=fun pins s σ H Q I h =>
 pairTrees_cons_walk (af (hk pins s σ H _ I h) fun u s1 ⟨x,H1,I1,rx,q1⟩=>af (hv pins s1 σ H1 _ I1 q1) fun w2 s2 ⟨y,H2,I2,ry,q2⟩ =>
  af (hr pins s2 σ H2 _ I2 q2) fun ws s3 ⟨ps,H3,I3,rel,q3⟩=>⟨(x,y)::ps,H3,I3,.cons ⟨rx,ry⟩ rel,q3⟩)
noncomputable def dX(kvs more:List (aq×V)):List (aq×V):=more.foldl (fun acc kv=>dz acc kv.1 kv.2) kvs
theorem KV.merge:∀{more:List (aq×V)}{rs:List (aq×Value)}{kvs:List (aq×V)}{vs:List (aq×Value)},KV more rs->KV kvs vs->KV (dX kvs more) (merged vs rs):=by
 intro more rs kvs vs r;unfold KV at r
 induction r generalizing kvs vs with
 | nil=>intro q;exact q
 | @cons p q ps qs h t ih =>
  intro r0;have e:KV (dz kvs p.1 p.2) (stored vs q.1 q.2):=by
   have:=r0.put p.1 h.2;rw[<- h.1];exact this
  exact ih e
theorem dQ:∀(more kvs:List (aq×V)),(dX kvs more).length<=kvs.length+more.length
 | [],kvs=>by show kvs.length<=kvs.length+0;omega
 | p::r,kvs=>by
  have h1:=dQ r (dz kvs p.1 p.2);have h2:=ke kvs p.1 p.2;show(dX (dz kvs p.1 p.2) r).length<=_;rw[C3];omega
theorem gu{P:Program}{w:World}:∀{kvs:List (aq×V)}{ws:List (Value×Value)},VV (kvs.map fun kv=>(kV kv.1,kv.2)) ws->∃rs,Carries (ah P w) ws rs/\KV kvs rs
 | [],_,r=>by rw[D5]at r;cases r;exact⟨[],True.intro,.nil⟩
 | p::kvs,_,r=>by
  rw[Cq]at r;cases r with
  | @cons a b as bs h t =>
   obtain⟨rs,c,q⟩:=gu (P:=P) (w:=w) t;obtain⟨b1,b2⟩:=b;exact⟨(p.1,b2)::rs,⟨s0 h.1,rfl,c⟩,.cons ⟨rfl,h.2⟩ q⟩
noncomputable def Av(trs:List (TE×TE)):TE:=fun σ H Q=>∀p,H p=none->mD trs σ (upd H p (.dK [])) fun ps H2=>H2 p=some (.dK [])/\∃kvs:List (aq×V),ps=kvs.map (fun kv=>(kV kv.1,kv.2))/\kvs.length<=15/\Q (.ref p) (upd H2 p (.dK (dX [] kvs)))
theorem vb{X:Cx}{pos:Pos}{keys:List (Option Expr)}{values:List Expr}{trs:List (TE×TE)}(h:PPs X pos keys values trs)(hall:keys.all (·.isSome)=true)(hl:keys.length=values.length)(h0:keys≠[])
  (h15:keys.length<=15):PE X (.Dict keys values pos) (Av trs):=by
 intro pins s σ H Q I q;have hn:=I.hok.fresh (Ca s.heap.objs.size);have I1:=I.laid (a:=s.heap.objs.size) (o:=.dK []) (h' :=s.heap.push {cls:=.type "dict",data:=.dict #[]}) (t' :=s.toks) (fun _ _ q=>CV _ q) (Ca _) (tX s.heap I.big);refine wpAny_Dict_walk (knd:=ah X.prog X.w) hall hl h0 h15 (af (h pins _ σ _ _ I1 (q _ hn)) fun ws s2 hpq=> ?_);obtain⟨ps,H2,I2,rel,e,kvs,ep,lk,q2⟩:=hpq;subst ep;obtain⟨rs,c,rk⟩:=gu (P:=X.prog) (w:=X.w) rel;obtain⟨z,hd,vs0,r0,dd⟩:=Bq I2.hok e;cases r0;refine⟨rs,c,dd,fun h' dd' hs=>⟨.ref s.heap.objs.size,_,?_,rfl,q2⟩⟩;have hz:(dX [] kvs).length<=sizeLine:=by
  have h1:=dQ kvs [];rw[EG]at h1;rw[DN];omega
 have he:∃q,h'.get? s.heap.objs.size=some q:=let⟨q,_,_,hq,_⟩:=dd';⟨q,hq⟩
 exact wR I2 (by rw[e];exact True.intro) hs he (zj hz hd (rk.merge .nil) dd')
section
variable{X:Cx}{pins:List (Addr×Obj)}{σ:St}{H:Hp}{s:Shared}{a:Addr}{y d:V}{u r:Value}{o:Option V}{A:Around}{E:Value->Shared->Prop}
end
section
variable{X:Cx}{o e f:Expr}{apos cpos:Pos}{td ty tx:TE}
end
section
variable{X:Cx}{pins:List (Addr×Obj)}{σ:St}{H:Hp}{s:Shared}{a:Addr}{kvs:List (aq×V)}{A:Around}{E:Value->Shared->Prop}
end
section
variable{X:Cx}{pins:List (Addr×Obj)}{σ:St}{H:Hp}{s:Shared}{a:Addr}{y:V}{u:Value}{A:Around}{E:Value->Shared->Prop}
end
section
variable{κ:Type}[DecidableEq κ]
end
noncomputable def txt(cs:List Nat):Str:=⟨cs.toArray⟩
theorem ge:∀cs:List Nat,Str.join ⟨#[]⟩ (cs.map fun c=>(⟨#[c]⟩:Str))=txt cs
 | []=>rfl
 | [c]=>rfl
 | c::d::cs=>by
  have ih:=ge (d::cs);show(⟨#[c]⟩:Str)++⟨#[]⟩++Str.join ⟨#[]⟩ ((d::cs).map fun c=>(⟨#[c]⟩:Str))=_;rw[ih]
  apply UM.ft
  rw[PySem.Str.cps_append,PySem.Str.cps_append];simp[txt]
noncomputable def cd(rows:List Str)(i j:Nat):Nat:=((rows.getD i ⟨#[]⟩).cps.toList).getD j 0
noncomputable def fl(c:Nat):Nat:=if c=120 then 46 else 120
noncomputable def sg(o:Bool)(c:Nat):Nat:=if o then fl c else c
noncomputable def Wd(rows:List Str)(w:Nat):Prop:=∀r∈rows,r.length=w
open AutoSeq1 (wpAny_loadPart')
theorem eW:fillsNumberSlot (.type "tuple") "mul"=pure false :=
 PySem.fillsNumberSlot_seq (id:="tuple.__mul__") (r:=some (.builtin "tuple.__rmul__")) F.slot_tuple_mul.lookup (by decide +kernel) F.slot_tuple_rmul.lookup (by decide +kernel)
theorem jN:seqRepeat? (.type "tuple")=pure (some (.builtin "tuple.__mul__")):=by
 unfold seqRepeat?;rw[PySem.seqSlot_of (T:="tuple") (name:="__mul__") (id:="tuple.__mul__") F.slot_tuple_mul.lookup (by decide +kernel),PySem.seqSlot_of (T:="tuple") (name:="__rmul__") (id:="tuple.__rmul__") F.slot_tuple_rmul.lookup (by decide +kernel)];rfl
theorem mI(a:Int)(t:Tok)(l:Addr)(items:Array Value)(n:Nat)(dd:Option Addr)(sl:Array (Option Value)) :
  Meets (Builtin.«int.__rmul__» ⟨[.int a t,.ref l],[]⟩) (fun _ R s=>s.heap.get? l=some {cls:=.type "tuple",dict:=dd,data:=.seq items n,slots:=sl}/\R (.ok (.ret Value.notImplemented)) s) :=
 .of_wp fun prog w A R s h=>by
  obtain⟨hp,g,d,tk,os⟩:=s;obtain⟨hl,h⟩:=h
  wp_walk
  exact⟨_,rfl,h⟩
theorem lz(l:Addr)(v:Value)(n:Nat)(dd:Option Addr)(sl:Array (Option Value))(u:Tok) :
  Meets (Builtin.«tuple.__mul__» ⟨[.ref l,.int 8 u],[]⟩) (fun _ R s=>s.heap.get? l=some {cls:=.type "tuple",dict:=dd,data:=.seq #[v] n,slots:=sl} /\
   R (.ok (.ret (.ref s.heap.objs.size))) {s with heap:=s.heap.push {cls:=.type "tuple",data:=.seq [v,v,v,v,v,v,v,v].toArray}}) :=
 .of_wp fun prog w A R s h=>by
  obtain⟨hp,g,d,tk,os⟩:=s;obtain⟨hl,h⟩:=h;have f1:=D7
  wp_walk using DC hl
  exact⟨_,rfl,h⟩
section
variable{X:Cx}
end
open AutoSeq1 (wpAny_loadPart')
theorem mB(l:Addr)(v:Value)(n:Nat)(dd:Option Addr)(sl:Array (Option Value))(u:Tok) :
  Meets (Builtin.«tuple.__mul__» ⟨[.ref l,.int 2 u],[]⟩) (fun _ R s=>s.heap.get? l=some {cls:=.type "tuple",dict:=dd,data:=.seq #[v] n,slots:=sl} /\
   R (.ok (.ret (.ref s.heap.objs.size))) {s with heap:=s.heap.push {cls:=.type "tuple",data:=.seq [v,v].toArray}}) :=
 .of_wp fun prog w A R s h=>by
  obtain⟨hp,g,d,tk,os⟩:=s;obtain⟨hl,h⟩:=h;have f1:=D7
  wp_walk using DC hl
  exact⟨_,rfl,h⟩
theorem l9(l:Addr)(v:Value)(n:Nat)(dd:Option Addr)(sl:Array (Option Value))(u:Tok) :
  Meets (Builtin.«tuple.__mul__» ⟨[.ref l,.int 3 u],[]⟩) (fun _ R s=>s.heap.get? l=some {cls:=.type "tuple",dict:=dd,data:=.seq #[v] n,slots:=sl} /\
   R (.ok (.ret (.ref s.heap.objs.size))) {s with heap:=s.heap.push {cls:=.type "tuple",data:=.seq [v,v,v].toArray}}) :=
 .of_wp fun prog w A R s h=>by
  obtain⟨hp,g,d,tk,os⟩:=s;obtain⟨hl,h⟩:=h;have f1:=D7
  wp_walk using DC hl
  exact⟨_,rfl,h⟩
theorem l8(l:Addr)(v:Value)(n:Nat)(dd:Option Addr)(sl:Array (Option Value))(u:Tok) :
  Meets (Builtin.«tuple.__mul__» ⟨[.ref l,.int 4 u],[]⟩) (fun _ R s=>s.heap.get? l=some {cls:=.type "tuple",dict:=dd,data:=.seq #[v] n,slots:=sl} /\
   R (.ok (.ret (.ref s.heap.objs.size))) {s with heap:=s.heap.push {cls:=.type "tuple",data:=.seq [v,v,v,v].toArray}}) :=
 .of_wp fun prog w A R s h=>by
  obtain⟨hp,g,d,tk,os⟩:=s;obtain⟨hl,h⟩:=h;have f1:=D7
  wp_walk using DC hl
  exact⟨_,rfl,h⟩
theorem l7(l:Addr)(v:Value)(n:Nat)(dd:Option Addr)(sl:Array (Option Value))(u:Tok) :
  Meets (Builtin.«tuple.__mul__» ⟨[.ref l,.int 5 u],[]⟩) (fun _ R s=>s.heap.get? l=some {cls:=.type "tuple",dict:=dd,data:=.seq #[v] n,slots:=sl} /\
   R (.ok (.ret (.ref s.heap.objs.size))) {s with heap:=s.heap.push {cls:=.type "tuple",data:=.seq [v,v,v,v,v].toArray}}) :=
 .of_wp fun prog w A R s h=>by
  obtain⟨hp,g,d,tk,os⟩:=s;obtain⟨hl,h⟩:=h;have f1:=D7
  wp_walk using DC hl
  exact⟨_,rfl,h⟩
theorem l6(l:Addr)(v:Value)(n:Nat)(dd:Option Addr)(sl:Array (Option Value))(u:Tok) :
  Meets (Builtin.«tuple.__mul__» ⟨[.ref l,.int 6 u],[]⟩) (fun _ R s=>s.heap.get? l=some {cls:=.type "tuple",dict:=dd,data:=.seq #[v] n,slots:=sl} /\
   R (.ok (.ret (.ref s.heap.objs.size))) {s with heap:=s.heap.push {cls:=.type "tuple",data:=.seq [v,v,v,v,v,v].toArray}}) :=
 .of_wp fun prog w A R s h=>by
  obtain⟨hp,g,d,tk,os⟩:=s;obtain⟨hl,h⟩:=h;have f1:=D7
  wp_walk using DC hl
  exact⟨_,rfl,h⟩
theorem l5(l:Addr)(v:Value)(n:Nat)(dd:Option Addr)(sl:Array (Option Value))(u:Tok) :
  Meets (Builtin.«tuple.__mul__» ⟨[.ref l,.int 7 u],[]⟩) (fun _ R s=>s.heap.get? l=some {cls:=.type "tuple",dict:=dd,data:=.seq #[v] n,slots:=sl} /\
   R (.ok (.ret (.ref s.heap.objs.size))) {s with heap:=s.heap.push {cls:=.type "tuple",data:=.seq [v,v,v,v,v,v,v].toArray}}) :=
 .of_wp fun prog w A R s h=>by
  obtain⟨hp,g,d,tk,os⟩:=s;obtain⟨hl,h⟩:=h;have f1:=D7
  wp_walk using DC hl
  exact⟨_,rfl,h⟩
theorem lx(l:Addr)(v:Value)(n:Nat)(dd:Option Addr)(sl:Array (Option Value))(u:Tok)(N:Int)(h3:2<=N)(h8:N<=8) :
  Meets (Builtin.«tuple.__mul__» ⟨[.ref l,.int N u],[]⟩) (fun _ R s=>s.heap.get? l=some {cls:=.type "tuple",dict:=dd,data:=.seq #[v] n,slots:=sl} /\
   R (.ok (.ret (.ref s.heap.objs.size))) {s with heap:=s.heap.push {cls:=.type "tuple",data:=.seq (List.replicate N.toNat v).toArray}}):=by
 have:N=2\/N=3\/N=4\/N=5\/N=6\/N=7\/N=8:=by omega
 rcases this with rfl|rfl|rfl|rfl|rfl|rfl|rfl
 ·exact mB l v n dd sl u
 ·exact l9 l v n dd sl u
 ·exact l8 l v n dd sl u
 ·exact l7 l v n dd sl u
 ·exact l6 l v n dd sl u
 ·exact l5 l v n dd sl u
 ·exact lz l v n dd sl u
section
variable{X:Cx}
theorem yk:cg X (compareOp .Is) (fun x y H Q=>∃b c,x=.bl b/\y=.bl c/\Q (.bl (b==c)) H):=by
 intro pins s σ H x y u v Q I rx ry h;obtain⟨b,c,rfl,rfl,q⟩:=h;cases rx;cases ry;exact is_bool ⟨.bl (b==c),H,I,rfl,q⟩
theorem pE:cg X (compareOp .IsNot) (fun x y H Q=>∃b c,x=.bl b/\y=.bl c/\Q (.bl (b !=c)) H):=by
 intro pins s σ H x y u v Q I rx ry h;obtain⟨b,c,rfl,rfl,q⟩:=h;cases rx;cases ry;exact isnot_bool ⟨.bl (b !=c),H,I,rfl,q⟩
theorem qz:Ab X (fun x lo hi H Q=>∃z,x=.str z/\z.length<=sizeLine/\Q (.str (Txt.slice z lo hi)) H):=by
 intro pins s σ H x v vl vu lo hi sl Q I rx hs pl pu h;obtain⟨z,rfl,hz,q⟩:=h;obtain⟨t,rfl⟩:=rx;refine⟨"str",_,slot_str_getitem.lookup,typeIs_str _ _ _,?_⟩;have fin:∀t' k,EP X pins σ Q (.str (Txt.slice z lo hi) t') {s with toks:=k}:=fun t' k=>⟨.str _,H,I.tok _,⟨_,rfl⟩,q⟩;cases pl with
 | none =>
  cases pu with
  | none=>exact ER (l:=none) (u:=none) (st:=none) hs rfl (post_val_or_str ⟨C9 (Txt.slice_le z _ _) hz,fin⟩)
  | int j uj=>exact ER (l:=none) (u:=some (j,uj)) (st:=none) hs rfl (post_val_or_str ⟨C9 (Txt.slice_le z _ _) hz,fin⟩)
 | int i ui =>
  cases pu with
  | none=>exact ER (l:=some (i,ui)) (u:=none) (st:=none) hs rfl (post_val_or_str ⟨C9 (Txt.slice_le z _ _) hz,fin⟩)
  | int j uj=>exact ER (l:=some (i,ui)) (u:=some (j,uj)) (st:=none) hs rfl (post_val_or_str ⟨C9 (Txt.slice_le z _ _) hz,fin⟩)
theorem wG(k n:Nat):Builtin.Str.strSliceIndices none (some (k:Int)) 1 n=(List.range (min k n)).map fun i=>0+i:=by
 unfold Builtin.Str.strSliceIndices sliceRange;have c:((if(0:Int)<max 0 (min (k:Int) (n:Int))then(max 0 (min (k:Int) (n:Int))-0+1-1)/1 else 0):Int).toNat=min k n:=by
  rw[Int.ediv_one]
  split<;>omega
 simp only[show(1:Int)>0 by decide,Eb,show¬((k:Int)<0)by omega,ET,c];refine Da fun i _=> ?_;omega
theorem wF(k n:Nat):Builtin.Str.strSliceIndices (some (k:Int)) none 1 n=(List.range (n-min k n)).map fun i=>min k n+i:=by
 unfold Builtin.Str.strSliceIndices sliceRange;have c:((if max 0 (min (k:Int) (n:Int))<(n:Int)then((n:Int)-max 0 (min (k:Int) (n:Int))+1-1)/1 else 0):Int).toNat=n-min k n:=by
  rw[Int.ediv_one]
  split<;>omega
 simp only[show(1:Int)>0 by decide,Eb,show¬((k:Int)<0)by omega,ET,c];refine Da fun i _=> ?_;omega
theorem ou(z:Str)(k:Nat):(Txt.slice z none (some (k:Int))).cps.toList=z.cps.toList.take k:=by
 have l:z.cps.toList.length=z.length:=by rw[Cn];rfl
 have p:=StrLaws.picks z.cps.toList (min k z.length) 0 (by omega);have f:(fun(i:Nat)=>z.cps[i]?)=fun i=>z.cps.toList[i]? :=by funext i;simp
 unfold Txt.slice;rw[wG]
 split
 ·rename_i h
  simp only[CW,Cy,CZ,DL]at h;rw[Db (by omega)]
 ·rw[f,p,List.drop_zero]
  show(List.take (min k z.length) z.cps.toList).toArray.toList=_;rw[List.toList_toArray,<-l,<-List.take_eq_take_min]
theorem oq(z:Str)(k:Nat):(Txt.slice z (some (k:Int)) none).cps.toList=z.cps.toList.drop k:=by
 have l:z.cps.toList.length=z.length:=by rw[Cn];rfl
 have p:=StrLaws.picks z.cps.toList (z.length-min k z.length) (min k z.length) (by omega);have f:(fun(i:Nat)=>z.cps[i]?)=fun i=>z.cps.toList[i]? :=by funext i;simp
 unfold Txt.slice;rw[wF]
 split
 ·rename_i h
  simp only[CW,Cy,CZ,DL]at h
  by_cases hz:z.length=0
  ·have:z.cps.toList=[]:=List.eq_nil_of_length_eq_zero (by omega)
   rw[this];simp
  ·have:k=0:=by omega
   subst this;rfl
 ·rw[f,p]
  show(List.take (z.length-min k z.length) (List.drop (min k z.length) z.cps.toList)).toArray.toList=_;rw[List.toList_toArray,Db (by rw[Dy];omega)]
  by_cases h:k<=z.length
  ·rw[Nat.min_eq_left h]
  ·rw[Nat.min_eq_right (by omega),EM (by omega),EM (by omega)]
end
section
variable{P:Program}{w:World}{A:Around}{E:Value->Shared->Prop}{s:Shared}
theorem yt{it a:Addr}{i:Nat}{its:Array Value}{v:Value}{Q:Value->Shared->Prop}(ti:s.heap.IsTupleIter it a i)(ta:s.heap.IsTuple a its)(hv:its[i]? =some v)
  (k:∀h',h'.IsTupleIter it a (i+1)->Heap.SameBut it s.heap h' ->Q v {s with heap:=h'}):wpAny (model P w) A (Builtin.SmallTypes.nextOf (.ref it)) Q E s:=by
 obtain⟨r,hr,rc,rd⟩:=id ti;obtain⟨q,hq,_,nq,qd⟩:=ta;unfold Builtin.SmallTypes.nextOf;refine CU (ES (name:=Str.ofString "__next__") ti.typeIs F.slot_tuple_iterator_next (EI F.slot_tuple_iterator_next ti.typeIs F.entry_tuple_iterator_next ?_ (F.args_tuple_iterator_next_1 _)));show wpAny _ _ (field (.ref it) 0 >>= fun _=>_) _ _ s;refine CU (Dx hr rd (x:=.ref a) rfl ?_);show wpAny _ _ (if(Value.ref a==Value.none)=true then _ else _) _ _ s;rw[Ci (by exact Cg)];show wpAny _ _ (field (.ref it) 1 >>= fun _=>_) _ _ s;refine CU (Dx hr rd (x:=.int i 0) rfl ?_);show wpAny _ _ (seqItems? (.ref a) >>= fun _=>_) _ _ s;refine CU (wpAny_seqItems hq qd ?_);simp only[DQ,hv];refine CU (Et hr rd (by simp) (Ce ⟨v,rfl,Ce (k _ ?_ (Heap.SameBut.update ..))⟩));exact⟨_,ED _ hr (Ea (EQ rd _)),(Obj.cls_mapFields ..).trans rc,by rw[EQ rd];simp[rawInt]⟩
theorem mX{it a:Addr}{i:Nat}{its:Array Value}{Q:Value->Shared->Prop}(hd:A.handled=none)(ti:s.heap.IsTupleIter it a i)(ta:s.heap.IsTuple a its)(hv:its[i]? =none)
  (k:∀h' e,Heap.ExtBut it s.heap h' ->(∃o,h'.get? e=some o/\o.cls=.type "StopIteration")->E (.ref e) {s with heap:=h'}):wpAny (model P w) A (Builtin.SmallTypes.nextOf (.ref it)) Q E s:=by
 obtain⟨r,hr,rc,rd⟩:=id ti;obtain⟨q,hq,_,nq,qd⟩:=ta;unfold Builtin.SmallTypes.nextOf;refine CU (ES (name:=Str.ofString "__next__") ti.typeIs F.slot_tuple_iterator_next (EI F.slot_tuple_iterator_next ti.typeIs F.entry_tuple_iterator_next ?_ (F.args_tuple_iterator_next_1 _)));show wpAny _ _ (field (.ref it) 0 >>= fun _=>_) _ _ s;refine CU (Dx hr rd (x:=.ref a) rfl ?_);show wpAny _ _ (if(Value.ref a==Value.none)=true then _ else _) _ _ s;rw[Ci (by exact Cg)];show wpAny _ _ (field (.ref it) 1 >>= fun _=>_) _ _ s;refine CU (Dx hr rd (x:=.int i 0) rfl ?_);show wpAny _ _ (seqItems? (.ref a) >>= fun _=>_) _ _ s;refine CU (wpAny_seqItems hq qd ?_);simp only[DQ,hv];refine CU (wpAny_rule (CU (Et hr rd (by simp) ?_)));show wpAny _ _ (newExc (.type "StopIteration") [] >>= fun _=>_) _ _ _;refine CU ?_;simp only[newExc,newTuple];refine CU (Dd ?_ (by size_fits));refine CU (m:=firstArgMember _ _) (wpAny_of_eq (a:=Value.none) (by first|(simp only[firstArgMember];rfl)|rfl) ?_);refine Dd ?_ (by size_fits);simp only[raiseNew];refine CU (wpAny_handled ?_)
 first|rw[hd]|rw[show A.in1.handled=none by exact hd]
 refine CU (Ce (wpAny_throw ?_));exact k _ _ (((Heap.SameBut.update ..).extBut.push _).push _) ⟨_,Cs _ rfl,rfl⟩
end
theorem pZ{P:Program}{w:World}{A:Around}(hd:A.handled=none)(it a:Addr)(ne:a≠it)(its:Array Value) :
  Draws P w A it [it,a] its.size (fun i v=>its[i]? =some v) (fun i h=>h.IsTupleIter it a i/\h.IsTuple a its) where
 live:=fun _ _ st=>by obtain⟨⟨r,hr,_⟩,_⟩:=st;exact⟨r,hr⟩
 frame:=fun _ _ _ st k=>⟨st.1.at fun o e=>k it (by simp) o e,st.2.at fun o e=>k a (by simp) o e⟩
 item:=fun i s Q E hi st q=>by
  refine yt st.1 st.2 (v:=its[i]) (by simp[hi]) fun h' t' sb=>q _ h' s.toks (by simp[hi]) ⟨t',st.2.extBut sb.extBut ne⟩ sb
 done:=fun s Q E st q=>mX hd st.1 st.2 (by simp) q
open AutoSeq1 (wpAny_loadPart')
theorem ka(a:Addr)(its:Array Value)(n:Nat)(dd:Option Addr)(sl:Array (Option Value)) :
  Meets (Builtin.«enumerate.__new__» ⟨[.type "enumerate",.ref a],[]⟩) (fun _ R s=>s.heap.get? a=some {cls:=.type "tuple",dict:=dd,data:=.seq its n,slots:=sl} /\
   R (.ok (.ret (.ref (s.heap.push {cls:=.type "tuple_iterator",data:=.fields #[.ref a,.int 0 0]}).objs.size)))
    {s with heap:=(s.heap.push {cls:=.type "tuple_iterator",data:=.fields #[.ref a,.int 0 0]}).push {cls:=.type "enumerate",data:=.fields #[.none,.bool false,.ref s.heap.objs.size,rawInt 0,.none,.none]}}) :=
 .of_wp fun prog w A R s h=>by
  obtain⟨hp,g,d,tk,os⟩:=s;obtain⟨ha,h⟩:=h;have hsub:=sub_enumerate;have hT:Heap.IsTuple (Shared.heap ⟨hp,g,d,tk,os⟩) a its:=⟨_,ha,rfl,n,rfl⟩
  wp_walk using DC ha
  refine wpAny_stack_any fun _=>Ce ?_
  split
  ·rename_i c _ _ _ _ _
   cases(c==Value.type "enumerate")
   ·wp_walk using DC ha,Eu hT
    exact⟨_,rfl,h⟩
   ·wp_walk using DC ha,Eu hT
    exact⟨_,rfl,h⟩
  ·wp_walk using DC ha,Eu hT
   exact⟨_,rfl,h⟩
theorem nJ{P:Program}{w:World}{A:Around}{E:Value->Shared->Prop}{s:Shared}{a:Addr}{its:Array Value}{Q:Value->Shared->Prop}(hT:s.heap.IsTuple a its)
  (k:∀h',IsEnum h' (s.heap.objs.size+1) s.heap.objs.size 0 .none->h'.IsTupleIter s.heap.objs.size a 0->(∀b o,s.heap.get? b=some o->h'.get? b=some o)->Q (.ref (s.heap.objs.size+1)) {s with heap:=h'}) :
  wpAny (model P w) A (call (.type "enumerate") [.ref a]) Q E s:=by
 obtain⟨⟨c,dd,dt,sl⟩,ha,hc,n,hd⟩:=hT;simp only at hc hd;subst hc hd;refine callType_new F.called_enumerate (by decide) (F.typeCall_enumerate_1 _) (F.newCall_enumerate_1 _) (fun ob=>F.args_object_init_2 ob _) F.entry_enumerate_new (ka a its n dd sl) ⟨ha,?_⟩;have hz:(s.heap.push {cls:=.type "tuple_iterator",data:=.fields #[.ref a,.int 0 0]}).objs.size=s.heap.objs.size+1:=Ew ..;show _/\_;rw[hz];have he:IsEnum ((s.heap.push {cls:=.type "tuple_iterator",data:=.fields #[.ref a,.int 0 0]}).push {cls:=.type "enumerate",data:=.fields #[.none,.bool false,.ref s.heap.objs.size,rawInt 0,.none,.none]}) (s.heap.objs.size+1) s.heap.objs.size 0 .none:=by
  have q:=Cs (s.heap.push {cls:=.type "tuple_iterator",data:=.fields #[.ref a,.int 0 0]}) (o:={cls:=.type "enumerate",data:=.fields #[.none,.bool false,.ref s.heap.objs.size,rawInt 0,.none,.none]}) rfl;rw[hz]at q;exact q
 exact⟨⟨_,he,rfl⟩,k _ he ⟨_,CV _ (Cs _ rfl),rfl,rfl⟩ fun b o y=>CV _ (CV _ y)⟩
noncomputable def Ite(src:Hp->List V->Prop):It :=
 ⟨fun i H=>∃xs x,src H xs/\xs[i]? =some x,fun i H v H' =>∃p,H p=none/\v=.ref p/\∀xs x,src H xs->xs[i]? =some x->H' =upd H p (.tup [.int (i:Nat),x]),fun i H=>∃xs,src H xs/\xs.length=i⟩
structure oZ(P:Program)(w:World)(K:W.Frag)(src:Hp->List V->Prop)(e it:Addr)(tn:Nat->Heap->Prop):Prop where
 ne:e≠it
 obj:∀i h,tn i h->∃o,h.get? it=some o/\∀v,o.data≠.cell v
 keep:∀i h h',tn i h->(∀o,h.get? it=some o->h'.get? it=some o)->tn i h'
 inj:∀(X:Cx) pins s σ H xs ys,X.K=K->Inv X pins σ H s->src H xs->src H ys->xs=ys
 draws:∀(X:Cx) pins s σ H xs (i:Nat),X.prog=P->X.w=w->X.K=K->X.calm=true->Inv X pins σ H s->src H xs->tn i s.heap->∃(fp:List Addr)(Pw:Nat->Value->Prop)(St:Nat->Heap->Prop),
  Draws P w X.A.in1 it fp xs.length Pw St/\e∉fp/\St i s.heap/\(∀j v x,Pw j v->xs[j]? =some x->RelV x v)/\∀j h,St j h->tn j h
theorem eO{P:Program}{w:World}{K:W.Frag}{es:List Expr}{kt:Nat}{tpos:Pos}{src:Hp->List V->Prop}{e it:Addr}{tn:Nat->Heap->Prop}(S:oZ P w K src e it tn) :
  nQ P w K (.Tuple es kt tpos) (Ite src) [e,it] e (fun i h=>(∃old,IsEnum h e it (i:Nat) old)/\tn i h) where
 mem:=by simp
 obj:=fun i h st c hc=>by
  obtain⟨⟨old,he⟩,ht⟩:=st;simp only[Co,C8,EA]at hc
  rcases hc with rfl|rfl
  ·exact⟨_,he,fun v z=>by cases z⟩
  ·exact S.obj i h ht
 keep:=fun i h h' st k=>by
  obtain⟨⟨old,he⟩,ht⟩:=st;exact⟨⟨old,k e (by simp) _ he⟩,S.keep i h h' ht fun o q=>k it (by simp) o q⟩
 item:=by
  intro X hP hw hK hc i pins s σ H E I hf st hg;obtain⟨⟨old,he⟩,ht⟩:=st;obtain⟨xs,x,hs,hx⟩:=hg;obtain⟨fp,Pw,St,D,hef,hst,hrel,hback⟩:=S.draws X pins s σ H xs i hP hw hK hc I hs ht;subst hP hw hK;have hlt:i<xs.length:=(Ch.mp hx).1;have elt:e<s.heap.objs.size:=Cc he;have ilt:it<s.heap.objs.size:=by obtain⟨o,ho,_⟩:=S.obj i _ ht;exact Cc ho
  refine wpAny_pyNext_enum_itemD D he hst hlt S.ne hef fun u h' tk hu ho hst' hT hsz hk=> ?_;refine⟨_,rfl,wpAny_letOwnedTupleGo_enum ho fun h'' he' hs' => ?_⟩;have kk:∀c o,c∉[e,it]->s.heap.get? c=some o->h''.get? c=some o:=fun c o hc' y=>by
   simp only[Co,C8,EA,not_or]at hc';exact(hs'.2 c hc'.1).trans (hk c o hc'.1 hc'.2 y)
  have new:h''.get? s.heap.objs.size=some {cls:=.type "tuple",data:=.seq #[.int i tk,u]}:=(hs'.2 _ (EK elt)).trans hT
  have I1:Inv X pins σ (upd H s.heap.objs.size (.tup [.int (i:Nat),x])) {s with heap:=h'',toks:=tk+1} :=
   I.drew (t' :=tk+1) hf kk (Ca _) ⟨by show 2<=sizeLine;decide,[.int i tk,u],.cons ⟨tk,rfl⟩ (.cons (hrel i u x hu hx) .nil),⟨_,new,rfl,_,rfl,rfl⟩⟩
  refine⟨.ref s.heap.objs.size,_,I1,rfl,⟨s.heap.objs.size,I.hok.fresh (Ca _),rfl,fun xs' x' hs2 hx2=> ?_⟩,⟨⟨u,by simpa using he'⟩,S.keep _ _ _ (hback _ _ hst') fun o y=>(hs'.2 it S.ne.symm).trans y⟩,fun c hc' => ?_⟩
  ·have q:=S.inj X pins s σ H _ _ rfl I hs hs2
   subst q;rw[hx]at hx2;cases hx2;rfl
  ·rw[aD ?_]
   ·exact(hf c hc').1
   ·simp only[Co,C8,EA]at hc'
    rcases hc' with rfl|rfl
    ·exact Cu elt
    ·exact Cu ilt
 done:=by
  intro X hP hw hK hc i pins s σ H E I hf st hg;obtain⟨⟨old,he⟩,ht⟩:=st;obtain⟨xs,hs,hx⟩:=hg;obtain⟨fp,Pw,St,D,hef,hst,hrel,hback⟩:=S.draws X pins s σ H xs i hP hw hK hc I hs ht;subst hP hw hK;subst hx;exact wpAny_pyNext_enum_endD D he hst fun h' hk=>⟨rfl,I.drew0 (t' :=s.toks) hf fun c o hc' y=>hk c o (by simp only[Co,C8,EA,not_or]at hc';exact hc'.2) y⟩
 self:=fun _ _ _ _ _ st h=>by
  obtain⟨⟨old,he⟩,_⟩:=st;exact Ex he h
theorem pX{P:Program}{w:World}{K:W.Frag}{a e it:Addr}(h1:e≠it)(h2:a≠it)(h3:a≠e):oZ P w K (fun H xs=>bL K H a xs) e it (fun i h=>h.IsTupleIter it a i) where
 ne:=h1
 obj:=fun i h st=>by
  obtain⟨o,ho,_,d⟩:=st;exact⟨o,ho,fun v z=>by rw[d]at z;cases z⟩
 keep:=fun i h h' st k=>st.at k
 inj:=fun X pins s σ H xs ys hK I h1 h2=>by
  subst hK;exact I.tuple_inj h1 h2
 draws:=fun X pins s σ H xs i hP hw hK hc I hs ht=>by
  subst hP hw hK;obtain⟨its,r,p,_⟩:=I.tuple hs;have l:=r.length;have D:=pZ (P:=X.prog) (w:=X.w) (A:=X.A.in1) (I.ok.hd hc) it a h2 its.toArray;rw[Cb,<-l]at D;refine⟨_,_,_,D,by simp[h1,h3.symm],⟨ht,p⟩,fun j v x hv hx=> ?_,fun j h st=>st.1⟩;obtain⟨u,hu,ru⟩:=r.get hx;have e:its[j]? =some v:=by simpa using hv
  rw[hu]at e;cases e;exact ru
theorem pY{P:Program}{w:World}{K:W.Frag}{z:Str}{t:Tok}{e it:Addr}(h1:e≠it):oZ P w K (fun _ xs=>xs=bR z) e it (fun i h=>h.IsStrIter it (strIterType z) z t i) where
 ne:=h1
 obj:=fun i h st=>by
  obtain⟨o,ho,_,d⟩:=st;exact⟨o,ho,fun v z=>by rw[d]at z;cases z⟩
 keep:=fun i h h' st k=>by
  obtain⟨o,ho,r⟩:=st;exact⟨o,k o ho,r⟩
 inj:=fun X pins s σ H xs ys hK I h1 h2=>by rw[h1,h2]
 draws:=fun X pins s σ H xs i hP hw hK hc I hs ht=>by
  subst hP hw hK hs;have l:(bR z).length=z.cps.size:=by rw[gN];rfl
  have rel:∀(j:Nat)(v:Value)(x:V),(∃c u,z.cps[j]? =some c/\v=.str ⟨#[c]⟩ u)->(bR z)[j]? =some x->RelV x v:=fun j v x hv hx=>by
   obtain⟨c,u,hc',rfl⟩:=hv;unfold bR at hx;rw[Cp,Array.getElem?_toList,hc']at hx;cases hx;exact⟨u,rfl⟩
  rw[l];cases ha:z.cps.all (·<128)with
  | true =>
   have e:strIterType z="str_ascii_iterator":=by unfold strIterType;rw[Cd ha]
   rw[e]at ht ⊢;exact⟨_,_,_,Draws.strAscii (prog:=X.prog) (w:=X.w) (A:=X.A.in1) (I.ok.hd hc) it z t,by simp[h1],ht,rel,fun j h st=>st⟩
  | false =>
   have e:strIterType z="str_iterator":=by unfold strIterType;rw[Ci (by rw[ha];exact Cg)]
   rw[e]at ht ⊢;exact⟨_,_,_,Draws.strWide (prog:=X.prog) (w:=X.w) (A:=X.A.in1) (I.ok.hd hc) it z t,by simp[h1],ht,rel,fun j h st=>st⟩
section
variable{X:Cx}
noncomputable def zR(K:W.Frag)(ta:TA):TI:=fun σ H R=>ta σ H fun vs H1=>∃a xs,vs=[.ref a]/\bL K H1 a xs/\R (Ite fun H xs=>bL K H a xs) H1
noncomputable def zS(ta:TA):TI:=fun σ H R=>ta σ H fun vs H1=>∃z,vs=[.str z]/\R (Ite fun _ xs=>xs=bR z) H1
theorem rY{es:List Expr}{kt:Nat}{tpos:Pos}{a:Expr}{ta:TA}{p pos:Pos}(hg:Gl X "enumerate")(hm:X.mg "enumerate"=none)(ha:PA X [a] ta)(hs:starEach [a] X.env=[(false,eval a X.env)]:=by rfl) :
  PI X (.Tuple es kt tpos) (.Call (.Name "enumerate" p) [a] [] pos) (zR X.K ta):=by
 intro pins s σ H R I h;refine Call_ (bc I hg hm boot_enumerate (DF (af (ha pos pins s σ H _ I h) fun us s1 ⟨vs,H1,I1,r1,q1⟩=> ?_) hs rfl));obtain⟨l,xs,e,sa,q⟩:=q1;subst e;obtain⟨u,rfl,ru⟩:=vals1 r1;cases ru;obtain⟨its,r,pt,_⟩:=I1.tuple sa;have lt:l<s1.heap.objs.size:=by obtain⟨o,e,_⟩:=id pt;exact Cc e
 refine nJ pt fun h' he fz hk=> ?_;refine Ex he ?_;have I2:Inv X pins σ H1 {s1 with heap:=h'}:=I1.kept (t' :=s1.toks) hk;refine⟨s1.heap.objs.size+1,[s1.heap.objs.size+1,s1.heap.objs.size],_,_,H1,rfl,I2,eO (pX (Nat.succ_ne_self _) (Cu lt) (Cu (EL lt))),⟨⟨_,he⟩,fz⟩,fun c hc=> ?_,q⟩;have le:s1.heap.objs.size<=c:=by
  simp only[Co,C8,EA]at hc
  rcases hc with rfl|rfl<;>omega
 exact I1.fpOk le (I1.hok.fresh le)
theorem rZ{es:List Expr}{kt:Nat}{tpos:Pos}{a:Expr}{ta:TA}{p pos:Pos}(hg:Gl X "enumerate")(hm:X.mg "enumerate"=none)(ha:PA X [a] ta)(hs:starEach [a] X.env=[(false,eval a X.env)]:=by rfl) :
  PI X (.Tuple es kt tpos) (.Call (.Name "enumerate" p) [a] [] pos) (zS ta):=by
 intro pins s σ H R I h;refine Call_ (bc I hg hm boot_enumerate (DF (af (ha pos pins s σ H _ I h) fun us s1 ⟨vs,H1,I1,r1,q1⟩=> ?_) hs rfl));obtain⟨z,e,q⟩:=q1;subst e;obtain⟨u,rfl,t,rfl⟩:=vals1 r1;refine call_enumerate_str fun h' he fz _ hk=> ?_;refine Ex he ?_;have I2:Inv X pins σ H1 {s1 with heap:=h'}:=I1.kept (t' :=s1.toks) hk;refine⟨s1.heap.objs.size+1,[s1.heap.objs.size+1,s1.heap.objs.size],_,_,H1,rfl,I2,eO (pY (Nat.succ_ne_self _)),⟨⟨_,he⟩,fz⟩,fun c hc=> ?_,q⟩;have le:s1.heap.objs.size<=c:=by
  simp only[Co,C8,EA]at hc
  rcases hc with rfl|rfl<;>omega
 exact I1.fpOk le (I1.hok.fresh le)
theorem j3{ns:List Int}{us:List Value}{i:Nat}{v:Value}(r:aK (ns.map V.int) us)(h:us[i]? =some v):∃t,v=.int (ns.getD i 0) t:=by
 have hl:=r.length;rw[CW]at hl;have hi:i<us.length:=(Ch.mp h).1;obtain⟨u,hu,ru⟩:=r.get (i:=i) (x:=.int (ns[i]'(by omega))) (by simp[show i<ns.length by omega]);rw[hu]at h;cases h;obtain⟨t,e⟩:=ru;refine⟨t,?_⟩;rw[e];simp[List.getD,show i<ns.length by omega]
theorem fK(ns:List Int):∀k,k<=ns.length->preSum (fun i=>ns.getD i 0) k=(ns.take k).sum
 | 0,_=>by simp[preSum]
 | k+1,h=>by
  have e:ns.take (k+1)=ns.take k++[ns[k]'(by omega)]:=by rw[List.take_add_one];simp[show k<ns.length by omega]
  rw[preSum,fK ns k (by omega),e,List.sum_append];simp[List.getD,show k<ns.length by omega]
theorem iM(hc:X.calm=true):bA X (.builtin "sum") (fun xs H Q=>∃(p:Addr)(ns:List Int),xs=[.ref p]/\ar X.K H p (ns.map V.int)/\Q (.int ns.sum) H):=by
 intro pins s σ H xs us Q I r h;obtain⟨p,ns,rfl,hq,q⟩:=h;obtain⟨u,rfl,rx⟩:=vals1 r;cases rx;obtain⟨its,r',pl,hz⟩:=I.list hq;have hlen:=r'.length;rw[CW]at hlen;have hp:p<s.heap.objs.size:=by
  obtain⟨o,e,_⟩:=pl.isList;exact Cc e
 refine call_sum_walkAnyS (wpAny_pyIter_list pl.isList ?_);refine⟨s.heap.objs.size,_,_,_,its.toArray.size,_,_,(fun i=>ns.getD i 0),rfl,(Walks.list (A:=X.A.in1) (I.ok.hd hc) s.heap.objs.size p (Cu hp) its.toArray).toS,⟨⟨_,Cs _ rfl,rfl,rfl⟩,pl.isList.push _⟩,?_,?_,?_⟩
 ·intro b hb
  simp at hb
  rcases hb with rfl|rfl
  ·rw[size_push'];exact Nat.lt_succ_self _
  ·rw[size_push'];exact EL hp
 ·intro i v hv
  exact j3 r' (by simpa using hv)
 ·intro s' t' hm
  obtain⟨m1,m2,m3,m4,m5⟩:=hm;have e:s' ={s with heap:=s'.heap,toks:=s'.toks}:=by
   cases s';simp only at m2 m3 m4;subst m2 m3 m4;rfl
  rw[e];refine⟨.int ns.sum,H,I.kept (t' :=s'.toks) (fun b o z=>m1 b o (by simpa using Cu (Cc z)) (CV _ z)),⟨t',?_⟩,q⟩;rw[Cb,<-hlen,fK ns _ (Ca _),List.take_length]
theorem dh:∀{us:List Value}{ns:List Int},IntsAre us ns->aK (ns.map V.int) us
 | _,_,.nil=>.nil
 | _,_,.cons n t r=>.cons ⟨t,rfl⟩ (dh r)
noncomputable def sortI(ns:List Int):List Int:=ns.mergeSort (fun a b=>decide (a<=b))
theorem sortI_perm(ns:List Int):(sortI ns).Perm ns:=List.mergeSort_perm _ _
theorem kG(ns:List Int):(sortI ns).Pairwise (·<=·):=by
 have:=List.pairwise_mergeSort (le:=fun a b:Int=>decide (a<=b)) (fun a b c h1 h2=>by simp at *;omega) (fun a b=>by simp;omega) ns;exact this.imp fun h=>by simpa using h
theorem jI{ns ms:List Int}(h:ms.Perm ns)(s:ms.Pairwise (·<=·)):ms=sortI ns :=
 List.Perm.eq_of_pairwise (le:=(·<=·)) (fun a b _ _ h1 h2=>Int.le_antisymm h1 h2) s (kG ns) (h.trans (sortI_perm ns).symm)
theorem er:bA X (.builtin "sorted") (fun xs H Q=>∃(p:Addr)(ns:List Int),xs=[.ref p]/\ar X.K H p (ns.map V.int)/\ns.length<64/\∀a,H a=none->Q (.ref a) (upd H a (.lst ((sortI ns).map V.int)))):=by
 intro pins s σ H xs us Q I r h;obtain⟨p,ns,rfl,hq,h64,q⟩:=h;obtain⟨u,rfl,rx⟩:=vals1 r;cases rx;obtain⟨its,r',pl,hz⟩:=I.list hq;have hlen:=r'.length;rw[CW]at hlen;refine sorted_ints pl.isList (intsAre_of r') (by omega) fun out ns' a1 a2 a3=> ?_;have e:=jI a2 a3;subst e;obtain⟨c,hc⟩:=sortedAll_at s.heap its out;refine⟨.ref (s.heap.objs.size+1),_,I.laid (t' :=s.toks) (o:=.lst ((sortI ns).map V.int)) (fun b o z=>sortedAll_old z) (EU _) ?_,rfl,q _ (I.hok.fresh (EU _))⟩;refine⟨?_,out.toList,c,dh a1,by simpa [seqObj]using hc⟩;rw[CW,(sortI_perm ns).length_eq];have:=DN;omega
theorem mv{P:Program}{w:World}{K:W.Frag}{a e it:Addr}(h1:e≠it)(h2:a≠it)(h3:a≠e):oZ P w K (fun H xs=>ar K H a xs) e it (fun i h=>h.IsListIter it a i) where
 ne:=h1
 obj:=fun i h st=>by
  obtain⟨o,ho,_,d⟩:=st;exact⟨o,ho,fun v z=>by rw[d]at z;cases z⟩
 keep:=fun i h h' st k=>st.at k
 inj:=fun X pins s σ H xs ys hK I h1 h2=>by
  subst hK;exact I.list_inj h1 h2
 draws:=fun X pins s σ H xs i hP hw hK hc I hs ht=>by
  subst hP hw hK;obtain⟨its,r,p,_⟩:=I.list hs;have l:=r.length;have D:=Draws.list (prog:=X.prog) (w:=X.w) (A:=X.A.in1) (I.ok.hd hc) it a h2 its.toArray;rw[Cb,<-l]at D;refine⟨_,_,_,D,by simp[h1,h3.symm],⟨ht,p.isList⟩,fun j v x hv hx=> ?_,fun j h st=>st.1⟩;obtain⟨u,hu,ru⟩:=r.get hx;have e:its[j]? =some v:=by simpa using hv
  rw[hu]at e;cases e;exact ru
noncomputable def zT(K:W.Frag)(ta:TA):TI:=fun σ H R=>ta σ H fun vs H1=>∃a xs,vs=[.ref a]/\ar K H1 a xs/\R (Ite fun H xs=>ar K H a xs) H1
theorem re{es:List Expr}{kt:Nat}{tpos:Pos}{a:Expr}{ta:TA}{p pos:Pos}(hg:Gl X "enumerate")(hm:X.mg "enumerate"=none)(ha:PA X [a] ta)(hs:starEach [a] X.env=[(false,eval a X.env)]:=by rfl) :
  PI X (.Tuple es kt tpos) (.Call (.Name "enumerate" p) [a] [] pos) (zT X.K ta):=by
 intro pins s σ H R I h;refine Call_ (bc I hg hm boot_enumerate (DF (af (ha pos pins s σ H _ I h) fun us s1 ⟨vs,H1,I1,r1,q1⟩=> ?_) hs rfl));obtain⟨l,xs,e,sa,q⟩:=q1;subst e;obtain⟨u,rfl,ru⟩:=vals1 r1;cases ru;obtain⟨its,r,pt,_⟩:=I1.list sa;have lt:l<s1.heap.objs.size:=by obtain⟨o,e,_⟩:=pt.isList;exact Cc e
 refine call_enumerate_list pt.isList fun h' he fz hl hk=> ?_;refine Ex he ?_;have I2:Inv X pins σ H1 {s1 with heap:=h'}:=I1.kept (t' :=s1.toks) hk;refine⟨s1.heap.objs.size+1,[s1.heap.objs.size+1,s1.heap.objs.size],_,_,H1,rfl,I2,eO (mv (Nat.succ_ne_self _) (Cu lt) (Cu (EL lt))),⟨⟨_,he⟩,fz⟩,fun c hc=> ?_,q⟩;have le:s1.heap.objs.size<=c:=by
  simp only[Co,C8,EA]at hc
  rcases hc with rfl|rfl<;>omega
 exact I1.fpOk le (I1.hok.fresh le)
noncomputable def uX(i j:Int):Prop:=i.natAbs<2^2000/\j.natAbs<2^2000
theorem intBits_le{k:Int}(h:k.natAbs<2^2000):Builtin.Int.intBits k<=2000:=by
 unfold Builtin.Int.intBits
 split
 ·exact DH _
 ·have:k.natAbs.log2<2000:=by
   rcases Nat.eq_zero_or_pos k.natAbs with h0|hp
   ·rw[h0];decide
   ·exact(Nat.log2_lt (EK hp)).mpr h
  omega
theorem uX.ok{i j:Int}(h:uX i j):IntMulOk i j:=by
 unfold IntMulOk;have h1:=intBits_le h.1;have h2:=intBits_le h.2;have h3:Builtin.Int.intTooBig (Builtin.Int.intBits i+Builtin.Int.intBits j)=false:=by
  unfold Builtin.Int.intTooBig;have:((4000:Nat):Int)<=(bitsLine:Nat):=by decide
  exact C5 (by omega)
 rw[h3];simp
theorem vg:cg X (binaryOp .Mult) (rI uX fun i j=>.int (i*j)):=BU fun _ _ _ _ _ _ _ hc q=>mul_int q hc.ok
theorem nH:bA X (.builtin "len") (fun xs H Q=>∃a kvs,xs=[V.ref a]/\Rd H a (.dK kvs)/\Q (.int kvs.length) H):=by
 intro pins s σ H xs us Q I r h;obtain⟨a,kvs,rfl,ha,q⟩:=h;obtain⟨u,rfl,ru⟩:=vals1 r;cases ru;exact Br I ha fun t s' I' =>⟨.int kvs.length,H,I',⟨t,rfl⟩,q⟩
noncomputable def NF(X:Cx)(a:Addr):Prop:=∀o u,X.H₀ a≠some (.frz o u)
theorem Inv.nf{pins:List (Addr×Obj)}{σ:St}{H:Hp}{s:Shared}{a:Addr}{kvs:List (aq×V)}(I:Inv X pins σ H s)(ha:H a=some (.dK kvs)):NF X a:=fun o u e=>by
 have:=I.base.frzs a o u e;rw[ha]at this;cases this
end
namespace RV
section
variable{prog:Program}{w:World}{A:Around}{E:Value->Shared->Prop}{s:Shared}{x:Str}{t:Tok}
end
end RV
end L2
namespace L2
open PySem PySem.Spec PyProof.Rows
namespace RV
noncomputable def CS(h:Heap)(a:Addr)(x:Str)(t:Tok)(i:Int):Prop:=∃o,h.get? a=some o/\o.cls=.type "reversed"/\o.data=.fields #[.str x t,rawInt i]
section
variable{prog:Program}{w:World}{A:Around}{E:Value->Shared->Prop}{s:Shared}{x:Str}{t:Tok}{a:Addr}
theorem CS.ty{i:Int}(r:CS s.heap a x t i):s.TypeIs (.ref a) "reversed":=by
 obtain⟨o,e,c,_⟩:=r;exact⟨o,e,c⟩
end
end RV
end L2
namespace L2
open PySem PySem.Spec PyProof.Rows
namespace RV
section
variable{prog:Program}{w:World}{A:Around}{E:Value->Shared->Prop}{s:Shared}{x:Str}{t:Tok}{a:Addr}
end
end RV
end L2
namespace L2
open PySem PySem.Spec PyProof.Rows
namespace RV
open Builtin Builtin.Str Builtin.Int
section
variable{prog:Program}{w:World}{A:Around}{E:Value->Shared->Prop}{s:Shared}{x sep:Str}{t u:Tok}{a:Addr}
end
end RV
section
variable{X:Cx}
end
end L2
namespace L2
open PySem PySem.Spec PyProof.Rows
section
variable{X:Cx}
section
variable{prog:Program}{w:World}{A:Around}{E:Value->Shared->Prop}{s:Shared}{d:Addr}{od:Obj}{es:Array DictEntry}{ep:Nat}
end
section
variable{prog:Program}{w:World}{A:Around}{E:Value->Shared->Prop}{s:Shared}
end
end
section
variable{prog:Program}{w:World}{A:Around}{E:Value->Shared->Prop}{s:Shared}
end
section
variable{X:Cx}
noncomputable def yT:V->List V->Hp->VK->Prop:=fun x vs H Q=>∃z y,x=.str z/\vs=[.str y]/\Q (.int (Txt.count z y)) H
theorem sU:MtR X "str.count" yT:=by
 intro pins s σ H x xs v us Q I rx rs h;obtain⟨z,y,rfl,rfl,q⟩:=h;obtain⟨t,rfl⟩:=rx;obtain⟨u,rfl,t',rfl⟩:=vals1 rs;exact SC.count ⟨.int (Txt.count z y),H,I.tok _,⟨_,rfl⟩,q⟩
end
theorem oo(z:Str)(c i:Nat)(h:i<z.cps.size):Builtin.Str.subAt z ⟨#[c]⟩ i=(z.cps[i]==c):=by
 unfold Builtin.Str.subAt;have e:z.cps.extract i (i+(Str.length ⟨#[c]⟩))= #[z.cps[i]]:=by
  show z.cps.extract i (i+1)=_
  apply Array.ext
  ·simp;omega
  ·intro j h1 h2
   have:j=0:=by simpa using h2
   subst this;simp
 rw[e];rw[D9];simp
theorem dZ(z:Str)(c:Nat):∀(n i:Nat)(st:Array Nat×Nat),i+n=z.cps.size->st.snd<=i->st.fst.size<=i ->
  (forIn (List.range' i (n+1)) st (StrLaws.occBody z ⟨#[c]⟩ z.length (z.length+1))).run.fst.size=st.fst.size+((z.cps.toList.drop i).filter (·==c)).length
 | 0,i,st,h,h1,h2=>by
  rw[show List.range' i (0+1)=[i]from rfl,List.forIn_cons];unfold StrLaws.occBody;rw[Ci (fun q=>by have:=q.1.2;have e:Str.length ⟨#[c]⟩=1:=rfl;have e2:z.length=z.cps.size:=rfl;omega)];rw[EM (by rw[Cn];omega)];rfl
 | n+1,i,st,h,h1,h2=>by
  have hi:i<z.cps.size:=by omega
  rw[List.range'_succ,List.forIn_cons];unfold StrLaws.occBody;have hd:z.cps.toList.drop i=z.cps[i]::z.cps.toList.drop (i+1):=by simp[Em,hi]
  rw[hd,List.filter_cons,oo z c i hi];have e1:Str.length ⟨#[c]⟩=1:=rfl;have e2:z.length=z.cps.size:=rfl
  by_cases hc:(z.cps[i]==c)=true
  ·rw[Cd ⟨⟨⟨by omega,h1⟩,by omega⟩,hc⟩,Cd hc]
   have ih:=dZ z c n (i+1) (st.fst.push i,i+Str.length ⟨#[c]⟩) (by omega) (by show i+1<=i+1;omega) (by show(st.fst.push i).size<=_;rw[Array.size_push];omega);show(forIn (List.range' (i+1) (n+1)) (st.fst.push i,i+Str.length ⟨#[c]⟩) (StrLaws.occBody z ⟨#[c]⟩ z.length (z.length+1))).run.fst.size=_;rw[ih,Array.size_push,C3];omega
  ·rw[Ci (fun q=>hc q.2),Ci hc]
   have ih:=dZ z c n (i+1) (st.fst,st.snd) (by omega) (by show st.snd<=_;omega) (by show st.fst.size<=_;omega);exact ih
theorem gr(z:Str)(c:Nat):Txt.count z ⟨#[c]⟩=((z.cps.toList.filter (·==c)).length:Int):=by
 unfold Txt.count;rw[StrLaws.occ_eq];have:=dZ z c z.cps.size 0 (#[],0) (by omega) (Ca _) (Ca _);rw[Cn];rw[show z.length+1-0=z.cps.size+1 from rfl];rw[this];simp
end L2
namespace SQ
open PySem
noncomputable def lst(m:Nat):List Nat:=(List.range 8).filter fun v=>m/2^v%2==1
noncomputable def put(m v:Nat):Nat:=if m/2^v%2=1 then m else m+2^v
noncomputable def kE(led:Bool)(m:Nat):SetTable:={mask:=if(lst m).length<5 then 7 else 31,place:=(lst m).toArray,dummies:= #[],finger:=0,led:=led,moves:=if(lst m).length<5 then 0 else 1,plain:=true}
noncomputable def at_(m v:Nat):Nat:=((lst m).filter (·<v)).length
noncomputable def fV(led:Bool)(m v:Nat):SetTable:={kE led m with place:=(lst (put m v)).toArray}
noncomputable def kd(a b:SetTable):Bool:=a.mask==b.mask&&a.place.toList==b.place.toList&&a.dummies.toList==b.dummies.toList&&a.finger==b.finger&&a.led==b.led&&a.moves==b.moves&&a.plain==b.plain
theorem gY{a b:SetTable}(h:kd a b=true):a=b:=by
 obtain⟨a1,⟨a2⟩,⟨a3⟩,a4,a5,a6,a7⟩:=a;obtain⟨b1,⟨b2⟩,⟨b3⟩,b4,b5,b6,b7⟩:=b;simp only[kd,CZ,DL]at h;obtain⟨⟨⟨⟨⟨⟨h1,h2⟩,h3⟩,h4⟩,h5⟩,h6⟩,h7⟩:=h;subst h1 h2 h3 h4 h5 h6 h7;rfl
noncomputable def ja(led:Bool)(m v:Nat):Bool :=
 if m/2^v%2==1 then true else
 (match(kE led m).freeSlot (v:Int)with
  | some (j,d)=>j==v&& !d
  | none=>false) &&
 kd ((kE led m).put v).1 (fV led m v)&&((kE led m).put v).2==at_ m v&&lst (put m v)==(lst m).take (at_ m v)++v::(lst m).drop (at_ m v)&&(fV led m v).fits (lst (put m v)).length &&
 (if(fV led m v).tooFull then(match(fV led m v).relaid ((lst (put m v)).map Int.ofNat).toArray (SetTable.grown (lst (put m v)).length)with
  | some (t,o)=>kd t (kE led (put m v))&&o.toList==List.range (lst (put m v)).length&&(kE led (put m v)).fits (lst (put m v)).length
  | none=>false)else kd (fV led m v) (kE led (put m v)))
theorem sh:(List.range 256).all (fun m=>(List.range 8).all fun v=>ja true m v&&ja false m v&&decide (put m v<256))=true:=by decide +kernel
theorem tP:(List.range 256).all (fun m=>(kE true m).fits (lst m).length&&(kE false m).fits (lst m).length)=true:=by decide +kernel
theorem fits{m:Nat}(hm:m<256)(led:Bool):(kE led m).fits (lst m).length=true:=by
 have h:=C2.mp tP m (DB.mpr hm);rw[CZ]at h;cases led
 ·exact h.2
 ·exact h.1
theorem lays{m v:Nat}(hm:m<256)(hv:v<8)(led:Bool):ja led m v=true/\put m v<256:=by
 have h:=C2.mp (C2.mp sh m (DB.mpr hm)) v (DB.mpr hv);rw[CZ,CZ,Eo]at h;refine⟨?_,h.2⟩;cases led
 ·exact h.1.2
 ·exact h.1.1
theorem vv{m v:Nat}:v∈lst m↔v<8/\m/2^v%2=1:=by
 unfold lst;rw[EX,DB,DL]
theorem sf{m v:Nat}(hm:m<256)(hv:v<8)(hn:v∉lst m)(led:Bool) :
  (kE led m).freeSlot (v:Int)=some (v,false)/\(kE led m).put v=(fV led m v,at_ m v)/\lst (put m v)=(lst m).take (at_ m v)++v::(lst m).drop (at_ m v)/\(fV led m v).fits (lst (put m v)).length=true /\
  (if(fV led m v).tooFull then(fV led m v).relaid ((lst (put m v)).map Int.ofNat).toArray (SetTable.grown (lst (put m v)).length)=some (kE led (put m v),(List.range (lst (put m v)).length).toArray)/\(kE led (put m v)).fits (lst (put m v)).length=true
   else fV led m v=kE led (put m v)):=by
 have h:=(lays hm hv led).1;unfold ja at h;have n1:(m/2^v%2==1)=false:=by
  cases e:m/2^v%2==1
  ·rfl
  ·exact absurd (vv.mpr ⟨hv,by simpa using e⟩) hn
 rw[n1]at h;simp only[Eg,ET,CZ,DL]at h;obtain⟨⟨⟨⟨⟨h1,h2⟩,h3⟩,h4⟩,h5⟩,h6⟩:=h;refine⟨?_,Prod.ext (gY h2) h3,h4,h5,?_⟩
 ·cases e:(kE led m).freeSlot (v:Int)with
  | none=>rw[e]at h1;cases h1
  | some p =>
   obtain⟨j,d⟩:=p;rw[e]at h1;simp only[CZ,DL,Er]at h1;rw[h1.1,h1.2]
 ·by_cases ht:(fV led m v).tooFull=true
  ·rw[Cd ht]at h6 ⊢
   cases e:(fV led m v).relaid ((lst (put m v)).map Int.ofNat).toArray (SetTable.grown (lst (put m v)).length)with
   | none=>rw[e]at h6;cases h6
   | some p =>
    obtain⟨t,o⟩:=p;rw[e]at h6;simp only[CZ,DL]at h6;obtain⟨⟨a,b⟩,c⟩:=h6;refine⟨?_,c⟩;obtain⟨o⟩:=o;rw[gY a];have b:o=_:=b;rw[b]
  ·rw[Ci ht]at h6 ⊢
   exact gY h6
noncomputable def pI:Value->Option Int
 | .int i _=>some i
 | _=>none
theorem pH{x:Value}{i:Int}(h:pI x=some i):∃t,x=.int i t:=by
 cases x<;>simp[pI]at h;subst h;exact⟨_,rfl⟩
noncomputable def gz(es:List (Int×Value))(m:Nat):Prop:=es.map (fun e=>(e.1,pI e.2))=(lst m).map fun v:Nat=>((v:Int),some (v:Int))
noncomputable def SX(w:World)(a:Addr)(m:Nat)(h:Heap):Prop:=∃o es ep,h.get? a=some o/\o.ExactSet/\o.data=.set es ep (kE (!w.params.followText "set-order") m)/\gz es.toList m
theorem gz.len{es:List (Int×Value)}{m:Nat}(h:gz es m):es.length=(lst m).length:=by
 have:=DT List.length h
 simpa using this
theorem gz.at{es:List (Int×Value)}{m:Nat}(h:gz es m){e:Int×Value}(he:e∈es):∃v t,v∈lst m/\e=((v:Int),.int (v:Int) t):=by
 have:(e.1,pI e.2)∈es.map (fun e=>(e.1,pI e.2)):=DY.mpr ⟨e,he,rfl⟩;rw[h]at this;obtain⟨v,hv,q⟩:=DY.mp this;obtain⟨e1,e2⟩:=e;simp only[Prod.mk.injEq]at q;obtain⟨t,z⟩:=pH q.2.symm;exact⟨v,t,hv,by rw[z,<-q.1]⟩
theorem gz.has{es:List (Int×Value)}{m:Nat}(h:gz es m){v:Nat}(hv:v∈lst m):∃t,((v:Int),Value.int (v:Int) t)∈es:=by
 have:((v:Int),some (v:Int))∈(lst m).map fun v:Nat=>((v:Int),some (v:Int)):=DY.mpr ⟨v,hv,rfl⟩;rw[<- h]at this;obtain⟨e,he,q⟩:=DY.mp this;obtain⟨u,t,-,rfl⟩:=h.at he;simp only[pI,Prod.mk.injEq]at q;have:u=v:=by omega
 subst this;exact⟨t,he⟩
section
variable{prog:Program}{w:World}{A:Around}{E:Value->Shared->Prop}{s:Shared}
theorem gz.insert{es:Array (Int×Value)}{m v t:Nat}(h:gz es.toList m)(hm:m<256)(hv:v<8)(hn:v∉lst m):gz (SetTable.insertAt es (at_ m v) ((v:Int),.int (v:Int) t)).toList (put m v):=by
 obtain⟨-,-,h3,-,-⟩:=sf hm hv hn true;unfold gz at h ⊢;rw[h3,SetTable.toList_insertAt];rw[Dm,Cq,List.map_take,List.map_drop,h,Dm,Cq,List.map_take,List.map_drop];rfl
end
noncomputable def A7(f:Nat->Nat):Nat->Nat->Nat->Nat
 | 0,_,m=>m
 | k+1,i,m=>A7 f k (i+1) (put m (f i))
theorem SX.at{w:World}{a:Addr}{m:Nat}{h h' :Heap}(x:SX w a m h)(k:∀o,h.get? a=some o->h'.get? a=some o):SX w a m h' :=
 let⟨o,es,ep,ho,r⟩:=x
 ⟨o,es,ep,k o ho,r⟩
section
variable{prog:Program}{w:World}{A:Around}{E:Value->Shared->Prop}
variable{s:Shared}
noncomputable def bare(led:Bool):Obj:={cls:=.type "set",dict:=none,data:=.set #[] 0 (.fresh 0 0 led)}
end
section
variable{prog:Program}{w:World}{A:Around}{E:Value->Shared->Prop}{s:Shared}
end
noncomputable def uU(I a i n ep j:Nat)(h:Heap):Prop:=∃o,h.get? I=some o/\o.cls=.type "set_iterator"/\o.data=.fields #[.int (j:Nat) 0,.int (i:Nat) 0,.ref a,.int (n:Nat) 0,.int (ep:Nat) 0]
theorem uU.typeIs{I a i n ep j:Nat}{s:Shared}(x:uU I a i n ep j s.heap):s.TypeIs (.ref I) "set_iterator":=let⟨o,ho,hc,_⟩:=x;⟨o,ho,hc⟩
theorem uU.keep{I a i n ep j:Nat}{h h' :Heap}(x:uU I a i n ep j h)(k:∀o,h.get? I=some o->h'.get? I=some o):uU I a i n ep j h' :=let⟨o,ho,r⟩:=x;⟨o,k o ho,r⟩
section
variable{prog:Program}{w:World}{A:Around}
end
section
variable{prog:Program}{w:World}{A:Around}{E:Value->Shared->Prop}{s:Shared}
end
end SQ
namespace SQ
open PySem PyProof.Rows
section
variable{prog:Program}{w:World}{A:Around}{E:Value->Shared->Prop}{s:Shared}
end
end SQ
namespace L2
open PySem PySem.Spec PyProof.Rows
noncomputable def maskOf(ns:List Int):Nat:=SQ.A7 (fun i=>(ns.getD i 0).toNat) ns.length 0 0
noncomputable def xS(ns:List Int):List Int:=(SQ.lst (maskOf ns)).map fun v:Nat=>(v:Int)
section
variable{X:Cx}
theorem Inv.ext{pins:List (Addr×Obj)}{σ:St}{H:Hp}{s:Shared}{a:Addr}{φ:Heap->Prop}(I:Inv X pins σ H s)(h:H a=some (.ext φ)):φ s.heap:=(show aa X.prog X.w H s.heap a (.ext φ)from I.hok a _ h).1
end
end L2
namespace SW
open PySem.W PyProof.Rows
noncomputable def run{α:Type}(f:Nat->Nat->Bool):KasT α->α
 | .ret a=>a
 | .ask i j k=>run f (k (f i j))
theorem bn{α β:Type}(f:Nat->Nat->Bool)(g:α->KasT β):∀t:KasT α,run f (t.bind g)=run f (g (run f t))
 | .ret _=>rfl
 | .ask i j k=>bn f g (k (f i j))
section
variable(key:Nat->Int)
noncomputable def F:Nat->Nat->Bool:=fun i j=>decide (key i<key j)
noncomputable def K(p:Array Nat)(i:Nat):Int:=key (p.getD i 0)
noncomputable def qJ(p:Array Nat)(k:Nat):Prop:=∀i,i+1<k->K key p i<=K key p (i+1)
noncomputable def xC(p:Array Nat)(k:Nat):Prop:=∀i,i+1<k->K key p (i+1)<=K key p i
variable{key}
theorem qJ.le{p:Array Nat}{k:Nat}(h:qJ key p k):∀(d i:Nat),i+d<k->K key p i<=K key p (i+d)
 | 0,_,_=>Int.le_refl _
 | d+1,i,hk=>Int.le_trans (qJ.le h d i (by omega)) (h (i+d) (by omega))
theorem qJ.mono{p:Array Nat}{k:Nat}(h:qJ key p k){i j:Nat}(hij:i<=j)(hj:j<k):K key p i<=K key p j:=by
 have:=h.le (j-i) i (by omega)
 rwa [show i+(j-i)=j by omega]at this
theorem xC.le{p:Array Nat}{k:Nat}(h:xC key p k):∀(d i:Nat),i+d<k->K key p (i+d)<=K key p i
 | 0,_,_=>Int.le_refl _
 | d+1,i,hk=>Int.le_trans (h (i+d) (by omega)) (xC.le h d i (by omega))
theorem xC.mono{p:Array Nat}{k:Nat}(h:xC key p k){i j:Nat}(hij:i<=j)(hj:j<k):K key p j<=K key p i:=by
 have:=h.le (j-i) i (by omega)
 rwa [show i+(j-i)=j by omega]at this
theorem uT{p:Array Nat}{i j:Nat}(hj:j<=p.size)(x:Nat):K key (kas_rev p i j) x=if i<=x/\x<j then K key p (i+j-1-x)else K key p x:=by
 unfold K kas_rev;rw[DJ,getElem?_mirror_all hj]
 split
 ·rw[DJ]
 ·rw[DJ]
theorem asc(p:Array Nat):∀k n,n<=run (F key) (kas_asc p k n)/\run (F key) (kas_asc p k n)<=n+k/\(∀i,n<=i->i<run (F key) (kas_asc p k n)->K key p (i-1)<=K key p i) /\
  (run (F key) (kas_asc p k n)<n+k->K key p (run (F key) (kas_asc p k n))<K key p (run (F key) (kas_asc p k n)-1))
 | 0,n=>⟨Ca _,Ca _,fun i h1 h2=>absurd (show i<n from h2) (by omega),fun h=>absurd (show n<n+0 from h) (by omega)⟩
 | k+1,n=>by
  have e:run (F key) (kas_asc p (k+1) n)=if K key p n<K key p (n-1)then n else run (F key) (kas_asc p k (n+1)):=by
   show run (F key) (if F key (p.getD n 0) (p.getD (n-1) 0)=true then .ret n else kas_asc p k (n+1))=_;unfold F K
   by_cases c:key (p.getD n 0)<key (p.getD (n-1) 0)
   ·rw[Cd (by simpa using c),Cd c]
    rfl
   ·rw[Ci (by simpa using c),Ci c]
  rw[e]
  by_cases c:K key p n<K key p (n-1)
  ·rw[Cd c]
   exact⟨Ca _,by omega,fun i h1 h2=>by omega,fun _=>c⟩
  ·rw[Ci c]
   obtain⟨a1,a2,a3,a4⟩:=asc p k (n+1);refine⟨by omega,by omega,fun i h1 h2=> ?_,fun h=>a4 (by omega)⟩
   rcases Nat.lt_or_ge n i with h|h
   ·exact a3 i h h2
   ·have:i=n:=by omega
    subst this;omega
structure Dn(p:Array Nat)(n q:Nat):Prop where
 one:q+1<=n
 sz:n<=p.size
 fal:xC key p n
 eqs:∀i,n-(q+1)<=i->i<n->K key p i=K key p (n-1)
theorem du(p:Array Nat)(i j:Nat):(kas_rev p i j).size=p.size:=mirror_size _ _ _ _
theorem gy{p:Array Nat}{i j:Nat}(hj:j<=p.size)(h:∀x,i<=x->x<j->K key p x=K key p (j-1))(x:Nat):K key (kas_rev p i j) x=K key p x:=by
 rw[uT hj]
 split
 ·rename_i c
  rw[h (i+j-1-x) (by omega) (by omega),h x c.1 c.2]
 ·rfl
theorem wQ:∀(k:Nat)(p:Array Nat)(n q:Nat),Dn (key:=key) p n q->n+k<=p.size ->
  Dn (key:=key) (run (F key) (kas_desc k p n q)).1 (run (F key) (kas_desc k p n q)).2.1 (run (F key) (kas_desc k p n q)).2.2/\(run (F key) (kas_desc k p n q)).1.Perm p/\(run (F key) (kas_desc k p n q)).2.1<=n+k
 | 0,p,n,q,h,_=>⟨h,EZ _,Ca _⟩
 | k+1,p,n,q,h,hk=>by
  have h1:=h.one;have e:run (F key) (kas_desc (k+1) p n q)=if K key p n<K key p (n-1)then(if q>0 then run (F key) (kas_desc k (kas_rev p (n-(q+1)) n) (n+1) 0)else run (F key) (kas_desc k p (n+1) 0))else if K key p (n-1)<K key p n then(p,n,q)else run (F key) (kas_desc k p (n+1) (q+1)):=by
   show run (F key) (if F key (p.getD n 0) (p.getD (n-1) 0)=true then(if q>0 then kas_desc k (kas_rev p (n-(q+1)) n) (n+1) 0 else kas_desc k p (n+1) 0)else .ask (p.getD (n-1) 0) (p.getD n 0) fun d=>if d=true then .ret (p,n,q)else kas_desc k p (n+1) (q+1))=_
   by_cases c:K key p n<K key p (n-1)
   ·rw[Cd (show F key (p.getD n 0) (p.getD (n-1) 0)=true by simpa [F,K]using c),Cd c]
    split<;>rfl
   ·rw[Ci (show¬F key (p.getD n 0) (p.getD (n-1) 0)=true by simpa [F,K]using c),Ci c]
    show run (F key) (if F key (p.getD (n-1) 0) (p.getD n 0)=true then .ret (p,n,q)else kas_desc k p (n+1) (q+1))=_
    by_cases d:K key p (n-1)<K key p n
    ·rw[Cd (show F key (p.getD (n-1) 0) (p.getD n 0)=true by simpa [F,K]using d),Cd d]
     rfl
    ·rw[Ci (show¬F key (p.getD (n-1) 0) (p.getD n 0)=true by simpa [F,K]using d),Ci d]
  have longer:∀p' :Array Nat,p'.size=p.size->(∀x,K key p' x=K key p x)->K key p n<=K key p (n-1)->xC key p' (n+1):=fun p' z kk c i hi=>by
   rw[kk,kk]
   rcases Nat.lt_or_ge (i+1) n with y|y
   ·exact h.fal i y
   ·have:i=n-1:=by omega
    subst this;rw[show n-1+1=n by omega];exact c
  have new:∀p' :Array Nat,p'.size=p.size->(∀x,K key p' x=K key p x)->K key p n<=K key p (n-1)->Dn (key:=key) p' (n+1) 0:=fun p' z kk c =>
   ⟨by omega,by omega,longer p' z kk c,fun i i1 i2=>by
    have:i=n+1-1:=by omega
    rw[this]⟩
  rw[e]
  by_cases c:K key p n<K key p (n-1)
  ·rw[Cd c]
   by_cases hq:q>0
   ·rw[Cd hq]
    have kk:=gy (key:=key) (i:=n-(q+1)) h.sz h.eqs;obtain⟨a1,a2,a3⟩:=wQ k (kas_rev p (n-(q+1)) n) (n+1) 0 (new _ (du _ _ _) kk (by omega)) (by rw[du];omega);exact⟨a1,a2.trans (EN _ _ _ _),by omega⟩
   ·rw[Ci hq]
    obtain⟨a1,a2,a3⟩:=wQ k p (n+1) 0 (new p rfl (fun _=>rfl) (by omega)) (by omega);exact⟨a1,a2,by omega⟩
  ·rw[Ci c]
   by_cases d:K key p (n-1)<K key p n
   ·rw[Cd d]
    exact⟨h,EZ _,by dsimp only;omega⟩
   ·rw[Ci d]
    obtain⟨a1,a2,a3⟩:=wQ k p (n+1) (q+1) ⟨by omega,by omega,longer p rfl (fun _=>rfl) (by omega),fun i i1 i2=>by
     have z:K key p n=K key p (n-1):=by omega
     rw[show n+1-1=n by omega,z]
     rcases Nat.lt_or_ge i n with y|y
     ·exact h.eqs i (by omega) y
     ·have:i=n:=by omega
      rw[this,z]⟩ (by omega)
    exact⟨a1,a2,by omega⟩
noncomputable def Good(p:Array Nat)(nrem:Nat)(r:Nat×Array Nat):Prop:=1<=r.1/\r.1<=nrem/\qJ key r.2 r.1/\r.2.Perm p
theorem tail3{p:Array Nat}{n nrem:Nat}(h1:1<=n)(hn:n<=nrem)(hz:nrem<=p.size)(hf:xC key p n):Good (key:=key) p nrem (run (F key) (kas_tail3 n nrem p)):=by
 unfold kas_tail3;rw[bn];obtain⟨a1,a2,a3,-⟩:=asc (key:=key) (kas_rev p 0 n) (nrem-n) n;refine⟨by show 1<=run (F key) (kas_asc (kas_rev p 0 n) (nrem-n) n);omega,by show run (F key) (kas_asc (kas_rev p 0 n) (nrem-n) n)<=nrem;omega,fun i hi=> ?_,EN _ _ _ _⟩;show K key (kas_rev p 0 n) i<=K key (kas_rev p 0 n) (i+1);have hi:i+1<run (F key) (kas_asc (kas_rev p 0 n) (nrem-n) n):=hi
 rcases Nat.lt_or_ge (i+1) n with y|y
 ·rw[uT (by omega),uT (by omega),Cd (by omega),Cd (by omega)]
  exact hf.mono (by omega) (by omega)
 ·have:=a3 (i+1) y hi
  rwa [show i+1-1=i by omega]at this
theorem descPart{p:Array Nat}{n nrem:Nat}(h1:1<=n)(hn:n+1<=nrem)(hz:nrem<=p.size)(hf:xC key p (n+1)):Good (key:=key) p nrem (run (F key) (kas_descPart n nrem p)):=by
 unfold kas_descPart;rw[bn];obtain⟨d,pm,le⟩:=wQ (key:=key) (nrem-(n+1)) p (n+1) 0 ⟨by omega,by omega,hf,fun i i1 i2=>by
  have:i=n+1-1:=by omega
  rw[this]⟩ (by omega)
 generalize run (F key) (kas_desc (nrem-(n+1)) p (n+1) 0)=r at d pm le
 obtain⟨p',n',q'⟩:=r;dsimp only at d pm le ⊢;have h1' :=d.one;have hz' :p'.size=p.size:=pm.size_eq
 split
 ·have kk:=gy (key:=key) (i:=n' -(q' +1)) d.sz d.eqs
  obtain⟨b1,b2,b3,b4⟩:=tail3 (key:=key) (p:=kas_rev p' (n' -(q' +1)) n') (n:=n') (nrem:=nrem) (by omega) (by omega) (by rw[du];omega) (fun i hi=>by rw[kk,kk];exact d.fal i hi);exact⟨b1,b2,b3,(b4.trans (EN _ _ _ _)).trans pm⟩
 ·obtain⟨b1,b2,b3,b4⟩:=tail3 (key:=key) (p:=p') (n:=n') (nrem:=nrem) (by omega) (by omega) (by omega) d.fal
  exact⟨b1,b2,b3,b4.trans pm⟩
theorem count{p:Array Nat}{nrem:Nat}(h1:1<=nrem)(hz:nrem<=p.size):Good (key:=key) p nrem (run (F key) (kas_count nrem p)):=by
 unfold kas_count;rw[bn];obtain⟨a1,a2,a3,a4⟩:=asc (key:=key) p (nrem-1) 1
 generalize run (F key) (kas_asc p (nrem-1) 1)=n at a1 a2 a3 a4
 have srt:qJ key p n:=fun i hi=>by
  have:=a3 (i+1) (by omega) hi
  rwa [show i+1-1=i by omega]at this
 by_cases e:n=nrem
 ·rw[Cd (by simpa using e)]
  exact⟨a1,by show n<=nrem;omega,srt,EZ _⟩
 ·rw[Ci (by simpa using e)]
  have lt:=a4 (by omega)
  by_cases h:n>1
  ·rw[Cd h]
   show Good p nrem (run (F key) (if F key (p.getD 0 0) (p.getD (n-1) 0)=true then .ret (n,p)else kas_descPart n nrem (kas_rev p 0 n)))
   by_cases c:K key p 0<K key p (n-1)
   ·rw[Cd (show F key (p.getD 0 0) (p.getD (n-1) 0)=true by simpa [F,K]using c)]
    exact⟨a1,by show n<=nrem;omega,srt,EZ _⟩
   ·rw[Ci (show¬F key (p.getD 0 0) (p.getD (n-1) 0)=true by simpa [F,K]using c)]
    have alike:∀x,0<=x->x<n->K key p x=K key p (n-1):=fun x _ hx=>by
     have y1:=srt.mono (show 0<=x by omega) hx;have y2:=srt.mono (show x<=n-1 by omega) (by omega);omega
    have kk:=gy (key:=key) (i:=0) (j:=n) (by omega) alike;obtain⟨b1,b2,b3,b4⟩:=descPart (key:=key) (p:=kas_rev p 0 n) (n:=n) (nrem:=nrem) a1 (by omega) (by rw[du];omega) (fun i hi=>by
     rw[kk,kk]
     rcases Nat.lt_or_ge (i+1) n with y|y
     ·rw[alike (i+1) (by omega) y,alike i (by omega) (by omega)]
      exact Int.le_refl _
     ·have:i=n-1:=by omega
      subst this;rw[show n-1+1=n by omega];omega)
    exact⟨b1,b2,b3,b4.trans (EN _ _ _ _)⟩
  ·rw[Ci h]
   have:n=1:=by omega
   subst this;exact descPart (key:=key) (by omega) (by omega) hz (fun i hi=>by
    have:i=0:=by omega
    subst this;have lt:K key p (0+1)<K key p 0:=lt;exact Int.le_of_lt lt)
theorem place{p:Array Nat}{n:Nat}(hs:qJ key p n):∀(k l r:Nat),l<=r->r<=n->r-l<=k->(∀i,i<l->K key p i<=K key p n)->(∀i,r<=i->i<n->K key p n<K key p i) ->
  run (F key) (kas_place p n k l r)<=n/\(∀i,i<run (F key) (kas_place p n k l r)->K key p i<=K key p n)/\∀i,run (F key) (kas_place p n k l r)<=i->i<n->K key p n<K key p i
 | 0,l,r,lr,rn,hk,h1,h2=>by
  have:l=r:=by omega
  subst this;exact⟨rn,h1,h2⟩
 | k+1,l,r,lr,rn,hk,h1,h2=>by
  unfold kas_place
  by_cases e:l ≥ r
  ·have:l=r:=by omega
   subst this;rw[Cd e];exact⟨rn,h1,h2⟩
  ·rw[Ci e]
   have hm:(l+r)/2<r:=by omega
   have hm2:l<=(l+r)/2:=by omega
   show run (F key) (if F key (p.getD n 0) (p.getD ((l+r)/2) 0)=true then kas_place p n k l ((l+r)/2)else kas_place p n k ((l+r)/2+1) r)<=n/\_;show(fun t=>run (F key) t<=n/\(∀i,i<run (F key) t->K key p i<=K key p n)/\∀i,run (F key) t<=i->i<n->K key p n<K key p i) (if F key (p.getD n 0) (p.getD ((l+r)/2) 0)=true then kas_place p n k l ((l+r)/2)else kas_place p n k ((l+r)/2+1) r)
   by_cases c:K key p n<K key p ((l+r)/2)
   ·rw[Cd (show F key (p.getD n 0) (p.getD ((l+r)/2) 0)=true by simpa [F,K]using c)]
    refine place hs k l ((l+r)/2) hm2 (by omega) (by omega) h1 fun i i1 i2=> ?_;exact Int.lt_of_lt_of_le c (hs.mono i1 i2)
   ·rw[Ci (show¬F key (p.getD n 0) (p.getD ((l+r)/2) 0)=true by simpa [F,K]using c)]
    refine place hs k ((l+r)/2+1) r (by omega) rn (by omega) (fun i hi=> ?_) h2;exact Int.le_trans (hs.mono (show i<=(l+r)/2 by omega) (by omega)) (by omega)
theorem CN{p:Array Nat}{n L:Nat}(hn:n<p.size)(hL:L<=n)(x:Nat):K key (bubble p n (n-L)) x=if x=L then K key p n else if L<x/\x<=n then K key p (x-1)else K key p x:=by
 unfold K;rw[DJ,getElem?_bubble hn _ (by omega),show n-(n-L)=L by omega];rw[DJ (i:=n),DJ (i:=x-1),DJ (i:=x)]
 split
 ·rfl
 ·split
  ·rfl
  ·rfl
theorem bin:∀(k:Nat)(p:Array Nat)(n:Nat),n+k<=p.size->qJ key p n->qJ key (run (F key) (kas_bin k p n)) (n+k)/\(run (F key) (kas_bin k p n)).Perm p
 | 0,p,n,_,h=>⟨h,EZ _⟩
 | k+1,p,n,hk,h=>by
  unfold kas_bin;rw[bn];obtain⟨b1,b2,b3⟩:=place (key:=key) h n 0 n (by omega) (by omega) (by omega) (fun i hi=>by omega) (fun i i1 i2=>by omega)
  generalize run (F key) (kas_place p n n 0 n)=L at b1 b2 b3
  have kb:=CN (key:=key) (p:=p) (n:=n) (L:=L) (by omega) b1;have hs:qJ key (bubble p n (n-L)) (n+1):=fun i hi=>by
   rw[kb,kb]
   by_cases e1:i=L
   ·rw[Cd e1,Ci (by omega),Cd (by omega)]
    have:=b3 (i+1-1) (by omega) (by omega);omega
   ·rw[Ci e1]
    by_cases e2:i+1=L
    ·rw[Cd e2,Ci (by omega)]
     exact b2 i (by omega)
    ·rw[Ci e2]
     by_cases e3:L<i/\i<=n
     ·rw[Cd e3,Cd (by omega)]
      exact h.mono (by omega) (by omega)
     ·rw[Ci e3,Ci (by omega)]
      exact h.mono (by omega) (by omega)
  obtain⟨c1,c2⟩:=bin k (bubble p n (n-L)) (n+1) (by rw[bubble_size];omega) hs;exact⟨by rw[show n+(k+1)=n+1+k by omega];exact c1,c2.trans (bubble_perm _ _ _)⟩
theorem sort{n:Nat}(h:1<=n):(run (F key) (kas_sort n)).toList.Perm (List.range n)/\((run (F key) (kas_sort n)).toList.map key).Pairwise (·<=·):=by
 have core:(run (F key) (kas_sort n)).Perm (List.toArray (List.range n))/\qJ key (run (F key) (kas_sort n)) n:=by
  unfold kas_sort;rw[bn];obtain⟨a1,a2,a3,a4⟩:=count (key:=key) (p:=List.toArray (List.range n)) h (by simp)
  generalize run (F key) (kas_count n (List.toArray (List.range n)))=r at a1 a2 a3 a4
  have hz:r.2.size=n:=by rw[a4.size_eq];simp
  split
  ·have:max r.1 1=r.1:=by omega
   rw[this];obtain⟨b1,b2⟩:=bin (key:=key) (n-r.1) r.2 r.1 (by omega) a3;exact⟨b2.trans a4,by rw[show n=r.1+(n-r.1)by omega];rw[show r.1+(n-r.1)-r.1=n-r.1 by omega];exact b1⟩
  ·have:r.1=n:=by omega
   exact⟨a4,by rw[<- this];exact a3⟩
 obtain⟨c1,c2⟩:=core;have pm:=Array.perm_iff_toList_perm.mp c1;refine⟨by simpa using pm,?_⟩
 generalize run (F key) (kas_sort n)=p at c1 c2 pm
 have hl:p.toList.length=n:=by rw[pm.length_eq];simp
 rw[List.pairwise_iff_getElem];intro i j hi hj hij;rw[CW]at hi hj;rw[EF,EF];have:=c2.mono (show i<=j by omega) (by omega);unfold K at this;rw[Cn]at hi hj
 simpa [Array.getD,hi,hj]using this
end
end SW
namespace SW
open PySem PySem.W PyProof.Rows
noncomputable def Ok{α:Type}(n:Nat)(P:α->Prop):KasT α->Prop
 | .ret a=>P a
 | .ask i j k=>i<n/\j<n/\∀b,Ok n P (k b)
theorem Ok.bind{α β:Type}{n:Nat}{P:α->Prop}{R:β->Prop}{g:α->KasT β}(hg:∀a,P a->Ok n R (g a)):∀{t:KasT α},Ok n P t->Ok n R (t.bind g)
 | .ret a,h=>hg a h
 | .ask i j k,h=>⟨h.1,h.2.1,fun b=>Ok.bind hg (h.2.2 b)⟩
theorem Ok.wp{α:Type}{n:Nat}{P:α->Prop}{cmp:Nat->Nat->(Bool->Shared->Prop)->Shared->Prop}{f:Nat->Nat->Bool}{Q:α->Shared->Prop}{s:Shared}(hc:∀i j C,i<n->j<n->C (f i j) s->cmp i j C s) :
  ∀{t:KasT α},Ok n P t->Q (run f t) s->t.kasWp cmp Q s
 | .ret a,_,h=>h
 | .ask i j k,o,h=>hc i j _ o.1 o.2.1 (Ok.wp hc (o.2.2 _) h)
noncomputable def B(n:Nat)(p:Array Nat):Prop:=∀x,p.getD x 0<n
theorem B.perm{n:Nat}{p p' :Array Nat}(hn:0<n)(h:B n p)(pm:p'.Perm p):B n p' :=fun x=>by
 by_cases hx:x<p'.size
 ·have e:p'.getD x 0=p'[x]:=by simp[Array.getD,hx]
  have hm:p'[x]∈p'.toList:=Array.getElem_mem_toList hx;have hm:=(Array.perm_iff_toList_perm.mp pm).mem_iff.mp hm;obtain⟨i,hi,z⟩:=List.getElem_of_mem hm;have:=h i;rw[Cn]at hi;rw[e,<-z]
  simpa [Array.getD,hi]using this
 ·have e:p'.getD x 0=0:=by simp[Array.getD,hx]
  rw[e];exact hn
section
variable{n:Nat}(hn:0<n)
include hn
theorem mV{p:Array Nat}(h:B n p):∀k m,Ok n (fun _=>True) (kas_asc p k m)
 | 0,_=>trivial
 | k+1,m=>⟨h _,h _,fun b=>by cases b<;>first|exact trivial|exact mV h k (m+1)⟩
theorem fw:∀(k:Nat)(p:Array Nat)(m q:Nat),B n p->Ok n (fun r=>B n r.1) (kas_desc k p m q)
 | 0,p,_,_,h=>h
 | k+1,p,m,q,h=>⟨h _,h _,fun b=>by
  cases b with
  | true =>
   show Ok n _ (if q>0 then kas_desc k (kas_rev p (m-(q+1)) m) (m+1) 0 else kas_desc k p (m+1) 0)
   split
   ·exact fw k _ _ _ (h.perm hn (EN _ _ _ _))
   ·exact fw k _ _ _ h
  | false=>exact⟨h _,h _,fun b=>by
    cases b
    ·exact fw k p (m+1) (q+1) h
    ·exact h⟩⟩
theorem kS{p:Array Nat}{m r:Nat}(h:B n p):Ok n (fun r=>B n r.2) (kas_tail3 m r p):=by
 unfold kas_tail3;refine Ok.bind (P:=fun _=>True) (fun _ _=> ?_) (mV hn (h.perm hn (EN _ _ _ _)) _ _);exact h.perm hn (EN _ _ _ _)
theorem fL{p:Array Nat}{m r:Nat}(h:B n p):Ok n (fun r=>B n r.2) (kas_descPart m r p):=by
 unfold kas_descPart;refine Ok.bind (P:=fun r=>B n r.1) (fun a ha=> ?_) (fw hn _ _ _ _ h)
 split
 ·exact kS hn (ha.perm hn (EN _ _ _ _))
 ·exact kS hn ha
theorem sK{p:Array Nat}{r:Nat}(h:B n p):Ok n (fun r=>B n r.2) (kas_count r p):=by
 unfold kas_count;refine Ok.bind (P:=fun _=>True) (fun a _=> ?_) (mV hn h _ _)
 split
 ·exact h
 ·split
  ·exact⟨h _,h _,fun b=>by
    cases b
    ·exact fL hn (h.perm hn (EN _ _ _ _))
    ·exact h⟩
  ·exact fL hn h
theorem gX{p:Array Nat}{m:Nat}(h:B n p):∀k l r,Ok n (fun _=>True) (kas_place p m k l r)
 | 0,_,_=>trivial
 | k+1,l,r=>by
  unfold kas_place
  split
  ·exact trivial
  ·exact⟨h _,h _,fun b=>by
    cases b
    ·exact gX h k _ _
    ·exact gX h k _ _⟩
theorem sL:∀(k:Nat)(p:Array Nat)(m:Nat),B n p->Ok n (fun p=>B n p) (kas_bin k p m)
 | 0,_,_,h=>h
 | k+1,p,m,h=>Ok.bind (fun l _=>sL k _ _ (h.perm hn (bubble_perm _ _ _))) (gX hn h _ _ _)
theorem vk:Ok n (fun p=>B n p) (kas_sort n):=by
 have h0:B n (List.toArray (List.range n)):=fun x=>by
  by_cases hx:x<n
  ·have:(List.toArray (List.range n)).getD x 0=x:=by simp[Array.getD,hx]
   omega
  ·have:(List.toArray (List.range n)).getD x 0=0:=by simp[Array.getD,hx]
   omega
 unfold kas_sort;refine Ok.bind (P:=fun r=>B n r.2) (fun r hr=> ?_) (sK hn h0)
 split
 ·exact sL hn _ _ _ hr
 ·exact hr
end
section
variable{prog:Program}{w:World}{A:Around}{E:Value->Shared->Prop}{s:Shared}
noncomputable def nw(key:Nat->Int)(vs:List Value):List Value:=(run (F key) (kas_sort vs.length)).toList.map fun i=>vs.getD i Value.none
theorem vf{key:Nat->Int}{vs:List Value}(h:1<=vs.length):(nw key vs).length=vs.length:=by
 unfold nw;rw[CW,(sort (key:=key) h).1.length_eq,Cy]
theorem vx{a:Addr}{vs:List Value}{n:Nat}{κ:SortKind}{key:Nat->Int}{P:PySem.Fin->Shared->Prop}(ho:s.heap.get? a=some (seqObj "list" vs.toArray n))(h2:2<=vs.length)(h64:vs.length<64)
  (hk:∀(s1:Shared)(Q:SortKind->Shared->Prop),(∀b o,b≠a->s.heap.get? b=some o->s1.heap.get? b=some o)->Q κ s1->wpAny (model prog w) A (keyKind' vs.toArray) Q E s1)
  (hc:∀(s1:Shared) i j C,(∀b o,b≠a->s.heap.get? b=some o->s1.heap.get? b=some o)->i<vs.length->j<vs.length->C (F key i j) s1->kas_ask prog w A κ vs i j C s1)
  (h:P (.done (.ret .none)) {s with heap:=sortedHeap s.heap a vs (nw key vs).toArray}) :
  wpAny (model prog w) A (Builtin.«list.sort» ⟨[.ref a],[]⟩) P E s:=by
 have ha:a<s.heap.objs.size:=Cc ho;rw[list_sort_plain];refine CU (listItems_at ho rfl (CU (listUpdate_at ho rfl ?_ (by rw[Cb,DN];omega) (DH _))));obtain⟨e1,g1⟩:∃e1,(s.heap.update a (Obj.mapSeq fun _=>(#[]:Array Value))).get? a=some (seqObj "list" #[] e1):=⟨_,get?_update_seq ho fun _=> #[]⟩;refine CU (seqEpoch_at g1 rfl (CU (wpAny_newTuple ?_ (by show vs.length<=_;rw[DN];omega))));refine CU (wpAny_newList ?_ (DH _));refine DV ?_;have g2:(((s.heap.update a (Obj.mapSeq fun _=>(#[]:Array Value))).push (seqObj "tuple" vs.toArray 0)).push (seqObj "list" #[] 0)).get? a=some (seqObj "list" #[] e1):=CV _ (CV _ g1)
 have old:∀b o,b≠a->s.heap.get? b=some o->(((s.heap.update a (Obj.mapSeq fun _=>(#[]:Array Value))).push (seqObj "tuple" vs.toArray 0)).push (seqObj "list" #[] 0)).get? b=some o:=fun b o nb e =>
  CV _ (CV _ (by rw[DR _ _ (Du nb)];exact e))
 show wpAny (model prog w) A _ P E {s with heap:=((s.heap.update a (Obj.mapSeq fun _=>(#[]:Array Value))).push (seqObj "tuple" vs.toArray 0)).push (seqObj "list" #[] 0)};dsimp only;have n2:¬vs.toArray.size<2:=by rw[Cb];omega
 rw[Ci n2,Ci n2];refine CU (hk _ _ old ?_)
 refine CU (DS (kat_run (Q:=fun st' s' =>∃p:Array Nat,p=run (F key) (kas_sort vs.length)/\s' ={s with heap:=((s.heap.update a (Obj.mapSeq fun _=>(#[]:Array Value))).push (seqObj "tuple" vs.toArray 0)).push (seqObj "list" #[] 0)}/\arrOf st' =p.map (kas_item (vs.toArray.zip vs.toArray))/\failedOf st' =none)
  (G:=fun p s' =>p=run (F key) (kas_sort vs.length)/\s' ={s with heap:=((s.heap.update a (Obj.mapSeq fun _=>(#[]:Array Value))).push (seqObj "tuple" vs.toArray 0)).push (seqObj "list" #[] 0)})
  rfl h2 h64 (fun p' st' s' _ a2 a3 a4=>⟨p',a4.1,a4.2,a2,a3⟩) ((vk (by omega)).wp (fun i j C hi hj q=>hc _ i j C old hi hj q) ⟨rfl,rfl⟩)) ?_ fun _ _ e=>e)
 rintro⟨⟨⟩,st'⟩ s' ⟨p,rfl,rfl,har,hf⟩;dsimp only;have hout:(arrOf st').map (·.2)=(nw key vs).toArray:=kat_snds rfl har;rw[hout];refine CU (seqEpoch_at g2 rfl ?_);refine CU (listUpdate_at g2 rfl ?_ (DH _) (by rw[Cb,vf (by omega),DN];omega));rw[hf];simp only[bne_self_eq_false,Eg,ET];exact Ce h
end
end SW
set_option maxHeartbeats 400000
namespace SW
open PySem PySem.W PyProof.Rows
noncomputable def bh(h:Heap)(v:Value)(q:Int×Int):Prop:=∃a t u,v=.ref a/\IsTup h a #[.int q.1 t,.int q.2 u]
theorem bh.keep{h h' :Heap}{v:Value}{q:Int×Int}(x:bh h v q)(k:∀b o,h.get? b=some o->h'.get? b=some o):bh h' v q:=by
 obtain⟨a,t,u,e,z⟩:=x;exact⟨a,t,u,e,z.keeps k⟩
noncomputable def bu(q:Int×Int):Int:=1000*q.1+q.2
section
variable{prog:Program}{w:World}{A:Around}{E:Value->Shared->Prop}{s:Shared}
theorem vw{x y:Value}{p q:Int×Int}{C:Bool->Shared->Prop}(hx:bh s.heap x p)(hy:bh s.heap y q)(bp:0<=p.2/\p.2<1000)(bq:0<=q.2/\q.2<1000)(h:C (decide (bu p<bu q)) s):wpAny (model prog w) A (keyLt' (tuples' true) x y) C E s:=by
 obtain⟨a,t,u,rfl,o,ho,-,n,hd⟩:=hx;obtain⟨b,t',u',rfl,o',ho',-,n',hd'⟩:=hy;refine kat_lt ho hd ho' hd' ?_;unfold bu at h;refine kat_cons (wpAny_eqBool_int (kat_go (fun e=>kat_yes (kat_cons (wpAny_eqBool_int (kat_go (fun e2=>kat_yes (kat_nil ?_)) fun e2=>kat_no (kat_one _ _ (lt_int ?_)))))) fun e=>kat_no (oneLt_int ?_)))
 ·have e:=DL.mp e
  have e2:=DL.mp e2;rw[show decide (1000*p.1+p.2<1000*q.1+q.2)=false from C5 (by omega)]at h;exact h
 ·have e:=DL.mp e
  show C (decide (p.2<q.2)) s;rw[show decide (1000*p.1+p.2<1000*q.1+q.2)=decide (p.2<q.2)from decide_eq_decide.mpr (by omega)]at h;exact h
 ·have e:p.1≠q.1:=fun z=>by rw[z]at e;simp at e
  rw[show decide (1000*p.1+p.2<1000*q.1+q.2)=decide (p.1<q.1)from decide_eq_decide.mpr (by omega)]at h;exact h
theorem mh{vs:List Value}{ps:List (Int×Int)}{Q:SortKind->Shared->Prop}(h1:1<=vs.length)(hp:Paired (bh s.heap) vs ps)(h:Q (tuples' true) s):wpAny (model prog w) A (keyKind' vs.toArray) Q E s:=by
 obtain⟨fs,hf,hl,hi⟩:∃fs,KatTups s.heap vs fs/\fs.length=vs.length/\∀v∈fs,∃i t,v=.int i t:=by
  clear h1 h
  induction hp with
  | nil=>exact⟨[],.nil,rfl,fun v hv=>by cases hv⟩
  | cons r _ ih =>
   obtain⟨fs,a1,a2,a3⟩:=ih;obtain⟨a,t,u,rfl,o,ho,hc,n,hd⟩:=r;refine⟨_,KatTups.cons ho hc hd rfl a1,by simp[a2],fun v hv=> ?_⟩
   rcases Co.mp hv with z|z
   ·exact⟨_,_,z⟩
   ·exact a3 v z
 refine kat_kind (T:=.type "int") hf (by omega) (fun v hv=> ?_) (by decide) h;obtain⟨i,t,rfl⟩:=hi v hv;exact .now
theorem oy:∀{vs:List Value},vs.length<2->(vs.toArray.zip vs.toArray).map (·.2)=vs.toArray
 | [],_=>by simp
 | [_],_=>by simp
 | _::_::_,h=>absurd h (by simp)
theorem mE:∀{vs:List Value},vs.length<2->(List.range vs.length).map (fun i=>vs.getD i Value.none)=vs
 | [],_=>rfl
 | [_],_=>rfl
 | _::_::_,h=>absurd h (by simp)
theorem rC{f:Nat->Int}:∀{n:Nat},n<2->((List.range n).map f).Pairwise (·<=·)
 | 0,_=>.nil
 | 1,_=>by show([f 0]:List Int).Pairwise (·<=·);exact List.pairwise_singleton _ _
 | _+2,h=>absurd h (by omega)
theorem kc{a:Addr}{vs:List Value}{n:Nat}{P:PySem.Fin->Shared->Prop}(ho:s.heap.get? a=some (seqObj "list" vs.toArray n))(h2:vs.length<2)
  (h:P (.done (.ret .none)) {s with heap:=sortedHeap s.heap a vs vs.toArray}):wpAny (model prog w) A (Builtin.«list.sort» ⟨[.ref a],[]⟩) P E s:=by
 rw[list_sort_plain];refine CU (listItems_at ho rfl (CU (listUpdate_at ho rfl ?_ (by rw[Cb,DN];omega) (DH _))));obtain⟨e1,g1⟩:∃e1,(s.heap.update a (Obj.mapSeq fun _=>(#[]:Array Value))).get? a=some (seqObj "list" #[] e1):=⟨_,get?_update_seq ho fun _=> #[]⟩;refine CU (seqEpoch_at g1 rfl (CU (wpAny_newTuple ?_ (by show vs.length<=_;rw[DN];omega))));refine CU (wpAny_newList ?_ (DH _));refine DV ?_;have g2:(((s.heap.update a (Obj.mapSeq fun _=>(#[]:Array Value))).push (seqObj "tuple" vs.toArray 0)).push (seqObj "list" #[] 0)).get? a=some (seqObj "list" #[] e1):=CV _ (CV _ g1);show wpAny (model prog w) A _ P E {s with heap:=((s.heap.update a (Obj.mapSeq fun _=>(#[]:Array Value))).push (seqObj "tuple" vs.toArray 0)).push (seqObj "list" #[] 0)};dsimp only;have n2:vs.toArray.size<2:=by rw[Cb];exact h2
 rw[Cd n2,Cd n2];refine CU (Ce ?_);rw[StateT.run_pure];refine CU (Ce ?_);dsimp only;have hout:(arrOf (SortSt.mk' general' (vs.toArray.zip vs.toArray) #[] 7 none)).map (·.2)=vs.toArray:=by
  exact oy h2
 rw[hout];refine CU (seqEpoch_at g2 rfl ?_);refine CU (listUpdate_at g2 rfl ?_ (DH _) (by rw[Cb,DN];omega));simp only[bne_self_eq_false,Eg,ET];exact Ce h
theorem eU{F:Value->Int×Int->Prop}:∀{vs:List Value}{ps:List (Int×Int)},Paired F vs ps->∀i,i<vs.length->F (vs.getD i Value.none) (ps.getD i (0,0))/\ps.getD i (0,0)∈ps
 | _,_,.cons r _,0,_=>⟨r,Cv⟩
 | _,_,.cons _ t,i+1,h=>by
  have:=eU t i (by simpa using h);exact⟨this.1,Cj _ this.2⟩
theorem jG{l:Addr}{vs:List Value}{ps:List (Int×Int)}{Q:Value->Shared->Prop}(hl:s.heap.IsList l vs.toArray)(hp:Paired (bh s.heap) vs ps)(hb:∀q∈ps,0<=q.2/\q.2<1000)(h64:vs.length<64)
  (h:∀js:List Nat,js.Perm (List.range vs.length)->(js.map fun i=>bu (ps.getD i (0,0))).Pairwise (·<=·)->Q (.ref (s.heap.objs.size+1)) {s with heap:=sortedAll s.heap vs (js.map fun i=>vs.getD i Value.none).toArray}) :
  wpAny (model prog w) A (call (.builtin "sorted") [.ref l]) Q E s:=by
 refine Calls.call_function_entry kind_sorted plain_sorted entry_sorted (args_sorted1 _) ?_;unfold Builtin.«sorted»;refine CU (m:=checkCount "sorted" 1 1 _) (Ce ?_);refine CU (collect_list hl ?_ (by rw[DN];omega));refine CU (wpAny_newList ?_ (by rw[DN];omega));have hsz:((s.heap.push (seqObj "list" #[] 0)).update s.heap.objs.size (Obj.mapSeq (·++vs.toArray))).objs.size=s.heap.objs.size+1:=by rw[Heap.size_update,size_push']
 have hoL:(((s.heap.push (seqObj "list" #[] 0)).update s.heap.objs.size (Obj.mapSeq (·++vs.toArray))).push (seqObj "list" vs.toArray 0)).get? (s.heap.objs.size+1)=some (seqObj "list" vs.toArray 0):=by
  rw[<- hsz];exact Cs _ rfl
 have keep:∀b o,s.heap.get? b=some o->(((s.heap.push (seqObj "list" #[] 0)).update s.heap.objs.size (Obj.mapSeq (·++vs.toArray))).push (seqObj "list" vs.toArray 0)).get? b=some o:=fun b o e=>by
  have lt:b<s.heap.objs.size:=Cc e;refine CV _ ?_;rw[DR _ _ (EK lt)];exact CV _ e
 show wpAny _ _ _ _ _ {s with heap:=((s.heap.push (seqObj "list" #[] 0)).update s.heap.objs.size (Obj.mapSeq (·++vs.toArray))).push (seqObj "list" vs.toArray 0)};rw[hsz]
 by_cases h2:vs.length<2
 ·refine CU (DV (EI slot_list_sort ⟨_,hoL,rfl⟩ entry_list_sort (kc hoL h2 ⟨_,rfl,?_⟩) (args_list_sort _)))
  have q:=h (List.range vs.length) (List.Perm.refl _) (rC h2);rw[mE h2]at q;exact Ce ⟨_,rfl,q⟩
 ·have hp2:∀s1:Shared,(∀b o,b≠s.heap.objs.size+1->(((s.heap.push (seqObj "list" #[] 0)).update s.heap.objs.size (Obj.mapSeq (·++vs.toArray))).push (seqObj "list" vs.toArray 0)).get? b=some o->s1.heap.get? b=some o)->∀{v:Value}{q:Int×Int},bh s.heap v q->bh s1.heap v q:=fun s1 k v q x =>
   x.keep fun b o e=>k b o (Cu (EL (Cc e))) (keep b o e)
  refine CU (DV (EI slot_list_sort ⟨_,hoL,rfl⟩ entry_list_sort (vx (κ:=tuples' true) (key:=fun i=>bu (ps.getD i (0,0))) hoL (by omega) h64 (fun s1 Q1 k q1=> ?_) (fun s1 i j C k hi hj c=> ?_) ⟨_,rfl,?_⟩) (args_list_sort _)))
  ·exact mh (ps:=ps) (by omega) (L2.Paired.mapP hp fun _ _ x=>hp2 s1 k x) q1
  ·obtain⟨x1,m1⟩:=eU hp i hi
   obtain⟨x2,m2⟩:=eU hp j hj;exact vw (hp2 s1 k x1) (hp2 s1 k x2) (hb _ m1) (hb _ m2) c
  ·obtain⟨z1,z2⟩:=sort (key:=fun i=>bu (ps.getD i (0,0))) (n:=vs.length) (by omega)
   exact Ce ⟨_,rfl,h _ z1 z2⟩
end
end SW
namespace L2
open PySem PySem.Spec PyProof.Rows
inductive AR(K:W.Frag)(H:Hp):List V->List (Int×Int)->Prop
 | nil:AR K H [] []
 | cons {a:Addr} {q:Int×Int} {us:List V} {ps:List (Int×Int)} (h:bL K H a [.int q.1,.int q.2]) (t:AR K H us ps):AR K H (.ref a::us) (q::ps)
theorem AR.len{K:W.Frag}{H:Hp}{us:List V}{ps:List (Int×Int)}(h:AR K H us ps):us.length=ps.length:=by
 induction h with
 | nil=>rfl
 | cons _ _ ih=>simp[ih]
theorem aK.pick{us:List V}{vs:List Value}(r:aK us vs):∀{js:List Nat},(∀j∈js,j<us.length)->aK (js.map fun i=>us.getD i .non) (js.map fun i=>vs.getD i Value.none)
 | [],_=>.nil
 | j::js,h=>by
  have hj:=h j Cv;obtain⟨v,hv,rv⟩:=r.get (i:=j) (x:=us[j]) (CY hj);refine .cons ?_ (aK.pick r fun i hi=>h i (Cj _ hi));dsimp only;rw[Ck,CY hj,Ck,hv];exact rv
section
variable{X:Cx}
theorem eK:bA X (.builtin "sorted") (fun xs H Q=>∃(p:Addr)(us:List V)(ps:List (Int×Int)),xs=[.ref p]/\ar X.K H p us/\AR X.K H us ps/\us.length<64/\(∀q∈ps,0<=q.2/\q.2<1000) /\
  ∀a (js:List Nat),H a=none->js.Perm (List.range us.length)->(js.map fun i=>SW.bu (ps.getD i (0,0))).Pairwise (·<=·)->Q (.ref a) (upd H a (.lst (js.map fun i=>us.getD i .non)))):=by
 intro pins s σ H xs us Q I r h;obtain⟨p,ws,ps,rfl,hq,hp,h64,hb,q⟩:=h;obtain⟨u,rfl,rx⟩:=vals1 r;cases rx;obtain⟨its,r',pl,hz⟩:=I.list hq;have hlen:=r'.length;have pr:Paired (SW.bh s.heap) its ps:=by
  clear q hb h64 hq pl hz hlen
  induction hp generalizing its with
  | nil =>
   cases r';exact .nil
  | cons ht _ ih =>
   cases r' with
   | cons rv t =>
    refine .cons ?_ (ih _ t);cases rv;obtain⟨ys,ry,tp,_⟩:=I.tuple ht;obtain⟨y1,y2,rfl,e1,e2⟩:=vals2 ry;obtain⟨t1,rfl⟩:=e1;obtain⟨t2,rfl⟩:=e2;exact⟨_,t1,t2,rfl,tp⟩
 refine SW.jG pl.isList pr hb (by omega) fun js pm pw=> ?_;obtain⟨c,hc⟩:=sortedAll_at s.heap its (js.map fun i=>its.getD i Value.none).toArray;rw[<- hlen]at pm;refine⟨.ref (s.heap.objs.size+1),_,I.laid (t' :=s.toks) (o:=.lst (js.map fun i=>ws.getD i .non)) (fun b o z=>sortedAll_old z) (EU _) ?_,rfl,q _ js (I.hok.fresh (EU _)) pm pw⟩;refine⟨?_,js.map fun i=>its.getD i Value.none,c,aK.pick r' fun j hj=>DB.mp (pm.mem_iff.mp hj),by simpa [seqObj]using hc⟩;rw[CW,pm.length_eq,Cy,DN];omega
end
end L2
namespace SR
open PySem PyProof.Rows
section
variable{prog:Program}{w:World}{A:Around}{E:Value->Shared->Prop}{s:Shared}
end
end SR
set_option maxHeartbeats 800000
namespace SR
open PySem PyProof.Rows
noncomputable def uO(I t:Addr)(i:Int)(h:Heap):Prop:=∃o,h.get? I=some o/\o.cls=.type "reversed"/\o.data=.fields #[.ref t,rawInt i]
theorem uO.typeIs{I t:Addr}{i:Int}{s:Shared}(x:uO I t i s.heap):s.TypeIs (.ref I) "reversed":=let⟨o,ho,hc,_⟩:=x;⟨o,ho,hc⟩
theorem uO.keep{I t:Addr}{i:Int}{h h' :Heap}(x:uO I t i h)(k:∀o,h.get? I=some o->h'.get? I=some o):uO I t i h' :=let⟨o,ho,r⟩:=x;⟨o,k o ho,r⟩
section
variable{prog:Program}{w:World}{A:Around}{E:Value->Shared->Prop}{s:Shared}
end
end SR
namespace L2
open PySem PySem.Spec PyProof.Rows
section
variable{X:Cx}
end
end L2
set_option maxHeartbeats 4000000
namespace L2
open PySem PySem.Spec PyProof.Rows
section
variable{X:Cx}
end
end L2
namespace L2
open PySem PySem.Spec PyProof.Rows PySem.W
section
variable{X:Cx}
end
end L2
set_option genInjectivity false
namespace IR
open PySem
noncomputable abbrev aq:=L2.aq
inductive PV where
 | non|bl (b:Bool)|int (i:Int)|str (z:Str)|lst (xs:List PV)|tup (xs:List PV)|dK (ks:List aq) (vs:List PV)|dT (ks:List (List aq)) (vs:List PV)
instance:Inhabited PV:=⟨.non⟩
mutual
noncomputable def imm:PV->Bool
 | .non=>true| .bl _=>true| .int _=>true| .str _=>true
 | .lst _=>false
 | .tup xs=>imms xs
 | .dK _ _=>false| .dT _ _=>false
noncomputable def imms:List PV->Bool
 | []=>true
 | x::xs=>imm x&&imms xs
end
inductive Bf where
 | len|int|str|list|tuple|sorted|min|max|sum|abs|all|any|lrange|lrange2|isin (t:String)|sumv|sset|lset|trev|lvals
inductive Bm where
 | join|split|count|index|get|jrev
mutual
inductive IE where
 | con (v:PV)|var (i:Nat)|bin (op:Operator) (a b:IE)|neg (a:IE)|cmp (op:CmpOp) (a b:IE)
 | and (a b:IE)|or (a b:IE)|not (a:IE)|ite (c:IC) (a b:IE)
 | call (f:Nat) (es:ub)|bf (f:Bf) (es:ub)|mth (m:Bm) (o:IE) (es:ub)
 | lst (es:ub)|tup (es:ub)|dnew|dlit (k:aq) (e:IE)|ix (a i:IE)|sl (a:IE) (lo hi:IO)
 | lc (elt:IE) (src:IT) (ifs:xi) (caps:List Nat)|lc2 (elt:IE) (src:IT) (ifs:xi) (caps:List Nat)|never
inductive ub where
 | nil|cons (e:IE) (es:ub)
inductive IO where
 | no|yes (e:IE)
inductive IC where
 | val (e:IE)|not (c:IC)|and (c d:IC)|or (c d:IC)
inductive xi where
 | no|yes (c:IC)
inductive IT where
 | seq (e:IE)|rng (es:ub)|zip (a b:IE)|enum (a:IE)|never
end
mutual
inductive IS where
 | asg (i:Nat) (o:Bool) (cap:List Nat) (e:IE)|ret (cap:List Nat) (e:IE)|retN|ife (c:IC) (a b:qK)
 | forr (is:List Nat) (one:Bool) (cap:List Nat) (src:IT) (body:qK)|whil (c:IC) (body:qK)|pass|brk|cont
 | app (i:Nat) (cap:List Nat) (e:IE)|ins (i:Nat) (k e:IE)|drop (e:IE)|hand (m:Nat) (g:List PV->Option PV)|never
inductive qK where
 | nil|cons (s:IS) (ss:qK)
end
inductive Bd where
 | lst|dK (ks:List aq)|dT (ks:List (List aq))
noncomputable def Bd.pv:Bd->List PV->PV
 | .lst,xs=>.lst xs
 | .dK ks,xs=>.dK ks xs
 | .dT ks,xs=>.dT ks xs
section
variable{κ α:Type}[DecidableEq κ]
noncomputable def fU:List κ->List α->κ->Option α
 | k' ::ks,x::xs,k=>if k' =k then some x else fU ks xs k
 | _,_,_=>none
noncomputable def A9:List κ->List α->κ->α->List α
 | k' ::ks,x::xs,k,y=>(if k' =k then y else x)::A9 ks xs k y
 | _,xs,_,_=>xs
noncomputable def putL(ks:List κ)(xs:List α)(k:κ)(y:α):List α:=if k∈ks then A9 ks xs k y else xs++[y]
noncomputable def BH(ks:List κ)(k:κ):List κ:=if k∈ks then ks else ks++[k]
end
noncomputable def eC:PV->Option aq
 | .int i=>some (.inl i)
 | .str z=>some (.inr z)
 | _=>none
noncomputable def so:List PV->Option (List aq)
 | []=>some []
 | x::xs=>(eC x).bind fun k=>(so xs).map (k::·)
inductive TV where
 | un|frz (v:PV) (n:Bool)|own (xs:List PV) (n:Bool)|owd (b:Bd) (xs:List PV) (n:Bool)
noncomputable def TV.ob:TV->Option (Bd×List PV×Bool)
 | .own xs n=>some (.lst,xs,n)
 | .owd b xs n=>some (b,xs,n)
 | _=>none
noncomputable abbrev En:=List TV
noncomputable def TV.valD:TV->PV
 | .frz v _=>v
 | _=>.non
inductive RV where
 | frz (v:PV) (n:Bool)|bor (v:PV)|own (xs:List PV) (n:Bool)|owd (b:Bd) (xs:List PV) (n:Bool)
noncomputable def RV.val:RV->PV
 | .frz v _=>v
 | .bor v=>v
 | .own xs _=>.lst xs
 | .owd b xs _=>b.pv xs
noncomputable abbrev sc(v:PV):RV:=.frz v true
noncomputable def RV.keep:RV->Option (PV×Bool)
 | .frz v n=>some (v,n)
 | .bor v=>if imm v then some (v,true)else none
 | .own xs n=>some (.lst xs,n)
 | .owd b xs n=>some (b.pv xs,n)
noncomputable def fM(v:PV):RV:=if imm v then .frz v true else .bor v
noncomputable def RV.its:RV->Option (List PV×Bool)
 | .frz (.lst xs) n=>some (xs,n)
 | .frz (.tup xs) n=>some (xs,n)
 | .own xs n=>some (xs,n)
 | .bor (.lst xs)=>if imms xs then some (xs,true)else none
 | .bor (.tup xs)=>if imms xs then some (xs,true)else none
 | _=>none
noncomputable abbrev LN:Nat:=16777216
open L2 (wA cO)
noncomputable def signs(z:Str):List PV:=z.cps.toList.map fun c=>.str ⟨#[c]⟩
noncomputable def kX(xs:List PV)(n:Bool):Option RV:=if xs.length<=LN then some (.own xs n)else none
noncomputable def jX(xs:List PV)(n:Bool):Option RV:=if xs.length<=LN then some (.frz (.tup xs) n)else none
noncomputable def nN(a b:RV):Option RV :=
 match a.val,b.val with
 | .int i,.int j=>some (sc (.int (i+j)))
 | .str x,.str y=>if x.length+y.length<=LN then some (sc (.str (x++y)))else none
 | .lst _,.lst _=>match a.its,b.its with
  | some (xs,n),some (ys,m)=>kX (xs++ys) (n&&m)
  | _,_=>none
 | .tup _,.tup _=>match a.its,b.its with
  | some (xs,n),some (ys,m)=>jX (xs++ys) (n&&m)
  | _,_=>none
 | _,_=>none
noncomputable def nK(a b:RV):Option RV :=
 match a.val,b.val with
 | .int i,.int j=>some (sc (.int (i-j)))
 | _,_=>none
noncomputable def jt(a b:RV):Option RV :=
 match a.val,b.val with
 | .int i,.int j=>if(-(2^64)<i/\i<2^64)\/(-(2^64)<j/\j<2^64)then some (sc (.int (i*j)))else if i.natAbs<2^2000/\j.natAbs<2^2000 then some (sc (.int (i*j)))else none
 | .lst _,.int k=>match a with
  | .own xs n=>if 0<=k/\k<=1000000/\xs.length*k.toNat<=LN then some (.own (List.replicate k.toNat xs).flatten n)else none
  | _=>none
 | .tup _,.int k=>match a.its with
  | some (xs,n)=>if 2<=k/\k<=8/\xs.length=1 then jX (List.replicate k.toNat xs).flatten n else none
  | none=>none
 | .str z,.int k=>if 0<=k/\k<=1000/\z.length=1 then some (sc (.str ⟨(List.replicate k.toNat z.cps.toList).flatten.toArray⟩))else none
 | _,_=>none
noncomputable def dC(a b:RV):Option RV :=
 match a.val,b.val with
 | .int i,.int j=>if 0<j/\j<2^200 then some (sc (.int (i/j)))else none
 | _,_=>none
noncomputable def nM(a b:RV):Option RV :=
 match a.val,b.val with
 | .int i,.int j=>if 0<j then some (sc (.int (i%j)))else none
 | _,_=>none
noncomputable def fB(a b:RV):Option RV :=
 match a.val,b.val with
 | .int i,.int j=>if 0<=j/\j<=1000000/\i.natAbs<2^64 then some (sc (.int (i*2^j.toNat)))else none
 | _,_=>none
noncomputable def bX(op:Operator)(a b:RV):Option RV:=match op with
 | .Add=>nN a b
 | .Sub=>nK a b
 | .Mult=>jt a b
 | .FloorDiv=>dC a b
 | .Mod=>nM a b
 | .LShift=>fB a b
 | _=>none
noncomputable def eqs:PV->PV->Option Bool
 | .int i,.int j=>some (decide (i=j))
 | .str i,.str j=>some (decide (i=j))
 | .bl i,.bl j=>some (decide (i=j))
 | .non,.non=>some true
 | .non,.int _=>some false| .non,.bl _=>some false| .non,.str _=>some false| .int _,.non=>some false| .bl _,.non=>some false| .str _,.non=>some false
 | .int _,.str _=>some false| .str _,.int _=>some false| .bl _,.str _=>some false| .str _,.bl _=>some false
 | _,_=>none
noncomputable def eqf:PV->PV->Bool
 | .int i,.int j=>decide (i=j)
 | .str i,.str j=>decide (i=j)
 | .bl i,.bl j=>decide (i=j)
 | .bl b,.int j=>decide ((if b then 1 else 0:Int)=j)
 | .int j,.bl b=>decide (j=(if b then 1 else 0:Int))
 | .non,.non=>true
 | _,_=>false
mutual
noncomputable def k9:PV->PyData
 | .non=>.none
 | .bl b=>.bool b
 | .int i=>.int i
 | .str z=>.str z
 | .lst xs=>.list (cc xs)
 | .tup xs=>.tuple (cc xs)
 | .dK _ _=>.dict []
 | .dT _ _=>.dict []
noncomputable def cc:List PV->List PyData
 | []=>[]
 | x::xs=>k9 x::cc xs
end
mutual
noncomputable def oO:PV->PV->Bool
 | .lst xs,.lst ys=>mq xs ys
 | .tup xs,.tup ys=>mq xs ys
 | a,b=>eqf a b
noncomputable def mq:List PV->List PV->Bool
 | [],[]=>true
 | x::xs,y::ys=>oO x y&&mq xs ys
 | [],_::_=>false
 | _::_,[]=>false
end
noncomputable def gl:Nat->PV->Bool
 | _,.non=>true
 | _,.bl _=>true
 | _,.int _=>true
 | _,.str z=>PyData.strOk z
 | 0,.lst _=>false
 | 0,.tup _=>false
 | n+1,.lst xs=>xs.all (gl n)
 | n+1,.tup xs=>xs.all (gl n)
 | _,.dK _ _=>false
 | _,.dT _ _=>false
noncomputable def xZ(x y:PV):Option Bool:=match eqs x y with
 | some b=>some b
 | none=>if gl 12 x&&gl 12 y then some (oO x y)else none
mutual
noncomputable def B6(f:Int->Int->Bool)(g:Nat->Nat->Bool):PV->PV->Option Bool
 | .int i,.int j=>some (f i j)
 | .tup xs,.tup ys=>wY f g xs ys
 | _,_=>none
noncomputable def wY(f:Int->Int->Bool)(g:Nat->Nat->Bool):List PV->List PV->Option Bool
 | [],ys=>some (g 0 ys.length)
 | _::_,[]=>some (g 1 0)
 | x::xs,y::ys=>if oO x y then wY f g xs ys else B6 f g x y
end
noncomputable abbrev ltd:=B6 (fun i j=>decide (i<j)) fun a b=>decide (a<b)
noncomputable def ltT(x y:PV):Option Bool:=if gl 12 x&&gl 12 y then ltd x y else none
noncomputable def tm(a b:PV):Option Bool :=
 match a,b with
 | .int i,.int j=>some (decide (i<j))
 | .tup xs,.tup ys=>ltT (.tup xs) (.tup ys)
 | _,_=>none
noncomputable def nD(a b:PV):Option Bool :=
 match a,b with
 | .int i,.int j=>some (decide (i<=j))
 | _,_=>none
noncomputable def tu(a b:PV):Option Bool :=
 match a,b with
 | .int i,.int j=>some (decide (j<i))
 | _,_=>none
noncomputable def nE(a b:PV):Option Bool :=
 match a,b with
 | .int i,.int j=>some (decide (j<=i))
 | _,_=>none
noncomputable def tq(a b:PV):Option Bool :=
 match a,b with
 | .non,.non=>some true
 | x,.non=>some false
 | .bl b,.bl c=>some (b==c)
 | _,_=>none
noncomputable def gt(a b:PV):Option Bool :=
 match a,b with
 | .non,.non=>some false
 | x,.non=>some true
 | .bl b,.bl c=>some (b !=c)
 | _,_=>none
noncomputable def bE(op:CmpOp)(a b:PV):Option Bool:=match op with
 | .Lt=>tm a b
 | .LtE=>nD a b
 | .Gt=>tu a b
 | .GtE=>nE a b
 | .Eq=>xZ a b
 | .NotEq=>(xZ a b).map (!·)
 | .Is=>tq a b
 | .IsNot=>gt a b
 | _=>none
noncomputable def j9:PV->Option Bool
 | .non=>some false
 | .bl b=>some b
 | .int i=>some (i !=0)
 | .str z=>if z.length<=LN then some ((z.length:Int) !=0)else none
 | .lst xs=>some !xs.isEmpty
 | .tup xs=>some !xs.isEmpty
 | .dK ks _=>some !ks.isEmpty
 | .dT _ _=>none
noncomputable def dR:PV->Option Nat
 | .str z=>if z.length<=LN then some z.length else none
 | .lst xs=>some xs.length
 | .tup xs=>some xs.length
 | .dK ks _=>some ks.length
 | _=>none
noncomputable def dL(t:String):PV->Option Bool
 | .non=>if t="int"\/t="str"\/t="list"\/t="tuple"\/t="bool" then some false else none
 | .bl _=>if t="int"\/t="bool" then some true else if t="str"\/t="list"\/t="tuple" then some false else none
 | .int _=>if t="int" then some true else if t="bool"\/t="str"\/t="list"\/t="tuple" then some false else none
 | .str _=>if t="str" then some true else if t="bool"\/t="int"\/t="list"\/t="tuple" then some false else none
 | .lst _=>if t="list" then some true else if t="bool"\/t="int"\/t="str"\/t="tuple" then some false else none
 | .tup _=>if t="tuple" then some true else if t="bool"\/t="int"\/t="str"\/t="list" then some false else none
 | .dK _ _=>if t="bool"\/t="int"\/t="str"\/t="list"\/t="tuple" then some false else none
 | .dT _ _=>none
noncomputable def eM:List PV->Option (List Bool)
 | []=>some []
 | .bl b::r=>(eM r).map (b::·)
 | _::_=>none
noncomputable def au:List PV->Option (List Str)
 | []=>some []
 | .str z::r=>(au r).map (z::·)
 | _::_=>none
noncomputable def ag:List PV->Option (List Int)
 | []=>some []
 | .int i::r=>(ag r).map (i::·)
 | _::_=>none
noncomputable def jk(sep:Str):List Str->Str
 | []=>⟨#[]⟩
 | [x]=>x
 | x::y::r=>x++sep++jk sep (y::r)
noncomputable def lrng(n:Nat):List PV:=(List.range n).map fun i=>.int (i:Nat)
noncomputable def vS:PV->Option (Int×Int)
 | .tup xs=>(ag xs).bind fun ns=>match ns with
  | [a,b]=>some (a,b)
  | _=>none
 | _=>none
noncomputable def gP:List PV->Option (List (Int×Int))
 | []=>some []
 | x::r=>(vS x).bind fun q=>(gP r).map (q::·)
noncomputable def ua(q:Int×Int):PV:=.tup [.int q.1,.int q.2]
noncomputable def gK(ps:List (Int×Int)):List (Int×Int):=ps.mergeSort fun a b=>decide (SW.bu a<=SW.bu b)
noncomputable def qt(xs:List PV):Option RV:=(gP xs).bind fun ps=>if ps.length<64/\ps.all (fun q=>decide (0<=q.2)&&decide (q.2<1000))=true then some (.own ((gK ps).map ua) true)else none
noncomputable def gL(xs:List PV):Option RV:=match ag xs with
 | some ns=>if ns.length<64 then some (.own ((L2.sortI ns).map PV.int) true)else none
 | none=>qt xs
noncomputable def qv:PV->Option (List Int)
 | .lst xs=>(ag xs).bind fun ns=>if ns.all (fun n=>decide (0<=n)&&decide (n<8))=true then some ns else none
 | _=>none
noncomputable def revT(a:RV):Option RV:=match a.val with
 | .tup _=>(match a.its with
  | some (xs,n)=>if xs.isEmpty then none else some (.frz (.tup xs.reverse) n)
  | none=>none)
 | _=>none
noncomputable def strI:PV->Option RV
 | .int i=>if i.natAbs.log2<1920 then some (sc (.str (Str.ofString (toString i))))else none
 | _=>none
noncomputable def tH(x:PV)(xs:List PV):Option RV:=if xs.all (gl 12)&&gl 12 x then(xs.findIdx? fun y=>oO y x).map fun j=>sc (.int (j:Nat))else none
noncomputable def BX:PV->Option RV
 | .dK ks vs=>if ks.length<=LN then(ag vs).map fun ns=>.own (ns.map PV.int) true else none
 | _=>none
noncomputable def i9(f:Bf)(as:List RV):Option RV :=
 match f,as with
 | .len,[a]=>(dR a.val).map fun n=>sc (.int (n:Nat))
 | .int,[a]=>match a.val with
  | .int i=>some (sc (.int i))
  | .bl b=>some (sc (.int (if b then 1 else 0)))
  | _=>none
 | .list,[a]=>match a.its with
  | some (xs,n)=>some (.own xs n)
  | none=>none
 | .tuple,[a]=>match a.its with
  | some (xs,n)=>some (.frz (.tup xs) n)
  | none=>none
 | .all,[a]=>match a.val with
  | .lst xs=>(eM xs).map fun bs=>sc (.bl (bs.all id))
  | _=>none
 | .sum,[a]=>match a.val with
  | .lst xs=>(ag xs).map fun ns=>sc (.int ns.sum)
  | _=>none
 | .sorted,[a]=>match a.val with
  | .lst xs=>gL xs
  | _=>none
 | .sumv,[a]=>match a.val with
  | .dK _ vs=>(ag vs).map fun ns=>sc (.int ns.sum)
  | _=>none
 | .sset,[a]=>(qv a.val).map fun ns=>.own ((L2.xS ns).map PV.int) true
 | .lset,[a]=>(qv a.val).map fun ns=>sc (.int ((L2.xS ns).length:Nat))
 | .trev,[a]=>revT a
 | .lvals,[a]=>BX a.val
 | .str,[a]=>strI a.val
 | .isin t,[a]=>(dL t a.val).map fun b=>sc (.bl b)
 | .min,[a,b]=>match a.val,b.val with
  | .int i,.int j=>some (sc (.int (if j<i then j else i)))
  | _,_=>none
 | .max,[a,b]=>match a.val,b.val with
  | .int i,.int j=>some (sc (.int (if j>i then j else i)))
  | _,_=>none
 | .lrange,[a]=>match a.val with
  | .int i=>if 0<=i/\i<=1000 then some (.own (lrng i.toNat) true)else none
  | _=>none
 | .lrange2,[a,b]=>match a.val,b.val with
  | .int i,.int j=>if -1000<=i/\j<=1000/\i<=j then some (.own ((List.range (j-i).toNat).map fun k=>.int (i+(k:Nat))) true)else none
  | _,_=>none
 | _,_=>none
noncomputable def jY(m:Bm)(o:RV)(as:List RV):Option RV :=
 match m,o.val,as with
 | .join,.str sep,[a]=>match a.val with
  | .lst xs=>(au xs).bind fun ys=>if(ys.map (·.length)).sum+ys.length*sep.length<=LN then some (sc (.str (jk sep ys)))else none
  | .tup xs=>(au xs).bind fun ys=>if(ys.map (·.length)).sum+ys.length*sep.length<=LN then some (sc (.str (jk sep ys)))else none
  | _=>none
 | .jrev,.str sep,[a]=>match a.val with
  | .str z=>if sep.cps= #[]/\0<z.length/\z.length<=LN then some (sc (.str ⟨z.cps.toList.reverse.toArray⟩))else none
  | _=>none
 | .count,.str z,[a]=>match a.val with
  | .str y=>some (sc (.int (Txt.count z y)))
  | _=>none
 | .index,.tup xs,[a]=>tH a.val xs
 | .index,.lst xs,[a]=>tH a.val xs
 | .get,.dK ks vs,[a,d]=>(eC a.val).bind fun k=>match fU ks vs k with
  | some e=>(match o with
   | .frz _ n=>some (.frz e (n||imm e))
   | .bor _=>some (fM e)
   | _=>none)
  | none=>some d
 | _,_,_=>none
noncomputable def index(a i:RV):Option RV :=
 match a,i.val with
 | .frz (.lst xs) n,.int k=>(cO xs k).map fun e=>.frz e (n||imm e)
 | .frz (.tup xs) n,.int k=>(cO xs k).map fun e=>.frz e (n||imm e)
 | .own xs n,.int k=>(cO xs k).map fun e=>.frz e (n||imm e)
 | .bor (.lst xs),.int k=>(cO xs k).map fM
 | .bor (.tup xs),.int k=>(cO xs k).map fM
 | .frz (.str z) _,.int k=>if z.length<=LN then(cO z.cps.toList k).map fun c=>sc (.str ⟨#[c]⟩)else none
 | .frz (.dK ks vs) n,y=>(eC y).bind fun k=>(fU ks vs k).map fun e=>.frz e (n||imm e)
 | .bor (.dK ks vs),y=>(eC y).bind fun k=>(fU ks vs k).map fM
 | _,_=>none
noncomputable def cut{α:Type}(xs:List α)(lo hi:Option Int):List α:=(xs.drop (HT.aw xs.length 0 lo)).take (HT.aw xs.length xs.length hi-HT.aw xs.length 0 lo)
noncomputable def slice(a:RV)(lo hi:Option Int):Option RV :=
 match a.val with
 | .str z=>if z.length<=LN then(match lo,hi with
  | none,some k=>if 0<=k then some (sc (.str ⟨(z.cps.toList.take k.toNat).toArray⟩))else none
  | some k,none=>if 0<=k then some (sc (.str ⟨(z.cps.toList.drop k.toNat).toArray⟩))else none
  | _,_=>none)else none
 | .lst _=>match a.its with
  | some (xs,n)=>some (.own (cut xs lo hi) (n||imms xs))
  | none=>none
 | .tup _=>match a.its with
  | some (xs,n)=>if HT.aw xs.length 0 lo=0/\HT.aw xs.length xs.length hi=xs.length then some (.frz (.tup xs) n)else some (.frz (.tup (cut xs lo hi)) n)
  | none=>none
 | _=>none
noncomputable def keeps:List RV->Option (List PV×Bool)
 | []=>some ([],true)
 | r::rs=>r.keep.bind fun(v,n)=>(keeps rs).map fun(vs,m)=>(v::vs,n&&m)
noncomputable def ml(τ:En)(i:Nat):Option RV :=
 match τ[i]? with
 | some (.frz v n)=>some (.frz v n)
 | some (.own xs _)=>some (.bor (.lst xs))
 | some (.owd b xs _)=>some (.bor (b.pv xs))
 | _=>none
noncomputable def km:Option RV->Option (Option Int)
 | none=>some none
 | some r=>match r.val with
  | .int i=>some (some i)
  | _=>none
noncomputable def bN(f:PV->Option (Option (PV×Bool))):List PV->Option (List PV×Bool)
 | []=>some ([],true)
 | x::xs=>(f x).bind fun r=>(bN f xs).map fun(vs,m)=>match r with
  | none=>(vs,m)
  | some (v,n)=>(v::vs,n&&m)
noncomputable def d7:PV->Option (PV×PV)
 | .tup [a,b]=>some (a,b)
 | _=>none
noncomputable def dN:List RV->Option (List PV)
 | [a]=>match a.val with
  | .int j=>if -(2^62)<=j/\j<2^62 then some ((List.range j.toNat).map fun i=>.int (0+(i:Nat)))else none
  | _=>none
 | [a,b]=>match a.val,b.val with
  | .int i,.int j=>if -(2^62)<=i/\i<2^62/\ -(2^62)<=j/\j<2^62 then some ((List.range (j-i).toNat).map fun k=>.int (i+(k:Nat)))else none
  | _,_=>none
 | [a,b,c]=>match a.val,b.val,c.val with
  | .int i,.int j,.int k=>if k≠0/\k.natAbs<1073741824/\Builtin.Range.small i j k=true then some ((List.range (Builtin.Range.rangeSize i j k).toNat).map fun m=>.int (i+(m:Nat)*k))else none
  | _,_,_=>none
 | _=>none
noncomputable def zL:PV->Option Int
 | .int i=>some i
 | _=>none
noncomputable def fQ:PV->Option Bool
 | .bl b=>some b
 | _=>none
noncomputable def iU(x:RV):Option (List PV×Bool×Bool):=match x with
  | .frz (.str z) _=>some (signs z,true,false)
  | .bor (.lst xs)=>if imms xs then some (xs,true,true)else none
  | .bor (.tup xs)=>if imms xs then some (xs,true,true)else none
  | .bor _=>none
  | r=>r.its.map fun(xs,n)=>(xs,n,false)
noncomputable def nu(x y:PV):PV:=.tup [x,y]
noncomputable def bt(i:Nat)(x:PV):PV:=.tup [.int (i:Nat),x]
noncomputable def sW:RV->Option (List PV×Bool)
 | .frz (.lst xs) n=>some (xs,n)
 | .own xs n=>some (xs,n)
 | _=>none
noncomputable def qM(x y:RV):Option (List PV×Bool) :=
 match sW x,sW y with
 | some (xs,n),some (ys,m)=>if xs.length=ys.length then some (List.zipWith nu xs ys,n&&m)else none
 | _,_=>none
noncomputable def gp(x:RV):Option (List PV×Bool) :=
 match x with
 | .frz (.str z) _=>some (List.zipWith bt (List.range z.length) (signs z),true)
 | .frz (.tup xs) n=>some (List.zipWith bt (List.range xs.length) xs,n)
 | x=>match sW x with
  | some (xs,n)=>some (List.zipWith bt (List.range xs.length) xs,n)
  | none=>none
section
variable(cd:Nat->List PV->Option PV)
noncomputable def hV:PV->RV
 | .lst xs=>.own xs true
 | v=>.frz v true
mutual
noncomputable def aU:IE->En->Option RV
 | .con v,_=>some (sc v)
 | .var i,τ=>ml τ i
 | .bin op a b,τ=>(aU a τ).bind fun x=>(aU b τ).bind fun y=>bX op x y
 | .neg a,τ=>(aU a τ).bind fun x=>(zL x.val).map fun i=>sc (.int (-i))
 | .cmp op a b,τ=>(aU a τ).bind fun x=>(aU b τ).bind fun y=>(bE op x.val y.val).map fun r=>sc (.bl r)
 | .and a b,τ=>(aU a τ).bind fun x=>(fQ x.val).bind fun t=>if t then aU b τ else some (sc (.bl false))
 | .or a b,τ=>(aU a τ).bind fun x=>(fQ x.val).bind fun t=>if t then some (sc (.bl true))else aU b τ
 | .not a,τ=>(aU a τ).bind fun x=>(fQ x.val).map fun b=>sc (.bl !b)
 | .ite c a b,τ=>(dS c τ).bind fun r=>if r then aU a τ else aU b τ
 | .call f es,τ=>(cZ es τ).bind fun rs=>(cd f (rs.map RV.val)).map hV
 | .bf f es,τ=>(cZ es τ).bind fun rs=>i9 f rs
 | .mth m o es,τ=>(aU o τ).bind fun x=>(cZ es τ).bind fun rs=>jY m x rs
 | .lst es,τ=>(cZ es τ).bind fun rs=>(keeps rs).bind fun(vs,n)=>kX vs n
 | .tup es,τ=>(cZ es τ).bind fun rs=>(keeps rs).bind fun(vs,n)=>jX vs n
 | .dnew,_=>some (.owd (.dK []) [] true)
 | .dlit k e,τ=>(aU e τ).bind fun r=>r.keep.bind fun(v,_)=>if imm v then some (.owd (.dK [k]) [v] true)else none
 | .ix a i,τ=>(aU a τ).bind fun x=>(aU i τ).bind fun y=>index x y
 | .sl a lo hi,τ=>(aU a τ).bind fun x=>(zf lo τ).bind fun l=>(zf hi τ).bind fun h=>(km l).bind fun l' =>(km h).bind fun h' =>slice x l' h'
 | .lc elt src ifs caps,τ=>(jy src τ).bind fun(xs,n,_)=>if xs.length<=LN then(bN (fun x=>(el ifs (.frz x (n||imm x)::caps.map fun i=>τ.getD i .un)).bind fun b =>
   if b then(aU elt (.frz x (n||imm x)::caps.map fun i=>τ.getD i .un)).bind fun r=>r.keep.map some else some none) xs).map fun(vs,m)=>.own vs m else none
 | .lc2 elt src ifs caps,τ=>(jy src τ).bind fun(xs,n,_)=>if xs.length<=LN then(bN (fun x=>(d7 x).bind fun(a,b)=>(el ifs (.frz a (n||imm a)::.frz b (n||imm b)::caps.map fun i=>τ.getD i .un)).bind fun t =>
   if t then(aU elt (.frz a (n||imm a)::.frz b (n||imm b)::caps.map fun i=>τ.getD i .un)).bind fun r=>r.keep.map some else some none) xs).map fun(vs,m)=>.own vs m else none
 | .never,_=>none
noncomputable def cZ:ub->En->Option (List RV)
 | .nil,_=>some []
 | .cons e es,τ=>(aU e τ).bind fun x=>(cZ es τ).map (x::·)
noncomputable def zf:IO->En->Option (Option RV)
 | .no,_=>some none
 | .yes e,τ=>(aU e τ).map some
noncomputable def dS:IC->En->Option Bool
 | .val e,τ=>(aU e τ).bind fun x=>j9 x.val
 | .not c,τ=>(dS c τ).map (!·)
 | .and c d,τ=>(dS c τ).bind fun r=>if r then dS d τ else some false
 | .or c d,τ=>(dS c τ).bind fun r=>if r then some true else dS d τ
noncomputable def el:xi->En->Option Bool
 | .no,_=>some true
 | .yes c,τ=>dS c τ
noncomputable def jy:IT->En->Option (List PV×Bool×Bool)
 | .seq e,τ=>(aU e τ).bind iU
 | .rng es,τ=>(cZ es τ).bind fun rs=>(dN rs).map fun xs=>(xs,true,false)
 | .zip a b,τ=>(aU a τ).bind fun x=>(aU b τ).bind fun y=>(qM x y).map fun(xs,n)=>(xs,n,false)
 | .enum a,τ=>(aU a τ).bind fun x=>(gp x).map fun(xs,n)=>(xs,n,false)
 | .never,_=>none
end
inductive Fl where
 | nx (τ:En)|bk (τ:En)|ct (τ:En)|rt (v:PV)
noncomputable def gF(f:Fl)(k:En->Option Fl):Option Fl:=match f with
 | .nx τ=>k τ
 | .bk τ=>some (.bk τ)
 | .ct τ=>some (.ct τ)
 | .rt v=>some (.rt v)
noncomputable def jm(τ:En)(i:Nat):En :=
 match τ[i]? with
 | some (.own xs n)=>τ.set i (.frz (.lst xs) n)
 | some (.owd b xs n)=>τ.set i (.frz (b.pv xs) n)
 | _=>τ
noncomputable def bD(cap:List Nat)(τ:En):En:=cap.foldl jm τ
noncomputable def jP(o:Bool)(i:Nat)(r:RV)(τ:En):Option En :=
 match o,r with
 | true,.own xs n=>some (τ.set i (.own xs n))
 | true,.owd b xs n=>some (τ.set i (.owd b xs n))
 | _,r=>r.keep.map fun(v,n)=>τ.set i (.frz v n)
noncomputable def bZ(n:Bool):List Nat->List PV->En->Option En
 | [],[],τ=>some τ
 | i::is,x::xs,τ=>bZ n is xs (τ.set i (.frz x (n||imm x)))
 | _,_,_=>none
noncomputable def jK(is:List Nat)(one n:Bool)(x:PV)(τ:En):Option En :=
 if one then bZ n is [x] τ else match x with
  | .tup xs=>bZ n is xs τ
  | _=>none
noncomputable def setU(is:List Nat)(n:Bool)(x:PV)(τ:En):Option En:=match x with
 | .tup xs=>bZ n is xs τ
 | .lst xs=>bZ n is xs τ
 | _=>none
noncomputable def gh(set:PV->En->Option En)(body:En->Option Fl):List PV->En->Option Fl
 | [],τ=>some (.nx τ)
 | x::xs,τ=>(set x τ).bind fun τ1=>(body τ1).bind fun f=>match f with
  | .nx τ2=>gh set body xs τ2
  | .ct τ2=>gh set body xs τ2
  | .bk τ2=>some (.nx τ2)
  | .rt v=>some (.rt v)
noncomputable def xJ(c:En->Option Bool)(body:En->Option Fl):Nat->En->Option Fl
 | 0,_=>none
 | k+1,τ=>(c τ).bind fun b=>if b then(body τ).bind fun f=>(match f with
  | .nx τ2=>xJ c body k τ2
  | .ct τ2=>xJ c body k τ2
  | .bk τ2=>some (.nx τ2)
  | .rt v=>some (.rt v))else some (.nx τ)
variable(fu:Nat)
mutual
noncomputable def eG:IS->En->Option Fl
 | .asg i o cap e,τ=>let τ1:=bD cap τ;(aU cd e τ1).bind fun r=>(jP o i r τ1).map .nx
 | .ret cap e,τ=>let τ1:=bD cap τ;(aU cd e τ1).bind fun r=>r.keep.bind fun(v,n)=>if n then some (.rt v)else none
 | .retN,_=>some (.rt .non)
 | .ife c a b,τ=>(dS cd c τ).bind fun r=>if r then bI a τ else bI b τ
 | .forr is one cap src body,τ=>let τ1:=bD cap τ;(jy cd src τ1).bind fun(xs,n,b)=>if b then none else gh (jK is one n) (fun τ=>bI body τ) xs τ1
 | .whil c body,τ=>xJ (fun τ=>dS cd c τ) (fun τ=>bI body τ) fu τ
 | .pass,τ=>some (.nx τ)
 | .brk,τ=>some (.bk τ)
 | .cont,τ=>some (.ct τ)
 | .app i cap e,τ=>let τ1:=bD cap τ;(aU cd e τ1).bind fun r=>r.keep.bind fun(v,m)=>match τ1[i]? with
  | some (.own xs n)=>if xs.length<LN then some (.nx (τ1.set i (.own (xs++[v]) (n&&m))))else none
  | _=>none
 | .ins i k e,τ=>(aU cd k τ).bind fun x=>(aU cd e τ).bind fun r=>r.keep.bind fun(v,m)=>match x.val,τ[i]? with
  | .int j,some (.own xs n)=>if 0<=j/\j<=xs.length/\xs.length<LN then some (.nx (τ.set i (.own (xs.take j.toNat++v::xs.drop j.toNat) (n&&m))))else none
  | _,_=>none
 | .drop e,τ=>(aU cd e τ).map fun _=>.nx τ
 | .hand m g,τ=>(g ((τ.take m).map TV.valD)).map .rt
 | .never,_=>none
noncomputable def bI:qK->En->Option Fl
 | .nil,τ=>some (.nx τ)
 | .cons s ss,τ=>(eG s τ).bind fun f=>gF f (fun τ1=>bI ss τ1)
end
end
structure FD where
 nn:Nat
 np:Nat
 body:qK
noncomputable def entry(d:FD)(vs:List PV):En:=vs.map (fun v=>.frz v (imm v))++List.replicate (d.nn-vs.length) .un
noncomputable def c0:Option Fl->Option PV
 | some (.rt v)=>some v
 | some (.nx _)=>some .non
 | _=>none
noncomputable def aC(P:Nat->Option FD):Nat->Nat->List PV->Option PV
 | 0,_,_=>none
 | k+1,f,vs=>(P f).bind fun d=>if vs.length=d.np then c0 (bI (aC P k) 1000000 d.body (entry d vs))else none
section
set_option autoImplicit true
set_option relaxedAutoImplicit true
variable{cd:Nat->List PV->Option PV}{fu:Nat}{τ:En}
theorem cI:aU cd (.con v) τ=(some (sc v)):=rfl
theorem b8:aU cd (.var i) τ=(ml τ i):=rfl
theorem cL:aU cd (.bin op a b) τ=((aU cd a τ).bind fun x=>(aU cd b τ).bind fun y=>bX op x y):=rfl
theorem cQ:aU cd (.neg a) τ=((aU cd a τ).bind fun x=>(zL x.val).map fun i=>sc (.int (-i))):=rfl
theorem cJ:aU cd (.cmp op a b) τ=((aU cd a τ).bind fun x=>(aU cd b τ).bind fun y=>(bE op x.val y.val).map fun r=>sc (.bl r)):=rfl
theorem cN:aU cd (.and a b) τ=((aU cd a τ).bind fun x=>(fQ x.val).bind fun t=>if t then aU cd b τ else some (sc (.bl false))):=rfl
theorem cB:aU cd (.or a b) τ=((aU cd a τ).bind fun x=>(fQ x.val).bind fun t=>if t then some (sc (.bl true))else aU cd b τ):=rfl
theorem cC:aU cd (.not a) τ=((aU cd a τ).bind fun x=>(fQ x.val).map fun b=>sc (.bl !b)):=rfl
theorem cR:aU cd (.ite c a b) τ=((dS cd c τ).bind fun r=>if r then aU cd a τ else aU cd b τ):=rfl
theorem cK:aU cd (.call f es) τ=((cZ cd es τ).bind fun rs=>(cd f (rs.map RV.val)).map hV):=rfl
theorem cM:aU cd (.bf f es) τ=((cZ cd es τ).bind fun rs=>i9 f rs):=rfl
theorem cD:aU cd (.mth m o es) τ=((aU cd o τ).bind fun x=>(cZ cd es τ).bind fun rs=>jY m x rs):=rfl
theorem cE:aU cd (.lst es) τ=((cZ cd es τ).bind fun rs=>(keeps rs).bind fun(vs,n)=>kX vs n):=rfl
theorem b9:aU cd (.tup es) τ=((cZ cd es τ).bind fun rs=>(keeps rs).bind fun(vs,n)=>jX vs n):=rfl
theorem cS:aU cd (.dnew) τ=(some (.owd (.dK []) [] true)):=rfl
theorem cT:aU cd (.dlit k e) τ=((aU cd e τ).bind fun r=>r.keep.bind fun(v,_)=>if imm v then some (.owd (.dK [k]) [v] true)else none):=rfl
theorem cH:aU cd (.ix a i) τ=((aU cd a τ).bind fun x=>(aU cd i τ).bind fun y=>index x y):=rfl
theorem cA:aU cd (.sl a lo hi) τ=((aU cd a τ).bind fun x=>(zf cd lo τ).bind fun l=>(zf cd hi τ).bind fun h=>(km l).bind fun l' =>(km h).bind fun h' =>slice x l' h'):=rfl
theorem cG:aU cd (.lc elt src ifs caps) τ=((jy cd src τ).bind fun(xs,n,_)=>if xs.length<=LN then(bN (fun x=>(el cd ifs (.frz x (n||imm x)::caps.map fun i=>τ.getD i .un)).bind fun b =>
   if b then(aU cd elt (.frz x (n||imm x)::caps.map fun i=>τ.getD i .un)).bind fun r=>r.keep.map some else some none) xs).map fun(vs,m)=>.own vs m else none):=rfl
theorem cF:aU cd (.lc2 elt src ifs caps) τ=((jy cd src τ).bind fun(xs,n,_)=>if xs.length<=LN then(bN (fun x=>(d7 x).bind fun(a,b)=>(el cd ifs (.frz a (n||imm a)::.frz b (n||imm b)::caps.map fun i=>τ.getD i .un)).bind fun t =>
   if t then(aU cd elt (.frz a (n||imm a)::.frz b (n||imm b)::caps.map fun i=>τ.getD i .un)).bind fun r=>r.keep.map some else some none) xs).map fun(vs,m)=>.own vs m else none):=rfl
theorem cP:aU cd (.never) τ=(none):=rfl
theorem uc:cZ cd (.nil) τ=(some []):=rfl
theorem ud:cZ cd (.cons e es) τ=((aU cd e τ).bind fun x=>(cZ cd es τ).map (x::·)):=rfl
theorem z0t:zf cd (.no) τ=(some none):=rfl
theorem z0u:zf cd (.yes e) τ=((aU cd e τ).map some):=rfl
theorem qX:dS cd (.val e) τ=((aU cd e τ).bind fun x=>j9 x.val):=rfl
theorem qZ:dS cd (.not c) τ=((dS cd c τ).map (!·)):=rfl
theorem qa:dS cd (.and c d) τ=((dS cd c τ).bind fun r=>if r then dS cd d τ else some false):=rfl
theorem qY:dS cd (.or c d) τ=((dS cd c τ).bind fun r=>if r then some true else dS cd d τ):=rfl
theorem xm:el cd (.no) τ=(some true):=rfl
theorem xl:el cd (.yes c) τ=(dS cd c τ):=rfl
theorem xF:jy cd (.seq e) τ=((aU cd e τ).bind iU):=rfl
theorem xG:jy cd (.rng es) τ=((cZ cd es τ).bind fun rs=>(dN rs).map fun xs=>(xs,true,false)):=rfl
theorem xE:jy cd (.zip a b) τ=((aU cd a τ).bind fun x=>(aU cd b τ).bind fun y=>(qM x y).map fun(xs,n)=>(xs,n,false)):=rfl
theorem xH:jy cd (.enum a) τ=((aU cd a τ).bind fun x=>(gp x).map fun(xs,n)=>(xs,n,false)):=rfl
theorem xk:jy cd (.never) τ=(none):=rfl
theorem fo:eG cd fu (.asg i o cap e) τ=(let τ1:=bD cap τ;(aU cd e τ1).bind fun r=>(jP o i r τ1).map .nx):=rfl
theorem fZ:eG cd fu (.ret cap e) τ=(let τ1:=bD cap τ;(aU cd e τ1).bind fun r=>r.keep.bind fun(v,n)=>if n then some (.rt v)else none):=rfl
theorem fY:eG cd fu (.retN) τ=(some (.rt .non)):=rfl
theorem fg:eG cd fu (.ife c a b) τ=((dS cd c τ).bind fun r=>if r then bI cd fu a τ else bI cd fu b τ):=rfl
theorem fi:eG cd fu (.forr is one cap src body) τ=(let τ1:=bD cap τ;(jy cd src τ1).bind fun(xs,n,b)=>if b then none else gh (jK is one n) (fun τ=>bI cd fu body τ) xs τ1):=rfl
theorem fX:eG cd fu (.whil c body) τ=(xJ (fun τ=>dS cd c τ) (fun τ=>bI cd fu body τ) fu τ):=rfl
theorem fc:eG cd fu (.pass) τ=(some (.nx τ)):=rfl
theorem fm:eG cd fu (.brk) τ=(some (.bk τ)):=rfl
theorem fk:eG cd fu (.cont) τ=(some (.ct τ)):=rfl
theorem fq:eG cd fu (.app i cap e) τ=(let τ1:=bD cap τ;(aU cd e τ1).bind fun r=>r.keep.bind fun(v,m)=>match τ1[i]? with
  | some (.own xs n)=>if xs.length<LN then some (.nx (τ1.set i (.own (xs++[v]) (n&&m))))else none
  | _=>none):=rfl
theorem ff:eG cd fu (.ins i k e) τ=((aU cd k τ).bind fun x=>(aU cd e τ).bind fun r=>r.keep.bind fun(v,m)=>match x.val,τ[i]? with
  | .int j,some (.own xs n)=>if 0<=j/\j<=xs.length/\xs.length<LN then some (.nx (τ.set i (.own (xs.take j.toNat++v::xs.drop j.toNat) (n&&m))))else none
  | _,_=>none):=rfl
theorem fj:eG cd fu (.drop e) τ=((aU cd e τ).map fun _=>.nx τ):=rfl
theorem fh:eG cd fu (.hand m g) τ=((g ((τ.take m).map TV.valD)).map .rt):=rfl
theorem fe:eG cd fu (.never) τ=(none):=rfl
theorem uY:bI cd fu (.nil) τ=(some (.nx τ)):=rfl
theorem uZ:bI cd fu (.cons s ss) τ=((eG cd fu s τ).bind fun f=>gF f (fun τ1=>bI cd fu ss τ1)):=rfl
end
end IR
namespace IR
open PySem PySem.Spec PyProof.Rows L2
noncomputable def del(H:Hp)(p:Addr):Hp:=fun b=>if b=p then none else H b
noncomputable def aN(H:Hp)(O:List Addr):Hp:=fun b=>if b∈O then none else H b
theorem dA{H H' :Hp}{p:Addr}(s:aA H H'):aA (del H p) (del H' p):=fun b o e=>by
 unfold del at e ⊢
 split at e
 ·cases e
 ·rename_i h
  rw[Ci h];exact s b o e
theorem aF{H H' :Hp}{O:List Addr}(s:aA H H'):aA (aN H O) (aN H' O):=fun b o e=>by
 unfold aN at e ⊢
 split at e
 ·cases e
 ·rename_i h
  rw[Ci h];exact s b o e
theorem al{H:Hp}{p:Addr}:aA (del H p) H:=fun b o e=>by
 unfold del at e
 split at e
 ·cases e
 ·exact e
theorem aO{H:Hp}{O:List Addr}:aA (aN H O) H:=fun b o e=>by
 unfold aN at e
 split at e
 ·cases e
 ·exact e
theorem oH{H:Hp}{O O' :List Addr}(h:∀b∈O',b∈O):aA (aN H O) (aN H O'):=fun b o e=>by
 unfold aN at e ⊢
 split at e
 ·cases e
 ·rename_i n
  rw[Ci fun z=>n (h b z)];exact e
theorem wI{H:Hp}:aN H []=H:=by funext b;unfold aN;simp
section
variable(K:W.Frag)(Hi:Hp)
mutual
noncomputable def Rp(n:Bool):PV->Hp->V->Prop
 | .non,_,u=>u=.non
 | .bl b,_,u=>u=.bl b
 | .int i,_,u=>u=.int i
 | .str z,_,u=>u=.str z
 | .lst xs,H,u=>∃p us,u=.ref p/\(n=true->Hi p=none/\H p=some (.lst us))/\ar K H p us/\aE n xs (del H p) us
 | .tup xs,H,u=>∃p us,u=.ref p/\bL K H p us/\aE n xs H us
 | .dK ks vs,H,u=>∃p us,u=.ref p/\(n=true->Hi p=none)/\H p=some (.dK (ks.zip us))/\ks.length=us.length/\aE n vs (del H p) us
 | .dT ks vs,H,u=>∃p us,u=.ref p/\(n=true->Hi p=none)/\H p=some (.dT (ks.zip us))/\ks.length=us.length/\aE n vs (del H p) us
noncomputable def aE(n:Bool):List PV->Hp->List V->Prop
 | [],_,us=>us=[]
 | x::xs,H,us=>∃u r,us=u::r/\Rp n x H u/\aE n xs H r
end
end
section
variable{K:W.Frag}{Hi:Hp}
mutual
theorem Rp.mono{n:Bool}:∀{v:PV}{H H' :Hp}{u:V},aA H H' ->Rp K Hi n v H u->Rp K Hi n v H' u
 | .non,_,_,_,_,h=>by unfold Rp at h ⊢;exact h
 | .bl _,_,_,_,_,h=>by unfold Rp at h ⊢;exact h
 | .int _,_,_,_,_,h=>by unfold Rp at h ⊢;exact h
 | .str _,_,_,_,_,h=>by unfold Rp at h ⊢;exact h
 | .lst xs,_,_,_,s,h=>by
  unfold Rp at h ⊢;obtain⟨p,us,e,q,l,r⟩:=h;exact⟨p,us,e,fun z=>⟨(q z).1,s _ _ (q z).2⟩,s.seq l,aE.mono (dA s) r⟩
 | .tup xs,_,_,_,s,h=>by
  unfold Rp at h ⊢;obtain⟨p,us,e,l,r⟩:=h;exact⟨p,us,e,s.tup l,aE.mono s r⟩
 | .dK ks vs,_,_,_,s,h=>by
  unfold Rp at h ⊢;obtain⟨p,us,e,q,l,z,r⟩:=h;exact⟨p,us,e,q,s _ _ l,z,aE.mono (dA s) r⟩
 | .dT ks vs,_,_,_,s,h=>by
  unfold Rp at h ⊢;obtain⟨p,us,e,q,l,z,r⟩:=h;exact⟨p,us,e,q,s _ _ l,z,aE.mono (dA s) r⟩
theorem aE.mono{n:Bool}:∀{xs:List PV}{H H' :Hp}{us:List V},aA H H' ->aE K Hi n xs H us->aE K Hi n xs H' us
 | [],_,_,_,_,h=>by unfold aE at h ⊢;exact h
 | x::xs,_,_,_,s,h=>by
  unfold aE at h ⊢;obtain⟨u,r,e,a,b⟩:=h;exact⟨u,r,e,Rp.mono s a,aE.mono s b⟩
end
mutual
theorem Rp.weak{n:Bool}:∀{v:PV}{H:Hp}{u:V},Rp K Hi n v H u->Rp K Hi false v H u
 | .non,_,_,h=>by unfold Rp at h ⊢;exact h
 | .bl _,_,_,h=>by unfold Rp at h ⊢;exact h
 | .int _,_,_,h=>by unfold Rp at h ⊢;exact h
 | .str _,_,_,h=>by unfold Rp at h ⊢;exact h
 | .lst xs,_,_,h=>by
  unfold Rp at h ⊢;obtain⟨p,us,e,q,l,r⟩:=h;exact⟨p,us,e,(fun z=>absurd z Cg),l,aE.weak r⟩
 | .tup xs,_,_,h=>by
  unfold Rp at h ⊢;obtain⟨p,us,e,l,r⟩:=h;exact⟨p,us,e,l,aE.weak r⟩
 | .dK ks vs,_,_,h=>by
  unfold Rp at h ⊢;obtain⟨p,us,e,q,l,z,r⟩:=h;exact⟨p,us,e,(fun z=>absurd z Cg),l,z,aE.weak r⟩
 | .dT ks vs,_,_,h=>by
  unfold Rp at h ⊢;obtain⟨p,us,e,q,l,z,r⟩:=h;exact⟨p,us,e,(fun z=>absurd z Cg),l,z,aE.weak r⟩
theorem aE.weak{n:Bool}:∀{xs:List PV}{H:Hp}{us:List V},aE K Hi n xs H us->aE K Hi false xs H us
 | [],_,_,h=>by unfold aE at h ⊢;exact h
 | x::xs,_,_,h=>by
  unfold aE at h ⊢;obtain⟨u,r,e,a,b⟩:=h;exact⟨u,r,e,Rp.weak a,aE.weak b⟩
end
theorem Rp.low{n m:Bool}{v:PV}{H:Hp}{u:V}(h:Rp K Hi n v H u)(e:m=true->n=true):Rp K Hi m v H u:=by
 cases n with
 | true=>cases m with
  | true=>exact h
  | false=>exact h.weak
 | false=>cases m with
  | true=>cases e rfl
  | false=>exact h
theorem aE.low{n m:Bool}{v:List PV}{H:Hp}{u:List V}(h:aE K Hi n v H u)(e:m=true->n=true):aE K Hi m v H u:=by
 cases n with
 | true=>cases m with
  | true=>exact h
  | false=>exact h.weak
 | false=>cases m with
  | true=>cases e rfl
  | false=>exact h
mutual
theorem Rp.entry{Hj:Hp}{n:Bool}(k:n=true->∀p,Hi p=none->Hj p=none):∀{v:PV}{H:Hp}{u:V},Rp K Hi n v H u->Rp K Hj n v H u
 | .non,_,_,h=>by unfold Rp at h ⊢;exact h
 | .bl _,_,_,h=>by unfold Rp at h ⊢;exact h
 | .int _,_,_,h=>by unfold Rp at h ⊢;exact h
 | .str _,_,_,h=>by unfold Rp at h ⊢;exact h
 | .lst xs,_,_,h=>by
  unfold Rp at h ⊢;obtain⟨p,us,e,q,l,r⟩:=h;exact⟨p,us,e,fun z=>⟨k z _ (q z).1,(q z).2⟩,l,aE.entry k r⟩
 | .tup xs,_,_,h=>by
  unfold Rp at h ⊢;obtain⟨p,us,e,l,r⟩:=h;exact⟨p,us,e,l,aE.entry k r⟩
 | .dK ks vs,_,_,h=>by
  unfold Rp at h ⊢;obtain⟨p,us,e,q,l,z,r⟩:=h;exact⟨p,us,e,fun z=>k z _ (q z),l,z,aE.entry k r⟩
 | .dT ks vs,_,_,h=>by
  unfold Rp at h ⊢;obtain⟨p,us,e,q,l,z,r⟩:=h;exact⟨p,us,e,fun z=>k z _ (q z),l,z,aE.entry k r⟩
theorem aE.entry{Hj:Hp}{n:Bool}(k:n=true->∀p,Hi p=none->Hj p=none):∀{xs:List PV}{H:Hp}{us:List V},aE K Hi n xs H us->aE K Hj n xs H us
 | [],_,_,h=>by unfold aE at h ⊢;exact h
 | x::xs,_,_,h=>by
  unfold aE at h ⊢;obtain⟨u,r,e,a,b⟩:=h;exact⟨u,r,e,Rp.entry k a,aE.entry k b⟩
end
noncomputable def nR(H G:Hp):Prop:=(∀b xs,H b=some (.tup xs)->G b=some (.tup xs))/\∀b o xs,H b=some (.frz o (.tup xs))->G b=some (.frz o (.tup xs))
theorem nR.at{H G:Hp}(t:nR H G){p:Addr}{xs:List V}(h:bL K H p xs):bL K G p xs:=by
 rcases h with(h|⟨o,h⟩)|h
 ·exact .inl (.inl (t.1 _ _ h))
 ·exact .inl (.inr ⟨o,t.2 _ _ _ h⟩)
 ·exact .inr h
mutual
theorem Rp.imm{n m:Bool}:∀{v:PV}{H G:Hp}{u:V},imm v=true->nR H G->Rp K Hi n v H u->Rp K Hi m v G u
 | .non,_,_,_,_,_,h=>by unfold Rp at h ⊢;exact h
 | .bl _,_,_,_,_,_,h=>by unfold Rp at h ⊢;exact h
 | .int _,_,_,_,_,_,h=>by unfold Rp at h ⊢;exact h
 | .str _,_,_,_,_,_,h=>by unfold Rp at h ⊢;exact h
 | .lst xs,_,_,_,i,_,h=>by unfold IR.imm at i;cases i
 | .tup xs,_,_,_,i,t,h=>by
  unfold Rp at h ⊢;unfold IR.imm at i;obtain⟨p,us,e,l,r⟩:=h;exact⟨p,us,e,t.at l,aE.imm i t r⟩
 | .dK ks vs,_,_,_,i,_,h=>by unfold IR.imm at i;cases i
 | .dT ks vs,_,_,_,i,_,h=>by unfold IR.imm at i;cases i
theorem aE.imm{n m:Bool}:∀{xs:List PV}{H G:Hp}{us:List V},imms xs=true->nR H G->aE K Hi n xs H us->aE K Hi m xs G us
 | [],_,_,_,_,_,h=>by unfold aE at h ⊢;exact h
 | x::xs,_,_,_,i,t,h=>by
  unfold aE at h ⊢;unfold imms at i;rw[CZ]at i;obtain⟨u,r,e,a,b⟩:=h;exact⟨u,r,e,Rp.imm i.1 t a,aE.imm i.2 t b⟩
end
theorem Rp.up{n:Bool}{v:PV}{H:Hp}{u:V}(h:Rp K Hi n v H u):Rp K Hi (n||IR.imm v) v H u:=by
 cases e:IR.imm v with
 | true=>rw[Bool.or_true];exact Rp.imm e ⟨fun _ _ e=>e,fun _ _ _ e=>e⟩ h
 | false=>rw[Bool.or_false];exact h
theorem aE.up{n:Bool}{v:List PV}{H:Hp}{u:List V}(h:aE K Hi n v H u):aE K Hi (n||IR.imms v) v H u:=by
 cases e:IR.imms v with
 | true=>rw[Bool.or_true];exact aE.imm e ⟨fun _ _ e=>e,fun _ _ _ e=>e⟩ h
 | false=>rw[Bool.or_false];exact h
theorem aE.len{n:Bool}:∀{xs:List PV}{H:Hp}{us:List V},aE K Hi n xs H us->xs.length=us.length
 | [],_,_,h=>by unfold aE at h;rw[h];rfl
 | x::xs,_,_,h=>by
  unfold aE at h;obtain⟨u,r,e,a,b⟩:=h;rw[e,C3,C3,aE.len b]
theorem aE.at{n:Bool}:∀{xs:List PV}{H:Hp}{us:List V}{i:Nat}{x:PV},aE K Hi n xs H us->xs[i]? =some x->∃u,us[i]? =some u/\Rp K Hi n x H u
 | [],_,_,_,_,h,e=>by simp at e
 | y::xs,_,_,i,x,h,e=>by
  unfold aE at h;obtain⟨u,r,rfl,a,b⟩:=h;cases i with
  | zero=>simp at e;subst e;exact⟨u,by simp,a⟩
  | succ i=>simpa using aE.at (i:=i) (x:=x) b (by simpa using e)
theorem aE.at'{n:Bool}:∀{xs:List PV}{H:Hp}{us:List V}{i:Nat}{u:V},aE K Hi n xs H us->us[i]? =some u->∃x,xs[i]? =some x/\Rp K Hi n x H u
 | [],_,_,_,_,h,e=>by unfold aE at h;subst h;simp at e
 | y::xs,_,_,i,x,h,e=>by
  unfold aE at h;obtain⟨u,r,rfl,a,b⟩:=h;cases i with
  | zero=>simp at e;subst e;exact⟨y,by simp,a⟩
  | succ i=>simpa using aE.at' (i:=i) (u:=x) b (by simpa using e)
theorem aE.nil{n:Bool}{H:Hp}:aE K Hi n [] H []:=by unfold aE;rfl
theorem aE.cons{n:Bool}{x:PV}{xs:List PV}{H:Hp}{u:V}{us:List V}(a:Rp K Hi n x H u)(b:aE K Hi n xs H us):aE K Hi n (x::xs) H (u::us):=by unfold aE;exact⟨u,us,rfl,a,b⟩
theorem aE.app{n:Bool}:∀{xs ys:List PV}{H:Hp}{us vs:List V},aE K Hi n xs H us->aE K Hi n ys H vs->aE K Hi n (xs++ys) H (us++vs)
 | [],_,_,_,_,h,g=>by unfold aE at h;subst h;exact g
 | x::xs,_,_,_,_,h,g=>by
  unfold aE at h;obtain⟨u,r,rfl,a,b⟩:=h;exact .cons a (aE.app b g)
theorem aE.take{n:Bool}:∀{xs:List PV}{H:Hp}{us:List V}(k:Nat),aE K Hi n xs H us->aE K Hi n (xs.take k) H (us.take k)
 | [],_,_,_,h=>by unfold aE at h;subst h;simp;exact .nil
 | x::xs,_,_,k,h=>by
  unfold aE at h;obtain⟨u,r,rfl,a,b⟩:=h;cases k with
  | zero=>exact .nil
  | succ k=>exact .cons a (aE.take k b)
theorem aE.drop{n:Bool}:∀{xs:List PV}{H:Hp}{us:List V}(k:Nat),aE K Hi n xs H us->aE K Hi n (xs.drop k) H (us.drop k)
 | [],_,_,_,h=>by unfold aE at h;subst h;simp;exact .nil
 | x::xs,_,_,k,h=>by
  unfold aE at h;obtain⟨u,r,rfl,a,b⟩:=h;cases k with
  | zero=>exact .cons a b
  | succ k=>exact aE.drop k b
theorem aE.set{n:Bool}:∀{xs:List PV}{H:Hp}{us:List V}(k:Nat){x:PV}{u:V},aE K Hi n xs H us->Rp K Hi n x H u->aE K Hi n (xs.set k x) H (us.set k u)
 | [],_,_,_,_,_,h,_=>by unfold aE at h;subst h;exact .nil
 | y::xs,_,_,k,_,_,h,g=>by
  unfold aE at h;obtain⟨u,r,rfl,a,b⟩:=h;cases k with
  | zero=>exact .cons g b
  | succ k=>exact .cons a (aE.set k b g)
theorem Rp.int{n:Bool}{i:Int}{H:Hp}{u:V}:Rp K Hi n (.int i) H u↔u=.int i:=by unfold Rp;rfl
theorem Rp.str{n:Bool}{i:Str}{H:Hp}{u:V}:Rp K Hi n (.str i) H u↔u=.str i:=by unfold Rp;rfl
theorem Rp.bl{n:Bool}{i:Bool}{H:Hp}{u:V}:Rp K Hi n (.bl i) H u↔u=.bl i:=by unfold Rp;rfl
theorem Rp.non{n:Bool}{H:Hp}{u:V}:Rp K Hi n .non H u↔u=.non:=by unfold Rp;rfl
theorem Rp.tup{n:Bool}{xs:List PV}{H:Hp}{u:V}:Rp K Hi n (.tup xs) H u↔∃p us,u=.ref p/\bL K H p us/\aE K Hi n xs H us:=by rw[Rp]
theorem Rp.lst{n:Bool}{xs:List PV}{H:Hp}{u:V}:Rp K Hi n (.lst xs) H u↔∃p us,u=.ref p/\(n=true->Hi p=none/\H p=some (.lst us))/\ar K H p us/\aE K Hi n xs (del H p) us:=by rw[Rp]
theorem aE.ints{n:Bool}{H:Hp}:∀{xs:List Int}{us:List V},aE K Hi n (xs.map PV.int) H us↔us=xs.map V.int
 | [],us=>by unfold aE;rfl
 | x::xs,us=>by
  rw[Cq,Cq,aE]
  constructor
  ·rintro⟨u,r,rfl,a,b⟩
   rw[Rp.int.mp a,aE.ints.mp b]
  ·rintro rfl
   exact⟨_,_,rfl,Rp.int.mpr rfl,aE.ints.mpr rfl⟩
noncomputable def At:Bd->List V->HO->Prop
 | .lst,us,o=>o=.lst us
 | .dK ks,us,o=>o=.dK (ks.zip us)/\ks.length=us.length
 | .dT ks,us,o=>o=.dT (ks.zip us)/\ks.length=us.length
noncomputable def Mo(o:HO):Prop:=∃b us,At b us o
theorem Mo.lst{us:List V}:Mo (.lst us):=⟨.lst,us,rfl⟩
theorem Mo.tup{xs:List V}(h:Mo (.tup xs)):False:=by
 obtain⟨b,us,h⟩:=h;cases b with
 | lst=>cases h
 | dK ks=>cases h.1
 | dT ks=>cases h.1
variable(K Hi)in
structure aX(O:List Addr)(τ:En)(σ:L2.St)(H:Hp):Prop where
 same:aA Hi H
 own:∀l∈O,Hi l=none/\∃o,H l=some o/\Mo o
 frz:∀(i:Nat)(v:PV)(n:Bool),τ[i]? =some (.frz v n)->∃u,σ[i]? =some (some u)/\Rp K Hi n v (aN H O) u
 obs:∀(i:Nat)(t:TV)(b:Bd)(xs:List PV)(n:Bool),τ[i]? =some t->t.ob=some (b,xs,n)->∃l us o,σ[i]? =some (some (.ref l))/\l∈O/\H l=some o/\At b us o/\aE K Hi n xs (aN H O) us
 dst:∀(i j:Nat)(t t' :TV)(x y:Bd×List PV×Bool)(l:Addr),τ[i]? =some t->t.ob=some x->τ[j]? =some t' ->t'.ob=some y->σ[i]? =some (some (.ref l))->σ[j]? =some (some (.ref l))->i=j
section
variable{O:List Addr}{τ:En}{σ:L2.St}{H H' :Hp}
theorem aX.owns(R:aX K Hi O τ σ H)(i:Nat)(xs:List PV)(n:Bool)(e:τ[i]? =some (.own xs n)):∃l us,σ[i]? =some (some (.ref l))/\l∈O/\H l=some (.lst us)/\aE K Hi n xs (aN H O) us:=by
 obtain⟨l,us,o,h1,h2,h3,h4,h5⟩:=R.obs i _ .lst xs n e rfl;cases h4;exact⟨l,us,h1,h2,h3,h5⟩
theorem aX.ext(R:aX K Hi O τ σ H)(s:aA H H'):aX K Hi O τ σ H' where
 same:=R.same.trans s
 own:=fun l hl=>⟨(R.own l hl).1,by obtain⟨o,e,m⟩:=(R.own l hl).2;exact⟨o,s _ _ e,m⟩⟩
 frz:=fun i v n e=>by obtain⟨u,h1,h2⟩:=R.frz i v n e;exact⟨u,h1,h2.mono (aF s)⟩
 obs:=fun i t b xs n e ht=>by obtain⟨l,us,o,h1,h2,h3,h4,h5⟩:=R.obs i t b xs n e ht;exact⟨l,us,o,h1,h2,s _ _ h3,h4,h5.mono (aF s)⟩
 dst:=R.dst
theorem aX.tups(R:aX K Hi O τ σ H):nR H (aN H O):=by
 refine⟨fun b xs e=> ?_,fun b o xs e=> ?_⟩
 ·unfold aN
  rw[Ci fun z=> ?_]
  ·exact e
  ·obtain⟨us,e',m⟩:=(R.own b z).2
   rw[e]at e';cases e';exact m.tup
 ·unfold aN
  rw[Ci fun z=> ?_]
  ·exact e
  ·obtain⟨us,e',m⟩:=(R.own b z).2
   rw[e]at e';cases e';obtain⟨b,us,m⟩:=m;cases b with
   | lst=>cases m
   | dK ks=>cases m.1
   | dT ks=>cases m.1
theorem aY{α:Type}{l:List α}{i j:Nat}{x y:α}(h:(l.set i x)[j]? =some y):(i=j/\y=x)\/(i≠j/\l[j]? =some y):=by
 rw[List.getElem?_set]at h
 split at h
 ·rename_i e
  split at h
  ·exact .inl ⟨e,(Cw h).symm⟩
  ·cases h
 ·rename_i e
  exact .inr ⟨e,h⟩
theorem aX.setF(R:aX K Hi O τ σ H){i:Nat}{v:PV}{n:Bool}{u:V}(hi:i<σ.length)(r:Rp K Hi n v (aN H O) u):aX K Hi O (τ.set i (.frz v n)) (σ.set i (some u)) H where
 same:=R.same
 own:=R.own
 frz:=fun j w m e=>by
  rcases aY e with⟨rfl,e'⟩|⟨ne,e'⟩
  ·cases e'
   exact⟨u,by rw[DE hi],r⟩
  ·obtain⟨u',h1,h2⟩:=R.frz j w m e'
   exact⟨u',by rw[Cr ne];exact h1,h2⟩
 obs:=fun j t b xs m e ht=>by
  rcases aY e with⟨rfl,e'⟩|⟨ne,e'⟩
  ·subst e'
   cases ht
  ·obtain⟨l,us,o,h1,h2⟩:=R.obs j t b xs m e' ht
   exact⟨l,us,o,by rw[Cr ne];exact h1,h2⟩
 dst:=fun a b t t' x y l e1 ht e2 ht' h1 h2=>by
  rcases aY e1 with⟨_,z⟩|⟨ne1,z1⟩
  ·subst z
   cases ht
  ·rcases aY e2 with⟨_,z⟩|⟨ne2,z2⟩
   ·subst z
    cases ht'
   ·rw[Cr ne1]at h1
    rw[Cr ne2]at h2;exact R.dst a b t t' x y l z1 ht z2 ht' h1 h2
theorem aX.setB(R:aX K Hi O τ σ H){i:Nat}{t0:TV}{b0:Bd}{xs:List PV}{n:Bool}{p:Addr}{us:List V}{o:HO}(hob:t0.ob=some (b0,xs,n))(hi:i<σ.length)(s:aA H H')(h0:H p=none)(h1:H' p=some o)(ha:At b0 us o)(r:aE K Hi n xs (aN H' (p::O)) us) :
  aX K Hi (p::O) (τ.set i t0) (σ.set i (some (.ref p))) H' :=by
 have hs:aA (aN H O) (aN H' (p::O)):=fun b o e=>by
  unfold aN at e ⊢
  split at e
  ·cases e
  ·rename_i nb
   have ne:b≠p:=aH e h0;rw[Ci (by simp[ne,nb])];exact s b o e
 have hn:Hi p=none:=R.same.free h0;refine⟨R.same.trans s,fun l hl=> ?_,fun j w m e=> ?_,fun j t b ys m e ht=> ?_,fun a b t t' x y l e1 ht e2 ht' g1 g2=> ?_⟩
 ·rcases Co.mp hl with rfl|hl
  ·exact⟨hn,o,h1,_,_,ha⟩
  ·obtain⟨q,vs,e,m⟩:=R.own l hl
   exact⟨q,vs,s _ _ e,m⟩
 ·rcases aY e with⟨rfl,e'⟩|⟨ne,e'⟩
  ·rw[<- e']at hob
   cases hob
  ·obtain⟨u',g1,g2⟩:=R.frz j w m e'
   exact⟨u',by rw[Cr ne];exact g1,g2.mono hs⟩
 ·rcases aY e with⟨rfl,e'⟩|⟨ne,e'⟩
  ·subst e'
   rw[hob]at ht;cases ht;exact⟨p,us,o,by rw[DE hi],Cv,h1,ha,r⟩
  ·obtain⟨l,vs,o',g1,g2,g3,g4,g5⟩:=R.obs j t b ys m e' ht
   exact⟨l,vs,o',by rw[Cr ne];exact g1,Cj _ g2,s _ _ g3,g4,g5.mono hs⟩
 ·have old:∀(c:Nat)(t:TV)(x:Bd×List PV×Bool),τ[c]? =some t->t.ob=some x->σ[c]? =some (some (.ref l))->l≠p:=fun c t x e ht g=>by
   obtain⟨b',zs,q⟩:=x;obtain⟨l',vs,o',q1,q2,q3,_⟩:=R.obs c t b' zs q e ht;rw[q1]at g;cases g;exact aH q3 h0
  rcases aY e1 with⟨rfl,z1⟩|⟨ne1,z1⟩
  ·rw[DE hi]at g1
   cases g1
   rcases aY e2 with⟨rfl,_⟩|⟨ne2,z2⟩
   ·rfl
   ·rw[Cr ne2]at g2
    exact absurd rfl (old b t' y z2 ht' g2)
  ·rw[Cr ne1]at g1
   rcases aY e2 with⟨rfl,z2⟩|⟨ne2,z2⟩
   ·rw[DE hi]at g2
    cases g2;exact absurd rfl (old a t x z1 ht g1)
   ·rw[Cr ne2]at g2
    exact R.dst a b t t' x y l z1 ht z2 ht' g1 g2
theorem aX.setO(R:aX K Hi O τ σ H){i:Nat}{xs:List PV}{n:Bool}{p:Addr}{us:List V}(hi:i<σ.length)(s:aA H H')(h0:H p=none)(h1:H' p=some (.lst us))(r:aE K Hi n xs (aN H' (p::O)) us) :
  aX K Hi (p::O) (τ.set i (.own xs n)) (σ.set i (some (.ref p))) H' :=R.setB (b0:=.lst) rfl hi s h0 h1 rfl r
theorem aX.updB(R:aX K Hi O τ σ H){i:Nat}{t t1:TV}{b b1:Bd}{xs ys:List PV}{n m:Bool}{l:Addr}{us:List V}{o:HO}(e:τ[i]? =some t)(ht:t.ob=some (b,xs,n))(ht1:t1.ob=some (b1,ys,m))(hl:σ[i]? =some (some (.ref l)))(ha:At b1 us o)(r:aE K Hi m ys (aN H O) us) :
  aX K Hi O (τ.set i t1) σ (L2.upd H l o):=by
 obtain⟨l',vs,o',g1,g2,g3,g4,g5⟩:=R.obs i t b xs n e ht;rw[hl]at g1;cases g1;have hh:aN (L2.upd H l o) O=aN H O:=by
  funext b
  unfold aN
  split
  ·rfl
  ·rename_i nb
   exact aD fun z=>nb (z▸g2)
 have hn:=(R.own l g2).1;have hi:i<τ.length:=(Ch.mp e).1;refine⟨fun b o q=> ?_,fun k hk=> ?_,fun j w q z=> ?_,fun j t2 b2 zs q z ht2=> ?_,fun a b t2 t3 x y c e1 h2 e2 h3 k1 k2=> ?_⟩
 ·rw[aD (aH q hn)]
  exact R.same b o q
 ·obtain⟨q,ws,z,mo⟩:=R.own k hk
  refine⟨q,?_⟩
  by_cases c:k=l
  ·subst c
   exact⟨o,aJ,_,_,ha⟩
  ·exact⟨ws,by rw[aD c];exact z,mo⟩
 ·rw[hh]
  rcases aY z with⟨rfl,z'⟩|⟨ne,z'⟩
  ·rw[<- z']at ht1
   cases ht1
  ·exact R.frz j w q z'
 ·rw[hh]
  rcases aY z with⟨rfl,z'⟩|⟨ne,z'⟩
  ·subst z'
   rw[ht1]at ht2;cases ht2;exact⟨l,us,o,hl,g2,aJ,ha,r⟩
  ·obtain⟨l2,ws,o2,q1,q2,q3,q4,q5⟩:=R.obs j t2 b2 zs q z' ht2
   refine⟨l2,ws,o2,q1,q2,?_,q4,q5⟩;rw[aD fun c=> ?_]
   ·exact q3
   ·subst c
    exact ne (R.dst i j t t2 _ _ l2 e ht z' ht2 hl q1)
 ·have back:∀(c:Nat)(t2:TV)(x:Bd×List PV×Bool),(τ.set i t1)[c]? =some t2->t2.ob=some x->∃(t3:TV)(y:Bd×List PV×Bool),τ[c]? =some t3/\t3.ob=some y:=fun c t2 x z h=>by
   rcases aY z with⟨rfl,_⟩|⟨_,z'⟩
   ·exact⟨_,_,e,ht⟩
   ·exact⟨_,_,z',h⟩
  obtain⟨_,_,z1,w1⟩:=back a t2 x e1 h2;obtain⟨_,_,z2,w2⟩:=back b t3 y e2 h3;exact R.dst a b _ _ _ _ c z1 w1 z2 w2 k1 k2
theorem aX.upd(R:aX K Hi O τ σ H){i:Nat}{xs ys:List PV}{n m:Bool}{l:Addr}{us:List V}(e:τ[i]? =some (.own xs n))(hl:σ[i]? =some (some (.ref l)))(r:aE K Hi m ys (aN H O) us) :
  aX K Hi O (τ.set i (.own ys m)) σ (L2.upd H l (.lst us)):=R.updB (b1:=.lst) e rfl rfl hl rfl r
theorem Rp.at{n:Bool}{b:Bd}{xs:List PV}{us:List V}{o:HO}{l:Addr}{G:Hp}(hn:n=true->Hi l=none)(h:G l=some o)(ha:At b us o)(r:aE K Hi n xs (del G l) us):Rp K Hi n (b.pv xs) G (.ref l):=by
 cases b with
 | lst=>cases ha;exact Rp.lst.mpr ⟨l,us,rfl,fun z=>⟨hn z,h⟩,ar.of h,r⟩
 | dK ks =>
  obtain⟨rfl,hl⟩:=ha;show Rp K Hi n (.dK ks xs) G (.ref l);unfold Rp;exact⟨l,us,rfl,hn,h,hl,r⟩
 | dT ks =>
  obtain⟨rfl,hl⟩:=ha;show Rp K Hi n (.dT ks xs) G (.ref l);unfold Rp;exact⟨l,us,rfl,hn,h,hl,r⟩
theorem aX.freezeB(R:aX K Hi O τ σ H){i:Nat}{t:TV}{b0:Bd}{xs:List PV}{n:Bool}(e:τ[i]? =some t)(ht:t.ob=some (b0,xs,n)):∃O',aX K Hi O' (τ.set i (.frz (b0.pv xs) n)) σ H/\∀b∈O',b∈O:=by
 obtain⟨l,us,o,g1,g2,g3,g4,g5⟩:=R.obs i t b0 xs n e ht;refine⟨O.filter fun b=>decide (b≠l),?_,fun b hb=>(EX.mp hb).1⟩;have mem:∀b,b∈O.filter (fun b=>decide (b≠l))↔b∈O/\b≠l:=fun b=>by simp
 have hs:aA (aN H O) (aN H (O.filter fun b=>decide (b≠l))):=oH fun b hb=>((mem b).mp hb).1;have hd:aA (aN H O) (del (aN H (O.filter fun b=>decide (b≠l))) l):=fun b o z=>by
  unfold aN at z
  split at z
  ·cases z
  ·rename_i nb
   have ne:b≠l:=fun c=>nb (c▸g2);unfold del aN;rw[Ci ne,Ci fun c=>nb ((mem b).mp c).1];exact z
 have hl:aN H (O.filter fun b=>decide (b≠l)) l=some o:=by
  unfold aN;rw[Ci fun c=>((mem l).mp c).2 rfl];exact g3
 refine⟨R.same,fun b hb=>R.own b ((mem b).mp hb).1,fun j w m z=> ?_,fun j t2 b2 ys m z ht2=> ?_,fun a b t2 t3 x y c e1 h2 e2 h3 k1 k2=> ?_⟩
 ·rcases aY z with⟨rfl,z'⟩|⟨ne,z'⟩
  ·cases z'
   exact⟨.ref l,g1,Rp.at (fun _=>(R.own l g2).1) hl g4 (g5.mono hd)⟩
  ·obtain⟨u,q1,q2⟩:=R.frz j w m z'
   exact⟨u,q1,q2.mono hs⟩
 ·rcases aY z with⟨rfl,z'⟩|⟨ne,z'⟩
  ·subst z'
   cases ht2
  ·obtain⟨l2,ws,o2,q1,q2,q3,q4,q5⟩:=R.obs j t2 b2 ys m z' ht2
   exact⟨l2,ws,o2,q1,(mem l2).mpr ⟨q2,fun c=>by subst c;exact ne (R.dst i j _ _ _ _ l2 e ht z' ht2 g1 q1)⟩,q3,q4,q5.mono hs⟩
 ·rcases aY e1 with⟨_,z⟩|⟨_,z1⟩
  ·subst z
   cases h2
  ·rcases aY e2 with⟨_,z⟩|⟨_,z2⟩
   ·subst z
    cases h3
   ·exact R.dst a b t2 t3 x y c z1 h2 z2 h3 k1 k2
theorem aX.freeze(R:aX K Hi O τ σ H)(i:Nat):∃O',aX K Hi O' (jm τ i) σ H/\∀b∈O',b∈O:=by
 unfold jm;cases e:τ[i]? with
 | none=>exact⟨O,R,fun b hb=>hb⟩
 | some t =>
  cases t with
  | un=>exact⟨O,R,fun b hb=>hb⟩
  | frz v n=>exact⟨O,R,fun b hb=>hb⟩
  | own xs n=>exact R.freezeB e rfl
  | owd b xs n=>exact R.freezeB e rfl
theorem aX.freezes:∀{cap:List Nat}{O:List Addr}{τ:En},aX K Hi O τ σ H->∃O',aX K Hi O' (bD cap τ) σ H/\∀b∈O',b∈O
 | [],O,_,R=>⟨O,R,fun b hb=>hb⟩
 | i::cap,_,_,R=>by
  obtain⟨O',R',h'⟩:=R.freeze i;obtain⟨O2,R2,h2⟩:=aX.freezes (cap:=cap) R';exact⟨O2,R2,fun b hb=>h' b (h2 b hb)⟩
variable(K Hi)in
noncomputable def aT(O:List Addr)(H H' :Hp):RV->V->Prop
 | .frz v n,u=>Rp K Hi n v (aN H' O) u
 | .bor v,u=>Rp K Hi false v H' u
 | .own xs n,u=>∃p us,u=.ref p/\H p=none/\H' p=some (.lst us)/\aE K Hi n xs (aN (del H' p) O) us
 | .owd b xs n,u=>∃p us o,u=.ref p/\H p=none/\H' p=some o/\At b us o/\aE K Hi n xs (aN (del H' p) O) us
theorem aT.ext{H2:Hp}{r:RV}{u:V}(h:aT K Hi O H H' r u)(s:aA H' H2):aT K Hi O H H2 r u:=by
 cases r with
 | frz v n=>exact Rp.mono (aF s) h
 | bor v=>exact Rp.mono s h
 | own xs n =>
  obtain⟨p,us,e,h0,h1,h2⟩:=h;exact⟨p,us,e,h0,s _ _ h1,h2.mono (aF (dA s))⟩
 | owd b xs n =>
  obtain⟨p,us,o,e,h0,h1,ha,h2⟩:=h;exact⟨p,us,o,e,h0,s _ _ h1,ha,h2.mono (aF (dA s))⟩
theorem aT.back{H0:Hp}{r:RV}{u:V}(h:aT K Hi O H H' r u)(s:aA H0 H):aT K Hi O H0 H' r u:=by
 cases r with
 | frz v n=>exact h
 | bor v=>exact h
 | own xs n =>
  obtain⟨p,us,e,h0,h1,h2⟩:=h;exact⟨p,us,e,s.free h0,h1,h2⟩
 | owd b xs n =>
  obtain⟨p,us,o,e,h0,h1,ha,h2⟩:=h;exact⟨p,us,o,e,s.free h0,h1,ha,h2⟩
theorem eE{p:Addr}:aN (del H' p) O=del (aN H' O) p:=by
 funext b
 unfold aN del;dsimp only
 split<;>split<;>(try rfl)<;>simp_all
theorem aT.keep{r:RV}{u:V}{v:PV}{n:Bool}(R:aX K Hi O τ σ H)(h:aT K Hi O H H' r u)(s:aA H H')(e:r.keep=some (v,n)):Rp K Hi n v (aN H' O) u:=by
 cases r with
 | frz w m =>
  cases e;exact h
 | bor w =>
  have e:(if imm w then some (w,true)else none)=some (v,n):=e
  split at e
  ·rename_i i
   cases e;exact Rp.imm i (R.ext s).tups h
  ·cases e
 | own xs m =>
  cases e;obtain⟨p,us,e,h0,h1,h2⟩:=h;have hl:aN H' O p=some (.lst us):=by
   unfold aN;rw[Ci fun z=> ?_]
   ·exact h1
   ·obtain⟨vs,e',_⟩:=(R.own p z).2
    rw[h0]at e';cases e'
  exact Rp.lst.mpr ⟨p,us,e,fun _=>⟨R.same.free h0,hl⟩,ar.of hl,by rw[<- eE];exact h2⟩
 | owd b xs m =>
  cases e;obtain⟨p,us,o,e,h0,h1,ha,h2⟩:=h;subst e;have hl:aN H' O p=some o:=by
   unfold aN;rw[Ci fun z=> ?_]
   ·exact h1
   ·obtain⟨vs,e',_⟩:=(R.own p z).2
    rw[h0]at e';cases e'
  exact Rp.at (fun _=>R.same.free h0) hl ha (by rw[<- eE];exact h2)
theorem aT.val{r:RV}{u:V}(R:aX K Hi O τ σ H)(h:aT K Hi O H H' r u)(s:aA H H'):Rp K Hi false r.val H' u:=by
 cases r with
 | frz w m=>exact(Rp.mono aO h).weak
 | bor w=>exact h
 | own xs m=>exact(Rp.mono aO (h.keep R s rfl)).weak
 | owd b xs m=>exact(Rp.mono aO (h.keep R s rfl)).weak
theorem aT.its{r:RV}{u:V}{xs:List PV}{n:Bool}(R:aX K Hi O τ σ H)(h:aT K Hi O H H' r u)(s:aA H H')(e:r.its=some (xs,n)) :
  ∃p us,u=.ref p/\((ar K H' p us/\∃ys,r.val=.lst ys)\/(bL K H' p us/\∃ys,r.val=.tup ys))/\aE K Hi n xs (aN H' O) us:=by
 cases r with
 | frz w m =>
  cases w with
  | lst ys =>
   cases e;obtain⟨p,us,e,_,l,r⟩:=Rp.lst.mp h;exact⟨p,us,e,.inl ⟨(aO (O:=O)).seq l,_,rfl⟩,r.mono al⟩
  | tup ys =>
   cases e;obtain⟨p,us,e,l,r⟩:=Rp.tup.mp h;exact⟨p,us,e,.inr ⟨(aO (O:=O)).tup l,_,rfl⟩,r⟩
  | _=>cases e
 | bor w =>
  cases w with
  | lst ys =>
   have e:(if imms ys then some (ys,true)else none)=some (xs,n):=e
   split at e
   ·rename_i i
    cases e;obtain⟨p,us,e,_,l,r⟩:=Rp.lst.mp h;exact⟨p,us,e,.inl ⟨l,_,rfl⟩,aE.imm i (R.ext s).tups (r.mono al)⟩
   ·cases e
  | tup ys =>
   have e:(if imms ys then some (ys,true)else none)=some (xs,n):=e
   split at e
   ·rename_i i
    cases e;obtain⟨p,us,e,l,r⟩:=Rp.tup.mp h;exact⟨p,us,e,.inr ⟨l,_,rfl⟩,aE.imm i (R.ext s).tups r⟩
   ·cases e
  | _=>cases e
 | own ys m =>
  cases e;obtain⟨p,us,e,h0,h1,h2⟩:=h;exact⟨p,us,e,.inl ⟨ar.of h1,_,rfl⟩,h2.mono (aF al)⟩
 | owd b ys m=>cases e
end
end
section
variable{K:W.Frag}{Hi:Hp}{κ:Type}[DecidableEq κ]
theorem jB{n:Bool}{G:Hp}{k:κ}:∀{ks:List κ}{vs:List PV}{us:List V},aE K Hi n vs G us->ks.length=us.length->(fU ks vs k=none->dk (ks.zip us) k=none)/\∀e,fU ks vs k=some e->∃w,dk (ks.zip us) k=some w/\Rp K Hi n e G w
 | [],vs,us,r,hl=>by
  refine⟨fun _=>rfl,fun e h=> ?_⟩;unfold fU at h;cases h
 | k' ::ks,[],us,r,hl=>by
  unfold aE at r;subst r;cases hl
 | k' ::ks,v::vs,us,r,hl=>by
  unfold aE at r;obtain⟨u,ws,rfl,a,b⟩:=r;have hl:ks.length=ws.length:=by simpa using hl
  obtain⟨h1,h2⟩:=jB (k:=k) b hl;rw[List.zip_cons_cons];unfold fU
  by_cases e:k' =k
  ·rw[Cd e,di (p:=(k',u)) e]
   exact⟨fun z=>(by cases z),fun x z=>⟨u,rfl,by cases z;exact a⟩⟩
  ·rw[Ci e,dj (p:=(k',u)) e]
   exact⟨h1,h2⟩
end
end IR
namespace IR
open PySem
structure Ct where
 N:List Str
 S:List (Str×NameKind)
 F:List (Str×Nat)
 G:List (Str×PV)
 B:List Str
 M:List Nat
noncomputable def slot:List Str->Str->Option Nat
 | [],_=>none
 | y::ys,x=>if y==x then some 0 else(slot ys x).map (·+1)
theorem dE:∀{N:List Str}{x:Str}{i:Nat},slot N x=some i->N[i]? =some x
 | [],_,_,h=>by cases h
 | y::ys,x,i,h=>by
  unfold slot at h
  split at h
  ·rename_i e
   cases h;simp[Cz e]
  ·cases e:slot ys x with
   | none=>rw[e]at h;cases h
   | some j =>
    rw[e]at h;cases h
    simpa using dE e
noncomputable def Aj(S:List (Str×NameKind))(x:Str):Bool:=S.lookup x==some .local||S.lookup x==some .cell||S.lookup x==some .free
noncomputable def qI(x:Str):Bool:=x==("__debug__":Str)||x==("__classdict__":Str)||x==("__name__":Str)
noncomputable def jC(ct:Ct)(x:Str):IE :=
 if qI x then .never else if Aj ct.S x then(match slot ct.N x with
  | some i=>.var i
  | none=>.never)else if ct.S.lookup x==some .globalImplicit then(match ct.G.lookup x with
   | some v=>.con v
   | none=>.never)else .never
noncomputable def bv:Expr->Bool
 | .Set .. =>true
 | _=>false
noncomputable def jf:Expr->Bool
 | .Slice .. =>true
 | _=>false
noncomputable def isStar:Expr->Bool
 | .Starred .. =>true
 | _=>false
noncomputable def jR:Expr->Bool
 | .Name .. =>true
 | .Constant .. =>true
 | _=>false
noncomputable def jD:Const->IE
 | .int i=>.con (.int i)
 | .bool b=>.con (.bl b)
 | .str z=>.con (.str z)
 | .none=>.con .non
 | _=>.never
noncomputable def gk(op:BoolOp):List IE->IE
 | []=>.never
 | [a]=>a
 | a::b::r=>match op with
  | .And=>.and a (gk op (b::r))
  | .Or=>.or a (gk op (b::r))
noncomputable def gj(op:BoolOp):List IC->IC
 | []=>.val .never
 | [a]=>a
 | a::b::r=>match op with
  | .And=>.and a (gj op (b::r))
  | .Or=>.or a (gj op (b::r))
noncomputable def lH(x:Str)(k:Nat):Option Bf :=
 if x==("len":Str)&&k==1 then some .len else if x==("int":Str)&&k==1 then some .int else if x==("list":Str)&&k==1 then some .list else if x==("tuple":Str)&&k==1 then some .tuple
 else if x==("all":Str)&&k==1 then some .all else if x==("min":Str)&&k==2 then some .min else if x==("max":Str)&&k==2 then some .max else if x==("abs":Str)&&k==1 then some .abs
 else if x==("any":Str)&&k==1 then some .any else if x==("sum":Str)&&k==1 then some .sum else if x==("sorted":Str)&&k==1 then some .sorted else none
noncomputable def py(x:Str)(k:Nat):Option Bf:=lH x k
noncomputable def qf(x:Str):Option String :=
 if x==("int":Str)then some "int" else if x==("bool":Str)then some "bool" else if x==("str":Str)then some "str" else if x==("list":Str)then some "list" else if x==("tuple":Str)then some "tuple" else none
noncomputable def own(ct:Ct)(x:Str):Bool:=ct.B.contains x&&ct.S.lookup x==some .globalImplicit
noncomputable def jr:Expr->Option (Str×List Expr)
 | .Call (.Name x _) es [] _=>some (x,es)
 | _=>none
noncomputable def iV(S names:List (Str×NameKind)):List (Str×NameKind):=names.map fun(n,k)=>if(k== .free&&true&&S.lookup n==some .cell)then(n,.cell)else(n,k)
noncomputable def frees(scope:Scope):List Str:=(scope.names.filter fun y=>y.2== .free).map (·.1)
noncomputable def slots(N:List Str):List Str->Option (List Nat)
 | []=>some []
 | x::xs=>(slot N x).bind fun i=>(slots N xs).map (i::·)
noncomputable def pO(ct:Ct)(t:Str)(scope:Scope):Bool :=
 scope.kind== .function&&(scope.names.all fun y=> !(y.2== .cell)||scope.names.lookup y.1==some .cell)&&(scope.names.all fun y=> !(y.2== .local)||scope.names.lookup y.1==some .local) &&
 (scope.names.all fun y=> !(y.2== .free)||(ct.S.lookup y.1==some .cell||ct.S.lookup y.1==some .free))&&decide (t::frees scope).Nodup&&(scope.names.lookup t==some .local||scope.names.lookup t==some .cell) &&
 (frees scope).all fun x=>scope.names.lookup x==some .free
noncomputable def blk(ct:Ct)(t:Str)(scope:Scope):Ct:=⟨t::frees scope,iV ct.S scope.names,ct.F,ct.G,ct.B,[]⟩
noncomputable def ic(ct:Ct)(t t2:Str)(scope:Scope):Bool :=
 scope.kind== .function&&(scope.names.all fun y=> !(y.2== .cell)||scope.names.lookup y.1==some .cell)&&(scope.names.all fun y=> !(y.2== .local)||scope.names.lookup y.1==some .local) &&
 (scope.names.all fun y=> !(y.2== .free)||(ct.S.lookup y.1==some .cell||ct.S.lookup y.1==some .free))&&decide (t::t2::frees scope).Nodup&&(scope.names.lookup t==some .local||scope.names.lookup t==some .cell)&&(scope.names.lookup t2==some .local||scope.names.lookup t2==some .cell) &&
 (frees scope).all fun x=>scope.names.lookup x==some .free
noncomputable def blk2(ct:Ct)(t t2:Str)(scope:Scope):Ct:=⟨t::t2::frees scope,iV ct.S scope.names,ct.F,ct.G,ct.B,[]⟩
noncomputable def pM:List IE->ub
 | []=>.nil
 | e::es=>.cons e (pM es)
noncomputable def kU:Expr->Option Str
 | .Name x _=>some x
 | _=>none
noncomputable def kW:Expr->Option (Str×Str)
 | .Tuple es _ _=>(match es with
  | [a,b]=>(kU a).bind fun x=>(kU b).map fun y=>(x,y)
  | _=>none)
 | _=>none
noncomputable def nX(gs:List Comprehension):Option (Str×Str×Expr×List Expr):=match gs with
 | [g]=>if g.is_async=0 then(kW g.target).map fun w=>(w.1,w.2,g.iter,g.ifs)else none
 | _=>none
theorem kT{e:Expr}{x:Str}(h:kU e=some x):∃p,e=.Name x p:=by
 unfold kU at h
 split at h
 ·cases h;exact⟨_,rfl⟩
 ·cases h
theorem vp{a b:Expr}{q:Str×Str}(h:((kU a).bind fun x=>(kU b).map fun y=>(x,y))=some q):∃p p2,a=.Name q.1 p/\b=.Name q.2 p2:=by
 cases ha:kU a with
 | none=>rw[ha]at h;cases h
 | some x =>
  cases hb:kU b with
  | none=>rw[ha,hb]at h;cases h
  | some y =>
   rw[ha,hb]at h;cases h;obtain⟨p,rfl⟩:=kT ha;obtain⟨p2,rfl⟩:=kT hb;exact⟨p,p2,rfl,rfl⟩
theorem pJ{e:Expr}{q:Str×Str}(h:kW e=some q):∃p p2 k p3,e=.Tuple [.Name q.1 p,.Name q.2 p2] k p3:=by
 unfold kW at h
 split at h
 ·split at h
  ·obtain⟨p,p2,rfl,rfl⟩:=vp h
   exact⟨p,p2,_,_,rfl⟩
  ·cases h
 ·cases h
theorem oi{gs:List Comprehension}{t t2:Str}{iter:Expr}{ifs:List Expr}(h:nX gs=some (t,t2,iter,ifs)):∃tp tp2 kk tpp,gs=[⟨.Tuple [.Name t tp,.Name t2 tp2] kk tpp,iter,ifs,0⟩]:=by
 match gs,h with
 | [],h=>cases h
 | _::_::_,h=>cases h
 | [⟨tg,it,fs,as⟩],h =>
  have h' :(if as=0 then(kW tg).map fun w=>(w.1,w.2,it,fs)else none)=some (t,t2,iter,ifs):=h
  split at h'
  ·rename_i e0
   subst e0
   clear h
   cases e1:kW tg with
   | none=>rw[e1]at h';cases h'
   | some w =>
    rw[e1]at h';cases h';obtain⟨p1,p2,k,p3,rfl⟩:=pJ e1;exact⟨_,_,_,_,rfl⟩
  ·cases h'
mutual
noncomputable def ac:Nat->Ct->Expr->IE
 | 0,_,_=>.never
 | n+1,ct,e=>match e with
  | .Constant c _ _=>jD c
  | .Name x _=>jC ct x
  | .BinOp a op b _=>.bin op (ac n ct a) (ac n ct b)
  | .UnaryOp op a _=>match op with
   | .USub=>.neg (ac n ct a)
   | .Not=>.not (ac n ct a)
   | _=>.never
  | .Compare a ops cs _=>match ops,cs with
   | [op],[b]=>if bv b then .never else .cmp op (ac n ct a) (ac n ct b)
   | _,_=>.never
  | .BoolOp op vs _=>if vs.length<2 then .never else gk op (vs.map (ac n ct))
  | .IfExp c a b _=>.ite (iR n ct c) (ac n ct a) (ac n ct b)
  | .List es _=>.lst (dm n ct es)
  | .Tuple es _ _=>.tup (dm n ct es)
  | .Subscript a i _=>match i with
   | .Slice lo hi st _=>match st with
    | none=>.sl (ac n ct a) (xL n ct lo) (xL n ct hi)
    | some _=>.never
   | i=>.ix (ac n ct a) (ac n ct i)
  | .Call f es ks cp=>match ks with
   | []=>match f with
    | .Name x _=>eP n ct x es
    | .Attribute o m ap=>if ap.endLine==cp.line then iQ n ct o m es else .never
    | _=>.never
   | _=>.never
  | .ListComp elt gs scope _=>match gs with
   | [⟨.Name t _,iter,ifs,0⟩]=>if pO ct t scope then(match slots ct.N (frees scope)with
    | some caps=>.lc (ac n (blk ct t scope) elt) (qH n ct false iter) (match ifs with
     | []=>.no
     | [c]=>.yes (iR n (blk ct t scope) c)
     | _=>.yes (.val .never)) caps
    | none=>.never)else .never
   | gs=>(match nX gs with
    | some (t,t2,iter,ifs)=>if ic ct t t2 scope then(match slots ct.N (frees scope)with
     | some caps=>.lc2 (ac n (blk2 ct t t2 scope) elt) (qH n ct true iter) (match ifs with
      | []=>.no
      | [c]=>.yes (iR n (blk2 ct t t2 scope) c)
      | _=>.yes (.val .never)) caps
     | none=>.never)else .never
    | none=>.never)
  | _=>.never
noncomputable def dm:Nat->Ct->List Expr->ub
 | 0,_,_=>.cons .never .nil
 | n+1,ct,es=>pM (es.map fun e=>if isStar e then .never else ac n ct e)
noncomputable def xL:Nat->Ct->Option Expr->IO
 | 0,_,_=>.yes .never
 | n+1,ct,e=>match e with
  | none=>.no
  | some e=>.yes (ac n ct e)
noncomputable def iR:Nat->Ct->Expr->IC
 | 0,_,_=>.val .never
 | n+1,ct,e=>match e with
  | .UnaryOp op a p=>match op with
   | .Not=>.not (iR n ct a)
   | op=>.val (ac n ct (.UnaryOp op a p))
  | .BoolOp op vs _=>gj op (vs.map (iR n ct))
  | .IfExp _ _ _ _=>.val .never
  | e=>.val (ac n ct e)
noncomputable def eP:Nat->Ct->Str->List Expr->IE
 | 0,_,_,_=>.never
 | n+1,ct,x,es=>if qI x then .never else if ct.S.lookup x==some .globalImplicit then(match ct.F.lookup x with
  | some f=>match es with
   | []=>.never
   | es=>.call f (dm n ct es)
  | none=>if ct.B.contains x then(if x==("isinstance":Str)then(match es with
    | [a,.Name t _]=>match qf t with
     | some ty=>if isStar a then .never else if own ct t then .bf (.isin ty) (.cons (ac n ct a) .nil)else .never
     | none=>.never
    | _=>.never)else match es with
     | es=>match py x es.length with
      | some f=>.bf f (dm n ct es)
      | none=>.never)else .never)else .never
noncomputable def iQ:Nat->Ct->Expr->Str->List Expr->IE
 | 0,_,_,_,_=>.never
 | n+1,ct,o,m,es=>if jR o then(match es with
  | [a]=>if isStar a then .never else if m==("join":Str)then .mth .join (ac n ct o) (.cons (ac n ct a) .nil)else if m==("count":Str)then .mth .count (ac n ct o) (.cons (ac n ct a) .nil)else .never
  | _=>.never)else .never
noncomputable def qH:Nat->Ct->Bool->Expr->IT
 | 0,_,_,_=>.never
 | n+1,ct,tp,e=>if bv e then .never else match jr e with
  | some (x,es)=>if x==("range":Str)then(if own ct x then .rng (dm n ct es)else .never)else if x==("zip":Str)then(match es with
    | [a,b]=>if isStar a||isStar b|| !tp|| !own ct x then .never else .zip (ac n ct a) (ac n ct b)
    | _=>.never)else if x==("enumerate":Str)then(match es with
    | [a]=>if isStar a|| !tp|| !own ct x then .never else .enum (ac n ct a)
    | _=>.never)else .seq (ac n ct e)
  | none=>.seq (ac n ct e)
end
noncomputable def iK:Nat->Ct->Expr->List Nat
 | 0,_,_=>[]
 | n+1,ct,e=>match e with
  | .Name x _=>(slot ct.N x).toList
  | .List es _=>es.flatMap (iK n ct)
  | .Tuple es _ _=>es.flatMap (iK n ct)
  | .IfExp _ a b _=>iK n ct a++iK n ct b
  | _=>[]
noncomputable def iJ:Nat->Ct->Expr->List Nat
 | 0,_,_=>[]
 | n+1,ct,e=>match e with
  | .Name x _=>(slot ct.N x).toList
  | .List es _=>es.flatMap (iJ n ct)
  | .Tuple es _ _=>es.flatMap (iJ n ct)
  | .BinOp a _ b _=>iJ n ct a++iJ n ct b
  | .IfExp _ a b _=>iJ n ct a++iJ n ct b
  | .Call (.Name x _) es _ _=>if x==("tuple":Str)||x==("list":Str)||x==("sorted":Str)then es.flatMap (iJ n ct)else[]
  | .ListComp _ gs _ _=>gs.flatMap fun g=>iJ n ct g.iter
  | _=>[]
noncomputable def B7(ct:Ct)(x:Str)(e:Expr):List Nat:=match e with
 | .BinOp (.Name y _) .Add _ _=>if y==x then(slot ct.N x).toList else[]
 | _=>[]
noncomputable def B8(n:Nat)(ct:Ct)(e:Expr):List Nat:=match jr e with
 | some (x,es)=>if x==("zip":Str)||x==("enumerate":Str)||x==("reversed":Str)then es.flatMap (iK n ct)else[]
 | none=>iK n ct e
noncomputable def loc(ct:Ct)(x:Str):Option Nat:=if(ct.S.lookup x==some .local||ct.S.lookup x==some .cell)&& !qI x then slot ct.N x else none
noncomputable def tE:Expr->Bool
 | .ListComp .. =>true
 | .SetComp .. =>true
 | .DictComp .. =>true
 | _=>false
noncomputable def locs(ct:Ct):List Expr->Option (List Nat)
 | []=>some []
 | .Name x _::es=>(loc ct x).bind fun i=>(locs ct es).map (i::·)
 | _::_=>none
noncomputable def qo(ct:Ct):Expr->Option (List Nat×Bool)
 | .Name x _=>(loc ct x).map fun i=>([i],true)
 | .Tuple es _ _=>(locs ct es).map fun is=>(is,false)
 | _=>none
mutual
noncomputable def lb:Nat->Ct->Stmt->IS
 | 0,_,_=>.never
 | n+1,ct,s=>match s with
  | .Return v _=>match v with
   | some e=>.ret (iJ n ct e) (ac n ct e)
   | none=>.retN
  | .Assign ts e _=>match ts with
   | [.Name x _]=>match loc ct x with
    | some i=>.asg i (ct.M.contains i) (B7 ct x e++iK n ct e) (ac n ct e)
    | none=>.never
   | _=>.never
  | .If c a b _=>.ife (iR n ct c) (dM n ct a) (dM n ct b)
  | .For tg it body els _=>match els with
   | []=>match qo ct tg with
    | some (is,one)=>.forr is one (B8 n ct it) (qH n ct (!one) it) (dM n ct body)
    | none=>.never
   | _=>.never
  | .While c body els _=>match els with
   | []=>.whil (iR n ct c) (dM n ct body)
   | _=>.never
  | .Pass _=>.pass
  | .Break _=>.brk
  | .Continue _=>.cont
  | .Expr e _=>match e with
   | .Call (.Attribute (.Name x _) m ap) es [] cp=>if ap.endLine==cp.line then(match loc ct x with
    | some i=>(match es with
     | [a]=>if isStar a then .never else if m==("append":Str)then .app i (iK n ct a) (ac n ct a)else .never
     | [a,b]=>if isStar a||isStar b then .never else if m==("insert":Str)then .ins i (ac n ct a) (ac n ct b)else .never
     | _=>.never)
    | none=>.never)else .never
   | _=>.never
  | _=>.never
noncomputable def dM:Nat->Ct->List Stmt->qK
 | 0,_,_=>.cons .never .nil
 | n+1,ct,ss=>match ss with
  | []=>.nil
  | s::ss=>.cons (lb n ct s) (dM n ct ss)
end
section
set_option autoImplicit true
set_option relaxedAutoImplicit true
variable{n:Nat}{ct:Ct}
theorem la:ac 0 w0 w1=.never:=rfl
theorem lV:ac (n+1) ct (.Constant c w1 w2)=(jD c):=rfl
theorem lR:ac (n+1) ct (.Name x w1)=(jC ct x):=rfl
theorem lZ:ac (n+1) ct (.BinOp a op b w1)=(.bin op (ac n ct a) (ac n ct b)):=rfl
theorem lO:ac (n+1) ct (.UnaryOp op a w1)=(match op with
   | .USub=>.neg (ac n ct a)
   | .Not=>.not (ac n ct a)
   | _=>.never):=rfl
theorem lW:ac (n+1) ct (.Compare a ops cs w1)=(match ops,cs with
   | [op],[b]=>if bv b then .never else .cmp op (ac n ct a) (ac n ct b)
   | _,_=>.never):=rfl
theorem lY:ac (n+1) ct (.BoolOp op vs w1)=(if vs.length<2 then .never else gk op (vs.map (ac n ct))):=rfl
theorem lU:ac (n+1) ct (.IfExp c a b w1)=(.ite (iR n ct c) (ac n ct a) (ac n ct b)):=rfl
theorem lT:ac (n+1) ct (.List es w1)=(.lst (dm n ct es)):=rfl
theorem lP:ac (n+1) ct (.Tuple es w1 w2)=(.tup (dm n ct es)):=rfl
theorem lQ:ac (n+1) ct (.Subscript a i w1)=(match i with
   | .Slice lo hi st _=>match st with
    | none=>.sl (ac n ct a) (xL n ct lo) (xL n ct hi)
    | some _=>.never
   | i=>.ix (ac n ct a) (ac n ct i)):=rfl
theorem lX:ac (n+1) ct (.Call f es ks cp)=(match ks with
   | []=>match f with
    | .Name x _=>eP n ct x es
    | .Attribute o m ap=>if ap.endLine==cp.line then iQ n ct o m es else .never
    | _=>.never
   | _=>.never):=rfl
theorem lS:ac (n+1) ct (.ListComp elt gs scope w1)=(match gs with
   | [⟨.Name t _,iter,ifs,0⟩]=>if pO ct t scope then(match slots ct.N (frees scope)with
    | some caps=>.lc (ac n (blk ct t scope) elt) (qH n ct false iter) (match ifs with
     | []=>.no
     | [c]=>.yes (iR n (blk ct t scope) c)
     | _=>.yes (.val .never)) caps
    | none=>.never)else .never
   | gs=>(match nX gs with
    | some (t,t2,iter,ifs)=>if ic ct t t2 scope then(match slots ct.N (frees scope)with
     | some caps=>.lc2 (ac n (blk2 ct t t2 scope) elt) (qH n ct true iter) (match ifs with
      | []=>.no
      | [c]=>.yes (iR n (blk2 ct t t2 scope) c)
      | _=>.yes (.val .never)) caps
     | none=>.never)else .never
    | none=>.never)):=rfl
theorem z24:dm 0 w0 w1=.cons .never .nil:=rfl
theorem z25:dm (n+1) ct es=(pM (es.map fun e=>if isStar e then .never else ac n ct e)):=rfl
theorem z28:xL 0 w0 w1=.yes .never:=rfl
theorem z29:xL (n+1) ct (none)=(.no):=rfl
theorem z2a:xL (n+1) ct (some e)=(.yes (ac n ct e)):=rfl
theorem Ah:iR 0 w0 w1=.val .never:=rfl
theorem Ae:iR (n+1) ct (.UnaryOp op a p)=(match op with
   | .Not=>.not (iR n ct a)
   | op=>.val (ac n ct (.UnaryOp op a p))):=rfl
theorem Ag:iR (n+1) ct (.BoolOp op vs w1)=(gj op (vs.map (iR n ct))):=rfl
theorem Af:iR (n+1) ct (.IfExp w1 w2 w3 w4)=(.val .never):=rfl
theorem z1l:eP 0 w0 w1 w2=.never:=rfl
theorem z1m:eP (n+1) ct x es=(if qI x then .never else if ct.S.lookup x==some .globalImplicit then(match ct.F.lookup x with
  | some f=>match es with
   | []=>.never
   | es=>.call f (dm n ct es)
  | none=>if ct.B.contains x then(if x==("isinstance":Str)then(match es with
    | [a,.Name t _]=>match qf t with
     | some ty=>if isStar a then .never else if own ct t then .bf (.isin ty) (.cons (ac n ct a) .nil)else .never
     | none=>.never
    | _=>.never)else match es with
     | es=>match py x es.length with
      | some f=>.bf f (dm n ct es)
      | none=>.never)else .never)else .never):=rfl
theorem z26:iQ 0 w0 w1 w2 w3=.never:=rfl
theorem z27:iQ (n+1) ct o m es=(if jR o then(match es with
  | [a]=>if isStar a then .never else if m==("join":Str)then .mth .join (ac n ct o) (.cons (ac n ct a) .nil)else if m==("count":Str)then .mth .count (ac n ct o) (.cons (ac n ct a) .nil)else .never
  | _=>.never)else .never):=rfl
theorem z2o:qH 0 w0 w1 w2=.never:=rfl
theorem z2p:qH (n+1) ct tp e=(if bv e then .never else match jr e with
  | some (x,es)=>if x==("range":Str)then(if own ct x then .rng (dm n ct es)else .never)else if x==("zip":Str)then(match es with
    | [a,b]=>if isStar a||isStar b|| !tp|| !own ct x then .never else .zip (ac n ct a) (ac n ct b)
    | _=>.never)else if x==("enumerate":Str)then(match es with
    | [a]=>if isStar a|| !tp|| !own ct x then .never else .enum (ac n ct a)
    | _=>.never)else .seq (ac n ct e)
  | none=>.seq (ac n ct e)):=rfl
theorem qW:lb 0 w0 w1=.never:=rfl
theorem qO:lb (n+1) ct (.Return v w1)=(match v with
   | some e=>.ret (iJ n ct e) (ac n ct e)
   | none=>.retN):=rfl
theorem qV:lb (n+1) ct (.Assign ts e w1)=(match ts with
   | [.Name x _]=>match loc ct x with
    | some i=>.asg i (ct.M.contains i) (B7 ct x e++iK n ct e) (ac n ct e)
    | none=>.never
   | _=>.never):=rfl
theorem qQ:lb (n+1) ct (.If c a b w1)=(.ife (iR n ct c) (dM n ct a) (dM n ct b)):=rfl
theorem qR:lb (n+1) ct (.For tg it body els w1)=(match els with
   | []=>match qo ct tg with
    | some (is,one)=>.forr is one (B8 n ct it) (qH n ct (!one) it) (dM n ct body)
    | none=>.never
   | _=>.never):=rfl
theorem qN:lb (n+1) ct (.While c body els w1)=(match els with
   | []=>.whil (iR n ct c) (dM n ct body)
   | _=>.never):=rfl
theorem qP:lb (n+1) ct (.Pass w1)=(.pass):=rfl
theorem qU:lb (n+1) ct (.Break w1)=(.brk):=rfl
theorem qT:lb (n+1) ct (.Continue w1)=(.cont):=rfl
theorem qS:lb (n+1) ct (.Expr e w1)=(match e with
   | .Call (.Attribute (.Name x _) m ap) es [] cp=>if ap.endLine==cp.line then(match loc ct x with
    | some i=>(match es with
     | [a]=>if isStar a then .never else if m==("append":Str)then .app i (iK n ct a) (ac n ct a)else .never
     | [a,b]=>if isStar a||isStar b then .never else if m==("insert":Str)then .ins i (ac n ct a) (ac n ct b)else .never
     | _=>.never)
    | none=>.never)else .never
   | _=>.never):=rfl
theorem z2b:dM 0 w0 w1=.cons .never .nil:=rfl
theorem z2d:dM (n+1) ct ([])=(.nil):=rfl
theorem z2c:dM (n+1) ct (s::ss)=(.cons (lb n ct s) (dM n ct ss)):=rfl
end
end IR
namespace L2
open PySem PySem.Spec PyProof.Rows
section
variable{X:Cx}
theorem n6:cg X (binaryOp .Add) (fun x y H Q=>∃(l b:Addr)(xs zs:List V),x=.ref l/\y=.ref b/\ar X.K H l xs/\ar X.K H b zs/\xs.length+zs.length<=sizeLine/\∀p,H p=none->Q (.ref p) (upd H p (.lst (xs++zs)))):=by
 intro pins s σ H x y v u Q I rx ry h;obtain⟨l,b,xs,zs,rfl,rfl,hH,hB,hz,q⟩:=h;cases rx;cases ry;obtain⟨its,r,pl,_⟩:=I.list hH;obtain⟨its2,r2,pl2,_⟩:=I.list hB;have hl:=r.length;have hl2:=r2.length;obtain⟨⟨cls,dd,data,sl⟩,ho,hc,n,hd⟩:=id pl.isList;obtain⟨⟨cls2,dd2,data2,sl2⟩,ho2,hc2,n2,hd2⟩:=id pl2.isList;simp only at hc hd hc2 hd2;subst hc hd hc2 hd2;have e:its.toArray++its2.toArray=(its++its2).toArray:=by simp
 refine concat_meets ⟨_,ho,rfl⟩ ⟨_,ho2,rfl⟩ noFill_list_add seq_list_add PySem.F.slot_list_add PySem.F.entry_list_add (PySem.F.args_list_add_2 _ _) (list_addW l b its.toArray its2.toArray n n2 dd dd2 sl sl2 (by rw[Cb,Cb];omega)) ⟨ho,ho2,?_⟩;rw[e];exact⟨.ref _,_,I.lnew (t' :=s.toks) (r.append r2) (by rw[Cm];omega),rfl,q _ I.fresh⟩
theorem vh:cg X (binaryOp .Add) (fun x y H Q=>∃(a b:Addr)(xs ys:List V),x=.ref a/\y=.ref b/\bL X.K H a xs/\bL X.K H b ys/\xs.length+ys.length<=sizeLine/\∀p H',aA H H' ->bL X.K H' p (xs++ys)->Q (.ref p) H'):=by
 intro pins s σ H x y u v Q I rx ry h;obtain⟨a,b,xs,ys,rfl,rfl,ha,hb,hz,q⟩:=h
 by_cases hx:xs=[]
 ·subst hx
  cases rx;cases ry;obtain⟨its,r1,p1,_⟩:=I.tuple ha;obtain⟨its2,r2,p2,_⟩:=I.tuple hb;cases r1;obtain⟨⟨cls,dd,data,sl⟩,ho,hc,n,hd⟩:=id p1;obtain⟨⟨cls2,dd2,data2,sl2⟩,ho2,hc2,n2,hd2⟩:=id p2;simp only at hc hd hc2 hd2;subst hc hd hc2 hd2
  exact concat_meets ⟨_,ho,rfl⟩ ⟨_,ho2,rfl⟩ noFill_tuple_add seq_tuple_add PySem.F.slot_tuple_add PySem.F.entry_tuple_add (Es _ _)
   (tuple_addW0 a b #[] its2.toArray n n2 dd dd2 sl sl2 rfl) ⟨ho,ho2,⟨.ref b,H,I,rfl,q b H (aA.refl H) hb⟩⟩
 ·refine vi pins s σ H (.ref a) (.ref b) u v Q I rx ry ⟨a,b,xs,ys,rfl,rfl,ha,hb,hx,hz,fun e=> ?_,fun _ p hp=>q p _ (aQ hp _) (bL.of aJ)⟩
  subst e;exact q a H (aA.refl H) (by rw[Do];exact ha)
theorem uy:Ab X (fun x lo hi H Q=>∃a xs,x=.ref a/\bL X.K H a xs/\(HT.aw xs.length 0 lo=0/\HT.aw xs.length xs.length hi=xs.length)/\Q (.ref a) H):=by
 intro pins s σ H x v vl vu lo hi sl Q I rx hs pl pu h;obtain⟨a,xs,rfl,hx,hw,q⟩:=h;cases rx;obtain⟨its,r,ht,hz⟩:=I.tuple hx;have hlen:its.toArray.size=xs.length:=by rw[Cb];exact r.length.symm
 refine⟨"tuple",_,DK.lookup,ht.typeIs,?_⟩;obtain⟨os,hos,hcs,hds⟩:=id hs;have hTs:s.TypeIs (.ref sl) "slice":=⟨os,hos,hcs⟩;unfold getItem
 try with_reducible refine DV ?_
 first|refine CU (Ce ?_)|skip
 refine CU (wpAny_sequenceKey ht.typeIs (by decide) ?_)
 refine CU (ES (name:=Str.ofString "__getitem__") ht.typeIs DK
  (EI DK ht.typeIs entry_tuple_getitem ?_ (args_tuple_getitem _ _)))
 show wpAny _ _ (Builtin.Tuple.tupleItemsOf (.ref a) >>= _) _ _ s;refine CU (tupleItemsOf_ ht ?_);refine CU (wpAny_typeOf hTs ?_);rw[Cd (by decide)];refine CU (HT.bj hs pl pu ?_);rw[<- hlen]at hw;show wpAny _ _ (if(((HT.aw its.toArray.size 0 lo:Nat):Int)==0&&(1:Int)==1&&(HT.aw its.toArray.size its.toArray.size hi-HT.aw its.toArray.size 0 lo)==its.toArray.size)=true then _ else _) _ _ s;rw[Cd (by rw[hw.1,hw.2];simp)];unfold Builtin.Tuple.tupleIsExact;refine CU (CU (wpAny_typeOf ht.typeIs (Ce ?_)));rw[Cd (by decide)];exact CU (wpAny_rule (Ce ⟨_,rfl,Ce ⟨.ref a,H,I,rfl,q⟩⟩))
theorem j2{v:V}{u:Value}(r:RelV v u):∀n:Nat,aK (List.replicate n v) (List.replicate n u)
 | 0=>.nil
 | n+1=>.cons r (j2 r n)
theorem sA:cg X (binaryOp .Mult) (fun x y H Q=>∃(a:Addr)(v:V)(N:Int),x=.ref a/\y=.int N/\2<=N/\N<=8/\bL X.K H a [v]/\∀p,H p=none->Q (.ref p) (upd H p (.tup (List.replicate N.toNat v)))):=by
 intro pins s σ H x y u v' Q I rx ry h;obtain⟨a,v,N,rfl,rfl,n3,n8,ha,q⟩:=h;cases rx;obtain⟨t,rfl⟩:=ry;obtain⟨its,r,ht,hz⟩:=I.tuple ha;obtain⟨u,rfl,ru⟩:=vals1 r;obtain⟨⟨cls,dd,data,sl⟩,ho,hc,n,hd⟩:=id ht;simp only at hc hd;subst hc hd
 refine wpAny_binaryOp_repeat_ref (T:="tuple") (U:="int") (by decide) ⟨_,ho,rfl⟩ (fun s' =>typeIs_int s' N t) eW F.fills_int_mul F.slot_int_rmul jN F.slot_int_index.lookup
  (call_meets F.slot_int_rmul (typeIs_int s N t) F.entry_int_rmul (F.args_int_rmul_2 _ _) (mI N t a _ n dd sl) ⟨ho,rfl,⟨_,ho,rfl⟩,call_meets F.slot_tuple_mul ⟨_,ho,rfl⟩ F.entry_tuple_mul (F.args_tuple_mul_2 _ _) (lx a u n dd sl t N n3 n8) ⟨ho,?_⟩⟩)
 refine⟨.ref s.heap.objs.size,_,I.laid (t' :=s.toks) (o:=.tup (List.replicate N.toNat v)) (fun b ob q=>CV _ q) (Ca _) ?_,rfl,q _ (I.hok.fresh (Ca _))⟩;have z:N.toNat<=8:=by omega
 exact⟨by rw[DW];exact C9 z (by decide),_,j2 ru _,ci.new _ _⟩
end
end L2
namespace IR
open PySem PySem.Spec PyProof.Rows L2
noncomputable abbrev WE(X:Cx)(e:Expr)(σ:L2.St)(H:Hp)(Q:VK):Prop:=∀(pins:List (Addr×Obj))(s:Shared),Inv X pins σ H s->wpAny (model X.prog X.w) X.A (eval e X.env) (EP X pins σ Q) X.xe s
noncomputable abbrev WT(X:Cx)(e:Expr)(σ:L2.St)(H:Hp)(Q:Bool->Hp->Prop):Prop:=∀(pins:List (Addr×Obj))(s:Shared),Inv X pins σ H s->wpAny (model X.prog X.w) X.A (isTrue e X.env (eval e X.env)) (TP X pins σ Q) X.xe s
noncomputable abbrev WA(X:Cx)(es:List Expr)(σ:L2.St)(H:Hp)(Q:List V->Hp->Prop):Prop:=∀(pos:Pos)(pins:List (Addr×Obj))(s:Shared),Inv X pins σ H s->wpAny (model X.prog X.w) X.A (spliced (backTo pos (starEach es X.env))) (AP X pins σ Q) X.xe s
theorem aW{X:Cx}{e:Expr}:PE X e (fun σ H Q=>WE X e σ H Q):=fun pins s σ H Q I h=>h pins s I
theorem hZ{X:Cx}{e:Expr}:PT X e (fun σ H Q=>WT X e σ H Q):=fun pins s σ H Q I h=>h pins s I
theorem mS{X:Cx}{e:List Expr}:PA X e (fun σ H Q=>WA X e σ H Q):=fun pos pins s σ H Q I h=>h pos pins s I
theorem we{X:Cx}{e:Expr}{t:TE}{σ:L2.St}{H:Hp}{Q:VK}(h:PE X e t)(q:t σ H Q):WE X e σ H Q:=fun pins s I=>h pins s σ H Q I q
theorem wt{X:Cx}{e:Expr}{t:TT}{σ:L2.St}{H:Hp}{Q:Bool->Hp->Prop}(h:PT X e t)(q:t σ H Q):WT X e σ H Q:=fun pins s I=>h pins s σ H Q I q
theorem wa{X:Cx}{e:List Expr}{t:TA}{σ:L2.St}{H:Hp}{Q:List V->Hp->Prop}(h:PA X e t)(q:t σ H Q):WA X e σ H Q:=fun pos pins s I=>h pos pins s σ H Q I q
noncomputable def na(K:W.Frag)(m:List PV->Option PV):Sp:=fun vs H Q _=>∃pvs r,aE K H false pvs H vs/\m pvs=some r/\∀u H',aA H H' ->Rp K H true r H' u->Q u H'
structure bC(cd:Nat->List PV->Option PV)(X:Cx)(ct:Ct):Prop where
 N:X.N=ct.N
 nd:ct.N.Nodup
 S:X.env.scope.names=ct.S
 kind:X.env.scope.kind=.function
 calm:X.calm=true
 glob:∀x v,ct.G.lookup x=some v->∃u w,X.mg x=some u/\RelV w u/\∀Hi n H,Rp X.K Hi n v H w
 bl:∀x,ct.B.contains x=true->X.mg x=none
 fns:∀x f,ct.F.lookup x=some f->∃k a fd ps,aj X.prog X.w X.K X.mg X.base dg k a fd ps (na X.K (cd f))/\bO k X.A/\X.mg x=some (.ref a)/\W.keepIn X.K (.ref a)=true/\Binds X.K fd ps []
 xe:PassesOwn (model X.prog X.w) X.A X.env X.xe
 un:X.A.units+64<cLine
section
variable{X:Cx}{Hi:Hp}{τ:En}
variable(X Hi τ)in
noncomputable def aG(e:Expr)(r:RV):Prop:=∀(O:List Addr)(σ:L2.St)(H:Hp)(Q:VK),aX X.K Hi O τ σ H->(∀u H',aA H H' ->aT X.K Hi O H H' r u->Q u H')->WE X e σ H Q
variable(X Hi τ)in
noncomputable def dD(e:Expr)(b:Bool):Prop:=∀(O:List Addr)(σ:L2.St)(H:Hp)(Q:Bool->Hp->Prop),aX X.K Hi O τ σ H->(∀H',aA H H' ->Q b H')->WT X e σ H Q
variable(X Hi)in
noncomputable def bQ(O:List Addr)(H H' :Hp):List RV->List V->Prop
 | [],us=>us=[]
 | r::rs,us=>∃u vs,us=u::vs/\aT X.K Hi O H H' r u/\bQ O H H' rs vs
variable(X Hi τ)in
noncomputable def jw(es:List Expr)(rs:List RV):Prop:=∀(O:List Addr)(σ:L2.St)(H:Hp)(Q:List V->Hp->Prop),aX X.K Hi O τ σ H->(∀us H',aA H H' ->bQ X Hi O H H' rs us->Q us H')->WA X es σ H Q
theorem bW:sizeLine=16777216:=DN
theorem bQ.ext{O:List Addr}{H H' H2:Hp}(s:aA H' H2):∀{rs:List RV}{us:List V},bQ X Hi O H H' rs us->bQ X Hi O H H2 rs us
 | [],_,h=>h
 | r::rs,_,h=>by
  obtain⟨u,vs,e,a,b⟩:=h;exact⟨u,vs,e,a.ext s,bQ.ext s b⟩
theorem bQ.back{O:List Addr}{H0 H H' :Hp}(s:aA H0 H):∀{rs:List RV}{us:List V},bQ X Hi O H H' rs us->bQ X Hi O H0 H' rs us
 | [],_,h=>h
 | r::rs,_,h=>by
  obtain⟨u,vs,e,a,b⟩:=h;exact⟨u,vs,e,a.back s,bQ.back s b⟩
theorem bQ.vals{O:List Addr}{σ:L2.St}{H H' :Hp}(R:aX X.K Hi O τ σ H)(s:aA H H'):∀{rs:List RV}{us:List V},bQ X Hi O H H' rs us->aE X.K Hi false (rs.map RV.val) H' us
 | [],_,h=>by cases h;exact .nil
 | r::rs,_,h=>by
  obtain⟨u,vs,rfl,a,b⟩:=h;exact .cons (a.val R s) (bQ.vals R s b)
theorem bQ.keeps{O:List Addr}{σ:L2.St}{H H' :Hp}(R:aX X.K Hi O τ σ H)(s:aA H H'):∀{rs:List RV}{us:List V}{vs:List PV}{n:Bool},bQ X Hi O H H' rs us->IR.keeps rs=some (vs,n)->aE X.K Hi n vs (aN H' O) us
 | [],_,_,_,h,e=>by cases h;cases e;exact .nil
 | r::rs,_,vs,n,h,e=>by
  obtain⟨u,ws,rfl,a,b⟩:=h;unfold IR.keeps at e;cases hk:r.keep with
  | none=>rw[hk]at e;cases e
  | some p =>
   obtain⟨v,n1⟩:=p;rw[hk]at e;cases hs:IR.keeps rs with
   | none=>rw[hs]at e;cases e
   | some p =>
    obtain⟨vs',n2⟩:=p;rw[hs]at e;cases e;refine .cons ((a.keep R s hk).low fun z=> ?_) ((bQ.keeps R s b hs).low fun z=> ?_)
    ·rw[CZ]at z;exact z.1
    ·rw[CZ]at z;exact z.2
theorem dP{v:PV}{u:V}{O:List Addr}{H H' :Hp}(h:∀G,Rp X.K Hi true v G u):aT X.K Hi O H H' (sc v) u:=h _
theorem tf{c:Const}{k:Nat}{pos:Pos}{r:RV}{cd:Nat->List PV->Option PV}(h:aU cd (jD c) τ=some r):aG X Hi τ (.Constant c k pos) r:=by
 intro O σ H Q R q;cases c with
 | int i =>
  cases h;exact we mR (q _ _ (aA.refl _) (dP fun _=>Rp.int.mpr rfl))
 | bool b =>
  cases h;exact we iW (q _ _ (aA.refl _) (dP fun _=>Rp.bl.mpr rfl))
 | str b =>
  cases h;exact we gU (q _ _ (aA.refl _) (dP fun _=>Rp.str.mpr rfl))
 | none =>
  cases h;exact we mQ (q _ _ (aA.refl _) (dP fun _=>Rp.non.mpr rfl))
 | _=>cases h
theorem li{S:List (Str×NameKind)}{sc:Scope}(e:sc.names=S){x:Str}(h:Aj S x=true):CH sc x:=by
 unfold Aj at h;unfold CH;rw[e]
 simpa [Dq,or_assoc]using h
theorem bP{x:Str}(h:qI x=false):(x==("__debug__":Str))=false/\(x==("__classdict__":Str))=false/\x≠"__name__":=by
 unfold qI at h;simp only[Bool.or_eq_false_iff]at h;exact⟨h.1.1,h.1.2,fun e=>by rw[e]at h;simp at h⟩
theorem vq{cd:Nat->List PV->Option PV}{ct:Ct}(C:bC cd X ct){x:Str}{pos:Pos}{r:RV}(h:aU cd (jC ct x) τ=some r):aG X Hi τ (.Name x pos) r:=by
 intro O σ H Q R q;unfold jC at h
 split at h
 ·simp[cI,b8,cL,cQ,cJ,cN,cB,cC,cR,cK,cM,cD,cE,b9,cS,cT,cH,cA,cG,cF,cP]at h
 rename_i ho;obtain⟨o1,o2,o3⟩:=bP (DZ.mpr ho)
 split at h
 ·rename_i hv
  cases hs:slot ct.N x with
  | none=>rw[hs]at h;simp[cI,b8,cL,cQ,cJ,cN,cB,cC,cR,cK,cM,cD,cE,b9,cS,cT,cH,cA,cG,cF,cP]at h
  | some i =>
   rw[hs]at h;have h:ml τ i=some r:=by simpa [cI,b8,cL,cQ,cJ,cN,cB,cC,cR,cK,cM,cD,cE,b9,cS,cT,cH,cA,cG,cF,cP]using h
   refine we (jT (by rw[C.N];exact dE hs) (li C.S hv) o1 o2) ?_;unfold ml at h;cases ht:τ[i]? with
   | none=>rw[ht]at h;cases h
   | some t =>
    rw[ht]at h;cases t with
    | un=>cases h
    | frz v n =>
     cases h;obtain⟨u,h1,h2⟩:=R.frz i v n ht;exact⟨u,h1,q u H (aA.refl _) h2⟩
    | own xs n =>
     cases h;obtain⟨l,us,h1,h2,h3,h4⟩:=R.owns i xs n ht;refine⟨_,h1,q _ H (aA.refl _) ?_⟩;refine Rp.lst.mpr ⟨l,us,rfl,(fun z=>absurd z Cg),ar.of h3,h4.weak.mono fun b o e=> ?_⟩;unfold aN at e
     split at e
     ·cases e
     ·rename_i nb
      unfold del;have ne:b≠l:=fun z=>nb (z▸h2);rw[Ci ne];exact e
    | owd b xs n =>
     cases h;obtain⟨l,us,o,h1,h2,h3,ha,h4⟩:=R.obs i _ b xs n ht rfl;refine⟨_,h1,q _ H (aA.refl _) ?_⟩;refine Rp.at (fun z=>absurd z Cg) h3 ha (h4.weak.mono fun c o e=> ?_);unfold aN at e
     split at e
     ·cases e
     ·rename_i nb
      unfold del;have ne:c≠l:=fun z=>nb (z▸h2);rw[Ci ne];exact e
 ·split at h
  ·rename_i hg
   cases hx:ct.G.lookup x with
   | none=>rw[hx]at h;simp[cI,b8,cL,cQ,cJ,cN,cB,cC,cR,cK,cM,cD,cE,b9,cS,cT,cH,cA,cG,cF,cP]at h
   | some v =>
    rw[hx]at h;have h:some (sc v)=some r:=by simpa [cI,b8,cL,cQ,cJ,cN,cB,cC,cR,cK,cM,cD,cE,b9,cS,cT,cH,cA,cG,cF,cP]using h
    cases h;obtain⟨u,w,h1,h2,h3⟩:=C.glob x v hx;have g:Gl X x:=by
     show X.env.scope.names.lookup x=_;rw[C.S]
     simpa using hg
    exact we (d0 g h1 h2 o1) (q _ _ (aA.refl _) (dP fun _=>h3 _ _ _))
  ·simp[cI,b8,cL,cQ,cJ,cN,cB,cC,cR,cK,cM,cD,cE,b9,cS,cT,cH,cA,cG,cF,cP]at h
theorem dB{a b:Expr}{op:Operator}{pos:Pos}{x y r:RV}{rr:R2}(ho:cg X (binaryOp op) rr)(ha:aG X Hi τ a x)(hb:aG X Hi τ b y)
  (k:∀(O:List Addr)(σ:L2.St)(H H2:Hp)(u v:V)(Q:VK),aX X.K Hi O τ σ H->aA H H2->aT X.K Hi O H H2 x u->aT X.K Hi O H H2 y v->(∀w H3,aA H2 H3->aT X.K Hi O H H3 r w->Q w H3)->rr u v H2 Q) :
  aG X Hi τ (.BinOp a op b pos) r:=by
 intro O σ H Q R q;refine we (xQ ho aW aW) ?_;refine ha O σ H _ R fun u H1 s1 r1=>hb O σ H1 _ (R.ext s1) fun v H2 s2 r2=> ?_;exact k O σ H H2 u v Q R (s1.trans s2) (r1.ext s2) (r2.back s1) fun w H3 s3 r3=>q w H3 (s1.trans (s2.trans s3)) r3
theorem aT.int{O:List Addr}{σ:L2.St}{H H' :Hp}{x:RV}{u:V}{i:Int}(R:aX X.K Hi O τ σ H)(s:aA H H')(h:aT X.K Hi O H H' x u)(e:x.val=.int i):u=.int i:=by
 have z:=h.val R s;rw[e]at z;exact Rp.int.mp z
theorem aT.str{O:List Addr}{σ:L2.St}{H H' :Hp}{x:RV}{u:V}{i:Str}(R:aX X.K Hi O τ σ H)(s:aA H H')(h:aT X.K Hi O H H' x u)(e:x.val=.str i):u=.str i:=by
 have z:=h.val R s;rw[e]at z;exact Rp.str.mp z
theorem aT.bl{O:List Addr}{σ:L2.St}{H H' :Hp}{x:RV}{u:V}{i:Bool}(R:aX X.K Hi O τ σ H)(s:aA H H')(h:aT X.K Hi O H H' x u)(e:x.val=.bl i):u=.bl i:=by
 have z:=h.val R s;rw[e]at z;exact Rp.bl.mp z
theorem aT.tup{O:List Addr}{σ:L2.St}{H H' :Hp}{x:RV}{u:V}{ys:List PV}(R:aX X.K Hi O τ σ H)(s:aA H H')(h:aT X.K Hi O H H' x u)(e:x.val=.tup ys):∃p us,u=.ref p/\bL X.K H' p us/\aE X.K Hi false ys H' us:=by
 have z:=h.val R s;rw[e]at z;exact Rp.tup.mp z
theorem aT.lst{O:List Addr}{σ:L2.St}{H H' :Hp}{x:RV}{u:V}{ys:List PV}(R:aX X.K Hi O τ σ H)(s:aA H H')(h:aT X.K Hi O H H' x u)(e:x.val=.lst ys):∃p us,u=.ref p/\ar X.K H' p us/\aE X.K Hi false ys H' us:=by
 have z:=h.val R s;rw[e]at z;obtain⟨p,us,h1,_,h2,h3⟩:=Rp.lst.mp z;exact⟨p,us,h1,h2,h3.mono al⟩
theorem aT.itsL{O:List Addr}{σ:L2.St}{H H' :Hp}{r:RV}{u:V}{xs ys:List PV}{n:Bool}(R:aX X.K Hi O τ σ H)(s:aA H H')(h:aT X.K Hi O H H' r u)(e:r.its=some (xs,n))(ev:r.val=.lst ys) :
  ∃p us,u=.ref p/\ar X.K H' p us/\aE X.K Hi n xs (aN H' O) us:=by
 obtain⟨p,us,h1,h2,h3⟩:=h.its R s e
 rcases h2 with⟨h2,_⟩|⟨_,zs,h2⟩
 ·exact⟨p,us,h1,h2,h3⟩
 ·rw[ev]at h2
  cases h2
theorem aT.itsT{O:List Addr}{σ:L2.St}{H H' :Hp}{r:RV}{u:V}{xs ys:List PV}{n:Bool}(R:aX X.K Hi O τ σ H)(s:aA H H')(h:aT X.K Hi O H H' r u)(e:r.its=some (xs,n))(ev:r.val=.tup ys) :
  ∃p us,u=.ref p/\bL X.K H' p us/\aE X.K Hi n xs (aN H' O) us:=by
 obtain⟨p,us,h1,h2,h3⟩:=h.its R s e
 rcases h2 with⟨_,zs,h2⟩|⟨h2,_⟩
 ·rw[ev]at h2
  cases h2
 ·exact⟨p,us,h1,h2,h3⟩
theorem cW{O:List Addr}{H H2:Hp}{xs:List PV}{n:Bool}{p:Addr}{us:List V}(s:aA H H2)(hp:H2 p=none)(r:aE X.K Hi n xs (aN H2 O) us):aT X.K Hi O H (L2.upd H2 p (.lst us)) (.own xs n) (.ref p):=by
 refine⟨p,us,rfl,s.free hp,aJ,r.mono (aF fun b o e=> ?_)⟩;have ne:=aH e hp;unfold del;rw[Ci ne,aD ne];exact e
theorem gA{O:List Addr}{σ:L2.St}{H H2:Hp}{p:Addr}{o:HO}(R:aX X.K Hi O τ σ H)(s:aA H H2)(hp:H2 p=none):aN (L2.upd H2 p o) O p=some o:=by
 unfold aN;rw[Ci fun z=> ?_]
 ·exact aJ
 ·obtain⟨us,e,_⟩:=(R.own p z).2
  rw[s _ _ e]at hp;cases hp
theorem oJ{O:List Addr}{σ:L2.St}{H H2:Hp}{p:Addr}{us:List V}(R:aX X.K Hi O τ σ H)(s:aA H H2)(h:bL X.K H2 p us):bL X.K (aN H2 O) p us:=(R.ext s).tups.at h
theorem vy{n m:Bool}{xs ys:List PV}{H:Hp}{us vs:List V}(a:aE X.K Hi n xs H us)(b:aE X.K Hi m ys H vs):aE X.K Hi (n&&m) (xs++ys) H (us++vs):=by
 refine aE.app (a.low fun z=> ?_) (b.low fun z=> ?_)
 ·rw[CZ]at z;exact z.1
 ·rw[CZ]at z;exact z.2
theorem o0{O:List Addr}{H H' :Hp}{i:Int}:aT X.K Hi O H H' (sc (.int i)) (.int i):=dP fun _=>Rp.int.mpr rfl
theorem AZ{O:List Addr}{H H' :Hp}{i:Bool}:aT X.K Hi O H H' (sc (.bl i)) (.bl i):=dP fun _=>Rp.bl.mpr rfl
theorem AY{O:List Addr}{H H' :Hp}{i:Str}:aT X.K Hi O H H' (sc (.str i)) (.str i):=dP fun _=>Rp.str.mpr rfl
theorem oA{xs:List PV}{n:Bool}{r:RV}(h:kX xs n=some r):xs.length<=LN/\r=.own xs n:=by
 unfold kX at h
 split at h
 ·rename_i e;cases h;exact⟨e,rfl⟩
 ·cases h
theorem jW{xs:List PV}{n:Bool}{r:RV}(h:jX xs n=some r):xs.length<=LN/\r=.frz (.tup xs) n:=by
 unfold jX at h
 split at h
 ·rename_i e;cases h;exact⟨e,rfl⟩
 ·cases h
theorem binI{a b:Expr}{op:Operator}{pos:Pos}{x y:RV}{i j:Int}{C:Int->Int->Prop}{g:Int->Int->V}{w:PV}(ho:cg X (binaryOp op) (rI C g))(ha:aG X Hi τ a x)(hb:aG X Hi τ b y)(ex:x.val=.int i)(ey:y.val=.int j)(c:C i j)
  (hg:∀G,Rp X.K Hi true w G (g i j)):aG X Hi τ (.BinOp a op b pos) (sc w) :=
 dB ho ha hb fun O σ H H2 u v Q R s ru rv q=>⟨i,j,ru.int R s ex,rv.int R s ey,c,q _ _ (aA.refl _) (dP hg)⟩
theorem xg{a b:Expr}{op:Operator}{pos:Pos}{x y:RV}{i j:Int}{g:Int->Int->V}{w:PV}(ho:cg X (binaryOp op) (vL g))(ha:aG X Hi τ a x)(hb:aG X Hi τ b y)(ex:x.val=.int i)(ey:y.val=.int j)
  (hg:∀G,Rp X.K Hi true w G (g i j)):aG X Hi τ (.BinOp a op b pos) (sc w) :=
 dB ho ha hb fun O σ H H2 u v Q R s ru rv q=>⟨i,j,ru.int R s ex,rv.int R s ey,q _ _ (aA.refl _) (dP hg)⟩
theorem ky(a:Array Nat):∀(m:Nat)(acc:Array Nat),((List.replicate m a).foldl (·++·) acc).toList=acc.toList++(List.replicate m a.toList).flatten
 | 0,acc=>by simp
 | m+1,acc=>by
  rw[DD,List.foldl_cons,ky a m,DD,DP];simp
theorem yz{z:Str}{n:Nat}(h:z.length=1):Txt.mul z (n:Int)=(⟨(List.replicate n z.cps.toList).flatten.toArray⟩:Str):=by
 refine UM.ft ?_;unfold Txt.mul
 split
 ·rename_i c
  have:n=0:=by omega
  subst this;rfl
 ·split
  ·rename_i c1 c
   have:n=1:=by
    rw[h]at c;simp at c;omega
   subst this;simp
  ·rw[DQ]
   have:=ky z.cps n #[]
   simpa using this
theorem aE.rep{n:Bool}{xs:List PV}{H:Hp}{us:List V}(h:aE X.K Hi n xs H us):∀k:Nat,aE X.K Hi n (List.replicate k xs).flatten H (List.replicate k us).flatten
 | 0=>by simp;exact .nil
 | k+1=>by
  rw[DD,DP,DD,DP];exact h.app (aE.rep h k)
theorem aE.rep1{K:W.Frag}{Hi:Hp}{n:Bool}{x:PV}{H:Hp}{u:V}(a:Rp K Hi n x H u):∀m:Nat,aE K Hi n (List.replicate m [x]).flatten H (List.replicate m u)
 | 0=>.nil
 | m+1=>by
  rw[DD,DP];exact .cons a (aE.rep1 a m)
theorem uD{a b:Expr}{op:Operator}{pos:Pos}{x y r:RV}(ha:aG X Hi τ a x)(hb:aG X Hi τ b y)(h:bX op x y=some r):aG X Hi τ (.BinOp a op b pos) r:=by
 cases op with
 | Add =>
  have h:nN x y=some r:=h;unfold nN at h
  split at h
  case h_1 i j e1 e2=>cases h;exact xg yp ha hb e1 e2 fun _=>Rp.int.mpr rfl
  case h_2 i j e1 e2 =>
   split at h
   ·rename_i hz
    cases h;exact dB mT ha hb fun O σ H H2 u v Q R s ru rv q=>⟨i,j,ru.str R s e1,rv.str R s e2,by rw[bW];exact hz,q _ _ (aA.refl _) AY⟩
   ·cases h
  case h_3 e1 e2 =>
   split at h
   ·rename_i xs n ys m ix iy
    obtain⟨hz,rfl⟩:=oA h;refine dB n6 ha hb fun O σ H H2 u v Q R s ru rv q=> ?_;obtain⟨p,us,rfl,l1,r1⟩:=ru.itsL R s ix e1;obtain⟨p2,us2,rfl,l2,r2⟩:=rv.itsL R s iy e2;have z1:=r1.len;have z2:=r2.len;rw[Cm]at hz;exact⟨p,p2,us,us2,rfl,rfl,l1,l2,by rw[bW,<-z1,<-z2];exact hz,fun p3 hp=>q _ _ (aQ hp _) (cW s hp (vy r1 r2))⟩
   ·cases h
  case h_4 e1 e2 =>
   split at h
   ·rename_i xs n ys m ix iy
    obtain⟨hz,rfl⟩:=jW h;refine dB vh ha hb fun O σ H H2 u v Q R s ru rv q=> ?_;obtain⟨p,us,rfl,l1,r1⟩:=ru.itsT R s ix e1;obtain⟨p2,us2,rfl,l2,r2⟩:=rv.itsT R s iy e2;have z1:=r1.len;have z2:=r2.len;rw[Cm]at hz;exact⟨p,p2,us,us2,rfl,rfl,l1,l2,by rw[bW,<-z1,<-z2];exact hz,fun p3 H3 s3 l3=>q _ _ s3 (Rp.tup.mpr ⟨p3,_,rfl,oJ R (s.trans s3) l3,(vy r1 r2).mono (aF s3)⟩)⟩
   ·cases h
  case h_5=>cases h
 | Sub =>
  have h:nK x y=some r:=h;unfold nK at h
  split at h
  case h_1 i j e1 e2=>cases h;exact xg yf ha hb e1 e2 fun _=>Rp.int.mpr rfl
  case h_2=>cases h
 | Mult =>
  have h:jt x y=some r:=h;unfold jt at h
  split at h
  case h_1 i j e1 e2 =>
   split at h
   ·rename_i c
    cases h;exact binI yi ha hb e1 e2 c fun _=>Rp.int.mpr rfl
   ·split at h
    ·rename_i c
     cases h;exact binI vg ha hb e1 e2 c fun _=>Rp.int.mpr rfl
    ·cases h
  case h_2 k e1 e2 =>
   split at h
   ·rename_i xs n
    split at h
    ·rename_i c
     cases h;refine dB yh ha hb fun O σ H H2 u v Q R s ru rv q=> ?_;obtain⟨p,us,rfl,l0,l1,r1⟩:=ru;have z1:=r1.len;refine⟨p,k,us,rfl,rv.int R s e2,l1,by omega,by omega,by rw[bW,<-z1];exact c.2.2,fun p3 hp=>q _ _ (aQ hp _) (cW s hp ((r1.mono (aF al)).rep _))⟩
    ·cases h
   ·cases h
  case h_3 k e1 e2 =>
   split at h
   ·rename_i xs n ix
    split at h
    ·rename_i c
     obtain⟨n3,n8,c2⟩:=c;obtain⟨hz,rfl⟩:=jW h;refine dB sA ha hb fun O σ H H2 u v Q R s ru rv q=> ?_;obtain⟨p,us,rfl,l1,r1⟩:=ru.itsT R s ix e1;obtain⟨x1,rfl⟩:∃x1,xs=[x1]:=by
      match xs,c2 with
      | [x1],_=>exact⟨x1,rfl⟩
     have r1' :=r1;unfold aE at r1';obtain⟨u1,us',rfl,a1,b1⟩:=r1';unfold aE at b1;subst b1;refine⟨p,u1,k,rfl,rv.int R s e2,n3,n8,l1,fun p3 hp=>q _ _ (aQ hp _) (Rp.tup.mpr ⟨p3,_,rfl,bL.of (gA R s hp),?_⟩)⟩;exact aE.rep1 (Rp.mono (aF (O:=O) (aQ hp (.tup (List.replicate k.toNat u1)))) a1) _
    ·cases h
   ·cases h
  case h_4 z k e1 e2 =>
   split at h
   ·rename_i c
    cases h;refine dB (rr:=fun x y H Q=>∃(z:Str)(n:Nat),x=.str z/\y=.int n/\z.length=1/\n<=1000/\Q (.str (Txt.mul z (n:Int))) H) ?_ ha hb fun O σ H H2 u v Q R s ru rv q=> ?_
    ·intro pins s σ H x y u v Q I rx ry h
     obtain⟨z,n,rfl,rfl,hz,hn,q⟩:=h;obtain⟨t,rfl⟩:=rx;obtain⟨t',rfl⟩:=ry;exact SB.mul (mulOk_of 16 1048576 (by omega) (by omega) (by omega) (by decide) (by decide)) fun t2 k=>⟨.str _,H,I.tok _,⟨_,rfl⟩,q⟩
    ·refine⟨z,k.toNat,ru.str R s e1,by rw[rv.int R s e2];congr 1;omega,c.2.2,by omega,?_⟩
     rw[yz c.2.2];exact q _ _ (aA.refl _) AY
   ·cases h
  case h_5=>cases h
 | FloorDiv =>
  have h:dC x y=some r:=h;unfold dC at h
  split at h
  case h_1 i j e1 e2 =>
   split at h
   ·rename_i c
    cases h;exact binI sH ha hb e1 e2 ⟨c.1,D2 ((Nat.log2_lt (n:=j.natAbs) (k:=200) (by omega)).mpr (by omega)) (by decide)⟩ fun _=>Rp.int.mpr rfl
   ·cases h
  case h_2=>cases h
 | Mod =>
  have h:nM x y=some r:=h;unfold nM at h
  split at h
  case h_1 i j e1 e2 =>
   split at h
   ·rename_i c
    cases h;exact binI yj ha hb e1 e2 c fun _=>Rp.int.mpr rfl
   ·cases h
  case h_2=>cases h
 | LShift =>
  have h:fB x y=some r:=h;unfold fB at h
  split at h
  case h_1 i j e1 e2 =>
   split at h
   ·rename_i c
    cases h;exact binI yg ha hb e1 e2 c fun _=>Rp.int.mpr rfl
   ·cases h
  case h_2=>cases h
 | _=>exact absurd (show(none:Option RV)=some r from h) (by intro z;cases z)
mutual
theorem bJ{pins:List (Addr×Obj)}{σ:L2.St}{H:Hp}{s:Shared}(I:Inv X pins σ H s):∀{a:PV}{n:Nat}{u:V}{u' :Value},gl n a=true->Rp X.K Hi false a H u->RelV u u' ->∃as,Reads s.heap u' (k9 a) as
 | .non,_,_,_,_,r,e=>by cases Rp.non.mp r;cases e;exact⟨_,.none⟩
 | .bl b,_,_,_,_,r,e=>by cases Rp.bl.mp r;cases e;exact⟨_,.bool b⟩
 | .int i,_,_,_,_,r,e=>by cases Rp.int.mp r;obtain⟨t,rfl⟩:=e;exact⟨_,.int i t⟩
 | .str z,_,_,_,_,r,e=>by cases Rp.str.mp r;obtain⟨t,rfl⟩:=e;exact⟨_,.str z t⟩
 | .lst xs,n,_,_,f,r,e=>by
  obtain⟨p,us,rfl,_,l,r⟩:=Rp.lst.mp r;cases e;cases n with
  | zero=>cases f
  | succ n =>
   obtain⟨its,rv,pl,_⟩:=I.list l;obtain⟨as,z⟩:=dY I (xs:=xs) (n:=n) f (r.mono al) rv;obtain⟨o,ho,hc,m,hd⟩:=pl.isList;exact⟨_,.list ho hc hd (by simpa using z)⟩
 | .tup xs,n,_,_,f,r,e=>by
  obtain⟨p,us,rfl,l,r⟩:=Rp.tup.mp r;cases e;cases n with
  | zero=>cases f
  | succ n =>
   obtain⟨its,rv,pl,_⟩:=I.tuple l;obtain⟨as,z⟩:=dY I (xs:=xs) (n:=n) f r rv;obtain⟨o,ho,hc,m,hd⟩:=pl;exact⟨_,.tuple ho hc hd (by simpa using z)⟩
 | .dK _ _,n,_,_,f,_,_=>by cases n<;>cases f
 | .dT _ _,n,_,_,f,_,_=>by cases n<;>cases f
theorem dY{pins:List (Addr×Obj)}{σ:L2.St}{H:Hp}{s:Shared}(I:Inv X pins σ H s):∀{xs:List PV}{n:Nat}{us:List V}{us' :List Value},xs.all (gl n)=true->aE X.K Hi false xs H us->aK us us' ->∃as,ReadsAll s.heap us' (cc xs) as
 | [],_,_,_,_,r,e=>by
  unfold aE at r;subst r;cases e;exact⟨_,.nil⟩
 | x::xs,n,_,_,f,r,e=>by
  unfold aE at r;obtain⟨u,us,rfl,r1,r2⟩:=r;cases e with
  | cons e1 e2 =>
   rw[List.all_cons,CZ]at f;obtain⟨as,z⟩:=bJ I f.1 r1 e1;obtain⟨bs,y⟩:=dY I f.2 r2 e2;exact⟨_,.cons z y⟩
end
mutual
theorem cY:∀{a:PV}{n:Nat},gl n a=true->(k9 a).canLay0=true/\(k9 a).depth<=n
 | .non,n,_=>⟨rfl,DH _⟩
 | .bl _,n,_=>⟨rfl,DH _⟩
 | .int _,n,_=>⟨rfl,DH _⟩
 | .str z,n,h=>⟨by cases n<;>exact h,DH _⟩
 | .lst xs,0,h=>by cases h
 | .lst xs,n+1,h=>⟨(cz (xs:=xs) (n:=n) h).1,Nat.succ_le_succ (cz (xs:=xs) (n:=n) h).2⟩
 | .tup xs,0,h=>by cases h
 | .tup xs,n+1,h=>⟨(cz (xs:=xs) (n:=n) h).1,Nat.succ_le_succ (cz (xs:=xs) (n:=n) h).2⟩
 | .dK _ _,n,h=>by cases n<;>cases h
 | .dT _ _,n,h=>by cases n<;>cases h
theorem cz:∀{xs:List PV}{n:Nat},xs.all (gl n)=true->PyData.canLayAll0 (cc xs)=true/\PyData.depthAll (cc xs)<=n
 | [],n,_=>⟨rfl,DH _⟩
 | x::xs,n,h=>by
  rw[List.all_cons,CZ]at h;obtain⟨a,b⟩:=cY h.1;obtain⟨c,d⟩:=cz h.2;refine⟨?_,?_⟩
  ·show((k9 x).canLay0&&PyData.canLayAll0 (cc xs))=true
   rw[a,c];rfl
  ·show max (k9 x).depth (PyData.depthAll (cc xs))<=n
   omega
end
mutual
theorem gB:∀(a b:PV),PyData.eqv (k9 a) (k9 b)=oO a b
 | .lst xs,b=>by
  cases b with
  | lst ys=>show PyData.eqvAll (cc xs) (cc ys)=mq xs ys;exact gm xs ys
  | _=>rfl
 | .tup xs,b=>by
  cases b with
  | tup ys=>show PyData.eqvAll (cc xs) (cc ys)=mq xs ys;exact gm xs ys
  | _=>rfl
 | .non,b=>by cases b<;>rfl
 | .bl x,b=>by cases b<;>first|rfl|exact beq_eq_decide _ _|(unfold oO;simp[k9,PyData.eqv,eqf,Bool.beq_eq_decide_eq])
 | .int x,b=>by cases b<;>first|rfl|exact beq_eq_decide _ _|(unfold oO;simp[k9,PyData.eqv,eqf,Bool.beq_eq_decide_eq])
 | .str x,b=>by cases b<;>first|rfl|exact beq_eq_decide _ _|(unfold oO;simp[k9,PyData.eqv,eqf,Bool.beq_eq_decide_eq])
 | .dK k v,b=>by cases b<;>rfl
 | .dT k v,b=>by cases b<;>rfl
theorem gm:∀(xs ys:List PV),PyData.eqvAll (cc xs) (cc ys)=mq xs ys
 | [],[]=>rfl
 | [],_::_=>rfl
 | _::_,[]=>rfl
 | x::xs,y::ys=>by
  show(PyData.eqv (k9 x) (k9 y)&&PyData.eqvAll (cc xs) (cc ys))=(oO x y&&mq xs ys);rw[gB x y,gm xs ys]
end
variable(X Hi)in
noncomputable def BB(g:Bool->Bool):R2:=fun x y H Q=>∃a b,gl 12 a=true/\gl 12 b=true/\Rp X.K Hi false a H x/\Rp X.K Hi false b H y/\Q (.bl (g (oO a b))) H
theorem yn(hu:X.A.units+64<cLine):cg X (compareOp .Eq) (BB X Hi id):=by
 intro pins s σ H x y u v Q I rx ry h;obtain⟨a,b,fa,fb,ra,rb,q⟩:=h;obtain⟨as,za⟩:=bJ I fa ra rx;obtain⟨bs,zb⟩:=bJ I fb rb ry;obtain⟨ca,da⟩:=cY fa;obtain⟨cb,db⟩:=cY fb;refine SeqAt.compareEq_reads za zb ca cb (by omega) ?_;rw[gB];exact⟨.bl _,H,I,rfl,q⟩
theorem rq(hu:X.A.units+64<cLine):cg X (compareOp .NotEq) (BB X Hi not):=by
 intro pins s σ H x y u v Q I rx ry h;obtain⟨a,b,fa,fb,ra,rb,q⟩:=h;obtain⟨as,za⟩:=bJ I fa ra rx;obtain⟨bs,zb⟩:=bJ I fb rb ry;obtain⟨ca,da⟩:=cY fa;obtain⟨cb,db⟩:=cY fb;refine SeqAt.compareNe_reads za zb ca cb (by omega) ?_;rw[gB];exact⟨.bl _,H,I,rfl,q⟩
noncomputable def lN(op:CmpOp)(A:Around)(s:Shared)(a b:Value)(t:Bool):Prop:=∀(prog:Program)(w:World)(E:Value->Shared->Prop)(Q:Value->Shared->Prop),Q (.bool t) s->wpAny (model prog w) A (richCompare op a b) Q E s
inductive OW(op:CmpOp)(A:Around)(s:Shared):List (Value×Value)->Option Bool->Prop
 | nil:OW op A s [] none
 | eq {p q:Value} {r:List (Value×Value)} {t:Option Bool}:SeqAt.EqAt A s p q true->OW op A s r t->OW op A s ((p,q)::r) t
 | ne {p q:Value} {r:List (Value×Value)} {t:Bool}:SeqAt.EqAt A s p q false->lN op A s p q t->OW op A s ((p,q)::r) (some t)
structure TOp(op:CmpOp)(f:Int->Int->Bool)(g:Nat->Nat->Bool):Prop where
 int:∀{A:Around}{s:Shared}{i j:Int}{t t' :Tok},lN op A s (.int i t) (.int j t') (f i j)
 tup:∀{A:Around}{s:Shared}{l b:Addr}{xs ys:Array Value}{t:Option Bool},s.heap.IsTuple l xs->s.heap.IsTuple b ys->A.units<cLine->OW op A.in1 s (xs.toList.zip ys.toList) t->lN op A s (.ref l) (.ref b) (t.getD (g xs.size ys.size))
 co:∀a b:Value,compareOp op a b=richCompare op a b
 s1:∀n,g (n+1) 0=g 1 0
 s2:∀a b,g (a+1) (b+1)=g a b
theorem eS{h:Heap}:∀{xs:List PV}{vs:List Value}{as:List Addr},ReadsAll h vs (cc xs) as->vs.length=xs.length
 | [],_,_,r=>by cases r;rfl
 | x::xs,_,_,r=>by
  cases r with
  | cons a b=>rw[C3,C3,eS b]
mutual
theorem tw{op:CmpOp}{f:Int->Int->Bool}{g:Nat->Nat->Bool}(T:TOp op f g):∀{x y:PV}{n:Nat}{A:Around}{s:Shared}{a b:Value}{as bs:List Addr}{t:Bool},Reads s.heap a (k9 x) as->Reads s.heap b (k9 y) bs->gl n x=true->gl n y=true->A.units+n<cLine->B6 f g x y=some t->lN op A s a b t
 | .int i,y,_,_,_,_,_,_,_,_,ra,rb,_,_,_,h=>by
  cases y with
  | int j =>
   cases h;cases ra;cases rb;exact T.int
  | _=>cases h
 | .tup xs,y,n,A,s,_,_,_,_,t,ra,rb,fa,fb,hu,h=>by
  cases y with
  | tup ys =>
   cases n with
   | zero=>cases fa
   | succ n =>
    cases ra with
    | @tuple l o vs m _ _ h1 h2 h3 h4 =>
     cases rb with
     | @tuple l' o' ws m' _ _ k1 k2 k3 k4 =>
      obtain⟨o,ow,e⟩:=oW T (A:=A.in1) (n:=n) h4 k4 fa fb (by show A.units+1+n<cLine;omega) h;rw[Cn,Cn]at e;rw[e];exact T.tup ⟨_,h1,h2,_,h3⟩ ⟨_,k1,k2,_,k3⟩ (by omega) ow
  | _=>cases h
 | .non,_,_,_,_,_,_,_,_,_,_,_,_,_,_,h=>by cases h
 | .bl _,_,_,_,_,_,_,_,_,_,_,_,_,_,_,h=>by cases h
 | .str _,_,_,_,_,_,_,_,_,_,_,_,_,_,_,h=>by cases h
 | .lst _,_,_,_,_,_,_,_,_,_,_,_,_,_,_,h=>by cases h
 | .dK _ _,_,_,_,_,_,_,_,_,_,_,_,_,_,_,h=>by cases h
 | .dT _ _,_,_,_,_,_,_,_,_,_,_,_,_,_,_,h=>by cases h
theorem oW{op:CmpOp}{f:Int->Int->Bool}{g:Nat->Nat->Bool}(T:TOp op f g):∀{xs ys:List PV}{n:Nat}{A:Around}{s:Shared}{vs ws:List Value}{as bs:List Addr}{t:Bool},ReadsAll s.heap vs (cc xs) as->ReadsAll s.heap ws (cc ys) bs->xs.all (gl n)=true->ys.all (gl n)=true->A.units+n<cLine->wY f g xs ys=some t ->
  ∃o:Option Bool,OW op A s (vs.zip ws) o/\t=o.getD (g vs.length ws.length)
 | [],ys,_,_,_,_,_,_,_,_,ra,rb,_,_,_,h=>by
  cases h;cases ra;exact⟨none,.nil,by rw[eS rb];rfl⟩
 | x::xs,[],_,_,_,_,_,_,_,_,ra,rb,_,_,_,h=>by
  cases h;cases rb;exact⟨none,by rw[List.zip_nil_right];exact .nil,by rw[eS ra];exact(T.s1 _).symm⟩
 | x::xs,y::ys,n,A,s,_,_,_,_,t,ra,rb,fa,fb,hu,h=>by
  rw[List.all_cons,CZ]at fa fb;cases ra with
  | cons r rs =>
   cases rb with
   | cons r' rs' =>
    obtain⟨c1,d1⟩:=cY fa.1;obtain⟨c2,d2⟩:=cY fb.1;have he:=SeqAt.eqAt_reads (k9 x) (k9 y) A s _ _ _ _ r r' c1 c2 (by omega);rw[gB]at he;have h:(if oO x y=true then wY f g xs ys else B6 f g x y)=some t:=h;cases e:oO x y with
    | true =>
     rw[e]at h he;obtain⟨o,ow,z⟩:=oW T rs rs' fa.2 fb.2 hu h;refine⟨o,.eq he ow,?_⟩;rw[z,C3,C3,T.s2]
    | false =>
     rw[e]at h he;exact⟨some t,.ne he (tw T r r' fa.1 fb.1 hu h),rfl⟩
end
variable(X Hi)in
noncomputable def BC(f:Int->Int->Bool)(g:Nat->Nat->Bool):R2:=fun x y H Q=>∃a b t,gl 12 a=true/\gl 12 b=true/\Rp X.K Hi false a H x/\Rp X.K Hi false b H y/\B6 f g a b=some t/\Q (.bl t) H
theorem yo{op:CmpOp}{f:Int->Int->Bool}{g:Nat->Nat->Bool}(T:TOp op f g)(hu:X.A.units+64<cLine):cg X (compareOp op) (BC X Hi f g):=by
 intro pins s σ H x y u v Q I rx ry h;obtain⟨a,b,t,fa,fb,ra,rb,e,q⟩:=h;obtain⟨as,za⟩:=bJ I fa ra rx;obtain⟨bs,zb⟩:=bJ I fb rb ry;have z:=tw T (A:=X.A) za zb fa fb (by omega) e;rw[T.co];exact z _ _ _ _ ⟨.bl _,H,I,rfl,q⟩
theorem xw(l b:Addr)(xs ys:Array Value)(n n2:Nat)(d1 d2:Option Addr)(sl sl2:Array (Option Value)):Meets (Builtin.«tuple.__lt__» ⟨[.ref l,.ref b],[]⟩)
  (fun A R s=>s.heap.get? l=some ⟨.type "tuple",d1,.seq xs n,sl⟩/\s.heap.get? b=some ⟨.type "tuple",d2,.seq ys n2,sl2⟩ /\
   ∃t:Option Bool,OW .Lt A.in1 s (xs.toList.zip ys.toList) t/\R (.ok (.ret (.bool (t.getD (decide (xs.size<ys.size)))))) s) :=
 .of_wp fun prog w A R s h=>by
  obtain⟨hp,g,d,tk,os⟩:=s;obtain⟨h1,h2,t,ow,hR⟩:=h;have f2:=AutoSeq1.sub_tuple_tuple
  wp_walk using AutoSeq1.wpAny_loadPart' h1,AutoSeq1.wpAny_loadPart' h2,wpAny_forIn_list _ (fun aP c s' =>c.1=none/\s' =⟨hp,g,d,tk,os⟩/\∃t:Option Bool,OW .Lt A.in1 ⟨hp,g,d,tk,os⟩ aP t/\R (.ok (.ret (.bool (t.getD (decide (xs.size<ys.size)))))) ⟨hp,g,d,tk,os⟩) _
  case turn =>
   rintro⟨y,x⟩ aP c s' ⟨hc,rfl,t,ow,hR⟩;cases ow with
   | eq he ow =>
    refine CU (he prog w _ _ ?_)
    wp_walk
    exact⟨rfl,rfl,t,ow,hR⟩
   | ne he hl =>
    refine CU (he prog w _ _ ?_);refine CU (wpAny_rule (CU (hl prog w _ _ ?_)));refine CU (Ce (Ce ?_));exact Ce ⟨_,rfl,hR⟩
  case fin =>
   rintro⟨c1,c2⟩ s' ⟨hc,rfl,t,ow,hR⟩;cases ow;simp only at hc;subst hc
   wp_walk
   exact⟨_,rfl,by simpa [Builtin.Tuple.tupleCompareSizes]using hR⟩
  case h =>
   exact⟨rfl,rfl,t,ow,hR⟩
theorem pN{A:Around}{s:Shared}{l b:Addr}{xs ys:Array Value}{t:Option Bool}(hl:s.heap.IsTuple l xs)(hb:s.heap.IsTuple b ys)(hu:A.units<cLine)(ow:OW .Lt A.in1 s (xs.toList.zip ys.toList) t):lN .Lt A s (.ref l) (.ref b) (t.getD (decide (xs.size<ys.size))):=fun prog w E Q h=>by
 obtain⟨⟨c1,d1,x1,s1⟩,h1,e1,n,y1⟩:=id hl;obtain⟨⟨c2,d2,x2,s2⟩,h2,e2,m,y2⟩:=id hb;simp only at e1 y1 e2 y2;subst e1 y1 e2 y2;exact richCompare_meets_room (op:=.Lt) ⟨_,h1,rfl⟩ ⟨_,h2,rfl⟩ PySem.F.slot_tuple_lt PySem.F.entry_tuple_lt (PySem.F.args_tuple_lt_2 _ _) (xw l b xs ys n m d1 d2 s1 s2) ⟨h1,h2,t,ow,(fun z=>nomatch z),h⟩ hu
theorem BY:TOp .Lt (fun i j=>decide (i<j)) fun a b=>decide (a<b):=⟨fun _ _ _ _ q=>PyProof.Rows.lt_int q,pN,fun _ _=>rfl,fun n=>rfl,fun a b=>decide_eq_decide.mpr (by omega)⟩
theorem sE(hu:X.A.units+64<cLine):cg X (compareOp .Lt) (BC X Hi (fun i j=>decide (i<j)) fun a b=>decide (a<b)):=yo BY hu
theorem kh{y:PV}{k:aq}{n:Bool}{G:Hp}{v:V}(h:eC y=some k)(r:Rp X.K Hi n y G v):v=kV k:=by
 cases y with
 | int i=>cases h;exact Rp.int.mp r
 | str z=>cases h;exact Rp.str.mp r
 | _=>cases h
theorem Rp.dT{n:Bool}{ks:List (List aq)}{vs:List PV}{G:Hp}{u:V}(h:Rp X.K Hi n (.dT ks vs) G u):∃p us,u=.ref p/\G p=some (.dT (ks.zip us))/\ks.length=us.length/\aE X.K Hi n vs (IR.del G p) us:=by
 unfold Rp at h;obtain⟨p,us,e,_,h1,h2,h3⟩:=h;exact⟨p,us,e,h1,h2,h3⟩
theorem Rp.dK{n:Bool}{ks:List aq}{vs:List PV}{G:Hp}{u:V}(h:Rp X.K Hi n (.dK ks vs) G u):∃p us,u=.ref p/\G p=some (.dK (ks.zip us))/\ks.length=us.length/\aE X.K Hi n vs (IR.del G p) us:=by
 unfold Rp at h;obtain⟨p,us,e,_,h1,h2,h3⟩:=h;exact⟨p,us,e,h1,h2,h3⟩
end
section
variable{X:Cx}{Hi:Hp}
end
section
variable{X:Cx}{Hi:Hp}{τ:En}
theorem tS{a b:PV}{t:Bool}{H H' :Hp}{u v:V}(h:eqs a b=some t)(ha:Rp X.K Hi false a H u)(hb:Rp X.K Hi false b H' v):yO u v=true/\decide (u=v)=t:=by
  cases a<;>cases b<;>first
    | exact absurd (show(none:Option Bool)=some t from h) (by intro z;cases z)
    | (have e:=Cw (show some _=some t from h)
       subst e
       first
       | rw[Rp.int.mp ha]|rw[Rp.str.mp ha]|rw[Rp.bl.mp ha]|rw[Rp.non.mp ha]
       first
       | rw[Rp.int.mp hb]|rw[Rp.str.mp hb]|rw[Rp.bl.mp hb]|rw[Rp.non.mp hb]
       exact⟨rfl,by simp⟩)
theorem sO{a:PV}{H:Hp}{u:V}(ha:Rp X.K Hi false a H u)(h:∀z,a≠z\/z≠PV.non):u≠.non:=by
 intro e;subst e;cases a with
 | non=>rcases h .non with z|z<;>exact z rfl
 | bl b=>cases Rp.bl.mp ha
 | int b=>cases Rp.int.mp ha
 | str b=>cases Rp.str.mp ha
 | lst xs=>obtain⟨p,us,z,_⟩:=Rp.lst.mp ha;cases z
 | tup xs=>obtain⟨p,us,z,_⟩:=Rp.tup.mp ha;cases z
 | dK ks vs=>unfold Rp at ha;obtain⟨p,us,z,_⟩:=ha;cases z
 | dT ks vs=>unfold Rp at ha;obtain⟨p,us,z,_⟩:=ha;cases z
theorem lB(hun:X.A.units+64<cLine){op:CmpOp}{x y:RV}{t:Bool}(h:bE op x.val y.val=some t):∃rr:R2,cg X (compareOp op) rr /\
  ∀(O:List Addr)(σ:L2.St)(H H2:Hp)(u v:V)(Q:VK),aX X.K Hi O τ σ H->aA H H2->aT X.K Hi O H H2 x u->aT X.K Hi O H H2 y v->Q (.bl t) H2->rr u v H2 Q:=by
 cases op with
 | Lt =>
  have h:tm x.val y.val=some t:=h;unfold tm at h
  split at h
  case h_1 i j e1 e2=>cases h;exact⟨_,BN,fun O σ H H2 u v Q R s ru rv q=>⟨i,j,ru.int R s e1,rv.int R s e2,q⟩⟩
  case h_2 xs ys e1 e2 =>
   unfold ltT at h
   split at h
   ·rename_i c
    rw[CZ]at c;exact⟨_,sE (Hi:=Hi) hun,fun O σ H H2 u v Q R s ru rv q=>⟨_,_,t,c.1,c.2,by have z:=ru.val R s;rw[e1]at z;exact z,by have z:=rv.val R s;rw[e2]at z;exact z,h,q⟩⟩
   ·cases h
  case h_3=>cases h
 | LtE =>
  have h:nD x.val y.val=some t:=h;unfold nD at h
  split at h
  case h_1 i j e1 e2=>cases h;exact⟨_,BO,fun O σ H H2 u v Q R s ru rv q=>⟨i,j,ru.int R s e1,rv.int R s e2,q⟩⟩
  case h_2=>cases h
 | Gt =>
  have h:tu x.val y.val=some t:=h;unfold tu at h
  split at h
  case h_1 i j e1 e2=>cases h;exact⟨_,BP,fun O σ H H2 u v Q R s ru rv q=>⟨i,j,ru.int R s e1,rv.int R s e2,q⟩⟩
  case h_2=>cases h
 | GtE =>
  have h:nE x.val y.val=some t:=h;unfold nE at h
  split at h
  case h_1 i j e1 e2=>cases h;exact⟨_,BQ,fun O σ H H2 u v Q R s ru rv q=>⟨i,j,ru.int R s e1,rv.int R s e2,q⟩⟩
  case h_2=>cases h
 | Eq =>
  have h:xZ x.val y.val=some t:=h;unfold xZ at h
  split at h
  ·rename_i z
   cases h;refine⟨_,BR,fun O σ H H2 u v Q R s ru rv q=> ?_⟩;obtain⟨z1,z2⟩:=tS z (ru.val R s) (rv.val R s);exact⟨z1,by rw[z2];exact q⟩
  ·split at h
   ·rename_i c
    rw[CZ]at c;cases h;exact⟨_,yn (Hi:=Hi) hun,fun O σ H H2 u v Q R s ru rv q=>⟨_,_,c.1,c.2,ru.val R s,rv.val R s,q⟩⟩
   ·cases h
 | NotEq =>
  have h:(xZ x.val y.val).map (!·)=some t:=h;obtain⟨k,e,rfl⟩:∃k,xZ x.val y.val=some k/\t= !k:=by
   cases e:xZ x.val y.val with
   | none=>rw[e]at h;cases h
   | some k=>rw[e]at h;cases h;exact⟨k,rfl,rfl⟩
  unfold xZ at e
  split at e
  ·rename_i z
   cases e;refine⟨_,BM,fun O σ H H2 u v Q R s ru rv q=> ?_⟩;obtain⟨z1,z2⟩:=tS z (ru.val R s) (rv.val R s);exact⟨z1,by rw[z2];exact q⟩
  ·split at e
   ·rename_i c
    rw[CZ]at c;cases e;exact⟨_,rq (Hi:=Hi) hun,fun O σ H H2 u v Q R s ru rv q=>⟨_,_,c.1,c.2,ru.val R s,rv.val R s,q⟩⟩
   ·cases e
 | Is =>
  have h:tq x.val y.val=some t:=h;unfold tq at h
  split at h
  case h_1 e1 e2 =>
   cases h;refine⟨_,sF,fun O σ H H2 u v Q R s ru rv q=> ?_⟩;have z1:=ru.val R s;have z2:=rv.val R s;rw[e1]at z1;rw[e2]at z2;exact⟨Rp.non.mp z2,by rw[Rp.non.mp z1];exact q⟩
  case h_2 e2 ne =>
   cases h;refine⟨_,sF,fun O σ H H2 u v Q R s ru rv q=> ?_⟩;have z2:=rv.val R s;rw[e2]at z2;have n:u≠.non:=sO (ru.val R s) fun z=>by
    by_cases c:z=.non
    ·left;intro c2;exact ne (c2.trans c)
    ·right;exact c
   exact⟨Rp.non.mp z2,by rw[C5 n];exact q⟩
  case h_3 b c e1 e2=>cases h;exact⟨_,yk,fun O σ H H2 u v Q R s ru rv q=>⟨b,c,ru.bl R s e1,rv.bl R s e2,q⟩⟩
  case h_4=>cases h
 | IsNot =>
  have h:gt x.val y.val=some t:=h;unfold gt at h
  split at h
  case h_1 e1 e2 =>
   cases h;refine⟨_,nz,fun O σ H H2 u v Q R s ru rv q=> ?_⟩;have z1:=ru.val R s;have z2:=rv.val R s;rw[e1]at z1;rw[e2]at z2;exact⟨Rp.non.mp z2,by rw[Rp.non.mp z1];exact q⟩
  case h_2 e2 ne =>
   cases h;refine⟨_,nz,fun O σ H H2 u v Q R s ru rv q=> ?_⟩;have z2:=rv.val R s;rw[e2]at z2;have n:u≠.non:=sO (ru.val R s) fun z=>by
    by_cases c:z=.non
    ·left;intro c2;exact ne (c2.trans c)
    ·right;exact c
   exact⟨Rp.non.mp z2,by rw[C5 n];exact q⟩
  case h_3 b c e1 e2=>cases h;exact⟨_,pE,fun O σ H H2 u v Q R s ru rv q=>⟨b,c,ru.bl R s e1,rv.bl R s e2,q⟩⟩
  case h_4=>cases h
 | _=>exact absurd (show(none:Option Bool)=some t from h) (by intro z;cases z)
theorem xV{op:CmpOp}{b:Expr}(h:bv b=false):behindInMarks op b=false:=by
 cases b<;>first|rfl|cases h
theorem zr(hun:X.A.units+64<cLine){a b:Expr}{op:CmpOp}{pos:Pos}{x y:RV}{t:Bool}(ha:aG X Hi τ a x)(hb:aG X Hi τ b y)(hs:bv b=false)(h:bE op x.val y.val=some t):aG X Hi τ (.Compare a [op] [b] pos) (sc (.bl t)):=by
 obtain⟨rr,ho,k⟩:=lB (X:=X) (Hi:=Hi) (τ:=τ) hun h;intro O σ H Q R q;refine we (vc ho aW aW (xV hs)) ?_;refine ha O σ H _ R fun u H1 s1 r1=>hb O σ H1 _ (R.ext s1) fun v H2 s2 r2=> ?_;exact k O σ H H2 u v Q R (s1.trans s2) (r1.ext s2) (r2.back s1) (q _ _ (s1.trans s2) AZ)
theorem zq(hun:X.A.units+64<cLine){a b:Expr}{op:CmpOp}{pos:Pos}{x y:RV}{t:Bool}(ha:aG X Hi τ a x)(hb:aG X Hi τ b y)(hs:bv b=false)(h:bE op x.val y.val=some t):dD X Hi τ (.Compare a [op] [b] pos) t:=by
 obtain⟨rr,ho,k⟩:=lB (X:=X) (Hi:=Hi) (τ:=τ) hun h;intro O σ H Q R q;refine wt (ni ho aW aW (xV hs)) ?_;refine ha O σ H _ R fun u H1 s1 r1=>hb O σ H1 _ (R.ext s1) fun v H2 s2 r2=> ?_;exact k O σ H H2 u v _ R (s1.trans s2) (r1.ext s2) (r2.back s1) ⟨t,rfl,q _ (s1.trans s2)⟩
theorem yy{a:Expr}{pos:Pos}{x:RV}{i:Int}(ha:aG X Hi τ a x)(e:x.val=.int i):aG X Hi τ (.UnaryOp .USub a pos) (sc (.int (-i))):=by
 intro O σ H Q R q;refine we (BJ xr aW) ?_;exact ha O σ H _ R fun u H1 s1 r1=>⟨i,r1.int R s1 e,q _ _ s1 o0⟩
theorem yv{a:Expr}{pos:Pos}{x:RV}{b:Bool}(ha:aG X Hi τ a x)(e:x.val=.bl b):aG X Hi τ (.UnaryOp .Not a pos) (sc (.bl !b)):=by
 intro O σ H Q R q;refine we (yd aW) ?_;exact ha O σ H _ R fun u H1 s1 r1=>⟨b,r1.bl R s1 e,q _ _ s1 AZ⟩
theorem yr{op:BoolOp}{a:Expr}{pos:Pos}{x:RV}(ha:aG X Hi τ a x):aG X Hi τ (.BoolOp op [a] pos) x:=by
 intro O σ H Q R q;exact we (yc aW) (ha O σ H _ R q)
theorem CC{a b:Expr}{aP:List Expr}{pos:Pos}{x y:RV}(ha:aG X Hi τ a x)(e:x.val=.bl true)(hb:aG X Hi τ (.BoolOp .And (b::aP) pos) y):aG X Hi τ (.BoolOp .And (a::b::aP) pos) y:=by
 intro O σ H Q R q;refine we (rj aW aW) ?_;exact ha O σ H _ R fun u H1 s1 r1=>⟨true,r1.bl R s1 e,iC (hb O σ H1 _ (R.ext s1) fun w H2 s2 r2=>q w H2 (s1.trans s2) (r2.back s1))⟩
theorem CD{a b:Expr}{aP:List Expr}{pos:Pos}{x:RV}(ha:aG X Hi τ a x)(e:x.val=.bl false):aG X Hi τ (.BoolOp .And (a::b::aP) pos) (sc (.bl false)):=by
 intro O σ H Q R q;refine we (rj aW aW) ?_;exact ha O σ H _ R fun u H1 s1 r1=>⟨false,r1.bl R s1 e,ef (q _ _ s1 AZ)⟩
theorem or_f{a b:Expr}{aP:List Expr}{pos:Pos}{x y:RV}(ha:aG X Hi τ a x)(e:x.val=.bl false)(hb:aG X Hi τ (.BoolOp .Or (b::aP) pos) y):aG X Hi τ (.BoolOp .Or (a::b::aP) pos) y:=by
 intro O σ H Q R q;refine we (xP aW aW) ?_;exact ha O σ H _ R fun u H1 s1 r1=>⟨false,r1.bl R s1 e,ef (hb O σ H1 _ (R.ext s1) fun w H2 s2 r2=>q w H2 (s1.trans s2) (r2.back s1))⟩
theorem or_t{a b:Expr}{aP:List Expr}{pos:Pos}{x:RV}(ha:aG X Hi τ a x)(e:x.val=.bl true):aG X Hi τ (.BoolOp .Or (a::b::aP) pos) (sc (.bl true)):=by
 intro O σ H Q R q;refine we (xP aW aW) ?_;exact ha O σ H _ R fun u H1 s1 r1=>⟨true,r1.bl R s1 e,iC (q _ _ s1 AZ)⟩
theorem zJ{c a b:Expr}{pos:Pos}{t:Bool}{r:RV}(hc:dD X Hi τ c t)(h:aG X Hi τ (if t=true then a else b) r):aG X Hi τ (.IfExp c a b pos) r:=by
 intro O σ H Q R q;refine we (ri hZ aW aW) ?_;refine hc O σ H _ R fun H1 s1=> ?_;cases t with
 | true=>exact iC ((show aG X Hi τ a r from h) O σ H1 _ (R.ext s1) fun w H2 s2 r2=>q w H2 (s1.trans s2) (r2.back s1))
 | false=>exact ef ((show aG X Hi τ b r from h) O σ H1 _ (R.ext s1) fun w H2 s2 r2=>q w H2 (s1.trans s2) (r2.back s1))
theorem qk{v:PV}{b:Bool}{H:Hp}{u:V}(h:j9 v=some b)(r:Rp X.K Hi false v H u):AO X.K u H b:=by
 cases v with
 | non=>cases h;rw[Rp.non.mp r];rfl
 | bl c=>cases h;rw[Rp.bl.mp r];rfl
 | int i=>cases h;rw[Rp.int.mp r];rfl
 | str z =>
  have h:(if z.length<=LN then some ((z.length:Int) !=0)else none)=some b:=h
  split at h
  ·rename_i c
   cases h;rw[Rp.str.mp r];exact⟨by rw[bW];exact c,rfl⟩
  ·cases h
 | lst xs =>
  cases h;obtain⟨p,us,rfl,_,l,r⟩:=Rp.lst.mp r;have:=r.len;exact .inl ⟨us,l,by cases xs<;>cases us<;>simp_all⟩
 | tup xs =>
  cases h;obtain⟨p,us,rfl,l,r⟩:=Rp.tup.mp r;have:=r.len;exact .inr (.inl ⟨us,l,by cases xs<;>cases us<;>simp_all⟩)
 | dK ks vs =>
  cases h;unfold Rp at r;obtain⟨p,us,rfl,_,l,z,r⟩:=r;exact .inr (.inr ⟨_,l,by cases ks<;>cases us<;>simp_all⟩)
 | dT ks vs=>cases h
theorem xo{e:Expr}{x:RV}{b:Bool}(he:aG X Hi τ e x)(h:j9 x.val=some b)(hp:∀whole,isTrue e X.env whole=(do let v<-whole;standAt e.pos;holding [v] (truthy v))):dD X Hi τ e b:=by
 intro O σ H Q R q;refine wt (rL aW hp) ?_;exact he O σ H _ R fun u H1 s1 r1=>⟨b,qk h (r1.val R s1),q _ s1⟩
theorem yu{a:Expr}{pos:Pos}{b:Bool}(ha:dD X Hi τ a b):dD X Hi τ (.UnaryOp .Not a pos) !b:=by
 intro O σ H Q R q;exact wt (rM hZ) (ha O σ H _ R fun H1 s1=>q _ s1)
noncomputable def iN(X:Cx)(Hi:Hp)(τ:En)(e:Expr)(b:Bool):Prop:=∀(O:List Addr)(σ:L2.St)(H:Hp)(Q:Bool->Hp->Prop),aX X.K Hi O τ σ H->(∀H',aA H H' ->Q b H') ->
 ∀(whole:Sem Value)(pins:List (Addr×Obj))(s:Shared),Inv X pins σ H s->wpAny (model X.prog X.w) X.A (isTrue e X.env whole) (TP X pins σ Q) X.xe s
theorem BE{e:Expr}:PW X e (fun σ H Q=>∀(whole:Sem Value)(pins:List (Addr×Obj))(s:Shared),Inv X pins σ H s->wpAny (model X.prog X.w) X.A (isTrue e X.env whole) (TP X pins σ Q) X.xe s):=fun wh pins s σ H Q I h=>h wh pins s I
theorem iN.tc{e:Expr}{b:Bool}(h:iN X Hi τ e b):dD X Hi τ e b:=fun O σ H Q R q pins s I=>h O σ H Q R q _ pins s I
theorem yq{op:BoolOp}{a:Expr}{pos:Pos}{b:Bool}(ha:dD X Hi τ a b):iN X Hi τ (.BoolOp op [a] pos) b:=by
 intro O σ H Q R q wh pins s I;cases op with
 | And=>exact vN hZ wh pins s σ H Q I (ha O σ H Q R q)
 | Or=>exact rH hZ wh pins s σ H Q I (ha O σ H Q R q)
theorem uM{a b:Expr}{aP:List Expr}{pos:Pos}{t u:Bool}(ha:dD X Hi τ a t)(hb:if t=true then iN X Hi τ (.BoolOp .And (b::aP) pos) u else u=false):iN X Hi τ (.BoolOp .And (a::b::aP) pos) u:=by
 intro O σ H Q R q wh pins s I;refine yU hZ BE wh pins s σ H Q I ?_;refine ha O σ H _ R fun H1 s1=> ?_;cases t with
 | true=>exact iC ((show iN X Hi τ _ u from hb) O σ H1 _ (R.ext s1) fun H2 s2=>q _ (s1.trans s2))
 | false =>
  have hb:u=false:=hb;subst hb;exact ef (q _ s1)
theorem xR{a b:Expr}{aP:List Expr}{pos:Pos}{t u:Bool}(ha:dD X Hi τ a t)(hb:if t=true then u=true else iN X Hi τ (.BoolOp .Or (b::aP) pos) u):iN X Hi τ (.BoolOp .Or (a::b::aP) pos) u:=by
 intro O σ H Q R q wh pins s I;refine rJ hZ BE wh pins s σ H Q I ?_;refine ha O σ H _ R fun H1 s1=> ?_;cases t with
 | false=>exact ef ((show iN X Hi τ _ u from hb) O σ H1 _ (R.ext s1) fun H2 s2=>q _ (s1.trans s2))
 | true =>
  have hb:u=true:=hb;subst hb;exact iC (q _ s1)
end
end IR
namespace L2
open PySem PySem.Spec PyProof.Rows
section
variable{X:Cx}
inductive CI(K:W.Frag)(H:Hp):V->Value->Prop where
 | of {x:V} {t:Value} (h:fD K H x t):CI K H x t
 | lst {a:Addr} {xs:List V} (e:ar K H a xs):CI K H (.ref a) (.type "list")
 | tup {a:Addr} {xs:List V} (e:bL K H a xs):CI K H (.ref a) (.type "tuple")
theorem nI:bA X (.builtin "isinstance") (fun xs H Q=>∃x c t b,xs=[x,.ty c]/\CI X.K H x t/\W.kitOne X.K t (.type c)=some b/\Q (.bl b) H):=by
 intro pins s σ H xs us Q I r h;obtain⟨x,c,t,b,rfl,ty,e,q⟩:=h;obtain⟨u,w',rfl,rx,ry⟩:=vals2 r;cases ry;cases ty with
 | of ty=>exact pR I rx ty e fun tk=>⟨.bl b,H,I.tok _,rfl,q⟩
 | lst l =>
  cases rx;obtain⟨its,r',pl,hz⟩:=I.list l;obtain⟨o,n,h1,h2,_⟩:=pl;exact Dt W.kitx_list I.kIn ⟨o,h1,h2⟩ e (fun z=>nomatch z) fun tk=>⟨.bl b,H,I.tok _,rfl,q⟩
 | tup l =>
  cases rx;obtain⟨its,r',pl,hz⟩:=I.tuple l;obtain⟨o,h1,h2,_⟩:=pl;exact Dt W.kitx_tuple I.kIn ⟨o,h1,h2⟩ e (fun z=>nomatch z) fun tk=>⟨.bl b,H,I.tok _,rfl,q⟩
end
section
variable{K:W.Frag}
theorem kits:(W.kitOne K (.type "NoneType") (.type "int")=some false/\W.kitOne K (.type "NoneType") (.type "str")=some false/\W.kitOne K (.type "NoneType") (.type "list")=some false/\W.kitOne K (.type "NoneType") (.type "tuple")=some false/\W.kitOne K (.type "NoneType") (.type "bool")=some false) /\
  (W.kitOne K (.type "bool") (.type "int")=some true/\W.kitOne K (.type "bool") (.type "str")=some false/\W.kitOne K (.type "bool") (.type "list")=some false/\W.kitOne K (.type "bool") (.type "tuple")=some false) /\
  (W.kitOne K (.type "int") (.type "bool")=some false/\W.kitOne K (.type "int") (.type "str")=some false/\W.kitOne K (.type "int") (.type "list")=some false/\W.kitOne K (.type "int") (.type "tuple")=some false) /\
  (W.kitOne K (.type "str") (.type "bool")=some false/\W.kitOne K (.type "str") (.type "int")=some false/\W.kitOne K (.type "str") (.type "list")=some false/\W.kitOne K (.type "str") (.type "tuple")=some false) /\
  (W.kitOne K (.type "list") (.type "bool")=some false/\W.kitOne K (.type "list") (.type "int")=some false/\W.kitOne K (.type "list") (.type "str")=some false/\W.kitOne K (.type "list") (.type "tuple")=some false) /\
  (W.kitOne K (.type "tuple") (.type "bool")=some false/\W.kitOne K (.type "tuple") (.type "int")=some false/\W.kitOne K (.type "tuple") (.type "str")=some false/\W.kitOne K (.type "tuple") (.type "list")=some false) /\
  (W.kitOne K (.type "dict") (.type "bool")=some false/\W.kitOne K (.type "dict") (.type "int")=some false/\W.kitOne K (.type "dict") (.type "str")=some false/\W.kitOne K (.type "dict") (.type "list")=some false/\W.kitOne K (.type "dict") (.type "tuple")=some false):=by
 refine⟨⟨?_,?_,?_,?_,?_⟩,⟨?_,?_,?_,?_⟩,⟨?_,?_,?_,?_⟩,⟨?_,?_,?_,?_⟩,⟨?_,?_,?_,?_⟩,⟨?_,?_,?_,?_⟩,⟨?_,?_,?_,?_,?_⟩⟩<;>kernel_rfl
end
end L2
namespace IR
open PySem PySem.Spec PyProof.Rows L2
section
variable{X:Cx}{Hi:Hp}{τ:En}
theorem aL{e:Expr}{es:List Expr}{env:Env}(h:isStar e=false):starEach (e::es) env=(false,eval e env)::starEach es env:=by
 cases e<;>first|rfl|cases h
theorem dI{env:Env}{pos:Pos}:∀{es:List Expr},(∀e∈es,isStar e=false)->(backTo pos (starEach es env)).any (·.1)=false
 | [],_=>rfl
 | e::es,h=>by
  rw[aL (h e Cv)];show(false||(backTo pos (starEach es env)).any (·.1))=false;rw[dI fun x hx=>h x (Cj _ hx)];rfl
theorem AL:jw X Hi τ [] []:=by
 intro O σ H Q R q;exact wa aS (q _ _ (aA.refl _) rfl)
theorem wx{e:Expr}{es:List Expr}{r:RV}{rs:List RV}(he:aG X Hi τ e r)(hs:isStar e=false)(hr:jw X Hi τ es rs):jw X Hi τ (e::es) (r::rs):=by
 intro O σ H Q R q;refine wa (aB aW mS (aL hs)) ?_;refine he O σ H _ R fun u H1 s1 r1=>hr O σ H1 _ (R.ext s1) fun us H2 s2 r2=> ?_;exact q _ _ (s1.trans s2) ⟨u,us,rfl,r1.ext s2,r2.back s1⟩
theorem zA{es:List Expr}{pos:Pos}{rs:List RV}{vs:List PV}{n:Bool}{r:RV}(h:jw X Hi τ es rs)(hk:keeps rs=some (vs,n))(hn:kX vs n=some r):aG X Hi τ (.List es pos) r:=by
 obtain⟨hz,rfl⟩:=oA hn;intro O σ H Q R q;refine we (gW mS) ?_;refine h O σ H _ R fun us H1 s1 r1=> ?_;have k:=r1.keeps R s1 hk;have hl:=k.len;exact⟨by rw[bW,<-hl];exact hz,fun p hp=>q _ _ (s1.trans (aQ hp _)) (cW s1 hp k)⟩
theorem xu{es:List Expr}{m:Nat}{pos:Pos}{rs:List RV}{vs:List PV}{n:Bool}{r:RV}(h:jw X Hi τ es rs)(hk:keeps rs=some (vs,n))(hn:jX vs n=some r):aG X Hi τ (.Tuple es m pos) r:=by
 obtain⟨hz,rfl⟩:=jW hn;intro O σ H Q R q;refine we (yb mS) ?_;refine h O σ H _ R fun us H1 s1 r1=> ?_;have k:=r1.keeps R s1 hk;have hl:=k.len;exact⟨by rw[bW,<-hl];exact hz,fun p hp=>q _ _ (s1.trans (aQ hp _)) (Rp.tup.mpr ⟨p,us,rfl,bL.of (gA R s1 hp),k.mono (aF (aQ hp _))⟩)⟩
noncomputable def eN(O:List Addr)(G:Hp):Prop:=∀l∈O,(∀xs,G l≠some (.tup xs))/\∀o xs,G l≠some (.frz o (.tup xs))
theorem Mo.noTup{o:HO}{G:Hp}{l:Addr}(m:Mo o)(e:G l=some o):(∀xs,G l≠some (.tup xs))/\∀o xs,G l≠some (.frz o (.tup xs)):=by
 obtain⟨b,us,m⟩:=m;refine⟨fun xs z=> ?_,fun o xs z=> ?_⟩<;>(rw[e]at z;cases z;cases b<;>first|cases m.1|cases m)
theorem eN.del{O:List Addr}{G:Hp}{p:Addr}(h:eN O G):eN O (IR.del G p):=fun l hl=>by
 refine⟨fun xs e=> ?_,fun o xs e=> ?_⟩
 ·unfold IR.del at e
  split at e
  ·cases e
  ·exact(h l hl).1 xs e
 ·unfold IR.del at e
  split at e
  ·cases e
  ·exact(h l hl).2 o xs e
theorem eN.tups{O:List Addr}{G:Hp}(h:eN O G):nR G (aN G O):=by
 refine⟨fun b xs e=> ?_,fun b o xs e=> ?_⟩
 ·unfold aN
  rw[Ci fun z=>(h b z).1 xs e];exact e
 ·unfold aN
  rw[Ci fun z=>(h b z).2 o xs e];exact e
mutual
theorem Rp.avoid{K:W.Frag}{Hj:Hp}{O:List Addr}(hO:∀l∈O,Hj l≠none):∀{v:PV}{G:Hp}{u:V},eN O G->Rp K Hj true v G u->Rp K Hj true v (aN G O) u
 | .non,_,_,_,h=>by unfold Rp at h ⊢;exact h
 | .bl _,_,_,_,h=>by unfold Rp at h ⊢;exact h
 | .int _,_,_,_,h=>by unfold Rp at h ⊢;exact h
 | .str _,_,_,_,h=>by unfold Rp at h ⊢;exact h
 | .lst xs,G,_,t,h=>by
  unfold Rp at h ⊢;obtain⟨p,us,e,q,l,r⟩:=h;obtain⟨q1,q2⟩:=q rfl;have q3:aN G O p=some (.lst us):=by
   unfold aN;rw[Ci fun z=>hO p z q1];exact q2
  exact⟨p,us,e,fun _=>⟨q1,q3⟩,ar.of q3,by rw[<- eE];exact aE.avoid hO t.del r⟩
 | .tup xs,_,_,t,h=>by
  unfold Rp at h ⊢;obtain⟨p,us,e,l,r⟩:=h;exact⟨p,us,e,t.tups.at l,aE.avoid hO t r⟩
 | .dK ks vs,G,_,t,h=>by
  unfold Rp at h ⊢;obtain⟨p,us,e,q,l,z,r⟩:=h;refine⟨p,us,e,q,?_,z,by rw[<- eE];exact aE.avoid hO t.del r⟩;unfold aN;rw[Ci fun z=>hO p z (q rfl)];exact l
 | .dT ks vs,G,_,t,h=>by
  unfold Rp at h ⊢;obtain⟨p,us,e,q,l,z,r⟩:=h;refine⟨p,us,e,q,?_,z,by rw[<- eE];exact aE.avoid hO t.del r⟩;unfold aN;rw[Ci fun z=>hO p z (q rfl)];exact l
theorem aE.avoid{K:W.Frag}{Hj:Hp}{O:List Addr}(hO:∀l∈O,Hj l≠none):∀{xs:List PV}{G:Hp}{us:List V},eN O G->aE K Hj true xs G us->aE K Hj true xs (aN G O) us
 | [],_,_,_,h=>by unfold aE at h ⊢;exact h
 | x::xs,_,_,t,h=>by
  unfold aE at h ⊢;obtain⟨u,r,e,a,b⟩:=h;exact⟨u,r,e,Rp.avoid hO t a,aE.avoid hO t b⟩
end
theorem um{O:List Addr}{σ:L2.St}{H H1 H' :Hp}{v:PV}{u:V}(R:aX X.K Hi O τ σ H)(s1:aA H H1)(s:aA H1 H')(h:Rp X.K H1 true v H' u):aT X.K Hi O H H' (hV v) u:=by
 have e1:∀p,H1 p=none->Hi p=none:=fun p hp=>R.same.free (s1.free hp);have hO:∀l∈O,H1 l≠none:=fun l hl z=>by
  obtain⟨us,e,_⟩:=(R.own l hl).2;rw[s1 _ _ e]at z;cases z
 have hT:eN O H' :=fun l hl=>by
  obtain⟨us,e,mo⟩:=(R.own l hl).2;have e' :=s _ _ (s1 _ _ e);exact mo.noTup e'
 have gen:Rp X.K Hi true v (aN H' O) u:=(Rp.avoid hO hT h).entry fun _=>e1;cases v with
 | lst xs =>
  obtain⟨p,us,e,q,l,r⟩:=Rp.lst.mp h;obtain⟨q1,q2⟩:=q rfl;exact⟨p,us,e,s1.free q1,q2,(aE.avoid hO hT.del r).entry fun _=>e1⟩
 | _=>exact gen
theorem call_ok{cd:Nat->List PV->Option PV}{ct:Ct}(C:bC cd X ct){x:Str}{f:Nat}{e:Expr}{es:List Expr}{p pos:Pos}{rs:List RV}{v:PV}(hx:qI x=false)(hg:ct.S.lookup x=some .globalImplicit)(hf:ct.F.lookup x=some f)
  (hs:∀a∈e::es,isStar a=false) (ha:jw X Hi τ (e::es) rs) (hv:cd f (rs.map RV.val)=some v):aG X Hi τ (.Call (.Name x p) (e::es) [] pos) (hV v):=by
 intro O σ H Q R q;obtain⟨k,a,fd,ps,F,hr,hm,kp,bd⟩:=C.fns x f hf;have g:Gl X x:=by
  show X.env.scope.names.lookup x=_;rw[C.S];exact hg
 refine we (cV F hr g hm kp bd .nil iX mS (bP hx).1 (aL (hs e Cv)) (dI fun b hb=>hs b (Cj _ hb))) ?_;refine ha O σ H _ R fun us H1 s1 r1=> ?_;have vs:=r1.vals R s1;rw[Do];exact⟨_,v,vs.entry (fun z=>by cases z),hv,fun u H' s' ru=>q _ _ (s1.trans s') (um R s1 s' ru)⟩
theorem fN{cd:Nat->List PV->Option PV}{ct:Ct}(C:bC cd X ct){x:Str}(h:own ct x=true):Gl X x/\X.mg x=none:=by
 unfold own at h;rw[CZ]at h;refine⟨?_,C.bl x h.1⟩;show X.env.scope.names.lookup x=_;rw[C.S]
 simpa using h.2
theorem fR{cd:Nat->List PV->Option PV}{ct:Ct}(C:bC cd X ct){x:Str}{id:String}{a:Expr}{p pos:Pos}{ra r:RV}{rr:List V->Hp->VK->Prop}(hc:bA X (.builtin id) rr)(ho:own ct x=true)(hb:bootBuiltins x=some (.builtin id))(hx:qI x=false)(hs:isStar a=false)(ha:aG X Hi τ a ra)
  (k:∀(O:List Addr)(σ:L2.St)(H H2:Hp)(u:V)(Q:VK),aX X.K Hi O τ σ H->aA H H2->aT X.K Hi O H H2 ra u->(∀w H3,aA H2 H3->aT X.K Hi O H H3 r w->Q w H3)->rr [u] H2 Q):aG X Hi τ (.Call (.Name x p) [a] [] pos) r:=by
 intro O σ H Q R q;obtain⟨g,hm⟩:=fN C ho;refine we (bM hc g hm hb (aB aW aS (aL hs)) (bP hx).2.2 (bP hx).1 (aL hs) rfl) ?_;exact ha O σ H _ R fun u H1 s1 r1=>k O σ H H1 u Q R s1 r1 fun w H3 s3 r3=>q w H3 (s1.trans s3) r3
theorem nY{cd:Nat->List PV->Option PV}{ct:Ct}(C:bC cd X ct){x:Str}{id:String}{a:Expr}{p pos:Pos}{ra r:RV}{rr:List V->Hp->VK->Prop}(hc:bA X (.type id) rr)(ho:own ct x=true)(hb:bootBuiltins x=some (.type id))(hx:qI x=false)(hs:isStar a=false)(ha:aG X Hi τ a ra)
  (k:∀(O:List Addr)(σ:L2.St)(H H2:Hp)(u:V)(Q:VK),aX X.K Hi O τ σ H->aA H H2->aT X.K Hi O H H2 ra u->(∀w H3,aA H2 H3->aT X.K Hi O H H3 r w->Q w H3)->rr [u] H2 Q):aG X Hi τ (.Call (.Name x p) [a] [] pos) r:=by
 intro O σ H Q R q;obtain⟨g,hm⟩:=fN C ho;refine we (pD hc g hm hb (aB aW aS (aL hs)) (bP hx).2.2 (bP hx).1 (aL hs) rfl) ?_;exact ha O σ H _ R fun u H1 s1 r1=>k O σ H H1 u Q R s1 r1 fun w H3 s3 r3=>q w H3 (s1.trans s3) r3
theorem b2_go{cd:Nat->List PV->Option PV}{ct:Ct}(C:bC cd X ct){x:Str}{id:String}{a b:Expr}{p pos:Pos}{ra rb r:RV}{rr:List V->Hp->VK->Prop}(hc:bA X (.builtin id) rr)(ho:own ct x=true)(hb:bootBuiltins x=some (.builtin id))(hx:qI x=false)(hs:isStar a=false)(hs2:isStar b=false)(ha:aG X Hi τ a ra)(hb' :aG X Hi τ b rb)
  (k:∀(O:List Addr)(σ:L2.St)(H H2:Hp)(u v:V)(Q:VK),aX X.K Hi O τ σ H->aA H H2->aT X.K Hi O H H2 ra u->aT X.K Hi O H H2 rb v->(∀w H3,aA H2 H3->aT X.K Hi O H H3 r w->Q w H3)->rr [u,v] H2 Q):aG X Hi τ (.Call (.Name x p) [a,b] [] pos) r:=by
 intro O σ H Q R q;obtain⟨g,hm⟩:=fN C ho;refine we (bM hc g hm hb (aB aW (aB aW aS (aL hs2)) (aL hs)) (bP hx).2.2 (bP hx).1 (aL hs) (dI fun c hc=>by simp at hc;subst hc;exact hs2)) ?_;exact ha O σ H _ R fun u H1 s1 r1=>hb' O σ H1 _ (R.ext s1) fun v H2 s2 r2=>k O σ H H2 u v Q R (s1.trans s2) (r1.ext s2) (r2.back s1) fun w H3 s3 r3=>q w H3 (s1.trans (s2.trans s3)) r3
theorem lG:∀{xs:List PV}{bs:List Bool}{H:Hp}{us:List V},eM xs=some bs->aE X.K Hi false xs H us->us=bs.map V.bl
 | [],bs,_,_,h,r=>by cases h;unfold aE at r;exact r
 | x::xs,bs,_,_,h,r=>by
  unfold aE at r;obtain⟨u,ws,rfl,a,b⟩:=r;cases x with
  | bl c =>
   have h:(eM xs).map (c::·)=some bs:=h;cases e:eM xs with
   | none=>rw[e]at h;cases h
   | some ds =>
    rw[e]at h;cases h;rw[Rp.bl.mp a,lG e b];rfl
  | _=>cases h
theorem eg:∀{xs:List PV}{bs:List Int}{H:Hp}{us:List V},ag xs=some bs->aE X.K Hi false xs H us->us=bs.map V.int
 | [],bs,_,_,h,r=>by cases h;unfold aE at r;exact r
 | x::xs,bs,_,_,h,r=>by
  unfold aE at r;obtain⟨u,ws,rfl,a,b⟩:=r;cases x with
  | int c =>
   have h:(ag xs).map (c::·)=some bs:=h;cases e:ag xs with
   | none=>rw[e]at h;cases h
   | some ds =>
    rw[e]at h;cases h;rw[Rp.int.mp a,eg e b];rfl
  | _=>cases h
theorem gH:∀{xs:List PV}{bs:List Str}{H:Hp}{us:List V},au xs=some bs->aE X.K Hi false xs H us->us=bs.map V.str
 | [],bs,_,_,h,r=>by cases h;unfold aE at r;exact r
 | x::xs,bs,_,_,h,r=>by
  unfold aE at r;obtain⟨u,ws,rfl,a,b⟩:=r;cases x with
  | str c =>
   have h:(au xs).map (c::·)=some bs:=h;cases e:au xs with
   | none=>rw[e]at h;cases h
   | some ds =>
    rw[e]at h;cases h;rw[Rp.str.mp a,gH e b];rfl
  | _=>cases h
theorem zK{t:String}{v:PV}{b:Bool}{H:Hp}{u:V}(h:dL t v=some b)(r:Rp X.K Hi false v H u):∃c,CI X.K H u c/\W.kitOne X.K c (.type t)=some b:=by
 obtain⟨⟨n1,n2,n3,n4,n5⟩,⟨b1,b2,b3,b4⟩,⟨i1,i2,i3,i4⟩,⟨s1,s2,s3,s4⟩,⟨l1,l2,l3,l4⟩,⟨t1,t2,t3,t4⟩,⟨d1,d2,d3,d4,d5⟩⟩:= @kits X.K;cases v with
 | non =>
  rw[Rp.non.mp r];refine⟨_,.of .non,?_⟩;simp only[dL]at h
  split at h
  ·rename_i c
   cases h
   rcases c with rfl|rfl|rfl|rfl|rfl<;>assumption
  ·cases h
 | bl x =>
  rw[Rp.bl.mp r];refine⟨_,.of (.bl x),?_⟩;simp only[dL]at h
  split at h
  ·rename_i c
   cases h
   rcases c with rfl|rfl
   ·assumption
   ·exact cx _
  ·split at h
   ·rename_i c
    cases h
    rcases c with rfl|rfl|rfl<;>assumption
   ·cases h
 | int x =>
  rw[Rp.int.mp r];refine⟨_,.of (.int x),?_⟩;simp only[dL]at h
  split at h
  ·rename_i c
   cases h;subst c;exact cx _
  ·split at h
   ·rename_i c
    cases h
    rcases c with rfl|rfl|rfl|rfl<;>assumption
   ·cases h
 | str x =>
  rw[Rp.str.mp r];refine⟨_,.of (.str x),?_⟩;simp only[dL]at h
  split at h
  ·rename_i c
   cases h;subst c;exact cx _
  ·split at h
   ·rename_i c
    cases h
    rcases c with rfl|rfl|rfl|rfl<;>assumption
   ·cases h
 | lst x =>
  obtain⟨p,us,rfl,_,l,_⟩:=Rp.lst.mp r;refine⟨_,.lst l,?_⟩;simp only[dL]at h
  split at h
  ·rename_i c
   cases h;subst c;exact cx _
  ·split at h
   ·rename_i c
    cases h
    rcases c with rfl|rfl|rfl|rfl<;>assumption
   ·cases h
 | tup x =>
  obtain⟨p,us,rfl,l,_⟩:=Rp.tup.mp r;refine⟨_,.tup l,?_⟩;simp only[dL]at h
  split at h
  ·rename_i c
   cases h;subst c;exact cx _
  ·split at h
   ·rename_i c
    cases h
    rcases c with rfl|rfl|rfl|rfl<;>assumption
   ·cases h
 | dK ks vs =>
  unfold Rp at r;obtain⟨p,us,rfl,_,l,_⟩:=r;refine⟨_,.of (.dK l),?_⟩;simp only[dL]at h
  split at h
  ·rename_i c
   cases h
   rcases c with rfl|rfl|rfl|rfl|rfl<;>assumption
  ·cases h
 | dT ks vs=>cases h
theorem wg{t:Str}{ty:String}(h:qf t=some ty):bootBuiltins t=some (.type ty)/\qI t=false:=by
 unfold qf at h
 split at h
 ·rename_i c;cases h;rw[Cz c];exact⟨PyProof.Rows.boot_int,by decide⟩
 split at h
 ·rename_i c;cases h;rw[Cz c];exact⟨PyProof.Rows.boot_bool,by decide⟩
 split at h
 ·rename_i c;cases h;rw[Cz c];exact⟨PyProof.Rows.boot_str,by decide⟩
 split at h
 ·rename_i c;cases h;rw[Cz c];exact⟨PyProof.Rows.boot_list,by decide⟩
 split at h
 ·rename_i c;cases h;rw[Cz c];exact⟨PyProof.Rows.boot_tuple,by decide⟩
 cases h
theorem isin_ok{cd:Nat->List PV->Option PV}{ct:Ct}(C:bC cd X ct){t:Str}{ty:String}{a:Expr}{p pt pos:Pos}{ra:RV}{b:Bool}(ho:own ct ("isinstance":Str)=true)(ht:qf t=some ty)(hot:own ct t=true)(hs:isStar a=false)(ha:aG X Hi τ a ra)(h:dL ty ra.val=some b) :
  aG X Hi τ (.Call (.Name "isinstance" p) [a,.Name t pt] [] pos) (sc (.bl b)):=by
 intro O σ H Q R q;obtain⟨g,hm⟩:=fN C ho;obtain⟨g2,hm2⟩:=fN C hot;obtain⟨hb,hod⟩:=wg ht;refine we (bM nI g hm EW (aB aW (aB (xO g2 hm2 hb (bP hod).2.2 (bP hod).1) aS) (aL hs)) (by decide) (by decide) (aL hs) rfl) ?_;refine ha O σ H _ R fun u H1 s1 r1=> ?_;obtain⟨c,ty',k⟩:=zK h (r1.val R s1);exact⟨u,ty,c,b,rfl,ty',k,q _ _ s1 AZ⟩
end
end IR
namespace L2
open PySem PySem.Spec PyProof.Rows
end L2
namespace IR
open PySem L2
section
variable{X:Cx}{Hi:Hp}{τ:En}
theorem vR{x:PV}{q:Int×Int}(h:vS x=some q):x=ua q:=by
 cases x with
 | tup xs =>
  have h:((ag xs).bind fun ns=>match ns with
   | [a,b]=>some (a,b)
   | _=>none)=some q:=h
  cases e:ag xs with
  | none=>rw[e]at h;cases h
  | some ns =>
   rw[e]at h
   match ns,h with
   | [a,b],h =>
    cases h;have:xs=[PV.int a,PV.int b]:=by
     have key:∀(xs:List PV)(ns:List Int),ag xs=some ns->xs=ns.map PV.int:=by
      intro xs
      induction xs with
      | nil=>intro ns z;cases z;rfl
      | cons y r ih =>
       intro ns z;cases y with
       | int i =>
        have z:(ag r).map (i::·)=some ns:=z;cases e2:ag r with
        | none=>rw[e2]at z;cases z
        | some m=>rw[e2]at z;cases z;rw[ih m e2];rfl
       | _=>cases z
     exact key xs _ e
    subst this;rfl
 | _=>cases h
theorem kN:∀{xs:List PV}{ps:List (Int×Int)},gP xs=some ps->xs=ps.map ua
 | [],_,h=>by cases h;rfl
 | x::r,ps,h=>by
  have h:((vS x).bind fun q=>(gP r).map (q::·))=some ps:=h;cases e:vS x with
  | none=>rw[e]at h;cases h
  | some q =>
   rw[e]at h;have h:(gP r).map (q::·)=some ps:=h;cases e2:gP r with
   | none=>rw[e2]at h;cases h
   | some m =>
    rw[e2]at h;cases h;rw[vR e,kN e2];rfl
theorem aE.prs{n:Bool}{H:Hp}:∀{ps:List (Int×Int)}{us:List V},aE X.K Hi n (ps.map ua) H us->AR X.K H us ps
 | [],us,h=>by
  have h:us=[]:=by unfold aE at h;exact h
  subst h;exact .nil
 | q::ps,us,h=>by
  rw[Cq]at h;unfold aE at h;obtain⟨u,r,rfl,h1,h2⟩:=h;obtain⟨p,ws,rfl,l,rr⟩:=Rp.tup.mp h1;have e:ws=[V.int q.1,V.int q.2]:=by
   have:=(aE.ints (K:=X.K) (Hi:=Hi) (n:=n) (H:=H) (xs:=[q.1,q.2]) (us:=ws)).mp rr;exact this
  subst e;exact .cons l (aE.prs h2)
theorem aE.pick{n:Bool}{H:Hp}{xs:List PV}{us:List V}(r:aE X.K Hi n xs H us):∀{js:List Nat},(∀j∈js,j<us.length)->aE X.K Hi n (js.map fun i=>xs.getD i .non) H (js.map fun i=>us.getD i .non)
 | [],_=>.nil
 | j::js,h=>by
  have hj:=h j Cv;obtain⟨x,hx,rx⟩:=r.at' (i:=j) (u:=us[j]) (CY hj);refine .cons ?_ (aE.pick r fun i hi=>h i (Cj _ hi));dsimp only;rw[Ck,hx,Ck,CY hj];exact rx
theorem gJ(ps:List (Int×Int)):(gK ps).Perm ps:=List.mergeSort_perm _ _
theorem qu(ps:List (Int×Int)):(gK ps).Pairwise fun a b=>SW.bu a<=SW.bu b:=by
 have:=List.pairwise_mergeSort (le:=fun a b:Int×Int=>decide (SW.bu a<=SW.bu b)) (fun a b c h1 h2=>by simp only[Eo]at *;omega) (fun a b=>by simp only[Dq,Eo];omega) ps;exact this.imp fun h=>by simpa using h
theorem su{a b:Int×Int}(ha:0<=a.2/\a.2<1000)(hb:0<=b.2/\b.2<1000)(h:SW.bu a=SW.bu b):a=b:=by
 unfold SW.bu at h;exact Prod.ext (by omega) (by omega)
theorem jH{ps qs:List (Int×Int)}(hb:∀q∈ps,0<=q.2/\q.2<1000)(p:qs.Perm ps)(s:qs.Pairwise fun a b=>SW.bu a<=SW.bu b):qs=gK ps :=
 List.Perm.eq_of_pairwise (le:=fun a b=>SW.bu a<=SW.bu b) (fun a b ha hb' h1 h2=>su (hb _ (p.mem_iff.mp ha)) (hb _ ((gJ ps).mem_iff.mp hb')) (by omega)) s (qu ps) (p.trans (gJ ps).symm)
theorem mJ{α:Type}(d:α)(xs:List α):(List.range xs.length).map (fun i=>xs.getD i d)=xs:=by
 apply List.ext_getElem (by simp)
 intro i h1 h2;simp[h2]
theorem kn:∀ps:List (Int×Int),imms (ps.map ua)=true
 | []=>rfl
 | q::ps=>by
  show(imm (ua q)&&imms (ps.map ua))=true;rw[kn ps];rfl
theorem qr{cd:Nat->List PV->Option PV}{ct:Ct}(C:bC cd X ct){a:Expr}{p pos:Pos}{ra r:RV}{xs:List PV}(ho:own ct ("sorted":Str)=true)(hs:isStar a=false)(ha:aG X Hi τ a ra)(e:ra.val=.lst xs)(h:qt xs=some r) :
  aG X Hi τ (.Call (.Name "sorted" p) [a] [] pos) r:=by
 unfold qt at h;cases eb:gP xs with
 | none=>rw[eb]at h;cases h
 | some ps =>
  rw[eb]at h;have h:(if ps.length<64/\ps.all (fun q=>decide (0<=q.2)&&decide (q.2<1000))=true then some (RV.own ((gK ps).map ua) true)else none)=some r:=h
  split at h
  ·rename_i c
   cases h;refine fR C eK ho PyProof.Rows.boot_sorted (by decide) hs ha fun O σ H H2 u Q R s r q=> ?_;obtain⟨p,us,rfl,l,r⟩:=r.lst R s e;have ex:=kN eb;subst ex;have pr:=r.prs;have hl:=pr.len;have hb:∀q∈ps,0<=q.2/\q.2<1000:=fun q hq=>by
    have:=C2.mp c.2 q hq
    simpa using this
   refine⟨p,us,ps,rfl,l,pr,by omega,hb,fun d js hd pm pw=>q _ _ (aQ hd _) (cW s hd ?_)⟩;have hj:∀j∈js,j<us.length:=fun j hj=>DB.mp (pm.mem_iff.mp hj);have e1:js.map (fun i=>ps.getD i (0,0))=gK ps:=by
    refine jH hb ?_ ?_
    ·have:=pm.map fun i=>ps.getD i (0,0)
     rw[hl,mJ]at this;exact this
    ·rw[List.pairwise_map]at pw ⊢
     exact pw
   have e2:js.map (fun i=>(ps.map ua).getD i .non)=(gK ps).map ua:=by
    rw[<- e1,Dr];refine Da fun i hi=> ?_;have:=hj i hi;have lt:i<ps.length:=by omega
    simp[lt]
   have rp:=r.pick hj;rw[e2]at rp;exact rp.imm (kn _) (R.ext s).tups
  ·cases h
end
end IR
namespace IR
open PySem PySem.Spec PyProof.Rows L2
section
variable{X:Cx}{Hi:Hp}{τ:En}
theorem sX{cd:Nat->List PV->Option PV}{ct:Ct}(C:bC cd X ct){a:Expr}{p pos:Pos}{ra:RV}{n:Nat}(ho:own ct ("len":Str)=true)(hs:isStar a=false)(ha:aG X Hi τ a ra)(h:dR ra.val=some n) :
  aG X Hi τ (.Call (.Name "len" p) [a] [] pos) (sc (.int n)):=by
 cases e:ra.val with
 | str z =>
  rw[e]at h;have h:(if z.length<=LN then some z.length else none)=some n:=h
  split at h
  ·rename_i c
   cases h;exact fR C jq ho PySem.boot_len (by decide) hs ha fun O σ H H2 u Q R s r q=>⟨z,by rw[r.str R s e],by rw[bW];exact c,q _ _ (aA.refl _) o0⟩
  ·cases h
 | lst xs =>
  rw[e]at h;cases h;refine fR C eL ho PySem.boot_len (by decide) hs ha fun O σ H H2 u Q R s r q=> ?_;obtain⟨p,us,rfl,l,r⟩:=r.lst R s e;exact⟨p,us,rfl,.inl l,by rw[<- r.len];exact q _ _ (aA.refl _) o0⟩
 | tup xs =>
  rw[e]at h;cases h;refine fR C eL ho PySem.boot_len (by decide) hs ha fun O σ H H2 u Q R s r q=> ?_;obtain⟨p,us,rfl,l,r⟩:=r.tup R s e;exact⟨p,us,rfl,.inr l,by rw[<- r.len];exact q _ _ (aA.refl _) o0⟩
 | dK ks vs =>
  rw[e]at h;cases h;refine fR C nH ho PySem.boot_len (by decide) hs ha fun O σ H H2 u Q R s r q=> ?_;have z:=r.val R s;rw[e]at z;unfold Rp at z;obtain⟨p,us,rfl,_,hp,hl,_⟩:=z;refine⟨p,_,rfl,.inl hp,?_⟩;have:(ks.zip us).length=ks.length:=by rw[List.length_zip,<-hl,Ec]
  rw[this];exact q _ _ (aA.refl _) o0
 | _=>rw[e]at h;cases h
theorem fC{x:Str}{k:Nat}{f:Bf}(h:lH x k=some f):(x="len"/\k=1/\f=.len)\/(x="int"/\k=1/\f=.int)\/(x="list"/\k=1/\f=.list)\/(x="tuple"/\k=1/\f=.tuple)\/(x="all"/\k=1/\f=.all)\/(x="min"/\k=2/\f=.min)\/(x="max"/\k=2/\f=.max)\/(x="abs"/\k=1/\f=.abs)\/(x="any"/\k=1/\f=.any)\/(x="sum"/\k=1/\f=.sum)\/(x="sorted"/\k=1/\f=.sorted):=by
 unfold lH at h
 split at h
 ·rename_i c;rw[CZ]at c;cases h;exact .inl ⟨Cz c.1,Cz c.2,rfl⟩
 split at h
 ·rename_i c;rw[CZ]at c;cases h;exact .inr (.inl ⟨Cz c.1,Cz c.2,rfl⟩)
 split at h
 ·rename_i c;rw[CZ]at c;cases h;exact .inr (.inr (.inl ⟨Cz c.1,Cz c.2,rfl⟩))
 split at h
 ·rename_i c;rw[CZ]at c;cases h;exact .inr (.inr (.inr (.inl ⟨Cz c.1,Cz c.2,rfl⟩)))
 split at h
 ·rename_i c;rw[CZ]at c;cases h;exact .inr (.inr (.inr (.inr (.inl ⟨Cz c.1,Cz c.2,rfl⟩))))
 split at h
 ·rename_i c;rw[CZ]at c;cases h;exact .inr (.inr (.inr (.inr (.inr (.inl ⟨Cz c.1,Cz c.2,rfl⟩)))))
 split at h
 ·rename_i c;rw[CZ]at c;cases h;exact .inr (.inr (.inr (.inr (.inr (.inr (.inl ⟨Cz c.1,Cz c.2,rfl⟩))))))
 split at h
 ·rename_i c;rw[CZ]at c;cases h;exact .inr (.inr (.inr (.inr (.inr (.inr (.inr (.inl ⟨Cz c.1,Cz c.2,rfl⟩)))))))
 split at h
 ·rename_i c;rw[CZ]at c;cases h;exact .inr (.inr (.inr (.inr (.inr (.inr (.inr (.inr (.inl ⟨Cz c.1,Cz c.2,rfl⟩))))))))
 split at h
 ·rename_i c;rw[CZ]at c;cases h;exact .inr (.inr (.inr (.inr (.inr (.inr (.inr (.inr (.inr (.inl ⟨Cz c.1,Cz c.2,rfl⟩)))))))))
 split at h
 ·rename_i c;rw[CZ]at c;cases h;exact .inr (.inr (.inr (.inr (.inr (.inr (.inr (.inr (.inr (.inr (⟨Cz c.1,Cz c.2,rfl⟩))))))))))
 cases h
theorem AG{cd:Nat->List PV->Option PV}{ct:Ct}(C:bC cd X ct){x:Str}{f:Bf}{a:Expr}{p pos:Pos}{ra r:RV}(ho:own ct x=true)(hb:py x 1=some f)(hs:isStar a=false)(ha:aG X Hi τ a ra)(h:i9 f [ra]=some r) :
  aG X Hi τ (.Call (.Name x p) [a] [] pos) r:=by
 have hb:lH x 1=some f:=hb
 rcases fC hb with⟨rfl,_,rfl⟩|⟨rfl,_,rfl⟩|⟨rfl,_,rfl⟩|⟨rfl,_,rfl⟩|⟨rfl,_,rfl⟩|⟨_,z,_⟩|⟨_,z,_⟩|⟨rfl,_,rfl⟩|⟨rfl,_,rfl⟩|⟨rfl,_,rfl⟩|⟨rfl,_,rfl⟩
 ·have h:(dR ra.val).map (fun n=>sc (.int (n:Nat)))=some r:=h
  cases e:dR ra.val with
  | none=>rw[e]at h;cases h
  | some n =>
   rw[e]at h;cases h;exact sX C ho hs ha e
 ·unfold i9 at h
  cases e:ra.val with
  | int i =>
   simp only[e]at h;cases h;exact nY C io ho PyProof.Rows.boot_int (by decide) hs ha fun O σ H H2 u Q R s r q=>.inl ⟨i,by rw[r.int R s e],q _ _ (aA.refl _) o0⟩
  | bl i =>
   simp only[e]at h;cases h;exact nY C io ho PyProof.Rows.boot_int (by decide) hs ha fun O σ H H2 u Q R s r q=>.inr ⟨i,by rw[r.bl R s e],q _ _ (aA.refl _) o0⟩
  | _=>simp only[e]at h;cases h
 ·have h:(match ra.its with|some (xs,n)=>some (RV.own xs n)|none=>none)=some r:=h
  cases e:ra.its with
  | none=>rw[e]at h;cases h
  | some w =>
   obtain⟨xs,n⟩:=w;rw[e]at h;cases h;refine nY C jp ho PyProof.Rows.boot_list (by decide) hs ha fun O σ H H2 u Q R s r q=> ?_;obtain⟨p,us,rfl,l,r⟩:=r.its R s e;exact⟨p,us,rfl,l.imp (·.1) (·.1),fun l2 hl=>q _ _ (aQ hl _) (cW s hl r)⟩
 ·have h:(match ra.its with|some (xs,n)=>some (RV.frz (.tup xs) n)|none=>none)=some r:=h
  cases e:ra.its with
  | none=>rw[e]at h;cases h
  | some w =>
   obtain⟨xs,n⟩:=w;rw[e]at h;cases h;refine nY C iL ho PyProof.Rows.boot_tuple (by decide) hs ha fun O σ H H2 u Q R s r q=> ?_;obtain⟨p,us,rfl,l,r⟩:=r.its R s e;refine⟨p,us,rfl,l.imp (fun l=>⟨l.1,fun l2 hl=> ?_⟩) (fun l=>⟨l.1,?_⟩)⟩
   ·exact q _ _ (aQ hl _) (Rp.tup.mpr ⟨l2,us,rfl,bL.of (gA R s hl),r.mono (aF (aQ hl _))⟩)
   ·exact q _ _ (aA.refl _) (Rp.tup.mpr ⟨p,us,rfl,oJ R s l.1,r⟩)
 ·unfold i9 at h
  cases e:ra.val with
  | lst xs =>
   simp only[e]at h;cases eb:eM xs with
   | none=>rw[eb]at h;cases h
   | some bs =>
    rw[eb]at h;cases h;refine fR C (lF C.calm) ho boot_all (by decide) hs ha fun O σ H H2 u Q R s r q=> ?_;obtain⟨p,us,rfl,l,r⟩:=r.lst R s e;have:=lG eb r;subst this;exact⟨p,bs,rfl,l,q _ _ (aA.refl _) AZ⟩
  | _=>simp only[e]at h;cases h
 ·cases z
 ·cases z
 ·exact absurd (show(none:Option RV)=some r from h) (by simp)
 ·exact absurd (show(none:Option RV)=some r from h) (by simp)
 ·have h:(match ra.val with
   | .lst xs=>(ag xs).map fun ns=>sc (.int ns.sum)
   | _=>none)=some r:=h
  cases e:ra.val with
  | lst xs =>
   simp only[e]at h;cases eb:ag xs with
   | none=>rw[eb]at h;cases h
   | some bs =>
    rw[eb]at h;cases h;refine fR C (iM C.calm) ho boot_sum (by decide) hs ha fun O σ H H2 u Q R s r q=> ?_;obtain⟨p,us,rfl,l,r⟩:=r.lst R s e;have:=eg eb r;subst this;exact⟨p,bs,rfl,l,q _ _ (aA.refl _) o0⟩
  | _=>simp only[e]at h;cases h
 ·have h:(match ra.val with
   | .lst xs=>gL xs
   | _=>none)=some r:=h
  cases e:ra.val with
  | lst xs =>
   simp only[e]at h;unfold gL at h;cases eb:ag xs with
   | none =>
    rw[eb]at h;exact qr C ho hs ha e h
   | some bs =>
    rw[eb]at h;have h:(if bs.length<64 then some (RV.own ((L2.sortI bs).map PV.int) true)else none)=some r:=h
    split at h
    ·rename_i c
     cases h;refine fR C er ho boot_sorted (by decide) hs ha fun O σ H H2 u Q R s r q=> ?_;obtain⟨p,us,rfl,l,r⟩:=r.lst R s e;have:=eg eb r;subst this;exact⟨p,bs,rfl,l,c,fun a ha=>q _ _ (aQ ha _) (cW s ha (aE.ints.mpr rfl))⟩
    ·cases h
  | _=>simp only[e]at h;cases h
theorem AF{cd:Nat->List PV->Option PV}{ct:Ct}(C:bC cd X ct){x:Str}{f:Bf}{a b:Expr}{p pos:Pos}{ra rb r:RV}(ho:own ct x=true)(hb:py x 2=some f)(hs:isStar a=false)(hs2:isStar b=false)(ha:aG X Hi τ a ra)(hb' :aG X Hi τ b rb)(h:i9 f [ra,rb]=some r) :
  aG X Hi τ (.Call (.Name x p) [a,b] [] pos) r:=by
 refine Dl fun no=> ?_;have hb:lH x 2=some f:=hb
 rcases fC hb with⟨_,z,_⟩|⟨_,z,_⟩|⟨_,z,_⟩|⟨_,z,_⟩|⟨_,z,_⟩|⟨rfl,_,rfl⟩|⟨rfl,_,rfl⟩|⟨_,z,_⟩|⟨_,z,_⟩|⟨_,z,_⟩|⟨_,z,_⟩
 ·cases z
 ·cases z
 ·cases z
 ·cases z
 ·cases z
 ·unfold i9 at h
  cases e1:ra.val with
  | int i =>
   cases e2:rb.val with
   | int j =>
    simp only[e1,e2]at h;cases h;exact no<|b2_go C (pf C.calm) ho boot_min (by decide) hs hs2 ha hb' fun O σ H H2 u v Q R s r r2 q=>⟨i,j,by rw[r.int R s e1,r2.int R s e2],q _ _ (aA.refl _) o0⟩
   | _=>simp only[e1,e2]at h;cases h
  | _=>simp only[e1]at h;cases h
 ·unfold i9 at h
  cases e1:ra.val with
  | int i =>
   cases e2:rb.val with
   | int j =>
    simp only[e1,e2]at h;cases h;exact no<|b2_go C (pi C.calm) ho boot_max (by decide) hs hs2 ha hb' fun O σ H H2 u v Q R s r r2 q=>⟨i,j,by rw[r.int R s e1,r2.int R s e2],q _ _ (aA.refl _) o0⟩
   | _=>simp only[e1,e2]at h;cases h
  | _=>simp only[e1]at h;cases h
 ·cases z
 ·cases z
 ·cases z
 ·cases z
theorem aE.lrng{n:Bool}{H:Hp}(k:Nat):aE X.K Hi n (lrng k) H (xW k):=by
 unfold IR.lrng xW
 generalize List.range k=l
 induction l with
 | nil=>exact .nil
 | cons x l ih=>exact .cons (Rp.int.mpr rfl) ih
theorem count_ok{o a:Expr}{apos cpos:Pos}{ro ra r:RV}(hp:jR o=true)(hl:(apos.endLine==cpos.line)=true)(hs:isStar a=false)(h0:aG X Hi τ o ro)(ha:aG X Hi τ a ra)(h:jY .count ro [ra]=some r) :
  aG X Hi τ (.Call (.Attribute o "count" apos) [a] [] cpos) r:=by
 have hbase:attributeBase o "count" X.env (eval o X.env)=eval o X.env:=by
  cases o<;>first|rfl|cases hp
 unfold jY at h;cases e1:ro.val with
 | str z =>
  cases e2:ra.val with
  | str y =>
   simp only[e1,e2]at h;cases h;intro O σ H Q R q;refine we (nr PySem.F.plainAttrs_str PySem.F.slot_str_count PySem.F.type_str_count sU aW (aB aW aS (aL hs)) hbase (by rw[aL hs];rfl) hl (aL hs) rfl) ?_;refine h0 O σ H _ R fun u H1 s1 r1=> ?_;have e3:=r1.str R s1 e1;subst e3;refine⟨rfl,ha O σ H1 _ (R.ext s1) fun v H2 s2 r2=> ?_⟩;have e4:=(r2.back s1).str R (s1.trans s2) e2;subst e4;exact⟨z,y,rfl,rfl,q _ _ (s1.trans s2) o0⟩
  | _=>simp only[e1,e2]at h;cases h
 | _=>simp only[e1]at h;cases h
theorem ji(sep:Str):∀ys:List Str,Str.join sep ys=jk sep ys
 | []=>rfl
 | [x]=>rfl
 | x::y::r=>by
  show x++sep++Str.join sep (y::r)=_;rw[ji sep (y::r)];rfl
theorem join_ok{o a:Expr}{apos cpos:Pos}{ro ra r:RV}(hp:jR o=true)(hl:(apos.endLine==cpos.line)=true)(hs:isStar a=false)(h0:aG X Hi τ o ro)(ha:aG X Hi τ a ra)(h:jY .join ro [ra]=some r) :
  aG X Hi τ (.Call (.Attribute o "join" apos) [a] [] cpos) r:=by
 have hbase:attributeBase o "join" X.env (eval o X.env)=eval o X.env:=by
  cases o<;>first|rfl|cases hp
 have key:∀(sep:Str)(ys:List Str)(hsep:ro.val=.str sep),(∀(O:List Addr)(σ:L2.St)(H H2:Hp)(u:V),aX X.K Hi O τ σ H->aA H H2->aT X.K Hi O H H2 ra u->∃p,u=.ref p/\(ar X.K H2 p (ys.map V.str)\/bL X.K H2 p (ys.map V.str))) ->
   (ys.map (·.length)).sum+ys.length*sep.length<=LN->aG X Hi τ (.Call (.Attribute o "join" apos) [a] [] cpos) (sc (.str (jk sep ys))):=by
  intro sep ys hsep fz hz O σ H Q R q;refine we (nr PySem.F.plainAttrs_str PySem.F.slot_str_join PySem.F.type_str_join vt aW (aB aW aS (aL hs)) hbase (by rw[aL hs];rfl) hl (aL hs) rfl) ?_;refine h0 O σ H _ R fun u H1 s1 r1=> ?_;have e1:=r1.str R s1 hsep;subst e1;refine⟨rfl,ha O σ H1 _ (R.ext s1) fun v H2 s2 r2=> ?_⟩;obtain⟨p,rfl,hq⟩:=fz O σ H H2 v R (s1.trans s2) (r2.back s1);refine⟨sep,p,ys,rfl,rfl,hq,hz,?_⟩;have e:Txt.join sep ys=jk sep ys:=(PySem.StrLaws.glued_eq_join _ _).trans (ji sep ys);rw[e];exact q _ _ (s1.trans s2) AY
 unfold jY at h;cases e1:ro.val with
 | str sep =>
  cases e2:ra.val with
  | lst xs =>
   simp only[e1,e2]at h;cases et:au xs with
   | none=>rw[et]at h;cases h
   | some ys =>
    rw[et]at h;have h:(if(ys.map (·.length)).sum+ys.length*sep.length<=LN then some (sc (.str (jk sep ys)))else none)=some r:=h
    split at h
    ·rename_i c
     cases h;refine key sep ys e1 (fun O σ H H2 u R s r=> ?_) c;obtain⟨p,us,rfl,l,r⟩:=r.lst R s e2;have:=gH et r;subst this;exact⟨p,rfl,.inl l⟩
    ·cases h
  | tup xs =>
   simp only[e1,e2]at h;cases et:au xs with
   | none=>rw[et]at h;cases h
   | some ys =>
    rw[et]at h;have h:(if(ys.map (·.length)).sum+ys.length*sep.length<=LN then some (sc (.str (jk sep ys)))else none)=some r:=h
    split at h
    ·rename_i c
     cases h;refine key sep ys e1 (fun O σ H H2 u R s r=> ?_) c;obtain⟨p,us,rfl,l,r⟩:=r.tup R s e2;have:=gH et r;subst this;exact⟨p,rfl,.inr l⟩
    ·cases h
  | _=>simp only[e1,e2]at h;cases h
 | _=>simp only[e1]at h;cases h
theorem BW{b:Expr}(h:jf b=false):xB b:=by
 intro o i;cases b<;>first|rfl|cases h
theorem vX{b:Expr}(h:jf b=false):oY b:=by
 intro o i;cases b<;>first|rfl|cases h
theorem gx{n:Bool}{xs:List PV}{H:Hp}{us:List V}{k:Int}{e:PV}(r:aE X.K Hi n xs H us)(h:cO xs k=some e):∃u,cO us k=some u/\Rp X.K Hi n e H u:=by
 unfold cO at h ⊢;rw[<- r.len];cases c:wA xs.length k with
 | none=>rw[c]at h;cases h
 | some j =>
  rw[c]at h;exact r.at (i:=j) h
theorem tG(hun:X.A.units+64<cLine){a i:Expr}{pos:Pos}{x y r:RV}(hb:jf i=false)(ha:aG X Hi τ a x)(hi:aG X Hi τ i y)(h:index x y=some r):aG X Hi τ (.Subscript a i pos) r:=by
 have go:∀{rr:R2}(hr:CO X rr),(∀(O:List Addr)(σ:L2.St)(H H2:Hp)(u v:V)(Q:VK),aX X.K Hi O τ σ H->aA H H2->aT X.K Hi O H H2 x u->aT X.K Hi O H H2 y v->(∀w,aT X.K Hi O H H2 r w->Q w H2)->rr u v H2 Q)->aG X Hi τ (.Subscript a i pos) r:=by
  intro rr hr k O σ H Q R q;refine we (rh hr aW aW (vX hb)) ?_;refine ha O σ H _ R fun u H1 s1 r1=>hi O σ H1 _ (R.ext s1) fun v H2 s2 r2=> ?_;exact k O σ H H2 u v Q R (s1.trans s2) (r1.ext s2) (r2.back s1) fun w r3=>q w H2 (s1.trans s2) r3
 unfold index at h
 split at h
 case h_1 xs n k e2 =>
  cases c:cO xs k with
  | none=>rw[c]at h;cases h
  | some e =>
   rw[c]at h;cases h;refine go eD fun O σ H H2 u v Q R s r1 r2 q=> ?_;obtain⟨p,us,rfl,_,l,r⟩:=Rp.lst.mp (show Rp X.K Hi n (.lst xs) (aN H2 O) u from r1);obtain⟨w,hw,rw'⟩:=gx r c;exact⟨p,us,k,w,rfl,r2.int R s e2,(aO (O:=O)).seq l,hw,q w (rw'.mono al).up⟩
 case h_2 xs n k e2 =>
  cases c:cO xs k with
  | none=>rw[c]at h;cases h
  | some e =>
   rw[c]at h;cases h;refine go tD fun O σ H H2 u v Q R s r1 r2 q=> ?_;obtain⟨p,us,rfl,l,r⟩:=Rp.tup.mp (show Rp X.K Hi n (.tup xs) (aN H2 O) u from r1);obtain⟨w,hw,rw'⟩:=gx r c;exact⟨p,us,k,w,rfl,r2.int R s e2,(aO (O:=O)).tup l,hw,q w rw'.up⟩
 case h_3 xs n k e2 =>
  cases c:cO xs k with
  | none=>rw[c]at h;cases h
  | some e =>
   rw[c]at h;cases h;refine go eD fun O σ H H2 u v Q R s r1 r2 q=> ?_;obtain⟨p,us,rfl,h0,h1,r⟩:=r1;obtain⟨w,hw,rw'⟩:=gx r c;exact⟨p,us,k,w,rfl,r2.int R s e2,ar.of h1,hw,q w (rw'.mono (aF al)).up⟩
 case h_4 xs k e2 =>
  cases c:cO xs k with
  | none=>rw[c]at h;cases h
  | some e =>
   rw[c]at h;cases h;refine go eD fun O σ H H2 u v Q R s r1 r2 q=> ?_;obtain⟨p,us,rfl,_,l,r⟩:=Rp.lst.mp (show Rp X.K Hi false (.lst xs) H2 u from r1);obtain⟨w,hw,rw'⟩:=gx r c;refine⟨p,us,k,w,rfl,r2.int R s e2,l,hw,q w ?_⟩;unfold fM
   split
   ·rename_i im
    exact Rp.imm im (R.ext s).tups (rw'.mono al)
   ·exact rw'.mono al
 case h_5 xs k e2 =>
  cases c:cO xs k with
  | none=>rw[c]at h;cases h
  | some e =>
   rw[c]at h;cases h;refine go tD fun O σ H H2 u v Q R s r1 r2 q=> ?_;obtain⟨p,us,rfl,l,r⟩:=Rp.tup.mp (show Rp X.K Hi false (.tup xs) H2 u from r1);obtain⟨w,hw,rw'⟩:=gx r c;refine⟨p,us,k,w,rfl,r2.int R s e2,l,hw,q w ?_⟩;unfold fM
   split
   ·rename_i im
    exact Rp.imm im (R.ext s).tups rw'
   ·exact rw'
 case h_6 z n k e2 =>
  split at h
  ·rename_i hz
   cases c:cO z.cps.toList k with
   | none=>rw[c]at h;cases h
   | some e =>
    rw[c]at h;cases h;exact go zI fun O σ H H2 u v Q R s r1 r2 q=>⟨z,k,e,r1.str R s rfl,r2.int R s e2,by rw[bW];exact hz,c,q _ AY⟩
  ·cases h
 case h_7 ks vs n =>
  cases ek:eC y.val with
  | none=>rw[ek]at h;cases h
  | some k =>
   rw[ek]at h;have h:(fU ks vs k).map (fun e=>RV.frz e (n||imm e))=some r:=h;cases c:fU ks vs k with
   | none=>rw[c]at h;cases h
   | some e =>
    rw[c]at h;cases h;intro O σ H Q R q;refine we (jU (by omega) aW aW (BW hb)) ?_;refine ha O σ H _ R fun u H1 s1 r1=>hi O σ H1 _ (R.ext s1) fun v H2 s2 r2=> ?_;obtain⟨p,us,rfl,h1,h2,h3⟩:=Rp.dK (show Rp X.K Hi n (.dK ks vs) (aN H2 O) u from r1.ext s2);obtain⟨w,hw,rw'⟩:=(jB (k:=k) h3 h2).2 e c;rw[kh ek ((r2.back s1).val R (s1.trans s2))];have g:g9 H2 p (kV k) (some w):=by rw[<- hw];exact .k (aO p _ h1)
    exact⟨p,w,rfl,g,q w H2 (s1.trans s2) (rw'.mono al).up⟩
 case h_8 ks vs =>
  cases ek:eC y.val with
  | none=>rw[ek]at h;cases h
  | some k =>
   rw[ek]at h;have h:(fU ks vs k).map fM=some r:=h;cases c:fU ks vs k with
   | none=>rw[c]at h;cases h
   | some e =>
    rw[c]at h;cases h;intro O σ H Q R q;refine we (jU (by omega) aW aW (BW hb)) ?_;refine ha O σ H _ R fun u H1 s1 r1=>hi O σ H1 _ (R.ext s1) fun v H2 s2 r2=> ?_;obtain⟨p,us,rfl,h1,h2,h3⟩:=Rp.dK (show Rp X.K Hi false (.dK ks vs) H2 u from r1.ext s2);obtain⟨w,hw,rw'⟩:=(jB (k:=k) h3 h2).2 e c;rw[kh ek ((r2.back s1).val R (s1.trans s2))];have g:g9 H2 p (kV k) (some w):=by rw[<- hw];exact .k h1
    refine⟨p,w,rfl,g,q w H2 (s1.trans s2) ?_⟩;unfold fM
    split
    ·rename_i im
     exact Rp.imm im (R.ext (s1.trans s2)).tups (rw'.mono al)
    ·exact rw'.mono al
 case h_9=>cases h
variable(X Hi τ)in
noncomputable def qC(e:Option Expr)(o:Option Int):Prop:=match e,o with
 | none,none=>True
 | some e,some i=>∃r,aG X Hi τ e r/\r.val=.int i
 | _,_=>False
theorem cw{a:Expr}{lo hi:Option Expr}{l h:Option Int}{p2 pos:Pos}{x r:RV}{rr:V->Option Int->Option Int->Hp->VK->Prop}(hr:Ab X rr)(ha:aG X Hi τ a x)(hl:qC X Hi τ lo l)(hh:qC X Hi τ hi h)
  (k:∀(O:List Addr)(σ:L2.St)(H H2:Hp)(u:V)(Q:VK),aX X.K Hi O τ σ H->aA H H2->aT X.K Hi O H H2 x u->(∀w H3,aA H2 H3->aT X.K Hi O H H3 r w->Q w H3)->rr u l h H2 Q):aG X Hi τ (.Subscript a (.Slice lo hi none p2) pos) r:=by
 have part:∀{e:Option Expr}{o:Option Int},qC X Hi τ e o->∃t,PO X e t/\∀(O:List Addr)(σ:L2.St)(H:Hp)(Q:Option Int->Hp->Prop),aX X.K Hi O τ σ H->(∀H',aA H H' ->Q o H')->t σ H Q:=by
  intro e o he;cases e with
  | none =>
   cases o with
   | none=>exact⟨_,vV,fun O σ H Q R q=>q H (aA.refl _)⟩
   | some i=>cases he
  | some e =>
   cases o with
   | none=>cases he
   | some i =>
    obtain⟨r,h1,h2⟩:=he;exact⟨_,vU aW,fun O σ H Q R q=>h1 O σ H _ R fun u H1 s1 r1=>⟨i,r1.int R s1 h2,q _ s1⟩⟩
 obtain⟨tl,pl,ql⟩:=part hl;obtain⟨th,ph,qh⟩:=part hh;intro O σ H Q R q;refine we (rg hr aW pl ph) ?_;refine ha O σ H _ R fun u H1 s1 r1=>ql O σ H1 _ (R.ext s1) fun H2 s2=>qh O σ H2 _ (R.ext (s1.trans s2)) fun H3 s3=> ?_;exact k O σ H H3 u Q R (s1.trans (s2.trans s3)) (r1.ext (s2.trans s3)) fun w H4 s4 r4=>q w H4 (s1.trans (s2.trans (s3.trans s4))) r4
theorem aE.cut{n:Bool}{xs:List PV}{H:Hp}{us:List V}(r:aE X.K Hi n xs H us)(lo hi:Option Int):aE X.K Hi n (IR.cut xs lo hi) H (lA us lo hi):=by
 unfold IR.cut lA;rw[<- r.len];exact(r.drop _).take _
theorem aT.whole{O:List Addr}{σ:L2.St}{H H' :Hp}{x:RV}{u:V}{xs ys:List PV}{n:Bool}(R:aX X.K Hi O τ σ H)(s:aA H H')(h:aT X.K Hi O H H' x u)(e:x.its=some (xs,n))(ev:x.val=.tup ys):aT X.K Hi O H H' (.frz (.tup xs) n) u:=by
 cases x with
 | frz w m =>
  obtain rfl:w=.tup ys:=ev;cases e;exact h
 | bor w =>
  obtain rfl:w=.tup ys:=ev;have e:(if imms ys then some (ys,true)else none)=some (xs,n):=e
  split at e
  ·rename_i i
   cases e;exact Rp.imm (by rw[imm];exact i) (R.ext s).tups (show Rp X.K Hi false (.tup _) H' u from h)
  ·cases e
 | own ys m=>cases ev
 | owd b ys m=>cases b<;>cases ev
theorem qw{a:Expr}{lo hi:Option Expr}{l h:Option Int}{p2 pos:Pos}{x r:RV}(ha:aG X Hi τ a x)(hl:qC X Hi τ lo l)(hh:qC X Hi τ hi h)(e:slice x l h=some r):aG X Hi τ (.Subscript a (.Slice lo hi none p2) pos) r:=by
 unfold slice at e
 split at e
 case h_1 z ev =>
  split at e
  ·rename_i hz
   split at e
   ·rename_i k
    split at e
    ·rename_i hk
     cases e;refine cw qz ha hl hh fun O σ H H2 u Q R s r1 q=>⟨z,r1.str R s ev,by rw[bW];exact hz,?_⟩;have e1:Txt.slice z none (some k)=(⟨(z.cps.toList.take k.toNat).toArray⟩:Str):=by
      refine UM.ft ?_;have:=ou z k.toNat;rw[show((k.toNat:Nat):Int)=k by omega]at this;rw[this]
     rw[e1];exact q _ _ (aA.refl _) AY
    ·cases e
   ·rename_i k
    split at e
    ·rename_i hk
     cases e;refine cw qz ha hl hh fun O σ H H2 u Q R s r1 q=>⟨z,r1.str R s ev,by rw[bW];exact hz,?_⟩;have e1:Txt.slice z (some k) none=(⟨(z.cps.toList.drop k.toNat).toArray⟩:Str):=by
      refine UM.ft ?_;have:=oq z k.toNat;rw[show((k.toNat:Nat):Int)=k by omega]at this;rw[this]
     rw[e1];exact q _ _ (aA.refl _) AY
    ·cases e
   ·cases e
  ·cases e
 case h_2 ev =>
  cases ei:x.its with
  | none=>rw[ei]at e;cases e
  | some w =>
   obtain⟨xs,n⟩:=w;rw[ei]at e;cases e;refine cw uz ha hl hh fun O σ H H2 u Q R s r1 q=> ?_;obtain⟨p,us,rfl,l1,r2⟩:=r1.itsL R s ei ev;exact⟨p,us,rfl,l1,fun p3 hp=>q _ _ (aQ hp _) (cW s hp (r2.up.cut _ _))⟩
 case h_3 ev =>
  cases ei:x.its with
  | none=>rw[ei]at e;cases e
  | some w =>
   obtain⟨xs,n⟩:=w;rw[ei]at e;dsimp only at e
   split at e
   ·rename_i hw
    cases e;refine cw uy ha hl hh fun O σ H H2 u Q R s r1 q=> ?_;obtain⟨p,us,rfl,l1,r2⟩:=r1.itsT R s ei ev;exact⟨p,us,rfl,l1,by rw[<- r2.len];exact hw,q _ _ (aA.refl _) (r1.whole R s ei ev)⟩
   ·rename_i hw
    cases e;refine cw yM ha hl hh fun O σ H H2 u Q R s r1 q=> ?_;obtain⟨p,us,rfl,l1,r2⟩:=r1.itsT R s ei ev;refine⟨p,us,rfl,l1,by rw[<- r2.len];exact hw,fun p3 hp=>q _ _ (aQ hp _) ?_⟩;exact Rp.tup.mpr ⟨p3,_,rfl,bL.of (gA R s hp),(r2.cut _ _).mono (aF (aQ hp _))⟩
 case h_4=>cases e
end
end IR
namespace IR
open PySem L2
section
variable{X:Cx}{Hi:Hp}{τ:En}
end
end IR
namespace IR
open PySem PySem.Spec PyProof.Rows L2
section
variable{X:Cx}{Hi:Hp}{τ:En}
noncomputable def WI(X:Cx)(tg iter:Expr)(σ:L2.St)(H:Hp)(R:It->Hp->Prop):Prop:=∃wi,PI X tg iter wi/\wi σ H R
theorem vZ{tg iter:Expr}:PI X tg iter (fun σ H R=>WI X tg iter σ H R):=fun pins s σ H R I ⟨wi,h,q⟩=>h pins s σ H R I q
noncomputable def nU(O:List Addr)(H:Hp):Prop:=∀l∈O,∃o,H l=some o/\Mo o
theorem aX.lsts{K:W.Frag}{O:List Addr}{σ:L2.St}{H:Hp}(R:aX K Hi O τ σ H):nU O H:=fun l hl=>(R.own l hl).2
noncomputable def xA(B:Hp)(H:Hp)(O:List Addr):Prop:=nU O H/\aA B (aN H O)
noncomputable def OkB(B:Hp)(H:Hp)(O:List Addr):Prop:=nU O H/\aA B H
theorem nU.tups{O:List Addr}{H:Hp}(h:nU O H):nR H (aN H O):=by
 refine eN.tups fun l hl=> ?_;obtain⟨us,e,mo⟩:=h l hl;exact mo.noTup e
variable(X Hi)in
structure fS(J:It)(Ok:Hp->List Addr->Prop)(xs:List PV)(n:Bool):Prop where
 go:∀(H:Hp)(O:List Addr)(i:Nat),Ok H O->i<xs.length->J.go i H
 stop:∀(H:Hp)(O:List Addr),Ok H O->J.stop xs.length H
 yld:∀(H:Hp)(O:List Addr)(i:Nat)(u:V)(H' :Hp),Ok H O->i<xs.length->J.yld i H u H' ->aA H H' /\∃x,xs[i]? =some x/\Rp X.K Hi n x (aN H' O) u
variable(X Hi τ)in
noncomputable def iP(tg iter:Expr)(xs:List PV)(n b:Bool):Prop:=∀(O:List Addr)(σ:L2.St)(H:Hp)(R:It->Hp->Prop),aX X.K Hi O τ σ H ->
 (∀J H1,aA H H1->fS X Hi J (if b=true then OkB H1 else xA (aN H1 O)) xs n->R J H1)->WI X tg iter σ H R
theorem xa{B:Hp}{p:Addr}{us:List V}{xs:List PV}{n:Bool}(l:ar X.K B p us)(r:aE X.K Hi n xs B us):fS X Hi (Itl X.K p) (xA B) xs n where
 go:=fun H O i ok hi=>⟨us,us[i]'(by rw[<- r.len];exact hi),(ok.2.trans aO).seq l,by simp⟩
 stop:=fun H O ok=>⟨us,(ok.2.trans aO).seq l,by rw[r.len];exact Ca _⟩
 yld:=fun H O i u H' ok hi y=>by
  obtain⟨e,y⟩:=y;subst e;obtain⟨x,h1,h2⟩:=r.at' (y us ((ok.2.trans aO).seq l));exact⟨aA.refl _,x,h1,h2.mono ok.2⟩
theorem Bo{B:Hp}{p:Addr}{us:List V}{xs:List PV}{n:Bool}(l:bL X.K B p us)(r:aE X.K Hi n xs B us):fS X Hi (Itt X.K p) (xA B) xs n where
 go:=fun H O i ok hi=>⟨us,us[i]'(by rw[<- r.len];exact hi),(ok.2.trans aO).tup l,by simp⟩
 stop:=fun H O ok=>⟨us,(ok.2.trans aO).tup l,by rw[r.len];exact Ca _⟩
 yld:=fun H O i u H' ok hi y=>by
  obtain⟨e,y⟩:=y;subst e;obtain⟨x,h1,h2⟩:=r.at' (y us ((ok.2.trans aO).tup l));exact⟨aA.refl _,x,h1,h2.mono ok.2⟩
theorem zi{B:Hp}{p:Addr}{us:List V}{xs:List PV}{n m:Bool}(l:ar X.K B p us)(r:aE X.K Hi m xs B us)(im:imms xs=true):fS X Hi (Itl X.K p) (OkB B) xs n where
 go:=fun H O i ok hi=>⟨us,us[i]'(by rw[<- r.len];exact hi),ok.2.seq l,by simp⟩
 stop:=fun H O ok=>⟨us,ok.2.seq l,by rw[r.len];exact Ca _⟩
 yld:=fun H O i u H' ok hi y=>by
  obtain⟨e,y⟩:=y;subst e;have r2:aE X.K Hi n xs (aN H' O) us:=aE.imm im ok.1.tups (r.mono ok.2);obtain⟨x,h1,h2⟩:=r2.at' (y us (ok.2.seq l));exact⟨aA.refl _,x,h1,h2⟩
theorem zh{B:Hp}{p:Addr}{us:List V}{xs:List PV}{n m:Bool}(l:bL X.K B p us)(r:aE X.K Hi m xs B us)(im:imms xs=true):fS X Hi (Itt X.K p) (OkB B) xs n where
 go:=fun H O i ok hi=>⟨us,us[i]'(by rw[<- r.len];exact hi),ok.2.tup l,by simp⟩
 stop:=fun H O ok=>⟨us,ok.2.tup l,by rw[r.len];exact Ca _⟩
 yld:=fun H O i u H' ok hi y=>by
  obtain⟨e,y⟩:=y;subst e;have r2:aE X.K Hi n xs (aN H' O) us:=aE.imm im ok.1.tups (r.mono ok.2);obtain⟨x,h1,h2⟩:=r2.at' (y us (ok.2.tup l));exact⟨aA.refl _,x,h1,h2⟩
theorem dF(z:Str):(signs z).length=z.cps.size:=by unfold signs;rw[CW,Cn]
theorem signs_at{z:Str}{i:Nat}{c:Nat}(h:z.cps[i]? =some c):(signs z)[i]? =some (.str ⟨#[c]⟩):=by
 unfold signs;rw[Cp,Array.getElem?_toList,h];rfl
theorem Bp{B:Hp}{z:Str}{n:Bool}:fS X Hi (CP z) (xA B) (signs z) n where
 go:=fun H O i ok hi=>by rw[dF]at hi;exact hi
 stop:=fun H O ok=>by show(signs z).length=z.cps.size;exact dF z
 yld:=fun H O i u H' ok hi y=>by
  obtain⟨e,c,hc,rfl⟩:=y;subst e;exact⟨aA.refl _,_,signs_at hc,Rp.str.mpr rfl⟩
theorem oQ{B:Hp}{lo:Int}{k:Nat}{n:Bool}:fS X Hi (CQ lo k) (xA B) ((List.range k).map fun i=>.int (lo+(i:Nat))) n where
 go:=fun H O i ok hi=>by show i<k;simpa using hi
 stop:=fun H O ok=>by show k<=_;simp
 yld:=fun H O i u H' ok hi y=>by
  obtain⟨e,rfl⟩:=y;subst e;have hi:i<k:=by simpa using hi
  exact⟨aA.refl _,_,by rw[Cp,DO hi];rfl,Rp.int.mpr rfl⟩
theorem tW{B:Hp}{lo c:Int}{k:Nat}{n:Bool}:fS X Hi (Itc lo c k) (xA B) ((List.range k).map fun i=>.int (lo+(i:Nat)*c)) n where
 go:=fun H O i ok hi=>by show i<k;simpa using hi
 stop:=fun H O ok=>by show _=k;simp
 yld:=fun H O i u H' ok hi y=>by
  obtain⟨e,rfl⟩:=y;subst e;have hi:i<k:=by simpa using hi
  exact⟨aA.refl _,_,by rw[Cp,DO hi];rfl,Rp.int.mpr rfl⟩
theorem yN{tg e:Expr}{r:RV}{xs:List PV}{n b:Bool}(he:aG X Hi τ e r)(h:iU r=some (xs,n,b)):iP X Hi τ tg e xs n b:=by
 intro O σ H R Rl q;cases r with
 | frz v m =>
  cases v with
  | str z =>
   cases h;refine⟨_,ya aW,?_⟩;exact he O σ H _ Rl fun u H1 s1 r1=>⟨z,r1.str Rl s1 rfl,q _ _ s1 Bp⟩
  | lst ys =>
   cases h;refine⟨_,jS aW,?_⟩;refine he O σ H _ Rl fun u H1 s1 r1=> ?_;obtain⟨p,us,rfl,_,l,r⟩:=Rp.lst.mp (show Rp X.K Hi n (.lst xs) (aN H1 O) u from r1);exact⟨p,rfl,⟨us,(aO (O:=O)).seq l⟩,q _ _ s1 (xa l (r.mono al))⟩
  | tup ys =>
   cases h;refine⟨_,rX aW,?_⟩;refine he O σ H _ Rl fun u H1 s1 r1=> ?_;obtain⟨p,us,rfl,l,r⟩:=Rp.tup.mp (show Rp X.K Hi n (.tup xs) (aN H1 O) u from r1);exact⟨p,rfl,⟨us,(aO (O:=O)).tup l⟩,q _ _ s1 (Bo l r)⟩
  | _=>cases h
 | bor v =>
  cases v with
  | lst ys =>
   have h:(if imms ys then some (ys,true,true)else none)=some (xs,n,b):=h
   split at h
   ·rename_i im
    cases h;refine⟨_,jS aW,?_⟩;refine he O σ H _ Rl fun u H1 s1 r1=> ?_;obtain⟨p,us,rfl,_,l,r⟩:=Rp.lst.mp (show Rp X.K Hi false (.lst xs) H1 u from r1);exact⟨p,rfl,⟨us,l⟩,q _ _ s1 (zi l (r.mono al) im)⟩
   ·cases h
  | tup ys =>
   have h:(if imms ys then some (ys,true,true)else none)=some (xs,n,b):=h
   split at h
   ·rename_i im
    cases h;refine⟨_,rX aW,?_⟩;refine he O σ H _ Rl fun u H1 s1 r1=> ?_;obtain⟨p,us,rfl,l,r⟩:=Rp.tup.mp (show Rp X.K Hi false (.tup xs) H1 u from r1);exact⟨p,rfl,⟨us,l⟩,q _ _ s1 (zh l r im)⟩
   ·cases h
  | _=>cases h
 | owd bd ys m=>cases h
 | own ys m =>
  cases h;refine⟨_,jS aW,?_⟩;refine he O σ H _ Rl fun u H1 s1 r1=> ?_;obtain⟨p,us,rfl,h0,h1,r⟩:=r1;have hl:aN H1 O p=some (.lst us):=by
   unfold aN;rw[Ci fun z=> ?_]
   ·exact h1
   ·obtain⟨vs,e',_⟩:=(Rl.own p z).2
    rw[h0]at e';cases e'
  exact⟨p,rfl,⟨us,ar.of h1⟩,q _ _ s1 (xa (ar.of hl) (r.mono (aF al)))⟩
theorem yR{cd:Nat->List PV->Option PV}{ct:Ct}(C:bC cd X ct){tg:Expr}{es:List Expr}{p pos:Pos}{rs:List RV}{xs:List PV}(ho:own ct ("range":Str)=true)(hs:∀a∈es,isStar a=false)(ha:jw X Hi τ es rs)(hl:es.length=rs.length)(h:dN rs=some xs) :
  iP X Hi τ tg (.Call (.Name "range" p) es [] pos) xs true false:=by
 intro O σ H R Rl q;obtain⟨g,hm⟩:=fN C ho;unfold dN at h
 split at h
 ·rename_i ra
  cases e:ra.val with
  | int j =>
   simp only[e]at h
   split at h
   ·rename_i c
    cases h
    match es,hl with
    | [a],_ =>
     refine⟨_,pC g hm mS (aL (hs a (by simp))),?_⟩;refine ha O σ H _ Rl fun us H1 s1 r1=> ?_;obtain⟨u,vs,rfl,r2,z⟩:=r1;cases z;exact⟨j,by rw[r2.int Rl s1 e],c.1,c.2,q _ _ s1 oQ⟩
   ·cases h
  | _=>simp only[e]at h;cases h
 ·rename_i ra rb
  cases e:ra.val with
  | int i =>
   cases e2:rb.val with
   | int j =>
    simp only[e,e2]at h
    split at h
    ·rename_i c
     cases h
     match es,hl with
     | [a,b],_ =>
      have h1:starEach [a,b] X.env=[(false,eval a X.env),(false,eval b X.env)]:=by rw[aL (hs a (by simp)),aL (hs b (by simp))];rfl
      refine⟨_,pB g hm mS h1 (aL (hs b (by simp))),?_⟩;refine ha O σ H _ Rl fun us H1 s1 r1=> ?_;obtain⟨u,vs,rfl,r2,u2,vs2,rfl,r3,z⟩:=r1;cases z;exact⟨i,j,by rw[r2.int Rl s1 e,r3.int Rl s1 e2],c,q _ _ s1 oQ⟩
    ·cases h
   | _=>simp only[e,e2]at h;cases h
  | _=>simp only[e]at h;cases h
 ·rename_i ra rb rc
  cases e:ra.val with
  | int i =>
   cases e2:rb.val with
   | int j =>
    cases e3:rc.val with
    | int k =>
     simp only[e,e2,e3]at h
     split at h
     ·rename_i c
      cases h
      match es,hl with
      | [a,b,d],_ =>
       refine⟨_,pA g hm mS (aL (hs a (by simp))) (dI fun z hz=>hs z (by simp at hz ⊢;rcases hz with rfl|rfl<;>simp)),?_⟩;refine ha O σ H _ Rl fun us H1 s1 r1=> ?_;obtain⟨u,vs,rfl,r2,u2,vs2,rfl,r3,u3,vs3,rfl,r4,z⟩:=r1;cases z;exact⟨i,j,k,by rw[r2.int Rl s1 e,r3.int Rl s1 e2,r4.int Rl s1 e3],c.1,c.2.1,c.2.2,q _ _ s1 tW⟩
     ·cases h
    | _=>simp only[e,e2,e3]at h;cases h
   | _=>simp only[e,e2]at h;cases h
  | _=>simp only[e]at h;cases h
 ·cases h
theorem jZ{O:List Addr}{σ:L2.St}{H H1:Hp}{r:RV}{xs:List PV}{n:Bool}{u:V}(R:aX X.K Hi O τ σ H)(s:aA H H1)(h:sW r=some (xs,n))(ok:aT X.K Hi O H H1 r u):∃p us,u=.ref p/\ar X.K (aN H1 O) p us/\aE X.K Hi n xs (aN H1 O) us:=by
 cases r with
 | frz v m =>
  cases v with
  | lst ys =>
   cases h;obtain⟨p,us,rfl,_,l,r⟩:=Rp.lst.mp (show Rp X.K Hi n (.lst xs) (aN H1 O) u from ok);exact⟨p,us,rfl,l,r.mono al⟩
  | _=>cases h
 | bor v=>cases h
 | owd bd ys m=>cases h
 | own ys m =>
  cases h;obtain⟨p,us,rfl,h0,h1,r⟩:=ok;have hl:aN H1 O p=some (.lst us):=by
   unfold aN;rw[Ci fun z=> ?_]
   ·exact h1
   ·obtain⟨vs,e',_⟩:=(R.own p z).2
    rw[h0]at e';cases e'
  exact⟨p,us,rfl,ar.of hl,r.mono (aF al)⟩
theorem fy{O:List Addr}{H:Hp}{p:Addr}{us:List V}{xs:List PV}{n:Bool}(l:nU O H)(hp:H p=none)(r:aE X.K Hi n xs (aN H O) us):Rp X.K Hi n (.tup xs) (aN (L2.upd H p (.tup us)) O) (.ref p):=by
 refine Rp.tup.mpr ⟨p,us,rfl,bL.of ?_,r.mono (aF (aQ hp _))⟩;unfold aN;rw[Ci fun z=> ?_]
 ·exact aJ
 ·obtain⟨us,e,_⟩:=l p z
  rw[e]at hp;cases hp
theorem xj{cd:Nat->List PV->Option PV}{ct:Ct}(C:bC cd X ct){ts:List Expr}{kt:Nat}{tpos:Pos}{a b:Expr}{p pos:Pos}{ra rb:RV}{xs:List PV}{n:Bool}(ho:own ct ("zip":Str)=true)(hs:isStar a=false)(hs2:isStar b=false)(ha:aG X Hi τ a ra)(hb:aG X Hi τ b rb)(h:qM ra rb=some (xs,n)) :
  iP X Hi τ (.Tuple ts kt tpos) (.Call (.Name "zip" p) [a,b] [] pos) xs n false:=by
 intro O σ H R Rl q;obtain⟨g,hm⟩:=fN C ho;unfold qM at h
 split at h
 ·rename_i ys n1 zs n2 e1 e2
  split at h
  ·rename_i hlen
   cases h;refine⟨_,yZ g hm (aB aW (aB aW aS (aL hs2)) (aL hs)) (aL hs) (dI fun c hc=>by simp at hc;subst hc;exact hs2),?_⟩;refine ha O σ H _ Rl fun u H1 s1 r1=>hb O σ H1 _ (Rl.ext s1) fun v H2 s2 r2=> ?_;obtain⟨p1,us,rfl,l1,q1⟩:=jZ Rl (s1.trans s2) e1 (r1.ext s2);obtain⟨p2,vs,rfl,l2,q2⟩:=jZ Rl (s1.trans s2) e2 (r2.back s1);refine⟨p1,p2,us,vs,rfl,(aO (O:=O)).seq l1,(aO (O:=O)).seq l2,q _ _ (s1.trans s2) ?_⟩;have z1:=q1.len;have z2:=q2.len;have zl:(List.zipWith nu ys zs).length=us.length:=by rw[Dv,<-hlen,Ec];exact z1
   refine⟨fun G P i ok hi=> ?_,fun G P ok=> ?_,fun G P i w G' ok hi y=> ?_⟩
   ·rw[zl]at hi
    exact⟨us,vs,us[i],vs[i]'(by omega),(ok.2.trans aO).seq l1,(ok.2.trans aO).seq l2,by simp,by simp⟩
   ·exact⟨us,vs,(ok.2.trans aO).seq l1,(ok.2.trans aO).seq l2,.inl (by rw[zl];exact Ca _)⟩
   ·rw[zl]at hi
    obtain⟨p3,hp3,rfl,y⟩:=y;have e:=y us vs us[i] (vs[i]'(by omega)) ((ok.2.trans aO).seq l1) ((ok.2.trans aO).seq l2) (by simp) (by simp);subst e;obtain⟨x1,hx1,rx1⟩:=q1.at' (i:=i) (u:=us[i]) (by simp);obtain⟨x2,hx2,rx2⟩:=q2.at' (i:=i) (u:=vs[i]'(by omega)) (by simp);refine⟨aQ hp3 _,nu x1 x2,by rw[Dk,hx1,hx2],fy ok.1 hp3 (.cons ((rx1.mono ok.2).low fun z=> ?_) (.cons ((rx2.mono ok.2).low fun z=> ?_) .nil))⟩
    ·rw[CZ]at z;exact z.1
    ·rw[CZ]at z;exact z.2
  ·cases h
 ·cases h
theorem wO{cd:Nat->List PV->Option PV}{ct:Ct}(C:bC cd X ct){ts:List Expr}{kt:Nat}{tpos:Pos}{a:Expr}{p pos:Pos}{ra:RV}{xs:List PV}{n:Bool}(ho:own ct ("enumerate":Str)=true)(hs:isStar a=false)(ha:aG X Hi τ a ra)(h:gp ra=some (xs,n)) :
  iP X Hi τ (.Tuple ts kt tpos) (.Call (.Name "enumerate" p) [a] [] pos) xs n false:=by
 intro O σ H R Rl q;obtain⟨g,hm⟩:=fN C ho;unfold gp at h
 split at h
 ·rename_i z m
  cases h;refine⟨_,rZ g hm (aB aW aS (aL hs)) (aL hs),?_⟩;refine ha O σ H _ Rl fun u H1 s1 r1=>⟨z,by rw[r1.str Rl s1 rfl],q _ _ s1 ?_⟩;have zl:(List.zipWith bt (List.range z.length) (signs z)).length=z.length:=by rw[Dv,dF,Cy];exact Ec _
  have hsl:(bR z).length=z.length:=gN z;refine⟨fun G P i ok hi=> ?_,fun G P ok=> ?_,fun G P i w G' ok hi y=> ?_⟩
  ·rw[zl]at hi
   exact⟨_,(bR z)[i]'(by omega),rfl,by simp⟩
  ·exact⟨_,rfl,by rw[zl,hsl]⟩
  ·rw[zl]at hi
   obtain⟨p3,hp3,rfl,y⟩:=y;have hz:i<z.cps.size:=hi;obtain⟨c,hc⟩:∃c,z.cps[i]? =some c:=⟨z.cps[i],by simp[hz]⟩;have hv:(bR z)[i]? =some (.str ⟨#[c]⟩):=by
    unfold bR;rw[Cp,Array.getElem?_toList,hc];rfl
   have e:=y _ (.str ⟨#[c]⟩) rfl hv;subst e;refine⟨aQ hp3 _,bt i (.str ⟨#[c]⟩),by rw[Dk,signs_at hc,DO hi],fy ok.1 hp3 (.cons (Rp.int.mpr rfl) (.cons (Rp.str.mpr rfl) .nil))⟩
 ·rename_i ys m
  cases h;refine⟨_,rY g hm (aB aW aS (aL hs)) (aL hs),?_⟩;refine ha O σ H _ Rl fun u H1 s1 r1=> ?_;obtain⟨p1,us,rfl,l,r⟩:=Rp.tup.mp (show Rp X.K Hi n (.tup ys) (aN H1 O) u from r1);refine⟨p1,us,rfl,(aO (O:=O)).tup l,q _ _ s1 ?_⟩;have zl:(List.zipWith bt (List.range ys.length) ys).length=ys.length:=by rw[Dv,Cy];exact Ec _
  have hsl:=r.len;refine⟨fun G P i ok hi=> ?_,fun G P ok=> ?_,fun G P i w G' ok hi y=> ?_⟩
  ·rw[zl]at hi
   exact⟨us,us[i]'(by omega),(ok.2.trans aO).tup l,by simp⟩
  ·exact⟨us,(ok.2.trans aO).tup l,by rw[zl,hsl]⟩
  ·rw[zl]at hi
   obtain⟨p3,hp3,rfl,y⟩:=y;have hv:us[i]? =some (us[i]'(by omega)):=by simp
   have e:=y us _ ((ok.2.trans aO).tup l) hv;subst e;obtain⟨x1,hx1,rx1⟩:=r.at' hv;exact⟨aQ hp3 _,bt i x1,by rw[Dk,hx1,DO hi],fy ok.1 hp3 (.cons (Rp.int.mpr rfl) (.cons (rx1.mono ok.2) .nil))⟩
 ·split at h
  ·rename_i ys m e1
   cases h;refine⟨_,re g hm (aB aW aS (aL hs)) (aL hs),?_⟩;refine ha O σ H _ Rl fun u H1 s1 r1=> ?_;obtain⟨p1,us,rfl,l,r⟩:=jZ Rl s1 e1 r1;refine⟨p1,us,rfl,(aO (O:=O)).seq l,q _ _ s1 ?_⟩;have zl:(List.zipWith bt (List.range ys.length) ys).length=ys.length:=by rw[Dv,Cy];exact Ec _
   have hsl:=r.len;refine⟨fun G P i ok hi=> ?_,fun G P ok=> ?_,fun G P i w G' ok hi y=> ?_⟩
   ·rw[zl]at hi
    exact⟨us,us[i]'(by omega),(ok.2.trans aO).seq l,by simp⟩
   ·exact⟨us,(ok.2.trans aO).seq l,by rw[zl,hsl]⟩
   ·rw[zl]at hi
    obtain⟨p3,hp3,rfl,y⟩:=y;have hv:us[i]? =some (us[i]'(by omega)):=by simp
    have e:=y us _ ((ok.2.trans aO).seq l) hv;subst e;obtain⟨x1,hx1,rx1⟩:=r.at' hv;exact⟨aQ hp3 _,bt i x1,by rw[Dk,hx1,DO hi],fy ok.1 hp3 (.cons (Rp.int.mpr rfl) (.cons (rx1.mono ok.2) .nil))⟩
  ·cases h
theorem eQ{N:List Str}:∀{xs:List Str}{is:List Nat},slots N xs=some is->xs.length=is.length
 | [],is,h=>by cases h;rfl
 | x::xs,is,h=>by
  unfold slots at h;cases e:slot N x with
  | none=>rw[e]at h;cases h
  | some i =>
   rw[e]at h;cases e2:slots N xs with
   | none=>simp[e2]at h
   | some js =>
    simp[e2]at h;subst h;simp[eQ e2]
theorem kH{N:List Str}:∀{xs:List Str}{is:List Nat}{j i:Nat},slots N xs=some is->is[j]? =some i->∃x,xs[j]? =some x/\N[i]? =some x
 | [],is,j,i,h,hj=>by cases h;simp at hj
 | x::xs,is,j,i,h,hj=>by
  unfold slots at h;cases e:slot N x with
  | none=>rw[e]at h;cases h
  | some i0 =>
   rw[e]at h;cases e2:slots N xs with
   | none=>simp[e2]at h
   | some js =>
    simp[e2]at h;subst h;cases j with
    | zero =>
     simp at hj;subst hj;exact⟨x,by simp,dE e⟩
    | succ j=>simpa using kH e2 (by simpa using hj)
theorem gc{ct:Ct}{t:Str}{scope:Scope}(h:pO ct t scope=true):scope.kind=.function/\(∀y∈scope.names,y.2=.cell->scope.names.lookup y.1=some .cell)/\(∀y∈scope.names,y.2=.local->scope.names.lookup y.1=some .local) /\
  (∀y∈scope.names,y.2=.free->(ct.S.lookup y.1=some .cell\/ct.S.lookup y.1=some .free))/\(t::frees scope).Nodup/\(scope.names.lookup t=some .local\/scope.names.lookup t=some .cell)/\∀x∈frees scope,scope.names.lookup x=some .free:=by
 unfold pO at h;simp only[CZ]at h;obtain⟨⟨⟨⟨⟨⟨h1,h2⟩,h3⟩,h4⟩,h5⟩,h6⟩,h7⟩:=h;refine⟨Cz h1,fun y hy e=> ?_,fun y hy e=> ?_,fun y hy e=> ?_,of_decide_eq_true h5,by simpa using h6,fun x hx=> ?_⟩
 ·have:=C2.mp h2 y hy
  rw[e]at this
  simpa using this
 ·have:=C2.mp h3 y hy
  rw[e]at this
  simpa using this
 ·have:=C2.mp h4 y hy
  rw[e]at this
  simpa using this
 ·have:=C2.mp h7 x hx
  simpa using this
theorem dw{env:Env}:∀{names:List (Str×NameKind)}{x:Str},names.lookup x=some .cell ->
  (names.map fun(n,k)=>if(k==NameKind.free&&env.scope.kind== .function&&env.kindOf n==some .cell)then(n,NameKind.cell)else(n,k)).lookup x=some .cell
 | [],_,h=>by simp at h
 | (n,k)::r,x,h=>by
  have ih:= @dw env r x;show List.lookup x ((if(k==NameKind.free&&env.scope.kind== .function&&env.kindOf n==some .cell)=true then(n,NameKind.cell)else(n,k))::_)=_;cases hx:x==n with
  | true =>
   simp only[DA,hx]at h;cases h;rw[Ci (by simp)];simp only[DA,hx]
  | false =>
   simp only[DA,hx]at h
   by_cases hc:(k==NameKind.free&&env.scope.kind== .function&&env.kindOf n==some .cell)=true
   ·rw[Cd hc];simp only[DA,hx];exact ih h
   ·rw[Ci hc];simp only[DA,hx];exact ih h
theorem jF{N' :List Str}{scope:Scope}{Cf:Addr}{s2:Shared}{H2:Hp}{fp:List Addr}{cl:List (Str×Addr)}{t:Str}(h:scope.names.lookup t=some .local\/scope.names.lookup t=some .cell):L2.Loc (ai X N' scope Cf s2 H2 fp cl).env.scope t:=by
 rcases h with h|h
 ·exact .inl (lookup_relabel_local h)
 ·exact .inr (dw h)
theorem mC{N' :List Str}{scope:Scope}{Cf:Addr}{s2:Shared}{H2:Hp}{fp:List Addr}{cl:List (Str×Addr)}{t:Str}(h:scope.names.lookup t=some .local\/scope.names.lookup t=some .cell):(ai X N' scope Cf s2 H2 fp cl).fn t=true\/(ai X N' scope Cf s2 H2 fp cl).env.scope.names.lookup t=some .local:=by
 rcases h with h|h
 ·exact .inr (lookup_relabel_local h)
 ·left
  show(scope.names.lookup t==some .cell)=true;rw[h];rfl
theorem bC.blk{cd:Nat->List PV->Option PV}{ct:Ct}(C:bC cd X ct){t:Str}{scope:Scope}(h:pO ct t scope=true)(Cf:Addr)(s2:Shared)(H2:Hp)(fp:List Addr)(cl:List (Str×Addr)):bC cd (ai X (t::frees scope) scope Cf s2 H2 fp cl) (blk ct t scope):=by
 obtain⟨h1,h2,h3,h4,h5,h6,h7⟩:=gc h;refine⟨rfl,h5,?_,h1,C.calm,C.glob,C.bl,C.fns,Ej,C.un⟩;show(scope.names.map fun(n,k)=>if(k==NameKind.free&&X.env.scope.kind== .function&&X.env.kindOf n==some .cell)then(n,NameKind.cell)else(n,k))=iV ct.S scope.names;unfold iV;refine Da fun y hy=> ?_;obtain⟨n,k⟩:=y;have e:(X.env.scope.kind==ScopeKind.function)=true:=by rw[C.kind];rfl
 have e2:X.env.kindOf n=ct.S.lookup n:=by
  show X.env.scope.names.lookup n=_;rw[C.S]
 dsimp only;rw[e,e2]
theorem ee{ct:Ct}{t t2:Str}{scope:Scope}(h:ic ct t t2 scope=true):scope.kind=.function/\(∀y∈scope.names,y.2=.cell->scope.names.lookup y.1=some .cell)/\(∀y∈scope.names,y.2=.local->scope.names.lookup y.1=some .local) /\
  (∀y∈scope.names,y.2=.free->(ct.S.lookup y.1=some .cell\/ct.S.lookup y.1=some .free))/\(t::t2::frees scope).Nodup/\(scope.names.lookup t=some .local\/scope.names.lookup t=some .cell)/\(scope.names.lookup t2=some .local\/scope.names.lookup t2=some .cell)/\∀x∈frees scope,scope.names.lookup x=some .free:=by
 unfold ic at h;simp only[CZ]at h;obtain⟨⟨⟨⟨⟨⟨⟨h1,h2⟩,h3⟩,h4⟩,h5⟩,h6⟩,h8⟩,h7⟩:=h;refine⟨Cz h1,fun y hy e=> ?_,fun y hy e=> ?_,fun y hy e=> ?_,of_decide_eq_true h5,by simpa using h6,by simpa using h8,fun x hx=> ?_⟩
 ·have:=C2.mp h2 y hy
  rw[e]at this
  simpa using this
 ·have:=C2.mp h3 y hy
  rw[e]at this
  simpa using this
 ·have:=C2.mp h4 y hy
  rw[e]at this
  simpa using this
 ·have:=C2.mp h7 x hx
  simpa using this
theorem bC.blk2{cd:Nat->List PV->Option PV}{ct:Ct}(C:bC cd X ct){t t2:Str}{scope:Scope}(h:ic ct t t2 scope=true)(Cf:Addr)(s2:Shared)(H2:Hp)(fp:List Addr)(cl:List (Str×Addr)):bC cd (ai X (t::t2::frees scope) scope Cf s2 H2 fp cl) (blk2 ct t t2 scope):=by
 obtain⟨h1,h2,h3,h4,h5,h6,h8,h7⟩:=ee h;refine⟨rfl,h5,?_,h1,C.calm,C.glob,C.bl,C.fns,Ej,C.un⟩;show(scope.names.map fun(n,k)=>if(k==NameKind.free&&X.env.scope.kind== .function&&X.env.kindOf n==some .cell)then(n,NameKind.cell)else(n,k))=iV ct.S scope.names;unfold iV;refine Da fun y hy=> ?_;obtain⟨n,k⟩:=y;have e:(X.env.scope.kind==ScopeKind.function)=true:=by rw[C.kind];rfl
 have e2:X.env.kindOf n=ct.S.lookup n:=by
  show X.env.scope.names.lookup n=_;rw[C.S]
 dsimp only;rw[e,e2]
theorem gI{cd:Nat->List PV->Option PV}{ct:Ct}(C:bC cd X ct){scope:Scope}:∀{xs:List Str}{caps:List Nat},slots ct.N xs=some caps->(∀x∈xs,scope.names.lookup x=some .free/\(ct.S.lookup x=some .cell\/ct.S.lookup x=some .free))->az X scope xs (caps.map some)
 | [],caps,h,_=>by cases h;exact True.intro
 | x::xs,caps,h,k=>by
  unfold slots at h;cases e:slot ct.N x with
  | none=>rw[e]at h;cases h
  | some i0 =>
   rw[e]at h;cases e2:slots ct.N xs with
   | none=>simp[e2]at h
   | some js =>
    simp[e2]at h;subst h;obtain⟨k1,k2⟩:=k x Cv;exact⟨⟨by rw[C.N];exact dE e,k1,by rw[C.S];exact k2⟩,gI C e2 fun y hy=>k y (Cj _ hy)⟩
theorem sM{t:TV}{x:Bd×List PV×Bool}(h:t.ob=some x):t≠.un:=fun e=>by subst e;cases h
theorem aX.block{K:W.Frag}{O:List Addr}{σ:L2.St}{H:Hp}{caps:List Nat}{x:PV}{n:Bool}{u:V}(R:aX K Hi O τ σ H)(nd:caps.Nodup)(r:Rp K Hi n x (aN H O) u) :
  aX K Hi O (.frz x n::caps.map fun i=>τ.getD i .un) (some u::ax (caps.map some) σ) H:=by
 have hτ:∀(j:Nat)(v:TV),(caps.map fun i=>τ.getD i .un)[j]? =some v->v≠.un->∃i,caps[j]? =some i/\τ[i]? =some v:=fun j v e hv=>by
  rw[Cp]at e;cases ec:caps[j]? with
  | none=>rw[ec]at e;cases e
  | some i =>
   rw[ec]at e;refine⟨i,rfl,?_⟩;have e:τ.getD i .un=v:=Cw e;rw[Ck]at e;cases et:τ[i]? with
   | none=>rw[et]at e;exact absurd e.symm hv
   | some w=>rw[et]at e;exact DT some e
 have hσ:∀(j i:Nat),caps[j]? =some i->(ax (caps.map some) σ)[j]? =some ((σ[i]?).join):=fun j i e=>by
  unfold ax;rw[Cp,Cp,e];rfl
 refine⟨R.same,R.own,fun j v m e=> ?_,fun j t bd ys m e ht=> ?_,fun a b t t' x1 y1 l e1 ht e2 ht' h1 h2=> ?_⟩
 ·cases j with
  | zero =>
   simp at e;obtain⟨rfl,rfl⟩:=e;exact⟨u,by simp,r⟩
  | succ j =>
   obtain⟨i,h1,h2⟩:=hτ j _ (by simpa using e) (by simp);obtain⟨w,h3,h4⟩:=R.frz i v m h2;exact⟨w,by rw[Dz,hσ j i h1,h3];rfl,h4⟩
 ·cases j with
  | zero =>
   simp at e;subst e;cases ht
  | succ j =>
   obtain⟨i,h1,h2⟩:=hτ j _ (by simpa using e) (sM ht);obtain⟨l,us,o,h3,h4⟩:=R.obs i t bd ys m h2 ht;exact⟨l,us,o,by rw[Dz,hσ j i h1,h3];rfl,h4⟩
 ·cases a with
  | zero =>
   simp at e1;subst e1;cases ht
  | succ a =>
   cases b with
   | zero =>
    simp at e2;subst e2;cases ht'
   | succ b =>
    obtain⟨i,c1,c2⟩:=hτ a _ (by simpa using e1) (sM ht);obtain⟨j,d1,d2⟩:=hτ b _ (by simpa using e2) (sM ht');rw[Dz,hσ a i c1]at h1;rw[Dz,hσ b j d1]at h2;obtain⟨b1,xs1,n1⟩:=x1;obtain⟨b2,xs2,n2⟩:=y1;obtain⟨l1,us1,o1,g1,_⟩:=R.obs i t b1 xs1 n1 c2 ht;obtain⟨l2,us2,o2,g2,_⟩:=R.obs j t' b2 xs2 n2 d2 ht';rw[g1]at h1;rw[g2]at h2;cases h1;cases h2;have e:=R.dst i j t t' _ _ l c2 ht d2 ht' g1 g2;subst e
    congr 1
    have ha:a<caps.length:=(Ch.mp c1).1;have hb:b<caps.length:=(Ch.mp d1).1;have e1:caps[a]=i:=by rw[CY ha]at c1;exact Cw c1
    have e2:caps[b]=i:=by rw[CY hb]at d1;exact Cw d1
    exact(List.getElem_inj nd).mp (e1.trans e2.symm)
theorem de{N:List Str}:∀{xs:List Str}{caps:List Nat},slots N xs=some caps->xs.Nodup->caps.Nodup
 | [],caps,h,_=>by cases h;exact List.nodup_nil
 | x::xs,caps,h,nd=>by
  unfold slots at h;cases e:slot N x with
  | none=>rw[e]at h;cases h
  | some i0 =>
   rw[e]at h;cases e2:slots N xs with
   | none=>simp[e2]at h
   | some js =>
    simp[e2]at h;subst h;refine DU.mpr ⟨fun hm=> ?_,de e2 (DU.mp nd).2⟩;obtain⟨k,hk⟩:=List.mem_iff_getElem?.mp hm;obtain⟨y,h1,h2⟩:=kH e2 hk;rw[dE e]at h2;cases h2;exact(DU.mp nd).1 (DI h1)
theorem aX.hide{K:W.Frag}{O:List Addr}{σ:L2.St}{H H' :Hp}{D:Addr}{us:List V}(R:aX K Hi O τ σ H)(s:aA H H')(h0:H D=none)(h1:H' D=some (.lst us)):aX K Hi (D::O) τ σ H' :=by
 have hs:aA (aN H O) (aN H' (D::O)):=fun b o e=>by
  unfold aN at e ⊢
  split at e
  ·cases e
  ·rename_i nb
   have ne:b≠D:=aH e h0;rw[Ci (by simp[ne,nb])];exact s b o e
 refine⟨R.same.trans s,fun l hl=> ?_,fun i v n e=> ?_,fun i t b xs n e ht=> ?_,R.dst⟩
 ·rcases Co.mp hl with rfl|hl
  ·exact⟨R.same.free h0,_,h1,.lst⟩
  ·obtain⟨q,vs,e,mo⟩:=R.own l hl
   exact⟨q,vs,s _ _ e,mo⟩
 ·obtain⟨u,g1,g2⟩:=R.frz i v n e
  exact⟨u,g1,g2.mono hs⟩
 ·obtain⟨l,vs,o,g1,g2,g3,g4,g5⟩:=R.obs i t b xs n e ht
  exact⟨l,vs,o,g1,Cj _ g2,s _ _ g3,g4,g5.mono hs⟩
theorem fx{e:Expr}{env:Env}(h:bv e=false):∀x,foldedSetIterable e env x=pure x:=by
 intro x;cases e with
 | Set a b c=>cases h
 | _=>rfl
noncomputable def B4(cd:Nat->List PV->Option PV)(ifs:xi)(elt:IE)(n:Bool)(aP:En):PV->Option (Option (PV×Bool)):=fun x=>(el cd ifs (.frz x (n||imm x)::aP)).bind fun b=>if b then(aU cd elt (.frz x (n||imm x)::aP)).bind fun r=>r.keep.map some else some none
theorem sd{cd:Nat->List PV->Option PV}{ctb:Ct}{Nn:List Str}{pre:List (Option Nat)}{tg iter elt:Expr}{ifs:List Expr}{ifs' :xi}{elt' :IE}{scope:Scope}{xs:List PV}{n b:Bool}{VS:List PV}{NN:Bool}{CF:PV->Option (Option (PV×Bool))}
  (fz:iP X Hi τ tg iter xs n b) (hz:xs.length<=LN) (hblk:∀(Cf:Addr)(s2:Shared)(H2:Hp)(fp:List Addr)(cl:List (Str×Addr)),bC cd (ai X Nn scope Cf s2 H2 fp cl) ctb)
  (hifs:∀(X' :Cx)(τ' :En)(k:Bool),bC cd X' ctb->el cd ifs' τ' =some k->∃tt,qB X' ifs tt/\∀(O:List Addr)(σ:L2.St)(H:Hp)(Q:Bool->Hp->Prop),aX X'.K Hi O τ' σ H->(∀H',aA H H' ->Q k H')->tt σ H Q)
  (helt:∀(X' :Cx)(τ' :En)(r:RV),bC cd X' ctb->aU cd elt' τ' =some r->aG X' Hi τ' elt r)
  (step:∀(O:List Addr)(σ:L2.St)(D:Addr)(x:PV)(r0:Option (PV×Bool))(u:V)(G' :Hp)(Cf:Addr)(s2:Shared)(H2:Hp)(fp:List Addr)(cl:List (Str×Addr)),CF x=some r0->aX X.K Hi (D::O) τ σ G' ->Rp X.K Hi n x (aN G' (D::O)) u ->
   ∃(τx:En)(σx:L2.St)(g:TG),((el cd ifs' τx).bind fun t=>if t then(aU cd elt' τx).bind fun r=>r.keep.map some else some none)=some r0/\aX X.K Hi (D::O) τx σx G' /\PG (ai X Nn scope Cf s2 H2 fp cl) tg g /\
    ∀K:L2.St->Hp->Prop,K σx G' ->g u (ax pre σ) G' fun σ2 H3=>(σ2.length=Nn.length/\∀(j:Nat)(v:V),(ax pre σ)[j]? =some (some v)->σ2[j]? =some (some v))/\K σ2 H3)
  (hrun:bN CF xs=some (VS,NN)) (O:List Addr) (σ:L2.St) (H:Hp) (Q:VK) (R:aX X.K Hi O τ σ H) (q:∀u H',aA H H' ->aT X.K Hi O H H' (.own VS NN) u->Q u H'):yF X Nn pre scope tg ifs elt (fun σ H R=>WI X tg iter σ H R) σ H Q:=by
 refine fz O σ H _ R fun J H1 s1 En=> ?_;intro D hD;have ok:∀(G:Hp)(ys:List V),aA H1 G->G D=some (.lst ys)->(if b=true then OkB H1 else xA (aN H1 O)) G (D::O):=by
  intro G ys sG gD;have ls:nU (D::O) G:=fun l hl=>by
   rcases Co.mp hl with rfl|hl
   ·exact⟨_,gD,.lst⟩
   ·obtain⟨us,e,mo⟩:=(R.own l hl).2
    exact⟨us,sG _ _ (s1 _ _ e),mo⟩
  cases b with
  | true=>exact⟨ls,sG⟩
  | false =>
   refine⟨ls,fun c o e=> ?_⟩;unfold aN at e ⊢
   split at e
   ·cases e
   ·rename_i nb
    have ne:c≠D:=aH e hD;rw[Ci (by simp[ne,nb])];exact sG c o e
 refine⟨fun i m ys G=>m=xs.length-i/\i<=xs.length/\aA H1 G/\G D=some (.lst ys)/\ys.length<=i/\∃dn ws mm,bN CF (xs.drop i)=some (ws,mm)/\VS=dn++ws/\(NN=true->mm=true)/\aE X.K Hi NN dn (aN G (D::O)) ys,
  ⟨xs.length,by simp,DH _,aQ hD _,aJ,Ca _,[],VS,NN,hrun,rfl,id,.nil⟩,?_⟩
 rintro i m ys G ⟨rfl,hi,sG,gD,hyl,dn,ws,mm,hc1,hv,hn,hr⟩
 by_cases hlt:i<xs.length
 ·refine .inr ⟨En.go G (D::O) i (ok G ys sG gD) hlt,fun u G' y=> ?_⟩
  obtain⟨sGG,x,hx,rx⟩:=En.yld G (D::O) i u G' (ok G ys sG gD) hlt y;intro Cf s2 H2 fp cl;have C' :=hblk Cf s2 H2 fp cl;have hd:xs.drop i=x::xs.drop (i+1):=by
   rw[Em hlt];rw[CY hlt]at hx;rw[Cw hx]
  rw[hd]at hc1;unfold bN at hc1;cases hf:CF x with
  | none=>rw[hf]at hc1;cases hc1
  | some r0 =>
   rw[hf]at hc1;cases hcr:bN CF (xs.drop (i+1))with
   | none=>rw[hcr]at hc1;cases hc1
   | some w =>
    obtain⟨ws',mm'⟩:=w;rw[hcr]at hc1;have gD' :G' D=some (.lst ys):=sGG _ _ gD;obtain⟨τx,σx,g,hf,RB,pg,hg⟩:=step O σ D x r0 u G' Cf s2 H2 fp cl hf (R.hide (s1.trans (sG.trans sGG)) (s1.free hD) gD') rx;cases hco:el cd ifs' τx with
    | none=>rw[hco]at hf;cases hf
    | some k =>
     rw[hco]at hf;obtain⟨tt,ptt,qtt⟩:=hifs _ _ _ C' hco;refine⟨g,tt,_,pg,ptt,aW,hg _ ?_⟩;refine qtt (D::O) _ G' _ RB fun G4 s4=> ?_;cases k with
     | false =>
      rw[Ci Cg];have hf:(some none:Option (Option (PV×Bool)))=some r0:=hf;cases hf;cases hc1;exact⟨xs.length-(i+1),by omega,rfl,hlt,sG.trans (sGG.trans s4),s4 _ _ gD',by omega,dn,ws,mm,hcr,hv,hn,hr.mono (aF (sGG.trans s4))⟩
     | true =>
      rw[Cd rfl];have hf:((aU cd elt' τx).bind fun r=>r.keep.map some)=some r0:=hf;cases he:aU cd elt' τx with
      | none=>rw[he]at hf;cases hf
      | some r =>
       rw[he]at hf;have hf:r.keep.map some=some r0:=hf;cases hk:r.keep with
       | none=>rw[hk]at hf;cases hf
       | some vn =>
        obtain⟨v,nv⟩:=vn;rw[hk]at hf;cases hf;have hc1:some (v::ws',nv&&mm')=some (ws,mm):=hc1;cases hc1;refine helt _ _ _ C' he (D::O) _ G4 _ (RB.ext s4) fun w G5 s5 r5=> ?_;have kp:=r5.keep (RB.ext s4) s5 hk;have gD5:=s5 _ _ (s4 _ _ gD');have sT:=sG.trans (sGG.trans (s4.trans s5));have hz' :xs.length<=16777216:=hz;refine⟨gD5,by rw[bW];omega,xs.length-(i+1),by omega,rfl,hlt,sT.upd hD,aJ,by rw[Cm];simp;omega,dn++[v],ws',mm',hcr,by rw[hv];simp,fun z=> ?_,?_⟩
        ·have:=hn z
         rw[CZ]at this;exact this.2
        ·have e:aN (L2.upd G5 D (.lst (ys++[w]))) (D::O)=aN G5 (D::O):=by
          funext c
          unfold aN
          split
          ·rfl
          ·rename_i nc
           exact aD fun z=>nc (z▸Cv)
         rw[e];refine(hr.mono (aF (sGG.trans (s4.trans s5)))).app (.cons (kp.low fun z=> ?_) .nil);have:=hn z;rw[CZ]at this;exact this.1
 ·have e:i=xs.length:=by omega
  subst e;rw[List.drop_length]at hc1;cases hc1;refine .inl ⟨En.stop G (D::O) (ok G ys sG gD),q _ _ (s1.trans sG) ?_⟩;refine⟨D,ys,rfl,s1.free hD,gD,?_⟩;rw[hv,Do];refine hr.mono fun c o e=> ?_;unfold aN at e;unfold aN del
  split at e
  ·cases e
  ·rename_i nc
   have n1:c≠D:=fun z=>nc (z▸Cv);have n2:c∉O:=fun z=>nc (Cj _ z);rw[Ci n2,Ci n1];exact e
theorem v8{cd:Nat->List PV->Option PV}{ct:Ct}(C:bC cd X ct){t:Str}{tp:Pos}{iter elt:Expr}{ifs:List Expr}{ifs' :xi}{elt' :IE}{scope:Scope}{caps:List Nat}{xs:List PV}{n b:Bool}{VS:List PV}{NN:Bool}
  (h:pO ct t scope=true) (hc:slots ct.N (frees scope)=some caps) (hset:bv iter=false) (fz:iP X Hi τ (.Name t tp) iter xs n b) (hz:xs.length<=LN)
  (hifs:∀(X' :Cx)(τ' :En)(k:Bool),bC cd X' (blk ct t scope)->el cd ifs' τ' =some k->∃tt,qB X' ifs tt/\∀(O:List Addr)(σ:L2.St)(H:Hp)(Q:Bool->Hp->Prop),aX X'.K Hi O τ' σ H->(∀H',aA H H' ->Q k H')->tt σ H Q)
  (helt:∀(X' :Cx)(τ' :En)(r:RV),bC cd X' (blk ct t scope)->aU cd elt' τ' =some r->aG X' Hi τ' elt r)
  (hrun:bN (B4 cd ifs' elt' n (caps.map fun i=>τ.getD i .un)) xs=some (VS,NN)):az X scope (t::frees scope) (none::caps.map some)/\cy X.env.scope scope=true /\
  ∀(O:List Addr)(σ:L2.St)(H:Hp)(Q:VK),aX X.K Hi O τ σ H->(∀u H',aA H H' ->aT X.K Hi O H H' (.own VS NN) u->Q u H')->yF X (t::frees scope) (none::caps.map some) scope (.Name t tp) ifs elt (fun σ H R=>WI X (.Name t tp) iter σ H R) σ H Q:=by
 obtain⟨h1,h2,h3,h4,h5,h6,h7⟩:=gc h;have hmem:∀x∈frees scope,(x,NameKind.free)∈scope.names:=fun x hx=>C6 (h7 x hx);have hsrc:az X scope (t::frees scope) (none::caps.map some):=gI C hc fun x hx=>⟨h7 x hx,h4 _ (hmem x hx) rfl⟩;have hfr:cy X.env.scope scope=true:=by
  unfold cy;rw[C2];intro y hy;rw[C.S]
  by_cases e:y.2=.free
  ·rcases h4 y hy e with z|z<;>simp[e,z]
  ·simp[e]
 have hlen:=eQ hc;refine⟨hsrc,hfr,sd fz hz (C.blk h) hifs helt (fun O σ D x r0 u G' Cf s2 H2 fp cl hf R rx=> ?_) hrun⟩;exact⟨_,some u::ax (caps.map some) σ,oM 0,hf,R.block (de hc (DU.mp h5).2) rx.up,dH h5 rfl (jF h6) (mC h6),fun K k=>⟨uC (by simp[hlen]),k⟩⟩
theorem aX.consF{K:W.Frag}{O:List Addr}{σ:L2.St}{H:Hp}{x:PV}{n:Bool}{u:V}(R:aX K Hi O τ σ H)(r:Rp K Hi n x (aN H O) u):aX K Hi O (.frz x n::τ) (some u::σ) H:=by
 refine⟨R.same,R.own,fun j v m e=> ?_,fun j t bd ys m e ht=> ?_,fun a b t t' x1 y1 l e1 ht e2 ht' h1 h2=> ?_⟩
 ·cases j with
  | zero =>
   simp at e;obtain⟨rfl,rfl⟩:=e;exact⟨u,by simp,r⟩
  | succ j =>
   obtain⟨w,h3,h4⟩:=R.frz j v m (by simpa using e);exact⟨w,by simpa using h3,h4⟩
 ·cases j with
  | zero =>
   simp at e;subst e;cases ht
  | succ j =>
   obtain⟨l,us,o,h3,h4⟩:=R.obs j t bd ys m (by simpa using e) ht;exact⟨l,us,o,by simpa using h3,h4⟩
 ·cases a with
  | zero =>
   simp at e1;subst e1;cases ht
  | succ a =>
   cases b with
   | zero =>
    simp at e2;subst e2;cases ht'
   | succ b=>rw[R.dst a b t t' x1 y1 l (by simpa using e1) ht (by simpa using e2) ht' (by simpa using h1) (by simpa using h2)]
theorem pp{N' :List Str}{r:List (Option Nat)}{σ:L2.St}{x y:V}(h:r.length+2=N'.length) :
  (((ax (none::none::r) σ).set 0 (some x)).set 1 (some y)).length=N'.length/\∀(j:Nat)(v:V),(ax (none::none::r) σ)[j]? =some (some v)->(((ax (none::none::r) σ).set 0 (some x)).set 1 (some y))[j]? =some (some v):=by
 refine⟨by rw[DM,DM];simp[ax,h],fun j v e=> ?_⟩;cases j with
 | zero=>simp[ax]at e
 | succ j =>
  cases j with
  | zero=>simp[ax]at e
  | succ j=>simpa [ax]using e
noncomputable def tj(cd:Nat->List PV->Option PV)(ifs:xi)(elt:IE)(n:Bool)(aP:En):PV->Option (Option (PV×Bool)):=fun x=>(d7 x).bind fun(a,b)=>(el cd ifs (.frz a (n||imm a)::.frz b (n||imm b)::aP)).bind fun t=>if t then(aU cd elt (.frz a (n||imm a)::.frz b (n||imm b)::aP)).bind fun r=>r.keep.map some else some none
theorem sZ{cd:Nat->List PV->Option PV}{ct:Ct}(C:bC cd X ct){t t2:Str}{kk:Nat}{tp tp2 tpp:Pos}{iter elt:Expr}{ifs:List Expr}{ifs' :xi}{elt' :IE}{scope:Scope}{caps:List Nat}{xs:List PV}{n b:Bool}{VS:List PV}{NN:Bool}
  (h:ic ct t t2 scope=true) (hc:slots ct.N (frees scope)=some caps) (hset:bv iter=false) (fz:iP X Hi τ (.Tuple [.Name t tp,.Name t2 tp2] kk tpp) iter xs n b) (hz:xs.length<=LN)
  (hifs:∀(X' :Cx)(τ' :En)(k:Bool),bC cd X' (blk2 ct t t2 scope)->el cd ifs' τ' =some k->∃tt,qB X' ifs tt/\∀(O:List Addr)(σ:L2.St)(H:Hp)(Q:Bool->Hp->Prop),aX X'.K Hi O τ' σ H->(∀H',aA H H' ->Q k H')->tt σ H Q)
  (helt:∀(X' :Cx)(τ' :En)(r:RV),bC cd X' (blk2 ct t t2 scope)->aU cd elt' τ' =some r->aG X' Hi τ' elt r)
  (hrun:bN (tj cd ifs' elt' n (caps.map fun i=>τ.getD i .un)) xs=some (VS,NN)):az X scope (t::t2::frees scope) (none::none::caps.map some)/\cy X.env.scope scope=true /\
  ∀(O:List Addr)(σ:L2.St)(H:Hp)(Q:VK),aX X.K Hi O τ σ H->(∀u H',aA H H' ->aT X.K Hi O H H' (.own VS NN) u->Q u H')->yF X (t::t2::frees scope) (none::none::caps.map some) scope (.Tuple [.Name t tp,.Name t2 tp2] kk tpp) ifs elt (fun σ H R=>WI X (.Tuple [.Name t tp,.Name t2 tp2] kk tpp) iter σ H R) σ H Q:=by
 obtain⟨h1,h2,h3,h4,h5,h6,h8,h7⟩:=ee h;have hmem:∀x∈frees scope,(x,NameKind.free)∈scope.names:=fun x hx=>C6 (h7 x hx);have hsrc:az X scope (t::t2::frees scope) (none::none::caps.map some):=gI C hc fun x hx=>⟨h7 x hx,h4 _ (hmem x hx) rfl⟩;have hfr:cy X.env.scope scope=true:=by
  unfold cy;rw[C2];intro y hy;rw[C.S]
  by_cases e:y.2=.free
  ·rcases h4 y hy e with z|z<;>simp[e,z]
  ·simp[e]
 have hlen:=eQ hc;refine⟨hsrc,hfr,sd fz hz (C.blk2 h) hifs helt (fun O σ D x r0 u G' Cf s2 H2 fp cl hf R rx=> ?_) hrun⟩;unfold tj at hf;obtain⟨x1,x2,rfl⟩:∃x1 x2,x=.tup [x1,x2]:=by
  cases hp:d7 x with
  | none=>rw[hp]at hf;cases hf
  | some w =>
   unfold d7 at hp
   split at hp
   ·exact⟨_,_,rfl⟩
   ·cases hp
 obtain⟨pa,us,rfl,lt,rt⟩:=Rp.tup.mp rx;unfold aE at rt;obtain⟨u1,us1,rfl,ra,rt⟩:=rt;unfold aE at rt;obtain⟨u2,us2,rfl,rb,rt⟩:=rt;unfold aE at rt;subst rt
 exact⟨_,some u1::some u2::ax (caps.map some) σ,_,hf,(R.block (de hc (DU.mp (DU.mp h5).2).2) rb.up).consF ra.up,rf (C.blk2 h Cf s2 H2 fp cl).calm (gS (dH (i:=0) h5 rfl (jF h6) (mC h6)) (gS (dH (i:=1) h5 rfl (jF h8) (mC h8)) nl rfl) rfl) rfl rfl,
  fun K k=>⟨pa,_,rfl,(aO (O:=D::O)).tup lt,rfl,u1,_,rfl,u2,_,rfl,rfl,⟨pp (by simp[hlen]),k⟩⟩⟩
end
theorem bind_some{α β:Type}{o:Option α}{f:α->Option β}{b:β}(h:o.bind f=some b):∃a,o=some a/\f a=some b:=by
 cases o with
 | none=>cases h
 | some a=>exact⟨a,rfl,h⟩
theorem map_some{α β:Type}{o:Option α}{f:α->β}{b:β}(h:o.map f=some b):∃a,o=some a/\f a=b:=by
 cases o with
 | none=>cases h
 | some a=>exact⟨a,rfl,Cw h⟩
structure fT(cd:Nat->List PV->Option PV)(n:Nat):Prop where
 e:∀(X:Cx)(ct:Ct)(Hi:Hp)(τ:En)(e:Expr)(r:RV),bC cd X ct->aU cd (ac n ct e) τ=some r->aG X Hi τ e r
 cm:∀(X:Cx)(ct:Ct)(Hi:Hp)(τ:En)(a:Expr)(ops:List CmpOp)(cs:List Expr)(pos:Pos)(r:RV),bC cd X ct->aU cd (ac n ct (.Compare a ops cs pos)) τ=some r->∃t,r=sc (.bl t)/\dD X Hi τ (.Compare a ops cs pos) t
 es:∀(X:Cx)(ct:Ct)(Hi:Hp)(τ:En)(es:List Expr)(rs:List RV),bC cd X ct->cZ cd (dm n ct es) τ=some rs->jw X Hi τ es rs/\(∀a∈es,isStar a=false)/\es.length=rs.length/\∀(i:Nat)(a:Expr)(r:RV),es[i]? =some a->rs[i]? =some r->aG X Hi τ a r
 o:∀(X:Cx)(ct:Ct)(Hi:Hp)(τ:En)(e:Option Expr)(o:Option RV)(i:Option Int),bC cd X ct->zf cd (xL n ct e) τ=some o->km o=some i->qC X Hi τ e i
 c:∀(X:Cx)(ct:Ct)(Hi:Hp)(τ:En)(e:Expr)(b:Bool),bC cd X ct->dS cd (iR n ct e) τ=some b->dD X Hi τ e b
 call:∀(X:Cx)(ct:Ct)(Hi:Hp)(τ:En)(x:Str)(es:List Expr)(p pos:Pos)(r:RV),bC cd X ct->aU cd (eP n ct x es) τ=some r->aG X Hi τ (.Call (.Name x p) es [] pos) r
 mth:∀(X:Cx)(ct:Ct)(Hi:Hp)(τ:En)(o:Expr)(m:Str)(es:List Expr)(ap cp:Pos)(r:RV),bC cd X ct->(ap.endLine==cp.line)=true->aU cd (iQ n ct o m es) τ=some r->aG X Hi τ (.Call (.Attribute o m ap) es [] cp) r
 t:∀(X:Cx)(ct:Ct)(Hi:Hp)(τ:En)(tp:Bool)(e tg:Expr)(xs:List PV)(k b:Bool),bC cd X ct->(tp=true->∃ts kk p,tg=.Tuple ts kk p)->jy cd (qH n ct tp e) τ=some (xs,k,b)->iP X Hi τ tg e xs k b/\bv e=false
section
variable{cd:Nat->List PV->Option PV}
theorem fA{v:PV}{b:Bool}(h:fQ v=some b):v=.bl b:=by
 cases v<;>first|(cases h;done)|(cases h;rfl)
theorem tF{v:PV}{b:Int}(h:zL v=some b):v=.int b:=by
 cases v<;>first|(cases h;done)|(cases h;rfl)
theorem mU{α:Type}{l:List α}(h:l.length=1):∃a,l=[a]:=by
 cases l with
 | nil=>cases h
 | cons a l =>
  cases l with
  | nil=>exact⟨a,rfl⟩
  | cons b l=>cases h
theorem qg{α:Type}{l:List α}(h:l.length=2):∃a b,l=[a,b]:=by
 cases l with
 | nil=>cases h
 | cons a l =>
  obtain⟨b,rfl⟩:=mU (show l.length=1 from Nat.succ.inj h);exact⟨a,b,rfl⟩
theorem aM{τ:En}{r:RV}(h:aU cd .never τ=some r){P:Prop}:P:=by simp[cI,b8,cL,cQ,cJ,cN,cB,cC,cR,cK,cM,cD,cE,b9,cS,cT,cH,cA,cG,cF,cP]at h
theorem k6{X:Cx}{Hi:Hp}{τ:En}{op:BoolOp}{pos:Pos}{f:Expr->IE}(hf:∀e r,aU cd (f e) τ=some r->aG X Hi τ e r):∀{vs:List Expr}{r:RV},aU cd (gk op (vs.map f)) τ=some r->aG X Hi τ (.BoolOp op vs pos) r
 | [],r,h=>aM h
 | [a],r,h=>yr (hf a r h)
 | a::b::aP,r,h=>by
  have ih:= @k6 X Hi τ op pos f hf (b::aP);cases op with
  | And =>
   have h:aU cd (.and (f a) (gk .And ((b::aP).map f))) τ=some r:=h;simp only[cI,b8,cL,cQ,cJ,cN,cB,cC,cR,cK,cM,cD,cE,b9,cS,cT,cH,cA,cG,cF,cP]at h;obtain⟨x,hx,h⟩:=bind_some h;have hx:=hf a x hx;obtain⟨t,ht,h⟩:=bind_some h;have e:=fA ht;cases t with
   | true=>exact CC hx e (ih h)
   | false=>cases h;exact CD hx e
  | Or =>
   have h:aU cd (.or (f a) (gk .Or ((b::aP).map f))) τ=some r:=h;simp only[cI,b8,cL,cQ,cJ,cN,cB,cC,cR,cK,cM,cD,cE,b9,cS,cT,cH,cA,cG,cF,cP]at h;obtain⟨x,hx,h⟩:=bind_some h;have hx:=hf a x hx;obtain⟨t,ht,h⟩:=bind_some h;have e:=fA ht;cases t with
   | true=>cases h;exact or_t hx e
   | false=>exact or_f hx e (ih h)
theorem kz{X:Cx}{Hi:Hp}{τ:En}{op:BoolOp}{pos:Pos}{f:Expr->IC}(hf:∀e b,dS cd (f e) τ=some b->dD X Hi τ e b):∀{vs:List Expr}{b:Bool},dS cd (gj op (vs.map f)) τ=some b->iN X Hi τ (.BoolOp op vs pos) b
 | [],r,h=>by
  have h:dS cd (.val .never) τ=some r:=h;simp[qX,qZ,qa,qY,cI,b8,cL,cQ,cJ,cN,cB,cC,cR,cK,cM,cD,cE,b9,cS,cT,cH,cA,cG,cF,cP]at h
 | [a],r,h=>yq (hf a r h)
 | a::b::aP,r,h=>by
  have ih:= @kz X Hi τ op pos f hf (b::aP);cases op with
  | And =>
   have h:dS cd (.and (f a) (gj .And ((b::aP).map f))) τ=some r:=h;simp only[qX,qZ,qa,qY]at h;obtain⟨x,hx,h⟩:=bind_some h;have hx:=hf a x hx;cases x with
   | true=>exact uM hx (ih h)
   | false=>cases h;exact uM hx rfl
  | Or =>
   have h:dS cd (.or (f a) (gj .Or ((b::aP).map f))) τ=some r:=h;simp only[qX,qZ,qa,qY]at h;obtain⟨x,hx,h⟩:=bind_some h;have hx:=hf a x hx;cases x with
   | true=>cases h;exact xR hx rfl
   | false=>exact xR hx (ih h)
theorem oE{X:Cx}{Hi:Hp}{τ:En}{f:Expr->IE}(hf:∀e r,aU cd (f e) τ=some r->aG X Hi τ e r):∀{es:List Expr}{rs:List RV},cZ cd (pM (es.map fun e=>if isStar e then .never else f e)) τ=some rs->jw X Hi τ es rs/\(∀a∈es,isStar a=false)/\es.length=rs.length/\∀(i:Nat)(a:Expr)(r:RV),es[i]? =some a->rs[i]? =some r->aG X Hi τ a r
 | [],rs,h=>by
  have h:some []=some rs:=by simpa [pM,uc,ud]using h
  cases h;exact⟨AL,fun a ha=>(by cases ha),rfl,fun i a r e=>(by simp at e)⟩
 | e::es,rs,h=>by
  have h:cZ cd (.cons (if isStar e then .never else f e) (pM (es.map fun e=>if isStar e then .never else f e))) τ=some rs:=h;simp only[uc,ud]at h;obtain⟨x,hx,h⟩:=bind_some h;obtain⟨ys,hy,h⟩:=map_some h;subst h;obtain⟨i1,i2,i3,i4⟩:=oE hf hy;cases hs:isStar e with
  | true=>rw[hs]at hx;exact aM hx
  | false =>
   rw[hs]at hx;refine⟨wx (hf e x hx) hs i1,fun a ha=> ?_,by rw[C3,C3,i3],fun i a r e1 e2=> ?_⟩
   ·rcases Co.mp ha with rfl|ha
    ·exact hs
    ·exact i2 a ha
   ·cases i with
    | zero =>
     simp at e1 e2;subst e1 e2;exact hf _ _ hx
    | succ i=>exact i4 i a r (by simpa using e1) (by simpa using e2)
theorem B5{n:Nat}(IH:fT cd n){X:Cx}{ct:Ct}{Hi:Hp}{τ:En}{a:Expr}{ops:List CmpOp}{cs:List Expr}{pos:Pos}{r:RV}(C:bC cd X ct)(h:aU cd (ac (n+1) ct (.Compare a ops cs pos)) τ=some r) :
  ∃t,r=sc (.bl t)/\aG X Hi τ (.Compare a ops cs pos) r/\dD X Hi τ (.Compare a ops cs pos) t:=by
 refine Dl fun no=> ?_;simp only[la,lV,lR,lZ,lO,lW,lY,lU,lT,lP,lQ,lX,lS]at h
 split at h
 ·rename_i op b
  split at h
  ·exact aM h
  ·rename_i hs
   have hs:=DZ.mpr hs;simp only[cI,b8,cL,cQ,cJ,cN,cB,cC,cR,cK,cM,cD,cE,b9,cS,cT,cH,cA,cG,cF,cP]at h;obtain⟨x,hx,h⟩:=bind_some h;obtain⟨y,hy,h⟩:=bind_some h;obtain⟨t,ht,h⟩:=map_some h;subst h;have ha:=IH.e X ct Hi τ a x C hx;have hb:=IH.e X ct Hi τ b y C hy;exact no<|⟨t,rfl,zr C.un ha hb hs ht,zq C.un ha hb hs ht⟩
 ·exact aM h
theorem B9{n:Nat}(IH:fT cd n){X:Cx}{ct:Ct}{Hi:Hp}{τ:En}{x:Str}{es:List Expr}{p pos:Pos}{r:RV}(C:bC cd X ct)(h:aU cd (eP (n+1) ct x es) τ=some r):aG X Hi τ (.Call (.Name x p) es [] pos) r:=by
 refine Dl fun no=> ?_;simp only[z1l,z1m]at h
 split at h
 ·exact aM h
 rename_i ho;have ho:=DZ.mpr ho
 split at h
 ·rename_i hg
  have hg:ct.S.lookup x=some .globalImplicit:=by simpa using hg
  cases hf:ct.F.lookup x with
  | some f =>
   rw[hf]at h;dsimp only at h;cases es with
   | nil=>exact aM h
   | cons e es =>
    simp only[cI,b8,cL,cQ,cJ,cN,cB,cC,cR,cK,cM,cD,cE,b9,cS,cT,cH,cA,cG,cF,cP]at h;obtain⟨rs,hrs,h⟩:=bind_some h;obtain⟨v,hv,h⟩:=map_some h;subst h;obtain⟨i1,i2,i3,i4⟩:=IH.es X ct Hi τ (e::es) rs C hrs;exact no<|call_ok C ho hg hf i2 i1 hv
  | none =>
   rw[hf]at h;dsimp only at h
   split at h
   ·rename_i hb
    have hown:own ct x=true:=by
     unfold own;rw[hb,hg];rfl
    have plain:∀{es:List Expr}{r:RV},aU cd (match py x es.length with|some f=>IE.bf f (dm n ct es)|none=>.never) τ=some r->aG X Hi τ (.Call (.Name x p) es [] pos) r:=by
     intro es r h;cases hbf:py x es.length with
     | none=>rw[hbf]at h;exact aM h
     | some f =>
      rw[hbf]at h;simp only[cI,b8,cL,cQ,cJ,cN,cB,cC,cR,cK,cM,cD,cE,b9,cS,cT,cH,cA,cG,cF,cP]at h;obtain⟨rs,hrs,h⟩:=bind_some h;obtain⟨i1,i2,i3,i4⟩:=IH.es X ct Hi τ es rs C hrs;have one:∀a,es=[a]->aG X Hi τ (.Call (.Name x p) es [] pos) r:=by
       intro a ea;subst ea;obtain⟨ra,rfl⟩:=mU (show rs.length=1 from i3.symm);exact AG C hown hbf (i2 a (by simp)) (i4 0 a ra rfl rfl) h
      have two:∀a b,es=[a,b]->aG X Hi τ (.Call (.Name x p) es [] pos) r:=by
       intro a b ea;subst ea;obtain⟨ra,rb,rfl⟩:=qg (show rs.length=2 from i3.symm);exact AF C hown hbf (i2 a (by simp)) (i2 b (by simp)) (i4 0 a ra rfl rfl) (i4 1 b rb rfl rfl) h
      have hk:es.length=1\/es.length=2:=by
       rcases fC hbf with⟨_,z,_⟩|⟨_,z,_⟩|⟨_,z,_⟩|⟨_,z,_⟩|⟨_,z,_⟩|⟨_,z,_⟩|⟨_,z,_⟩|⟨_,z,_⟩|⟨_,z,_⟩|⟨_,z,_⟩|⟨_,z,_⟩<;>simp[z]
      rcases hk with hk|hk
      ·obtain⟨a,ha⟩:=mU hk
       exact one a ha
      ·obtain⟨a,b,ha⟩:=qg hk
       exact two a b ha
    split at h
    ·rename_i hi
     have hi:x=("isinstance":Str):=Cz hi;subst hi
     split at h
     ·rename_i a t tpos
      split at h
      ·rename_i ty hty
       split at h
       ·exact aM h
       ·rename_i hs
        have hs:=DZ.mpr hs
        split at h
        ·rename_i hot
         simp only[cI,b8,cL,cQ,cJ,cN,cB,cC,cR,cK,cM,cD,cE,b9,cS,cT,cH,cA,cG,cF,cP,uc,ud]at h;obtain⟨rs,hrs,h⟩:=bind_some h;obtain⟨ra,hra,h2⟩:=bind_some hrs;cases h2;have h:(dL ty ra.val).map (fun b=>sc (.bl b))=some r:=h;obtain⟨b,hb2,h⟩:=map_some h;subst h;exact no<|isin_ok C hown hty hot hs (IH.e X ct Hi τ a ra C hra) hb2
        ·exact aM h
      ·exact aM h
     ·exact aM h
    ·exact no<|plain h
   ·exact aM h
 ·exact aM h
theorem mthE{n:Nat}(IH:fT cd n){X:Cx}{ct:Ct}{Hi:Hp}{τ:En}{o:Expr}{m:Str}{es:List Expr}{ap cp:Pos}{r:RV}(C:bC cd X ct)(hl:(ap.endLine==cp.line)=true)(h:aU cd (iQ (n+1) ct o m es) τ=some r):aG X Hi τ (.Call (.Attribute o m ap) es [] cp) r:=by
 refine Dl fun no=> ?_;simp only[z26,z27]at h
 split at h
 ·rename_i hp
  split at h
  ·rename_i a
   split at h
   ·exact aM h
   ·rename_i hs
    have hs:=DZ.mpr hs
    split at h
    ·rename_i hm
     have hm:=Cz hm;subst hm;simp only[cI,b8,cL,cQ,cJ,cN,cB,cC,cR,cK,cM,cD,cE,b9,cS,cT,cH,cA,cG,cF,cP,uc,ud]at h;obtain⟨ro,hro,h⟩:=bind_some h;obtain⟨rs,hrs,h⟩:=bind_some h;obtain⟨ra,hra,h2⟩:=bind_some hrs;cases h2;exact no<|join_ok hp hl hs (IH.e X ct Hi τ o ro C hro) (IH.e X ct Hi τ a ra C hra) h
    ·split at h
     ·rename_i hm
      have hm:=Cz hm;subst hm;simp only[cI,b8,cL,cQ,cJ,cN,cB,cC,cR,cK,cM,cD,cE,b9,cS,cT,cH,cA,cG,cF,cP,uc,ud]at h;obtain⟨ro,hro,h⟩:=bind_some h;obtain⟨rs,hrs,h⟩:=bind_some h;obtain⟨ra,hra,h2⟩:=bind_some hrs;cases h2;exact no<|count_ok hp hl hs (IH.e X ct Hi τ o ro C hro) (IH.e X ct Hi τ a ra C hra) h
     ·exact aM h
  ·exact aM h
 ·exact aM h
theorem Ba{n:Nat}(IH:fT cd n){X:Cx}{ct:Ct}{Hi:Hp}{τ:En}{tp:Bool}{e tg:Expr}{xs:List PV}{k b:Bool}(C:bC cd X ct)(ht:tp=true->∃ts kk p,tg=.Tuple ts kk p)(h:jy cd (qH (n+1) ct tp e) τ=some (xs,k,b)):iP X Hi τ tg e xs k b/\bv e=false:=by
 simp only[z2o,z2p]at h
 split at h
 ·simp[xF,xG,xE,xH,xk]at h
 rename_i hset;have hset:=DZ.mpr hset;refine⟨?_,hset⟩;have seq:jy cd (.seq (ac n ct e)) τ=some (xs,k,b)->iP X Hi τ tg e xs k b:=by
  intro h;simp only[xF,xG,xE,xH,xk]at h;obtain⟨r,hr,h⟩:=bind_some h;exact yN (IH.e X ct Hi τ e r C hr) h
 have nv:∀{P:Prop},jy cd .never τ=some (xs,k,b)->P:=by
  intro P h;simp[xF,xG,xE,xH,xk]at h
 split at h
 ·rename_i x es hc
  obtain⟨p,pos,rfl⟩:∃p pos,e=.Call (.Name x p) es [] pos:=by
   unfold jr at hc
   split at hc
   ·cases hc;exact⟨_,_,rfl⟩
   ·cases hc
  split at h
  ·rename_i hx
   have hx:=Cz hx;subst hx
   split at h
   ·rename_i ho
    simp only[xF,xG,xE,xH,xk]at h;obtain⟨rs,hrs,h⟩:=bind_some h;obtain⟨ys,hy,h⟩:=map_some h;cases h;obtain⟨i1,i2,i3,i4⟩:=IH.es X ct Hi τ es rs C hrs;exact yR C ho i2 i1 i3 hy
   ·exact nv h
  ·split at h
   ·rename_i hx
    have hx:=Cz hx;subst hx
    split at h
    ·rename_i a b'
     split at h
     ·exact nv h
     ·rename_i hc
      simp only[Dq,not_or,Bool.not_eq_true,Er]at hc;obtain⟨⟨⟨c1,c2⟩,c3⟩,c4⟩:=hc;obtain⟨ts,kk,tpos,rfl⟩:=ht (by simpa using c3);simp only[xF,xG,xE,xH,xk]at h;obtain⟨ra,hra,h⟩:=bind_some h;obtain⟨rb,hrb,h⟩:=bind_some h;obtain⟨w,hw,h⟩:=map_some h;cases h;exact xj C (by simpa using c4) c1 c2 (IH.e X ct Hi τ _ ra C hra) (IH.e X ct Hi τ _ rb C hrb) hw
    ·exact nv h
   ·split at h
    ·rename_i hx
     have hx:=Cz hx;subst hx
     split at h
     ·rename_i a
      split at h
      ·exact nv h
      ·rename_i hc
       simp only[Dq,not_or,Bool.not_eq_true,Er]at hc;obtain⟨⟨c1,c3⟩,c4⟩:=hc;obtain⟨ts,kk,tpos,rfl⟩:=ht (by simpa using c3);simp only[xF,xG,xE,xH,xk]at h;obtain⟨ra,hra,h⟩:=bind_some h;obtain⟨w,hw,h⟩:=map_some h;cases h;exact wO C (by simpa using c4) c1 (IH.e X ct Hi τ _ ra C hra) hw
     ·exact nv h
    ·exact seq h
 ·exact seq h
theorem lcE{n:Nat}(IH:fT cd n){X:Cx}{ct:Ct}{Hi:Hp}{τ:En}{elt:Expr}{gs:List Comprehension}{scope:Scope}{pos:Pos}{r:RV}(C:bC cd X ct)(h:aU cd (ac (n+1) ct (.ListComp elt gs scope pos)) τ=some r) :
  ∃tg iter ifs N' src,gs=[⟨tg,iter,ifs,0⟩]/\az X scope N' src/\scope.kind=.function/\(∀y∈scope.names,y.2=.cell->scope.names.lookup y.1=some .cell)/\(∀y∈scope.names,y.2=.local->scope.names.lookup y.1=some .local)/\cy X.env.scope scope=true/\bv iter=false /\
   ∀(O:List Addr)(σ:L2.St)(H:Hp)(Q:VK),aX X.K Hi O τ σ H->(∀u H',aA H H' ->aT X.K Hi O H H' r u->Q u H')->yF X N' src scope tg ifs elt (fun σ H R=>WI X tg iter σ H R) σ H Q:=by
 refine Dl fun no=> ?_;simp only[la,lV,lR,lZ,lO,lW,lY,lU,lT,lP,lQ,lX,lS]at h
 split at h
 ·rename_i t tp iter ifs
  split at h
  ·rename_i hlc
   cases hc:slots ct.N (frees scope)with
   | none=>rw[hc]at h;exact aM h
   | some caps =>
    rw[hc]at h;simp only[cI,b8,cL,cQ,cJ,cN,cB,cC,cR,cK,cM,cD,cE,b9,cS,cT,cH,cA,cG,cF,cP]at h;obtain⟨w,hw,h⟩:=bind_some h;obtain⟨xs,n',b⟩:=w;dsimp only at h
    split at h
    ·rename_i hz
     obtain⟨w2,hw2,h⟩:=map_some h;obtain⟨VS,NN⟩:=w2;subst h;obtain⟨fz,hset⟩:=IH.t X ct Hi τ false iter (.Name t tp) xs n' b C (fun z=>by cases z) hw;obtain⟨g1,g2,g3,g4,g5,g6,g7⟩:=gc hlc;obtain⟨q1,q2,q3⟩:=v8 (elt:=elt) (ifs:=ifs) C hlc hc hset fz hz (fun X' τ' k C' hk=>by
      split at hk
      ·simp only[xm,xl]at hk
       cases hk;exact⟨_,kQ,fun O σ H Q R q=>q H (aA.refl _)⟩
      ·rename_i c
       simp only[xm,xl]at hk;exact⟨_,kP hZ,fun O σ H Q R q=>IH.c X' _ Hi τ' _ k C' hk O σ H Q R q⟩
      ·simp[xm,xl,qX,qZ,qa,qY,cI,b8,cL,cQ,cJ,cN,cB,cC,cR,cK,cM,cD,cE,b9,cS,cT,cH,cA,cG,cF,cP]at hk) (fun X' τ' r' C' hr' =>IH.e X' _ Hi τ' elt r' C' hr') hw2
     exact no<|⟨.Name t tp,iter,ifs,_,_,rfl,q1,g1,g2,g3,q2,hset,q3⟩
    ·cases h
  ·exact aM h
 ·cases e2:nX gs with
  | none=>rw[e2]at h;exact aM h
  | some w =>
   obtain⟨t,t2,iter,ifs⟩:=w;rw[e2]at h;obtain⟨tp,tp2,kk,tpp,rfl⟩:=oi e2;dsimp only at h
   split at h
   ·rename_i hlc
    cases hc:slots ct.N (frees scope)with
    | none=>rw[hc]at h;exact aM h
    | some caps =>
     rw[hc]at h;simp only[cI,b8,cL,cQ,cJ,cN,cB,cC,cR,cK,cM,cD,cE,b9,cS,cT,cH,cA,cG,cF,cP]at h;obtain⟨w,hw,h⟩:=bind_some h;obtain⟨xs,n',b⟩:=w;dsimp only at h
     split at h
     ·rename_i hz
      obtain⟨w2,hw2,h⟩:=map_some h;obtain⟨VS,NN⟩:=w2;subst h;obtain⟨fz,hset⟩:=IH.t X ct Hi τ true iter (.Tuple [.Name t tp,.Name t2 tp2] kk tpp) xs n' b C (fun _=>⟨_,_,_,rfl⟩) hw;obtain⟨g1,g2,g3,g4,g5,g6,g8,g7⟩:=ee hlc;obtain⟨q1,q2,q3⟩:=sZ (elt:=elt) (ifs:=ifs) C hlc hc hset fz hz (fun X' τ' k C' hk=>by
       split at hk
       ·simp only[xm,xl]at hk
        cases hk;exact⟨_,kQ,fun O σ H Q R q=>q H (aA.refl _)⟩
       ·rename_i c
        simp only[xm,xl]at hk;exact⟨_,kP hZ,fun O σ H Q R q=>IH.c X' _ Hi τ' _ k C' hk O σ H Q R q⟩
       ·simp[xm,xl,qX,qZ,qa,qY,cI,b8,cL,cQ,cJ,cN,cB,cC,cR,cK,cM,cD,cE,b9,cS,cT,cH,cA,cG,cF,cP]at hk) (fun X' τ' r' C' hr' =>IH.e X' _ Hi τ' elt r' C' hr') hw2
      exact no<|⟨.Tuple [.Name t tp,.Name t2 tp2] kk tpp,iter,ifs,_,_,rfl,q1,g1,g2,g3,q2,hset,q3⟩
     ·cases h
   ·exact aM h
theorem expE{n:Nat}(IH:fT cd n){X:Cx}{ct:Ct}{Hi:Hp}{τ:En}{e:Expr}{r:RV}(C:bC cd X ct)(h:aU cd (ac (n+1) ct e) τ=some r):aG X Hi τ e r:=by
 cases e with
 | Constant c k pos=>simp only[la,lV,lR,lZ,lO,lW,lY,lU,lT,lP,lQ,lX,lS]at h;exact tf h
 | Name x pos=>simp only[la,lV,lR,lZ,lO,lW,lY,lU,lT,lP,lQ,lX,lS]at h;exact vq C h
 | BinOp a op b pos =>
  simp only[la,lV,lR,lZ,lO,lW,lY,lU,lT,lP,lQ,lX,lS,cI,b8,cL,cQ,cJ,cN,cB,cC,cR,cK,cM,cD,cE,b9,cS,cT,cH,cA,cG,cF,cP]at h;obtain⟨x,hx,h⟩:=bind_some h;obtain⟨y,hy,h⟩:=bind_some h;exact uD (IH.e X ct Hi τ a x C hx) (IH.e X ct Hi τ b y C hy) h
 | UnaryOp op a pos =>
  simp only[la,lV,lR,lZ,lO,lW,lY,lU,lT,lP,lQ,lX,lS]at h;cases op with
  | USub =>
   simp only[cI,b8,cL,cQ,cJ,cN,cB,cC,cR,cK,cM,cD,cE,b9,cS,cT,cH,cA,cG,cF,cP]at h;obtain⟨x,hx,h⟩:=bind_some h;obtain⟨i,hi,h⟩:=map_some h;subst h;exact yy (IH.e X ct Hi τ a x C hx) (tF hi)
  | Not =>
   simp only[cI,b8,cL,cQ,cJ,cN,cB,cC,cR,cK,cM,cD,cE,b9,cS,cT,cH,cA,cG,cF,cP]at h;obtain⟨x,hx,h⟩:=bind_some h;obtain⟨i,hi,h⟩:=map_some h;subst h;exact yv (IH.e X ct Hi τ a x C hx) (fA hi)
  | _=>exact aM h
 | Compare a ops cs pos =>
  obtain⟨t,_,h1,_⟩:=B5 IH (Hi:=Hi) C h;exact h1
 | BoolOp op vs pos =>
  simp only[la,lV,lR,lZ,lO,lW,lY,lU,lT,lP,lQ,lX,lS]at h
  split at h
  ·exact aM h
  ·exact k6 (fun e r h=>IH.e X ct Hi τ e r C h) h
 | IfExp c a b pos =>
  simp only[la,lV,lR,lZ,lO,lW,lY,lU,lT,lP,lQ,lX,lS,cI,b8,cL,cQ,cJ,cN,cB,cC,cR,cK,cM,cD,cE,b9,cS,cT,cH,cA,cG,cF,cP]at h;obtain⟨t,ht,h⟩:=bind_some h;refine zJ (IH.c X ct Hi τ c t C ht) ?_;cases t with
  | true=>exact IH.e X ct Hi τ a r C h
  | false=>exact IH.e X ct Hi τ b r C h
 | List es pos =>
  simp only[la,lV,lR,lZ,lO,lW,lY,lU,lT,lP,lQ,lX,lS,cI,b8,cL,cQ,cJ,cN,cB,cC,cR,cK,cM,cD,cE,b9,cS,cT,cH,cA,cG,cF,cP]at h;obtain⟨rs,hrs,h⟩:=bind_some h;obtain⟨w,hw,h⟩:=bind_some h;obtain⟨vs,n'⟩:=w;exact zA (IH.es X ct Hi τ es rs C hrs).1 hw h
 | Tuple es k pos =>
  simp only[la,lV,lR,lZ,lO,lW,lY,lU,lT,lP,lQ,lX,lS,cI,b8,cL,cQ,cJ,cN,cB,cC,cR,cK,cM,cD,cE,b9,cS,cT,cH,cA,cG,cF,cP]at h;obtain⟨rs,hrs,h⟩:=bind_some h;obtain⟨w,hw,h⟩:=bind_some h;obtain⟨vs,n'⟩:=w;exact xu (IH.es X ct Hi τ es rs C hrs).1 hw h
 | Subscript a i pos =>
  simp only[la,lV,lR,lZ,lO,lW,lY,lU,lT,lP,lQ,lX,lS]at h
  split at h
  ·rename_i lo hi st sp
   cases st with
   | none =>
    simp only[cI,b8,cL,cQ,cJ,cN,cB,cC,cR,cK,cM,cD,cE,b9,cS,cT,cH,cA,cG,cF,cP]at h;obtain⟨x,hx,h⟩:=bind_some h;obtain⟨l,hl,h⟩:=bind_some h;obtain⟨u,hu,h⟩:=bind_some h;obtain⟨l',hl',h⟩:=bind_some h;obtain⟨u',hu',h⟩:=bind_some h;exact qw (IH.e X ct Hi τ a x C hx) (IH.o X ct Hi τ lo l l' C hl hl') (IH.o X ct Hi τ hi u u' C hu hu') h
   | some st=>exact aM h
  ·rename_i hns
   simp only[cI,b8,cL,cQ,cJ,cN,cB,cC,cR,cK,cM,cD,cE,b9,cS,cT,cH,cA,cG,cF,cP]at h;obtain⟨x,hx,h⟩:=bind_some h;obtain⟨y,hy,h⟩:=bind_some h;refine tG C.un ?_ (IH.e X ct Hi τ a x C hx) (IH.e X ct Hi τ i y C hy) h;cases i<;>first|rfl|(exfalso;exact hns _ _ _ _ rfl)
 | Call f es ks cp =>
  simp only[la,lV,lR,lZ,lO,lW,lY,lU,lT,lP,lQ,lX,lS]at h;cases ks with
  | nil =>
   dsimp only at h;cases f with
   | Name x p=>exact IH.call X ct Hi τ x es p cp r C h
   | Attribute o m ap =>
    dsimp only at h
    split at h
    ·rename_i hl
     exact IH.mth X ct Hi τ o m es ap cp r C hl h
    ·exact aM h
   | _=>exact aM h
  | cons k ks=>exact aM h
 | ListComp elt gs scope pos =>
  obtain⟨tg,iter,ifs,N',src,rfl,h1,h2,h3,h4,h5,h6,h7⟩:=lcE IH (Hi:=Hi) C h;intro O σ H Q R q;exact we (BK C.calm vZ h1 h2 h3 h4 h5 (fx h6)) (h7 O σ H Q R q)
 | _=>(try simp only[la,lV,lR,lZ,lO,lW,lY,lU,lT,lP,lQ,lX,lS]at h);exact aM h
theorem tstE{n:Nat}(IH:fT cd n){X:Cx}{ct:Ct}{Hi:Hp}{τ:En}{e:Expr}{b:Bool}(C:bC cd X ct)(h:dS cd (iR (n+1) ct e) τ=some b):dD X Hi τ e b:=by
 have plain:∀{e:Expr},dS cd (.val (ac n ct e)) τ=some b->(∀whole,isTrue e X.env whole=(do let v<-whole;standAt e.pos;holding [v] (truthy v)))->dD X Hi τ e b:=by
  intro e h hp;simp only[qX,qZ,qa,qY]at h;obtain⟨x,hx,h⟩:=bind_some h;exact xo (IH.e X ct Hi τ e x C hx) h hp
 cases e with
 | UnaryOp op a p =>
  simp only[Ah,Ae,Ag,Af]at h;cases op with
  | Not =>
   simp only[qX,qZ,qa,qY]at h;obtain⟨t,ht,h⟩:=map_some h;subst h;exact yu (IH.c X ct Hi τ a t C ht)
  | _=>exact plain h fun _=>rfl
 | BoolOp op vs p =>
  simp only[Ah,Ae,Ag,Af]at h;exact(kz (fun e b h=>IH.c X ct Hi τ e b C h) h).tc
 | IfExp c a b' p =>
  simp[Ah,Ae,Ag,Af,qX,qZ,qa,qY,cI,b8,cL,cQ,cJ,cN,cB,cC,cR,cK,cM,cD,cE,b9,cS,cT,cH,cA,cG,cF,cP]at h
 | Compare a ops cs pos =>
  have h:dS cd (.val (ac n ct (.Compare a ops cs pos))) τ=some _:=h;simp only[qX,qZ,qa,qY]at h;obtain⟨x,hx,h⟩:=bind_some h;obtain⟨t,rfl,ht⟩:=IH.cm X ct Hi τ a ops cs pos x C hx;cases h;exact ht
 | _=>(try simp only[Ah,Ae,Ag,Af]at h);exact plain h fun _=>rfl
theorem cu:∀n:Nat,fT cd n
 | 0=>by
  refine⟨fun X ct Hi τ e r C h=> ?_,fun X ct Hi τ a ops cs pos r C h=> ?_,fun X ct Hi τ es rs C h=> ?_,fun X ct Hi τ e o i C h=> ?_,fun X ct Hi τ e b C h=> ?_,fun X ct Hi τ x es p pos r C h=> ?_,fun X ct Hi τ o m es ap cp r C hl h=> ?_,fun X ct Hi τ tp e tg xs k b C ht h=> ?_⟩
  ·simp[la,lV,lR,lZ,lO,lW,lY,lU,lT,lP,lQ,lX,lS,cI,b8,cL,cQ,cJ,cN,cB,cC,cR,cK,cM,cD,cE,b9,cS,cT,cH,cA,cG,cF,cP]at h
  ·simp[la,lV,lR,lZ,lO,lW,lY,lU,lT,lP,lQ,lX,lS,cI,b8,cL,cQ,cJ,cN,cB,cC,cR,cK,cM,cD,cE,b9,cS,cT,cH,cA,cG,cF,cP]at h
  ·simp[z24,z25,uc,ud,cI,b8,cL,cQ,cJ,cN,cB,cC,cR,cK,cM,cD,cE,b9,cS,cT,cH,cA,cG,cF,cP]at h
  ·simp[z28,z29,z2a,z0t,z0u,cI,b8,cL,cQ,cJ,cN,cB,cC,cR,cK,cM,cD,cE,b9,cS,cT,cH,cA,cG,cF,cP]at h
  ·simp[Ah,Ae,Ag,Af,qX,qZ,qa,qY,cI,b8,cL,cQ,cJ,cN,cB,cC,cR,cK,cM,cD,cE,b9,cS,cT,cH,cA,cG,cF,cP]at h
  ·simp[z1l,z1m,cI,b8,cL,cQ,cJ,cN,cB,cC,cR,cK,cM,cD,cE,b9,cS,cT,cH,cA,cG,cF,cP]at h
  ·simp[z26,z27,cI,b8,cL,cQ,cJ,cN,cB,cC,cR,cK,cM,cD,cE,b9,cS,cT,cH,cA,cG,cF,cP]at h
  ·simp[z2o,z2p,xF,xG,xE,xH,xk]at h
 | n+1=>by
  have IH:=cu n;refine⟨fun X ct Hi τ e r C h=>expE IH C h,fun X ct Hi τ a ops cs pos r C h=> ?_,fun X ct Hi τ es rs C h=> ?_,fun X ct Hi τ e o i C h hi=> ?_,fun X ct Hi τ e b C h=>tstE IH C h,fun X ct Hi τ x es p pos r C h=>B9 IH C h,fun X ct Hi τ o m es ap cp r C hl h=>mthE IH C hl h,fun X ct Hi τ tp e tg xs k b C ht h=>Ba IH C ht h⟩
  ·obtain⟨t,h1,_,h2⟩:=B5 IH (Hi:=Hi) C h
   exact⟨t,h1,h2⟩
  ·simp only[z24,z25]at h
   exact oE (fun e r h=>IH.e X ct Hi τ e r C h) h
  ·cases e with
   | none =>
    simp only[z28,z29,z2a,z0t,z0u]at h;cases h;cases hi;exact True.intro
   | some e =>
    simp only[z28,z29,z2a,z0t,z0u]at h;obtain⟨r,hr,h⟩:=map_some h;subst h;simp only[km]at hi
    split at hi
    ·rename_i j ej
     cases hi;exact⟨r,IH.e X ct Hi τ e r C hr,ej⟩
    ·cases hi
end
end IR
namespace L2
open PySem PySem.Spec PyProof.Rows
section
variable{X:Cx}{pins:List (Addr×Obj)}{σ:St}{H:Hp}{s:Shared}
theorem rO{xn:Str}{ix:Nat}{xpos apos:Pos}{elt target iter:Expr}{ifs:List Expr}{scope:Scope}{pos:Pos}{N' :List Str}{src:List (Option Nat)}{wi:TI}(hc:X.calm=true)(hi:PI X target iter wi)(hsrc:az X scope N' src)
  (hkind:scope.kind=.function) (hcell:∀y∈scope.names,y.2=.cell->scope.names.lookup y.1=some .cell) (hnames:∀y∈scope.names,y.2=.local->scope.names.lookup y.1=some .local)
  (hfr:cy X.env.scope scope=true)
  (hs:∀x,foldedSetIterable iter X.env x=pure x) (hN:X.N.Nodup) (hix:X.N[ix]? =some xn) (hxl:Loc X.env.scope xn) (hf:X.fn xn=true\/X.env.scope.names.lookup xn=some .local)
  (hsw:swapsWith (.ListComp elt [⟨target,iter,ifs,0⟩] scope pos) (some (.Name xn xpos)) apos.line X.env=pure true) :
  PS X (.Assign [.Name xn xpos] (.ListComp elt [⟨target,iter,ifs,0⟩] scope pos) apos) (A0 (yF X N' src scope target ifs elt wi) (oM ix)):=by
 intro pins s σ H D0 I h;rw[exec_Assign_Name_used xn xpos _ apos hsw];refine CU (wpAny_standAt (CU ?_));show wpAny (model X.prog X.w) X.A (comprehension (.ListComp elt [⟨target,iter,ifs,0⟩] scope pos) scope X.env _ (newList []) false _ (some (assign (.Name xn xpos) X.env)) >>= fun _=>pure ()) _ _ _;refine CU (af (Q:=fun _ s' =>SP X pins D0 .next s') ?_ fun _ s9 h9=>Ce (Ce h9));refine oG (use:=some (assign (.Name xn xpos) X.env)) hc hi hsrc hkind hcell hnames hfr hs I h fun C a' s2 s4 H2 H3 fp cl m I2 f2 below hCle I4 hn qn _=> ?_;have u4:Un (lf X.stack) fp H2 H3 s2.heap s4.heap:=I4.base;have IX:Inv X pins σ H3 s4:=I2.call' (s' :=s4) (ch:=fp) I4.os u4 I4.hok I4.bare fun b hb=>⟨(f2 b hb).2.2.2.1,(f2 b hb).2.1,(f2 b hb).2.2.2.2.1,(f2 b hb).2.2.2.2.2⟩;have hC3:H3 C=none:=I4.free;refine wpAny_assign_Name (iT IX hN hix hxl (v:=.ref a') rfl (fun s5 I5 ⟨a,sb,ha⟩=> ?_) hf);have ane:C≠a:=by
  rcases ha with rfl|ha
  ·exact(below _ I2.lt).symm
  ·obtain⟨v,qc⟩:=I2.cell _ _ ha
   exact(below _ qc.lt).symm
 refine⟨m,?_,fun h' hs' => ?_⟩
 ·obtain⟨ob,es,ep,ho,rr⟩:=hn
  exact⟨ob,es,ep,(sb.2 _ ane).trans ho,rr⟩
 ·refine⟨_,H3,I5.turned (t' :=s5.toks) (it:=C) (fun b o ne e=>(hs'.2 b ne).trans e) hC3 (below _ I2.lt).symm (.inr (C9 I2.sz hCle)) (fun x c e=> ?_) (fun p hp=> ?_),qn⟩
  ·obtain⟨v,qc⟩:=I2.cell x c e
   exact below _ qc.lt
  ·exact below _ (Cc (I2.pin p hp).1)
end
end L2
namespace IR
open PySem PySem.Spec PyProof.Rows L2
section
variable{X:Cx}{Hi:Hp}{τ:En}{cd:Nat->List PV->Option PV}{ct:Ct}
noncomputable abbrev WS(X:Cx)(st:Stmt)(D:cj)(σ:L2.St)(H:Hp):Prop:=∀(pins:List (Addr×Obj))(s:Shared),Inv X pins σ H s->wpAny (model X.prog X.w) X.A (exec st X.env) (SP X pins D) X.xe s
noncomputable abbrev WSs(X:Cx)(st:List Stmt)(D:cj)(σ:L2.St)(H:Hp):Prop:=∀(pins:List (Addr×Obj))(s:Shared),Inv X pins σ H s->wpAny (model X.prog X.w) X.A (execs st X.env) (SP X pins D) X.xe s
theorem iA{st:Stmt}:PS X st (fun D σ H=>WS X st D σ H):=fun pins s σ H D I h=>h pins s I
theorem av{st:List Stmt}:jz X st (fun D σ H=>WSs X st D σ H):=fun pins s σ H D I h=>h pins s I
theorem ws{st:Stmt}{t:TS}{σ:L2.St}{H:Hp}{D:cj}(h:PS X st t)(q:t D σ H):WS X st D σ H:=fun pins s I=>h pins s σ H D I q
theorem qG{st:List Stmt}{t:TS}{σ:L2.St}{H:Hp}{D:cj}(h:jz X st t)(q:t D σ H):WSs X st D σ H:=fun pins s I=>h pins s σ H D I q
variable(X Hi)in
noncomputable def lh(O:List Addr)(H:Hp)(τ' :En)(P:L2.St->Hp->Prop):Prop:=∀(σ' :L2.St)(H' :Hp)(O' :List Addr),aX X.K Hi O' τ' σ' H' ->σ'.length=X.N.length->aA (aN H O) (aN H' O')->P σ' H'
variable(X Hi)in
noncomputable def uQ(fl:Fl)(O:List Addr)(H:Hp)(D:cj):Prop:=match fl with
 | .nx τ' =>lh X Hi O H τ' D.nx
 | .bk τ' =>lh X Hi O H τ' D.bk
 | .ct τ' =>lh X Hi O H τ' D.ct
 | .rt v=>∀u H',aA Hi H' ->Rp X.K Hi true v H' u->D.rt u H'
variable(X Hi τ)in
noncomputable def iO(st:Stmt)(fl:Fl):Prop:=∀(O:List Addr)(σ:L2.St)(H:Hp)(D:cj),aX X.K Hi O τ σ H->σ.length=X.N.length->uQ X Hi fl O H D->WS X st D σ H
variable(X Hi τ)in
noncomputable def qA(st:List Stmt)(fl:Fl):Prop:=∀(O:List Addr)(σ:L2.St)(H:Hp)(D:cj),aX X.K Hi O τ σ H->σ.length=X.N.length->uQ X Hi fl O H D->WSs X st D σ H
theorem lh.from{O O' :List Addr}{H H' :Hp}{τ' :En}{P:L2.St->Hp->Prop}(h:lh X Hi O H τ' P)(s:aA (aN H O) (aN H' O')):lh X Hi O' H' τ' P:=fun σ2 H2 O2 R hl s2=>h σ2 H2 O2 R hl (s.trans s2)
theorem uQ.from{O O' :List Addr}{H H' :Hp}{fl:Fl}{D:cj}(h:uQ X Hi fl O H D)(s:aA (aN H O) (aN H' O')):uQ X Hi fl O' H' D:=by
 cases fl with
 | nx τ' =>exact lh.from (show lh X Hi O H τ' D.nx from h) s
 | bk τ' =>exact lh.from (show lh X Hi O H τ' D.bk from h) s
 | ct τ' =>exact lh.from (show lh X Hi O H τ' D.ct from h) s
 | rt v=>exact h
theorem eY(C:bC cd X ct){x:Str}{i:Nat}(h:loc ct x=some i):X.N[i]? =some x/\L2.Loc X.env.scope x/\qI x=false/\Aj ct.S x=true:=by
 unfold loc at h
 split at h
 ·rename_i c
  rw[CZ]at c;refine⟨by rw[C.N];exact dE h,?_,by simpa using c.2,?_⟩
  ·unfold L2.Loc
   rw[C.S]
   simpa using c.1
  ·unfold Aj
   have:=c.1;simp only[Dq]at this ⊢;exact .inl this
 ·cases h
theorem jl{cap:List Nat}{O:List Addr}{σ:L2.St}{H:Hp}(R:aX X.K Hi O τ σ H):∃O',aX X.K Hi O' (bD cap τ) σ H/\aA (aN H O) (aN H O'):=by
 obtain⟨O',R',h⟩:=R.freezes (cap:=cap);exact⟨O',R',oH h⟩
theorem yV{o:Bool}{i:Nat}{r:RV}{τ' :En}{O:List Addr}{σ:L2.St}{H H' :Hp}{u:V}(R:aX X.K Hi O τ σ H)(s:aA H H')(hi:i<σ.length)(ok:aT X.K Hi O H H' r u)(h:jP o i r τ=some τ') :
  ∃O',aX X.K Hi O' τ' (σ.set i (some u)) H' /\aA (aN H O) (aN H' O'):=by
 unfold jP at h
 split at h
 ·rename_i xs n
  cases h;obtain⟨p,us,rfl,h0,h1,r1⟩:=ok;have hs:aA (aN (del H' p) O) (aN H' (p::O)):=fun b o e=>by
   unfold aN del at e;unfold aN
   split at e
   ·cases e
   ·rename_i nb
    split at e
    ·cases e
    ·rename_i np
     rw[Ci (by simp[np,nb])];exact e
  refine⟨p::O,R.setO hi s h0 h1 (r1.mono hs),fun b o e=> ?_⟩;unfold aN at e ⊢
  split at e
  ·cases e
  ·rename_i nb
   have ne:b≠p:=aH e h0;rw[Ci (by simp[ne,nb])];exact s b o e
 ·rename_i b xs n
  cases h;obtain⟨p,us,o,rfl,h0,h1,ha,r1⟩:=ok;have hs:aA (aN (del H' p) O) (aN H' (p::O)):=fun b o e=>by
   unfold aN del at e;unfold aN
   split at e
   ·cases e
   ·rename_i nb
    split at e
    ·cases e
    ·rename_i np
     rw[Ci (by simp[np,nb])];exact e
  refine⟨p::O,R.setB rfl hi s h0 h1 ha (r1.mono hs),fun b o e=> ?_⟩;unfold aN at e ⊢
  split at e
  ·cases e
  ·rename_i nb
   have ne:b≠p:=aH e h0;rw[Ci (by simp[ne,nb])];exact s b o e
 ·obtain⟨w,hw,h⟩:=map_some h
  obtain⟨v,n⟩:=w;subst h;exact⟨O,(R.ext s).setF hi (ok.keep R s hw),aF s⟩
theorem yw{e:Expr}{x:Str}{p:Pos}{l:Nat}{env:Env}(h:tE e=false\/env.kindOf x≠some .local):swapsWith e (some (.Name x p)) l env=pure false:=by
 rcases h with h|h
 ·cases e<;>first|rfl|cases h
 ·have hk:(env.kindOf x==some NameKind.local)=false:=by simpa using h
  cases e<;>first|rfl|(show(pure (_&&(env.kindOf x==some NameKind.local)&&_&&_):Sem Bool)=pure false;rw[hk,Bool.and_false,Eh,Eh])
theorem AK(C:bC cd X ct)(hfn:X.fn=fun _=>true){n:Nat}{x:Str}{i:Nat}{o:Bool}{cap:List Nat}{e:Expr}{xp pos:Pos}{r:RV}{τ' :En}(hx:loc ct x=some i)(hr:aU cd (ac n ct e) (bD cap τ)=some r)(hp:jP o i r (bD cap τ)=some τ') :
  iO X Hi τ (.Assign [.Name x xp] e pos) (.nx τ'):=by
 intro O σ H D R hl q;obtain⟨h1,h2,h3,h4⟩:=eY C hx;obtain⟨O1,R1,s1⟩:=jl (cap:=cap) R;have he:=(cu n).e X ct Hi (bD cap τ) e r C hr;have hi:i<σ.length:=by rw[hl];exact(Ch.mp h1).1
 have hN:X.N.Nodup:=by rw[C.N];exact C.nd
 have fin:∀u H',aA H H' ->aT X.K Hi O1 H H' r u->D.nx (σ.set i (some u)) H' :=fun u H' s ok=>by
  obtain⟨O2,R2,s2⟩:=yV R1 s hi ok hp;exact q _ _ O2 R2 (by rw[DM];exact hl) (s1.trans s2)
 by_cases hc:tE e=false\/X.env.kindOf x≠some .local
 ·refine ws (ba hN h1 h2 aW (yw hc) (.inl (by rw[hfn]))) ?_
  exact he O1 σ H _ R1 fin
 ·rw[not_or]at hc
  obtain⟨c1,c2⟩:=hc;have c2:X.env.kindOf x=some .local:=Classical.not_not.mp c2;cases e with
  | ListComp elt gs scope lp =>
   cases n with
   | zero=>simp[la,lV,lR,lZ,lO,lW,lY,lU,lT,lP,lQ,lX,lS,cI,b8,cL,cQ,cJ,cN,cB,cC,cR,cK,cM,cD,cE,b9,cS,cT,cH,cA,cG,cF,cP]at hr
   | succ n =>
    obtain⟨tg,iter,ifs,N',src,rfl,g1,g2,g3,g4,g5,g6,g7⟩:=lcE (cu n) (Hi:=Hi) C hr;obtain⟨b,hb⟩:∃b,swapsWith (.ListComp elt [⟨tg,iter,ifs,0⟩] scope lp) (some (.Name x xp)) pos.line X.env=pure b:=⟨_,rfl⟩;cases b with
    | true=>exact ws (rO C.calm vZ g1 g2 g3 g4 g5 (fx g6) hN h1 h2 (.inl (by rw[hfn])) hb) (g7 O1 σ H _ R1 fin)
    | false=>exact ws (ba hN h1 h2 aW hb (.inl (by rw[hfn]))) (he O1 σ H _ R1 fin)
  | SetComp a b c d=>exact aM (by cases n<;>exact hr)
  | DictComp a b c d e=>exact aM (by cases n<;>exact hr)
  | _=>exact absurd rfl c1
theorem yS(C:bC cd X ct){n:Nat}{cap:List Nat}{e:Expr}{pos:Pos}{r:RV}{v:PV}(hr:aU cd (ac n ct e) (bD cap τ)=some r)(hk:r.keep=some (v,true)):iO X Hi τ (.Return (some e) pos) (.rt v):=by
 intro O σ H D R hl q;obtain⟨O1,R1,s1⟩:=jl (cap:=cap) R;refine ws (mM aW) ?_;exact(cu n).e X ct Hi _ e r C hr O1 σ H _ R1 fun u H' s ok=>q u H' (R.same.trans s) ((ok.keep R1 s hk).mono aO)
theorem vJ{pos:Pos}:iO X Hi τ (.Return none pos) (.rt .non):=by
 intro O σ H D R hl q;exact ws vP (q _ _ R.same (Rp.non.mpr rfl))
theorem zQ{c:Expr}{a b:List Stmt}{pos:Pos}{t:Bool}{fl:Fl}(hc:dD X Hi τ c t)(h:qA X Hi τ (if t=true then a else b) fl):iO X Hi τ (.If c a b pos) fl:=by
 intro O σ H D R hl q;refine ws (gO hZ av av) ?_;refine hc O σ H _ R fun H1 s1=> ?_;cases t with
 | true=>exact iC ((show qA X Hi τ a fl from h) O σ H1 _ (R.ext s1) hl (q.from (aF s1)))
 | false=>exact ef ((show qA X Hi τ b fl from h) O σ H1 _ (R.ext s1) hl (q.from (aF s1)))
theorem oF(C:bC cd X ct)(hfn:X.fn=fun _=>true):∀{es:List Expr}{is:List Nat},locs ct es=some is->∃t,CJ X es t/\(assignEach es X.env).length=is.length/\(assignEach es X.env).findIdx? (·.1)=none /\
  ∀(O:List Addr)(τ τ' :En)(σ:L2.St)(H:Hp)(n:Bool)(xs:List PV)(us:List V)(Q:L2.St->Hp->Prop),aX X.K Hi O τ σ H->σ.length=X.N.length->aE X.K Hi n xs (aN H O) us->bZ n is xs τ=some τ' ->
   (∀σ',aX X.K Hi O τ' σ' H->σ'.length=X.N.length->Q σ' H)->t us σ H Q
 | [],is,h=>by
  cases h;refine⟨_,nl,rfl,rfl,fun O τ τ' σ H n xs us Q R hl r e q=> ?_⟩;cases xs with
  | nil =>
   unfold aE at r;subst r;cases e;exact⟨rfl,q σ R hl⟩
  | cons x xs=>cases e
 | .Name x p::es,is,h=>by
  have h:(loc ct x).bind (fun i=>(locs ct es).map (i::·))=some is:=h;obtain⟨i,hi,h⟩:=bind_some h;obtain⟨js,hj,h⟩:=map_some h;subst h;obtain⟨h1,h2,h3,h4⟩:=eY C hi;obtain⟨t,pt,hlen,hf,k⟩:=oF C hfn hj;refine⟨_,gS (dH (by rw[C.N];exact C.nd) h1 h2 (.inl (by rw[hfn]))) pt rfl,?_,?_,fun O τ τ' σ H n xs us Q R hl r e q=> ?_⟩
  ·show(assignEach es X.env).length+1=_
   rw[hlen];rfl
  ·show List.findIdx? (·.1) ((false,assign (.Name x p) X.env)::assignEach es X.env)=none
   rw[List.findIdx?_cons,hf];rfl
  ·cases xs with
   | nil=>cases e
   | cons y ys =>
    unfold aE at r;obtain⟨u,vs,rfl,a,b⟩:=r;have hi' :i<σ.length:=by rw[hl];exact(Ch.mp h1).1
    exact⟨u,vs,rfl,k O _ τ' _ H n ys vs Q (R.setF hi' a.up) (by rw[DM];exact hl) b e q⟩
 | .BoolOp .. ::_,_,h=>by cases h
 | .NamedExpr .. ::_,_,h=>by cases h
 | .BinOp .. ::_,_,h=>by cases h
 | .UnaryOp .. ::_,_,h=>by cases h
 | .Lambda .. ::_,_,h=>by cases h
 | .IfExp .. ::_,_,h=>by cases h
 | .Dict .. ::_,_,h=>by cases h
 | .Set .. ::_,_,h=>by cases h
 | .ListComp .. ::_,_,h=>by cases h
 | .SetComp .. ::_,_,h=>by cases h
 | .DictComp .. ::_,_,h=>by cases h
 | .GeneratorExp .. ::_,_,h=>by cases h
 | .Await .. ::_,_,h=>by cases h
 | .Yield .. ::_,_,h=>by cases h
 | .YieldFrom .. ::_,_,h=>by cases h
 | .Compare .. ::_,_,h=>by cases h
 | .Call .. ::_,_,h=>by cases h
 | .FormattedValue .. ::_,_,h=>by cases h
 | .JoinedStr .. ::_,_,h=>by cases h
 | .Constant .. ::_,_,h=>by cases h
 | .Attribute .. ::_,_,h=>by cases h
 | .Subscript .. ::_,_,h=>by cases h
 | .Starred .. ::_,_,h=>by cases h
 | .List .. ::_,_,h=>by cases h
 | .Tuple .. ::_,_,h=>by cases h
 | .Slice .. ::_,_,h=>by cases h
theorem Ak(C:bC cd X ct)(hfn:X.fn=fun _=>true){tg:Expr}{is:List Nat}{one:Bool}(h:qo ct tg=some (is,one)):(one=false->∃ts k p,tg=.Tuple ts k p)/\∃g,PG X tg g /\
  ∀(O:List Addr)(τ τ' :En)(σ:L2.St)(H:Hp)(n:Bool)(x:PV)(u:V)(Q:L2.St->Hp->Prop),aX X.K Hi O τ σ H->σ.length=X.N.length->Rp X.K Hi n x (aN H O) u->jK is one n x τ=some τ' ->
   (∀σ',aX X.K Hi O τ' σ' H->σ'.length=X.N.length->Q σ' H)->g u σ H Q:=by
 cases tg with
 | Name x p =>
  obtain⟨i,hi,h⟩:=map_some (show(loc ct x).map (fun i=>([i],true))=some (is,one)from h);cases h;obtain⟨h1,h2,h3,h4⟩:=eY C hi;refine⟨fun z=>(by cases z),_,dH (by rw[C.N];exact C.nd) h1 h2 (.inl (by rw[hfn])),fun O τ τ' σ H n x u Q R hl r e q=> ?_⟩;have e:some (τ.set i (.frz x (n||imm x)))=some τ' :=e;cases e;have hi' :i<σ.length:=by rw[hl];exact(Ch.mp h1).1
  exact q _ (R.setF hi' r.up) (by rw[DM];exact hl)
 | Tuple es k p =>
  obtain⟨js,hj,h⟩:=map_some (show(locs ct es).map (fun is=>(is,false))=some (is,one)from h);cases h;obtain⟨t,pt,hlen,hf,kk⟩:=oF (Hi:=Hi) C hfn hj;refine⟨fun _=>⟨_,_,_,rfl⟩,_,rf C.calm pt hlen hf,fun O τ τ' σ H n x u Q R hl r e q=> ?_⟩;cases x with
  | tup xs =>
   obtain⟨a,us,rfl,l,r2⟩:=Rp.tup.mp r;have e:bZ n is xs τ=some τ' :=e;have hz:∀{is:List Nat}{xs:List PV}{τ τ' :En},bZ n is xs τ=some τ' ->xs.length=is.length:=by
    intro is
    induction is with
    | nil=>intro xs τ τ' e;cases xs with
     | nil=>rfl
     | cons _ _=>cases e
    | cons i is ih=>intro xs τ τ' e;cases xs with
     | nil=>cases e
     | cons x xs=>rw[C3,C3,ih (show bZ n is xs _=some τ' from e)]
   exact⟨a,us,rfl,(aO (O:=O)).tup l,by rw[<- r2.len];exact hz e,kk O τ τ' σ H n xs us Q R hl r2 e q⟩
  | _=>cases e
 | _=>cases h
theorem zX(C:bC cd X ct)(hfn:X.fn=fun _=>true){tg it:Expr}{is:List Nat}{one:Bool}{cap:List Nat}{n:Nat}{body:List Stmt}{pos:Pos}{xs:List PV}{k:Bool}{bd:En->Option Fl}{fl:Fl}(ht:qo ct tg=some (is,one))
  (hi:jy cd (qH n ct (!one) it) (bD cap τ)=some (xs,k,false)) (hb:∀τ fl,bd τ=some fl->qA X Hi τ body fl) (h:gh (jK is one k) bd xs (bD cap τ)=some fl):iO X Hi τ (.For tg it body [] pos) fl:=by
 intro O σ H D R hl q;obtain⟨O1,R1,s1⟩:=jl (cap:=cap) R;obtain⟨htp,g,pg,kg⟩:=Ak (Hi:=Hi) C hfn ht;obtain⟨fz,hset⟩:=(cu n).t X ct Hi (bD cap τ) (!one) it tg xs k false C (fun z=>htp (by simpa using z)) hi;refine ws (rQ C.xe C.calm vZ pg av (fx hset)) ?_;refine fz O1 σ H _ R1 fun J H1 sJ En=> ?_;rw[Ci Cg]at En;have s2:aA (aN H O) (aN H1 O1):=s1.trans (aF sJ);refine⟨fun i m σ' G=>m=xs.length-i/\i<=xs.length/\∃(P:List Addr)(υ:IR.En),aX X.K Hi P υ σ' G/\σ'.length=X.N.length/\aA (aN H1 O1) (aN G P)/\gh (jK is one k) bd (xs.drop i) υ=some fl,⟨xs.length,by simp,DH _,O1,_,R1.ext sJ,hl,aA.refl _,h⟩,?_⟩;rintro i m σ' G ⟨rfl,hi',P,υ,RP,hlP,sP,hrun⟩;have xT:xA (aN H1 O1) G P:=⟨RP.lsts,sP⟩
 by_cases hlt:i<xs.length
 ·refine .inr ⟨En.go G P i xT hlt,fun σ2 G2=>∃m',m' <xs.length-i/\(m' =xs.length-(i+1)/\i+1<=xs.length/\∃(P:List Addr)(υ:IR.En),aX X.K Hi P υ σ2 G2/\σ2.length=X.N.length/\aA (aN H1 O1) (aN G2 P)/\gh (jK is one k) bd (xs.drop (i+1)) υ=some fl),
   fun σ2 G2 h=>h,fun u G' y=> ?_⟩
  obtain⟨sG,x,hx,rx⟩:=En.yld G P i u G' xT hlt y;have hd:xs.drop i=x::xs.drop (i+1):=by
   rw[Em hlt];rw[CY hlt]at hx;rw[Cw hx]
  rw[hd]at hrun;unfold gh at hrun;obtain⟨υ1,h1,hrun⟩:=bind_some hrun;obtain⟨f,hf,hrun⟩:=bind_some hrun;refine kg P υ υ1 σ' G' k x u _ (RP.ext sG) hlP rx h1 fun σ1 R2 hl1=> ?_;have s3:aA (aN H1 O1) (aN G' P):=sP.trans (aF sG);refine hb υ1 f hf P σ1 G' _ R2 hl1 ?_;cases f with
  | nx υ2=>exact fun σ3 G3 P3 R3 hl3 s4=>⟨_,by omega,rfl,hlt,P3,υ2,R3,hl3,s3.trans s4,hrun⟩
  | ct υ2=>exact fun σ3 G3 P3 R3 hl3 s4=>⟨_,by omega,rfl,hlt,P3,υ2,R3,hl3,s3.trans s4,hrun⟩
  | bk υ2 =>
   have hrun:some (Fl.nx υ2)=some fl:=hrun;cases hrun;exact fun σ3 G3 P3 R3 hl3 s4=>q σ3 G3 P3 R3 hl3 (s2.trans (s3.trans s4))
  | rt v =>
   have hrun:some (Fl.rt v)=some fl:=hrun;cases hrun;exact q
 ·have e:i=xs.length:=by omega
  subst e;rw[List.drop_length]at hrun;have hrun:some (Fl.nx υ)=some fl:=hrun;cases hrun;exact .inl ⟨En.stop G P xT,q σ' G P RP hlP (s2.trans sP)⟩
theorem qb(C:bC cd X ct){c:Expr}{body:List Stmt}{pos:Pos}{ce:En->Option Bool}{bd:En->Option Fl}{fl:Fl}(hc:∀τ b,ce τ=some b->dD X Hi τ c b)(hb:∀τ fl,bd τ=some fl->qA X Hi τ body fl){fu:Nat}(h:xJ ce bd fu τ=some fl) :
  iO X Hi τ (.While c body [] pos) fl:=by
 intro O σ H D R hl q;refine ws (rN C.xe hZ av) ?_;refine⟨fun m σ' G=>∃(P:List Addr)(υ:IR.En),aX X.K Hi P υ σ' G/\σ'.length=X.N.length/\aA (aN H O) (aN G P)/\xJ ce bd m υ=some fl,⟨fu,O,τ,R,hl,aA.refl _,h⟩,?_⟩;rintro m σ' G ⟨P,υ,RP,hlP,sP,hrun⟩;cases m with
 | zero=>cases hrun
 | succ m =>
  unfold xJ at hrun;obtain⟨b,hbv,hrun⟩:=bind_some hrun;refine hc υ b hbv P σ' G _ RP fun G1 s1=> ?_;cases b with
  | false =>
   rw[Ci Cg]at hrun ⊢;cases hrun;exact q σ' G1 P (RP.ext s1) hlP (sP.trans (aF s1))
  | true =>
   rw[Cd rfl]at hrun ⊢;obtain⟨f,hf,hrun⟩:=bind_some hrun;refine⟨fun σ2 G2=>∃m',m' <m+1/\∃(P:List Addr)(υ:IR.En),aX X.K Hi P υ σ2 G2/\σ2.length=X.N.length/\aA (aN H O) (aN G2 P)/\xJ ce bd m' υ=some fl,fun σ2 G2 h=>h,?_⟩;have s3:aA (aN H O) (aN G1 P):=sP.trans (aF s1);refine hb υ f hf P σ' G1 _ (RP.ext s1) hlP ?_;cases f with
   | nx υ2=>exact fun σ3 G3 P3 R3 hl3 s4=>⟨m,by omega,P3,υ2,R3,hl3,s3.trans s4,hrun⟩
   | ct υ2=>exact fun σ3 G3 P3 R3 hl3 s4=>⟨m,by omega,P3,υ2,R3,hl3,s3.trans s4,hrun⟩
   | bk υ2 =>
    have hrun:some (Fl.nx υ2)=some fl:=hrun;cases hrun;exact fun σ3 G3 P3 R3 hl3 s4=>q σ3 G3 P3 R3 hl3 (s3.trans s4)
   | rt v =>
    have hrun:some (Fl.rt v)=some fl:=hrun;cases hrun;exact q
theorem nW{i:Nat}{xs ys:List PV}{n m:Bool}{O:List Addr}{σ:L2.St}{H:Hp}{l:Addr}{us:List V}{P:L2.St->Hp->Prop}(R:aX X.K Hi O τ σ H)(hl:σ.length=X.N.length)(e:τ[i]? =some (.own xs n))(g:σ[i]? =some (some (.ref l)))(r:aE X.K Hi m ys (aN H O) us)
  (q:lh X Hi O H (τ.set i (.own ys m)) P):P σ (L2.upd H l (.lst us)):=by
 have R2:=R.upd e g r;refine q σ _ O R2 hl fun b o z=> ?_;obtain⟨l',vs,g1,g2,_⟩:=R.owns i xs n e;rw[g]at g1;cases g1;unfold aN at z ⊢
 split at z
 ·cases z
 ·rename_i nb
  have ne:b≠l:=fun c=>nb (c▸g2);rw[Ci nb,aD ne];exact z
theorem AM(C:bC cd X ct){n:Nat}{x m:Str}{i:Nat}{cap:List Nat}{a:Expr}{xp ap cp pos:Pos}{r:RV}{v:PV}{k j:Bool}{xs:List PV}(hx:loc ct x=some i)(hm:m="append")(hline:(ap.endLine==cp.line)=true)(hs:isStar a=false)
  (hr:aU cd (ac n ct a) (bD cap τ)=some r) (hk:r.keep=some (v,k)) (ho:(bD cap τ)[i]? =some (.own xs j)) (hz:xs.length<LN) :
  iO X Hi τ (.Expr (.Call (.Attribute (.Name x xp) m ap) [a] [] cp) pos) (.nx ((bD cap τ).set i (.own (xs++[v]) (j&&k)))):=by
 intro O σ H D R hl q;subst hm;obtain⟨h1,h2,h3,h4⟩:=eY C hx;obtain⟨O1,R1,s1⟩:=jl (cap:=cap) R;obtain⟨o1,o2,o3⟩:=bP h3;refine ws (dG (nr PySem.F.plainAttrs_list PySem.F.slot_list_append PySem.F.type_list_append ib (jT h1 (li C.S h4) o1 o2) (aB aW aS (aL hs)) rfl (by rw[aL hs];rfl) hline (aL hs) rfl) rfl) ?_;obtain⟨l,us,g1,g2,g3,g4⟩:=R1.owns i xs j ho;refine⟨_,g1,.inl ⟨rfl,us,ar.of g3⟩,?_⟩;refine(cu n).e X ct Hi _ a r C hr O1 σ H _ R1 fun u H' s ok=> ?_;have kp:=ok.keep R1 s hk;have hlen:=g4.len;refine⟨l,us,u,rfl,rfl,s _ _ g3,by rw[bW,<-hlen];exact hz,?_⟩;exact nW (R1.ext s) hl ho g1 (vy (g4.mono (aF s)) (.cons kp .nil)) (lh.from q (s1.trans (aF s)))
theorem zO(C:bC cd X ct){n:Nat}{x m:Str}{i:Nat}{a b:Expr}{xp ap cp pos:Pos}{rx r:RV}{v:PV}{jj:Int}{k j:Bool}{xs:List PV}(hx:loc ct x=some i)(hm:m="insert")(hline:(ap.endLine==cp.line)=true)(hs:isStar a=false)(hs2:isStar b=false)
  (hrx:aU cd (ac n ct a) τ=some rx) (hjx:rx.val=.int jj) (hr:aU cd (ac n ct b) τ=some r) (hk:r.keep=some (v,k)) (ho:τ[i]? =some (.own xs j)) (hz:0<=jj/\jj<=xs.length/\xs.length<LN) :
  iO X Hi τ (.Expr (.Call (.Attribute (.Name x xp) m ap) [a,b] [] cp) pos) (.nx (τ.set i (.own (xs.take jj.toNat++v::xs.drop jj.toNat) (j&&k)))):=by
 intro O σ H D R hl q;subst hm;obtain⟨h1,h2,h3,h4⟩:=eY C hx;obtain⟨o1,o2,o3⟩:=bP h3;refine ws (dG (nr PySem.F.plainAttrs_list PySem.F.slot_list_insert PySem.F.type_list_insert pL (jT h1 (li C.S h4) o1 o2) (aB aW (aB aW aS (aL hs2)) (aL hs)) rfl (by rw[aL hs,aL hs2];rfl) hline (aL hs) (dI fun c hc=>by simp at hc;subst hc;exact hs2)) rfl) ?_;obtain⟨l,us,g1,g2,g3,g4⟩:=R.owns i xs j ho;refine⟨_,g1,.inl ⟨rfl,us,ar.of g3⟩,?_⟩;refine(cu n).e X ct Hi _ a rx C hrx O σ H _ R fun w H1 s1 ok1=>(cu n).e X ct Hi _ b r C hr O σ H1 _ (R.ext s1) fun u H' s ok=> ?_;have kp:=ok.keep (R.ext s1) s hk;have hlen:=g4.len;have ew:=ok1.int R s1 hjx;subst ew;refine⟨l,us,jj,u,rfl,rfl,s _ _ (s1 _ _ g3),hz.1,by rw[<- hlen];exact hz.2.1,by rw[bW,<-hlen];exact hz.2.2,?_⟩;have st:=s1.trans s;have g5:=g4.mono (aF (O:=O) st);exact nW (R.ext st) hl ho g1 (vy (g5.take _) (aE.low (n:=j&&k) (.cons (kp.low fun z=>by rw[CZ]at z;exact z.2) ((g5.drop _).low fun z=>by rw[CZ]at z;exact z.1)) id) |>.low fun z=>by simpa using z) (lh.from q (aF st))
theorem aX.setN{K:W.Frag}{O:List Addr}{σ:L2.St}{H:Hp}(R:aX K Hi O τ σ H){i:Nat}{u:V}:aX K Hi O (τ.set i .un) (σ.set i (some u)) H where
 same:=R.same
 own:=R.own
 frz:=fun j w m e=>by
  rcases aY e with⟨rfl,e'⟩|⟨ne,e'⟩
  ·cases e'
  ·obtain⟨u',h1,h2⟩:=R.frz j w m e'
   exact⟨u',by rw[Cr ne];exact h1,h2⟩
 obs:=fun j t b xs m e ht=>by
  rcases aY e with⟨rfl,e'⟩|⟨ne,e'⟩
  ·subst e'
   cases ht
  ·obtain⟨l,us,o,h1,h2⟩:=R.obs j t b xs m e' ht
   exact⟨l,us,o,by rw[Cr ne];exact h1,h2⟩
 dst:=fun j k t t' x y l e1 ht e2 ht' h1 h2=>by
  rcases aY e1 with⟨rfl,e'⟩|⟨ne,e'⟩
  ·subst e'
   cases ht
  ·rcases aY e2 with⟨rfl,e''⟩|⟨ne2,e''⟩
   ·subst e''
    cases ht'
   ·rw[Cr ne]at h1
    rw[Cr ne2]at h2;exact R.dst j k t t' x y l e' ht e'' ht' h1 h2
end
section
variable{cd:Nat->List PV->Option PV}{fu:Nat}
structure CT(cd:Nat->List PV->Option PV)(fu:Nat)(n:Nat):Prop where
 s:∀(X:Cx)(ct:Ct)(Hi:Hp)(τ:En)(st:Stmt)(fl:Fl),bC cd X ct->(X.fn=fun _=>true)->eG cd fu (lb n ct st) τ=some fl->iO X Hi τ st fl
 ss:∀(X:Cx)(ct:Ct)(Hi:Hp)(τ:En)(st:List Stmt)(fl:Fl),bC cd X ct->(X.fn=fun _=>true)->bI cd fu (dM n ct st) τ=some fl->qA X Hi τ st fl
theorem ao{τ:En}{r:Fl}(h:eG cd fu .never τ=some r){P:Prop}:P:=by simp[fo,fZ,fY,fg,fi,fX,fc,fm,fk,fq,ff,fj,fh,fe]at h
theorem stE{n:Nat}(IH:CT cd fu n){X:Cx}{ct:Ct}{Hi:Hp}{τ:En}{st:Stmt}{fl:Fl}(C:bC cd X ct)(hfn:X.fn=fun _=>true)(h:eG cd fu (lb (n+1) ct st) τ=some fl):iO X Hi τ st fl:=by
 cases st with
 | Return v pos =>
  simp only[qW,qO,qV,qQ,qR,qN,qP,qU,qT,qS]at h;cases v with
  | none =>
   simp only[fo,fZ,fY,fg,fi,fX,fc,fm,fk,fq,ff,fj,fh,fe]at h;cases h;exact vJ
  | some e =>
   simp only[fo,fZ,fY,fg,fi,fX,fc,fm,fk,fq,ff,fj,fh,fe]at h;obtain⟨r,hr,h⟩:=bind_some h;obtain⟨w,hk,h⟩:=bind_some h;obtain⟨v,m⟩:=w;dsimp only at h
   split at h
   ·rename_i hm
    cases h;subst hm;exact yS C hr hk
   ·cases h
 | Assign ts e pos =>
  simp only[qW,qO,qV,qQ,qR,qN,qP,qU,qT,qS]at h
  split at h
  ·rename_i x xp
   cases hx:loc ct x with
   | none=>rw[hx]at h;exact ao h
   | some i =>
    rw[hx]at h;dsimp only at h;simp only[fo,fZ,fY,fg,fi,fX,fc,fm,fk,fq,ff,fj,fh,fe]at h;obtain⟨r,hr,h⟩:=bind_some h;obtain⟨τ',hp',h⟩:=map_some h;subst h;exact AK C hfn hx hr hp'
  ·exact ao h
 | If c a b pos =>
  simp only[qW,qO,qV,qQ,qR,qN,qP,qU,qT,qS,fo,fZ,fY,fg,fi,fX,fc,fm,fk,fq,ff,fj,fh,fe]at h;obtain⟨t,ht,h⟩:=bind_some h;refine zQ ((cu n).c X ct Hi τ c t C ht) ?_;cases t with
  | true=>exact IH.ss X ct Hi τ a fl C hfn h
  | false=>exact IH.ss X ct Hi τ b fl C hfn h
 | For tg it body els pos =>
  simp only[qW,qO,qV,qQ,qR,qN,qP,qU,qT,qS]at h;cases els with
  | cons _ _=>exact ao h
  | nil =>
   dsimp only at h;cases ht:qo ct tg with
   | none=>rw[ht]at h;exact ao h
   | some w =>
    obtain⟨is,one⟩:=w;rw[ht]at h;simp only[fo,fZ,fY,fg,fi,fX,fc,fm,fk,fq,ff,fj,fh,fe]at h;obtain⟨w,hw,h⟩:=bind_some h;obtain⟨xs,k,b⟩:=w;dsimp only at h;cases b with
    | true=>cases h
    | false=>exact zX C hfn ht hw (fun τ fl h=>IH.ss X ct Hi τ body fl C hfn h) h
 | While c body els pos =>
  simp only[qW,qO,qV,qQ,qR,qN,qP,qU,qT,qS]at h;cases els with
  | cons _ _=>exact ao h
  | nil =>
   simp only[fo,fZ,fY,fg,fi,fX,fc,fm,fk,fq,ff,fj,fh,fe]at h;exact qb C (fun τ b h=>(cu n).c X ct Hi τ c b C h) (fun τ fl h=>IH.ss X ct Hi τ body fl C hfn h) h
 | Pass pos =>
  simp only[qW,qO,qV,qQ,qR,qN,qP,qU,qT,qS,fo,fZ,fY,fg,fi,fX,fc,fm,fk,fq,ff,fj,fh,fe]at h;cases h;exact fun O σ H D R hl q=>ws vQ (q σ H O R hl (aA.refl _))
 | Break pos =>
  simp only[qW,qO,qV,qQ,qR,qN,qP,qU,qT,qS,fo,fZ,fY,fg,fi,fX,fc,fm,fk,fq,ff,fj,fh,fe]at h;cases h;exact fun O σ H D R hl q=>ws rR (q σ H O R hl (aA.refl _))
 | Continue pos =>
  simp only[qW,qO,qV,qQ,qR,qN,qP,qU,qT,qS,fo,fZ,fY,fg,fi,fX,fc,fm,fk,fq,ff,fj,fh,fe]at h;cases h;exact fun O σ H D R hl q=>ws kM (q σ H O R hl (aA.refl _))
 | Expr e pos =>
  simp only[qW,qO,qV,qQ,qR,qN,qP,qU,qT,qS]at h
  split at h
  ·rename_i x xp m ap es cp
   split at h
   ·rename_i hline
    cases hx:loc ct x with
    | none=>rw[hx]at h;exact ao h
    | some i =>
     rw[hx]at h;dsimp only at h
     split at h
     ·rename_i a
      split at h
      ·exact ao h
      ·rename_i hs
       split at h
       ·rename_i hm
        simp only[fo,fZ,fY,fg,fi,fX,fc,fm,fk,fq,ff,fj,fh,fe]at h;obtain⟨r,hr,h⟩:=bind_some h;obtain⟨w,hk,h⟩:=bind_some h;obtain⟨v,k⟩:=w
        split at h
        ·rename_i xs j ho
         split at h
         ·rename_i hz
          cases h;exact AM C hx (Cz hm) hline (DZ.mpr hs) hr hk ho hz
         ·cases h
        ·cases h
       ·exact ao h
     ·rename_i a b
      split at h
      ·exact ao h
      ·rename_i hs
       simp only[Dq,not_or,Bool.not_eq_true]at hs
       split at h
       ·rename_i hm
        simp only[fo,fZ,fY,fg,fi,fX,fc,fm,fk,fq,ff,fj,fh,fe]at h;obtain⟨rx,hrx,h⟩:=bind_some h;obtain⟨r,hr,h⟩:=bind_some h;obtain⟨w,hk,h⟩:=bind_some h;obtain⟨v,k⟩:=w
        split at h
        ·rename_i jj xs j hj ho
         split at h
         ·rename_i hz
          cases h;exact zO C hx (Cz hm) hline hs.1 hs.2 hrx hj hr hk ho hz
         ·cases h
        ·cases h
       ·exact ao h
     ·exact ao h
   ·exact ao h
  ·exact ao h
 | _=>(try simp only[qW,qO,qV,qQ,qR,qN,qP,qU,qT,qS]at h);exact ao h
theorem wy:∀n:Nat,CT cd fu n
 | 0=>by
  refine⟨fun X ct Hi τ st fl C hfn h=> ?_,fun X ct Hi τ st fl C hfn h=> ?_⟩
  ·simp[qW,qO,qV,qQ,qR,qN,qP,qU,qT,qS,fo,fZ,fY,fg,fi,fX,fc,fm,fk,fq,ff,fj,fh,fe]at h
  ·simp[z2b,z2d,z2c,uY,uZ,fo,fZ,fY,fg,fi,fX,fc,fm,fk,fq,ff,fj,fh,fe]at h
 | n+1=>by
  have IH:=wy n;refine⟨fun X ct Hi τ st fl C hfn h=>stE IH C hfn h,fun X ct Hi τ st fl C hfn h=> ?_⟩;cases st with
  | nil =>
   simp only[z2b,z2d,z2c,uY,uZ]at h;cases h;exact fun O σ H D R hl q=>qG fv (q σ H O R hl (aA.refl _))
  | cons st ss =>
   simp only[z2b,z2d,z2c]at h;simp only[uY,uZ]at h;obtain⟨f,hf,h⟩:=bind_some h;have h1:=IH.s X ct Hi τ st f C hfn hf;intro O σ H D R hl q;refine qG (aV iA av) ?_;refine h1 O σ H _ R hl ?_;cases f with
   | nx τ1=>exact fun σ1 H1 O1 R1 hl1 s1=>IH.ss X ct Hi τ1 ss fl C hfn h O1 σ1 H1 D R1 hl1 (q.from s1)
   | bk τ1 =>
    have h:some (Fl.bk τ1)=some fl:=h;cases h;exact q
   | ct τ1 =>
    have h:some (Fl.ct τ1)=some fl:=h;cases h;exact q
   | rt v =>
    have h:some (Fl.rt v)=some fl:=h;cases h;exact q
end
structure oa(K:W.Frag)(mg:Str->Option Value)(P:Nat->Option FD)(F:List (Str×Nat))(G:List (Str×PV))(B:List Str)(x:Str)(f:Nat)(a:Addr)(fd:FuncData)(ps:List Str):Prop where
 ex:(mg x=some (.ref a)/\W.keepIn K (.ref a)=true/\Binds K fd ps []/\∀(p:Program)(w:World)(base:Heap)(k:Nat),(∀j,j<=k->∀y g,F.lookup y=some g->∃b gd qs,mg y=some (.ref b)/\W.keepIn K (.ref b)=true/\Binds K gd qs []/\aj p w K mg base dg j b gd qs (na K (aC P j g)))->aj p w K mg base dg (k+1) a fd ps (na K (aC P (k+1) f)))\/∃st N M n body,qD K mg x st ps a fd/\bH N ps (aI st)/\P f=some ⟨N.length,ps.length,body⟩/\dM n ⟨N,(aI st).names,F,G,B,M⟩ (aZ st)=body
theorem oa.def{K:W.Frag}{mg:Str->Option Value}{P:Nat->Option FD}{F:List (Str×Nat)}{G:List (Str×PV)}{B:List Str}{x:Str}{f:Nat}{a:Addr}{fd:FuncData}{ps:List Str}(d:oa K mg P F G B x f a fd ps):mg x=some (.ref a)/\W.keepIn K (.ref a)=true/\Binds K fd ps []:=by
 rcases d.ex with⟨h1,h2,h3,_⟩|⟨st,N,M,n,body,D,_⟩
 ·exact⟨h1,h2,h3⟩
 ·exact⟨D.nm,D.fn.kp,D.bd⟩
theorem em{K:W.Frag}{H:Hp}{d:FD}{N:List Str}{pvs:List PV}{vs:List V}(hn:d.nn=N.length)(r:aE K H false pvs H vs):aX K H [] (entry d pvs) (start N vs) H:=by
 have hl:=r.len;have at_:∀(i:Nat)(t:TV),(entry d pvs)[i]? =some t->t=.un\/∃v u,t=.frz v (imm v)/\(start N vs)[i]? =some (some u)/\Rp K H false v H u:=fun i t e=>by
  unfold entry at e
  by_cases hi:i<pvs.length
  ·rw[El (by simpa using hi),Cp]at e
   have hv:pvs[i]? =some pvs[i]:=by simp
   rw[hv]at e;cases e;obtain⟨u,hu,ru⟩:=r.at hv;refine .inr ⟨_,u,rfl,?_,ru⟩;unfold L2.start;rw[El (by rw[CW];omega),Cp,hu];rfl
  ·rw[List.getElem?_append_right (by simpa using hi),EJ]at e
   split at e
   ·cases e
    exact .inl rfl
   ·cases e
 refine⟨aA.refl _,fun l hl=>(by cases hl),fun i v n e=> ?_,fun i t b xs n e ht=> ?_,fun i j t t' x y l e1 ht e2 ht' h1 h2=> ?_⟩
 ·rcases at_ i _ e with z|⟨v',u,z,h1,h2⟩
  ·cases z
  ·cases z
   refine⟨u,h1,?_⟩;rw[wI];cases him:imm v with
   | true=>exact Rp.imm him ⟨fun _ _ e=>e,fun _ _ _ e=>e⟩ h2
   | false=>exact h2
 ·rcases at_ i _ e with z|⟨v',u,z,h1,h2⟩<;>(subst z;cases ht)
 ·rcases at_ i _ e1 with z|⟨v',u,z,h1,h2⟩<;>(subst z;cases ht)
theorem zY{p:Program}{w:World}{K:W.Frag}{mg:Str->Option Value}{base:Heap}{P:Nat->Option FD}{F:List (Str×Nat)}{G:List (Str×PV)}{B:List Str}
  (hG:∀x v,G.lookup x=some v->∃u w,mg x=some u/\RelV w u/\∀Hi n H,Rp K Hi n v H w) (hB:∀x,B.contains x=true->mg x=none) (hF:∀x f,F.lookup x=some f->∃a fd ps,oa K mg P F G B x f a fd ps) :
  ∀(k:Nat)(x:Str)(f:Nat)(a:Addr)(fd:FuncData)(ps:List Str),oa K mg P F G B x f a fd ps->aj p w K mg base dg k a fd ps (na K (aC P k f)):=by
 have S:∀k j:Nat,j<=k->∀(x:Str)(f:Nat)(a:Addr)(fd:FuncData)(ps:List Str),oa K mg P F G B x f a fd ps->aj p w K mg base dg j a fd ps (na K (aC P j f)):=by
  intro k
  induction k with
  | zero =>
   intro j hj;have e:=Nat.le_zero.mp hj;subst e;intro x f a fd ps _;exact⟨fun vs H Q E h=>(by obtain⟨_,_,_,z,_⟩:=h;cases z),fun A outer s H args us vs Q E _ _ _ _ h=>(by obtain⟨_,_,_,z,_⟩:=h;cases z)⟩
  | succ k ih =>
  intro j hj
  by_cases hjk:j<=k
  ·exact ih j hjk
  have e:j=k+1:=by omega
  subst e;intro x f a fd ps d
  rcases d.ex with⟨_,_,_,hand⟩|⟨st,N,M,n,body,D,S,hP,hbody⟩
  ·exact hand p w base k fun j hj y g hy=>by
    obtain⟨b,gd,qs,dy⟩:=hF y g hy;obtain⟨z1,z2,z3⟩:=dy.def;exact⟨b,gd,qs,z1,z2,z3,ih j hj y g b gd qs dy⟩
  have run:∀{pvs:List PV}{r:PV},aC P (k+1) f pvs=some r->pvs.length=ps.length/\c0 (bI (aC P k) 1000000 body (entry ⟨N.length,ps.length,body⟩ pvs))=some r:=fun{pvs r} h=>by
   unfold aC at h;rw[hP]at h;dsimp only[Option.bind]at h
   split at h
   ·rename_i hl
    exact⟨hl,h⟩
   ·cases h
  refine D.fn.ok S (fun vs H Q E h=> ?_) (fun cdv A outer s H vs Q E hr h=> ?_)
  ·obtain⟨pvs,r,h1,h2,_⟩:=h
   rw[<- h1.len];exact(run h2).1
  ·obtain⟨pvs,r,h1,h2,q⟩:=h
   obtain⟨hl,h2⟩:=run h2;have hps:ps.length<=N.length:=by have:=DT List.length S.pre;rw[Dg]at this;omega
   cases he:bI (aC P k) 1000000 body (entry ⟨N.length,ps.length,body⟩ pvs)with
   | none=>rw[he]at h2;cases h2
   | some fl =>
    rw[he]at h2
    have C:bC (aC P k) (eH dg p w K mg base N x (aI st) a cdv A outer s H E).nox ⟨N,(aI st).names,F,G,B,M⟩ :=
     ⟨rfl,S.nd,rfl,S.kind,rfl,hG,hB,fun y g hy=>by
      obtain⟨a',fd',ps',d'⟩:=hF y g hy;obtain⟨z1,z2,z3⟩:=d'.def;exact⟨k,a',fd',ps',ih k (Ca k) y g a' fd' ps' d',hr,z1,z2,z3⟩,Ej,hr.units⟩
    rw[<- hbody]at he;have h3:=(wy n).ss _ _ H _ (aZ st) fl C rfl he;refine⟨_,av,h3 [] (start N vs) H _ (em rfl h1) ?_ ?_⟩
    ·show(start N vs).length=N.length
     unfold L2.start;rw[Cm,CW,DW];have:=h1.len;omega
    ·cases fl with
     | nx τ' =>
      cases h2;exact fun σ' H' O' R' _ _=>q _ _ R'.same (Rp.non.mpr rfl)
     | rt v =>
      cases h2;exact q
     | bk τ' =>cases h2
     | ct τ' =>cases h2
 exact fun k=>S k k (Ca k)
theorem zC{p:Program}{w:World}{K:W.Frag}{mg:Str->Option Value}{base:Heap}{P:Nat->Option FD}{k f:Nat}{a:Addr}{fd:FuncData}{ps:List Str}(F:aj p w K mg base dg k a fd ps (na K (aC P k f)))
  (h:∀ns:List Int,ns.length<=63->aC P k f [.lst (ns.map PV.int)]=some (.bl true)):aj p w K mg base dg k a fd ps (nZ K) :=
 F.imp fun vs H Q E z=>by
  obtain⟨l,ns,rfl,hS,h63,q⟩:=z;refine⟨[.lst (ns.map PV.int)],.bl true,.cons (Rp.lst.mpr ⟨l,_,rfl,(fun z=>by cases z),hS,aE.ints.mpr rfl⟩) .nil,h ns h63,fun u H' s r=> ?_⟩;rw[Rp.bl.mp r];exact q H'
theorem og{P:Nat->Option FD}{f n m:Nat}(h:P f=some ⟨n,m,.cons .never .nil⟩):∀(k:Nat)(vs:List PV),aC P k f vs=none
 | 0,_=>rfl
 | k+1,vs=>by
  unfold aC;rw[h,C7]
  split
  ·simp[uY,uZ,fo,fZ,fY,fg,fi,fX,fc,fm,fk,fq,ff,fj,fh,fe,c0]
  ·rfl
theorem ug{K:W.Frag}{mg:Str->Option Value}{P:Nat->Option FD}{f:Nat}{a:Addr}{fd:FuncData}{ps:List Str}{A:Program->World->Heap->Nat->Prop}(h:∀(k:Nat) (vs:List PV),aC P k f vs=none)(p:Program)(w:World)(base:Heap)(k:Nat)(_:A p w base k):aj p w K mg base dg (k+1) a fd ps (na K (aC P (k+1) f)) :=
 ⟨fun vs H Q E z=>(by obtain⟨_,_,_,z,_⟩:=z;rw[h]at z;cases z),fun A outer s H args us vs Q E _ _ _ _ z=>(by obtain⟨_,_,_,z,_⟩:=z;rw[h]at z;cases z)⟩
section
variable{K:W.Frag}{mg:Str->Option Value}{P:Nat->Option FD}{F0:List (Str×Nat)}{G0:List (Str×PV)}{B0:List Str}
theorem fnil:∀(x:Str)(f:Nat),([]:List (Str×Nat)).lookup x=some f->∃a fd ps,oa K mg P F0 G0 B0 x f a fd ps:=fun x f h=>by cases h
theorem ay{x0:Str}{f0:Nat}{r:List (Str×Nat)}(h:∃a fd ps,oa K mg P F0 G0 B0 x0 f0 a fd ps)(hr:∀(x:Str) (f:Nat),r.lookup x=some f->∃a fd ps,oa K mg P F0 G0 B0 x f a fd ps) :
  ∀(x:Str)(f:Nat),((x0,f0)::r).lookup x=some f->∃a fd ps,oa K mg P F0 G0 B0 x f a fd ps:=fun x f e=>by
 rw[DA]at e
 split at e
 ·rename_i c
  cases e;rw[Cz c];exact h
 ·exact hr x f e
theorem gnil:∀(x:Str)(v:PV),([]:List (Str×PV)).lookup x=some v->∃u w,mg x=some u/\RelV w u/\∀Hi n H,Rp K Hi n v H w:=fun x f h=>by cases h
theorem xY{x0:Str}{v0:PV}{r:List (Str×PV)}(h:∃u w,mg x0=some u/\RelV w u/\∀Hi n H,Rp K Hi n v0 H w)(hr:∀(x:Str) (v:PV),r.lookup x=some v->∃u w,mg x=some u/\RelV w u/\∀Hi n H,Rp K Hi n v H w) :
  ∀(x:Str)(v:PV),((x0,v0)::r).lookup x=some v->∃u w,mg x=some u/\RelV w u/\∀Hi n H,Rp K Hi n v H w:=fun x f e=>by
 rw[DA]at e
 split at e
 ·rename_i c
  cases e;rw[Cz c];exact h
 ·exact hr x f e
theorem bnil:∀(x:Str),([]:List Str).contains x=true->mg x=none:=fun x h=>by simp at h
theorem bU{x0:Str}{r:List Str}(h:mg x0=none)(hr:∀(x:Str),r.contains x=true->mg x=none):∀(x:Str),(x0::r).contains x=true->mg x=none:=fun x e=>by
 rw[D6,Dq]at e
 rcases e with e|e
 ·rw[Cz e]
  exact h
 ·exact hr x e
end
theorem zB{α:Type}{us:List α}(h:us.length=1):∃a,us=[a]:=by
 cases us with
 | nil=>cases h
 | cons a us=>cases us with
  | nil=>exact⟨a,rfl⟩
  | cons b us=>cases h
theorem v7{α:Type}{us:List α}(h:us.length=2):∃a b,us=[a,b]:=by
 cases us with
 | nil=>cases h
 | cons a us=>obtain⟨b,rfl⟩:=zB (Nat.succ.inj h);exact⟨a,b,rfl⟩
theorem len3{α:Type}{us:List α}(h:us.length=3):∃a b c,us=[a,b,c]:=by
 cases us with
 | nil=>cases h
 | cons a us=>obtain⟨b,c,rfl⟩:=v7 (Nat.succ.inj h);exact⟨a,b,c,rfl⟩
theorem kx{set:PV->En->Option En}{body:En->Option Fl}(I:Nat->En->Prop)(R:Fl->Prop):∀(xs ys:List PV)(τ:En),I xs.length τ ->
  (∀(i:Nat)(x:PV)(τ:En),(xs++ys)[i]? =some x->xs.length<=i->I i τ->∃τ1 f,set x τ=some τ1/\body τ1=some f/\(match f with| .nx τ2=>I (i+1) τ2| .ct τ2=>I (i+1) τ2| .bk τ2=>R (.nx τ2)| .rt v=>R (.rt v))) ->
  (∀τ,I (xs++ys).length τ->R (.nx τ))->∃fl,gh set body ys τ=some fl/\R fl
 | xs,[],τ,h0,hs,he=>⟨.nx τ,rfl,he τ (by rw[Do];exact h0)⟩
 | xs,y::ys,τ,h0,hs,he=>by
  obtain⟨τ1,f,h1,h2,h3⟩:=hs xs.length y τ (by simp) (Ca _) h0;have e:xs++y::ys=(xs++[y])++ys:=by simp
  have ih:=fun τ2 (h:I (xs.length+1) τ2)=>kx (set:=set) (body:=body) I R (xs++[y]) ys τ2 (by rw[Cm];exact h) (fun i x τ hx hi=>hs i x τ (by rw[e];exact hx) (by rw[Cm]at hi;omega)) (by rw[<- e];exact he);unfold gh;rw[h1];dsimp only[Option.bind];rw[h2];cases f with
  | nx τ2=>exact ih τ2 h3
  | ct τ2=>exact ih τ2 h3
  | bk τ2=>exact⟨_,rfl,h3⟩
  | rt v=>exact⟨_,rfl,h3⟩
theorem wN{set:PV->En->Option En}{body:En->Option Fl}{xs:List PV}{τ:En}(I:Nat->En->Prop)(R:Fl->Prop)(h0:I 0 τ)
  (hs:∀(i:Nat)(x:PV)(τ:En),xs[i]? =some x->I i τ->∃τ1 f,set x τ=some τ1/\body τ1=some f/\(match f with| .nx τ2=>I (i+1) τ2| .ct τ2=>I (i+1) τ2| .bk τ2=>R (.nx τ2)| .rt v=>R (.rt v)))
  (he:∀τ,I xs.length τ->R (.nx τ)):∃fl,gh set body xs τ=some fl/\R fl :=
 kx I R [] xs τ h0 (fun i x τ hx _ hI=>hs i x τ hx hI) he
theorem ak{f:PV->Option (Option (PV×Bool))}{g:PV->PV}{n:Bool}:∀{xs:List PV},(∀x∈xs,f x=some (some (g x,true)))->bN f xs=some (xs.map g,true)
 | [],_=>rfl
 | x::xs,h=>by
  unfold bN;rw[h x Cv,ak (n:=n) fun y hy=>h y (Cj _ hy)];rfl
section
variable{v:PV}{n m:Bool}{xs ys:List PV}{i j:Int}{z y:Str}{a b:RV}{τ:En}{t:TV}{k:Nat}
theorem bB:(RV.frz v n).val=v:=rfl
theorem uh:(RV.own xs n).val=.lst xs:=rfl
theorem sx:(RV.frz v n).keep=some (v,n):=rfl
theorem sv:(RV.own xs n).keep=some (.lst xs,n):=rfl
theorem v5:dR (.lst xs)=some xs.length:=rfl
theorem vz:dR (.tup xs)=some xs.length:=rfl
theorem len_str:dR (.str z)=if z.length<=LN then some z.length else none:=rfl
theorem wP:c0 (some (.rt v))=some v:=rfl
theorem zU:ml (.frz v n::τ) 0=some (.frz v n):=rfl
theorem zV:ml (t::τ) (k+1)=ml τ k:=rfl
theorem tM:bD [] τ=τ:=rfl
theorem pV{c:List Nat}:bD (k::c) τ=bD c (jm τ k):=rfl
theorem wL:jm (.own xs n::τ) 0=.frz (.lst xs) n::τ:=rfl
theorem wM:jm (.frz v n::τ) 0=.frz v n::τ:=rfl
theorem zW:jm (t::τ) (k+1)=t::jm τ k:=by
 unfold jm;rw[Dz];cases τ[k]? with
 | none=>rfl
 | some t=>cases t<;>rfl
theorem wr:bX .Add (.frz (.int i) n) (.frz (.int j) m)=some (sc (.int (i+j))):=rfl
theorem wj:bX .Sub (.frz (.int i) n) (.frz (.int j) m)=some (sc (.int (i-j))):=rfl
theorem wl:bX .Mult (.frz (.int i) n) (.frz (.int j) m)=if(-(2^64)<i/\i<2^64)\/(-(2^64)<j/\j<2^64)then some (sc (.int (i*j)))else if i.natAbs<2^2000/\j.natAbs<2^2000 then some (sc (.int (i*j)))else none:=rfl
theorem wo:bX .FloorDiv (.frz (.int i) n) (.frz (.int j) m)=if 0<j/\j<2^200 then some (sc (.int (i/j)))else none:=rfl
theorem wn:bX .Mod (.frz (.int i) n) (.frz (.int j) m)=if 0<j then some (sc (.int (i%j)))else none:=rfl
theorem wk:bX .LShift (.frz (.int i) n) (.frz (.int j) m)=if 0<=j/\j<=1000000/\i.natAbs<2^64 then some (sc (.int (i*2^j.toNat)))else none:=rfl
theorem wq:bX .Add (.frz (.str z) n) (.frz (.str y) m)=if z.length+y.length<=LN then some (sc (.str (z++y)))else none:=rfl
theorem zt:bE .Lt (.int i) (.int j)=some (decide (i<j)):=rfl
theorem zu:bE .GtE (.int i) (.int j)=some (decide (j<=i)):=rfl
theorem wX:bE .Eq (.int i) (.int j)=some (decide (i=j)):=rfl
theorem wW:bE .Eq (.str z) (.str y)=some (decide (z=y)):=rfl
end
section
variable{cd:Nat->List PV->Option PV}{fu:Nat}{s:IS}{ss:qK}{τ τ1:En}{v:PV}
end
theorem ik{cd:Nat->List PV->Option PV}{fu:Nat}{s:IS}{ss:qK}{τ:En}:bI cd fu (.cons s ss) τ=(eG cd fu s τ).bind fun f=>gF f (bI cd fu ss):=by simp only[uY,uZ]
theorem tR{cd:Nat->List PV->Option PV}{fu:Nat}{τ:En}:bI cd fu .nil τ=some (.nx τ):=by simp only[uY,uZ]
theorem run{P:Nat->Option FD}{k f:Nat}{d:FD}{vs:List PV}{r:PV}(hP:P f=some d)(hl:vs.length=d.np)(h:c0 (bI (aC P k) 1000000 d.body (entry d vs))=some r):aC P (k+1) f vs=some r:=by
 show(P f).bind _=_;rw[hP];show(if vs.length=d.np then _ else _)=_;rw[Cd hl];exact h
section
variable{a b:RV}{t:String}{n m:Bool}{xs ys:List PV}{i j:Int}{bl:Bool}
theorem jE{τ:En}{k:En->Option Fl}:gF (.nx τ) k=k τ:=rfl
theorem uq{v:PV}{k:En->Option Fl}:gF (.rt v) k=some (.rt v):=rfl
theorem qm:j9 (.bl bl)=some bl:=rfl
theorem uB:fQ (.bl bl)=some bl:=rfl
theorem vD:iU (.frz (.lst xs) n)=some (xs,n,false):=rfl
theorem vB:iU (.frz (.tup xs) n)=some (xs,n,false):=rfl
theorem vC:iU (.own xs n)=some (xs,n,false):=rfl
theorem BF{τ:En}{k:Nat}:jP true k (.own xs n) τ=some (τ.set k (.own xs n)):=rfl
theorem yW{τ:En}{k:Nat}:jP false k (.own xs n) τ=some (τ.set k (.frz (.lst xs) n)):=rfl
theorem yX{τ:En}{k:Nat}{o:Bool}{v:PV}:jP o k (.frz v n) τ=some (τ.set k (.frz v n)):=by cases o<;>rfl
theorem yA:hV (.lst xs)=.own xs true:=rfl
theorem xy:hV (.tup xs)=.frz (.tup xs) true:=rfl
theorem yB:hV (.int i)=.frz (.int i) true:=rfl
theorem yC:hV (.bl bl)=.frz (.bl bl) true:=rfl
theorem xz:hV .non=.frz .non true:=rfl
theorem AD:i9 .len [a]=(dR a.val).map fun n=>sc (.int (n:Nat)):=rfl
theorem wv:i9 .int [.frz (.bl bl) n]=some (sc (.int (if bl then 1 else 0))):=rfl
theorem wu:i9 (.isin t) [a]=(dL t a.val).map fun b=>sc (.bl b):=rfl
theorem uJ:i9 .list [.frz (.tup xs) n]=some (.own xs n):=rfl
theorem uK:i9 .list [.frz (.lst xs) n]=some (.own xs n):=rfl
theorem pq:i9 .tuple [.own xs n]=some (.frz (.tup xs) n):=rfl
theorem px:i9 .tuple [.frz (.lst xs) n]=some (.frz (.tup xs) n):=rfl
theorem AE:i9 .all [.own xs n]=(eM xs).map fun bs=>sc (.bl (bs.all id)):=rfl
theorem AB:i9 .min [.frz (.int i) n,.frz (.int j) m]=some (sc (.int (if j<i then j else i))):=rfl
theorem AC:i9 .max [.frz (.int i) n,.frz (.int j) m]=some (sc (.int (if j>i then j else i))):=rfl
theorem uH:i9 .sorted [.own xs n]=gL xs:=rfl
theorem uI:i9 .sorted [.frz (.lst xs) n]=gL xs:=rfl
theorem pK:jY .count (.frz (.str z) n) [.frz (.str y) m]=some (sc (.int (Txt.count z y))):=rfl
theorem ix_L(k:Int):index (.frz (.lst xs) n) (.frz (.int k) m)=(cO xs k).map fun e=>.frz e (n||imm e):=rfl
theorem ix_T(k:Int):index (.frz (.tup xs) n) (.frz (.int k) m)=(cO xs k).map fun e=>.frz e (n||imm e):=rfl
theorem ix_O(k:Int):index (.own xs n) (.frz (.int k) m)=(cO xs k).map fun e=>.frz e (n||imm e):=rfl
theorem ix_S(k:Int)(z:Str):index (.frz (.str z) n) (.frz (.int k) m)=if z.length<=LN then(cO z.cps.toList k).map fun c=>sc (.str ⟨#[c]⟩)else none:=rfl
end
theorem kl{i:Int}:dL "int" (.int i)=some true:=by simp[dL]
theorem je{i:Int}:dL "bool" (.int i)=some false:=by simp[dL]
theorem kj{i:Int}:dL "str" (.int i)=some false:=by simp[dL]
theorem ki{z:Str}:dL "str" (.str z)=some true:=by simp[dL]
theorem jd{i:Int}:dL "list" (.int i)=some false:=by simp[dL]
theorem jb{z:Str}:dL "list" (.str z)=some false:=by simp[dL]
theorem jc{xs:List PV}:dL "list" (.lst xs)=some true:=by simp[dL]
theorem iG{i:Int}:dL "tuple" (.int i)=some false:=by simp[dL]
theorem iE{z:Str}:dL "tuple" (.str z)=some false:=by simp[dL]
theorem iF{xs:List PV}:dL "tuple" (.lst xs)=some false:=by simp[dL]
theorem iD{xs:List PV}:dL "tuple" (.tup xs)=some true:=by simp[dL]
theorem nA  :bE .Is .non .non=some true:=rfl
theorem iI  :bE .IsNot .non .non=some false:=rfl
theorem nC{i:Int}:bE .Is (.int i) .non=some false:=rfl
theorem mz{z:Str}:bE .Is (.str z) .non=some false:=rfl
theorem nB{xs:List PV}:bE .Is (.lst xs) .non=some false:=rfl
theorem my{xs:List PV}:bE .Is (.tup xs) .non=some false:=rfl
theorem iH{xs:List PV}:bE .IsNot (.tup xs) .non=some true:=rfl
noncomputable def To(o:Option Fl)(Q:Fl->Prop):Prop:=∃f,o=some f/\Q f
theorem uo{f:Fl}{Q:Fl->Prop}:To (some f) Q↔Q f:=⟨fun⟨g,e,h⟩=>by cases e;exact h,fun h=>⟨f,rfl,h⟩⟩
theorem To.imp{o:Option Fl}{Q Q' :Fl->Prop}(h:To o Q)(k:∀f,Q f->Q' f):To o Q' :=by
 obtain⟨f,e,q⟩:=h;exact⟨f,e,k f q⟩
theorem fH{P:Nat->Option FD}{k f:Nat}{d:FD}{vs:List PV}{Q:PV->Prop}(hP:P f=some d)(hl:vs.length=d.np)(h:To (bI (aC P k) 1000000 d.body (entry d vs)) fun fl=>∃v,c0 (some fl)=some v/\Q v):∃v,aC P (k+1) f vs=some v/\Q v:=by
 obtain⟨fl,e,v,h1,h2⟩:=h;exact⟨v,run hP hl (by rw[e];exact h1),h2⟩
theorem fJ{P:Nat->Option FD}{k f:Nat}{d:FD}{vs:List PV}{r:PV}(hP:P f=some d)(hl:vs.length=d.np)(h:To (bI (aC P k) 1000000 d.body (entry d vs)) fun fl=>c0 (some fl)=some r):aC P (k+1) f vs=some r:=by
 obtain⟨fl,e,h1⟩:=h;exact run hP hl (by rw[e];exact h1)
section
variable{cd:Nat->List PV->Option PV}{fu:Nat}{τ:En}{cap:List Nat}{e e2:IE}{i j:Nat}{o one:Bool}{is:List Nat}{c:IC}{a b body:qK}{src:IT}
theorem eh:eG cd fu (.asg i o cap e) τ=(aU cd e (bD cap τ)).bind fun r=>(jP o i r (bD cap τ)).map .nx:=by simp only[fo,fZ,fY,fg,fi,fX,fc,fm,fk,fq,ff,fj,fh,fe]
theorem mn:eG cd fu (.ret cap e) τ=(aU cd e (bD cap τ)).bind fun r=>r.keep.bind fun(v,n)=>if n then some (.rt v)else none:=by simp only[fo,fZ,fY,fg,fi,fX,fc,fm,fk,fq,ff,fj,fh,fe]
theorem zd:eG cd fu (.ife c a b) τ=(dS cd c τ).bind fun r=>if r then bI cd fu a τ else bI cd fu b τ:=by simp only[fo,fZ,fY,fg,fi,fX,fc,fm,fk,fq,ff,fj,fh,fe]
noncomputable def rK(i:Nat)(v:PV)(m:Bool)(τ:En):Option Fl:=match τ[i]? with
  | some (.own xs n)=>if xs.length<LN then some (.nx (τ.set i (.own (xs++[v]) (n&&m))))else none
  | _=>none
theorem ze:eG cd fu (.app i cap e) τ=(aU cd e (bD cap τ)).bind fun r=>r.keep.bind fun(v,m)=>rK i v m (bD cap τ):=by simp only[fo,fZ,fY,fg,fi,fX,fc,fm,fk,fq,ff,fj,fh,fe];rfl
theorem kL{v:PV}{n m:Bool}{xs:List PV}(h:τ[i]? =some (.own xs n))(hz:xs.length<LN):rK i v m τ=some (.nx (τ.set i (.own (xs++[v]) (n&&m)))):=by
 unfold rK;rw[h];exact Cd hz
theorem bw{xs:List PV}{n:Bool}{k:En->Option Fl}{Q:Fl->Prop}(ht:jy cd src (bD cap τ)=some (xs,n,false))(I:Nat->En->Prop)(h0:I 0 (bD cap τ))
  (hs:∀(i:Nat)(x:PV)(τ:En),xs[i]? =some x->I i τ->∃τ1,jK is one n x τ=some τ1/\To (bI cd fu body τ1) fun f=>match f with| .nx τ2=>I (i+1) τ2| .ct τ2=>I (i+1) τ2| .bk τ2=>To (k τ2) Q| .rt v=>Q (.rt v))
  (hk:∀τ',I xs.length τ' ->To (k τ') Q):To ((eG cd fu (.forr is one cap src body) τ).bind fun f=>gF f k) Q:=by
 obtain⟨fl,e,h⟩:=wN (set:=jK is one n) (body:=fun τ=>bI cd fu body τ) (xs:=xs) (τ:=bD cap τ) I (fun fl=>To (gF fl k) Q) h0 (fun i x τ hx hI=>by
  obtain⟨τ1,h1,f,h2,h3⟩:=hs i x τ hx hI;refine⟨τ1,f,h1,h2,?_⟩;cases f with
  | nx τ2=>exact h3
  | ct τ2=>exact h3
  | bk τ2=>exact h3
  | rt v=>exact⟨_,rfl,h3⟩) hk
 have e2:eG cd fu (.forr is one cap src body) τ=some fl:=by
  simp only[fo,fZ,fY,fg,fi,fX,fc,fm,fk,fq,ff,fj,fh,fe,ht,C7];exact e
 rw[e2];exact h
end
theorem bF:∀l:List Str,imms (l.map PV.str)=true
 | []=>rfl
 | x::l=>by rw[Cq,imms,bF l];rfl
theorem ko{α:Type}{f:α->PV}(h:∀x,imm (f x)=true):∀l:List α,imms (l.map f)=true
 | []=>rfl
 | x::l=>by rw[Cq,imms,ko h l,h x];rfl
theorem uG{n m:Bool}{xs ys:List PV}:bX .Add (.frz (.tup xs) n) (.frz (.tup ys) m)=jX (xs++ys) (n&&m):=rfl
theorem uF{n m:Bool}{z:Str}{k:Int}:bX .Mult (.frz (.str z) n) (.frz (.int k) m)=if 0<=k/\k<=1000/\z.length=1 then some (sc (.str ⟨(List.replicate k.toNat z.cps.toList).flatten.toArray⟩))else none:=rfl
theorem zN:km none=some none:=rfl
theorem zM{n:Bool}{i:Int}:km (some (.frz (.int i) n))=some (some i):=rfl
theorem qy{n:Bool}{z:Str}{k:Int}:slice (.frz (.str z) n) none (some k)=if z.length<=LN then(if 0<=k then some (sc (.str ⟨(z.cps.toList.take k.toNat).toArray⟩))else none)else none:=rfl
theorem qx{n:Bool}{z:Str}{k:Int}:slice (.frz (.str z) n) (some k) none=if z.length<=LN then(if 0<=k then some (sc (.str ⟨(z.cps.toList.drop k.toNat).toArray⟩))else none)else none:=rfl
theorem ux{n:Bool}{xs:List PV}{lo hi:Option Int}:slice (.frz (.tup xs) n) lo hi=if HT.aw xs.length 0 lo=0/\HT.aw xs.length xs.length hi=xs.length then some (.frz (.tup xs) n)else some (.frz (.tup (cut xs lo hi)) n):=rfl
theorem wT{α:Type}(xs:List α)(k:Nat):cut xs none (some (k:Int))=xs.take k:=by
 unfold cut;rw[HT.kI,HT.ng,List.drop_zero,Nat.sub_zero]
 rcases Nat.le_total k xs.length with h|h
 ·rw[Nat.min_eq_left h]
 ·rw[Nat.min_eq_right h,Db (Ca _),Db h]
theorem wS{α:Type}(xs:List α)(k:Nat):cut xs (some (k:Int)) none=xs.drop k:=by
 unfold cut;rw[HT.kI,HT.ng]
 rcases Nat.le_total k xs.length with h|h
 ·rw[Nat.min_eq_left h,Db (by rw[Dy];omega)]
 ·rw[Nat.min_eq_right h,Nat.sub_self,List.take_zero,EM h]
theorem gv(P:Nat->Option FD)(k f:Nat)(vs:List PV):aC P (k+1) f vs=(P f).bind fun d=>if vs.length=d.np then c0 (bI (aC P k) 1000000 d.body (entry d vs))else none:=rfl
section
variable{cd:Nat->List PV->Option PV}{fu:Nat}{τ:En}{e e2:IE}{i:Nat}
noncomputable def setO(i:Nat)(k v:PV)(m:Bool)(τ:En):Option Fl:=match k,τ[i]? with
  | .int j,some (.own xs n)=>(L2.wA xs.length j).map fun q=>.nx (τ.set i (.own (xs.set q v) (n&&m)))
  | y,some (.owd (.dK ks) xs n)=>(eC y).bind fun k=>if xs.length<LN then some (.nx (τ.set i (.owd (.dK (BH ks k)) (putL ks xs k v) (n&&m))))else none
  | _,_=>none
end
theorem uE{n m:Bool}{xs:List PV}{k:Int}:bX .Mult (.own xs n) (.frz (.int k) m)=if 0<=k/\k<=1000000/\xs.length*k.toNat<=LN then some (.own (List.replicate k.toNat xs).flatten n)else none:=rfl
theorem wV{xs ys:List PV}:bE .NotEq (.lst xs) (.lst ys)=(if gl 12 (.lst xs)&&gl 12 (.lst ys)then some (oO (.lst xs) (.lst ys))else none).map (!·):=rfl
theorem bo{n i:Nat}{x:PV}(h:((List.range n).map fun i=>PV.int (0+(i:Nat)))[i]? =some x):i<n/\x=.int (i:Nat):=by
 rw[Cp]at h
 by_cases hi:i<n
 ·rw[DO hi]at h
  refine⟨hi,?_⟩;have:=(Cw h).symm
  simpa using this
 ·rw[List.getElem?_eq_none (by simpa using hi)]at h
  cases h
theorem dr{n:Nat}:((List.range n).map fun i=>PV.int (0+(i:Nat))).length=n:=by simp
theorem oP{xs:List PV}{i:Nat}{x:PV}(h:(List.zipWith bt (List.range xs.length) xs)[i]? =some x):∃y,xs[i]? =some y/\x=bt i y:=by
 rw[Dk]at h;cases e:xs[i]? with
 | none=>rw[e]at h;cases hh:(List.range xs.length)[i]? <;>rw[hh]at h<;>cases h
 | some y =>
  rw[e]at h;have hi:i<xs.length:=(Ch.mp e).1;rw[DO hi]at h;exact⟨y,rfl,(Cw h).symm⟩
theorem n9(c d:Nat):decide ((⟨#[c]⟩:Str)=⟨#[d]⟩)=decide (c=d):=by
 by_cases h:c=d
 ·subst h;simp
 ·rw[C5 h,C5]
  intro e;have:=DT (fun z:Str=>z.cps.toList) e;simp at this;exact h this
theorem jo(c:Nat):decide ((⟨#[c]⟩:Str)="x")=(c==120):=by
 have:=n9 c 120;rw[show(⟨#[120]⟩:Str)="x" from rfl]at this;rw[this];rfl
theorem cf{α:Type}{f:PV->Option (Option (PV×Bool))}{h:α->PV}{p:α->Bool}{g:α->PV}:∀{l:List α},(∀x∈l,f (h x)=some (if p x then some (g x,true)else none))->bN f (l.map h)=some ((l.filter p).map g,true)
 | [],_=>rfl
 | x::xs,k=>by
  rw[Cq];unfold bN;rw[k x Cv,cf fun y hy=>k y (Cj _ hy)];cases e:p x
  ·simp[List.filter_cons,e]
  ·simp[List.filter_cons,e]
theorem Bl(n:Nat):(List.replicate n [PV.int 0]).flatten=(List.range n).map fun _=>PV.int 0:=by
 induction n with
 | zero=>rfl
 | succ n ih=>rw[List.replicate_succ',List.flatten_concat,ih,List.range_succ,Dm];rfl
theorem jM{i:Int}{n j:Nat}{x:PV}(h:((List.range n).map fun k=>PV.int (i+(k:Nat)))[j]? =some x):j<n/\x=.int (i+(j:Nat)):=by
 rw[Cp]at h
 by_cases hj:j<n
 ·rw[DO hj]at h
  exact⟨hj,(Cw h).symm⟩
 ·rw[List.getElem?_eq_none (by simpa using hj)]at h
  cases h
noncomputable abbrev uN:=List (Int×Int)
noncomputable def getT(c:uN)(k:Int):Option Int:=(c.find? fun p=>decide (p.1=k)).map (·.2)
noncomputable def BG(c:uN)(k v:Int):uN:=if(c.any fun p=>decide (p.1=k))=true then c.map (fun p=>if p.1=k then(p.1,v)else p)else c++[(k,v)]
theorem gg:∀ns:List Int,ag (ns.map PV.int)=some ns
 | []=>rfl
 | n::ns=>by rw[Cq,ag,gg ns];rfl
section
variable{X:Cx}{Hi:Hp}{τ:En}{cd:Nat->List PV->Option PV}{ct:Ct}{O:List Addr}{σ:L2.St}{H H' :Hp}{D:cj}
theorem tO(C:bC cd X ct)(hfn:X.fn=fun _=>true){x:Str}{i n:Nat}{it:Expr}{it' :IT}{body:List Stmt}{xp pos:Pos}{xs:List PV}{k:Bool}(hx:loc ct x=some i)(ti:qH n ct false it=it')(hi:jy cd it' τ=some (xs,k,false))
  (R:aX X.K Hi O τ σ H) (hl:σ.length=X.N.length) (W:Nat->En->L2.St->Hp->Prop) (wm:∀j υ σ' G G',aA G G' ->W j υ σ' G->W j υ σ' G') (w0:W 0 τ σ H)
  (step:∀(j:Nat)(y:PV)(υ:En)(σ' :L2.St)(G:Hp)(u:V)(D' :cj),xs[j]? =some y->aX X.K Hi O (υ.set i (.frz y (k||imm y))) (σ'.set i (some u)) G->(σ'.set i (some u)).length=X.N.length->W j υ σ' G ->
   (∀(υ2:En)(σ2:L2.St)(G2:Hp),aX X.K Hi O υ2 σ2 G2->σ2.length=X.N.length->aA (aN G O) (aN G2 O)->W (j+1) υ2 σ2 G2->D'.nx σ2 G2)->WSs X body D' (σ'.set i (some u)) G)
  (fin:∀(υ:En)(σ' :L2.St)(G:Hp),aX X.K Hi O υ σ' G->σ'.length=X.N.length->aA (aN H O) (aN G O)->W xs.length υ σ' G->D.nx σ' G):WS X (.For (.Name x xp) it body [] pos) D σ H:=by
 obtain⟨h1,h2,h3,h4⟩:=eY C hx;rw[<- ti]at hi;obtain⟨fz,hset⟩:=(cu n).t X ct Hi τ false it (.Name x xp) xs k false C (fun z=>by cases z) hi;refine ws (rQ C.xe C.calm vZ (dH (by rw[C.N];exact C.nd) h1 h2 (.inl (by rw[hfn]))) av (fx hset)) ?_;refine fz O σ H _ R fun J H1 sJ En=> ?_;rw[Ci Cg]at En;refine⟨fun j m σ' G=>m=xs.length-j/\j<=xs.length/\∃υ:IR.En,aX X.K Hi O υ σ' G/\σ'.length=X.N.length/\aA (aN H1 O) (aN G O)/\W j υ σ' G,⟨xs.length,by simp,DH _,_,R.ext sJ,hl,aA.refl _,wm _ _ _ _ _ sJ w0⟩,?_⟩;rintro j m σ' G ⟨rfl,hj,υ,RP,hlP,sP,w⟩;have xT:xA (aN H1 O) G O:=⟨RP.lsts,sP⟩;have s01:aA (aN H O) (aN H1 O):=aF sJ
 by_cases hlt:j<xs.length
 ·refine .inr ⟨En.go G O j xT hlt,fun σ2 G2=>∃m',m' <xs.length-j/\(m' =xs.length-(j+1)/\j+1<=xs.length/\∃υ:IR.En,aX X.K Hi O υ σ2 G2/\σ2.length=X.N.length/\aA (aN H1 O) (aN G2 O)/\W (j+1) υ σ2 G2),
   fun σ2 G2 h=>h,fun u G' y=> ?_⟩
  obtain⟨sG,z,hz,rz⟩:=En.yld G O j u G' xT hlt y;have s3:aA (aN H1 O) (aN G' O):=sP.trans (aF sG);have hi' :i<σ'.length:=by rw[hlP];exact(Ch.mp h1).1
  exact step j z υ σ' G' u _ hz ((RP.ext sG).setF hi' rz.up) (by rw[DM];exact hlP) (wm _ _ _ _ _ sG w) fun υ2 σ2 G2 R2 hl2 s2 w2=>⟨_,by omega,rfl,hlt,υ2,R2,hl2,s3.trans s2,w2⟩
 ·have e:j=xs.length:=by omega
  subst e;exact .inl ⟨En.stop G O xT,fin υ σ' G RP hlP (s01.trans sP) w⟩
theorem sN(C:bC cd X ct)(hfn:X.fn=fun _=>true){n fu:Nat}{st:Stmt}{s' :IS}{τ' :En}(ts:lb n ct st=s')(h:eG cd fu s' τ=some (.nx τ'))(R:aX X.K Hi O τ σ H)(hl:σ.length=X.N.length)(q:lh X Hi O H τ' D.nx):WS X st D σ H:=by
 subst ts;exact(wy n).s X ct Hi τ st _ C hfn h O σ H D R hl q
theorem A8(C:bC cd X ct)(hfn:X.fn=fun _=>true){n fu:Nat}{st:Stmt}{s' :IS}{v:PV}(ts:lb n ct st=s')(h:eG cd fu s' τ=some (.rt v))(R:aX X.K Hi O τ σ H)(hl:σ.length=X.N.length)(q:∀u H',aA Hi H' ->Rp X.K Hi true v H' u->D.rt u H'):WS X st D σ H:=by
 subst ts;exact(wy n).s X ct Hi τ st _ C hfn h O σ H D R hl q
theorem e_w(C:bC cd X ct){n:Nat}{e:Expr}{e' :IE}{r:RV}{Q:VK}(te:ac n ct e=e')(h:aU cd e' τ=some r)(R:aX X.K Hi O τ σ H)(q:∀u H',aA H H' ->aT X.K Hi O H H' r u->Q u H'):WE X e σ H Q:=by
 subst te;exact(cu n).e X ct Hi τ e r C h O σ H Q R q
theorem eA{α:Type}{l:List α}{i j:Nat}{x:α}(h:l.Nodup)(hi:l[i]? =some x)(hj:l[j]? =some x):i=j:=by
 obtain⟨a,b⟩:=Ch.mp hi;obtain⟨c,d⟩:=Ch.mp hj;exact(List.getElem_inj h).mp (b.trans d.symm)
end
end IR
namespace IR
open PySem
noncomputable def yL{α:Type}(l:List α)(f:α->Int):Int:=(l.map f).sum
noncomputable def cnt:List (List Nat)->List Nat->Nat->Int
 | [],_,0=>1
 | [],_,_+1=>0
 | _::rs,T,0=>cnt rs T 0
 | r::rs,T,k+1=>cnt rs T (k+1)+yL (r.filter fun c=> !T.contains c) fun c=>cnt rs (c::T) k
noncomputable def Cols(rows:List (List Nat)):Prop:=∀r∈rows,∀c∈r,c<8
noncomputable abbrev fF:=Nat×Nat
noncomputable def AH(cells:List fF)(k:Nat):List fF:=(cells.drop (k+1)).filter fun c=>decide ((cells.getD k (0,0)).1<c.1)
noncomputable def pl:Nat->List fF->List Int->Nat->Int
 | _,_,_,0=>1
 | 0,_,_,_+1=>0
 | n+1,cells,T,j+1=>yL (List.range cells.length) fun k=>if T.contains ((cells.getD k (0,0)).2:Int)then 0 else pl n (AH cells k) (T++[((cells.getD k (0,0)).2:Int)]) j
noncomputable def il(z:Str):List Nat:=(List.range z.length).filter fun c=>z.cps.toList.getD c 0==120
noncomputable def att(a b:fF):Bool:=a.1==b.1||a.2==b.2
noncomputable def pF(x:fF)(l:List fF):List fF:=l.filter fun y=> !att x y
noncomputable def A4(f:fF->List fF->Int):List fF->Int
 | []=>0
 | x::xs=>f x xs+A4 f xs
noncomputable def rk:Nat->List fF->Int
 | 0=>fun _=>1
 | k+1=>A4 fun x xs=>rk k (pF x xs)
noncomputable def freeC(T:List Nat)(l:List fF):List fF:=l.filter fun c=> !T.contains c.2
end IR
namespace IR
open PySem L2
noncomputable def bk(w j:Nat):Nat:=if j<w then w-1-j else j
noncomputable def ch:Nat->Nat->Nat
 | _,0=>1
 | 0,_+1=>0
 | n+1,k+1=>ch n (k+1)+ch n k
noncomputable def fl:Nat->Nat->Nat
 | _,0=>1
 | n,k+1=>n*fl (n-1) k
noncomputable def fn(m n k:Nat):Int:=((ch m k*fl n k:Nat):Int)
section
variable(b:Nat->Nat->Bool)
noncomputable def fz:List Nat->List Nat->Nat->Int
 | [],_,j=>if j=0 then 1 else 0
 | i::L,C,j=>yL C fun c=>if b i c then(if j=0 then 0 else fz L (C.erase c) (j-1))else fz L (C.erase c) j
noncomputable def hcN(i:Nat)(t:List Nat):Nat:=((List.range i).filter fun l=>b l (t.getD l 0)).length
end
end IR
namespace IR
end IR
namespace IR
end IR
namespace IR
open PySem L2
noncomputable def fG(w s:Nat):Str:=⟨(List.replicate s 120++List.replicate (w-s) 46).toArray⟩
theorem uu{w s:Nat}(h:s<=w):(fG w s).length=w:=by
 show(List.toArray _).size=w;simp;omega
theorem yK{w s j:Nat}(h:s<=w)(hj:j<w):(fG w s).cps.toList.getD j 0=if j<s then 120 else 46:=by
 show(List.replicate s 120++List.replicate (w-s) 46).getD j 0=_;rw[List.getD,List.getElem?_append,DW]
 split
 ·rename_i q
  rw[EJ,Cd q];rfl
 ·rename_i q
  rw[EJ,Cd (by omega)];rfl
theorem ue{sizes:List Nat}{w:Nat}(hw:∀s∈sizes,s<=w):Wd (sizes.map (fG w)) w:=fun z hz=>by
 obtain⟨s,hs,rfl⟩:=DY.mp hz;exact uu (hw s hs)
noncomputable def eV(sizes:List Nat):List Nat:=List.replicate (8-sizes.length) 0++sizes
theorem rm{sizes:List Nat}(h:sizes.length<=8):(eV sizes).length=8:=by
 unfold eV;rw[Cm,DW];omega
end IR
namespace IR
open PySem
end IR
namespace L2
open SQ
end L2
namespace OD
section
variable{α:Type}[DecidableEq α](ok:List α->α->Bool)
noncomputable def cnt:List α->List α->Nat->Nat
 | _,_,0=>1
 | _,[],_+1=>0
 | b,c::L,m+1=>(if ok b c then cnt (b++[c]) L m else 0)+cnt b L (m+1)
noncomputable def unr:List α->List α->Nat->Nat->List α
 | _,_,0,_=>[]
 | _,[],_+1,_=>[]
 | b,c::L,m+1,n=>if ok b c then(if n<cnt ok (b++[c]) L m then c::unr (b++[c]) L m n else unr b L (m+1) (n-cnt ok (b++[c]) L m))else unr b L (m+1) n
variable{ok}
variable(lt:α->α->Bool)
variable{lt}
end
end OD
namespace OD
section
variable{α:Type}[DecidableEq α]{ok:List α->α->Bool}{lt:α->α->Bool}
noncomputable def turn(ok:List α->α->Bool)(nb:List α->Int)(s:List α×Int)(c:α):List α×Int :=
 if ok s.1 c then(if s.2<nb (s.1++[c])then(s.1++[c],s.2)else(s.1,s.2-nb (s.1++[c])))else s
end
end OD
namespace IR
open PySem
noncomputable def xT(b:List (Int×Int))(c:Int×Int):Bool:=(b.all fun x=>decide (x.1<c.1))&&(b.all fun x=>decide (x.2≠c.2))
section
variable{rows:List (List Nat)}(hr:∀cs∈rows,cs.Pairwise (·<·))
end
end IR
namespace OD
section
variable{α:Type}[DecidableEq α]{ok:List α->α->Bool}
noncomputable def fs{β:Type}(f:Nat->Option β):Nat->Option β
 | 0=>none
 | n+1=>(f n).or (fs f n)
noncomputable def tr(ok:List α->α->Bool):List α->List α->List α->Nat->Option (List α)
 | _,_,[],_=>none
 | _,[],_::_,_=>none
 | b,c::L,x::p,0=>if x=c then(if 0<cnt ok b L (p.length+1)then some (unr ok b L (p.length+1) 0)else none)else tr ok b L (x::p) 0
 | b,c::L,x::p,i+1=>if x=c then(tr ok (b++[c]) L p i).map (c::·)else tr ok b L (x::p) (i+1)
end
end OD
namespace IR
open PySem
noncomputable def chR(C:List (List Int))(r:Int):List Int:=C.getD r.toNat []
noncomputable def tkL(rec:uN->Int->List Int->Bool×uN×List Int)(row:Int):List Int->uN->List Int->Bool×uN×List Int
 | [],H,T=>(false,H,T)
 | c::cs,H,T=>if T.contains c then tkL rec row cs H T else match getT H c with
  | none=>(true,BG H c row,T++[c])
  | some r=>match rec H r (T++[c])with
   | (true,H',T')=>(true,BG H' c row,T')
   | (false,H',T')=>tkL rec row cs H' T'
noncomputable def tk(C:List (List Int)):Nat->uN->Int->List Int->Bool×uN×List Int
 | 0,H,_,T=>(false,H,T)
 | n+1,H,row,T=>tkL (tk C n) row (chR C row) H T
noncomputable def hd(C:List (List Int)):Nat->uN
 | 0=>[]
 | k+1=>(tk C 9 (hd C k) (k:Nat) []).2.1
section
variable{C:List (List Int)}{H:uN}{n k:Nat}{R Q:List Int}
end
section
variable{rows:List (List Nat)}(hc:Cols rows)(hr:∀cs∈rows,cs.Pairwise (·<·))
include hr
end
theorem iS:∀{xs:List PV}{rows:List Str},au xs=some rows->xs=rows.map PV.str:=by
 intro xs
 induction xs with
 | nil=>intro rows h;cases h;rfl
 | cons x xs ih =>
  intro rows h;cases x with
  | str z =>
   have h:(au xs).map (z::·)=some rows:=h;cases e:au xs with
   | none=>rw[e]at h;cases h
   | some r =>
    rw[e]at h;cases h;rw[ih e];rfl
  | _=>cases h
theorem gG:∀rows:List Str,au (rows.map PV.str)=some rows:=by
 intro r
 induction r with
 | nil=>rfl
 | cons z r ih=>rw[Cq,au,ih];rfl
noncomputable def pk(rows:List Str):Bool:=decide (1<=rows.length)&&decide (rows.length<=8)&&rows.all (fun z=>decide (z.length=(rows.headD "").length)&&z.cps.toList.all fun c=>c==120||c==46)&&decide (1<=(rows.headD "").length)&&decide ((rows.headD "").length<=8)
theorem gC{rows:List Str}:pk rows=true↔UM.bV 8 rows:=by
 unfold pk;simp only[CZ,Eo,C2,Dq,DL]
 constructor
 ·rintro⟨⟨⟨⟨h1,h2⟩,h3⟩,h4⟩,h5⟩
  exact⟨fun z=>by rw[z]at h1;exact absurd h1 (by decide),h2,⟨_,h4,h5,fun z hz=>(h3 z hz).1⟩,fun z hz c hc=>(h3 z hz).2 c hc⟩
 ·intro b
  obtain⟨w,w1,w2,hw⟩:=b.wide;have e:(rows.headD "").length=w:=by
   cases rows with
   | nil=>exact absurd rfl b.some
   | cons y r=>exact hw y Cv
  rw[e];refine⟨⟨⟨⟨?_,b.few⟩,fun z hz=>⟨hw z hz,fun c hc=>b.signs z hz c hc⟩⟩,w1⟩,w2⟩;cases rows with
  | nil=>exact absurd rfl b.some
  | cons y r=>exact Nat.succ_le_succ (DH _)
noncomputable def uA:List PV->Option PV
 | [.tup xs]=>(au xs).bind fun rows=>if pk rows=true then some (.bl true)else none
 | _=>none
theorem wf{vs:List PV}{r:PV}(h:uA vs=some r):r=.bl true/\∃rows:List Str,vs=[.tup (rows.map .str)]/\UM.bV 8 rows:=by
 unfold uA at h
 split at h
 ·rename_i xs
  cases e:au xs with
  | none=>rw[e]at h;cases h
  | some rows =>
   rw[e,C7]at h
   split at h
   ·rename_i hb
    cases h;exact⟨rfl,rows,by rw[iS e],gC.mp hb⟩
   ·cases h
 ·cases h
theorem zy{rows:List Str}(b:UM.bV 8 rows):uA [.tup (rows.map .str)]=some (.bl true):=by
 show((au (rows.map PV.str)).bind fun rows=>if pk rows=true then some (PV.bl true)else none)=_;rw[gG,C7,Cd (gC.mpr b)]
noncomputable def cq(n:Nat):Nat:=if n=120 then 46 else 120
noncomputable def fO(z:Str)(c:Nat):Str:=⟨(z.cps.toList.set c (cq (z.cps.toList.getD c 0))).toArray⟩
noncomputable def ck(rows:List Str)(c:Int):List Str:=rows.set (c%(rows.length:Int)).toNat (fO (rows.getD (c%(rows.length:Int)).toNat "") (c/8%((rows.headD "").length:Int)).toNat)
noncomputable def j7:List PV->Option PV
 | [.tup xs,.int c]=>(au xs).bind fun rows=>if pk rows=true then some (.tup ((ck rows c).map .str))else none
 | _=>none
theorem qj{vs:List PV}{r:PV}(h:j7 vs=some r):∃(rows:List Str)(c:Int),vs=[.tup (rows.map .str),.int c]/\UM.bV 8 rows/\r=.tup ((ck rows c).map .str):=by
 unfold j7 at h
 split at h
 ·rename_i xs c
  cases e:au xs with
  | none=>rw[e]at h;cases h
  | some rows =>
   rw[e,C7]at h
   split at h
   ·rename_i hb
    cases h;exact⟨rows,c,by rw[iS e],gC.mp hb,rfl⟩
   ·cases h
 ·cases h
theorem ul{rows:List Str}{c:Int}(b:UM.bV 8 rows):j7 [.tup (rows.map .str),.int c]=some (.tup ((ck rows c).map .str)):=by
 show((au (rows.map PV.str)).bind fun rows=>if pk rows=true then some (PV.tup ((ck rows c).map .str))else none)=_;rw[gG,C7,Cd (gC.mpr b)]
theorem lv{rows:List Str}{c:Int}(b:UM.bV 8 rows):UM.bV 8 (ck rows c):=by
 obtain⟨w,w1,w2,hw⟩:=b.wide;have h0:rows.length≠0:=fun z=>b.some (List.length_eq_zero_iff.mp z);have hr:(c%(rows.length:Int)).toNat<rows.length:=by
  have a1:=Dp c (show(rows.length:Int)≠0 by omega);have a2:=DX c (show(0:Int)<rows.length by omega);omega
 obtain⟨z,hz⟩:∃z,z=rows.getD (c%(rows.length:Int)).toNat "":=⟨_,rfl⟩;have zm:z∈rows:=by rw[hz,Ck,CY hr];exact Dh hr
 unfold ck;rw[<- hz];refine⟨fun q=>h0 (by have:=DT List.length q;rwa [DM]at this),by rw[DM];exact b.few,⟨w,w1,w2,fun r hr=> ?_⟩,fun r hr a ha=> ?_⟩
 ·rcases Ek hr with q|q
  ·exact hw r q
  ·rw[q]
   show(List.toArray _).size=w;have:=hw z zm;simp only[Cb,DM,Cn];exact this
 ·rcases Ek hr with q|q
  ·exact b.signs r q a ha
  ·rw[q]at ha
   rcases Ek (show a∈z.cps.toList.set _ _ by simpa [fO]using ha)with q|q
   ·exact b.signs z zm a q
   ·rw[q]
    unfold cq
    split
    ·exact .inr rfl
    ·exact .inl rfl
noncomputable def clsB:Stmt->Nat->Stmt
 | .ClassDef _ _ _ body _ _ _ _ _ _ _,i=>body.getD i (.Pass ⟨0,0,0,0⟩)
 | s,_=>s
end IR
namespace XE
open PySem
noncomputable abbrev fr(l:List Env):List Addr:=l.filterMap (·.frame)
noncomputable def qL(h:Heap)(e T:Addr)(cls:Value)(dd:Option Addr)(fl:Value):Prop :=
 ∃oe vs oT ts,h.get? e=some oe/\oe.cls=cls/\oe.dict=dd/\oe.data=.fields vs/\vs[1]? =some (.ref T)/\T≠e/\h.get? T=some oT/\oT.data=.fields ts/\ts[3]? =some fl
structure Up(fs ns:List Addr)(h h' :Heap):Prop where
 keep:∀b o,h.get? b=some o->b∉fs->b∉ns->h'.get? b=some o
 slot:∀b o,h.get? b=some o->b∈fs->∃sl,h'.get? b=some {o with slots:=sl}
theorem tY(o:Obj)(f:Array Value->Array Value):(Obj.mapFields f o).dict=o.dict:=by
 unfold Obj.mapFields
 split<;>rfl
section
variable{M:Model}{A:Around}{E:Value->Shared->Prop}{s:Shared}{base:Heap}{env:Env}{outer:List Env}{L e T:Addr}{cls fl:Value}{dd:Option Addr}{Q:Unit->Shared->Prop}{oe:Obj}{vs:Array Value}
theorem k7{head:Value}{nx:Bool}(hfr:A.frames=some (env::outer))(fl:s.heap.FunFrames base (env::outer))(hf:env.frame=some L)(he:s.heap.get? e=some oe)(hd:oe.data=.fields vs)(hz:1<vs.size)
  (h:∀h' T,Up (fr (env::outer)) [e] s.heap h' ->s.heap.get? T=none->qL h' e T oe.cls oe.dict (rawInt L)->Q () {s with heap:=h'}) :
  wpAny M A (do let a<-frameOf env;let pl<-entryPlaceOf L nx;let b<-EntryCells.newEntry head a .none (rawInt L) .none pl;setField (.ref e) 1 b) Q E s:=by
 have ne:e∉fr (env::outer):=fun m=>by
  obtain⟨_,o,ho,hn⟩:=fl.mem m;rw[he]at ho;cases ho;exact hn vs hd
 refine CU (wpAny_frameOf_fun hfr fl hf fun k1 sk=> ?_);refine CU (wpAny_entryPlaceOf fun pl isp=> ?_);unfold EntryCells.newEntry newFields;refine CU (Dd ?_ (isp.sizeOk5 _ _ _ _ _));have he1:k1.get? e=some oe:=(sk.2.1 e ne).trans he;have ht:k1.objs.size≠e:=EK (Cc he1)
 generalize hob:({cls:=.type "traceback",dict:=none,data:=.fields ([head,.ref L,.none,rawInt L,.none]++(if pl.isEmpty then List.replicate 6 Value.none else pl)).toArray}:Obj)=ob
 have he2:=CV (h:=k1) ob he1;refine Et he2 hd hz ?_;have hd3:=EQ hd (·.setIfInBounds 1 (Value.ref k1.objs.size));have kp:∀b o,b≠e->k1.get? b=some o->((k1.push ob).update e (Obj.mapFields (·.setIfInBounds 1 (Value.ref k1.objs.size)))).get? b=some o:=fun b o nb q=>by
  rw[DR _ _ (Du nb)];exact CV _ q
 refine h _ k1.objs.size ⟨fun b o q n1 n2=>kp b o (fun z=>n2 (by rw[z];exact Di.mpr rfl)) ((sk.2.1 b n1).trans q),fun b o q m=> ?_⟩ ?_ ?_
 ·obtain⟨sl,q1⟩:=sk.2.2 b o q
  exact⟨sl,kp b _ (fun z=>ne (by rw[<- z];exact m)) q1⟩
 ·cases q:s.heap.get? k1.objs.size with
  | none=>rfl
  | some o =>
   obtain⟨sl,q1⟩:=sk.2.2 _ o q;exact absurd (Cc q1) (De _)
 ·refine⟨_,_,ob,_,ED _ he2 (Ea hd3),Obj.cls_mapFields _ _,tY _ _,hd3,by simp[hz],ht,?_,by rw[<- hob],?_⟩
  ·rw[DR _ _ (Du ht)]
   exact Cs k1 (by rw[<- hob];rfl)
  ·rcases isp with rfl|⟨_,_,_,_,_,_,_,rfl⟩<;>simp
theorem land(ht:qL s.heap e T cls dd fl)(h:∀h',(∀b o,s.heap.get? b=some o->b≠T->h'.get? b=some o)->qL h' e T cls dd .none->Q () {s with heap:=h'}):wpAny M A (setFlight (.ref e) none) Q E s:=by
 obtain⟨oe,vs,oT,ts,e1,e2,e3,e4,e5,e6,e7,e8,e9⟩:=ht;unfold setFlight;refine CU (Dx e1 e4 e5 ?_);rw[Cd (show(Value.ref T !=Value.none)=true by simp)];have h3:3<ts.size:=(EC.mp e9).1;have d3:=EQ e8 (·.setIfInBounds 3 ((none:Option Addr).elim Value.none fun f=>rawInt f));refine Et e7 e8 h3 (h _ (fun b o q n=> ?_) ⟨oe,vs,_,_,?_,e2,e3,e4,e5,e6,ED _ e7 (Ea d3),d3,by simp[h3]⟩)
 ·rw[DR _ _ (Du n)]
  exact q
 ·rw[DR _ _ e6]
  exact e1
theorem mZ(hfr:A.frames=some (env::outer))(hl:s.heap.FunFrames base (env::outer))(hf:env.frame=some L)(he:s.heap.get? e=some oe)(hd:oe.data=.fields vs)(h1:vs[1]? =some .none)
  (h:∀h' T,Up (fr (env::outer)) [e] s.heap h' ->s.heap.get? T=none->qL h' e T oe.cls oe.dict (rawInt L)->Q () {s with heap:=h'}):wpAny M A (noteFrame (.ref e) env) Q E s:=by
 unfold noteFrame;simp only[hf];refine CU (Dx he hd h1 ?_);rw[Ci (by decide)];exact k7 hfr hl hf he hd (EC.mp h1).1 h
theorem iZ(hfr:A.frames=some (env::outer))(hl:s.heap.FunFrames base (env::outer))(hf:env.frame=some L)(ht:qL s.heap e T cls dd .none)
  (h:∀h' T',Up (fr (env::outer)) [e,T] s.heap h' ->s.heap.get? T' =none->qL h' e T' cls dd (rawInt L)->Q () {s with heap:=h'}):wpAny M A (noteFrame (.ref e) env) Q E s:=by
 obtain⟨oe,vs,oT,ts,e1,e2,e3,e4,e5,e6,e7,e8,e9⟩:=ht;unfold noteFrame;simp only[hf];refine CU (Dx e1 e4 e5 ?_);rw[Cd (show(Value.ref T !=Value.none)=true by simp)];refine CU (Dx e7 e8 e9 ?_);rw[Ci (show¬((Value.none==rawInt L)=true)by simp[rawInt])];have nf:∀b∈fr (env::outer),b≠T:=fun b m z=>by
  obtain⟨_,o,ho,hn⟩:=hl.mem m;rw[z,e7]at ho;cases ho;exact hn ts e8
 refine CU (Et e7 e8 (EC.mp e9).1 ?_);have ot:∀b,b≠T->(s.heap.update T (Obj.mapFields (·.setIfInBounds 3 Value.none))).get? b=s.heap.get? b:=fun b n=>DR _ _ (Du n);refine k7 (s:={s with heap:=s.heap.update T (Obj.mapFields (·.setIfInBounds 3 Value.none))}) (base:=base) hfr (hl.of_keeps fun b o q n=>⟨o,?_,rfl⟩) hf ((ot e (Du e6)).trans e1) e4 (EC.mp e5).1 fun h' T' u n f=> ?_
 ·rw[ot b fun z=>by rw[z,e7]at q;cases q;exact n ts e8]
  exact q
 ·have nT:T' ≠T:=fun z=>by
   rw[z]at n;rw[show(Shared.heap {s with heap:=s.heap.update T (Obj.mapFields (·.setIfInBounds 3 Value.none))}).get? T=_ from ED _ e7 (Ea (EQ e8 _))]at n;cases n
  refine h h' T' ⟨fun b o q n1 n2=>u.keep b o ?_ n1 ?_,fun b o q m=>u.slot b o ?_ m⟩ ?_ (by rw[<- e2,<-e3];exact f)
  ·exact(ot b fun z=>n2 (by rw[z];simp)).trans q
  ·exact fun z=>n2 (by rw[Di.mp z];simp)
  ·exact(ot b (nf b m)).trans q
  ·exact(ot T' nT).symm.trans n
theorem Up.land{fs ns:List Addr}{h h1 h2:Heap}(u:Up fs ns h h1)(n:h.get? T=none)(k:∀b o,h1.get? b=some o->b≠T->h2.get? b=some o):Up fs ns h h2 :=
 ⟨fun b o q n1 n2=>k b o (u.keep b o q n1 n2) (fun z=>by rw[z,n]at q;cases q),fun b o q m=>by
  obtain⟨sl,q1⟩:=u.slot b o q m;exact⟨sl,k b _ q1 (fun z=>by rw[z,n]at q;cases q)⟩⟩
theorem kf(hfr:A.frames=some (env::outer))(hl:s.heap.FunFrames base (env::outer))(hf:env.frame=some L)(he:s.heap.get? e=some oe)(hd:oe.data=.fields vs)(h1:vs[1]? =some .none)
  (h:∀h' T,Up (fr (env::outer)) [e] s.heap h' ->s.heap.get? T=none->qL h' e T oe.cls oe.dict .none->Q () {s with heap:=h'}):wpAny M A (leaving env (.ref e)) Q E s:=by
 unfold leaving;refine CU (mZ hfr hl hf he hd h1 fun k1 T u n f=> ?_);exact land (s:={s with heap:=k1}) f fun k2 k f2=>h k2 T (u.land n k) n f2
theorem sY(hfr:A.frames=some (env::outer))(hl:s.heap.FunFrames base (env::outer))(hf:env.frame=some L)(ht:qL s.heap e T cls dd .none)
  (h:∀h' T',Up (fr (env::outer)) [e,T] s.heap h' ->s.heap.get? T' =none->qL h' e T' cls dd .none->Q () {s with heap:=h'}):wpAny M A (leaving env (.ref e)) Q E s:=by
 unfold leaving;refine CU (iZ hfr hl hf ht fun k1 T' u n f=> ?_);exact land (s:={s with heap:=k1}) f fun k2 k f2=>h k2 T' (u.land n k) n f2
theorem vo(hfr:A.frames=some (env::outer))(hl:s.heap.FunFrames base (env::outer))(hf:env.frame=some L)(ht:qL s.heap e T cls dd .none)
  (h:∀h' T',Up (fr (env::outer)) [e,T] s.heap h' ->s.heap.get? T' =none->qL h' e T' cls dd .none->Q () {s with heap:=h'}) :
  wpAny M A (noteFrame (.ref e) env) (fun _ s2=>wpAny M A (setFlight (.ref e) none) Q E s2) E s:=by
 refine iZ hfr hl hf ht fun k1 T' u n f=> ?_;exact land (s:={s with heap:=k1}) f fun k2 k f2=>h k2 T' (u.land n k) n f2
end
end XE
namespace XE
open PySem PySem.W PyProof.Rows
structure XC(K:Frag)(C:Addr):Prop where
 ga:findIn K (.ref C) "__getattribute__"=some (some (.builtin "BaseException.__getattribute__"))
 gn:findIn K (.ref C) "__getattr__"=some none
 ca:findIn K (.ref C) "__class__"=some (some (.builtin "object.__class__"))
 sg:specialIn K (.builtin "object.__class__") "__get__"=some (some (.builtin "getset_descriptor.__get__"))
 tk:takesIn K (.builtin "object.__class__")=some true
 ob:mroIn K C (.type "object")=some true
 be:mroIn K C (.type "BaseException")=some true
 cl:(clsIn K C).isSome=true
section
variable{prog:Program}{w:World}{A:Around}{E:Value->Shared->Prop}{s:Shared}{K:Frag}{e C:Addr}{ox:Obj}{od:Option Obj}
theorem XC.find(c:XC K C):findObj K C od "__class__"=some (.bind (.builtin "getset_descriptor.__get__") (.builtin "object.__class__")):=by
 obtain⟨cd,hc⟩:=Ds.mp c.cl;unfold findObj;rw[hc,C7,c.ca,C7];simp[c.sg,c.tk]
theorem ku{M:Model}{nameV:Value}{Q:Unit->Shared->Prop}(c:XC K C)(X:K.In s.heap)(I:InstAt s.heap e ox C od)(hq:Q () s):wpAny M A (checkBuiltinCall "BaseException.__getattribute__" ⟨[.ref e,nameV],[]⟩) Q E s:=by
 obtain⟨hh,g,d,t,os⟩:=s;have q0:=I.type (M:=M);have q4:=looks_mroIn (M:=M) X c.be;have kk:builtinKind "BaseException.__getattribute__"=some .slot:=by decide +kernel
 have hsp:splitId "BaseException.__getattribute__"=some ("BaseException","__getattribute__"):=by decide +kernel
 have ha:=F.args_bexc_ga (.ref e) nameV;simp only[checkBuiltinCall,kk,hsp];refine CU ?_;unfold isInstance
 repeat lk
 exact hq
theorem tz{Q:Option Value->Shared->Prop}(c:XC K C)(X:K.In s.heap)(I:InstAt s.heap e ox C od)(h:Q (some (.ref C)) {s with toks:=s.toks+1}) :
  wpAny (model prog w) A (getAttr? (.ref e) "__class__") Q E s:=by
 obtain⟨hh,g,d,t,os⟩:=s;have q0:=I.type (M:=model prog w);have q1:=looks_findIn (M:=model prog w) X c.ga;have q2:=looks_findIn (M:=model prog w) X c.gn;have q3:=looks_find (M:=model prog w) X I c.find;have q4:=looks_mroIn (M:=model prog w) X c.be;unfold getAttr? getAttrBy? getAttrBy;refine CU (wpAny_mkText (CU (wpAny_attempt (DV (CU (q0.at (CU (q1.at ?_))))))));show wpAny _ _ (getAttrByItsOwn _ _ _ _ _ _) _ _ _;unfold getAttrByItsOwn hookBefore;refine CU ?_;show wpAny _ _ (typeLookup _ _) _ _ _;refine q2.at ?_;refine CU (wpAny_attempt (DV ?_));show wpAny _ _ (boundAndCalled _ _ _) _ _ _;unfold boundAndCalled;rw[F.attr_ValueError.ga.bind (.ref e)];refine CU (Ce ?_);refine Ev (codeAny_call_builtin F.attr_ValueError.ga.plain F.entry_bexc_ga (ku c X I ?_));unfold Builtin.«object.__getattribute__»;refine CU (Ce ?_);refine CU (Ce ?_);refine CU (q0.at ?_);refine CU (q3.at ?_);show wpAny _ _ (holding [_] (call _ [_,_,_]) >>= ret) _ _ _;refine CU (DV (Ev (class_get (ox:=ox) (od:=od) X I c.ob ?_)));exact Ce (Ce (Ce h))
theorem kitx{K:Frag}{e C:Addr}(c:XC K C):KitX K (.ref e) (.ref C) (fun h=>∃ox od,W.InstAt h e ox C od) where
 ty:=fun _ _ _ ⟨_,_,I⟩=>I.type
 it:=fun _ _ X _=>by
  obtain⟨cd,hc⟩:=Ds.mp c.cl;unfold clsIn at hc
  split at hc
  ·rename_i ho
   exact fun A' Q' E' s' k q=>CU (wpAny_loadPart (k _ _ (X _ _ ho)) (Ce q))
  ·cases hc
 ne:=fun h tp dd its n sl X htp=>by
  obtain⟨cd,hc⟩:=Ds.mp c.cl;refine DZ.mpr fun q=> ?_;have z:C=tp:=Value.ref.inj (DL.mp q);subst z;unfold clsIn at hc
  split at hc
  ·rename_i ho
   have z:=(X _ _ ho).symm.trans htp;cases z
  ·cases hc
 ca:=fun X ⟨_,_,I⟩ k=>tz c X I k
end
end XE
namespace L2.XN
open PySem PySem.Spec PyProof.Rows L2 XE
section
variable{P:Program}{w:World}{H H' :Hp}{h h' h2:Heap}{a:Addr}{o:HO}{fs ns:List Addr}
theorem iY(x:aa P w H h a o):∃u,h.get? a=some u:=by
 cases o with
 | lst xs=>obtain⟨_,_,_,_,e⟩:=x;exact⟨_,e⟩
 | tup xs=>obtain⟨_,_,_,ob,e,_⟩:=x;exact⟨_,e⟩
 | dK kvs=>obtain⟨_,_,_,_,ob,_,_,e,_⟩:=x;exact⟨_,e⟩
 | dT kvs=>obtain⟨_,_,_,_,ob,_,_,e,_⟩:=x;exact⟨_,e⟩
 | set S n=>obtain⟨ob,_,_,_,e,_⟩:=x;exact⟨_,e⟩
 | ins C dx fs=>obtain⟨_,_,_,e,_⟩:=x;exact⟨_,e⟩
 | own y=>exact x
 | xd fs=>obtain⟨_,⟨_,_,_,e,_⟩,_⟩:=x;exact⟨_,e⟩
 | rng lo hi=>obtain⟨_,_,_,e⟩:=x;exact⟨_,e⟩
 | frz ob u=>obtain⟨e,_⟩:=x;exact⟨_,e⟩
 | tbl ps=>exact⟨_,(show h.get? a=some _ from x)⟩
 | met f y=>exact⟨_,(show h.get? a=some _ from x)⟩
 | ext φ=>obtain⟨_,e,_⟩:=x;exact e
theorem kq(ok:bi P w H h)(e:h.get? a=none):H a=none:=by
 cases q:H a with
 | none=>rfl
 | some u =>
  obtain⟨v,hv⟩:=iY (ok a u q);rw[e]at hv;cases hv
theorem jg(ok:bi P w H h)(u:Up fs ns h h')(hf:∀b∈fs,H b=none)(hn:∀b∈ns,H b=none):bi P w H h' :=fun a o e =>
 (ok a o e).stay (fun b v hb q=>u.keep b v q (fun z=>by
  rcases hb with r|r
  ·rw[r]at z;rw[hf _ z]at e;cases e
  ·rw[hf _ z]at r;cases r) fun z=>by
  rcases hb with r|r
  ·rw[r]at z;rw[hn _ z]at e;cases e
  ·rw[hn _ z]at r;cases r) (fun _ q=>q) fun _ _ q=>q
theorem xK{H0:Hp}{h0 h1:Heap}{L:Addr}(u:Un fs [] H0 H h0 h1)(p:Up (L::fs) ns h1 h2)(hL:h0.objs.size<=L)(hn:∀b∈ns,h0.get? b=none):Un fs [] H0 H h0 h2:=by
 have nL:∀b o,h0.get? b=some o->b≠L:=fun b o q z=>absurd (Cc q) (by rw[z];exact Nat.not_lt.mpr hL);have nn:∀b o,h0.get? b=some o->b∉ns:=fun b o q z=>by rw[hn b z]at q;cases q
 refine⟨fun b o q n hb hx=>p.keep b o (u.keep b o q n hb hx) (fun z=> ?_) (nn b o q),fun b o q n hb hx=> ?_,u.free,fun b o q hx=> ?_,u.tups,u.frzs,u.tbls⟩
 ·rcases Co.mp z with r|r
  ·exact nL b o q r
  ·exact hb r
 ·obtain⟨sl,e1⟩:=u.slot b o q n hb hx
  obtain⟨sl2,e2⟩:=p.slot b _ e1 (Cj _ hb);exact⟨sl2,e2⟩
 ·obtain⟨o1,e1⟩:=u.there b o q hx
  by_cases hb:b∈L::fs
  ·obtain⟨sl,e2⟩:=p.slot b _ e1 hb
   exact⟨_,e2⟩
  ·exact⟨_,p.keep b _ e1 hb (nn b o q)⟩
end
noncomputable def uW(P:Program)(w:World)(C:Addr):lg:=fun outer H s E u s' =>
 ∃e T H' dd,u=.ref e/\s'.os=s.os/\AllBare s'.gens/\Un (lf outer) [] H H' s.heap s'.heap/\bi P w H' s'.heap/\s.heap.get? e=none/\s.heap.get? T=none/\H' e=none/\H' T=none /\
  qL s'.heap e T (.ref C) dd .none/\E (.ref C) dd H'
section
variable{P:Program}{w:World}{K:W.Frag}{mg:Str->Option Value}{base:Heap}{N:List Str}{qual:Str}{scope:Scope}{f C:Addr}{cd:Value}{A:Around}{outer:List Env}{s s1:Shared}{H H1:Hp}{E:XK}
 {pins:List (Addr×Obj)} {σ:St}
theorem ve{E2:XK}(hE:∀dd H',E2 (.ref C) dd H' ->E (.ref C) dd H'):jv (uW P w C) (eH (uW P w C) P w K mg base N qual scope f cd A outer s H E) E2:=by
 intro pins σ H1 s1 u s2 I ⟨e,T,H2,dd,hu,ho,hb,un,ok,n1,n2,n3,n4,fly,q⟩;subst hu;have J:Inv (eH (uW P w C) P w K mg base N qual scope f cd A outer s H E) pins σ H2 s2:=I.call' (ch:=[]) ho un ok hb (fun b z=>absurd z (by simp));have m1:∀b,s1.heap.get? b=none->s.heap.get? b=none:=fun b z=>by
  cases q:s.heap.get? b with
  | none=>rfl
  | some o =>
   obtain⟨o',y⟩:=I.base.there b o q (C8);rw[z]at y;cases y
 have ns:∀b∈[e,T],s.heap.get? b=none/\H2 b=none:=fun b m=>by
  rcases Co.mp m with r|r
  ·rw[r];exact⟨m1 _ n1,n3⟩
  ·rw[Di.mp r];exact⟨m1 _ n2,n4⟩
 refine sY (base:=base) J.ok.frames J.stack rfl fly fun h2 T' up hT fly' => ?_;refine⟨e,T',H2,dd,rfl,J.os,J.bare,xK J.base up J.ok.above (fun b m=>(ns b m).1),jg J.hok up J.stkFree (fun b m=>(ns b m).2),m1 _ n1,?_,n3,?_,fly',hE _ _ q⟩
 ·cases q:s.heap.get? T' with
  | none=>rfl
  | some o =>
   obtain⟨o',z⟩:=J.base.there T' o q (C8);rw[hT]at z;cases z
 ·exact kq J.hok hT
end
end L2.XN
namespace L2.XN
open PySem PySem.Spec PyProof.Rows L2 XE
section
variable{X:Cx}{pins:List (Addr×Obj)}{σ:St}{H:Hp}{s:Shared}{Wh:Value->Shared->Prop}{A:Around}{cm:Bool}
noncomputable abbrev rT(X:Cx)(pn:List (Addr×Obj))(Wh:Value->Shared->Prop):Cx:={X with pn:=pn,xe:=Wh}
noncomputable abbrev xX(X:Cx)(e:Addr)(pn:List (Addr×Obj)):Cx:={X with A:=X.A.mark (some (.ref e)),calm:=false,pn:=pn,xe:=fun _ _=>False}
theorem pinned(I:Inv X pins σ H s):Inv (rT X (X.pn++pins) Wh) [] σ H s :=
 ⟨⟨I.ok.mod,I.ok.kind,I.ok.glob,I.ok.blt,I.ok.above,I.ok.inj,I.ok.has,I.ok.cab,I.ok.hd,I.ok.frames,I.ok.stk,I.ok.exf,I.ok.bs,I.ok.bsz,I.ok.noex,I.ok.exfs,I.ok.funs,I.ok.frf⟩,I.os,I.bare,I.base,I.loc,I.cell,I.free,I.freeC,
  fun p hp=>I.pin p (by rw[Do]at hp;exact hp),I.hok,I.len⟩
theorem unpinned{p2:List (Addr×Obj)}(ok:X.Ok)(I:Inv (rT X (X.pn++pins) Wh) p2 σ H s):Inv X pins σ H s :=
 ⟨ok,I.os,I.bare,I.base,I.loc,I.cell,I.free,I.freeC,fun p hp=>I.pin p (EV _ hp),I.hok,I.len⟩
theorem Bb(I:Inv X pins σ H s){e:Addr}{pn:List (Addr×Obj)}(hp:∀p∈pn,s.heap.get? p.1=some p.2/\H p.1=none/\p.1≠X.env.locals/\p.1∉X.fs/\∀v,p.2.data≠.cell v):Inv (xX X e pn) [] σ H s :=
 ⟨⟨I.ok.mod,I.ok.kind,I.ok.glob,I.ok.blt,I.ok.above,I.ok.inj,I.ok.has,I.ok.cab,(fun z=>by cases z),I.ok.frames,I.ok.stk,I.ok.exf,I.ok.bs,I.ok.bsz,I.ok.noex,I.ok.exfs,I.ok.funs,I.ok.frf⟩,I.os,I.bare,I.base,I.loc,I.cell,I.free,I.freeC,
  fun p m=>hp p (by rw[Do]at m;exact m),I.hok,I.len⟩
theorem BL(ok:X.Ok){e:Addr}{pn:List (Addr×Obj)}(I:Inv (xX X e pn) [] σ H s)(hp:∀p∈X.pn++pins,p∈pn):Inv X pins σ H s :=
 ⟨ok,I.os,I.bare,I.base,I.loc,I.cell,I.free,I.freeC,fun p m=>I.pin p (EV _ (hp p m)),I.hok,I.len⟩
theorem zk{M:Model}{A:Around}{E:Value->Shared->Prop}{i:Nat}{x:Str}{v:V}{Q:Unit->Shared->Prop}(I:Inv X pins σ H s)(hN:X.N.Nodup)(hi:X.N[i]? =some x)(hk:X.env.scope.names.lookup x=some .local)(hv:σ[i]? =some (some v))
  (h:∀s',Inv X pins (σ.set i none) H s' ->Q () s'):wpAny M A (unbindName X.env x) Q E s:=by
 obtain⟨m,hn,hl⟩:=id I.loc;obtain⟨u,-,l⟩:=hl i x v hi hv (.inl hk);have hm:m x=some u:=by
  rcases l with l|⟨k,_⟩
  ·exact l.2
  ·have k' :X.env.scope.names.lookup x=some .cell\/X.env.scope.names.lookup x=some .free:=k
   rw[hk]at k'
   rcases k' with z|z<;>cases z
 obtain⟨oL,_,_,hoL,_⟩:=id hn;refine wpAny_unbindName_local hk hn hm (by rw[I.ok.kind];rfl) fun h' u' hn' hs=> ?_;have lo:∀b o,X.s₀.heap.get? b=some o->b≠X.env.locals:=fun b o e=>Cu (C4 (Cc e) I.ok.above)
 refine h _ ⟨I.ok,I.os,I.bare,⟨fun b o e n hb hx=>(hs.2 b (lo b o e)).trans (I.base.keep b o e n hb hx),fun b o e n hb hx=> ?_,I.base.free,fun b o e hx=> ?_,I.base.tups,I.base.frzs,I.base.tbls⟩,
  ⟨_,hn',fun j y v' e1 e2 e3=> ?_⟩,fun y c e=> ?_,I.free,I.freeC,fun p hp=> ?_,fun b ob e=> ?_,by simpa using I.len⟩
 ·obtain⟨sl,q⟩:=I.base.slot b o e n hb hx
  exact⟨sl,(hs.2 b (lo b o e)).trans q⟩
 ·obtain⟨o',q⟩:=I.base.there b o e hx
  exact⟨o',(hs.2 b (lo b o e)).trans q⟩
 ·by_cases hj:j=i
  ·subst hj
   rw[DE (by rw[I.len];exact(Ch.mp hi).1)]at e2;cases e2
  ·rw[Cr (Du hj)]at e2
   obtain⟨w1,r1,q⟩:=hl j y v' e1 e2 e3;refine⟨w1,r1,?_⟩
   rcases q with⟨k,q⟩|⟨k,c,q,z⟩
   ·have ny:y≠x:=fun z=>hj (eA hN e1 (z▸hi))
    exact .inl ⟨k,by simp[ny,q]⟩
   ·exact .inr ⟨k,c,q,z.sameBut hs (I.cne y c q)⟩
 ·obtain⟨w1,z⟩:=I.cell y c e
  exact⟨w1,z.sameBut hs (I.cne y c e)⟩
 ·obtain⟨q,n,ne,nf,d⟩:=I.pin p hp
  exact⟨(hs.2 p.1 ne).trans q,n,ne,nf,d⟩
 ·refine(I.hok b ob e).stay (fun c w1 hc q=>(hs.2 c fun z=> ?_).trans q) (fun _ q=>q) fun _ _ q=>q
  rcases hc with r|r
  ·rw[r]at z;rw[z,I.free]at e;cases e
  ·rw[z,I.free]at r;cases r
noncomputable def uR(CX:lg)(X:Cx)(E:St->XK):Prop:=∀(pins:List (Addr×Obj))(σ:St)(H:Hp)(s:Shared)(u:Value)(s' :Shared),Inv X pins σ H s->CX X.stack H s (E σ) u s' ->X.xe u s'
noncomputable def yG(sp:Sp)(dvs:List V)(E:St->XK)(t:TA):TE:=fun σ H Q=>t σ H fun vs H1=>sp (vs++dvs) H1 Q (E σ)
theorem kR{CX:lg}{k:Nat}{f:Addr}{fd:FuncData}{ps:List Str}{sp:Sp}{dvs:List V}{ds:List Value}{E:St->XK}{x:Str}{p pos:Pos}{e:Expr}{es:List Expr}{t:TA}(F:aj X.prog X.w X.K X.mg X.base CX k f fd ps sp)(hr:bO k X.A)(hg:Gl X x)
  (hm:X.mg x=some (.ref f)) (hk:W.keepIn X.K (.ref f)=true) (hb:Binds X.K fd ps ds) (hd:aK dvs ds) (hx:uR CX X E) (ha:PA X (e::es) t) (hdb:(x==("__debug__":Str))=false:=by decide)
  (he:starEach (e::es) X.env=(false,eval e X.env)::starEach es X.env:=by rfl) (hpl:(backTo pos (starEach es X.env)).any (·.1)=false:=by rfl):PE X (.Call (.Name x p) (e::es) [] pos) (yG sp dvs E t):=by
 intro pins s σ H Q I h;refine EO (eB I hg hm ?_ hdb);refine W.callWith_K (h₀:=X.base) I.ok.mod.kin hk (af (ha pos pins s σ H _ I h) fun us s1 ⟨vs,H1,I1,r,q⟩=>⟨I1.kIn,?_⟩) he hpl;have r2:aK (vs++dvs) (us++ds):=r.append hd;have hl:(us++ds).length=ps.length:=by rw[<- r2.length];exact F.len _ _ _ _ q
 refine Ev (codeAny_mono (F.run X.A X.stack s1 H1 ⟨us,[]⟩ (us++ds) (vs++dvs) Q (E σ) hr I1.env0 (hb s1 us I1.kIn hl) r2 q) fun r s' hq=> ?_);cases r with
 | error u=>exact hx pins σ H1 s1 u s' I1 hq
 | ok fl =>
  cases fl with
  | ret u=>exact I1.after hq
  | next=>exact hq.elim
  | brk=>exact hq.elim
  | cont=>exact hq.elim
theorem qe{fs ns:List Addr}{H0:Hp}{h0 h1 h2:Heap}(u:Un fs [] H0 H h0 h1)(p:Up fs ns h1 h2)(hn:∀b∈ns,h0.get? b=none):Un fs [] H0 H h0 h2:=by
 have nn:∀b o,h0.get? b=some o->b∉ns:=fun b o q z=>by rw[hn b z]at q;cases q
 refine⟨fun b o q n hb hx=>p.keep b o (u.keep b o q n hb hx) hb (nn b o q),fun b o q n hb hx=> ?_,u.free,fun b o q hx=> ?_,u.tups,u.frzs,u.tbls⟩
 ·obtain⟨sl,e1⟩:=u.slot b o q n hb hx
  obtain⟨sl2,e2⟩:=p.slot b _ e1 hb;exact⟨sl2,e2⟩
 ·obtain⟨o1,e1⟩:=u.there b o q hx
  by_cases hb:b∈fs
  ·obtain⟨sl,e2⟩:=p.slot b _ e1 hb
   exact⟨_,e2⟩
  ·exact⟨_,p.keep b _ e1 hb (nn b o q)⟩
noncomputable def uL(i:Nat)(D:cj):cj:={nx:=fun σ H=>D.nx (σ.set i none) H,rt:=D.rt,bk:=fun σ H=>D.bk (σ.set i none) H,ct:=fun σ H=>D.ct (σ.set i none) H}
end
end L2.XN
namespace L2.XN
open PySem PySem.Spec PyProof.Rows L2 XE
structure uS(K:W.Frag)(mg:Str->Option Value)(x:Str)(C:Addr):Prop where
 nm:mg x=some (.ref C)
 cl:(W.clsIn K C).isSome=true
 ty:W.typeIn K (.ref C)=some (.type "type")
section
variable{K:W.Frag}{mg:Str->Option Value}{x:Str}{C D:Addr}{b:Bool}
theorem uS.kcls(k:uS K mg x D)(h:W.subIn K (.ref C) (.ref D)=some b):W.kitCls K (.ref C) (.ref D)=some b:=by
 show(if((W.clsIn K D).isSome&&W.typeIn K (.ref D)==some (.type "type"))=true then W.subIn K (.ref C) (.ref D)else none)=some b;rw[Cd (by rw[k.cl,k.ty];rfl)];exact h
theorem uS.kit(k:uS K mg x D)(h:W.subIn K (.ref C) (.ref D)=some b)(hb:C=D->b=true):W.kitOne K (.ref C) (.ref D)=some b:=by
 unfold W.kitOne
 split
 ·rename_i z
  rw[hb (Value.ref.inj (DL.mp z))]
 ·exact k.kcls h
theorem uS.exm(k:uS K mg x D)(h:W.subIn K (.ref C) (.ref D)=some b)(hB:W.subIn K (.ref D) (.type "BaseException")=some true):W.exmOne K (.ref C) (.ref D)=some b:=by
 unfold W.exmOne;rw[Cd (by rw[hB];rfl)];exact k.kcls h
theorem zD{T:String}(h:W.subIn K (.ref C) (.type T)=some b)(hm:W.kitMeta T=true):W.kitOne K (.ref C) (.type T)=some b:=by
 unfold W.kitOne;rw[Ci (by intro z;cases DL.mp z)];show(if W.kitMeta T=true then W.subIn K (.ref C) (.type T)else none)=some b;rw[Cd hm];exact h
end
section
variable{X:Cx}{e C:Addr}{dd:Option Addr}{oe:Obj}{c:V}{u:Value}{b:Bool}
end
end L2.XN
namespace XE
open PySem
section
variable{M:Model}{A:Around}{E:Value->Shared->Prop}{h:Heap}{g:Array GenState}{d:Drawn}{t:Nat}{os:OsState}
variable{nm q:Str}{C N:Addr}{bs bm bmB:List Value}{hdct:Bool}{sn:List Str}{sub:List Value}{ab:Bool}{col:Option Bool}{dd:Option Addr}{k0 k1 k2 k3 k5:Option Value}{B Bn newId nid initId inN:String}{bmN:List Value}
theorem nG(Fn:ExcBaseFacts Bn newId inN bmN)(hBn:bmB.contains (.type Bn)=true)(T:OwnTail h bmB bm){aP:List Value}{kw:List (Str×Value)}{Q:Unit->Shared->Prop}(hC:h.get? C=some (excClassObj nm q C N bs bm hdct sn sub ab col dd k0 k1 k2 k3 k5 newId))
  (hq:Q () ⟨h,g,d,t,os⟩):wpAny M A (checkBuiltinCall newId ⟨.ref C::aP,kw⟩) Q E ⟨h,g,d,t,os⟩:=by
 have hcont:(Value.ref C::bm).contains (.type Bn)=true:=by rw[D6,T.hasType hBn,Bool.or_true]
 have hstar:=Fn.noStar;simp only[checkBuiltinCall,Fn.newKind,Fn.newSplit,Fn.newRow]
 repeat(first|refine Dw hC ?_|(refine Ep hC ?_;rw[hcont])|refine wpAny_staticBase_exc hC ?_|refine wpAny_madeBy_exc hC ?_|simp only[bne_self_eq_false,Eg,ET]|wp_step)
 exact hq
end
section
variable{prog:Program}{w:World}{A:Around}{R:Result->Shared->Prop}{h:Heap}{g:Array GenState}{d:Drawn}{t:Nat}{os:OsState}
variable{nm q:Str}{C N:Addr}{bs bm bmB:List Value}{hdct:Bool}{sn:List Str}{sub:List Value}{ab:Bool}{col:Option Bool}{dd:Option Addr}{k0 k1 k2 k3 k5:Option Value}{B Bn newId nid initId inN:String}{bmN:List Value}
theorem tQ(Fn:ExcBaseFacts Bn newId inN bmN)(hBn:bmB.contains (.type Bn)=true)(F:ExcBaseFacts B nid initId bmB)(T:OwnTail h bmB bm){aP:List Value}{kw:List (Str×Value)}(hC:h.get? C=some (excClassObj nm q C N bs bm hdct sn sub ab col dd k0 k1 k2 k3 k5 newId))
  (hq:R (.ok (.ret (.ref (h.objs.size+1)))) ⟨(h.push {cls:=.type "tuple",data:=.seq aP.toArray}).push
   {cls:=.ref C,data:=.fields #[.ref h.objs.size,.none,.none,.none,.bool false,.none]},g,d,t,os⟩) (hrest:aP.length<=sizeLine:=by size_fits) :
  codeAny (model prog w) A (.builtin newId ⟨.ref C::aP,kw⟩) R ⟨h,g,d,t,os⟩:=by
 have hends:=Fn.ends;have hcB:(Value.ref C::bm).contains (.type Bn)=true:=by rw[D6,T.hasType hBn,Bool.or_true]
 have hcA:(Value.ref C::bm).contains (.type "AttributeError")=false:=by rw[D6,T.hasType F.noAttr];rfl
 have hcN:(Value.ref C::bm).contains (.type "NameError")=false:=by rw[D6,T.hasType F.noName];rfl
 refine codeAny_builtinAt Fn.entry ?_;unfold Builtin.«BaseException.__new__»;refine wpAt_bind ?_;show wpAt _ _ _ (stack >>= _) _ _ _;refine wpAt_bind (wpAt_stack fun p below=>wpAt_of_wpAny ?_)
 wp_walk
 refine wpAt_of_wpAny ?_;rw[Fn.owner]
 repeat(first|with_reducible refine wpAny_madeHere_exc Fn.canon hC ?_|with_reducible refine Dw hC ?_|(with_reducible refine Ep hC ?_;first|rw[hcB]|rw[hcA]|rw[hcN])|wp_step)
 show R _ _;rw[Ew];exact hq
end
section
variable{prog:Program}{w:World}{A:Around}{E:Value->Shared->Prop}{h:Heap}{g:Array GenState}{d:Drawn}{t:Nat}{os:OsState}
variable{nm q:Str}{C N:Addr}{bs bm bmB:List Value}{hdct:Bool}{sn:List Str}{sub:List Value}{ab:Bool}{col:Option Bool}{dd:Option Addr}{k0 k1 k2 k3 k5:Option Value}{B Bn newId nid initId inN:String}{bmN:List Value}
theorem ll(Fn:ExcBaseFacts Bn newId inN bmN)(hBn:bmB.contains (.type Bn)=true)(F:ExcBaseFacts B nid initId bmB)(T:OwnTail h bmB bm){mN:Str->Option Value}{aP:List Value}{kw:List (Str×Value)}{fI:Addr}{oI:Obj}{Q:Fin->Shared->Prop}
  (hC:h.get? C=some (excClassObj nm q C N bs bm hdct sn sub ab col dd k0 k1 k2 k3 k5 newId)) (hn:h.Ns N mN) (hi:mN "__init__"=some (.ref fI)) (hfI:h.get? fI=some oI) (hfc:oI.cls=.type "function")
  (hq:∀h' e,h.objs.size<=e->Heap.MadeExcOf h h' e (.ref C) aP->wpAny (model prog w) A (call (.ref fI) (.ref e::aP) kw) (fun r s' =>r=.none/\Q (.done (.ret (.ref e))) s') E ⟨h',g,d,t,os⟩) (hrest:aP.length<=sizeLine:=by size_fits) :
  wpAny (model prog w) A (Builtin.«type.__call__» ⟨.ref C::aP,kw⟩) Q E ⟨h,g,d,t,os⟩:=by
 repeat(first|with_reducible refine Dw hC ?_|with_reducible refine wpAny_madeBy_exc hC ?_|wp_step)
 refine codeAny_call_builtin_code (Code.quiet_builtin _ Fn.quiet) (nG Fn hBn T hC ?_);refine tQ Fn hBn F T hC ?_ hrest;show wpAny _ _ _ _ _ _
 have hC₁:=CV {cls:=.ref C,data:=.fields #[.ref h.objs.size,.none,.none,.none,.bool false,.none]}
  (CV {cls:=.type "tuple",data:=.seq aP.toArray} hC)
 have hfI₁:=CV {cls:=.ref C,data:=.fields #[.ref h.objs.size,.none,.none,.none,.bool false,.none]}
  (CV {cls:=.type "tuple",data:=.seq aP.toArray} hfI)
 have hn₁:((h.push {cls:=.type "tuple",data:=.seq aP.toArray}).push {cls:=.ref C,data:=.fields #[.ref h.objs.size,.none,.none,.none,.bool false,.none]}).Ns N mN :=
  let⟨o,es,ep,e,r⟩:=hn;⟨o,es,ep,CV _ (CV _ e),r⟩
 have hget:((h.push {cls:=.type "tuple",data:=.seq aP.toArray}).push
   {cls:=.ref C,data:=.fields #[.ref h.objs.size,.none,.none,.none,.bool false,.none]}).get? (h.objs.size+1)=some
   {cls:=.ref C,data:=.fields #[.ref h.objs.size,.none,.none,.none,.bool false,.none]}:=by heap_get
 have hcC:(Value.ref C::bm).contains (.ref C)=true:=by simp
 have T₁:=T.keeps (h' :=(h.push {cls:=.type "tuple",data:=.seq aP.toArray}).push {cls:=.ref C,data:=.fields #[.ref h.objs.size,.none,.none,.none,.bool false,.none]})
  fun b o e=>CV _ (CV _ e)
 unfold isInstance
 repeat(first|with_reducible refine Dw hget ?_|(with_reducible refine Ep hC₁ ?_;rw[hcC])|wp_step)
 show wpAny _ _ (typeLookup (.ref C) _) _ _ _;refine wpAny_typeLookup_tail hC₁ hn₁ T₁ F.mroIs F.init.lookup ?_;rw[hi];refine DV (CU ?_);unfold bindSpecial;refine CU (wpAny_typeOf (T:="function") ⟨_,hfI₁,hfc⟩ ?_);rw[Cd (by decide)];refine Ce (CU (DS (hq _ (h.objs.size+1) (EU _) ⟨fun b o hb=>CV _ (CV _ hb),Ee (EU _),h.objs.size,hget,Ee (Ca _),?_⟩) (fun r s' hr=> ?_) fun _ _ x=>x))
 ·exact CV _ (Heap.get?_push_at rfl rfl)
 ·obtain⟨rfl,hQ⟩:=hr
  wp_walk
  exact hQ
theorem pj(Fn:ExcBaseFacts Bn newId inN bmN)(hBn:bmB.contains (.type Bn)=true)(F:ExcBaseFacts B nid initId bmB)(T:OwnTail h bmB bm){mN:Str->Option Value}{aP:List Value}{kw:List (Str×Value)}{fI:Addr}{oI:Obj}{Q:Value->Shared->Prop}
  (hC:h.get? C=some (excClassObj nm q C N bs bm hdct sn sub ab col dd k0 k1 k2 k3 k5 newId)) (hn:h.Ns N mN) (hi:mN "__init__"=some (.ref fI)) (hfI:h.get? fI=some oI) (hfc:oI.cls=.type "function")
  (hq:∀h' e,h.objs.size<=e->Heap.MadeExcOf h h' e (.ref C) aP->wpAny (model prog w) (A.under (.builtin "type.__call__" ⟨.ref C::aP,kw⟩)) (call (.ref fI) (.ref e::aP) kw) (fun r s' =>r=.none/\Q (.ref e) s') E ⟨h',g,d,t,os⟩) (hrest:aP.length<=sizeLine:=by size_fits) :
  wpAny (model prog w) A (call (.ref C) aP kw) Q E ⟨h,g,d,t,os⟩:=by
 have f1:=tc_lookup;have f2:=tc_bind (.ref C);have hT:(⟨h,g,d,t,os⟩:Shared).TypeIs (.ref C) "type":=⟨_,hC,rfl⟩;refine Ev (codeAny_of_tree ?_);show wpAny _ _ (callAny (.ref C) _) _ _ _
 repeat(any_goals (first|assumption|with_reducible refine Dw hC ?_|wp_step))
 refine⟨rfl,?_⟩;have typ:W.Looks (model prog w) h (isInstance (.ref C) (.type "type")) true:=((W.Looks.ld hC).andThen .now).andThen (W.Looks.of_pure tc_sub);refine codeAny_call_builtin_at (Code.quiet_builtin _ (by decide +kernel)) entry_typeCall (W.check_slot tc_kind tc_split typ (W.tc_args _ _ _) (ll (hrest:=hrest) Fn hBn F T hC hn hi hfI hfc fun h' e hz hm=> ?_));exact hq h' e hz hm
end
theorem kB{h:Heap}{bmB tl:List Value}{self:Value}(T:OwnTail h bmB tl)(hp:refuseLoop self "__setattr__" bmB=pure ()):refuseLoop self "__setattr__" tl=pure ():=by
 induction T with
 | base=>exact hp
 | own _ _ _ _ ih=>rw[refuseLoop_ref];exact ih
section
open PySem.W Builtin Builtin.ObjectAttr
variable{prog:Program}{w:World}{A:Around}{E:Value->Shared->Prop}{s:Shared}{K:Frag}{x C:Addr}{name:Str}{v:Value}{cd:ClassData}{o:Obj}
theorem setx{Q:Unit->Shared->Prop}(X:K.In s.heap)(hx:s.heap.get? x=some o)(hcl:o.cls=.ref C)(hdn:o.dict=none)(hfd:∃vs,o.data=.fields vs)(hs:findIn K (.ref C) "__setattr__"=some (some (.builtin "object.__setattr__")))
  (hc:clsIn K C=some cd) (hd:cd.hasDict=true) (hob:mroIn K C (.type "object")=some true) (hp:refuseLoop (.ref x) "__setattr__" cd.mro=pure ()) (ht:takerIn K C name=some none)
  (h:∀h' d tk,s.heap.objs.size<=d->h'.get? x=some {o with dict:=some d}->h'.Ns1 d (fun y=>if y=name then some v else none)->(∀b ob,b≠x->s.heap.get? b=some ob->h'.get? b=some ob)->Q () {s with heap:=h',toks:=tk}) :
  wpAny (model prog w) A (setAttr (.ref x) name v) Q E s:=by
 obtain⟨vs,hvs⟩:=hfd;have I:InstAt s.heap x o C none:=⟨hx,hcl,by unfold notCls;rw[hvs],by rw[hdn];trivial⟩;refine set_plain X I hs ?_;have SF:=PySem.F.store_object;have sub:Looks (model prog w) s.heap (isInstance (.ref x) (.type "object")) true:=I.type.andThen (looks_mroIn X hob);refine codeAny_call_builtin SF.slot.plain SF.entry (@check_slot (model prog w) _ _ {s with toks:=s.toks+1} "object.__setattr__" "object" "__setattr__" (.ref x) [.str name s.toks,v] [] _ SF.kind SF.split sub (SF.args (.ref x) (.str name s.toks) v) ?_);obtain⟨attr,ha,hr⟩:=Option.bind_eq_some_iff.mp ht;have hm:Looks (model prog w) s.heap (mroOf (.ref C)) cd.mro:=(looks_clsIn X hc).andThen .now;have L3:Looks (model prog w) s.heap (storeTaker? attr) none:=by
  cases attr with
  | none=>exact .now
  | some a =>
   obtain⟨b,hb,hb2⟩:=Option.map_eq_some_iff.mp hr;refine(looks_takesIn X hb).andThen ?_;cases b
   ·exact .now
   ·cases hb2
 rw[osa_eq,refuse_eq];refine CU (CU (I.type.here (s:={s with toks:=s.toks+1}) (CU (hm.here (s:={s with toks:=s.toks+1}) ?_))));rw[hp];refine Ce (CU (I.type.here (s:={s with toks:=s.toks+1}) (CU ((looks_findIn X ha).here (s:={s with toks:=s.toks+1}) (CU (L3.here (s:={s with toks:=s.toks+1}) ?_))))));obtain⟨oc,odi,oda,osl⟩:=o;dsimp only at hcl hdn hvs;subst hcl hdn hvs;refine CU (Ce (CU (CU (wpAny_loadPart hx (CU (Looks.here (s:={s with toks:=s.toks+1}) (looks_clsIn X hc) ?_))))));rw[hd];have hx₁:(s.heap.push {cls:=.type "dict",data:=.dict #[]}).get? x=some ⟨.ref C,none,.fields vs,osl⟩:=CV _ hx;have hxs:x≠s.heap.objs.size:=Cu (Cc hx);refine CU (wpAny_alloc ?_);refine CU (wpAny_update hx₁ ?_);refine Ce ?_
 have hgd:((s.heap.push {cls:=.type "dict",data:=.dict #[]}).update x fun o=>{cls:=o.cls,dict:=some s.heap.objs.size,data:=o.data,slots:=o.slots}).get? s.heap.objs.size
   = some {cls:=.type "dict",data:=.dict #[]} :=
  (Heap.get?_update_ne _ _ _ _ hxs.symm).trans (Heap.get?_push_at rfl rfl)
 have hnd:((s.heap.push {cls:=.type "dict",data:=.dict #[]}).update x fun o=>{cls:=o.cls,dict:=some s.heap.objs.size,data:=o.data,slots:=o.slots}).Ns s.heap.objs.size (fun _=>none) :=
  ⟨_,#[],_,hgd,rfl,fun e he=>absurd he (by simp),fun _=>rfl⟩
 show wpAny _ _ (storeInDict s.heap.objs.size (.str name s.toks) name v) _ _ _;unfold storeInDict newKeyGuard;refine CU (Ce (CU (wpAny_nsSet1 (Heap.Ns1.of_empty hnd) fun h' hn' hs=> ?_)));obtain⟨oD,esD,epD,hoD,hdD,hcD⟩:=hn'.count (Within.cons name v Within.nil);refine CU (wpAny_lookBehind hoD (by rw[hdD];exact pastItsLine_dict (C9 hcD (by rw[C3,EG,DN];omega))) ?_);refine Ce (h h' s.heap.objs.size _ (Ca _) ?_ hn' fun b ob hbx hb=> ?_)
 ·exact(hs.2 x hxs).trans (ED _ hx₁ rfl)
 ·exact(hs.2 b (Cu (Cc hb))).trans ((Heap.get?_update_ne _ _ _ _ hbx).trans (CV _ hb))
end
end XE
namespace XE
open PySem PySem.W PyProof.Rows
section
variable{prog:Program}{w:World}{A:Around}{E:Value->Shared->Prop}{s:Shared}{K:Frag}{e C:Addr}{ox:Obj}{od:Option Obj}{name:Str}{v:Value}
theorem Bj{expr:Bool}{Q:Value->Shared->Prop}(c:XC K C)(X:K.In s.heap)(I:InstAt s.heap e ox C od)(hf:findObj K C od name=some (.value v))(hh:handedIn v=true)(h:Q v {s with toks:=s.toks+1}) :
  wpAny (model prog w) A (getAttr (.ref e) name expr) Q E s:=by
 obtain⟨hp,g,d,t,os⟩:=s;have q0:=I.type (M:=model prog w);have q1:=looks_findIn (M:=model prog w) X c.ga;have q2:=looks_findIn (M:=model prog w) X c.gn;have q3:=looks_find (M:=model prog w) X I hf;unfold getAttr getAttrBy;refine CU (wpAny_mkText (DV (CU (q0.at (CU (q1.at ?_))))));show wpAny _ _ (getAttrByItsOwn _ _ _ _ _ _) _ _ _;unfold getAttrByItsOwn hookBefore;refine CU ?_;show wpAny _ _ (typeLookup _ _) _ _ _;refine q2.at ?_;refine CU (wpAny_attempt (DV ?_));rw[show∀nv:Value,callGetattribute (.ref e) nv (.builtin "BaseException.__getattribute__") expr=boundAndCalled (.builtin "BaseException.__getattribute__") (.ref e) nv from fun nv=>by cases expr<;>rfl];unfold boundAndCalled;rw[F.attr_ValueError.ga.bind (.ref e)];refine CU (Ce ?_);refine Ev (codeAny_call_builtin F.attr_ValueError.ga.plain F.entry_bexc_ga (ku c X I ?_));unfold Builtin.«object.__getattribute__»;refine CU (Ce ?_);refine CU (Ce ?_);refine CU (q0.at ?_);refine CU (q3.at ?_);refine Ce ?_;show wpAny _ _ (handedOut v) _ _ _;rw[handedOut_of hh];exact Ce h
end
end XE
namespace L2.XN
open PySem PySem.Spec PyProof.Rows L2 XE
noncomputable def XN(C:Addr)(dd:Option Addr)(e:Addr):HO:=.ext fun h=>∃t,h.get? e=some {cls:=.ref C,dict:=dd,data:=.fields #[.ref t,.none,.none,.none,.bool false,.none]}
noncomputable def XO(C:Addr)(dd:Option Addr)(e:Addr):HO:=.ext fun h=>∃o vs,h.get? e=some o/\o.cls=.ref C/\o.dict=dd/\o.data=.fields vs
noncomputable def uV(H:Hp)(C:Addr)(dd:Option Addr)(e:Addr):Prop:=H e=some (XN C dd e)\/H e=some (XO C dd e)
noncomputable def pF(H:Hp)(e:Addr):Hp:=fun b=>if b=e then none else H b
section
variable{P:Program}{w:World}{H H1 H2:Hp}{h h2:Heap}{e C:Addr}{dd:Option Addr}{o:HO}{fs ex:List Addr}
theorem xI{t:Addr}(q:h.get? e=some {cls:=.ref C,dict:=dd,data:=.fields #[.ref t,.none,.none,.none,.bool false,.none]}):aa P w H h e (XN C dd e) :=
 ⟨⟨t,q⟩,⟨_,q⟩,fun _ _ ⟨t,z⟩ k=>⟨t,k _ z⟩⟩
theorem Ai{ob:Obj}{vs:Array Value}(q:h.get? e=some ob)(q1:ob.cls=.ref C)(q2:ob.dict=dd)(q3:ob.data=.fields vs):aa P w H h e (XO C dd e) :=
 ⟨⟨ob,vs,q,q1,q2,q3⟩,⟨_,q⟩,fun _ _ ⟨ob,vs,z,z1,z2,z3⟩ k=>⟨ob,vs,k _ z,z1,z2,z3⟩⟩
theorem uV.at(x:uV H C dd e)(ok:bi P w H h):∃ob vs,h.get? e=some ob/\ob.cls=.ref C/\ob.dict=dd/\ob.data=.fields vs:=by
 rcases x with x|x
 ·obtain⟨⟨t,q⟩,_⟩:=ok e _ x
  exact⟨_,_,q,rfl,rfl,rfl⟩
 ·obtain⟨⟨ob,vs,q,q1,q2,q3⟩,_⟩:=ok e _ x
  exact⟨ob,vs,q,q1,q2,q3⟩
theorem uV.mono(x:uV H C dd e)(s:∀b o,H b=some o->H1 b=some o):uV H1 C dd e:=x.imp (s _ _) (s _ _)
theorem ij(ok:bi P w H h)(n:H e=none)(new:aa P w (upd H e o) h e o):bi P w (upd H e o) h:=fun b u q=>by
 by_cases hb:b=e
 ·subst hb;rw[aJ]at q;cases q;exact new
 ·rw[aD hb]at q
  exact(ok b u q).stay (fun _ _ _ z=>z) (fun c z=>by rw[aD (aH z n)];exact z) fun c xs z=>by rw[aD (aH z n)];exact z
theorem j5(u:Un fs ex H H1 h h2)(n:h.get? e=none)(n1:H1 e=none):Un fs ex H (upd H1 e o) h h2 :=
 ⟨u.keep,u.slot,fun b ob q z hx=>by rw[aD (fun y=>by rw[y,n]at q;cases q)];exact u.free b ob q z hx,u.there,fun b xs z=>by rw[aD (aH (u.tups b xs z) n1)];exact u.tups b xs z,
  fun b ob v z=>by rw[aD (aH (u.frzs b ob v z) n1)];exact u.frzs b ob v z,fun b ps z=>by
   obtain⟨m,y⟩:=u.tbls b ps z;exact⟨m,by rw[aD (aH y n1)];exact y⟩⟩
theorem bT{b:Addr}(h:b≠e):pF H e b=H b:=by unfold pF;rw[Ci h]
theorem br:pF H e e=none:=by unfold pF;rw[Cd rfl]
theorem wH{φ:Heap->Prop}(ok:bi P w H h)(he:H e=some (.ext φ)):bi P w (pF H e) h:=fun b u q=>by
 have hb:b≠e:=fun z=>by rw[z,br]at q;cases q
 rw[bT hb]at q;exact(ok b u q).stay (fun _ _ _ z=>z) (fun c z=>by rw[bT (fun y=>by rw[y,he]at z;cases z)];exact z) fun c xs z=>by rw[bT (fun y=>by rw[y,he]at z;cases z)];exact z
theorem xq{φ:Heap->Prop}(u:Un fs ex H H1 h h2)(he:H1 e=some (.ext φ)):Un fs ex H (pF H1 e) h h2 :=
 ⟨u.keep,u.slot,fun b ob q z hx=>by
  by_cases hb:b=e
  ·rw[hb,br]
  ·rw[bT hb];exact u.free b ob q z hx,u.there,fun b xs z=>by rw[bT (fun y=>by have:=u.tups b xs z;rw[y,he]at this;cases this)];exact u.tups b xs z,
  fun b ob v z=>by rw[bT (fun y=>by have:=u.frzs b ob v z;rw[y,he]at this;cases this)];exact u.frzs b ob v z,fun b ps z=>by
   obtain⟨m,y⟩:=u.tbls b ps z;exact⟨m,by rw[bT (fun x=>by rw[x,he]at y;cases y)];exact y⟩⟩
end
noncomputable abbrev bmV:List Value:=[.type "ValueError",.type "Exception",.type "BaseException",.type "object"]
noncomputable def excInI(K:W.Frag)(C fI:Addr):Bool:=match K.lookup C with
 | some ⟨.type "type",_,.cls cd,sl⟩=>(match cd.mro,sl.toList with
  | .ref C' ::bm,[_,_,_,_,some (.builtin n),_]=>C' ==C&&n=="ValueError.__new__"&& !cd.hasDel&&W.tailIn K bmV bm&&W.nsOkIn K cd.ns&&W.nsIn K cd.ns "__init__"==some (some (.ref fI))
  | _,_=>false)
 | _=>false
theorem mY{K:W.Frag}{h:Heap}{N:Addr}{mg:Str->Option Value}{n:Str}{v:Value}(X:K.In h)(G:h.Ns N mg)(e:W.nsIn K N n=some (some v)):mg n=some v:=by
 obtain⟨o,es,ep,ho,hd,_,hf⟩:=G;unfold W.nsIn at e
 split at e
 ·rename_i c d es' n' sl q
  have:=X _ _ q;rw[ho]at this;cases this;cases hd
  split at e
  ·rename_i en he
   cases e;rw[<- hf];unfold nsFind findBy;rw[<- Array.find?_toList,he];rfl
  ·split at e<;>cases e
 ·cases e
theorem jV{K:W.Frag}{h:Heap}{C fI:Addr}(X:K.In h)(q:excInI K C fI=true):∃tl N nm qn bs hdct sn sub ab col dd k0 k1 k2 k3 k5 mN,h.get? C=some (excClassObj nm qn C N bs tl hdct sn sub ab col dd k0 k1 k2 k3 k5 "ValueError.__new__")/\h.Ns N mN/\mN "__init__"=some (.ref fI)/\OwnTail h bmV tl /\
  ∀cd,W.clsIn K C=some cd->cd.mro=.ref C::tl:=by
 unfold excInI at q
 split at q
 case h_2=>cases q
 rename_i dd cd sl look
 split at q
 case h_2=>cases q
 rename_i C1 tl k0 k1 k2 k3 n k5 e1 e2;simp only[CZ,DL,Er]at q;obtain⟨⟨⟨⟨⟨z1,z2⟩,z3⟩,z4⟩,z5⟩,z6⟩:=q;subst z1 z2;have e0:∀cd',W.clsIn K C1=some cd' ->cd'.mro=.ref C1::tl:=fun cd' z=>by
  unfold W.clsIn at z;rw[look]at z;cases z;exact e1
 obtain⟨c1,c2,c3,c4,c5,c6,c7,c8,c9,c10,c11⟩:=cd;dsimp only at e1 z3 z5 z6;subst e1 z3;obtain⟨l⟩:=sl;dsimp only at e2;subst e2;exact⟨tl,_,_,_,_,_,_,_,_,_,_,_,_,_,_,_,_,X _ _ look,.of_isNs (W.isNs_of_in X z5),mY X (.of_isNs (W.isNs_of_in X z5)) z6,W.tail_of_in X z4,e0⟩
structure xh(K:W.Frag)(C fI:Addr)(nm:Str):Prop where
 exc:excInI K C fI=true
 fn:∃oI,K.lookup fI=some oI/\oI.cls=.type "function"
 kp:W.keepIn K (.ref C)=true
 xc:XC K C
 sa:W.findIn K (.ref C) "__setattr__"=some (some (.builtin "object.__setattr__"))
 hd:W.hasDictIn K C=true
 tk:W.takerIn K C nm=some none
 at_:W.findIn K (.ref C) nm=some none
section
variable{X:Cx}{pins:List (Addr×Obj)}{σ:St}{H:Hp}{s:Shared}{C f e:Addr}{nm:Str}{k:Nat}{fd:FuncData}{ps:List Str}{sp:Sp}{E:XK}{Q:VK}{us ws:List Value}{zs:List V}{kw:List (Str×Value)}
theorem vG(M:xh X.K C f nm)(F:aj X.prog X.w X.K X.mg X.base dg k f fd ps sp)(hr:bO (k+1) X.A)(hl:us.length<=sizeLine)(hb:∀(s:Shared) (e:Value),X.K.In s.heap->BindsTo s fd ⟨e::us,kw⟩ (ps.zip (e::ws)))(r:aK zs ws)(I:Inv X pins σ H s)
  (h:∀e,H e=none->sp (.ref e::zs) (upd H e (XN C none e)) (fun v H2=>v=.non/\Q (.ref e) H2) E):wpAny (model X.prog X.w) X.A (call (.ref C) us kw) (EP X pins σ Q) X.xe s:=by
 obtain⟨tl,N,nm',qn,bs,hdct,sn,sub,ab,col,dd,k0,k1,k2,k3,k5,mN,hC,hN,hi,T,_⟩:=jV I.kIn M.exc;obtain⟨oI,hoI,hfc⟩:=M.fn;have FV:=PySem.F.excBase_ValueError;have go:∀h' e,s.heap.objs.size<=e->Heap.MadeExcOf s.heap h' e (.ref C) us->wpAny (model X.prog X.w) (X.A.under (.builtin "type.__call__" ⟨.ref C::us,kw⟩)) (call (.ref f) (.ref e::us) kw) (fun r s' =>r=.none/\EP X pins σ Q (.ref e) s') X.xe {s with heap:=h'}:=fun h' e hz hm=>by
  obtain⟨t,he,_,_⟩:=hm.there;have I2:Inv X pins σ (upd H e (XN C none e)) {s with heap:=h'}:=I.laid (t' :=s.toks) hm.keeps hz (xI he);refine Ev (codeAny_mono (F.run _ X.stack _ _ ⟨.ref e::us,kw⟩ (.ref e::ws) (V.ref e::zs) _ E (hr.make C us kw) (I2.env0.make C us kw) (hb _ _ I2.kIn) (.cons rfl r) (h e (I.hok.fresh hz))) fun r s' hq' => ?_);cases r with
  | error e=>exact hq'.elim
  | ok fl =>
   cases fl with
   | ret u =>
    obtain⟨v,H',I3,rv,ev,q3⟩:=I2.after hq';subst ev;exact⟨rv,⟨V.ref e,H',I3,rfl,q3⟩⟩
   | next=>exact False.elim hq'
   | brk=>exact False.elim hq'
   | cont=>exact False.elim hq'
 obtain⟨hp,g,d,t,os⟩:=s;exact pj FV (by decide) FV T hC hN hi (I.kIn _ _ hoI) hfc go hl
end
end L2.XN
namespace L2.XN
open PySem PySem.Spec PyProof.Rows L2 XE
section
variable{X:Cx}{pins:List (Addr×Obj)}{σ:St}{H:Hp}{s:Shared}{C f e:Addr}{nm x:Str}{k:Nat}{fd:FuncData}{ps:List Str}{sp:Sp}{E:XK}{Q:VK}{p pos pos' :Pos}{e1 o value:Expr}{es:List Expr}{t:TA}{ta tv te:TE}{dvs:List V}{ds:List Value}
noncomputable def tMkx(C:Addr)(sp:Sp)(dvs:List V)(E:XK)(t:TA):TE:=fun σ H Q=>t σ H fun vs H1=>vs.length<=sizeLine/\∀e,H1 e=none->sp (.ref e::(vs++dvs)) (upd H1 e (XN C none e)) (fun v H2=>v=.non/\Q (.ref e) H2) E
theorem vH{us:List Value}{vs:List V}(M:xh X.K C f nm)(F:aj X.prog X.w X.K X.mg X.base dg k f fd ps sp)(hr:bO (k+1) X.A)(hb:Binds X.K fd ps ds)(hd:aK dvs ds)(I:Inv X pins σ H s)(r:aK vs us)(hz:vs.length<=sizeLine)
  (h:∀e,H e=none->sp (.ref e::(vs++dvs)) (upd H e (XN C none e)) (fun v H2=>v=.non/\Q (.ref e) H2) E):wpAny (model X.prog X.w) X.A (call (.ref C) us) (EP X pins σ Q) X.xe s:=by
 have hl:(Value.none::us++ds).length=ps.length:=by
  have e:=F.len _ _ _ _ (h s.heap.objs.size (I.hok.fresh (Ca _)));have e2:=(r.append hd).length;simp only[C3,Cm]at e e2 ⊢;omega
 refine vG (kw:=[]) (ws:=us++ds) M F hr (by rw[<- r.length];exact hz) (fun s e X=> ?_) (r.append hd) I h;exact hb s (e::us) X (by simpa using hl)
theorem ye(M:xh X.K C f nm)(F:aj X.prog X.w X.K X.mg X.base dg k f fd ps sp)(hr:bO (k+1) X.A)(hg:Gl X x)(hm:X.mg x=some (.ref C))(hb:Binds X.K fd ps ds)(hd:aK dvs ds)(ha:PA X (e1::es) t)
  (hdb:(x==("__debug__":Str))=false:=by decide) (he:starEach (e1::es) X.env=(false,eval e1 X.env)::starEach es X.env:=by rfl) (hpl:(backTo pos (starEach es X.env)).any (·.1)=false:=by rfl):PE X (.Call (.Name x p) (e1::es) [] pos) (tMkx C sp dvs E t):=by
 intro pins s σ H Q I h;refine EO (eB I hg hm ?_ hdb);refine W.callWith_K (h₀:=X.base) I.ok.mod.kin M.kp (af (ha pos pins s σ H _ I h) fun us s1 ⟨vs,H1,I1,r,hz,q⟩=>⟨I1.kIn,?_⟩) he hpl;exact vH M F hr hb hd I1 r hz q
noncomputable def A6(K:W.Frag)(ta tv:TE)(f:Str):TS:=fun D σ H=>tv σ H fun y H1=>ta σ H1 fun x H2=>∃e C fI,x=.ref e/\H2 e=some (XN C none e)/\xh K C fI f/\∀d,H2 d=none->d≠e->D.nx σ (upd (upd H2 e (XN C (some d) e)) d (.xd [(f,y)]))
theorem vO{f:Str}(ha:PE X o ta)(hv:PE X value tv)(hs:swapsWith value (some (.Attribute o f pos')) pos.line X.env=pure false):PS X (.Assign [.Attribute o f pos'] value pos) (A6 X.K ta tv f):=by
 intro pins s σ H D I h;refine plainObj_wpAny_Assign_Attribute (af (hv pins s σ H _ I h) fun u s1 ⟨y,H1,I1,ry,q⟩=>af (ha pins s1 σ H1 _ I1 q) fun ov s2 ⟨x,H2,I2,rx,e,C,fI,ex,ea,M,q2⟩=> ?_) hs;subst ex;obtain rfl:ov=Value.ref e:=rx;obtain⟨⟨t,he⟩,_⟩:=I2.hok e _ ea;obtain⟨cd,hc,hd⟩:=W.any_some M.hd;obtain⟨tl,N,nm',qn,bs,hdct,sn,sub,ab,col,dd,k0,k1,k2,k3,k5,mN,hC,hN,hi,T,hmro⟩:=jV I2.kIn M.exc;refine setx (cd:=cd) I2.kIn he rfl rfl ⟨_,rfl⟩ M.sa hc hd M.xc.ob ?_ M.tk fun h' d tk hz hx hn kp=> ?_
 ·rw[hmro cd hc,refuseLoop_ref]
  exact kB T (PySem.F.store_ValueError.passes _)
 ·have hde:d≠e:=fun z=>absurd (Cc he) (by rw[<- z];exact Nat.not_lt.mpr hz)
  have hn2:H2 d=none:=I2.hok.fresh hz;have hd0:s2.heap.get? d=none:=Ee hz;have J:Inv X pins σ (upd (upd H2 e (XN C (some d) e)) d (.xd [(f,y)])) {s2 with heap:=h',toks:=tk}:=by
   have mu:Ac (H2 e):=by rw[ea];exact True.intro
   have n2:upd H2 e (XN C (some d) e) d=none:=by rw[aD hde];exact hn2
   refine I2.un (j5 (Un.write mu (.inl rfl) kp ⟨_,hx⟩) hd0 n2) (ij (I2.hok.write mu (.inl rfl) kp ⟨_,hx⟩ (xI hx)) n2 ⟨_,hn,fun g=> ?_⟩);show df ((match g==f with|true=>some y|false=>none):Option V) (if g=f then some u else none)
   by_cases hg:g=f
   ·rw[Cd hg,DL.mpr hg];exact ry
   ·rw[Ci hg,beq_false_of_ne hg];exact True.intro
  exact⟨σ,_,J,q2 d hn2 hde⟩
noncomputable def Al(K:W.Frag)(ta:TE)(f:Str):TE:=fun σ H Q=>ta σ H fun x H1=>∃e C fI d fs v,x=.ref e/\uV H1 C (some d) e/\H1 d=some (.xd fs)/\xh K C fI f/\fs.lookup f=some v/\Q v H1
theorem va{f:Str}(he:PE X o ta)(hb:attributeBase o f X.env (eval o X.env)=eval o X.env):PE X (.Attribute o f pos) (Al X.K ta f):=by
 intro pins s σ H Q I h;refine ww hb (af (he pins s σ H _ I h) fun u s1 hpq=> ?_);obtain⟨x,H1,I1,rx,e,C,fI,d,fs,v,ex,ea,ed,M,l,q⟩:=hpq;subst ex;obtain rfl:u=Value.ref e:=rx;obtain⟨ob,vs,h1,h2,h3,h4⟩:=ea.at I1.hok;obtain⟨mA,hn,r⟩:=I1.hok d _ ed;obtain⟨u',hu,ru⟩:=df.some_of (v:=v) (o:=mA f) (by rw[<- l];exact r f);obtain⟨od,ho,hl⟩:=eX hn;have J:W.InstAt s1.heap e ob C (some od):=⟨h1,h2,by unfold W.notCls;rw[h4],by rw[h3];exact ho⟩;exact Bj M.xc I1.kIn J (W.findObj_own M.hd M.at_ rfl (by rw[hl,hu])) (pU ru) ⟨v,H1,I1.tok _,ru,q⟩
theorem lE{c:V}{u:Value}{b:Bool}(xc:XC X.K C)(hu:∀v,RelV c v->v=u)(k:W.kitOne X.K (.ref C) u=some b):bA X (.builtin "isinstance") (fun xs H Q=>∃e dd,xs=[.ref e,c]/\uV H C dd e/\(∀d,dd=some d->∃fs,H d=some (.xd fs))/\Q (.bl b) H):=by
 intro pins s σ H xs us Q I r h;obtain⟨e,dd,rfl,hx,hd,q⟩:=h;obtain⟨u1,u2,rfl,r1,r2⟩:=vals2 r;cases r1;rw[hu u2 r2];obtain⟨ob,vs,h1,h2,h3,h4⟩:=hx.at I.hok;have ia:∃od,W.InstAt s.heap e ob C od:=by
  cases dd with
  | none=>exact⟨none,h1,h2,by unfold W.notCls;rw[h4],by rw[h3];trivial⟩
  | some d =>
   obtain⟨fs,ed⟩:=hd d rfl;obtain⟨mA,hn,r⟩:=I.hok d _ ed;obtain⟨od,ho,hl⟩:=eX hn;exact⟨some od,h1,h2,by unfold W.notCls;rw[h4],by rw[h3];exact ho⟩
 obtain⟨od,ia⟩:=ia;exact Dt (kitx xc) I.kIn ⟨ob,od,ia⟩ k (fun z=>by cases z) fun tk=>⟨.bl b,H,I.tok _,rfl,q⟩
end
noncomputable def uP(s:Shared)(v:Value):Prop:=∃e t d C nm q N bs bm hdct sn sub ab col dd k0 k1 k2 k3 k5 newId,v=.ref e/\bm.contains (.type "BaseException")=true/\s.heap.get? C=some (excClassObj nm q C N bs bm hdct sn sub ab col dd k0 k1 k2 k3 k5 newId) /\
 s.heap.get? e=some {cls:=.ref C,dict:=d,data:=.fields #[.ref t,.none,.none,.none,.bool false,.none]}
theorem kK{M:Model}{A:Around}{E:Value->Shared->Prop}{env:Env}{s:Shared}{x:Sem Value}{Q:Flow->Shared->Prop}(hh:A.handled=none)(h:wpAny M A x (fun v s₁=>uP s₁ v/\E v s₁) E s) :
  wpAny M A (raiseStmt env (some x) none) Q E s:=by
 unfold raiseStmt;refine CU (DS h (fun v s₁ h₁=> ?_) fun _ _ x=>x);obtain⟨⟨e,t,d,C,nm,q,N,bs,bm,hdct,sn,sub,ab,col,dd,k0,k1,k2,k3,k5,newId,rfl,hbase,hC,he⟩,hE⟩:=h₁;have hcB:(Value.ref C::bm).contains (.type "BaseException")=true:=by rw[D6,hbase,Bool.or_true]
 obtain⟨hp,g,d,tk,os⟩:=s₁
 repeat(first|with_reducible refine Dw he ?_|with_reducible refine Dw hC ?_|(with_reducible refine Ep hC ?_;rw[hcB])|wp_step)
 exact wpAny_raiseNew_none hh hE
section
variable{X:Cx}{ex:Expr}{te:TE}{pos:Pos}
noncomputable def ur(K:PySem.W.Frag)(W:Addr->Addr->Option Addr->Hp->Prop)(te:TE):TS:=fun _ σ H=>te σ H fun x H1=>∃e C fI f dd,x=.ref e/\xh K C fI f/\H1 e=some (XN C dd e)/\W e C dd H1
theorem o7{W:Addr->Addr->Option Addr->Hp->Prop}(hc:X.calm=true)(he:PE X ex te)(hx:∀pins σ H s e C dd,Inv X pins σ H s->H e=some (XN C dd e)->W e C dd H->X.xe (.ref e) s):PS X (.Raise (some ex) none pos) (ur X.K W te):=by
 intro pins s σ H D I q;rw[arm_exec_Raise];refine CU (wpAny_standAt ?_);show wpAny _ _ (raiseStmt _ (some (eval ex X.env >>= fun v=>standAt pos >>= fun _=>pure v)) none) _ _ _;refine kK (I.ok.hd hc) (CU (af (he pins s σ H _ I q) fun u s1 ⟨x,H1,I1,rx,e,C,fI,f,dd,ex,M,ea,w⟩=>CU (wpAny_standAt (Ce ?_))));subst ex;obtain rfl:u=Value.ref e:=rx;obtain⟨⟨t,h1⟩,_⟩:=I1.hok e _ ea;obtain⟨tl,N,nm',qn,bs,hdct,sn,sub,ab,col,dd',k0,k1,k2,k3,k5,mN,hC,hN,hi,T,hmro⟩:=jV I1.kIn M.exc;exact⟨⟨e,t,dd,C,_,_,_,_,_,_,_,_,_,_,_,_,_,_,_,_,_,rfl,T.hasType rfl,hC,h1⟩,hx pins σ H1 s1 e C dd I1 ea w⟩
end
section
variable{P:Program}{w:World}{K:W.Frag}{mg:Str->Option Value}{base:Heap}{N:List Str}{qual:Str}{scope:Scope}{f C:Addr}{cd:Value}{A:Around}{outer:List Env}{s s1:Shared}{H H1:Hp}{E:XK}
 {pins:List (Addr×Obj)} {σ:St}
theorem mK{e:Addr}{dd:Option Addr}(I:Inv (eH (uW P w C) P w K mg base N qual scope f cd A outer s H E) pins σ H1 s1)(hn:H e=none)(ea:H1 e=some (XN C dd e))(q:E (.ref C) dd (pF H1 e)) :
  (eH (uW P w C) P w K mg base N qual scope f cd A outer s H E).xe (.ref e) s1:=by
 obtain⟨⟨t,he⟩,_⟩:=I.hok e _ ea;have n1:s.heap.get? e=none:=by
  cases q:s.heap.get? e with
  | none=>rfl
  | some o=>rw[I.base.free e o q hn (C8)]at ea;cases ea
 have nf:∀b∈fr (envOfC qual scope s.heap.objs.size f cd::outer),pF H1 e b=none:=fun b m=>by
  by_cases hb:b=e
  ·rw[hb,br]
  ·rw[bT hb];exact I.stkFree b m
 refine kf (s:=s1) (base:=base) I.ok.frames I.stack rfl he rfl rfl fun h2 T up hT fly=> ?_;refine⟨e,T,pF H1 e,dd,rfl,I.os,I.bare,xq (xK I.base up I.ok.above (fun b m=>by rw[Di.mp m];exact n1)) ea,jg (wH I.hok ea) up nf (fun b m=>by rw[Di.mp m];exact br),n1,?_,br,?_,fly,q⟩
 ·cases q:s.heap.get? T with
  | none=>rfl
  | some o =>
   obtain⟨o',z⟩:=I.base.there T o q (C8);rw[hT]at z;cases z
 ·by_cases hb:T=e
  ·rw[hb,br]
  ·rw[bT hb];exact kq I.hok hT
end
end L2.XN
namespace L2.XN
open PySem PySem.Spec PyProof.Rows L2 XE
section
variable{X:Cx}{pins:List (Addr×Obj)}{σ:St}{H:Hp}{s:Shared}
noncomputable def qp(C:Addr)(i:Nat)(tb:(St->XK)->TS)(ts:Addr->Option Addr->TS):TS:=fun D σ H =>
 ∃E:St->XK,tb E D σ H/\∀σ' H' dd,σ'.length=σ.length->E σ' (.ref C) dd H' ->∀e,H' e=none->ts e dd (uL i D) (σ'.set i (some (.ref e))) (upd H' e (XO C dd e))
theorem nj{C D:Addr}{i:Nat}{n bx:Str}{bp hpos pos:Pos}{body suite:List Stmt}{b0:Stmt}{tb:(St->XK)->TS}{ts:Addr->Option Addr->TS}(hcalm:X.calm=true)(hst:X.stack=X.env::X.outer)(hf:X.env.frame=some X.env.locals)(hN:X.N.Nodup)(hi:X.N[i]? =some n)
  (hk:X.env.scope.names.lookup n=some .local) (hg:Gl X bx) (hm:X.mg bx=some (.ref D)) (hx:W.exmOne X.K (.ref C) (.ref D)=some true)
  (hb:∀(E:St->XK)(pn:List (Addr×Obj))(Wh:Value->Shared->Prop),uR (uW X.prog X.w C) (rT X pn Wh) E->jz (rT X pn Wh) body (tb E))
  (hs:∀(e:Addr)(dd:Option Addr)(pn:List (Addr×Obj)),jz (xX X e pn) (b0::suite) (ts e dd)) (hd:(bx==("__debug__":Str))=false:=by decide) :
  PS X (.Try body [.ExceptHandler (some (.Name bx bp)) (some n) (b0::suite) hpos] [] [] pos) (qp C i tb ts):=by
 intro pins s σ H D' I ⟨E,hq,hh⟩;refine wpAny_Try_except ?_
 let Wh:Value->Shared->Prop:=fun u s' =>wpAny (model X.prog X.w) X.A (noteFrame u X.env) (fun _ s2=>wpAny (model X.prog X.w) X.A (setFlight u none) (fun _ s3 =>
  wpAny (model X.prog X.w) X.A (handleBy u X.env [.ExceptHandler (some (.Name bx bp)) (some n) (b0::suite) hpos]) (SP X pins D') X.xe s3) X.xe s2) X.xe s'
 have hp:uR (uW X.prog X.w C) (rT X (X.pn++pins) Wh) E:=by
  intro p2 σ1 H1 s1 u s2 I1 ⟨e,T,H2,dd,hu,ho,hbr,un,ok,n1,n2,n3,n4,fly,q⟩;subst hu;have J1:Inv X pins σ1 H1 s1:=unpinned I.ok I1;have J2:Inv X pins σ1 H2 s2:=J1.call' (ch:=[]) ho un ok hbr (fun b z=>absurd z (by simp));have hfr:X.A.frames=some (X.env::X.outer):=by rw[<- hst];exact I.ok.frames
  have hfs:s2.heap.FunFrames X.base (X.env::X.outer):=by rw[<- hst];exact J2.stack
  have ns:∀b∈[e,T],s1.heap.get? b=none/\H2 b=none:=fun b m=>by
   rcases Co.mp m with r|r
   ·rw[r];exact⟨n1,n3⟩
   ·rw[Di.mp r];exact⟨n2,n4⟩
  have st:∀{h3:Heap},Up (fr (X.env::X.outer)) [e,T] s2.heap h3->Inv X pins σ1 H2 {s2 with heap:=h3}:=fun{h3} up=>by
   rw[<- hst]at up;exact J1.call' (ch:=[]) (s' :={s2 with heap:=h3}) ho (qe un up fun b m=>(ns b m).1) (jg ok up J2.stkFree fun b m=>(ns b m).2) hbr (fun b z=>absurd z (by simp))
  show wpAny _ _ (noteFrame (.ref e) X.env) _ _ s2;refine vo (base:=X.base) hfr hfs hf fly fun h3 T' up hT fly3=> ?_;have J3:=st up;refine wpAny_handleBy_cons (codeAny_handlers_test ?_) (by intro z;cases z);have K3:Inv (xX X e []) [] σ1 H2 {s2 with heap:=h3}:=Bb J3 (fun p z=>absurd z (by simp));refine eB K3 hg hm ?_ hd;obtain⟨oe,vs,oT,tts,e1,e2,e3,e4,e5,e6,e7,e8,e9⟩:=id fly3;have lt:W.Looks (model X.prog X.w) h3 (typeOf (.ref e)) (.ref C):=e2▸(W.Looks.ld e1).andThen .now;refine(W.exm_one (M:=model X.prog X.w) K3.kIn lt hx).here ?_;refine codeAny_handlers_suite_as ?_;refine land (s:={s2 with heap:=h3}) fly3 fun h4 k4 fly4=> ?_;obtain⟨oe4,vs4,oT4,ts4,f1,f2,f3,f4,f5,f6,f7,f8,f9⟩:=id fly4;have K4:Inv (xX X e (X.pn++pins)) [] σ1 (upd H2 e (XO C dd e)) {s2 with heap:=h4}:=by
   have up4:=up.land hT k4;rw[<- hst]at up4
   have J5:Inv X pins σ1 (upd H2 e (XO C dd e)) {s2 with heap:=h4}:=J1.call' (ch:=[]) (s' :={s2 with heap:=h4}) ho (j5 (qe un up4 fun b m=>(ns b m).1) n1 n3)
    (ij (jg ok up4 J2.stkFree fun b m=>(ns b m).2) n3 (Ai f1 f2 f3 f4)) hbr (fun b z=>absurd z (by simp))
   exact Bb J5 fun p m=>J5.pin p m
  refine dq (X:=xX X e (X.pn++pins)) K4 hN hi (.inl hk) (v:=.ref e) rfl (fun s5 I5=> ?_) (.inr hk);refine DS (hs e dd _ [] s5 _ _ (uL i D') I5 (hh σ1 H2 dd ?_ q e n3)) (fun f s6 r=> ?_) fun _ _ z=>z.elim
  ·rw[J1.len,I.len]
  have fin:∀σ6 H6 v0,Inv (xX X e (X.pn++pins)) [] σ6 H6 s6->(∀s7,Inv X pins (σ6.set i none) H6 s7->SP X pins D' f s7)->v0=v0 ->
    wpAny (model X.prog X.w) X.A (do bindName X.env n .none;unbindBehindTheSuite X.env n hpos) (fun _ s3=>SP X pins D' f s3) X.xe s6:=fun σ6 H6 (v0:Nat) I6 k _=>by
   have J6:Inv X pins σ6 H6 s6:=BL I.ok I6 fun p m=>m;refine CU (wpAny_bindName (dq J6 hN hi (.inl hk) (v:=.non) rfl (fun s7 J7=> ?_) (.inr hk)));unfold unbindBehindTheSuite;refine wpAny_onRaise (zk J7 hN hi hk (v:=.non) ?_ fun s8 J8=> ?_)
   ·rw[DE (by rw[J6.len];exact(Ch.mp hi).1)]
   ·rw[List.set_set]at J8
    exact k s8 J8
  cases f with
  | next =>
   obtain⟨σ6,H6,I6,q6⟩:=r;exact fin σ6 H6 0 I6 (fun s7 J=>⟨_,_,J,q6⟩) rfl
  | brk =>
   obtain⟨σ6,H6,I6,q6⟩:=r;exact fin σ6 H6 0 I6 (fun s7 J=>⟨_,_,J,q6⟩) rfl
  | cont =>
   obtain⟨σ6,H6,I6,q6⟩:=r;exact fin σ6 H6 0 I6 (fun s7 J=>⟨_,_,J,q6⟩) rfl
  | ret u =>
   obtain⟨v,σ6,H6,I6,rv,q6⟩:=r;exact fin σ6 H6 0 I6 (fun s7 J=>⟨v,_,_,J,rv,q6⟩) rfl
 refine DS (hb E _ Wh hp [] s σ H D' (pinned I) hq) (fun f s1 r=> ?_) fun _ _ r=>r;cases f with
 | next =>
  obtain⟨σ6,H6,I6,q6⟩:=r;exact Ei ⟨σ6,H6,unpinned I.ok I6,q6⟩
 | brk =>
  obtain⟨σ6,H6,I6,q6⟩:=r;exact⟨σ6,H6,unpinned I.ok I6,q6⟩
 | cont =>
  obtain⟨σ6,H6,I6,q6⟩:=r;exact⟨σ6,H6,unpinned I.ok I6,q6⟩
 | ret u =>
  obtain⟨v,σ6,H6,I6,rv,q6⟩:=r;exact⟨v,σ6,H6,unpinned I.ok I6,rv,q6⟩
end
end L2.XN
namespace L2.XN
open PySem PySem.Spec PyProof.Rows L2 XE
section
variable{X:Cx}{pins:List (Addr×Obj)}{σ:St}{H:Hp}{s:Shared}{C f e:Addr}{nm nk x:Str}{k:Nat}{fd:FuncData}{ps:List Str}{sp:Sp}{E:XK}{Q:VK}{p pos kpos:Pos}{e1:Expr}{te:TE}
end
end L2.XN
namespace L2.XN
open PySem PySem.Spec PyProof.Rows L2 XE
section
variable{P:Program}{w:World}{K:W.Frag}{mg:Str->Option Value}{base:Heap}{N ps:List Str}{qual:Str}{scope:Scope}{f:Addr}{A:Around}{outer:List Env}{s s1:Shared}{H:Hp}{us:List Value}{vs:List V}{k:Nat}{sp:Sp}
end
section
variable{X:Cx}{k:Nat}{f:Addr}{fd:FuncData}{ps:List Str}{sp:Sp}{x:Str}{p pos:Pos}{e:Expr}{es:List Expr}{t:TA}
end
end L2.XN
namespace IR
open PySem PySem.Spec PyProof.Rows L2 L2.XN
section
variable(cd:Nat->List PV->Option PV)(xd:Nat->List PV->Bool)(fu:Nat)(cn:Str)
end
section
variable{cd:Nat->List PV->Option PV}{xd:Nat->List PV->Bool}{fu:Nat}{cn:Str}{C:Addr}{E:XK}{X:Cx}{ct:Ct}{Hi:Hp}{τ:En}
end
section
variable{cd:Nat->List PV->Option PV}{xd:Nat->List PV->Bool}{fu:Nat}{cn:Str}{τ τ1:En}{s:IS}{ss:qK}
end
section
variable{K:W.Frag}{mg:Str->Option Value}{P:Nat->Option FD}{F:List (Str×Nat)}{G:List (Str×PV)}{B:List Str}{p:Program}{w:World}{base:Heap}{k:Nat}
variable(hG:∀x v,G.lookup x=some v->∃u w,mg x=some u/\RelV w u/\∀Hi n H,Rp K Hi n v H w)(hB:∀x,B.contains x=true->mg x=none)
include hG hB
end
section
variable{K:W.Frag}{mg:Str->Option Value}{P:Nat->Option FD}{F0:List (Str×Nat)}{G0:List (Str×PV)}{B0:List Str}
end
end IR
namespace Law
open PySem PySem.Spec PyProof.Rows L2 IR
noncomputable def hJ(i:Nat):Stmt:=PySem.Challenge.pw_unstruck_k62_no_stair.main.body.getD i (.Pass ⟨0,0,0,0⟩)
noncomputable def F:List (Str×Nat):=[("columns_in",109),("has_all_of",141),("crossing_rows",142),("steps_of",143),("factors_of",144),("_law_cell",4),("_law_mixed",5),("_law_deep",20),("_law_board",6),("_law_whole",8),("_law_same",9),("_law_all_same",10),("_law_order",21),("_law_steps",145),("_law_stair",146),("_law_apart",209),("_law_pair",210),("_law_asked",211),("_law_good",212),("_law_turned",213),("law",214)]
noncomputable def G:List (Str×PV):=[("CELL",(.str "x")),("GREATEST_SIDE",(.int 8))]
noncomputable def B:List Str:=["len","int","list","tuple","all","min","max","isinstance","str","bool","range","zip","enumerate","sorted","ValueError"]
noncomputable abbrev sI:Stmt:=clsB (hJ 8) 0
noncomputable abbrev s109:Stmt:=hJ 3
noncomputable abbrev N109:List Str:=["line"]
noncomputable abbrev s141:Stmt:=hJ 11
noncomputable abbrev N141:List Str:=["line","other"]
noncomputable abbrev s142:Stmt:=hJ 12
noncomputable abbrev N142:List Str:=["board","row","line","below","other"]
noncomputable abbrev o5:Stmt:=hJ 13
noncomputable abbrev CM:List Str:=["board","rows"]
noncomputable abbrev rF:Stmt:=hJ 14
noncomputable abbrev CL:List Str:=["board","steps","noughts"]
noncomputable abbrev s4:Stmt:=hJ 16
noncomputable abbrev N4:List Str:=["_law_script","_law_k"]
noncomputable abbrev s5:Stmt:=hJ 17
noncomputable abbrev N5:List Str:=["_law_cell_here","_law_k","_law_number"]
noncomputable abbrev s20:Stmt:=hJ 18
noncomputable abbrev N20:List Str:=["_law_cell_here","_law_number","_law_k"]
noncomputable abbrev s6:Stmt:=hJ 19
noncomputable abbrev N6:List Str:=["_law_head","_law_cell_here","_law_most","_law_rows","_law_columns","_law_thick","_law_lines","_law_row","_law_signs","_law_column","_law_place","_law_one"]
noncomputable abbrev s8:Stmt:=hJ 21
noncomputable abbrev N8:List Str:=["_law_found"]
noncomputable abbrev s9:Stmt:=hJ 22
noncomputable abbrev N9:List Str:=["_law_found","_law_due"]
noncomputable abbrev s10:Stmt:=hJ 23
noncomputable abbrev N10:List Str:=["_law_found","_law_due","_law_one","_law_other"]
noncomputable abbrev s21:Stmt:=hJ 24
noncomputable abbrev N21:List Str:=["_law_cell_here","_law_many","_law_found","_law_k"]
noncomputable abbrev s145:Stmt:=hJ 25
noncomputable abbrev N145:List Str:=["_law_cell_here","_law_rows","_law_columns","_law_found","_law_k"]
noncomputable abbrev s146:Stmt:=hJ 26
noncomputable abbrev N146:List Str:=["_law_sizes","_law_columns","_law_cell_here","_law_lines","_law_order_here"]
noncomputable abbrev s209:Stmt:=hJ 27
noncomputable abbrev N209:List Str:=["_law_one","_law_other","_law_here","_law_there"]
noncomputable abbrev s210:Stmt:=hJ 28
noncomputable abbrev N210:List Str:=["_law_board_here","_law_one","_law_other"]
noncomputable abbrev o4:Stmt:=hJ 29
noncomputable abbrev CK:List Str:=["_law_board_here","_law_by_factors","_law_kept","error"]
noncomputable abbrev mH:Stmt:=hJ 30
noncomputable abbrev nS:List Str:=["_law_board_here","_law_pair_here","_law_by_factors","_law_kept"]
noncomputable abbrev mG:Stmt:=hJ 31
noncomputable abbrev lM:List Str:=["_law_board_here","_law_cell_here","_law_row","_law_column","_law_line","_law_sign"]
noncomputable abbrev vF:Stmt:=hJ 32
noncomputable abbrev N214:List Str:=["_law_script","_law_k","_law_head","_law_columns","_law_sizes","_law_board_here"]
noncomputable def B1:FD:=⟨1,1,
  (.cons (.ret [] (.lc2 (.var 0) (.enum (.var 0)) (.yes (.val (.cmp .Eq (.var 1) (.con (.str "x"))))) []))
  .nil)⟩
noncomputable def Bz:FD:=⟨2,2,
  (.cons (.ret [] (.bf .all (.cons (.lc (.cmp .Eq (.ix (.var 1) (.var 0)) (.con (.str "x"))) (.seq (.call 109 (.cons (.var 1) .nil))) .no [0]) .nil)))
  .nil)⟩
noncomputable def zn:FD:=⟨5,1,
  (.cons (.forr [1,2] false [0] (.enum (.var 0)) (.cons (.forr [3] true [] (.rng (.cons (.bin .Add (.var 1) (.con (.int 1))) (.cons (.bf .len (.cons (.var 0) .nil)) .nil))) (.cons (.asg 4 false [] (.ix (.var 0) (.var 3)))
  (.cons (.ife (.and (.not (.val (.call 141 (.cons (.var 2) (.cons (.var 4) .nil))))) (.not (.val (.call 141 (.cons (.var 4) (.cons (.var 2) .nil)))))) (.cons (.ret [1,3] (.tup (.cons (.var 1) (.cons (.var 3) .nil))))
  .nil) .nil)
  .nil)))
  .nil))
  (.cons (.ret [] (.con .non))
  .nil))⟩
noncomputable def By:FD:=⟨2,1,
  (.cons (.asg 1 false [] (.call 142 (.cons (.var 0) .nil)))
  (.cons (.ife (.val (.cmp .IsNot (.var 1) (.con .non))) (.cons .never
  .nil) .nil)
  (.cons (.ret [0] (.bf .sorted (.cons (.lc (.mth .count (.var 0) (.cons (.con (.str "x")) .nil)) (.seq (.var 0)) .no []) .nil)))
  .nil)))⟩
noncomputable def Bx:FD:=⟨3,1,
  (.cons (.asg 1 false [] (.call 143 (.cons (.var 0) .nil)))
  (.cons (.asg 2 false [] (.bin .Mult (.lst (.cons (.con (.int 0)) .nil)) (.bin .Sub (.con (.int 8)) (.bf .len (.cons (.var 1) .nil)))))
  (.cons (.ret [] (.bf .sorted (.cons (.lc2 (.bin .Sub (.var 1) (.var 0)) (.enum (.bin .Add (.var 2) (.var 1))) .no []) .nil)))
  .nil)))⟩
noncomputable def d4:FD:=⟨2,2,
  (.cons (.ife (.val (.cmp .Lt (.var 1) (.bf .len (.cons (.var 0) .nil)))) (.cons (.ret [] (.ix (.var 0) (.var 1)))
  .nil) .nil)
  (.cons (.ret [] (.con (.int 0)))
  .nil))⟩
noncomputable def d5:FD:=⟨3,2,
  (.cons (.asg 2 false [] (.bin .Mod (.bin .Add (.bin .Add (.bin .Mult (.bin .Mod (.var 0) (.con (.int 2147483647))) (.con (.int 39373))) (.bin .Mult (.bin .Mult (.con (.int 7877)) (.var 1)) (.var 1))) (.con (.int 60493))) (.con (.int 2147483647))))
  (.cons (.asg 2 false [] (.bin .Mod (.bin .Mult (.var 2) (.var 2)) (.con (.int 2147483629))))
  (.cons (.ret [2,1,2] (.bin .Mod (.bin .Mult (.bin .Add (.bin .Mult (.var 2) (.con (.int 48271))) (.var 1)) (.var 2)) (.con (.int 2147483587))))
  .nil)))⟩
noncomputable def d20:FD:=⟨3,1,
  (.cons (.ife (.val (.cmp .GtE (.var 0) (.bin .LShift (.con (.int 1)) (.con (.int 64))))) (.cons (.ret [0] (.bin .Sub (.var 0) (.bin .LShift (.con (.int 1)) (.con (.int 64)))))
  .nil) .nil)
  (.cons (.asg 1 false [] (.con (.int 0)))
  (.cons (.forr [2] true [] (.rng (.cons (.con (.int 8)) .nil)) (.cons (.asg 1 false [] (.bin .Add (.bin .Mult (.var 1) (.con (.int 2147483587))) (.call 5 (.cons (.var 0) (.cons (.bin .Add (.bin .Mult (.con (.int 7)) (.var 2)) (.con (.int 3))) .nil)))))
  .nil))
  (.cons (.ret [1] (.var 1))
  .nil))))⟩
noncomputable def d6:FD:=⟨12,3,
  (.cons (.asg 3 false [] (.bin .Add (.con (.int 1)) (.bin .Mod (.var 0) (.var 2))))
  (.cons (.asg 4 false [] (.bin .Add (.con (.int 1)) (.bin .Mod (.bin .FloorDiv (.var 0) (.con (.int 8))) (.var 2))))
  (.cons (.asg 5 false [] (.bin .Add (.con (.int 1)) (.bin .Mod (.bin .FloorDiv (.var 0) (.con (.int 64))) (.con (.int 8)))))
  (.cons (.asg 6 true [] (.lst .nil))
  (.cons (.forr [7] true [] (.rng (.cons (.var 3) .nil)) (.cons (.asg 8 false [] (.con (.str "")))
  (.cons (.forr [9] true [] (.rng (.cons (.var 4) .nil)) (.cons (.asg 10 false [] (.bin .Add (.bin .Mult (.var 4) (.var 7)) (.var 9)))
  (.cons (.asg 11 false [] (.cmp .Eq (.bin .Mod (.bin .FloorDiv (.var 1) (.bin .LShift (.con (.int 1)) (.var 10))) (.con (.int 2))) (.con (.int 1))))
  (.cons (.ife (.val (.cmp .Lt (.var 1) (.bin .LShift (.con (.int 1)) (.con (.int 64))))) (.cons (.asg 11 false [] (.cmp .Lt (.bin .Mod (.call 5 (.cons (.var 1) (.cons (.var 10) .nil))) (.con (.int 8))) (.var 5)))
  .nil) .nil)
  (.cons (.asg 8 false [8] (.bin .Add (.var 8) (.ix (.lst (.cons (.con (.str ".")) (.cons (.con (.str "x")) .nil))) (.bf .int (.cons (.var 11) .nil)))))
  .nil)))))
  (.cons (.app 6 [8] (.var 8))
  .nil))))
  (.cons (.ret [6] (.bf .tuple (.cons (.var 6) .nil)))
  .nil))))))⟩
noncomputable def d8:FD:=⟨1,1,
  (.cons (.ret [] (.and (.bf (.isin "int") (.cons (.var 0) .nil)) (.not (.bf (.isin "bool") (.cons (.var 0) .nil)))))
  .nil)⟩
noncomputable def d9:FD:=⟨2,2,
  (.cons (.ife (.val (.cmp .Is (.var 1) (.con .non))) (.cons (.ret [] (.cmp .Is (.var 0) (.con .non)))
  .nil) .nil)
  (.cons (.ife (.val (.bf (.isin "tuple") (.cons (.var 1) .nil))) (.cons (.ret [] (.and (.bf (.isin "tuple") (.cons (.var 0) .nil)) (.and (.cmp .Eq (.bf .len (.cons (.var 0) .nil)) (.bf .len (.cons (.var 1) .nil))) (.call 10 (.cons (.bf .list (.cons (.var 0) .nil)) (.cons (.bf .list (.cons (.var 1) .nil)) .nil))))))
  .nil) .nil)
  (.cons (.ife (.val (.bf (.isin "list") (.cons (.var 1) .nil))) (.cons (.ret [] (.and (.bf (.isin "list") (.cons (.var 0) .nil)) (.and (.cmp .Eq (.bf .len (.cons (.var 0) .nil)) (.bf .len (.cons (.var 1) .nil))) (.call 10 (.cons (.var 0) (.cons (.var 1) .nil))))))
  .nil) .nil)
  (.cons (.ife (.val (.bf (.isin "str") (.cons (.var 1) .nil))) (.cons (.ret [] (.and (.bf (.isin "str") (.cons (.var 0) .nil)) (.cmp .Eq (.var 0) (.var 1))))
  .nil) .nil)
  (.cons (.ret [] (.and (.call 8 (.cons (.var 0) .nil)) (.cmp .Eq (.var 0) (.var 1))))
  .nil)))))⟩
noncomputable def d10:FD:=⟨4,2,
  (.cons (.forr [2,3] false [0,1] (.zip (.var 0) (.var 1)) (.cons (.ife (.not (.val (.call 9 (.cons (.var 2) (.cons (.var 3) .nil))))) (.cons (.ret [] (.con (.bl false)))
  .nil) .nil)
  .nil))
  (.cons (.ret [] (.con (.bl true)))
  .nil))⟩
noncomputable def d21:FD:=⟨4,2,
  (.cons (.asg 2 true [] (.lst .nil))
  (.cons (.forr [3] true [] (.rng (.cons (.var 1) .nil)) (.cons (.ins 2 (.bin .Mod (.var 0) (.bin .Add (.var 3) (.con (.int 1)))) (.var 3))
  (.cons (.asg 0 false [] (.bin .FloorDiv (.var 0) (.bin .Add (.var 3) (.con (.int 1)))))
  .nil)))
  (.cons (.ret [2] (.var 2))
  .nil)))⟩
noncomputable def Bw:FD:=⟨5,3,
  (.cons (.asg 3 true [] (.lst .nil))
  (.cons (.forr [4] true [] (.rng (.cons (.var 1) .nil)) (.cons (.app 3 [] (.bin .Mod (.var 0) (.bin .Add (.var 2) (.con (.int 1)))))
  (.cons (.asg 0 false [] (.bin .FloorDiv (.var 0) (.bin .Add (.var 2) (.con (.int 1)))))
  .nil)))
  (.cons (.ret [3] (.bf .sorted (.cons (.var 3) .nil)))
  .nil)))⟩
noncomputable def Bv:FD:=⟨5,3,
  (.cons (.asg 3 false [] (.lc (.bin .Add (.bin .Mult (.con (.str "x")) (.var 0)) (.bin .Mult (.con (.str ".")) (.bin .Sub (.var 1) (.var 0)))) (.seq (.var 0)) .no [1]))
  (.cons (.asg 3 false [] (.lc (.ix (.var 1) (.var 0)) (.seq (.call 21 (.cons (.var 2) (.cons (.bf .len (.cons (.var 3) .nil)) .nil)))) .no [3]))
  (.cons (.asg 4 false [] (.call 21 (.cons (.bin .FloorDiv (.var 2) (.con (.int 40320))) (.cons (.var 1) .nil))))
  (.cons (.ret [3] (.bf .tuple (.cons (.lc (.mth .join (.con (.str "")) (.cons (.lc (.ix (.var 1) (.var 0)) (.seq (.var 1)) .no [0]) .nil)) (.seq (.var 3)) .no [4]) .nil)))
  .nil))))⟩
noncomputable def Bu:FD:=⟨4,2,
  (.cons (.asg 2 false [] (.lc (.var 0) (.rng (.cons (.bf .len (.cons (.var 0) .nil)) .nil)) (.yes (.and (.val (.cmp .Eq (.ix (.var 1) (.var 0)) (.con (.str "x")))) (.val (.cmp .Eq (.ix (.var 2) (.var 0)) (.con (.str ".")))))) [0,1]))
  (.cons (.asg 3 false [] (.lc (.var 0) (.rng (.cons (.bf .len (.cons (.var 0) .nil)) .nil)) (.yes (.and (.val (.cmp .Eq (.ix (.var 1) (.var 0)) (.con (.str ".")))) (.val (.cmp .Eq (.ix (.var 2) (.var 0)) (.con (.str "x")))))) [0,1]))
  (.cons (.ret [] (.and (.cmp .NotEq (.var 2) (.lst .nil)) (.cmp .NotEq (.var 3) (.lst .nil))))
  .nil)))⟩
noncomputable def Bt:FD:=⟨3,1,
  (.cons (.forr [1] true [] (.rng (.cons (.bf .len (.cons (.var 0) .nil)) .nil)) (.cons (.forr [2] true [] (.rng (.cons (.bin .Add (.var 1) (.con (.int 1))) (.cons (.bf .len (.cons (.var 0) .nil)) .nil))) (.cons (.ife (.val (.call 209 (.cons (.ix (.var 0) (.var 1)) (.cons (.ix (.var 0) (.var 2)) .nil)))) (.cons (.ret [1,2] (.tup (.cons (.var 1) (.cons (.var 2) .nil))))
  .nil) .nil)
  .nil))
  .nil))
  (.cons (.ret [] (.con .non))
  .nil))⟩
noncomputable def d211:FD:=⟨4,2,
  (.cons .never .nil)⟩
noncomputable def pe:FD:=⟨4,1,
  (.cons (.drop (.call 20020 (.cons (.con .non) .nil))) (.cons (.hand 1 uA) .nil))⟩
noncomputable def pd:FD:=⟨6,2,
  (.cons (.hand 2 j7) .nil)⟩
noncomputable def Bs:FD:=⟨6,1,
  (.cons (.ife (.not (.val (.call 212 (.cons (.call 6 (.cons (.call 4 (.cons (.var 0) (.cons (.con (.int 0)) .nil))) (.cons (.call 4 (.cons (.var 0) (.cons (.con (.int 1)) .nil))) (.cons (.con (.int 8)) .nil)))) .nil)))) (.cons (.ret [] (.con (.bl false)))
  .nil) .nil)
  (.cons (.forr [1] true [] (.rng (.cons (.con (.int 2)) (.cons (.bf .min (.cons (.bf .max (.cons (.bf .len (.cons (.var 0) .nil)) (.cons (.con (.int 3)) .nil))) (.cons (.con (.int 62)) .nil))) (.cons (.con (.int 3)) .nil)))) (.cons (.asg 2 false [] (.call 4 (.cons (.var 0) (.cons (.var 1) .nil))))
  (.cons (.asg 3 false [] (.bin .Add (.con (.int 1)) (.bin .Mod (.bin .FloorDiv (.var 2) (.con (.int 8))) (.con (.int 8)))))
  (.cons (.asg 4 false [] (.call 145 (.cons (.call 20 (.cons (.call 4 (.cons (.var 0) (.cons (.bin .Add (.var 1) (.con (.int 1))) .nil))) .nil)) (.cons (.bin .Add (.con (.int 1)) (.bin .Mod (.var 2) (.con (.int 8)))) (.cons (.var 3) .nil)))))
  (.cons (.asg 5 false [] (.call 146 (.cons (.var 4) (.cons (.var 3) (.cons (.call 20 (.cons (.call 4 (.cons (.var 0) (.cons (.bin .Add (.var 1) (.con (.int 2))) .nil))) .nil)) .nil)))))
  (.cons (.ife (.or (.not (.val (.call 212 (.cons (.var 5) .nil)))) (.not (.val (.call 212 (.cons (.call 213 (.cons (.var 5) (.cons (.bin .FloorDiv (.var 2) (.con (.int 64))) .nil))) .nil))))) (.cons (.ret [] (.con (.bl false)))
  .nil) .nil)
  .nil))))))
  (.cons (.ret [] (.con (.bl true)))
  .nil)))⟩
noncomputable def P:Nat->Option FD:=fun n=>match n with
 | 4=>some d4
 | 5=>some d5
 | 6=>some d6
 | 8=>some d8
 | 9=>some d9
 | 10=>some d10
 | 20=>some d20
 | 21=>some d21
 | 109=>some B1
 | 141=>some Bz
 | 142=>some zn
 | 143=>some By
 | 144=>some Bx
 | 145=>some Bw
 | 146=>some Bv
 | 209=>some Bu
 | 210=>some Bt
 | 211=>some d211
 | 212=>some pe
 | 213=>some pd
 | 214=>some Bs
 | 20000=>some ⟨1,1,.cons (.ret [] (.con .non)) .nil⟩
 | 20001=>some ⟨1,1,.cons (.ret [] (.call 20000 (.cons (.con .non) .nil))) .nil⟩
 | 20002=>some ⟨1,1,.cons (.ret [] (.call 20001 (.cons (.con .non) .nil))) .nil⟩
 | 20003=>some ⟨1,1,.cons (.ret [] (.call 20002 (.cons (.con .non) .nil))) .nil⟩
 | 20004=>some ⟨1,1,.cons (.ret [] (.call 20003 (.cons (.con .non) .nil))) .nil⟩
 | 20005=>some ⟨1,1,.cons (.ret [] (.call 20004 (.cons (.con .non) .nil))) .nil⟩
 | 20006=>some ⟨1,1,.cons (.ret [] (.call 20005 (.cons (.con .non) .nil))) .nil⟩
 | 20007=>some ⟨1,1,.cons (.ret [] (.call 20006 (.cons (.con .non) .nil))) .nil⟩
 | 20008=>some ⟨1,1,.cons (.ret [] (.call 20007 (.cons (.con .non) .nil))) .nil⟩
 | 20009=>some ⟨1,1,.cons (.ret [] (.call 20008 (.cons (.con .non) .nil))) .nil⟩
 | 20010=>some ⟨1,1,.cons (.ret [] (.call 20009 (.cons (.con .non) .nil))) .nil⟩
 | 20011=>some ⟨1,1,.cons (.ret [] (.call 20010 (.cons (.con .non) .nil))) .nil⟩
 | 20012=>some ⟨1,1,.cons (.ret [] (.call 20011 (.cons (.con .non) .nil))) .nil⟩
 | 20013=>some ⟨1,1,.cons (.ret [] (.call 20012 (.cons (.con .non) .nil))) .nil⟩
 | 20014=>some ⟨1,1,.cons (.ret [] (.call 20013 (.cons (.con .non) .nil))) .nil⟩
 | 20015=>some ⟨1,1,.cons (.ret [] (.call 20014 (.cons (.con .non) .nil))) .nil⟩
 | 20016=>some ⟨1,1,.cons (.ret [] (.call 20015 (.cons (.con .non) .nil))) .nil⟩
 | 20017=>some ⟨1,1,.cons (.ret [] (.call 20016 (.cons (.con .non) .nil))) .nil⟩
 | 20018=>some ⟨1,1,.cons (.ret [] (.call 20017 (.cons (.con .non) .nil))) .nil⟩
 | 20019=>some ⟨1,1,.cons (.ret [] (.call 20018 (.cons (.con .non) .nil))) .nil⟩
 | 20020=>some ⟨1,1,.cons (.ret [] (.call 20019 (.cons (.con .non) .nil))) .nil⟩
 | _=>none
end Law
namespace Law
open PySem IR L2
local macro_rules | `(tactic| walk_at "ev") => do
  let ids <- ("sc Option.bind_some Option.map_some Option.bind_none List.length_cons List.length_nil if_true if_false Nat.reduceAdd Nat.reduceSub List.map_cons List.map_nil List.replicate List.append_nil List.cons_append List.nil_append imm imms ik tR eh mn zd ze uE List.getD_cons_zero List.getD_cons_succ uo cI b8 cL cJ cN cB cC cK cM cD cE b9 cH cA cG cF uc ud z0t z0u qX qZ qa qY xm xl xF xG xE xH bB uh sx sv v5 vz wP zU zV so eC tM pV wL wM zW wr wj wl wo wn wk wq zt zu wX wW List.set_cons_zero List.set_cons_succ BF yW yX jE uq qm uB vD vB vC AD wv wu uJ uK pq px uG uF zN zM qy qx ux AE AB AC uH uI pK setU ix_L ix_T ix_O ix_S jK bZ yA xy yB yC xz nA iI nC mz nB my iH eq_self decide_true decide_false kl je kj ki jd jb jc iG iE iF iD reduceCtorEq bne_self_eq_false beq_self_eq_true Bool.true_bne Bool.bne_true Bool.false_bne Bool.bne_false LN Nat.reduceLeDiff Nat.reduceLT Nat.reducePow Int.reduceLT Int.reduceLE Int.reducePow Int.reduceNeg Int.natAbs_one and_self true_and and_true or_true true_or reduceIte Bool.not_true Bool.not_false Bool.and_true Bool.or_true Bool.or_false Bool.true_or Bool.false_or Bool.true_and Bool.and_false Bool.false_and Bool.false_eq_true keeps kX jX List.getElem?_cons_zero List.getElem?_cons_succ".splitOn " ").toArray.mapM fun s => do
   let i := Lean.mkIdent s.toName
   `(Lean.Parser.Tactic.simpLemma| $i:ident)
  `(tactic| (try simp -implicitDefEqProofs only [$ids,*]))
local macro_rules | `(tactic| walk_at "go") => `(tactic| (walk_at "ev"; repeat (rw [Cd (by first | omega | assumption | decide)]; walk_at "ev")))
theorem c4(k:Nat)(ns:List Int)(j:Nat):aC P (k+1) 4 [.lst (ns.map .int),.int j]=some (.int (ns.getD j 0)):=by
 refine run rfl rfl ?_;simp only[d4,entry];walk_at "ev"
 by_cases h:j<ns.length
 ·have h1:(j:Int)<((ns.map PV.int).length:Nat):=by rw[CW];omega
  have h2:cO (ns.map PV.int) (j:Int)=some (.int ns[j]):=bY (by rw[Cp,CY h];rfl);simp only[h1,decide_true,Eb,h2];walk_at "ev";simp[h]
 ·have h1:¬(j:Int)<((ns.map PV.int).length:Nat):=by rw[CW];omega
  simp only[h1,decide_false];walk_at "ev";simp[h]
theorem c5(k:Nat)(c j:Int)(h0:0<=j)(h1:j<=1000000):∃r:Int,0<=r/\r<2147483587/\aC P (k+1) 5 [.int c,.int j]=some (.int r):=by
 obtain⟨v,h,r,h2,h3,rfl⟩:∃v,aC P (k+1) 5 [.int c,.int j]=some v/\∃r:Int,0<=r/\r<2147483587/\v=.int r:=by
  refine fH rfl rfl ?_;simp only[d5,entry];walk_at "go";exact⟨_,rfl,_,Dp _ (by decide),DX _ (by decide),rfl⟩
 exact⟨r,h2,h3,h⟩
noncomputable def lL(z:Str)(n:Nat):Prop:=z.length=n/\∀c∈z.cps.toList,c=120\/c=46
theorem lL.more{z:Str}{n:Nat}(h:lL z n){y:Str}(hy:y=("x":Str)\/y=(".":Str)):lL (z++y) (n+1):=by
 refine⟨?_,fun c hc=> ?_⟩
 ·rw[PySem.Str.length_append,h.1]
  rcases hy with rfl|rfl<;>rfl
 ·rw[PySem.Str.cps_append,Array.toList_append,EY]at hc
  rcases hc with hc|hc
  ·exact h.2 c hc
  ·rcases hy with rfl|rfl
   ·have:c∈[120]:=hc
    simp at this;exact .inl this
   ·have:c∈[46]:=hc
    simp at this;exact .inr this
noncomputable def pick(b:Bool):Str:=if b then "x" else "."
theorem vY(b:Bool):cO [PV.str ".",PV.str "x"] (if b then 1 else 0)=some (.str (pick b)):=by cases b<;>rfl
theorem rV(b:Bool):(pick b).length=1:=by cases b<;>rfl
theorem o9(b:Bool):pick b=("x":Str)\/pick b=(".":Str):=by cases b;exact .inr rfl;exact .inl rfl
theorem yY{j:Int}(h0:0<=j)(h1:j<=100):(0:Int)<1*2^j.toNat/\(1:Int)*2^j.toNat<2^200:=by
 have hp:(0:Int)<2^j.toNat:=Int.pow_pos (by decide);refine⟨by omega,?_⟩;have h2:(2:Nat)^j.toNat<2^200:=Nat.pow_lt_pow_right (by decide) (by omega);rw[Int.one_mul]
 exact_mod_cast h2
noncomputable abbrev bI1(x c R C TH:Int)(m i:Nat)(τ:En):Prop:=∃(rs:List Str)(a b d e g:TV),τ=[.frz (.int x) true,.frz (.int c) true,.frz (.int m) true,.frz (.int R) true,.frz (.int C) true,.frz (.int TH) true,.own (rs.map .str) true,a,b,d,e,g]/\rs.length=i/\∀r∈rs,lL r C.toNat
noncomputable abbrev bI2(x c R C TH:Int)(m:Nat)(rs:List Str)(i:Int)(j:Nat)(τ:En):Prop:=∃(z:Str)(d e g:TV),τ=[.frz (.int x) true,.frz (.int c) true,.frz (.int m) true,.frz (.int R) true,.frz (.int C) true,.frz (.int TH) true,.own (rs.map .str) true,.frz (.int i) true,.frz (.str z) true,d,e,g]/\lL z j
theorem c6(k:Nat)(x c:Int)(m:Nat)(m1:1<=m)(m8:m<=8):∃v,aC P (k+2) 6 [.int x,.int c,.int m]=some v/\∃rows:List Str,UM.bV m rows/\v=.tup (rows.map .str):=by
 have r1:0<=x%(m:Int):=Dp _ (by omega);have r2:x%(m:Int)<m:=DX _ (by omega);have q1:0<=x/8%(m:Int):=Dp _ (by omega);have q2:x/8%(m:Int)<m:=DX _ (by omega);have hm:(0:Int)<m:=by omega
 refine fH rfl rfl ?_;simp only[d6,entry];walk_at "go";obtain⟨R,hR⟩:∃R,R=1+x%(m:Int):=⟨_,rfl⟩;obtain⟨C,hC⟩:∃C,C=1+x/8%(m:Int):=⟨_,rfl⟩;obtain⟨TH,hT⟩:∃TH,TH=1+x/64%8:=⟨_,rfl⟩;rw[<- hR,<-hC,<-hT];refine bw (xs:=(List.range R.toNat).map fun i=>.int (0+(i:Nat))) (n:=true) ?_ (bI1 x c R C TH m) ?_ ?_ ?_
 ·walk_at "ev"
  simp only[dN,bB];rw[Cd ⟨by omega,by omega⟩];rfl
 ·exact⟨[],.un,.un,.un,.un,.un,rfl,rfl,fun r hr=>by cases hr⟩
 ·rintro i y τ hy ⟨rs,a,b,d,e,g,rfl,hl,hsg⟩
  obtain⟨hi,rfl⟩:=bo hy;refine⟨_,rfl,?_⟩;walk_at "ev";refine bw (xs:=(List.range C.toNat).map fun i=>.int (0+(i:Nat))) (n:=true) ?_ (bI2 x c R C TH m rs i) ?_ ?_ ?_
  ·walk_at "ev"
   simp only[dN,bB];rw[Cd ⟨by omega,by omega⟩];rfl
  ·exact⟨_,d,e,g,rfl,rfl,fun c hc=>by cases hc⟩
  ·rintro j y τ hy ⟨z,d,e,g,rfl,hz⟩
   obtain⟨hj,rfl⟩:=bo hy;refine⟨_,rfl,?_⟩;have hp:0<=C*(i:Int)+(j:Int)/\C*(i:Int)+(j:Int)<=100:=by
    have e1:(0:Int)<=C*(i:Int):=Int.mul_nonneg (by omega) (by omega);have e2:C*(i:Int)<=8*8:=Int.mul_le_mul (by omega) (by omega) (by omega) (by omega);omega
   have hz1:=hz.1;have hzL:∀b,z.length+(pick b).length<=LN:=fun b=>by rw[rV];show z.length+1<=16777216;omega
   have hp2:=yY hp.1 hp.2;walk_at "go"
   have fin:∀(b:Bool)(τ:En),τ=[.frz (.int x) true,.frz (.int c) true,.frz (.int m) true,.frz (.int R) true,.frz (.int C) true,.frz (.int TH) true,.own (rs.map .str) true,.frz (.int i) true,.frz (.str z) true,.frz (.int j) true,.frz (.int (C*(i:Int)+(j:Int))) true,.frz (.bl b) true] ->
     To (bI (aC P (k+1)) 1000000 (.cons (.asg 8 false [] (.bin .Add (.var 8) (.ix (.lst (.cons (.con (.str ".")) (.cons (.con (.str "x")) .nil))) (.bf .int (.cons (.var 11) .nil))))) .nil) τ) fun f=>match f with
      | .nx τ2=>bI2 x c R C TH m rs i (j+1) τ2
      | _=>False:=by
    rintro b τ rfl;have:=hzL b;walk_at "go";rw[vY];walk_at "go";exact⟨_,_,_,_,rfl,hz.more (o9 b)⟩
   split
   ·obtain⟨q,b1,b2,e5⟩:=c5 k c (C*(i:Int)+(j:Int)) hp.1 (by omega)
    walk_at "ev";rw[e5];walk_at "go";refine(fin _ _ rfl).imp fun f h=> ?_;cases f<;>first|exact h|exact h.elim
   ·walk_at "ev"
    refine(fin _ _ rfl).imp fun f h=> ?_;cases f<;>first|exact h|exact h.elim
  ·rintro τ ⟨z,d,e,g,rfl,hz⟩
   rw[dr]at hz;walk_at "ev";rw[kL rfl (by rw[CW];show rs.length<16777216;omega)];walk_at "ev";refine⟨rs++[z],_,_,_,_,_,by rw[Dm];rfl,by rw[Cm,hl];rfl,fun r hr=> ?_⟩
   rcases EY.mp hr with h|h
   ·exact hsg r h
   ·have e' :r=z:=by simpa using h
    rw[e'];exact hz
 ·rintro τ ⟨rs,a,b,d,e,g,rfl,hl,hsg⟩
  rw[dr]at hl;walk_at "ev";refine⟨_,rfl,rs,⟨?_,by omega,⟨C.toNat,by omega,by omega,fun r hr=>(hsg r hr).1⟩,fun r hr=>(hsg r hr).2⟩,rfl⟩;intro z;rw[z]at hl;simp at hl;omega
theorem c8(k:Nat)(i:Int):aC P (k+1) 8 [.int i]=some (.bl true):=by
 refine run rfl rfl ?_;simp only[d8,entry];walk_at "ev"
noncomputable def plain:PV->Bool
 | .non=>true| .int _=>true| .str _=>true
 | .lst xs=>plains xs
 | .tup xs=>plains xs
 | _=>false
where plains:List PV->Bool
 | []=>true
 | x::xs=>plain x&&plains xs
noncomputable def depth:PV->Nat
 | .lst xs=>depths xs+1
 | .tup xs=>depths xs+1
 | _=>1
where depths:List PV->Nat
 | []=>0
 | x::xs=>max (depth x) (depths xs)
theorem gQ:∀{xs:List PV}{x:PV},plain.plains xs=true->x∈xs->plain x=true
 | [],_,_,h=>by cases h
 | y::ys,x,h,hx=>by
  rw[plain.plains,CZ]at h
  rcases Co.mp hx with rfl|hx
  ·exact h.1
  ·exact gQ h.2 hx
theorem gq:∀{xs:List PV}{x:PV},x∈xs->depth x<=depth.depths xs
 | [],_,h=>by cases h
 | y::ys,x,hx=>by
  rw[depth.depths]
  rcases Co.mp hx with rfl|hx
  ·exact Nat.le_max_left _ _
  ·exact C9 (gq hx) (Nat.le_max_right _ _)
theorem c10(k:Nat)(xs:List PV)(h:∀x∈xs,aC P k 9 [x,x]=some (.bl true)):aC P (k+1) 10 [.lst xs,.lst xs]=some (.bl true):=by
 refine fJ rfl rfl ?_;simp only[d10,entry];walk_at "ev";refine bw (xs:=List.zipWith nu xs xs) (n:=false) ?_ (fun i τ=>∃a b,τ=[.frz (.lst xs) false,.frz (.lst xs) false,a,b]) ⟨_,_,rfl⟩ ?_ ?_
 ·walk_at "ev"
  simp only[qM,sW,Eb,D8];rfl
 ·rintro i y τ hy ⟨a,b,rfl⟩
  rw[Dk]at hy;cases e:xs[i]? with
  | none=>rw[e]at hy;cases hy
  | some x =>
   rw[e]at hy;cases hy;refine⟨_,rfl,?_⟩;walk_at "ev";rw[h x (DI e)];walk_at "ev";exact⟨_,_,rfl⟩
 ·rintro τ ⟨a,b,rfl⟩
  walk_at "ev"
theorem c9(n k:Nat)(v:PV)(hd:depth v<=n)(hp:plain v=true):aC P (2*n+k) 9 [v,v]=some (.bl true):=by
 induction n generalizing v with
 | zero =>
  cases v with
  | non=>(simp[depth]at hd)
  | bl b=>cases hp
  | int i=>(simp[depth]at hd)
  | str z=>(simp[depth]at hd)
  | lst xs=>(simp[depth]at hd)
  | tup xs=>(simp[depth]at hd)
  | dK _ _=>cases hp
  | dT _ _=>cases hp
 | succ n ih =>
  have e:2*(n+1)+k=(2*n+k+1)+1:=by omega
  rw[e];have inner:∀xs:List PV,depth.depths xs<=n->plain.plains xs=true->aC P (2*n+k+1) 10 [.lst xs,.lst xs]=some (.bl true):=fun xs h1 h2=>c10 _ xs fun x hx=>ih x (C9 (gq hx) h1) (gQ h2 hx);refine run rfl rfl ?_;cases v with
  | non =>
   simp only[d9,entry];walk_at "ev"
  | bl b=>cases hp
  | int i =>
   simp only[d9,entry];walk_at "ev";rw[c8];walk_at "ev"
  | str z =>
   simp only[d9,entry];walk_at "ev"
  | lst xs =>
   simp only[d9,entry];walk_at "ev";rw[inner xs (by simpa [depth]using hd) (by simpa [plain]using hp)];walk_at "ev"
  | tup xs =>
   simp only[d9,entry];walk_at "ev";rw[inner xs (by simpa [depth]using hd) (by simpa [plain]using hp)];walk_at "ev"
  | dK _ _=>cases hp
  | dT _ _=>cases hp
theorem ak{α:Type}{f:PV->Option (Option (PV×Bool))}{F:α->PV}{G:α->PV}{l:List α}(h:∀x∈l,f (F x)=some (some (G x,true))):bN f (l.map F)=some (l.map G,true):=by
 induction l with
 | nil=>rfl
 | cons x l ih =>
  rw[Cq,bN,h x Cv,ih fun y hy=>h y (Cj _ hy)];rfl
theorem kA(cs:List Nat):au (cs.map fun c=>PV.str ⟨#[c]⟩)=some (cs.map fun c=>(⟨#[c]⟩:Str)):=by
 induction cs with
 | nil=>rfl
 | cons c cs ih=>rw[Cq,au,ih];rfl
theorem om(cs:List Nat):((cs.map fun c=>(⟨#[c]⟩:Str)).map (·.length)).sum=cs.length:=by
 induction cs with
 | nil=>rfl
 | cons c cs ih=>rw[Cq,Cq,List.sum_cons,ih,C3];show 1+_=_;omega
theorem mi{cs:List Nat}{n m:Bool}(h:cs.length<=1000):jY .join (.frz (.str (Str.ofString "")) n) [.own (cs.map fun c=>.str ⟨#[c]⟩) m]=some (sc (.str ⟨cs.toArray⟩)):=by
 have e:jY .join (.frz (.str (Str.ofString "")) n) [.own (cs.map fun c=>.str ⟨#[c]⟩) m]=(au (cs.map fun c=>PV.str ⟨#[c]⟩)).bind fun ys=>if(ys.map (·.length)).sum+ys.length*(Str.ofString "").length<=LN then some (sc (.str (jk (Str.ofString "") ys)))else none:=rfl
 rw[e,kA,C7,om,Cd (by show cs.length+_*0<=16777216;omega),<-ji];rw[show Str.join (Str.ofString "") (cs.map fun c=>(⟨#[c]⟩:Str))=txt cs from ge cs];rfl
noncomputable def zP(i:Nat)(x v:PV)(m:Bool)(τ:En):Option Fl:=match x,τ[i]? with
 | .int j,some (.own xs n)=>if 0<=j/\j<=xs.length/\xs.length<LN then some (.nx (τ.set i (.own (xs.take j.toNat++v::xs.drop j.toNat) (n&&m))))else none
 | _,_=>none
theorem zZ{cd:Nat->List PV->Option PV}{fu i:Nat}{k e:IE}{τ:En}:eG cd fu (.ins i k e) τ=(aU cd k τ).bind fun x=>(aU cd e τ).bind fun r=>r.keep.bind fun p=>zP i x.val p.1 p.2 τ:=by
 rfl
theorem wB{i:Nat}{j:Int}{v:PV}{n m:Bool}{xs:List PV}{τ:En}(h:τ[i]? =some (.own xs n))(h0:0<=j)(h1:j<=xs.length)(h2:xs.length<LN) :
  zP i (.int j) v m τ=some (.nx (τ.set i (.own (xs.take j.toNat++v::xs.drop j.toNat) (n&&m)))):=by
 unfold zP;rw[h];exact Cd ⟨h0,h1,h2⟩
theorem c21(k:Nat)(c:Int)(m:Nat)(hm:m<=8):∃v,aC P (k+1) 21 [.int c,.int m]=some v/\∃o:List Nat,o.Perm (List.range m)/\v=.lst (o.map fun i=>.int (i:Nat)):=by
 refine fH rfl rfl ?_;simp only[d21,entry];walk_at "go";refine bw (xs:=(List.range m).map fun i=>.int (0+(i:Nat))) (n:=true) ?_ (fun i τ=>∃(o:List Nat)(c:Int)(b:TV),τ=[.frz (.int c) true,.frz (.int m) true,.own (o.map fun i=>.int (i:Nat)) true,b]/\o.Perm (List.range i)) ?_ ?_ ?_
 ·walk_at "ev"
  simp only[dN,bB];rw[Cd ⟨by omega,by omega⟩];rfl
 ·exact⟨[],c,.un,rfl,.nil⟩
 ·rintro i y τ hy ⟨o,c,b,rfl,ho⟩
  obtain⟨hi,rfl⟩:=bo hy;refine⟨_,rfl,?_⟩;have hl:o.length=i:=by rw[ho.length_eq,Cy]
  have e1:0<=c%((i:Int)+1):=Dp _ (by omega);have e2:c%((i:Int)+1)<(i:Int)+1:=DX _ (by omega);walk_at "ev";rw[zZ];walk_at "go";rw[wB rfl e1 (by rw[CW,hl];omega) (by rw[CW,hl];show i<16777216;omega)];walk_at "go";refine⟨o.take (c%((i:Int)+1)).toNat++i::o.drop (c%((i:Int)+1)).toNat,c/((i:Int)+1),.frz (.int i) true,by simp,?_⟩;rw[List.range_succ];refine List.perm_middle.trans ?_;rw[List.take_append_drop];exact(ho.cons i).trans (List.perm_append_comm (l₁:=[i]))
 ·rintro τ ⟨o,c,b,rfl,ho⟩
  rw[dr]at ho;walk_at "ev";exact⟨_,rfl,o,ho,rfl⟩
theorem c20(k:Nat)(c:Int):∃v,aC P (k+2) 20 [.int c]=some v/\∃d:Int,0<=d/\v=.int d:=by
 refine fH rfl rfl ?_;simp only[d20,entry];walk_at "go"
 split
 ·rename_i h
  walk_at "ev";refine⟨_,rfl,_,?_,rfl⟩;have h:=of_decide_eq_true h;omega
 ·walk_at "ev"
  refine bw (xs:=(List.range 8).map fun i=>.int (0+(i:Nat))) (n:=true) ?_ (fun i τ=>∃(d:Int)(b:TV),τ=[.frz (.int c) true,.frz (.int d) true,b]/\0<=d) ?_ ?_ ?_
  ·rfl
  ·exact⟨0,.un,rfl,by omega⟩
  ·rintro i y τ hy ⟨d,b,rfl,hd⟩
   obtain⟨hi,rfl⟩:=bo hy;refine⟨_,rfl,?_⟩;obtain⟨q,b1,b2,e5⟩:=c5 k c (7*(i:Int)+3) (by omega) (by omega);walk_at "go";rw[e5];walk_at "go";exact⟨_,_,rfl,by omega⟩
  ·rintro τ ⟨d,b,rfl,hd⟩
   walk_at "ev";exact⟨_,rfl,d,hd,rfl⟩
theorem A3{w s:Nat}:(⟨(List.replicate s [120]).flatten.toArray⟩:Str)++(⟨(List.replicate (w-s) [46]).flatten.toArray⟩:Str)=fG w s:=by
 have f:∀(n c:Nat),(List.replicate n [c]).flatten=List.replicate n c:=by
  intro n c
  induction n with
  | zero=>rfl
  | succ n ih=>rw[DD,DP,ih];rfl
 rw[f,f];show Str.mk _=_;unfold fG
 congr 1
 show(List.replicate s 120).toArray++(List.replicate (w-s) 46).toArray=_;simp
theorem yJ{w s:Nat}(h:s<=w):(⟨(List.replicate ((s:Int)).toNat (Str.ofString "x").cps.toList).flatten.toArray⟩:Str)++(⟨(List.replicate ((w:Int)-(s:Int)).toNat (Str.ofString ".").cps.toList).flatten.toArray⟩:Str)=fG w s:=by
 rw[DQ,show((w:Int)-(s:Int)).toNat=w-s by omega];exact A3
theorem nh(n:Nat)(c:Nat):(⟨(List.replicate n [c]).flatten.toArray⟩:Str).length=n:=by
 show(List.toArray _).size=n
 induction n with
 | zero=>rfl
 | succ n ih =>
  rw[Cb]at ih ⊢;rw[DD,DP,Cm,ih];simp;omega
theorem yI{w s:Nat}(h:s<=w)(hw:w<=8):(⟨(List.replicate ((s:Int)).toNat (Str.ofString "x").cps.toList).flatten.toArray⟩:Str).length+(⟨(List.replicate ((w:Int)-(s:Int)).toNat (Str.ofString ".").cps.toList).flatten.toArray⟩:Str).length<=16777216:=by
 have e1:(⟨(List.replicate ((s:Int)).toNat (Str.ofString "x").cps.toList).flatten.toArray⟩:Str).length=((s:Int)).toNat:=nh _ 120;have e2:(⟨(List.replicate ((w:Int)-(s:Int)).toNat (Str.ofString ".").cps.toList).flatten.toArray⟩:Str).length=((w:Int)-(s:Int)).toNat:=nh _ 46;rw[e1,e2];omega
theorem cU{ns:List Int}(h:ns.length<64):gL (ns.map .int)=some (.own ((sortI ns).map .int) true):=by
 unfold gL;rw[gg];exact Cd h
noncomputable def BI(o:List Nat)(z:Str):Str:=⟨(o.map fun j=>z.cps.toList.getD j 0).toArray⟩
theorem vW(o:List Nat)(z:Str):(BI o z).length=o.length:=by
 show(List.toArray _).size=_;simp
theorem gE{rows:List Str}{i:Nat}{z:Str}(h:rows[i]? =some z):cO (rows.map PV.str) (i:Int)=some (.str z):=bY (by rw[Cp,h];rfl)
theorem zz{n m:Bool}{xs ys:List PV}:bX .Add (.frz (.lst xs) n) (.frz (.lst ys) m)=kX (xs++ys) (n&&m):=rfl
theorem c145(k:Nat)(c:Int)(n w:Nat)(hn:n<=8)(hw:w<=8):∃v,aC P (k+1) 145 [.int c,.int (n:Nat),.int (w:Nat)]=some v/\∃sizes:List Nat,sizes.length=n/\(∀s∈sizes,s<=w)/\sizes.Pairwise (·<=·)/\v=.lst (sizes.map fun s=>.int (s:Nat)):=by
 refine fH rfl rfl ?_;simp only[Bw,entry];walk_at "go";refine bw (xs:=(List.range n).map fun i=>.int (0+(i:Nat))) (n:=true) ?_ (fun i τ=>∃(c:Int)(a:List Int)(b:TV),τ=[.frz (.int c) true,.frz (.int (n:Nat)) true,.frz (.int (w:Nat)) true,.own (a.map .int) true,b]/\a.length=i/\∀x∈a,0<=x/\x<=(w:Nat)) ?_ ?_ ?_
 ·walk_at "ev"
  simp only[dN,bB];rw[Cd ⟨by omega,by omega⟩,DQ];rfl
 ·exact⟨c,[],.un,rfl,rfl,fun x hx=>by cases hx⟩
 ·rintro i y τ hy ⟨c,a,b,rfl,hl,hx⟩
  obtain⟨hi,rfl⟩:=bo hy;refine⟨_,rfl,?_⟩;have m1:0<=c%((w:Int)+1):=Dp _ (by omega);have m2:c%((w:Int)+1)<(w:Int)+1:=DX _ (by omega);walk_at "go";rw[kL rfl (by rw[CW,hl];show i<16777216;omega)];walk_at "go";refine⟨c/((w:Int)+1),a++[c%((w:Int)+1)],_,by rw[Dm];rfl,by rw[Cm,hl];rfl,fun x h=> ?_⟩
  rcases EY.mp h with h|h
  ·exact hx x h
  ·rw[Di.mp h]
   omega
 ·rintro τ ⟨c,a,b,rfl,hl,hx⟩
  rw[dr]at hl;walk_at "ev";rw[cU (by omega)];walk_at "ev";refine⟨_,rfl,(sortI a).map Int.toNat,by rw[CW,(sortI_perm a).length_eq,hl],fun s hs=> ?_,?_,?_⟩
  ·obtain⟨x,hx',rfl⟩:=DY.mp hs
   have:=hx x ((sortI_perm a).mem_iff.mp hx');omega
  ·rw[List.pairwise_map]
   exact(kG a).imp fun h=>by omega
  ·rw[Dr]
   congr 1
   refine Da fun x hx' => ?_;have:=hx x ((sortI_perm a).mem_iff.mp hx');show PV.int x=PV.int ((x.toNat:Nat):Int)
   congr 1
   omega
structure jA(rows:List Str)(sizes:List Nat)(w:Nat)(o o2:List Nat):Prop where
 le:∀s∈sizes,s<=w
 ris:sizes.Pairwise (·<=·)
 n8:sizes.length<=8
 w8:w<=8
 po:o.Perm (List.range sizes.length)
 po2:o2.Perm (List.range w)
 is:rows=o.map fun i=>BI o2 ((sizes.map (fG w)).getD i ⟨#[]⟩)
theorem jA.len{rows:List Str}{sizes:List Nat}{w:Nat}{o o2:List Nat}(h:jA rows sizes w o o2):rows.length=sizes.length:=by
 rw[h.is,CW,h.po.length_eq,Cy]
theorem jA.wd{rows:List Str}{sizes:List Nat}{w:Nat}{o o2:List Nat}(h:jA rows sizes w o o2):Wd rows w:=fun z hz=>by
 rw[h.is]at hz;obtain⟨i,_,rfl⟩:=DY.mp hz;rw[vW,h.po2.length_eq,Cy]
theorem c146(k:Nat)(sizes:List Nat)(w:Nat)(c:Int)(le:∀s∈sizes,s<=w)(ris:sizes.Pairwise (·<=·))(n8:sizes.length<=8)(w8:w<=8) :
  ∃v,aC P (k+2) 146 [.lst (sizes.map fun s=>.int (s:Nat)),.int (w:Nat),.int c]=some v/\∃rows o o2,jA rows sizes w o o2/\v=.tup (rows.map .str):=by
 obtain⟨v1,e1,o,ho,rfl⟩:=c21 k c sizes.length n8;obtain⟨v2,e2,o2,ho2,rfl⟩:=c21 k (c/40320) w w8;refine fH rfl rfl ?_;simp only[Bv,entry];have ims:imms (sizes.map fun s=>PV.int (s:Nat))=true:=ko (fun _=>rfl) _;have ol:o.length=sizes.length:=by rw[ho.length_eq,Cy]
 have ol2:o2.length=w:=by rw[ho2.length_eq,Cy]
 have hwd:=ue le;walk_at "go";rw[Cd (by rw[CW];omega),ak (G:=fun s=>.str (fG w s)) (fun s hs=>by
  have:=le s hs;walk_at "ev";rw[Cd ⟨by omega,by omega,rfl⟩,Cd ⟨by omega,by omega,rfl⟩];walk_at "ev";rw[Cd (yI this w8)];walk_at "ev";rw[yJ this])]
 walk_at "ev";rw[CW,e1];walk_at "ev";have zin:∀(z:Str)(j:Nat),z∈sizes.map (fG w)->j<w->z.length<=8/\cO z.cps.toList (j:Int)=some (z.cps.toList.getD j 0):=fun z j hz hj=>by
  have e:z.cps.toList.length=w:=by rw[Cn];exact hwd z hz
  refine⟨by rw[hwd z hz];exact w8,bY ?_⟩;rw[List.getD,CY (by omega)];rfl
 have zm:∀i∈o,(sizes.map (fG w)).getD i ⟨#[]⟩∈sizes.map (fG w)/\(sizes.map (fG w))[i]? =some ((sizes.map (fG w)).getD i ⟨#[]⟩):=fun i hi=>by
  have hi:i<sizes.length:=DB.mp (ho.mem_iff.mp hi);have hi:i<(sizes.map (fG w)).length:=by rw[CW];exact hi
  rw[List.getD,CY hi];exact⟨Dh hi,rfl⟩
 rw[Cd (by rw[CW,ol];omega),show(sizes.map fun s=>PV.str (fG w s))=(sizes.map (fG w)).map PV.str from by rw[Dr];rfl,ak (G:=fun i=>.str ((sizes.map (fG w)).getD i ⟨#[]⟩)) (fun i hi=>by
  walk_at "ev";rw[gE (zm i hi).2];walk_at "ev")]
 walk_at "ev";rw[e2];walk_at "ev";rw[Cd (by rw[CW,ol];omega),ak (G:=fun i=>.str (BI o2 ((sizes.map (fG w)).getD i ⟨#[]⟩))) (fun i hi=>by
  rw[Cd (by rw[CW,ol2];omega),ak (G:=fun j=>.str ⟨#[((sizes.map (fG w)).getD i ⟨#[]⟩).cps.toList.getD j 0]⟩) (fun j hj=>by
   obtain⟨q1,q2⟩:=zin _ j (zm i hi).1 (DB.mp (ho2.mem_iff.mp hj));walk_at "ev";rw[Cd (by omega),q2];walk_at "ev")]
  walk_at "ev";rw[show(o2.map fun j=>PV.str ⟨#[((sizes.map (fG w)).getD i ⟨#[]⟩).cps.toList.getD j 0]⟩)=(o2.map fun j=>((sizes.map (fG w)).getD i ⟨#[]⟩).cps.toList.getD j 0).map fun c=>PV.str ⟨#[c]⟩from by rw[Dr];rfl,mi (by rw[CW];omega)];walk_at "ev";rfl)]
 walk_at "ev";refine⟨_,rfl,o.map fun i=>BI o2 ((sizes.map (fG w)).getD i ⟨#[]⟩),o,o2,⟨le,ris,n8,w8,ho,ho2,rfl⟩,by rw[Dr];rfl⟩
noncomputable def cv(l:List Nat):List Int:=l.map fun s:Nat=>(s:Int)
noncomputable def fac8(sizes:List Nat):List Int:=sortI ((List.range 8).map fun j=>(((eV sizes).getD j 0:Nat):Int)-(j:Nat))
theorem mr(z:Str):List.zipWith bt (List.range z.length) (signs z)=(List.range z.length).map fun c=>bt c (.str ⟨#[z.cps.toList.getD c 0]⟩):=by
 refine List.ext_getElem (by rw[Dv,dF,CW,Nat.min_eq_left (by rw[Cy];exact Ca _)]) fun i h1 h2=> ?_;have hi:i<z.length:=by simpa using h2
 have hc:i<z.cps.toList.length:=by rw[Cn];exact hi
 rw[List.getElem_zipWith,EF,List.getElem_range]
 congr 1
 unfold signs;rw[EF,Ck,CY hc];rfl
theorem c109(k:Nat)(z:Str)(hz:z.length<=8):aC P (k+1) 109 [.str z]=some (.lst ((il z).map fun c=>.int (c:Nat))):=by
 refine fJ rfl rfl ?_;simp only[B1,entry];walk_at "ev";rw[show gp (.frz (.str z) true)=some (List.zipWith bt (List.range z.length) (signs z),true)from rfl,mr];walk_at "ev";rw[Cd (by rw[CW,Cy];omega),cf (p:=fun c=>z.cps.toList.getD c 0==120) (g:=fun c=>PV.int (c:Nat)) (fun c hc=>by
  show(d7 (.tup [.int (c:Nat),.str ⟨#[z.cps.toList.getD c 0]⟩])).bind _=_;simp only[d7];walk_at "ev";rw[jo];cases z.cps.toList.getD c 0==120
  ·walk_at "ev"
  ·walk_at "ev")]
 walk_at "ev";rfl
noncomputable def hasA(z y:Str):Bool:=(il y).all fun c=>z.cps.toList.getD c 0==120
theorem ip{α:Type}(f:α->Bool):∀l:List α,eM (l.map fun x=>PV.bl (f x))=some (l.map f)
 | []=>rfl
 | x::l=>by rw[Cq,eM,ip f l];rfl
theorem dJ{z:Str}{c:Nat}:c∈il z↔c<z.length/\z.cps.toList.getD c 0=120:=by
 unfold il;rw[EX,DB,DL]
theorem wc(k:Nat)(z y:Str)(hz:z.length<=8)(hl:y.length=z.length):aC P (k+2) 141 [.str z,.str y]=some (.bl (hasA z y)):=by
 refine fJ rfl rfl ?_;simp only[Bz,entry];have e1:=c109 k y (by omega);have few:(il y).length<=8:=by
  unfold il;refine C9 (List.length_filter_le _ _) ?_;rw[Cy];omega
 walk_at "ev";rw[e1];walk_at "ev";rw[Cd (by rw[CW];omega),ak (G:=fun c=>PV.bl (z.cps.toList.getD c 0==120)) (fun c hc=>by
  have hc:=(dJ.mp hc).1
  have ea:cO z.cps.toList (c:Nat)=some (z.cps.toList.getD c 0):=bY (by
   rw[List.getD,CY (by rw[Cn];show c<z.length;omega)];rfl)
  walk_at "ev";rw[Cd (by omega),ea];walk_at "ev";rw[jo])]
 walk_at "ev";rw[ip];walk_at "ev";unfold hasA;rw[List.all_map];rfl
theorem tV{n:Bool}{xs:List PV}:gp (.frz (.tup xs) n)=some (List.zipWith bt (List.range xs.length) xs,n):=rfl
theorem zg{n:Bool}{xs:List PV}:gp (.own xs n)=some (List.zipWith bt (List.range xs.length) xs,n):=rfl
theorem c142(k:Nat)(rows:List Str)(w:Nat)(hw:Wd rows w)(h8:rows.length<=8)(w8:w<=8)(nest:∀z∈rows,∀y∈rows,hasA z y=true\/hasA y z=true):aC P (k+3) 142 [.tup (rows.map .str)]=some .non:=by
 refine fJ rfl rfl ?_;have im:=bF rows;simp only[zn,entry];walk_at "ev";rw[im];refine bw (xs:=List.zipWith bt (List.range (rows.map PV.str).length) (rows.map PV.str)) (n:=true) ?_ (fun i τ=>∃a b c d,τ=[.frz (.tup (rows.map .str)) true,a,b,c,d]) ⟨_,_,_,_,rfl⟩ ?_ ?_
 ·walk_at "ev"
  rw[tV];walk_at "ev"
 ·rintro i y τ hy ⟨a,b,c,d,rfl⟩
  obtain⟨y,hy2,rfl⟩:=oP hy;obtain⟨z,hz,rfl⟩:∃z,rows[i]? =some z/\y=.str z:=by
   rw[Cp]at hy2;cases e:rows[i]? with
   | none=>rw[e]at hy2;cases hy2
   | some z=>rw[e]at hy2;exact⟨z,rfl,(Cw hy2).symm⟩
  have zm:=DI hz;have zl:=hw z zm;have hi:i<rows.length:=(Ch.mp hz).1;refine⟨_,rfl,?_⟩;walk_at "ev";refine bw (xs:=(List.range (rows.length-(i+1))).map fun j=>.int (((i:Int)+1)+(j:Nat))) (n:=true) ?_ (fun j τ=>∃c d,τ=[.frz (.tup (rows.map .str)) true,.frz (.int (i:Nat)) true,.frz (.str z) true,c,d]) ⟨_,_,rfl⟩ ?_ ?_
  ·walk_at "ev"
   simp only[dN,bB,CW];rw[Cd ⟨by omega,by omega,by omega,by omega⟩,show((rows.length:Int)-((i:Int)+1)).toNat=rows.length-(i+1)by omega];rfl
  ·rintro j y τ hy ⟨c,d,rfl⟩
   obtain⟨hj,rfl⟩:=jM hy;refine⟨_,rfl,?_⟩;have hq:i+1+j<rows.length:=by omega
   have ym:rows[i+1+j]∈rows:=Dh hq;have yl:=hw _ ym;have e0:(i:Int)+1+(j:Nat)=((i+1+j:Nat):Int):=by omega
   have e1:cO (rows.map PV.str) ((i+1+j:Nat):Int)=some (.str rows[i+1+j]):=gE (CY hq);have e2:=wc k z rows[i+1+j] (by omega) (by omega);have e3:=wc k rows[i+1+j] z (by omega) (by omega);walk_at "ev";rw[e0,e1];walk_at "ev";rw[e2];walk_at "ev"
   rcases nest z zm _ ym with q|q
   ·rw[q]
    walk_at "ev";exact⟨_,_,rfl⟩
   ·cases h:hasA z rows[i+1+j]
    ·walk_at "ev"
     rw[e3,q];walk_at "ev";exact⟨_,_,rfl⟩
    ·walk_at "ev"
     exact⟨_,_,rfl⟩
  ·rintro τ ⟨c,d,rfl⟩
   walk_at "ev";exact⟨_,_,_,_,rfl⟩
 ·rintro τ ⟨a,b,c,d,rfl⟩
  walk_at "ev"
noncomputable def dO(z:Str):Int:=((z.cps.toList.filter (·==120)).length:Nat)
theorem zx(k:Nat)(rows:List Str)(w:Nat)(hw:Wd rows w)(h8:rows.length<=8)(w8:w<=8)(nest:∀z∈rows,∀y∈rows,hasA z y=true\/hasA y z=true):aC P (k+4) 143 [.tup (rows.map .str)]=some (.lst ((sortI (rows.map dO)).map .int)):=by
 refine fJ rfl rfl ?_;have im:=bF rows;have e1:=c142 k rows w hw h8 w8 nest;simp only[By,entry];walk_at "ev";rw[e1];walk_at "ev";rw[Cd (by rw[CW];omega),ak (G:=fun z=>PV.int (dO z)) (fun z hz=>by
  walk_at "ev";rw[show(Str.ofString "x")=⟨#[120]⟩from rfl,gr];rfl)]
 walk_at "ev";rw[show(rows.map fun z=>PV.int (dO z))=(rows.map dO).map PV.int from by rw[Dr];rfl,cU (by rw[CW];omega)];walk_at "ev"
theorem pW(l:List Int):List.zipWith bt (List.range (l.map PV.int).length) (l.map PV.int)=(List.range l.length).map fun j=>bt j (.int (l.getD j 0)):=by
 refine List.ext_getElem (by simp) fun i h1 h2=> ?_;have hi:i<l.length:=by simpa using h2
 rw[List.getElem_zipWith,EF,EF,List.getElem_range,List.getElem_range,Ck,CY hi];rfl
theorem c144(k:Nat)(rows:List Str)(w:Nat)(sizes:List Nat)(hw:Wd rows w)(h8:rows.length<=8)(w8:w<=8)(nest:∀z∈rows,∀y∈rows,hasA z y=true\/hasA y z=true)(hs:sortI (rows.map dO)=cv sizes)(n8:sizes.length<=8) :
  aC P (k+5) 144 [.tup (rows.map .str)]=some (.lst ((fac8 sizes).map .int)):=by
 refine fJ rfl rfl ?_;have im:=bF rows;have e1:=zx k rows w hw h8 w8 nest;rw[hs]at e1;have sl:(cv sizes).length=sizes.length:=by simp[cv]
 have e2:(8:Int)-(((cv sizes).map PV.int).length:Nat)=((8-sizes.length:Nat):Int):=by rw[CW,sl];omega
 have e3:((List.range (8-sizes.length)).map fun _=>PV.int 0)++(cv sizes).map PV.int=(cv (eV sizes)).map PV.int:=by
  unfold cv eV;rw[Dm,Dm,List.map_replicate,List.map_replicate]
  congr 1
  rw[List.map_const',Cy];rfl
 have pl:=rm n8;simp only[Bx,entry];walk_at "ev";rw[e1];walk_at "ev";rw[e2,Cd ⟨by omega,by omega,by simp;omega⟩];walk_at "ev";rw[DQ,Bl];walk_at "ev";rw[zz,e3];walk_at "ev";rw[Cd (by simp[cv,pl])];walk_at "ev";rw[zg];walk_at "ev";rw[pW,show(cv (eV sizes)).length=8 by simp[cv,pl]];rw[Cd (by simp),ak (G:=fun j=>PV.int ((((eV sizes).getD j 0:Nat):Int)-(j:Nat))) (fun j hj=>by
  have ej:(cv (eV sizes)).getD j 0=(((eV sizes).getD j 0:Nat):Int):=by
   unfold cv;rw[List.getD,Cp,List.getD];cases(eV sizes)[j]? <;>rfl
  show(d7 (.tup [.int (j:Nat),.int ((cv (eV sizes)).getD j 0)])).bind _=_;simp only[d7,ej];walk_at "ev")]
 walk_at "ev";rw[show((List.range 8).map fun j=>PV.int ((((eV sizes).getD j 0:Nat):Int)-(j:Nat)))=((List.range 8).map fun j=>(((eV sizes).getD j 0:Nat):Int)-(j:Nat)).map PV.int from by rw[Dr];rfl,cU (by simp)];walk_at "ev";rfl
noncomputable def mW(rows:List Str)(i j:Nat):Bool:=hasA (rows.getD i "") (rows.getD j "")||hasA (rows.getD j "") (rows.getD i "")
noncomputable def AV(rows:List Str)(v:PV):Prop:=(v=.non/\∀i j,i<j->j<rows.length->mW rows i j=true) \/
 ∃i j:Nat,i<j/\j<rows.length/\v=.tup [.int (i:Nat),.int (j:Nat)]/\mW rows i j=false/\∀i' j',i' <j' ->j' <rows.length->(i' <i\/(i' =i/\j' <j))->mW rows i' j' =true
theorem zo{rows:List Str}{v v' :PV}(a:AV rows v)(b:AV rows v'):v=v' :=by
 rcases a with⟨rfl,a⟩|⟨i,j,a1,a2,rfl,a3,a4⟩
 ·rcases b with⟨rfl,b⟩|⟨i,j,b1,b2,rfl,b3,b4⟩
  ·rfl
  ·rw[a i j b1 b2]at b3;cases b3
 ·rcases b with⟨rfl,b⟩|⟨i',j',b1,b2,rfl,b3,b4⟩
  ·rw[b i j a1 a2]at a3;cases a3
  ·have h1:¬(i' <i\/(i' =i/\j' <j)):=fun z=>by rw[a4 i' j' b1 b2 z]at b3;cases b3
   have h2:¬(i<i' \/(i=i' /\j<j')):=fun z=>by rw[b4 i j a1 a2 z]at a3;cases a3
   have e1:i=i' :=by omega
   have e2:j=j' :=by omega
   rw[e1,e2]
theorem eR{rows:List Str}{i:Nat}{z:Str}(h:rows[i]? =some z):rows.getD i ""=z:=by rw[Ck,h];rfl
theorem CB(k:Nat)(rows:List Str)(w:Nat)(hw:Wd rows w)(h8:rows.length<=8)(w8:w<=8):∃v,aC P (k+3) 142 [.tup (rows.map .str)]=some v/\AV rows v:=by
 refine fH rfl rfl ?_;have im:=bF rows;simp only[zn,entry];walk_at "ev";rw[im];refine bw (xs:=List.zipWith bt (List.range (rows.map PV.str).length) (rows.map PV.str)) (n:=true) ?_ (fun i τ=>(∀i' j',i' <i->i' <j' ->j' <rows.length->mW rows i' j' =true)/\∃a b c d,τ=[.frz (.tup (rows.map .str)) true,a,b,c,d]) ⟨fun _ _ z=>absurd z (Nat.not_lt_zero _),_,_,_,_,rfl⟩ ?_ ?_
 ·walk_at "ev"
  rw[tV];walk_at "ev"
 ·rintro i y τ hy ⟨inv,a,b,c,d,rfl⟩
  obtain⟨y,hy2,rfl⟩:=oP hy;obtain⟨z,hz,rfl⟩:∃z,rows[i]? =some z/\y=.str z:=by
   rw[Cp]at hy2;cases e:rows[i]? with
   | none=>rw[e]at hy2;cases hy2
   | some z=>rw[e]at hy2;exact⟨z,rfl,(Cw hy2).symm⟩
  have zm:=DI hz;have zl:=hw z zm;have hi:i<rows.length:=(Ch.mp hz).1;refine⟨_,rfl,?_⟩;walk_at "ev";refine bw (xs:=(List.range (rows.length-(i+1))).map fun j=>.int (((i:Int)+1)+(j:Nat))) (n:=true) ?_ (fun j τ=>(∀j',i<j' ->j' <i+1+j->mW rows i j' =true)/\∃c d,τ=[.frz (.tup (rows.map .str)) true,.frz (.int (i:Nat)) true,.frz (.str z) true,c,d]) ⟨fun _ z1 z2=>absurd z1 (by omega),_,_,rfl⟩ ?_ ?_
  ·walk_at "ev"
   simp only[dN,bB,CW];rw[Cd ⟨by omega,by omega,by omega,by omega⟩,show((rows.length:Int)-((i:Int)+1)).toNat=rows.length-(i+1)by omega];rfl
  ·rintro j y τ hy ⟨inj,c,d,rfl⟩
   obtain⟨hj,rfl⟩:=jM hy;refine⟨_,rfl,?_⟩;have hq:i+1+j<rows.length:=by omega
   have ym:rows[i+1+j]∈rows:=Dh hq;have yl:=hw _ ym;have e0:(i:Int)+1+(j:Nat)=((i+1+j:Nat):Int):=by omega
   have e1:cO (rows.map PV.str) ((i+1+j:Nat):Int)=some (.str rows[i+1+j]):=gE (CY hq);have e2:=wc k z rows[i+1+j] (by omega) (by omega);have e3:=wc k rows[i+1+j] z (by omega) (by omega);have ek:mW rows i (i+1+j)=(hasA z rows[i+1+j]||hasA rows[i+1+j] z):=by unfold mW;rw[eR hz,eR (CY hq)]
   have go:mW rows i (i+1+j)=true->∀j',i<j' ->j' <i+1+(j+1)->mW rows i j' =true:=fun q j' h1 h2=>by
    by_cases h:j' =i+1+j
    ·rw[h];exact q
    ·exact inj j' h1 (by omega)
   walk_at "ev";rw[e0,e1];walk_at "ev";rw[e2];walk_at "ev";cases h:hasA z rows[i+1+j]
   ·walk_at "ev"
    rw[e3];walk_at "ev";cases h' :hasA rows[i+1+j] z
    ·walk_at "ev"
     refine⟨_,rfl,.inr ⟨i,i+1+j,by omega,hq,rfl,by rw[ek,h,h'];rfl,fun i' j' h1 h2 h3=> ?_⟩⟩
     rcases h3 with h3|⟨rfl,h3⟩
     ·exact inv i' j' h3 h1 h2
     ·exact inj j' h1 h3
    ·walk_at "ev"
     exact⟨go (by rw[ek,h,h'];rfl),_,_,rfl⟩
   ·walk_at "ev"
    exact⟨go (by rw[ek,h];rfl),_,_,rfl⟩
  ·rintro τ ⟨inj,c,d,rfl⟩
   rw[CW,Cy]at inj;walk_at "ev";refine⟨fun i' j' h1 h2 h3=> ?_,_,_,_,_,rfl⟩
   by_cases h:i' =i
   ·rw[h];exact inj j' (by omega) (by omega)
   ·exact inv i' j' (by omega) h2 h3
 ·rintro τ ⟨inv,a,b,c,d,rfl⟩
  rw[Dv,Cy,CW,Ec]at inv;walk_at "ev";exact⟨_,rfl,.inl ⟨rfl,fun i j h1 h2=>inv i j (by omega) h1 h2⟩⟩
theorem oC{l:List Nat}:bE .NotEq (.lst (l.map fun i=>PV.int (i:Nat))) (.lst [])=some (!l.isEmpty):=by
 rw[wV,Cd (by
  rw[CZ];refine⟨?_,rfl⟩;show(l.map fun i:Nat=>PV.int (i:Nat)).all (gl 11)=true;rw[C2];intro y hy;obtain⟨q,_,rfl⟩:=DY.mp hy;rfl)]
 cases l<;>rfl
theorem xf(c:Nat):decide ((⟨#[c]⟩:Str)=".")=(c==46):=by
 have:=n9 c 46;rw[show(⟨#[46]⟩:Str)="." from rfl]at this;rw[this];rfl
noncomputable def gw(z y:Str)(a b:Nat):List Nat:=(List.range z.length).filter fun c=>z.cps.toList.getD c 0==a&&y.cps.toList.getD c 0==b
theorem lJ{z y:Str}(hl:y.length=z.length)(sy:∀c∈y.cps.toList,c=120\/c=46):(!(gw z y 120 46).isEmpty)= !hasA y z:=by
 have key:(gw z y 120 46).isEmpty=hasA y z:=by
  rw[D9,List.isEmpty_iff];unfold gw hasA;rw[List.filter_eq_nil_iff,C2]
  constructor
  ·intro h c hc
   obtain⟨h1,h2⟩:=dJ.mp hc;have hm:c<y.cps.toList.length:=by rw[Cn];show c<y.length;omega
   have ym:y.cps.toList.getD c 0∈y.cps.toList:=by rw[Ck,CY hm];exact Dh hm
   have:=h c (DB.mpr h1);rw[h2]at this
   rcases sy _ ym with q|q
   ·rw[q];rfl
   ·rw[q]at this;exact absurd rfl this
  ·intro h c hc
   have h1:=DB.mp hc;intro q;rw[CZ,DL,DL]at q;have:=h c (dJ.mpr ⟨h1,q.1⟩);rw[q.2]at this;cases this
 rw[key]
theorem pz{z y:Str}(hl:y.length=z.length):gw z y 46 120=gw y z 120 46:=by
 unfold gw;rw[hl];refine List.filter_congr fun c _=> ?_;rw[Bool.and_comm]
theorem c209(k:Nat)(z y:Str)(hz:z.length<=8)(hl:y.length=z.length)(sz:∀c∈z.cps.toList,c=120\/c=46)(sy:∀c∈y.cps.toList,c=120\/c=46):aC P (k+1) 209 [.str z,.str y]=some (.bl (!(hasA z y||hasA y z))):=by
 have at1:∀{z:Str}{c:Nat},c<z.length->cO z.cps.toList (c:Nat)=some (z.cps.toList.getD c 0):=fun{z c} hc=>bY (by
  rw[List.getD,CY (by rw[Cn];exact hc)];rfl)
 refine fJ rfl rfl ?_;simp only[Bu,entry];walk_at "ev";have r1:dN [.frz (.int (z.length:Nat)) true]=some ((List.range z.length).map fun c=>PV.int (c:Nat)):=by
  simp only[dN,bB];rw[Cd ⟨by omega,by omega⟩];simp
 have ln:dR (PV.str z)=some z.length:=by rw[len_str,Cd (by show z.length<=16777216;omega)]
 have lw:((List.range z.length).map fun c=>PV.int (c:Nat)).length<=16777216:=by rw[CW,Cy];omega
 rw[ln];walk_at "ev";rw[r1];walk_at "ev";rw[Cd lw,cf (p:=fun c=>z.cps.toList.getD c 0==120&&y.cps.toList.getD c 0==46) (g:=fun c=>PV.int (c:Nat)) (fun c hc=>by
  have hc:=DB.mp hc;walk_at "ev";rw[Cd (by omega),at1 hc];walk_at "ev";rw[jo];cases z.cps.toList.getD c 0==120
  ·walk_at "ev"
  ·walk_at "ev"
   rw[Cd (by omega),at1 (show c<y.length by omega)];walk_at "ev";rw[xf];cases y.cps.toList.getD c 0==46
   ·walk_at "ev"
   ·walk_at "ev")]
 walk_at "ev";rw[ln];walk_at "ev";rw[r1];walk_at "ev";rw[Cd lw,cf (p:=fun c=>z.cps.toList.getD c 0==46&&y.cps.toList.getD c 0==120) (g:=fun c=>PV.int (c:Nat)) (fun c hc=>by
  have hc:=DB.mp hc;walk_at "ev";rw[Cd (by omega),at1 hc];walk_at "ev";rw[xf];cases z.cps.toList.getD c 0==46
  ·walk_at "ev"
  ·walk_at "ev"
   rw[Cd (by omega),at1 (show c<y.length by omega)];walk_at "ev";rw[jo];cases y.cps.toList.getD c 0==120
   ·walk_at "ev"
   ·walk_at "ev")]
 walk_at "ev";have n1:bE .NotEq (.lst (((List.range z.length).filter fun c=>z.cps.toList.getD c 0==120&&y.cps.toList.getD c 0==46).map fun c=>PV.int (c:Nat))) (.lst [])=some (!hasA y z):=oC.trans (DT some (lJ hl sy))
 have n2:bE .NotEq (.lst (((List.range z.length).filter fun c=>z.cps.toList.getD c 0==46&&y.cps.toList.getD c 0==120).map fun c=>PV.int (c:Nat))) (.lst [])=some (!hasA z y):=oC.trans (DT some (by
  have:=pz (z:=z) hl;unfold gw at this;rw[this];exact lJ (z:=y) (y:=z) hl.symm sz))
 rw[n1];walk_at "ev";cases hasA y z
 ·walk_at "ev"
  rw[n2];walk_at "ev"
 ·walk_at "ev"
theorem c210(k:Nat)(rows:List Str)(w:Nat)(hw:Wd rows w)(h8:rows.length<=8)(w8:w<=8)(sg:∀r∈rows,∀c∈r.cps.toList,c=120\/c=46):∃v,aC P (k+2) 210 [.tup (rows.map .str)]=some v/\AV rows v:=by
 refine fH rfl rfl ?_;have im:=bF rows;simp only[Bt,entry];walk_at "ev";rw[im];refine bw (xs:=(List.range rows.length).map fun i=>.int (0+(i:Nat))) (n:=true) ?_ (fun i τ=>(∀i' j',i' <i->i' <j' ->j' <rows.length->mW rows i' j' =true)/\∃a b,τ=[.frz (.tup (rows.map .str)) true,a,b]) ⟨fun _ _ z=>absurd z (Nat.not_lt_zero _),_,_,rfl⟩ ?_ ?_
 ·walk_at "ev"
  simp only[dN,bB,CW];rw[Cd ⟨by omega,by omega⟩];rfl
 ·rintro i y τ hy ⟨inv,a,b,rfl⟩
  obtain⟨hi,rfl⟩:=bo hy;obtain⟨z,hz⟩:∃z,rows[i]? =some z:=⟨_,CY hi⟩;have zm:=DI hz;have zl:=hw z zm;have ez:cO (rows.map PV.str) (i:Int)=some (.str z):=gE hz;refine⟨_,rfl,?_⟩;walk_at "ev";refine bw (xs:=(List.range (rows.length-(i+1))).map fun j=>.int (((i:Int)+1)+(j:Nat))) (n:=true) ?_ (fun j τ=>(∀j',i<j' ->j' <i+1+j->mW rows i j' =true)/\∃c,τ=[.frz (.tup (rows.map .str)) true,.frz (.int (i:Nat)) true,c]) ⟨fun _ z1 z2=>absurd z1 (by omega),_,rfl⟩ ?_ ?_
  ·walk_at "ev"
   simp only[dN,bB,CW];rw[Cd ⟨by omega,by omega,by omega,by omega⟩,show((rows.length:Int)-((i:Int)+1)).toNat=rows.length-(i+1)by omega];rfl
  ·rintro j y τ hy ⟨inj,c,rfl⟩
   obtain⟨hj,rfl⟩:=jM hy;refine⟨_,rfl,?_⟩;have hq:i+1+j<rows.length:=by omega
   have ym:rows[i+1+j]∈rows:=Dh hq;have yl:=hw _ ym;have e0:(i:Int)+1+(j:Nat)=((i+1+j:Nat):Int):=by omega
   have e1:cO (rows.map PV.str) ((i+1+j:Nat):Int)=some (.str rows[i+1+j]):=gE (CY hq);have e2:=c209 k z rows[i+1+j] (by omega) (by omega) (sg z zm) (sg _ ym);have ek:mW rows i (i+1+j)=(hasA z rows[i+1+j]||hasA rows[i+1+j] z):=by unfold mW;rw[eR hz,eR (CY hq)]
   rw[<- ek]at e2;walk_at "ev";rw[ez];walk_at "ev";rw[e0,e1];walk_at "ev";rw[e2];walk_at "ev";cases h:mW rows i (i+1+j)
   ·walk_at "ev"
    refine⟨_,rfl,.inr ⟨i,i+1+j,by omega,hq,rfl,h,fun i' j' h1 h2 h3=> ?_⟩⟩
    rcases h3 with h3|⟨rfl,h3⟩
    ·exact inv i' j' h3 h1 h2
    ·exact inj j' h1 h3
   ·walk_at "ev"
    refine⟨fun j' h1 h2=> ?_,_,rfl⟩
    by_cases h' :j' =i+1+j
    ·rw[h'];exact h
    ·exact inj j' h1 (by omega)
  ·rintro τ ⟨inj,c,rfl⟩
   rw[CW,Cy]at inj;walk_at "ev";refine⟨fun i' j' h1 h2 h3=> ?_,_,_,rfl⟩
   by_cases h:i' =i
   ·rw[h];exact inj j' (by omega) (by omega)
   ·exact inv i' j' (by omega) h2 h3
 ·rintro τ ⟨inv,a,b,rfl⟩
  rw[dr]at inv;walk_at "ev";exact⟨_,rfl,.inl ⟨rfl,fun i j h1 h2=>inv i j (by omega) h1 h2⟩⟩
section
open PySem.Spec PyProof.Rows
theorem vA{X:Cx}{i:Nat}{x:Str}{e:Expr}{p1 p2 p3 p4 p5 p6 p10 p11:Pos}{k1 k2 k3 k4:Nat}{σ:L2.St}{H:Hp}{D:cj}{g:Nat}(hN:X.N.Nodup)(hi:X.N[i]? =some x)(hx:Loc X.env.scope x)(hu:X.A.units+1<cLine)(hf:X.fn=fun _=>true)(ns:xB e)
  (hg:g=120\/g=46) (he:∀(H1:Hp)(Q:VK),aA H H1->(∀H2,aA H1 H2->Q (.str ⟨#[g]⟩) H2)->WE X e σ H1 Q) (q:∀H2,aA H H2->D.nx (σ.set i (some (.str ⟨#[cq g]⟩))) H2) :
  WS X (.Assign [.Name x p1] (.Subscript (.Dict [some (.Constant (.str "x") k1 p2),some (.Constant (.str ".") k2 p3)] [.Constant (.str ".") k3 p4,.Constant (.str "x") k4 p5] p6) e p10) p11) D σ H:=by
 refine ws (ba (i:=i) hN hi hx (jU hu (vb (kO gU gU (kO gU gU vT)) rfl rfl (fun z=>nomatch z) (Nat.le_of_ble_eq_true rfl)) aW ns) rfl (.inl (by rw[hf]))) ?_;intro d hd;refine⟨aJ,[(Sum.inr "x",.str "."),(Sum.inr ".",.str "x")],rfl,by show 2<=15;decide,?_⟩;rw[uk];have s1:aA H (upd H d (.dK (dX [] [(Sum.inr "x",.str "."),(Sum.inr ".",.str "x")]))):=(aA.refl H).upd hd;refine he _ _ s1 fun H2 s2=> ?_;have hd2:H2 d=some (.dK (dX [] [(Sum.inr "x",.str "."),(Sum.inr ".",.str "x")])):=s2 _ _ aJ
 rcases hg with rfl|rfl
 ·exact⟨d,_,rfl,g9.k (k:=Sum.inr "x") hd2,q H2 (s1.trans s2)⟩
 ·exact⟨d,_,rfl,g9.k (k:=Sum.inr ".") hd2,q H2 (s1.trans s2)⟩
end
theorem j6{k:Nat}{vs:List PV}{r:PV}(h:aC P (k+1) 213 vs=some r):∃(rows:List Str)(c:Int),vs=[.tup (rows.map .str),.int c]/\UM.bV 8 rows/\r=.tup ((ck rows c).map .str):=by
 rw[gv]at h;have hP:P 213=some pd:=rfl;rw[hP,C7]at h
 split at h
 case isFalse=>cases h
 rename_i hl;have hl:vs.length=2:=hl;obtain⟨a,b,rfl⟩:=v7 hl;simp only[pd,uY,uZ,fo,fZ,fY,fg,fi,fX,fc,fm,fk,fq,ff,fj,fh,fe,entry,C7,D8,Cq,D5]at h;have e:(([TV.frz a (imm a),.frz b (imm b)]++List.replicate (6-[a,b].length) TV.un).take 2).map TV.valD=[a,b]:=rfl;rw[e]at h;cases hg:j7 [a,b]with
 | none=>rw[hg]at h;cases h
 | some r' =>
  rw[hg]at h;have h:some r' =some r:=h;cases h;exact qj hg
theorem c213(k:Nat){rows:List Str}(c:Int)(b:UM.bV 8 rows):aC P (k+1) 213 [.tup (rows.map .str),.int c]=some (.tup ((ck rows c).map .str)):=by
 refine run rfl rfl ?_;simp only[pd,uY,uZ,fo,fZ,fY,fg,fi,fX,fc,fm,fk,fq,ff,fj,fh,fe,entry,C7,D8,Cq,D5];have e:(([TV.frz (PV.tup (rows.map PV.str)) (imm (PV.tup (rows.map PV.str))),.frz (.int c) (imm (.int c))]++List.replicate (6-[PV.tup (rows.map PV.str),.int c].length) TV.un).take 2).map TV.valD=[.tup (rows.map .str),.int c]:=rfl;rw[e,ul b];rfl
section
open PySem.Spec PyProof.Rows
theorem vE:bH lM ["_law_board_here","_law_cell_here"] (aI mG):=⟨rfl,rfl,rfl,by decide +kernel,rfl,by decide +kernel,by decide +kernel⟩
noncomputable def lI(i:Nat):Stmt:=(aZ mG).getD i (.Pass ⟨0,0,0,0⟩)
noncomputable abbrev B2:Ct:=⟨lM,(aI mG).names,F,G,B,[]⟩
theorem wJ{K:W.Frag}{mg:Str->Option Value}{f:Addr}{fd:FuncData}(hG:∀x v,G.lookup x=some v->∃u w,mg x=some u/\RelV w u/\∀Hi n H,Rp K Hi n v H w)(hB:∀x,B.contains x=true->mg x=none)(D:qD K mg "_law_turned" mG ["_law_board_here","_law_cell_here"] f fd)(p:Program)(w:World)(base:Heap)(k:Nat)
  (fns:∀y g,F.lookup y=some g->∃b gd qs,mg y=some (.ref b)/\W.keepIn K (.ref b)=true/\Binds K gd qs []/\aj p w K mg base dg k b gd qs (na K (aC P k g))):aj p w K mg base dg (k+1) f fd ["_law_board_here","_law_cell_here"] (na K (aC P (k+1) 213)):=by
 refine D.fn.ok vE (fun vs H Q E h=> ?_) (fun cdv A outer s H vs Q E hr h=> ?_)
 ·obtain⟨pvs,r,h1,h2,_⟩:=h
  rw[<- h1.len];obtain⟨_,_,rfl,_⟩:=j6 h2;rfl
 obtain⟨pvs,r,h1,h2,q⟩:=h;obtain⟨rows,c,rfl,b,rfl⟩:=j6 h2
 have C:bC (aC P k) (eH dg p w K mg base lM "_law_turned" (aI mG) f cdv A outer s H E).nox B2 :=
  ⟨rfl,vE.nd,rfl,vE.kind,rfl,hG,hB,fun y g hy=>by
   obtain⟨b,gd,qs,z1,z2,z3,z4⟩:=fns y g hy;exact⟨k,b,gd,qs,z4,hr,z1,z2,z3⟩,Ej,hr.units⟩
 have R0:=em (d:=pd) (N:=lM) rfl h1;have hl0:(start lM vs).length=lM.length:=by
  have:=h1.len;unfold L2.start;rw[Cm,CW,DW,<-this];rfl
 obtain⟨w',w1,w2,hw⟩:=b.wide;have h0:rows.length≠0:=fun z=>b.some (List.length_eq_zero_iff.mp z);have few:=b.few;have im:=bF rows;obtain⟨r,hr1,hr2⟩:∃r:Nat,c%(rows.length:Int)=(r:Nat)/\r<rows.length:=by
  have a1:=Dp c (show(rows.length:Int)≠0 by omega);have a2:=DX c (show(0:Int)<rows.length by omega);exact⟨(c%(rows.length:Int)).toNat,by omega,by omega⟩
 obtain⟨y0,hy0⟩:∃y0,rows[0]? =some y0:=⟨_,CY (by omega)⟩;have yl:y0.length=w' :=hw y0 (DI hy0);have hd0:rows.headD ""=y0:=by
  cases rows with
  | nil=>exact absurd rfl h0
  | cons a l=>exact Cw hy0
 obtain⟨l,hl1,hl2⟩:∃l:Nat,c/8%(w' :Int)=(l:Nat)/\l<w' :=by
  have a1:=Dp (c/8) (show(w' :Int)≠0 by omega);have a2:=DX (c/8) (show(0:Int)<w' by omega);exact⟨(c/8%(w' :Int)).toNat,by omega,by omega⟩
 obtain⟨z,hz⟩:∃z,rows[r]? =some z:=⟨_,CY hr2⟩;have zm:=DI hz;have zl:z.length=w' :=hw z zm;have eT:ck rows c=rows.set r (fO z l):=by
  unfold ck;rw[hd0,yl,hr1,hl1,DQ,DQ,Ck,hz];rfl
 have ey:cO (rows.map PV.str) (0:Int)=some (.str y0):=bY (j:=0) (by rw[Cp,hy0];rfl);have ez:cO (rows.map PV.str) (r:Int)=some (.str z):=bY (by rw[Cp,hz];rfl);have ly:dR (PV.str y0)=some w' :=by rw[IR.len_str,Cd (by show y0.length<=16777216;omega),yl]
 have eb:aZ mG=[lI 0,lI 1,lI 2,lI 3,lI 4,lI 5]:=by kernel_rfl
 rw[eb];refine⟨_,av,?_⟩;refine qG (aV iA av) ?_;refine sN (fu:=0) (n:=80) C rfl (s' :=.asg 2 false [] (.bin .Mod (.var 1) (.bf .len (.cons (.var 0) .nil)))) (τ' :=[.frz (.tup (rows.map .str)) true,.frz (.int c) true,.frz (.int (r:Nat)) true,.un,.un,.un]) (by kernel_rfl) ?_ R0 hl0 fun σ1 H1 O1 R1 L1 s1=> ?_
 ·rw[eh]
  simp -implicitDefEqProofs only[pd,entry];walk_at "ev";rw[CW,Cd (by omega),hr1,im];walk_at "ev"
 refine qG (aV iA av) ?_;refine sN (fu:=0) (n:=80) C rfl (s' :=.asg 3 false [] (.bin .Mod (.bin .FloorDiv (.var 1) (.con (.int 8))) (.bf .len (.cons (.ix (.var 0) (.con (.int 0))) .nil)))) (τ' :=[.frz (.tup (rows.map .str)) true,.frz (.int c) true,.frz (.int (r:Nat)) true,.frz (.int (l:Nat)) true,.un,.un]) (by kernel_rfl) ?_ R1 L1 fun σ2 H2 O2 R2 L2 s2=> ?_
 ·rw[eh]
  walk_at "go";rw[ey];walk_at "ev";rw[ly];walk_at "ev";rw[Cd (by omega),hl1];walk_at "ev"
 refine qG (aV iA av) ?_;refine sN (fu:=0) (n:=80) C rfl (s' :=.asg 4 false [] (.ix (.var 0) (.var 2))) (τ' :=[.frz (.tup (rows.map .str)) true,.frz (.int c) true,.frz (.int (r:Nat)) true,.frz (.int (l:Nat)) true,.frz (.str z) true,.un]) (by kernel_rfl) ?_ R2 L2 fun σ3 H3 O3 R3 L3 s3=> ?_
 ·rw[eh]
  walk_at "ev";rw[ez];walk_at "ev"
 have zc:z.cps.toList[l]? =some (z.cps.toList.getD l 0):=by
  have:l<z.cps.toList.length:=by rw[Cn];show l<z.length;omega
  rw[Ck,CY this];rfl
 have zs:=b.signs z zm _ (DI zc);obtain⟨g,hg⟩:∃g,g=z.cps.toList.getD l 0:=⟨_,rfl⟩;rw[<- hg]at zc zs;have ea:cO z.cps.toList (l:Int)=some g:=bY zc;have t3:∃p1 p2 p3 p4 p5 p6 p7 p8 p9 p10 p11 k1 k2 k3 k4,lI 3=.Assign [.Name "_law_sign" p1] (.Subscript (.Dict [some (.Constant (.str "x") k1 p2),some (.Constant (.str ".") k2 p3)] [.Constant (.str ".") k3 p4,.Constant (.str "x") k4 p5] p6) (.Subscript (.Name "_law_line" p7) (.Name "_law_column" p8) p9) p10) p11:=⟨_,_,_,_,_,_,_,_,_,_,_,_,_,_,_,rfl⟩;obtain⟨p1,p2,p3,p4,p5,p6,p7,p8,p9,p10,p11,k1,k2,k3,k4,e3⟩:=t3;obtain⟨st3,h3⟩:∃st,st=lI 3:=⟨_,rfl⟩;rw[<- h3];refine qG (aV iA av) ?_;rw[h3,e3];have fl:(⟨#[cq g]⟩:Str).length=1:=rfl;refine vA (g:=g) (i:=5) vE.nd rfl (Or.inl rfl) (Bi hr) rfl (fun _ _=>rfl) zs (fun H4 Q4 s4 q4=> ?_) fun H4 s4=> ?_
 ·refine e_w (n:=80) (e' :=.ix (.var 4) (.var 3)) (r:=.frz (.str ⟨#[g]⟩) true) C (by kernel_rfl) ?_ (R3.ext s4) fun u H5 s5 ok=> ?_
  ·walk_at "ev"
   rw[Cd (by omega),ea];walk_at "ev"
  ·have ok:Rp K H true (.str ⟨#[g]⟩) (aN H5 O3) u:=ok
   rw[Rp.str.mp ok];exact q4 H5 s5
 have R4:aX K H O3 [.frz (.tup (rows.map .str)) true,.frz (.int c) true,.frz (.int (r:Nat)) true,.frz (.int (l:Nat)) true,.frz (.str z) true,.frz (.str ⟨#[cq g]⟩) true] (σ3.set 5 (some (.str ⟨#[cq g]⟩))) H4:=(R3.ext s4).setF (i:=5) (v:=.str ⟨#[cq g]⟩) (n:=true) (by rw[L3];show 5<lM.length;decide) (Rp.str.mpr rfl);have L4:(σ3.set 5 (some (V.str ⟨#[cq g]⟩))).length=lM.length:=by rw[DM];exact L3
 refine qG (aV iA av) ?_;refine sN (fu:=0) (n:=80) C rfl (s' :=.asg 4 false [] (.bin .Add (.bin .Add (.sl (.var 4) .no (.yes (.var 3))) (.var 5)) (.sl (.var 4) (.yes (.bin .Add (.var 3) (.con (.int 1)))) .no))) (τ' :=[.frz (.tup (rows.map .str)) true,.frz (.int c) true,.frz (.int (r:Nat)) true,.frz (.int (l:Nat)) true,.frz (.str (fO z l)) true,.frz (.str ⟨#[cq g]⟩) true]) (by kernel_rfl) ?_ R4 L4 fun σ5 H5 O5 R5 L5 s5=> ?_
 ·rw[eh]
  walk_at "ev";have q0:z.cps.toList.length=w' :=by rw[Cn];exact zl
  have q1:(⟨(z.cps.toList.take l).toArray⟩:Str).length=l:=by show(List.toArray _).size=l;rw[Cb,Dg];omega
  have q2:(⟨(z.cps.toList.drop (l+1)).toArray⟩:Str).length=w' -(l+1):=by show(List.toArray _).size=_;rw[Cb,Dy];omega
  have q3:((⟨(z.cps.toList.take l).toArray⟩:Str)++(⟨#[cq g]⟩:Str)).length=l+1:=by
   show(_++_:Array Nat).size=_;rw[Array.size_append];have:(z.cps.toList.take l).toArray.size=l:=q1;simp[this]
  have q4:((⟨(z.cps.toList.take l).toArray⟩:Str)++(⟨#[cq g]⟩:Str))++(⟨(z.cps.toList.drop (l+1)).toArray⟩:Str)=fO z l:=by
   unfold fO;rw[<- hg,List.set_eq_take_append_cons_drop,Cd (by omega)];show(⟨((z.cps.toList.take l).toArray++ #[cq g])++(z.cps.toList.drop (l+1)).toArray⟩:Str)=⟨_⟩;refine DT Str.mk (Array.toList_inj.mp ?_);simp
  rw[Cd (by omega),Cd (by omega),DQ];walk_at "ev";rw[Cd (by omega)];walk_at "ev";rw[Cd (by omega),Cd (by omega),show((l:Int)+1).toNat=l+1 by omega];walk_at "ev";rw[Cd (by omega),q4];walk_at "ev"
 refine qG (aV iA av) ?_;refine A8 (fu:=0) (n:=80) C rfl (s' :=.ret [4] (.bin .Add (.bin .Add (.sl (.var 0) .no (.yes (.var 2))) (.tup (.cons (.var 4) .nil))) (.sl (.var 0) (.yes (.bin .Add (.var 2) (.con (.int 1)))) .no))) (v:=.tup ((ck rows c).map .str)) (by kernel_rfl) ?_ R5 L5 q;rw[mn];walk_at "ev";have sT:∀{xs:List PV}{lo hi:Option Int},(if HT.aw xs.length 0 lo=0/\HT.aw xs.length xs.length hi=xs.length then some (RV.frz (.tup xs) true)else some (.frz (.tup (cut xs lo hi)) true))=some (.frz (.tup (cut xs lo hi)) true):=fun{xs lo hi}=>by
  split
  ·rename_i h
   unfold cut;rw[h.1,h.2,List.drop_zero,Nat.sub_zero,List.take_length]
  ·rfl
 rw[sT,wT];walk_at "ev";rw[sT,show((r:Int)+1)=((r+1:Nat):Int)by omega,wS];have n1:((rows.map PV.str).take r++[PV.str (fO z l)]).length<=16777216:=by rw[Cm,Dg,CW];show _+1<=_;omega
 have n2:((rows.map PV.str).take r++[PV.str (fO z l)]++(rows.map PV.str).drop (r+1)).length<=16777216:=by rw[Cm,Cm,Dg,Dy,CW];show _+1+_<=_;omega
 rw[Cd n1];walk_at "ev";rw[Cd n2];walk_at "ev";rw[eT,List.set_eq_take_append_cons_drop,Cd hr2,Dm,Cq,List.map_take,List.map_drop,List.append_assoc];rfl
end
section
open PySem.Spec PyProof.Rows L2.XN XE
structure qE(K:W.Frag)(mg:Str->Option Value)(C D c1 c2 c3 fI:Addr)(fd:FuncData):Prop where
 mx:xh K C fI "rows"
 kC:uS K mg "NoStair" C
 kD:uS K mg "BoardError" D
 k1:uS K mg "NoBoard" c1
 k2:uS K mg "NoPlacing" c2
 k3:uS K mg "TooGreat" c3
 sC:W.subIn K (.ref C) (.ref C)=some true
 sD:W.subIn K (.ref C) (.ref D)=some true
 sB:W.subIn K (.ref D) (.type "BaseException")=some true
 sV:W.subIn K (.ref C) (.type "ValueError")=some true
 s1:W.subIn K (.ref C) (.ref c1)=some false
 s2:W.subIn K (.ref C) (.ref c2)=some false
 s3:W.subIn K (.ref C) (.ref c3)=some false
 n1:C≠c1
 n2:C≠c2
 n3:C≠c3
 fn:∃(oc kV doc pm cdv ct oc' :Value)(od an od' :Option Addr)(osl osl' :Array (Option Value))(T:Addr)(n:Nat),fd=W.fnOf "__init__" "NoStair.__init__" (bG sI) (aZ sI) (aI sI) (.ref T) kV doc pm an cdv ct/\K.lookup fI=some ⟨oc,od,.func fd,osl⟩/\W.codeIn K cdv "NoStair.__init__"=true/\K.lookup T=some ⟨oc',od',.seq #[.none] n,osl'⟩
noncomputable abbrev NI:List Str:=["self","rows"]
theorem o0:bH NI NI (aI sI):=⟨rfl,rfl,rfl,by decide +kernel,rfl,by decide +kernel,by decide +kernel⟩
noncomputable def spI(K:W.Frag)(fI:Addr):Sp:=fun vs H Q _=>∃e C y,vs=[.ref e,y]/\H e=some (XN C none e)/\xh K C fI "rows"/\∀d,H d=none->d≠e->Q .non (upd (upd H e (XN C (some d) e)) d (.xd [("rows",y)]))
section
variable{K:W.Frag}{mg:Str->Option Value}{C D c1 c2 c3 fI:Addr}{fd:FuncData}(cl:qE K mg C D c1 c2 c3 fI fd){p:Program}{w:World}{base:Heap}{k:Nat}
include cl
theorem wD:aj p w K mg base dg (k+1) fI fd NI (spI K fI):=by
 obtain⟨oc,kV,doc,pm,cdv,ct,oc',od,an,od',osl,osl',T,n,rfl,lk,hcd,_⟩:=cl.fn;refine oN lk hcd o0 (fun vs H Q E h=> ?_) fun A outer s H vs Q E hr h=> ?_
 ·obtain⟨e,C,y,rfl,_⟩:=h
  rfl
 ·obtain⟨e,C,y,rfl,he,M,q⟩:=h
  refine⟨_,am (vO (pv 0) (pv 1) rfl),?_⟩;exact⟨y,rfl,_,rfl,e,C,fI,rfl,he,M,fun d hd hn=>q d hd hn⟩
theorem wE:Binds K fd NI []:=by
 obtain⟨oc,kV,doc,pm,cdv,ct,oc',od,an,od',osl,osl',T,n,rfl,lk,hcd,ht⟩:=cl.fn;intro s us X hl;rw[Do]at hl ⊢;obtain⟨a,b,rfl⟩:=v7 hl;exact W.binds_K X rfl ht rfl rfl rfl
end
end
section
open PySem.Spec PyProof.Rows L2.XN XE
noncomputable def uw(K:W.Frag)(C:Addr):Sp:=fun vs H _ E=>∃(rows:List Str)(i j:Nat),UM.bV 8 rows/\aE K H false [.tup (rows.map .str)] H vs/\AV rows (.tup [.int (i:Nat),.int (j:Nat)])/\∀H' d t,aA H H' ->H' d=some (.xd [("rows",t)])->Rp K H true (.tup [.int (i:Nat),.int (j:Nat)]) H' t->E (.ref C) (some d) H'
theorem rE:bH CM ["board"] (aI o5):=⟨rfl,rfl,rfl,by decide +kernel,rfl,by decide +kernel,by decide +kernel⟩
theorem rD:bH CL ["board"] (aI rF):=⟨rfl,rfl,rfl,by decide +kernel,rfl,by decide +kernel,by decide +kernel⟩
theorem vI{K:W.Frag}{H H' :Hp}{n:Bool}{v:PV}{vs:List V}(h:aE K H n [v] H' vs):∃u,vs=[u]:=by
 unfold aE at h;obtain⟨u,us,rfl,_,h1⟩:=h;unfold aE at h1;exact⟨u,by rw[h1]⟩
section
variable{K:W.Frag}{mg:Str->Option Value}{C D c1 c2 c3 fI:Addr}{fdI:FuncData}(cl:qE K mg C D c1 c2 c3 fI fdI){p:Program}{w:World}{base:Heap}{k:Nat}
include cl
theorem xU{f:Addr}{fd:FuncData}(Df:qD K mg "steps_of" o5 ["board"] f fd)(fns:∀y g,F.lookup y=some g->∃b gd qs,mg y=some (.ref b)/\PySem.W.keepIn K (.ref b)=true/\Binds K gd qs []/\aj p w K mg base dg (k+3) b gd qs (na K (aC P (k+3) g))) :
  aj p w K mg base (uW p w C) (k+4) f fd ["board"] (uw K C):=by
 obtain⟨oc,od,kV,doc,pm,an,cdv,ct,osl,rfl,lk,hcd⟩:=Df.fn.ex;obtain⟨b,gd,qs,m1,m2,m3,F0⟩:=fns "crossing_rows" 142 rfl;refine oN lk hcd rE (fun vs H Q E h=> ?_) fun A outer s H vs Q E hr h=> ?_
 ·obtain⟨rows,i,j,_,h1,_⟩:=h
  obtain⟨u,rfl⟩:=vI h1;rfl
 ·obtain⟨rows,i,j,bd,h1,cr,q⟩:=h
  obtain⟨w',w1,w2,hw⟩:=bd.wide;obtain⟨v,e142,cr'⟩:=CB k rows w' hw bd.few w2;obtain rfl:=zo cr' cr;obtain⟨u,rfl⟩:=vI h1;refine⟨_,aV (ba (i:=1) rE.nd rfl (Or.inl rfl) (cV F0 hr rfl m1 m2 m3 .nil iX (aB (pv 0) aS))) (aV (gO (jQ (nt (pv 1))) (am (o7 (W:=fun e C' dd H1=>C' =C/\H e=none/\E (.ref C) dd (pF H1 e)) rfl (ye (E:=fun _ _ _=>False) cl.mx (wD (k:=0) cl) (hr.mono (by omega)) rfl cl.kC.nm (wE cl) .nil (aB (pv 1) aS)) fun pins σ H1 s1 e C' dd I ea w=>by
    obtain⟨rfl,hn,q⟩:=w;exact mK I hn ea q)) fv) av),?_⟩
  refine⟨u,rfl,_,_,h1,e142,fun t H1 s1 rt=> ?_⟩;have tn:t≠.non:=fun z=>by
   rw[z]at rt;obtain⟨a,_,e,_⟩:=Rp.tup.mp rt;cases e
  refine⟨t,rfl,_,rfl,?_⟩;rw[C5 tn];refine iC ⟨t,rfl,by show 1<=sizeLine;decide,fun e he=>⟨e,C,t,rfl,aJ,cl.mx,fun d hd hde=>⟨rfl,e,C,fI,"rows",some d,rfl,cl.mx,?_,rfl,s1.free he,?_⟩⟩⟩
  ·rw[aD (Du hde),aJ]
  ·have hd1:H1 d=none:=by rw[aD hde]at hd;exact hd
   have sm:aA H1 (pF (upd (upd (upd H1 e (XN C none e)) e (XN C (some d) e)) d (.xd [("rows",t)])) e):=fun b o z=>by
    rw[bT (aH z he),aD (aH z hd1),aD (aH z he),aD (aH z he)];exact z
   exact q _ d t (s1.trans sm) (by rw[bT hde,aJ]) (rt.mono sm)
theorem BV{f f3:Addr}{fd fd3:FuncData}(Df:qD K mg "factors_of" rF ["board"] f fd)(D3:qD K mg "steps_of" o5 ["board"] f3 fd3)(fns:∀y g,F.lookup y=some g->∃b gd qs,mg y=some (.ref b)/\W.keepIn K (.ref b)=true/\Binds K gd qs []/\aj p w K mg base dg (k+3) b gd qs (na K (aC P (k+3) g))) :
  aj p w K mg base (uW p w C) (k+5) f fd ["board"] (uw K C):=by
 have F0:=xU cl D3 fns;obtain⟨oc,od,kV,doc,pm,an,cdv,ct,osl,rfl,lk,hcd⟩:=Df.fn.ex;refine oN lk hcd rD (fun vs H Q E h=> ?_) fun A outer s H vs Q E hr h=> ?_
 ·obtain⟨rows,i,j,_,h1,_⟩:=h
  obtain⟨u,rfl⟩:=vI h1;rfl
 ·obtain⟨rows,i,j,bd,h1,cr,q⟩:=h
  obtain⟨u,rfl⟩:=vI h1;refine⟨_,aV (ba (i:=1) rD.nd rfl (Or.inl rfl) (cV F0 hr rfl D3.nm D3.fn.kp D3.bd .nil (ve fun _ _ z=>z) (aB (pv 0) aS))) av,?_⟩;exact⟨u,rfl,rows,i,j,bd,h1,cr,q⟩
end
end
section
open PySem.Spec PyProof.Rows L2.XN XE
theorem mF:bH CK ["_law_board_here","_law_by_factors"] (aI o4):=⟨rfl,rfl,rfl,by decide +kernel,rfl,by decide +kernel,by decide +kernel⟩
noncomputable def j8:List Stmt->List Stmt
 | .Try _ [.ExceptHandler _ _ s _] _ _ _::_=>s
 | _::r=>j8 r
 | []=>[]
theorem zv{K:W.Frag}{X:Cx}(h:X.K=K):cg X (binaryOp .Add) (fun x y H Q=>∃(l b:Addr)(xs zs:List V),x=.ref l/\y=.ref b/\ar K H l xs/\ar K H b zs/\xs.length+zs.length<=sizeLine/\∀p,H p=none->Q (.ref p) (upd H p (.lst (xs++zs)))):=by
 subst h;exact n6
theorem qq{K:W.Frag}{mg:Str->Option Value}{f C D c1 c2 c3 fI:Addr}{fdI:FuncData}{p:Program}{w:World}{base:Heap}{cdv:Value}{A:Around}{outer:List Env}{s:Shared}{H0:Hp}{E:XK}(hi:mg "isinstance"=none)(hv:mg "ValueError"=none)(cl:qE K mg C D c1 c2 c3 fI fdI) :
  ∃ts:Addr->Option Addr->TS,(∀(e:Addr)(dd:Option Addr)(pn:List (Addr×Obj)),jz (xX (eH dg p w K mg base CK "_law_asked" (aI o4) f cdv A outer s H0 E).nox e pn) (j8 (aZ o4)) (ts e dd)) /\
   ∀(e d:Addr)(D:cj)(σ:L2.St)(H:Hp)(fs:List (Str×V)),σ.length=4->σ[3]? =some (some (.ref e))->uV H C (some d) e->H d=some (.xd fs)->(∀l m H',aA H H' ->H l=none->H' l=some (.lst [.ref m,.ref e])->H' m=some (.lst [.bl true,.bl true,.bl false,.bl false,.bl false])->D.nx (σ.set 2 (some (.ref l))) H')->ts e (some d) D σ H:=by
 have nd:=mF.nd
 have isR:∀{X:Cx}{bb:Bool}(c:Addr),X.K=K->W.kitOne K (.ref C) (.ref c)=some bb->bA X (.builtin "isinstance") (fun xs H Q=>∃e dd,xs=[.ref e,.ref c]/\uV H C dd e/\(∀d,dd=some d->∃fs,H d=some (.xd fs))/\Q (.bl bb) H) :=
  fun c h1 h6=>lE (by rw[h1];exact cl.mx.xc) (fun v z=>z) (by rw[h1];exact h6)
 have isT:∀{X:Cx}{bb:Bool}(c:String),X.K=K->W.kitOne K (.ref C) (.type c)=some bb->bA X (.builtin "isinstance") (fun xs H Q=>∃e dd,xs=[.ref e,.ty c]/\uV H C dd e/\(∀d,dd=some d->∃fs,H d=some (.xd fs))/\Q (.bl bb) H) :=
  fun c h1 h6=>lE (by rw[h1];exact cl.mx.xc) (fun v z=>z) (by rw[h1];exact h6)
 refine⟨_,fun e dd pn=>aV (ba (i:=2) nd rfl (Or.inl rfl) (gW (aB (bM (isR C rfl (cl.kC.kit cl.sC fun _=>rfl)) rfl hi EW (aB (pv 3) (aB (d0 (v:=.ref C) rfl cl.kC.nm rfl) aS)))
    (aB (bM (isT "ValueError" rfl (zD cl.sV (by decide +kernel))) rfl hi EW (aB (pv 3) (aB (xO (n:="ValueError") rfl hv rfl) aS)))
    (aB (bM (isR c1 rfl (cl.k1.kit cl.s1 fun z=>absurd z cl.n1)) rfl hi EW (aB (pv 3) (aB (d0 (v:=.ref c1) rfl cl.k1.nm rfl) aS))) aS)))))
    (am (ba (i:=2) nd rfl (Or.inl rfl) (gW (aB (xQ (zv (K:=K) rfl) (pv 2) (gW (aB (bM (isR c2 rfl (cl.k2.kit cl.s2 fun z=>absurd z cl.n2)) rfl hi EW (aB (pv 3) (aB (d0 (v:=.ref c2) rfl cl.k2.nm rfl) aS)))
    (aB (bM (isR c3 rfl (cl.k3.kit cl.s3 fun z=>absurd z cl.n3)) rfl hi EW (aB (pv 3) (aB (d0 (v:=.ref c3) rfl cl.k3.nm rfl) aS))) aS)))) (aB (pv 3) aS))))),?_⟩
 intro e d D σ H fs hl he ie hd q;have hf:∀d',some d=some d' ->∃fs,H d' =some (.xd fs):=fun d' z=>by cases z;exact⟨_,hd⟩
 refine⟨_,he,e,some d,rfl,ie,hf,_,he,e,some d,rfl,ie,hf,_,he,e,some d,rfl,ie,hf,(by show 3<=sizeLine;decide),fun l hl=> ?_⟩;have s1:aA H (upd H l (.lst [.bl true,.bl true,.bl false])):=(aA.refl H).upd hl;have ie2:=ie.mono s1;have hf2:∀d',some d=some d' ->∃fs,upd H l (.lst [.bl true,.bl true,.bl false]) d' =some (.xd fs):=fun d' z=>by cases z;exact⟨_,s1 _ _ hd⟩
 have h2:(σ.set 2 (some (.ref l)))[2]? =some (some (.ref l)):=by rw[DE (by omega)]
 have h3:(σ.set 2 (some (.ref l)))[3]? =some (some (.ref e)):=by rw[Cr (by decide)];exact he
 refine⟨_,h2,_,h3,e,some d,rfl,ie2,hf2,_,h3,e,some d,rfl,ie2,hf2,(by show 2<=sizeLine;decide),fun m hm=> ?_⟩;have lm:l≠m:=fun z=>by rw[<- z,aJ]at hm;cases hm
 have hm0:H m=none:=by rw[aD (Du lm)]at hm;exact hm
 refine⟨l,m,_,_,rfl,rfl,ar.of (by rw[aD lm];exact aJ),ar.of aJ,(by show 5<=sizeLine;decide),fun p hp=> ?_⟩;have pm:p≠m:=fun z=>by rw[z,aJ]at hp;cases hp
 have hp1:upd H l (.lst [.bl true,.bl true,.bl false]) p=none:=by rw[aD pm]at hp;exact hp
 have pl:p≠l:=fun z=>by rw[z,aJ]at hp1;cases hp1
 have hp0:H p=none:=by rw[aD pl]at hp1;exact hp1
 refine⟨_,h3,(by show 2<=sizeLine;decide),fun z hz=> ?_⟩;have zp:z≠p:=fun y=>by rw[y,aJ]at hz;cases hz
 rw[aD zp]at hz;have zm:z≠m:=fun y=>by rw[y,aJ]at hz;cases hz
 rw[aD zm]at hz;have zl:z≠l:=fun y=>by rw[y,aJ]at hz;cases hz
 rw[aD zl]at hz;have fin:=q z p _ (((((aA.refl H).upd (o:=.lst [.bl true,.bl true,.bl false]) hl).upd (o:=.lst [.bl false,.bl false]) hm0).upd (o:=.lst ([.bl true,.bl true,.bl false]++[.bl false,.bl false])) hp0).upd (o:=.lst [.ref p,.ref e]) hz) hz aJ (by rw[aD (Du zp)];exact aJ);show D.nx ((σ.set 2 (some (.ref l))).set 2 (some (.ref z))) _;rw[List.set_set];exact fin
noncomputable def A5(K:W.Frag)(C:Addr):Sp:=fun vs H Q _=>∃(rows:List Str)(b:Bool)(v:PV),UM.bV 8 rows/\aE K H false [.tup (rows.map .str),.bl b] H vs/\AV rows v/\(v=.non->∀H',aA H H' ->Q .non H') /\
 ∀i j:Nat,v=.tup [.int (i:Nat),.int (j:Nat)]->∀H' l m e d t,aA H H' ->H l=none->H' l=some (.lst [.ref m,.ref e])->H' m=some (.lst [.bl true,.bl true,.bl false,.bl false,.bl false])->uV H' C (some d) e->H' d=some (.xd [("rows",t)])->Rp K H true (.tup [.int (i:Nat),.int (j:Nat)]) H' t->Q (.ref l) H'
theorem tK(z:Str):hasA z z=true:=by
 unfold hasA;rw[C2];intro c hc;rw[(dJ.mp hc).2];rfl
theorem oB{rows:List Str}(h:AV rows .non):∀z∈rows,∀y∈rows,hasA z y=true\/hasA y z=true:=by
 rcases h with⟨_,h⟩|⟨_,_,_,_,z,_⟩
 ·intro z hz y hy
  obtain⟨i,hi,rfl⟩:=List.mem_iff_getElem.mp hz;obtain⟨j,hj,rfl⟩:=List.mem_iff_getElem.mp hy;have key:∀i j (hi:i<rows.length) (hj:j<rows.length),i<j->hasA rows[i] rows[j]=true\/hasA rows[j] rows[i]=true:=fun i j hi hj hij=>by
   have:=h i j hij hj;unfold mW at this;rw[eR (CY hi),eR (CY hj)]at this;exact Bool.or_eq_true_iff.mp this
  rcases Nat.lt_trichotomy i j with q|q|q
  ·exact key i j hi hj q
  ·subst q
   exact .inl (tK _)
  ·exact(key j i hj hi q).symm
 ·cases z
theorem CA(k:Nat){rows:List Str}{w:Nat}(hw:Wd rows w)(h8:rows.length<=8)(w8:w<=8)(nest:∀z∈rows,∀y∈rows,hasA z y=true\/hasA y z=true):∃v,aC P (k+5) 144 [.tup (rows.map .str)]=some v:=by
 have h0:∀x∈sortI (rows.map dO),0<=x:=fun x hx=>by
  obtain⟨z,_,rfl⟩:=DY.mp ((sortI_perm _).mem_iff.mp hx);unfold dO;omega
 refine⟨_,c144 k rows w ((sortI (rows.map dO)).map Int.toNat) hw h8 w8 nest ?_ ?_⟩
 ·unfold cv
  rw[Dr]
  conv=>lhs;rw[<- List.map_id (sortI (rows.map dO))]
  refine Da fun x hx=> ?_;have:=h0 x hx;show x=((x.toNat:Nat):Int);omega
 ·rw[CW,(sortI_perm _).length_eq,CW]
  exact h8
theorem AJ{K:PySem.W.Frag}{mg:Str->Option Value}{f f3 f4 C D c1 c2 c3 fI:Addr}{fd fd3 fd4 fdI:FuncData}(hi:mg "isinstance"=none)(hv:mg "ValueError"=none)(cl:qE K mg C D c1 c2 c3 fI fdI)(Df:qD K mg "_law_asked" o4 ["_law_board_here","_law_by_factors"] f fd)
  (D3:qD K mg "steps_of" o5 ["board"] f3 fd3) (D4:qD K mg "factors_of" rF ["board"] f4 fd4) {p:Program} {w:World} {base:Heap} {k:Nat} (fns:∀y g,F.lookup y=some g->∃b gd qs,mg y=some (.ref b)/\PySem.W.keepIn K (.ref b)=true/\Binds K gd qs []/\aj p w K mg base dg (k+5) b gd qs (na K (aC P (k+5) g)))
  (X3:aj p w K mg base (uW p w C) (k+5) f3 fd3 ["board"] (uw K C)) (X4:aj p w K mg base (uW p w C) (k+5) f4 fd4 ["board"] (uw K C)):aj p w K mg base dg (k+6) f fd ["_law_board_here","_law_by_factors"] (A5 K C):=by
 obtain⟨b3,gd3,qs3,m31,m32,m33,F3⟩:=fns "steps_of" 143 rfl;obtain⟨b4,gd4,qs4,m41,m42,m43,F4⟩:=fns "factors_of" 144 rfl;refine Df.fn.ok mF (fun vs H Q E h=> ?_) fun cdv A outer s H vs Q E hr h=> ?_
 ·obtain⟨rows,b,v,_,h1,_⟩:=h
  rw[<- h1.len];rfl
 obtain⟨rows,b,v,bd,h1,cr,q0,q1⟩:=h;obtain⟨w',w1,w2,hw⟩:=bd.wide;have nd:=mF.nd;obtain⟨u,hu,rfl⟩:∃u,aE K H false [.tup (rows.map .str)] H [u]/\vs=[u,.bl b]:=by
  unfold aE at h1;obtain⟨u,us,rfl,a1,h1⟩:=h1;unfold aE at h1;obtain⟨u2,us2,rfl,a2,h1⟩:=h1;unfold aE at h1;rw[h1,Rp.bl.mp a2];exact⟨u,.cons a1 .nil,rfl⟩
 obtain⟨ts,hS,rS⟩:=qq (p:=p) (w:=w) (base:=base) (f:=f) (cdv:=cdv) (A:=A) (outer:=outer) (s:=s) (H0:=H) (E:=E) hi hv cl
 rcases id cr with⟨rfl,_⟩|⟨i,j,_,_,rfl,_⟩
 ·have nest:=oB cr
  have e3:=zx (k+1) rows w' hw bd.few w2 nest;obtain⟨v4,e4⟩:=CA k hw bd.few w2 nest
  refine⟨_,aV (ba (i:=2) nd rfl (Or.inl rfl) mQ) (aV (nj (C:=C) (D:=D) (i:=3) rfl rfl rfl nd rfl rfl rfl cl.kD.nm (cl.kD.exm cl.sD cl.sB)
   (fun E pn W hp=>am (gO (mL (pv 1)) (am (dG (cV F4 hr rfl m41 m42 m43 .nil iX (aB (pv 0) aS)))) (am (dG (cV F3 hr rfl m31 m32 m33 .nil iX (aB (pv 0) aS)))))) hS)
   (am (mM (pv 2)))),?_⟩
  show qp C 3 _ ts _ [some u,some (.bl b),some .non,none] H;refine⟨fun _ _ _ _=>False,?_,fun σ' H' dd _ z=>z.elim⟩;refine⟨_,rfl,b,rfl,?_⟩;cases b with
  | true=>exact iC ⟨u,rfl,_,_,hu,e4,fun u' H' s' ru=>⟨_,rfl,q0 rfl H' s'⟩⟩
  | false=>exact ef ⟨u,rfl,_,_,hu,e3,fun u' H' s' ru=>⟨_,rfl,q0 rfl H' s'⟩⟩
 ·refine⟨_,aV (ba (i:=2) nd rfl (Or.inl rfl) mQ) (aV (nj (C:=C) (D:=D) (i:=3) rfl rfl rfl nd rfl rfl rfl cl.kD.nm (cl.kD.exm cl.sD cl.sB)
   (fun E pn W hp=>am (gO (mL (pv 1)) (am (dG (kR X4 hr rfl D4.nm D4.fn.kp D4.bd .nil hp (aB (pv 0) aS)))) (am (dG (kR X3 hr rfl D3.nm D3.fn.kp D3.bd .nil hp (aB (pv 0) aS)))))) hS)
   (am (mM (pv 2)))),?_⟩
  show qp C 3 _ ts _ [some u,some (.bl b),some .non,none] H;refine⟨fun σ' cls dd H' =>σ' =[some u,some (.bl b),some .non,none]/\∃d t,dd=some d/\aA H H' /\H' d=some (.xd [("rows",t)])/\Rp K H true (.tup [.int (i:Nat),.int (j:Nat)]) H' t,?_,fun σ' H' dd _ z e he=> ?_⟩
  ·refine⟨_,rfl,b,rfl,?_⟩
   cases b with
   | true=>exact iC ⟨u,rfl,rows,i,j,bd,hu,cr,fun H' d t s' hd ht=>⟨rfl,d,t,rfl,s',hd,ht⟩⟩
   | false=>exact ef ⟨u,rfl,rows,i,j,bd,hu,cr,fun H' d t s' hd ht=>⟨rfl,d,t,rfl,s',hd,ht⟩⟩
  ·obtain⟨rfl,d,t,rfl,s',hd,rt⟩:=z
   have se:aA H' (upd H' e (XO C (some d) e)):=(aA.refl H').upd he;refine rS e d _ _ (upd H' e (XO C (some d) e)) _ rfl rfl (.inr aJ) (se _ _ hd) fun l m H2 s2 hl0 hl hm=> ?_;show Ap (yE 2) _ [some u,some (.bl b),some (.ref l),none] H2;have sl:=(s'.trans se).trans s2;refine⟨_,rfl,q1 i j rfl H2 l m e d t sl ((s'.trans se).free hl0) hl hm (.inr (s2 _ _ aJ)) (s2 _ _ (se _ _ hd)) (rt.mono (se.trans s2))⟩
end
section
open PySem.Spec PyProof.Rows L2.XN XE
theorem mO(l:List Int):plain.plains (l.map PV.int)=true/\depth.depths (l.map PV.int)<=1:=by
 induction l with
 | nil=>exact⟨rfl,DH _⟩
 | cons x l ih =>
  rw[Cq];unfold plain.plains depth.depths;exact⟨by rw[ih.1];rfl,Nat.max_le.mpr ⟨Ca _,ih.2⟩⟩
theorem lv20{k:Nat}{v:PV}(h:aC P k 20020 [.non]=some v):21<=k:=by
 by_cases hk:21<=k
 ·exact hk
 ·have e:∀k,k<21->(aC P k 20020 [.non]).isNone=true:=by decide +kernel
  have:=e k (by omega);rw[h]at this;cases this
theorem kr{k:Nat}{vs:List PV}{r:PV}(h:aC P (k+1) 212 vs=some r):21<=k/\r=.bl true/\∃rows:List Str,vs=[.tup (rows.map .str)]/\UM.bV 8 rows:=by
 rw[gv]at h;have hP:P 212=some pe:=rfl;rw[hP,C7]at h
 split at h
 case isFalse=>cases h
 rename_i hl;have hl:vs.length=1:=hl;obtain⟨v,rfl⟩:=zB hl;simp only[pe,uY,uZ,fo,fZ,fY,fg,fi,fX,fc,fm,fk,fq,ff,fj,fh,fe,cI,b8,cL,cQ,cJ,cN,cB,cC,cR,cK,cM,cD,cE,b9,cS,cT,cH,cA,cG,cF,cP,uc,ud,entry,C7,D8,Cq,D5,bB]at h;cases h9:aC P k 20020 [.non]with
 | none=>rw[h9]at h;cases h
 | some x =>
  rw[h9]at h;simp only[D8,C7,jE]at h;have e:(([TV.frz v (imm v)]++List.replicate (4-[v].length) TV.un).take 1).map TV.valD=[v]:=rfl;rw[e]at h;cases hg:uA [v]with
  | none=>rw[hg]at h;cases h
  | some r' =>
   rw[hg]at h;have h:some r' =some r:=h;cases h;exact⟨lv20 h9,wf hg⟩
theorem zw(k:Nat){rows:List Str}(b:UM.bV 8 rows):aC P (k+22) 212 [.tup (rows.map .str)]=some (.bl true):=by
 refine run rfl rfl ?_;have e9:aC P (k+21) 20020 [.non]=some .non:=rfl;simp only[pe,uY,uZ,fo,fZ,fY,fg,fi,fX,fc,fm,fk,fq,ff,fj,fh,fe,cI,b8,cL,cQ,cJ,cN,cB,cC,cR,cK,cM,cD,cE,b9,cS,cT,cH,cA,cG,cF,cP,uc,ud,entry,C7,D8,Cq,D5,bB,sc];rw[e9];simp only[D8,C7,jE];have e:(([TV.frz (PV.tup (rows.map PV.str)) (imm (PV.tup (rows.map PV.str)))]++List.replicate (4-[PV.tup (rows.map PV.str)].length) TV.un).take 1).map TV.valD=[.tup (rows.map .str)]:=rfl;rw[e,zy b];rfl
theorem jL:bH nS ["_law_board_here"] (aI mH):=⟨rfl,rfl,rfl,by decide +kernel,rfl,by decide +kernel,by decide +kernel⟩
noncomputable def AI(i:Nat):Stmt:=(aZ mH).getD i (.Pass ⟨0,0,0,0⟩)
noncomputable abbrev B3:Ct:=⟨nS,(aI mH).names,F,G,B,[]⟩
theorem wK{K:W.Frag}{mg:Str->Option Value}{f f1 f3 f4 C D c1 c2 c3 fI:Addr}{fd fd1 fd3 fd4 fdI:FuncData}(hG:∀x v,G.lookup x=some v->∃u w,mg x=some u/\RelV w u/\∀Hi n H,Rp K Hi n v H w)(hB:∀x,B.contains x=true->mg x=none)(cl:qE K mg C D c1 c2 c3 fI fdI)
  (D1:qD K mg "_law_asked" o4 ["_law_board_here","_law_by_factors"] f1 fd1) (D3:qD K mg "steps_of" o5 ["board"] f3 fd3) (D4:qD K mg "factors_of" rF ["board"] f4 fd4) (Df:qD K mg "_law_good" mH ["_law_board_here"] f fd) (p:Program) (w:World) (base:Heap) (k:Nat)
  (below:∀j,j<=k->∀y g,F.lookup y=some g->∃b gd qs,mg y=some (.ref b)/\W.keepIn K (.ref b)=true/\Binds K gd qs []/\aj p w K mg base dg j b gd qs (na K (aC P j g))):aj p w K mg base dg (k+1) f fd ["_law_board_here"] (na K (aC P (k+1) 212)):=by
 refine Df.fn.ok jL (fun vs H Q E h=> ?_) (fun cdv A outer s H vs Q E hr h=> ?_)
 ·obtain⟨pvs,r,h1,h2,_⟩:=h
  rw[<- h1.len];obtain⟨_,_,_,rfl,_⟩:=kr h2;rfl
 obtain⟨pvs,r,h1,h2,q⟩:=h;obtain⟨hk,rfl,rows,rfl,bd⟩:=kr h2;obtain⟨k,rfl⟩:∃k',k=k' +21:=⟨k-21,by omega⟩;have fns:=below (k+21) (Ca _)
 have C0:bC (aC P (k+21)) (eH dg p w K mg base nS "_law_good" (aI mH) f cdv A outer s H E).nox B3 :=
  ⟨rfl,jL.nd,rfl,jL.kind,rfl,hG,hB,fun y g hy=>by
   obtain⟨b,gd,qs,z1,z2,z3,z4⟩:=fns y g hy;exact⟨k+21,b,gd,qs,z4,hr,z1,z2,z3⟩,Ej,hr.units⟩
 have X3:=xU (k:=k) cl D3 (below (k+3) (by omega));have X4:=BV (k:=k) cl D4 D3 (below (k+3) (by omega));have A1:=(AJ (k:=k) (hB "isinstance" rfl) (hB "ValueError" rfl) cl D1 D3 D4 (below (k+5) (by omega)) (X3.mono (by omega)) X4).mono (show k+6<=k+21 by omega);have R0:=em (d:=pe) (N:=nS) rfl h1;have hl0:(start nS vs).length=nS.length:=by
  have:=h1.len;unfold L2.start;rw[Cm,CW,DW,<-this];rfl
 obtain⟨w',w1,w2,hw⟩:=bd.wide;have few:=bd.few;have im:=bF rows;obtain⟨v,e210,cr⟩:=c210 (k+19) rows w' hw few w2 bd.signs;have eb:aZ mH=[AI 0,AI 1,AI 2]:=by kernel_rfl
 rw[eb];refine⟨_,av,?_⟩;refine qG (aV iA av) ?_;have tv:hV v=.frz v true:=by
  rcases cr with⟨rfl,_⟩|⟨i,j,_,_,rfl,_⟩<;>rfl
 refine sN (fu:=0) (n:=80) C0 rfl (s' :=.asg 1 false [] (.call 210 (.cons (.var 0) .nil))) (τ' :=[.frz (.tup (rows.map .str)) true,.frz v true,.un,.un]) (by kernel_rfl) ?_ R0 hl0 fun σ1 H1 O1 R1 L1 s1=> ?_
 ·rw[eh]
  simp -implicitDefEqProofs only[pe,entry];walk_at "ev";rw[e210];walk_at "ev";rw[im,tv];rfl
 obtain⟨bS,gdS,qsS,mS1,mS2,mS3,FS⟩:=fns "_law_same" 9 rfl;refine qG (aV iA av) ?_;refine tO (n:=80) (i:=2) (it' :=.seq (.lst (.cons (.con (.bl false)) (.cons (.con (.bl true)) .nil)))) (k:=true) C0 rfl (by kernel_rfl) (by kernel_rfl) ?_ R1 L1 (fun j υ σ' G=>∃a:TV,υ=[.frz (.tup (rows.map .str)) true,.frz v true,a,.un]) (fun _ _ _ _ _ _ z=>z) ⟨_,rfl⟩ ?_ ?_ (xs:=[.bl false,.bl true])
 ·rfl
 ·rintro j y υ σ' G u D' hy R2 L2 ⟨a,rfl⟩ nx
  obtain⟨b,rfl⟩:∃b,y=.bl b:=by
   have:=DI hy;simp only[Co,C8,EA]at this
   rcases this with rfl|rfl<;>exact⟨_,rfl⟩
  obtain⟨σ,hσ⟩:∃σ,σ=σ'.set 2 (some u):=⟨_,rfl⟩;rw[<- hσ]at R2 L2 ⊢;have R2:aX K H O1 [.frz (.tup (rows.map .str)) true,.frz v true,.frz (.bl b) true,.un] σ G:=R2;obtain⟨u0,g0,r0⟩:=R2.frz 0 _ _ rfl;obtain⟨u1,g1,r1⟩:=R2.frz 1 _ _ rfl;obtain⟨u2,g2,r2⟩:=R2.frz 2 _ _ rfl;have e2:=Rp.bl.mp r2;subst e2
  refine qG (aV (ba (i:=3) jL.nd rfl (Or.inl rfl) (cV A1 hr rfl D1.nm D1.fn.kp D1.bd .nil iX (aB (pv 0) (aB (pv 2) aS)))) (am (gO (jQ (rl (pv 1))) (am (gO (jQ (nt (pv 3))) av fv))
   (am (gO (PW.pt (rJ (jQ (rl (pv 3))) (rJ (ni (rq (Hi:=H) hr.units) (rh eD (pv 3) mR (fun _ _=>rfl)) (gW (aB iW (aB iW (aB iW (aB iW (aB iW aS)))))) (yx _))
    (rH (rM (mL (cV FS hr rfl mS1 mS2 mS3 .nil iX (aB (va (rh eD (pv 3) mR (fun _ _=>rfl)) rfl) (aB (pv 1) aS))))))))) av fv))))) ?_
  have hle:aA (aN G O1) G:=aO;have rA:aE K G false [.tup (rows.map .str),.bl b] G [u0,.bl b]:=.cons ((r0.mono hle).weak.entry (fun z=>by cases z)) (.cons (Rp.bl.mpr rfl) .nil);have s3:∀{x:V}{i:Nat},i≠3->(σ.set 3 (some x))[i]? =σ[i]? :=fun{x i} h=>Cr (Du h);have s33:∀{x:V},(σ.set 3 (some x))[3]? =some (some x):=fun{x}=>DE (by rw[L2];show 3<nS.length;decide);have fin:∀{x:V}{G2:Hp},aA G G2->D'.nx (σ.set 3 (some x)) G2:=fun{x G2} s2=>nx _ _ G2 ((R2.ext s2).setN (i:=3) (u:=x)) (by rw[DM];exact L2) (aF s2) ⟨_,rfl⟩;refine⟨u0,g0,_,g2,rows,b,v,bd,rA,cr,fun hv G2 s2=> ?_,fun i j hv G2 l m e d t s2 hl0 hl hm ie hd rt=> ?_⟩
  ·subst hv
   have e1:=Rp.non.mp r1;subst e1;refine⟨_,(s3 (by decide)).trans g1,_,rfl,?_⟩;rw[Ed (Eq.refl V.non)];refine iC ⟨_,s33,_,rfl,?_⟩;rw[Ed (Eq.refl V.non)];exact ef (fin s2)
  ·subst hv
   obtain⟨a1,us1,e1,q1,l1⟩:=Rp.tup.mp r1;subst e1;refine⟨_,(s3 (by decide)).trans g1,_,rfl,?_⟩;rw[C5 (fun z:V.ref a1=.non=>by cases z)];refine ef ⟨_,s33,_,rfl,?_⟩;rw[C5 (fun z:V.ref l=.non=>by cases z)];refine ef ⟨_,s33,l,_,_,_,rfl,rfl,ar.of hl,rfl,by show 5<=sizeLine;decide,fun z hz=> ?_⟩;have rB:∀{H' :Hp}{q:Addr},H' q=some (.lst [.bl true,.bl true,.bl false,.bl false,.bl false])->Rp K H false (.lst [.bl true,.bl true,.bl false,.bl false,.bl false]) H' (.ref q):=fun h=>Rp.lst.mpr ⟨_,_,rfl,(fun z=>by cases z),ar.of h,.cons (Rp.bl.mpr rfl) (.cons (Rp.bl.mpr rfl) (.cons (Rp.bl.mpr rfl) (.cons (Rp.bl.mpr rfl) (.cons (Rp.bl.mpr rfl) .nil))))⟩;have sz:aA G2 (upd G2 z (.lst [.bl true,.bl true,.bl false,.bl false,.bl false])):=(aA.refl G2).upd hz;refine⟨.lst [.bl true,.bl true,.bl false,.bl false,.bl false],.lst [.bl true,.bl true,.bl false,.bl false,.bl false],rfl,rfl,rB (sz _ _ hm),rB aJ,_,rfl,?_⟩;rw[show(not (oO (.lst [.bl true,.bl true,.bl false,.bl false,.bl false]) (.lst [.bl true,.bl true,.bl false,.bl false,.bl false])))=false from rfl];have e9:aC P (k+21) 9 [.tup [.int (i:Nat),.int (j:Nat)],.tup [.int (i:Nat),.int (j:Nat)]]=some (.bl true):=by
    rw[show k+21=2*2+(k+17)by omega];exact c9 2 (k+17) (.tup [.int (i:Nat),.int (j:Nat)]) (Ca 2) rfl
   have rP:aE K (upd G2 z (.lst [.bl true,.bl true,.bl false,.bl false,.bl false])) false [.tup [.int (i:Nat),.int (j:Nat)],.tup [.int (i:Nat),.int (j:Nat)]] (upd G2 z (.lst [.bl true,.bl true,.bl false,.bl false,.bl false])) [t,.ref a1] :=
    .cons ((rt.mono sz).weak.entry (fun z=>by cases z)) (.cons ((r1.mono (hle.trans (s2.trans sz))).weak.entry (fun z=>by cases z)) .nil)
   refine ef ⟨_,s33,l,_,_,_,rfl,rfl,ar.of (sz _ _ hl),rfl,e,C,fI,d,_,t,rfl,ie.mono sz,sz _ _ hd,cl.mx,rfl,_,(s3 (by decide)).trans g1,_,_,rP,e9,fun u' G3 s3' ru=> ?_⟩;exact⟨true,Rp.bl.mp ru,ef (fin (s2.trans (sz.trans s3')))⟩
 ·rintro υ σ' G R2 L2 s2 ⟨a,rfl⟩
  refine qG (aV iA av) ?_;refine A8 (fu:=0) (n:=80) C0 rfl (s' :=.ret [] (.or (.cmp .IsNot (.var 1) (.con .non)) (.call 9 (.cons (.call 143 (.cons (.var 0) .nil)) (.cons (.bf .sorted (.cons (.lc (.mth .count (.var 0) (.cons (.con (.str "x")) .nil)) (.seq (.var 0)) .no []) .nil)) .nil))))) (v:=.bl true) (by kernel_rfl) ?_ R2 L2 q;rw[mn]
  rcases id cr with⟨rfl,_⟩|⟨i,j,_,_,rfl,_⟩
  ·have nest:=oB cr
   have e3:=zx (k+17) rows w' hw few w2 nest;walk_at "ev";rw[e3];walk_at "ev";have e9:aC P (k+21) 9 [.lst ((sortI (rows.map dO)).map .int),.lst ((sortI (rows.map dO)).map .int)]=some (.bl true):=by
    obtain⟨p1,p2⟩:=mO (sortI (rows.map dO));rw[show k+21=2*2+(k+17)by omega];exact c9 2 (k+17) (.lst ((sortI (rows.map dO)).map .int)) (by rw[depth];omega) (by rw[plain];exact p1)
   rw[Cd (by rw[CW];omega),ak (G:=fun z=>PV.int (dO z)) (fun z hz=>by
    walk_at "ev";rw[show(Str.ofString "x")=⟨#[120]⟩from rfl,gr];rfl)]
   walk_at "ev";rw[show(rows.map fun z=>PV.int (dO z))=(rows.map dO).map PV.int from by rw[Dr];rfl,cU (by rw[CW];omega)];walk_at "ev";rw[e9];walk_at "ev"
  ·walk_at "ev"
end
theorem kF{rows:List Str}{sizes:List Nat}{w:Nat}{o o2:List Nat}(h:jA rows sizes w o o2)(h1:1<=sizes.length)(w1:1<=w):UM.bV 8 rows:=by
 have hl:=h.len;refine⟨fun z=>by rw[z]at hl;simp at hl;omega,by rw[hl];exact h.n8,⟨w,w1,h.w8,h.wd⟩,fun r hr c hc=> ?_⟩;rw[h.is]at hr;obtain⟨i,hi,rfl⟩:=DY.mp hr;have hi:i<sizes.length:=DB.mp (h.po.mem_iff.mp hi);have hc:c∈o2.map fun j=>((sizes.map (fG w)).getD i ⟨#[]⟩).cps.toList.getD j 0:=by simpa [BI]using hc
 obtain⟨j,hj,rfl⟩:=DY.mp hc;have hj:j<w:=DB.mp (h.po2.mem_iff.mp hj);rw[Ck (l:=sizes.map (fG w)),Cp,CY hi];show(fG w sizes[i]).cps.toList.getD j 0=120\/(fG w sizes[i]).cps.toList.getD j 0=46;rw[yK (h.le _ (Dh hi)) hj]
 split
 ·exact .inl rfl
 ·exact .inr rfl
theorem sm23:∀hi:Nat,hi<64->Builtin.Range.small 2 (hi:Int) 3=true:=by decide
theorem o6(hi:Nat)(h:hi<64):dN [sc (.int 2),sc (.int (hi:Nat)),sc (.int 3)]=some ((List.range (Builtin.Range.rangeSize 2 (hi:Int) 3).toNat).map fun m=>.int (2+(m:Nat)*3)):=by
 show(if(3:Int)≠0/\(3:Int).natAbs<1073741824/\Builtin.Range.small 2 (hi:Int) 3=true then some ((List.range (Builtin.Range.rangeSize 2 (hi:Int) 3).toNat).map fun m=>PV.int (2+(m:Nat)*(3:Int)))else none)=_;rw[Cd ⟨by decide,by decide,sm23 hi h⟩]
theorem at23{n i:Nat}{y:PV}(h:((List.range n).map fun m=>PV.int (2+(m:Nat)*3))[i]? =some y):y=.int ((2+3*i:Nat):Int):=by
 rw[Cp]at h
 by_cases hi:i<n
 ·rw[DO hi]at h
  rw[<- Cw h];show PV.int (2+(i:Int)*3)=_;exact DT PV.int (by omega)
 ·rw[List.getElem?_eq_none (by simpa using hi)]at h
  cases h
theorem sS(sizes:List Nat):(sizes.map fun s=>PV.int (s:Nat))=(cv sizes).map PV.int:=by
 unfold cv;rw[Dr];rfl
theorem si:∀ns:List Int,ns.length<=63->aC P 40 214 [.lst (ns.map PV.int)]=some (.bl true):=by
 intro ns h63;obtain⟨v6,e6,rows,bd,rfl⟩:=c6 37 (ns.getD 0 0) (ns.getD 1 0) 8 (by decide) (by decide);have e6:aC P 39 6 [.int (ns.getD 0 0),.int (ns.getD 1 0),.int 8]=some (.tup (rows.map PV.str)):=e6;have a0:aC P 39 4 [.lst (ns.map PV.int),.int 0]=some (.int (ns.getD 0 0)):=c4 38 ns 0;have a1:aC P 39 4 [.lst (ns.map PV.int),.int 1]=some (.int (ns.getD 1 0)):=c4 38 ns 1;have e212:aC P 39 212 [.tup (rows.map .str)]=some (.bl true):=zw 17 bd;refine fJ rfl rfl ?_;simp only[Bs,entry];walk_at "ev";rw[a0];walk_at "ev";rw[a1];walk_at "ev";rw[e6];walk_at "ev";rw[e212];walk_at "ev";obtain⟨hi,hhi⟩:∃hi:Nat,hi=min (max ns.length 3) 62:=⟨_,rfl⟩;refine bw (xs:=(List.range (Builtin.Range.rangeSize 2 (hi:Int) 3).toNat).map fun m=>.int (2+(m:Nat)*3)) (n:=true) ?_ (fun i τ=>∃a b c d e,τ=[.frz (.lst (ns.map PV.int)) false,a,b,c,d,e]) ⟨_,_,_,_,_,rfl⟩ ?_ ?_
 ·walk_at "ev"
  simp only[CW];have q:(if(62:Int)<(if(3:Int)>(ns.length:Int)then 3 else(ns.length:Int))then(62:Int)else(if(3:Int)>(ns.length:Int)then 3 else(ns.length:Int)))=(hi:Int):=by
   split<;>split at* <;> omega
  rw[q,show dN [sc (.int 2),sc (.int (hi:Nat)),sc (.int 3)]=_ from o6 hi (by omega)];rfl
 ·rintro i y τ hy ⟨a,b,c,d,e,rfl⟩
  have ey:=at23 hy;subst ey;refine⟨_,rfl,?_⟩;obtain⟨K,hK⟩:∃K,K=2+3*i:=⟨_,rfl⟩;rw[<- hK];have b0:aC P 39 4 [.lst (ns.map PV.int),.int ((K:Nat):Int)]=some (.int (ns.getD K 0)):=c4 38 ns K;have b1:aC P 39 4 [.lst (ns.map PV.int),.int (((K:Nat):Int)+1)]=some (.int (ns.getD (K+1) 0)):=c4 38 ns (K+1);have b2:aC P 39 4 [.lst (ns.map PV.int),.int (((K:Nat):Int)+2)]=some (.int (ns.getD (K+2) 0)):=c4 38 ns (K+2);obtain⟨m,hm,m1,m8⟩:∃m:Nat,1+ns.getD K 0%8=(m:Nat)/\1<=m/\m<=8:=⟨(1+ns.getD K 0%8).toNat,by omega,by omega,by omega⟩;obtain⟨w,hw,w1,w8⟩:∃w:Nat,1+ns.getD K 0/8%8=(w:Nat)/\1<=w/\w<=8:=⟨(1+ns.getD K 0/8%8).toNat,by omega,by omega,by omega⟩;obtain⟨v,e20,d1,_,rfl⟩:=c20 37 (ns.getD (K+1) 0);obtain⟨v,e20',d2,_,rfl⟩:=c20 37 (ns.getD (K+2) 0);obtain⟨v,e145,sizes,sl,sw,sr,rfl⟩:=c145 38 d1 m w m8 w8;have s8:sizes.length<=8:=by omega
  obtain⟨v,e146,rows,o,o2,st,rfl⟩:=c146 37 sizes w d2 sw sr s8 w8;have e20:aC P 39 20 [.int (ns.getD (K+1) 0)]=some (.int d1):=e20;have e20' :aC P 39 20 [.int (ns.getD (K+2) 0)]=some (.int d2):=e20';rw[sS]at e145 e146;have e145:aC P 39 145 [.int d1,.int (m:Nat),.int (w:Nat)]=some (.lst ((cv sizes).map .int)):=e145;have e146:aC P 39 146 [.lst ((cv sizes).map .int),.int (w:Nat),.int d2]=some (.tup (rows.map .str)):=e146;have bs:=kF st (by omega) w1;have e212:aC P 39 212 [.tup (rows.map .str)]=some (.bl true):=zw 17 bs;have e213:aC P 39 213 [.tup (rows.map .str),.int (ns.getD K 0/64)]=_:=c213 38 (ns.getD K 0/64) bs;have f212:aC P 39 212 [.tup ((ck rows (ns.getD K 0/64)).map .str)]=some (.bl true):=zw 17 (lv bs);have im:=bF rows;rw[ik];walk_at "ev";rw[b0];walk_at "go";rw[hw];walk_at "ev";rw[b1];walk_at "ev";rw[e20];walk_at "go";rw[hm,e145];walk_at "ev";rw[b2];walk_at "ev";rw[e20'];walk_at "ev";rw[e146];walk_at "ev";rw[e212];walk_at "go";rw[e213];walk_at "ev";rw[f212];walk_at "ev";exact⟨_,_,_,_,_,rfl⟩
 ·rintro τ ⟨a,b,c,d,e,rfl⟩
  walk_at "ev"
end Law
namespace Law
open PySem PySem.Spec PyProof.Rows L2 IR
noncomputable abbrev AX(nm:Str)(ps:List Str)(st:Stmt):Prop:=∀(kV doc pm:Value)(an:Option Addr)(cdv ct:Value)(us:List Value),us.length=ps.length->bindArgs (W.fnOf nm nm (bG st) (aZ st) (aI st) .none kV doc pm an cdv ct) ⟨us,[]⟩=pure (ps.zip us)
local macro_rules | `(tactic| walk_at "bd1") => `(tactic| (intro _ _ _ _ _ _ us hl; obtain ⟨_, h⟩ := zB hl; subst h; rfl))
local macro_rules | `(tactic| walk_at "bd2") => `(tactic| (intro _ _ _ _ _ _ us hl; obtain ⟨_, _, h⟩ := v7 hl; subst h; rfl))
local macro_rules | `(tactic| walk_at "bd3") => `(tactic| (intro _ _ _ _ _ _ us hl; obtain ⟨_, _, _, h⟩ := len3 hl; subst h; rfl))
local macro_rules | `(tactic| walk_at "sc") => `(tactic| exact ⟨rfl, rfl, rfl, by decide +kernel, rfl, by decide +kernel, by decide +kernel⟩)
theorem nO{K:W.Frag}{h:Heap}{mg:Str->Option Value}{x:Str}(X:K.In h)(Gh:h.Ns mainGlobals mg)(z:W.nsIn K mainGlobals x=some none):mg x=none:=W.mg_none_of X Gh z
structure FI(K:W.Frag)(nm:Str)(st:Stmt)(f:Addr)(oc kV doc pm cd ct:Value)(od an:Option Addr)(sl:Array (Option Value)):Prop where
 a:W.nsIn K mainGlobals nm=some (some (.ref f))
 l:K.lookup f=some ⟨oc,od,.func (W.fnOf nm nm (bG st) (aZ st) (aI st) .none kV doc pm an cd ct),sl⟩
 c:W.codeIn K cd nm=true
 k:W.keepIn K (.ref f)=true
section
variable{K:W.Frag}{h:Heap}{mg:Str->Option Value}{nm:Str}{ps:List Str}{st:Stmt}{f:Addr}{k:Nat}{oc kV doc pm cd ct:Value}{od an:Option Addr}{sl:Array (Option Value)}(X:K.In h)(Gh:h.Ns mainGlobals mg)(a:FI K nm st f oc kV doc pm cd ct od an sl)
include X Gh a
theorem Aa(b:AX nm ps st):qD K mg nm st ps f (W.fnOf nm nm (bG st) (aZ st) (aI st) .none kV doc pm an cd ct):=⟨tL a.l a.c a.k,W.mg_of X Gh a.a,(tL a.l a.c a.k).binds b⟩
theorem jx(N:List Str)(n:Nat)(M:List Nat){body:qK}(b:AX nm (N.take n) st)(sc:bH N (N.take n) (aI st))(e:P k=some ⟨N.length,(N.take n).length,body⟩)(tr:dM 80 ⟨N,(aI st).names,F,G,B,M⟩ (aZ st)=body):oa K mg P F G B nm k f (W.fnOf nm nm (bG st) (aZ st) (aI st) .none kV doc pm an cd ct) (N.take n):=⟨.inr ⟨st,N,M,80,body,Aa X Gh a b,sc,e,tr⟩⟩
end
theorem AN{l:W.OpenLaw}{w:World}{K:W.Frag}{h:Heap}{mg:Str->Option Value}{fa f0 f1 f2 f3 f4 f5 f6 f7 f8 f9 f10 f11 f12 f13 f14 f15 f16 f17 f18 f19 f20:Addr}(X:K.In h)(Gh:h.Ns mainGlobals mg)(hfa:mg "law"=some (.ref fa))
  {q0 x0 q1 x1 q2 x2 q3 x3 q4 x4 q5 x5 q6 x6 q7 x7 q8 x8 q9 x9 q10 x10 q11 x11 q12 x12 q13 x13 q14 x14 q15 x15 q16 x16 q17 x17 q18 x18 q19 x19 q20 x20:Option Addr} {r0 r1 r2 r3 r4 r5 r6 r7 r8 r9 r10 r11 r12 r13 r14 r15 r16 r17 r18 r19 r20:Array (Option Value)} {p0 t0 u0 w0 y0 m0 p1 t1 u1 w1 y1 m1 p2 t2 u2 w2 y2 m2 p3 t3 u3 w3 y3 m3 p4 t4 u4 w4 y4 m4 p5 t5 u5 w5 y5 m5 p6 t6 u6 w6 y6 m6 p7 t7 u7 w7 y7 m7 p8 t8 u8 w8 y8 m8 p9 t9 u9 w9 y9 m9 p10 t10 u10 w10 y10 m10 p11 t11 u11 w11 y11 m11 p12 t12 u12 w12 y12 m12 p13 t13 u13 w13 y13 m13 p14 t14 u14 w14 y14 m14 p15 t15 u15 w15 y15 m15 p16 t16 u16 w16 y16 m16 p17 t17 u17 w17 y17 m17 p18 t18 u18 w18 y18 m18 p19 t19 u19 w19 y19 m19 p20 t20 u20 w20 y20 m20:Value}
  {tk0 tk1:Tok}
  (a0:FI K "columns_in" s109 f0 p0 t0 u0 w0 y0 m0 q0 x0 r0)
  (a1:FI K "has_all_of" s141 f1 p1 t1 u1 w1 y1 m1 q1 x1 r1)
  (a2:FI K "crossing_rows" s142 f2 p2 t2 u2 w2 y2 m2 q2 x2 r2)
  (a3:FI K "steps_of" o5 f3 p3 t3 u3 w3 y3 m3 q3 x3 r3)
  (a4:FI K "factors_of" rF f4 p4 t4 u4 w4 y4 m4 q4 x4 r4)
  (a5:FI K "_law_cell" s4 f5 p5 t5 u5 w5 y5 m5 q5 x5 r5)
  (a6:FI K "_law_mixed" s5 f6 p6 t6 u6 w6 y6 m6 q6 x6 r6)
  (a7:FI K "_law_deep" s20 f7 p7 t7 u7 w7 y7 m7 q7 x7 r7)
  (a8:FI K "_law_board" s6 f8 p8 t8 u8 w8 y8 m8 q8 x8 r8)
  (a9:FI K "_law_whole" s8 f9 p9 t9 u9 w9 y9 m9 q9 x9 r9)
  (a10:FI K "_law_same" s9 f10 p10 t10 u10 w10 y10 m10 q10 x10 r10)
  (a11:FI K "_law_all_same" s10 f11 p11 t11 u11 w11 y11 m11 q11 x11 r11)
  (a12:FI K "_law_order" s21 f12 p12 t12 u12 w12 y12 m12 q12 x12 r12)
  (a13:FI K "_law_steps" s145 f13 p13 t13 u13 w13 y13 m13 q13 x13 r13)
  (a14:FI K "_law_stair" s146 f14 p14 t14 u14 w14 y14 m14 q14 x14 r14)
  (a15:FI K "_law_apart" s209 f15 p15 t15 u15 w15 y15 m15 q15 x15 r15)
  (a16:FI K "_law_pair" s210 f16 p16 t16 u16 w16 y16 m16 q16 x16 r16)
  (a17:FI K "_law_asked" o4 f17 p17 t17 u17 w17 y17 m17 q17 x17 r17)
  (a18:FI K "_law_good" mH f18 p18 t18 u18 w18 y18 m18 q18 x18 r18)
  (a19:FI K "_law_turned" mG f19 p19 t19 u19 w19 y19 m19 q19 x19 r19)
  (a20:FI K "law" vF f20 p20 t20 u20 w20 y20 m20 q20 x20 r20)
  (z0:W.nsIn K mainGlobals "len"=some none)
  (z1:W.nsIn K mainGlobals "int"=some none)
  (z2:W.nsIn K mainGlobals "list"=some none)
  (z3:W.nsIn K mainGlobals "tuple"=some none)
  (z4:W.nsIn K mainGlobals "all"=some none)
  (z5:W.nsIn K mainGlobals "min"=some none)
  (z6:W.nsIn K mainGlobals "max"=some none)
  (z7:W.nsIn K mainGlobals "isinstance"=some none)
  (z8:W.nsIn K mainGlobals "str"=some none)
  (z9:W.nsIn K mainGlobals "bool"=some none)
  (z10:W.nsIn K mainGlobals "range"=some none)
  (z11:W.nsIn K mainGlobals "zip"=some none)
  (z12:W.nsIn K mainGlobals "enumerate"=some none)
  (z13:W.nsIn K mainGlobals "sorted"=some none)
  (z14:W.nsIn K mainGlobals "ValueError"=some none)
  (v0:W.nsIn K mainGlobals "CELL"=some (some (.str "x" tk0)))
  (v1:W.nsIn K mainGlobals "GREATEST_SIDE"=some (some (.int 8 tk1)))
  {g0 g1 g2 g3 g4 gi gT:Addr} {cd0_ cd1_ cd2_ cd3_ cd4_:ClassData} {iq ix iz:Option Addr} {ir is_:Array (Option Value)} {it iu iw iy im iv:Value} {in_:Nat}
  (y0:W.nsIn K mainGlobals "NoStair"=some (some (.ref g0))) (yc0:W.clsIn K g0=some cd0_) (yt0:W.typeIn K (.ref g0)=some (.type "type"))
  (y1:W.nsIn K mainGlobals "BoardError"=some (some (.ref g1))) (yc1:W.clsIn K g1=some cd1_) (yt1:W.typeIn K (.ref g1)=some (.type "type"))
  (y2:W.nsIn K mainGlobals "NoBoard"=some (some (.ref g2))) (yc2:W.clsIn K g2=some cd2_) (yt2:W.typeIn K (.ref g2)=some (.type "type"))
  (y3:W.nsIn K mainGlobals "NoPlacing"=some (some (.ref g3))) (yc3:W.clsIn K g3=some cd3_) (yt3:W.typeIn K (.ref g3)=some (.type "type"))
  (y4:W.nsIn K mainGlobals "TooGreat"=some (some (.ref g4))) (yc4:W.clsIn K g4=some cd4_) (yt4:W.typeIn K (.ref g4)=some (.type "type"))
  (j1:W.findIn K (.ref g0) "__init__"=some (some (.ref gi))) (i1:K.lookup gi=some ⟨.type "function",iq,.func (W.fnOf "__init__" "NoStair.__init__" (bG sI) (aZ sI) (aI sI) (.ref gT) it iu iw ix iy im),ir⟩) (i2:W.codeIn K iy "NoStair.__init__"=true) (i3:K.lookup gT=some ⟨iv,iz,.seq #[.none] in_,is_⟩)
  (h0:W.keepIn K (.ref g0)=true) (h1:W.findIn K (.ref g0) "__setattr__"=some (some (.builtin "object.__setattr__"))) (h2:W.hasDictIn K g0=true) (h3:W.takerIn K g0 "rows"=some none) (h4:W.findIn K (.ref g0) "rows"=some none)
  (e0:W.findIn K (.ref g0) "__getattribute__"=some (some (.builtin "BaseException.__getattribute__"))) (e1:W.findIn K (.ref g0) "__getattr__"=some none) (e2:W.findIn K (.ref g0) "__class__"=some (some (.builtin "object.__class__")))
  (e3:W.specialIn K (.builtin "object.__class__") "__get__"=some (some (.builtin "getset_descriptor.__get__"))) (e4:W.takesIn K (.builtin "object.__class__")=some true) (e5:W.mroIn K g0 (.type "object")=some true) (e6:W.mroIn K g0 (.type "BaseException")=some true)
  (b0:W.subIn K (.ref g0) (.ref g0)=some true) (b1:W.subIn K (.ref g0) (.ref g1)=some true) (b2:W.subIn K (.ref g1) (.type "BaseException")=some true) (b3:W.subIn K (.ref g0) (.type "ValueError")=some true)
  (b4:W.subIn K (.ref g0) (.ref g2)=some false) (b5:W.subIn K (.ref g0) (.ref g3)=some false) (b6:W.subIn K (.ref g0) (.ref g4)=some false) (n0:g0≠g2) (n1:g0≠g3) (n2:g0≠g4) (j0:L2.XN.excInI K g0 gi=true)
  :
  ∃fd:FuncData,(∀(s:Shared)(v:Value),BindsTo s fd ⟨[v],[]⟩ [("_law_script",v)])/\∀base:Heap,K.In base->base.Ns mainGlobals mg->aj l.prog w K mg base dg 40 fa fd ["_law_script"] (nZ K):=by
 have hB:∀x,B.contains x=true->mg x=none:=bU (nO X Gh z0) (bU (nO X Gh z1) (bU (nO X Gh z2) (bU (nO X Gh z3) (bU (nO X Gh z4) (bU (nO X Gh z5) (bU (nO X Gh z6) (bU (nO X Gh z7) (bU (nO X Gh z8) (bU (nO X Gh z9) (bU (nO X Gh z10) (bU (nO X Gh z11) (bU (nO X Gh z12) (bU (nO X Gh z13) (bU (nO X Gh z14) (bnil)))))))))))))));have e:=hfa.symm.trans (W.mg_of X Gh a20.a);cases e;have hG:∀x v,G.lookup x=some v->∃u w,mg x=some u/\RelV w u/\∀Hi n H,Rp K Hi n v H w:=xY ⟨_,(.str "x"),W.mg_of X Gh v0,⟨_,rfl⟩,fun _ _ _=>Rp.str.mpr rfl⟩ (xY ⟨_,(.int 8),W.mg_of X Gh v1,⟨_,rfl⟩,fun _ _ _=>Rp.int.mpr rfl⟩ (gnil));have cls:qE K mg g0 g1 g2 g3 g4 gi _:=⟨⟨j0,⟨_,i1,rfl⟩,h0,⟨e0,e1,e2,e3,e4,e5,e6,by rw[yc0];rfl⟩,h1,h2,h3,h4⟩,⟨W.mg_of X Gh y0,by rw[yc0];rfl,yt0⟩,⟨W.mg_of X Gh y1,by rw[yc1];rfl,yt1⟩,⟨W.mg_of X Gh y2,by rw[yc2];rfl,yt2⟩,⟨W.mg_of X Gh y3,by rw[yc3];rfl,yt3⟩,⟨W.mg_of X Gh y4,by rw[yc4];rfl,yt4⟩,b0,b1,b2,b3,b4,b5,b6,n0,n1,n2,⟨_,_,_,_,_,_,_,_,_,_,_,_,_,_,rfl,i1,i2,i3⟩⟩;have E0:=jx (k:=109) X Gh a0 N109 1 [] (by walk_at "bd1") (by walk_at "sc") rfl (by kernel_rfl);have E1:=jx (k:=141) X Gh a1 N141 2 [] (by walk_at "bd2") (by walk_at "sc") rfl (by kernel_rfl);have E2:=jx (k:=142) X Gh a2 N142 1 [] (by walk_at "bd1") (by walk_at "sc") rfl (by kernel_rfl);have D3:=Aa X Gh a3 (show AX "steps_of" ["board"] _ by walk_at "bd1");have E3:=jx (k:=143) X Gh a3 CM 1 [] (by walk_at "bd1") (by walk_at "sc") rfl (by kernel_rfl);have D4:=Aa X Gh a4 (show AX "factors_of" ["board"] _ by walk_at "bd1");have E4:=jx (k:=144) X Gh a4 CL 1 [] (by walk_at "bd1") (by walk_at "sc") rfl (by kernel_rfl);have E5:=jx (k:=4) X Gh a5 N4 2 [] (by walk_at "bd2") (by walk_at "sc") rfl (by kernel_rfl);have E6:=jx (k:=5) X Gh a6 N5 2 [] (by walk_at "bd2") (by walk_at "sc") rfl (by kernel_rfl);have E7:=jx (k:=20) X Gh a7 N20 1 [] (by walk_at "bd1") (by walk_at "sc") rfl (by kernel_rfl);have E8:=jx (k:=6) X Gh a8 N6 3 [6] (by walk_at "bd3") (by walk_at "sc") rfl (by kernel_rfl);have E9:=jx (k:=8) X Gh a9 N8 1 [] (by walk_at "bd1") (by walk_at "sc") rfl (by kernel_rfl);have E10:=jx (k:=9) X Gh a10 N9 2 [] (by walk_at "bd2") (by walk_at "sc") rfl (by kernel_rfl);have E11:=jx (k:=10) X Gh a11 N10 2 [] (by walk_at "bd2") (by walk_at "sc") rfl (by kernel_rfl);have E12:=jx (k:=21) X Gh a12 N21 2 [2] (by walk_at "bd2") (by walk_at "sc") rfl (by kernel_rfl);have E13:=jx (k:=145) X Gh a13 N145 3 [3] (by walk_at "bd3") (by walk_at "sc") rfl (by kernel_rfl);have E14:=jx (k:=146) X Gh a14 N146 3 [] (by walk_at "bd3") (by walk_at "sc") rfl (by kernel_rfl);have E15:=jx (k:=209) X Gh a15 N209 2 [] (by walk_at "bd2") (by walk_at "sc") rfl (by kernel_rfl);have E16:=jx (k:=210) X Gh a16 N210 1 [] (by walk_at "bd1") (by walk_at "sc") rfl (by kernel_rfl);have D17:=Aa X Gh a17 (show AX "_law_asked" ["_law_board_here","_law_by_factors"] _ by walk_at "bd2");have E17:oa K mg P F G B "_law_asked" 211 f17 _ ["_law_board_here","_law_by_factors"]:=⟨.inl ⟨D17.nm,D17.fn.kp,D17.bd,ug (og rfl)⟩⟩;have D18:=Aa X Gh a18 (show AX "_law_good" ["_law_board_here"] _ by walk_at "bd1");have E18:oa K mg P F G B "_law_good" 212 f18 _ ["_law_board_here"]:=⟨.inl ⟨D18.nm,D18.fn.kp,D18.bd,wK hG hB cls D17 D3 D4 D18⟩⟩;have D19:=Aa X Gh a19 (show AX "_law_turned" ["_law_board_here","_law_cell_here"] _ by walk_at "bd2");have E19:oa K mg P F G B "_law_turned" 213 f19 _ ["_law_board_here","_law_cell_here"]:=⟨.inl ⟨D19.nm,D19.fn.kp,D19.bd,fun p w b k z=>wJ hG hB D19 p w b k (z k (Ca k))⟩⟩;have E20:=jx (k:=214) X Gh a20 N214 1 [] (by walk_at "bd1") (by walk_at "sc") rfl (by kernel_rfl);have hF:∀x f,F.lookup x=some f->∃a fd ps,oa K mg P F G B x f a fd ps:=ay ⟨_,_,_,E0⟩ (ay ⟨_,_,_,E1⟩ (ay ⟨_,_,_,E2⟩ (ay ⟨_,_,_,E3⟩ (ay ⟨_,_,_,E4⟩ (ay ⟨_,_,_,E5⟩ (ay ⟨_,_,_,E6⟩ (ay ⟨_,_,_,E7⟩ (ay ⟨_,_,_,E8⟩ (ay ⟨_,_,_,E9⟩ (ay ⟨_,_,_,E10⟩ (ay ⟨_,_,_,E11⟩ (ay ⟨_,_,_,E12⟩ (ay ⟨_,_,_,E13⟩ (ay ⟨_,_,_,E14⟩ (ay ⟨_,_,_,E15⟩ (ay ⟨_,_,_,E16⟩ (ay ⟨_,_,_,E17⟩ (ay ⟨_,_,_,E18⟩ (ay ⟨_,_,_,E19⟩ (ay ⟨_,_,_,E20⟩ (fnil)))))))))))))))))))));exact⟨W.fnOf "law" "law" (bG vF) (aZ vF) (aI vF) .none t20 u20 w20 x20 y20 m20,fun s v=>.of_eq rfl,fun base _ _=>zC (zY hG hB hF 40 "law" 214 fa _ _ E20) si⟩
theorem walk{l:W.OpenLaw}{q:Program}{loose:List Str}{XP:(Str->Option Value)->Heap->Prop}{YP:World->Heap->Prop}{d:DefRec}{K:Params->W.Frag}(hn:l.most=some 63)(hdf:d.params.defaults=[])
  (hY:∀(w:World)(h:Heap),YP w h->(K w.params).In h)
  (F:∀(w:World)(mg:Str->Option Value)(fa:Addr)(h:Heap),(K w.params).In h->h.Ns mainGlobals mg->mg d.name=some (.ref fa) ->
   ∃fd:FuncData,(∀(s:Shared)(u:Value),BindsTo s fd ⟨[u],[]⟩ [("_law_script",u)])/\∀base:Heap,(K w.params).In base->base.Ns mainGlobals mg->aj l.prog w (K w.params) mg base dg 40 fa fd ["_law_script"] (nZ (K w.params))) :
  W.WalkO q loose XP YP l.row.toRowW d [] (fun f vs=>PySem.call f vs) :=
 L2.uf (n:=63) (k:=40) (x:="_law_script") (CX:=fun _=>dg) (sp:=fun w=>nZ (K w.params)) hn (by decide) hdf ⟨rfl,by decide,by decide⟩ hY F (fun _ _ a ns hl _ hS=>⟨a,ns,rfl,hS,hl,fun _=>rfl⟩) fun _ _ _ _ _ z=>z
end Law
open PySem PySem.W PyProof.Rows
noncomputable def LH.vw:Program:={ PySem.Challenge.pw_unstruck_k62_no_stair with main:={ PySem.Challenge.pw_unstruck_k62_no_stair.main with body:=((PySem.Challenge.pw_unstruck_k62_no_stair.main.body.drop 1).take 3)++((PySem.Challenge.pw_unstruck_k62_no_stair.main.body.drop 5).take 5)++((PySem.Challenge.pw_unstruck_k62_no_stair.main.body.drop 11).take 4)++((PySem.Challenge.pw_unstruck_k62_no_stair.main.body.drop 16).take 17) } }
theorem LH.two {A B C:Type} {o:Option A} {f:A→B} {g:A→C} {a:B} {b:C} (h:o.map f=some a) (k:o.map g=some b):o.map (fun s=>(f s, g s))=some (a, b):=by
  cases o with
  | none => cases h
  | some x => cases h; cases k; rfl
noncomputable abbrev LH.xt (s:Shared):Bool:=xlAt LH.vw [] s&&recOk [] s
theorem LH.h1 (w:World):(openEnds treeTable PySem.Challenge.pw_unstruck_k62_no_stair w 9999).map (fun s=>openSeen LH.vw ["NoStair"] (importedModules PySem.Challenge.pw_unstruck_k62_no_stair.main.body) LH.xt true s)=some (openGood LH.vw ["NoStair"]):=by kernel_rfl
local macro_rules|`(tactic|o_head $H)=>do
  let hw:=Lean.mkIdent `hw
  let hc:=Lean.mkIdent `hc
  `(tactic|(refine holds_open (q:=LH.vw) (loose:=["NoStair"]) (Xt:=LH.xt) (XP:=XL LH.vw []) (Yf:=Hook.obs $H) (Ya:=Hook.val $H) (YP:=Hook.says $H) (N:=9999) (fun w=>LH.two (LH.h1 w) (by kernel_rfl)) (Hook.of $H) (Hook.keeps $H) (fun s e=>xl_of s (Bool.and_eq_true_iff.mp e).1) XL.keeps rfl rfl rfl (fun s e=>recFacts_of (Bool.and_eq_true_iff.mp e).2) rfl (by first|assumption|decide +kernel) (by decide +kernel) ⟨rfl, rfl, rfl, rfl, rfl, by decide +kernel⟩ ?$hw ?$hc))
set_option maxRecDepth 100000 in
set_option maxHeartbeats 0 in
theorem PySem.Challenge.cw_unstruck_k62_no_stair_holds : PySem.Challenge.rw_unstruck_k62_no_stair.Holds := by
 w_on;o_law;k_head;(case hw=>w_witness2)
 k_fill
 refine Law.walk (l:=PySem.Challenge.rw_unstruck_k62_no_stair) rfl rfl (fun w h Y=>PySem.W.kIn_of Y) ?F
 case F =>
  intro w mg fa h KX G hmg;refine' Law.AN KX G hmg ?a0 ?a1 ?a2 ?a3 ?a4 ?a5 ?a6 ?a7 ?a8 ?a9 ?a10 ?a11 ?a12 ?a13 ?a14 ?a15 ?a16 ?a17 ?a18 ?a19 ?a20 ?z0 ?z1 ?z2 ?z3 ?z4 ?z5 ?z6 ?z7 ?z8 ?z9 ?z10 ?z11 ?z12 ?z13 ?z14 ?v0 ?v1 ?y0 ?yc0 ?yt0 ?y1 ?yc1 ?yt1 ?y2 ?yc2 ?yt2 ?y3 ?yc3 ?yt3 ?y4 ?yc4 ?yt4 ?j1 ?i1 ?i2 ?i3 ?h0 ?h1 ?h2 ?h3 ?h4 ?e0 ?e1 ?e2 ?e3 ?e4 ?e5 ?e6 ?b0 ?b1 ?b2 ?b3 ?b4 ?b5 ?b6 ?n0 ?n1 ?n2 ?j0
  (case a0|a1|a2|a3|a4|a5|a6|a7|a8|a9|a10|a11|a12|a13|a14|a15|a16|a17|a18|a19=>exact⟨by k_is,by k_is,by k_is,by k_is⟩)
  (case a20=>exact⟨by k_is,by k_is,by k_is,by k_is⟩)
  (case z0|z1|z2|z3|z4|z5|z6|z7|z8|z9|z10|z11|z12|z13|z14|v0|v1|y0|yc0|yt0=>k_is)
  (case y1|yc1|yt1|y2|yc2|yt2|y3|yc3|yt3|y4|yc4|yt4|j1|i1|i2|i3|h0|h1|h2|h3=>k_is)
  (case h4|e0|e1|e2|e3|e4|e5|e6|b0|b1|b2|b3|b4|b5|b6=>k_is)
  (case n0|n1|n2=>decide)
  (case j0=>kernel_rfl)
#print axioms PySem.Challenge.cw_unstruck_k62_no_stair_holds
