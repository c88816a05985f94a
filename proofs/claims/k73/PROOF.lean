import PyProof.Rows.All
import Wide.All
import OpenK.AllK
import Wide.FinOn
import Lean
import PyProof.EqAt
import PyProof.EqKinds
import PyProof.TupleCall
import PyProof.StrLawsTight
import PyProof.StrLawsChain
import PyProof.StrLawsOcc
import PyProof.Cells
import OpenK.KLine
import PyProof.SumAny
import PyProof.Rows.SortShell
import PyProof.DictItems
import PyProof.DictWalks
import KE.KRevIter
import PyProof.JoinWalk
import PyProof.CollectIter
import PyProof.StrLawsIn
import PyProof.Rows.SetFrom
import PyProof.CollectWalk
import PyProof.Rows.SortWalk
import KE.KSortTup
import KE.KxPercent
import PyProof.TupleOfGen
import KE.KDictList
import PyProof.P3In
import PyProof.NeData
import PyProof.FactsAll.tuple_2
import KE.KTryMore
import PyProof.ExcArgsOwn
import PyProof.ExcAttrAll.ValueError
import PyProof.ExcBaseAll.ValueError
import PySem.Challenge.RW_unstruck_k73_whole_none_lacks
noncomputable section
set_option genSizeOf false
set_option genSizeOfSpec false
local macro_rules | `(tactic| omega) => `(tactic| first | lia | omega (config := {}))
set_option Elab.async false
set_option linter.all false
set_option maxRecDepth 100000
def Ij:=@PySem.wpAny_bind
def Ik:=@List.length_map
def Il:=@PySem.Heap.get?_push_of_some
def Im:=@List.mem_cons_of_mem
def Io:=@Nat.le_refl
def Ip:=@List.mem_cons_self
def Iq:=@if_neg
def Ir:=@Bool.false_ne_true
def Iu:=@Bool.and_eq_true
def Iv:=@List.getElem?_eq_getElem
def Iw:=@List.getElem?_eq_some_iff
def Ix:=@if_pos
def Iy:=@List.getElem?_map
def Iz:=@PySem.Heap.lt_size
def I0:=@List.size_toArray
def JA:=@List.length_append
def JB:=@PySem.wpAny_pure
def JC:=@PySem.Heap.get?_push_size
def JD:=@List.mem_cons
def JE:=@List.mem_map
def JF:=@Option.some.inj
def JG:=@List.getD_eq_getElem?_getD
def JH:=@List.map_cons
def JI:=@List.length_cons
def JJ:=@List.all_eq_true
def JK:=@decide_eq_false
def JL:=@List.mem_of_getElem?
def JM:=@Nat.ne_of_lt
def JN:=@LawfulBEq.eq_of_beq
def JO:=@Nat.le_trans
def JP:=@decide_eq_true
def JQ:=@List.map_append
def JR:=@Nat.zero_le
def JS:=@List.length_take
def JT:=@Nat.lt_of_lt_of_le
def JU:=@List.length_range
def JV:=@PySem.mem_of_lookup
def JW:=@List.not_mem_nil
def JX:=@decide_eq_true_eq
def JY:=@List.lookup_cons
def JZ:=@PyProof.Rows.callWith_type1
def Ja:=@List.getElem?_set_ne
def Jb:=@Bool.eq_iff_iff
def Jc:=@List.length_filter_le
def Jd:=@Array.length_toList
def Je:=@congrArg
def Jf:=@List.map_map
def Jg:=@List.mem_singleton
def Jh:=@PySem.Heap.get?_update_other
def Ji:=@List.mem_append_right
def Jj:=@List.map_congr_left
def Jk:=@List.getElem?_range
def Jl:=@Option.bind_some
def Jm:=@PySem.wpAny_newObj_type
def Jn:=@PySem.W.mg_of
def Jo:=@List.nodup_cons
def Jp:=@List.append_nil
def Jq:=@List.take_length
def Jr:=@Array.getD_eq_getD_getElem?
def Js:=@PySem.wpAny_call_entry
def Jt:=@PySem.wpAny_field
def Ju:=@PyProof.Rows.slot_tuple_getitem
def Jv:=@List.getElem?_append_right
def Jw:=@List.mem_append
def Jx:=@List.getElem?_append_left
def Jy:=@of_decide_eq_true
def Jz:=@Bool.eq_false_iff
def J0:=@Option.map_some
def J5:=@List.find?_cons
def J6:=@PySem.sizeLine_eq
def J7:=@PySem.Heap.get?_update_self
def J8:=@List.getElem?_cons_succ
def J9:=@PySem.W.mg_none_of
def KA:=@PySem.Obj.data_mapFields
def KB:=@List.getElem?_set_self
def KC:=@Array.getElem?_eq_some_iff
def KD:=@Bool.or_eq_true
def KF:=@List.getElem?_zipWith
def KG:=@List.getElem?_eq_none
def KH:=@Nat.lt_succ_of_lt
def KI:=@List.mem_filter
def KJ:=@List.length_set
def KL:=@List.replicate_succ
def KM:=@Nat.ne_of_gt
def KN:=@List.take_of_length_le
def KO:=@PySem.wpAny_callSpecial?_slot
def KP:=@Nat.lt_irrefl
def KQ:=@List.filter_cons
def KR:=@List.mem_range
def KS:=@List.lookup_append
def KU:=@List.filter_append
def KW:=@Ne.symm
def KY:=@PySem.wpAny_of_eq
def KZ:=@List.pairwise_iff_getElem
def Ka:=@Classical.byContradiction
def Kb:=@PySem.wpAny_mono
def Kc:=@List.mem_append_left
def Kd:=@List.filter_congr
def Ke:=@Bool.not_eq_true'
def Kf:=@PySem.builtinLookup_eq_fast
def Kg:=@PySem.Obj.isFreed_of_fields
def Kh:=@List.all_cons
def Ki:=@PySem.wpAny_loadPart'
def Kj:=@List.length_zipWith
def Kk:=@Nat.lt_trans
def Kl:=@List.map_nil
def Km:=@PySem.wpAny_setField
def Kn:=@PySem.W.kia_one
def Ko:=@Array.getElem?_toList
def Kp:=@if_true
def Kq:=@List.take_add_one
def Kr:=@List.pairwise_map
def Ks:=@List.flatten_cons
def Kt:=@PySem.Calls.callWith_builtin
def Ku:=@or_false
def Kv:=@PySem.wpAny_passesOwn
def Kw:=@List.mem_of_mem_take
def Kx:=@List.mem_iff_getElem
def Ky:=@decide_eq_decide
def Kz:=@Nat.min_self
def K0:=@Nat.le_of_lt
def K1:=@PySem.wpAny_truthy_bool
def K2:=@List.range_succ
def K5:=@List.contains_cons
def K6:=@decide_eq_false_iff_not
def K7:=@List.pairwise_singleton
def K8:=@PySem.Heap.SameBut.update
def K9:=@List.findIdx?_eq_some_iff_getElem
def LA:=@PySem.wpAny_holding
def LB:=@List.reverse_cons
def LC:=@List.drop_of_length_le
def LD:=@List.append_assoc
def LF:=@Bool.false_and
def LG:=@PySem.typeLookup_type
def LH:=@PySem.PassesOwn.never
def LI:=@PyProof.Rows.mirror_perm
def LJ:=@PySem.wpAny_Call_Name_kw
def LK:=@PySem.typeIs_str
def LL:=@PySem.wpAny_getItem_str_slice
def LM:=@PySem.F.slot_str_join
def LO:=@List.length_singleton
def LP:=@Bool.beq_eq_decide_eq
def LQ:=@List.length_drop
def LR:=@List.getElem_mem
def LS:=@List.sum_cons
def LU:=@List.any_cons
def LV:=@Bool.and_true
def LW:=@Array.Perm.refl
def LX:=@beq_eq_false_iff_ne
def LY:=@List.flatMap_append
def LZ:=@List.filter_eq_self
def La:=@Nat.succ.inj
def Lb:=@Bool.or_true
def Lc:=@Nat.lt_of_le_of_lt
def Ld:=@Int.emod_lt_of_pos
def Le:=@Bool.not_false
def Lf:=@PySem.wpAny_specialOf
def Lh:=@PySem.wpAny_execs_nil
def Li:=@List.drop_eq_getElem_cons
def Lj:=@Array.getElem?_eq_getElem
def Lk:=@List.getElem?_set
def Lm:=@List.ext_getElem?
def Ln:=@Int.toNat_natCast
def Lo:=@Int.le_refl
def Lp:=@PySem.F.args_tuple_add_2
def Lq:=@Bool.false_or
def Lr:=@PySem.wpAny_pyIter_tuple
def Lu:=@PySem.isSubtype_type
def Lw:=@PySem.Calls.spliced_cons
def Lx:=@PySem.wpAny_pyIter_enum
namespace L2
open PySem PySem.Spec PyProof.Rows
noncomputable abbrev am:=Sum Int Str
noncomputable def mB:am->Value->Bool
 | .inl k,v=>Value.isInt k v
 | .inr x,v=>Value.isStrOf x v
noncomputable def keyH(w:World):am->Int
 | .inl k=>hashInt k
 | .inr x=>hashStr w x
theorem bB:∀{k:am}{v:Value},mB k v=true->(∃i t,k=Sum.inl i/\v=Value.int i t)\/(∃x t,k=Sum.inr x/\v=Value.str x t)
 | .inl i,v,h=>by
  obtain⟨t,e⟩:=Value.isInt_shape (k:=i) (v:=v) h;exact .inl ⟨i,t,rfl,e⟩
 | .inr x,v,h=>by
  obtain⟨t,e⟩:=Value.isStrOf_shape (x:=x) (v:=v) h;exact .inr ⟨x,t,rfl,e⟩
theorem uY(i:Int)(t:Tok):mB (.inl i) (.int i t)=true:=by simp[mB,Value.isInt]
theorem uX(x:Str)(t:Tok):mB (.inr x) (.str x t)=true:=by simp[mB,Value.isStrOf]
theorem DN(a b:Int):decide ((Sum.inl a:am)=Sum.inl b)=(a==b):=by
 by_cases e:a=b
 ·subst e;simp
 ·have h:¬(Sum.inl a:am)=Sum.inl b:=fun q=>e (Sum.inl.inj q)
  rw[JK h];exact(LX.mpr e).symm
theorem DK(a b:Str):decide ((Sum.inr a:am)=Sum.inr b)=decide (a=b):=by
 by_cases e:a=b
 ·subst e;simp
 ·have h:¬(Sum.inr a:am)=Sum.inr b:=fun q=>e (Sum.inr.inj q)
  rw[JK h,JK e]
theorem DM(a:Int)(b:Str):decide ((Sum.inl a:am)=Sum.inr b)=false:=JK (fun q=>nomatch q)
theorem DL(a:Str)(b:Int):decide ((Sum.inr a:am)=Sum.inl b)=false:=JK (fun q=>nomatch q)
noncomputable def ac(prog:Program)(w:World):PySem.KeyKind prog w am where
 is:=mB
 hash:=keyH w
 inj:=fun v a b ha hb=>by
  rcases bB ha with⟨i,t,rfl,rfl⟩|⟨x,t,rfl,rfl⟩
  ·rcases bB hb with⟨j,u,rfl,e⟩|⟨y,u,rfl,e⟩
   ·injection e with e1 _;rw[e1]
   ·exact nomatch e
  ·rcases bB hb with⟨j,u,rfl,e⟩|⟨y,u,rfl,e⟩
   ·exact nomatch e
   ·injection e with e1 _;rw[e1]
 byValue:=fun k v h=>by
  rcases bB h with⟨i,t,rfl,rfl⟩|⟨x,t,rfl,rfl⟩<;>rfl
 pyHash:=fun hv h=>by
  rcases bB hv with⟨i,t,rfl,rfl⟩|⟨x,t,rfl,rfl⟩
  ·exact wpAny_pyHash_int h
  ·exact wpAny_pyHash_str h
 eqBool:=fun hu hv h=>by
  rcases bB hu with⟨i,t,rfl,rfl⟩|⟨x,t,rfl,rfl⟩
  ·rcases bB hv with⟨j,u,rfl,rfl⟩|⟨y,u,rfl,rfl⟩
   ·rw[DN]at h;exact wpAny_eqBool_int h
   ·rw[DM]at h;exact SeqAt.EqAt.int_str i t y u _ _ _ _ h
  ·rcases bB hv with⟨j,u,rfl,rfl⟩|⟨y,u,rfl,rfl⟩
   ·rw[DL]at h;exact SeqAt.EqAt.str_int x t j u _ _ _ _ h
   ·rw[DK]at h;exact wpAny_eqBool_str h
 «strs»:=fun k x t v h=>by
  rcases bB h with⟨i,u,rfl,e⟩|⟨y,u,rfl,e⟩
  ·exact nomatch e
  ·injection e with e1 _
   subst e1;cases v<;>rfl
theorem oi(prog:Program)(w:World)(i:Int)(t:Tok):(ac prog w).is (.inl i) (.int i t)=true:=uY i t
theorem oh(prog:Program)(w:World)(x:Str)(t:Tok):(ac prog w).is (.inr x) (.str x t)=true:=uX x t
inductive V where
 | non|bl (b:Bool)|int (i:Int)|str (x:Str)|byt (b:Array UInt8)|flt (b:UInt64)|ref (a:Addr)|ty (n:String)
 deriving DecidableEq
noncomputable def RelV:V->Value->Prop
 | .non,u=>u=Value.none
 | .bl b,u=>u=Value.bool b
 | .int i,u=>∃t,u=Value.int i t
 | .str x,u=>∃t,u=Value.str x t
 | .byt b,u=>∃t,u=Value.bytes b t
 | .flt b,u=>∃t,u=Value.float b t
 | .ref a,u=>u=Value.ref a
 | .ty n,u=>u=Value.type n
noncomputable abbrev aQ:List V->List Value->Prop:=Paired RelV
theorem aQ.length{xs:List V}{us:List Value}(r:aQ xs us):xs.length=us.length:=Paired.length r
theorem aQ.get:∀{xs:List V}{us:List Value}{i:Nat}{x:V},aQ xs us->xs[i]? =some x->∃u,us[i]? =some u/\RelV x u
 | _,_,_,_,.nil,e=>by simp at e
 | _,_,0,_,.cons r _,e=>by simp at e;subst e;exact⟨_,rfl,r⟩
 | _,_,i+1,x,.cons _ t,e=>by
  obtain⟨u,h1,h2⟩:=aQ.get (i:=i) (x:=x) t (by simpa using e);exact⟨u,by simpa using h1,h2⟩
theorem aQ.set{x:V}{u:Value}(r:RelV x u):∀{xs:List V}{us:List Value}(i:Nat),aQ xs us->aQ (xs.set i x) (us.set i u)
 | _,_,_,.nil=>.nil
 | _,_,0,.cons _ t=>.cons r t
 | _,_,i+1,.cons q t=>.cons q (aQ.set r i t)
theorem aQ.append{xs ys:List V}{us ws:List Value}(h:aQ xs us)(k:aQ ys ws):aQ (xs++ys) (us++ws):=by
 induction h with
 | nil=>exact k
 | cons r t ih=>exact .cons r ih
theorem aQ.take:∀{xs:List V}{us:List Value}(n:Nat),aQ xs us->aQ (xs.take n) (us.take n)
 | _,_,0,_=>.nil
 | _,_,_+1,.nil=>.nil
 | _,_,n+1,.cons r t=>.cons r (aQ.take n t)
theorem aQ.drop:∀{xs:List V}{us:List Value}(n:Nat),aQ xs us->aQ (xs.drop n) (us.drop n)
 | _,_,0,r=>r
 | _,_,_+1,.nil=>.nil
 | _,_,n+1,.cons _ t=>aQ.drop n t
noncomputable def nZ:Option V->Option Value->Prop
 | some v,some u=>RelV v u
 | none,none=>True
 | _,_=>False
noncomputable def KV{κ:Type}:List (κ×V)->List (κ×Value)->Prop:=Paired fun(p:κ×V)(q:κ×Value)=>p.1=q.1/\RelV p.2 q.2
noncomputable def kV:am->V
 | .inl i=>.int i
 | .inr x=>.str x
inductive HO where
 | lst (xs:List V)
 | tup (xs:List V)
 | dK (kvs:List (am×V))|dT (kvs:List (List am×V))
 | set (S:Int->Bool) (n:Nat)
 | ins (C dx:Addr) (fs:List (Str×V))
 | own (x:Addr)
 | xd (fs:List (Str×V))
 | met (f x:Addr)
 | rng (lo hi:Int)
 | frz (o:Obj) (u:HO)
 | tbl (ps:Array Value)
 | ext (φ:Heap->Prop)
noncomputable abbrev Hp:=Addr->Option HO
noncomputable def upd(H:Hp)(a:Addr)(o:HO):Hp:=fun b=>if b=a then some o else H b
theorem aK{H:Hp}{a:Addr}{o:HO}:upd H a o a=some o:=by unfold upd;rw[Ix rfl]
theorem aD{H:Hp}{a b:Addr}{o:HO}(h:b≠a):upd H a o b=H b:=by unfold upd;rw[Iq h]
theorem yd{H:Hp}{a:Addr}{o u:HO}:upd (upd H a o) a u=upd H a u:=by
 funext b;unfold upd;split<;>rfl
theorem HC{H:Hp}{a b:Addr}{o u:HO}(h:H a=some o)(h' :H b=some u)(d:o≠u):a≠b:=by
 intro e;subst e;rw[h]at h';exact d (JF h')
theorem aM{H:Hp}{a b:Addr}{o:HO}(h:H a=some o)(h' :H b=none):a≠b:=by
 intro e;subst e;rw[h]at h';cases h'
noncomputable def eY(h:Heap)(a:Addr)(its:Array Value):Prop:=∃o,h.get? a=some o/\o.cls=.type "tuple"/\∃n,o.data=.seq its n/\o.dict=none
theorem eY.tup{h:Heap}{a:Addr}{its:Array Value}(x:eY h a its):IsTup h a its:=let⟨o,e,c,n,d,_⟩:=x;⟨o,e,c,n,d⟩
theorem eY.new(h:Heap)(its:Array Value):eY (h.push {cls:=.type "tuple",data:=.seq its}) h.objs.size its:=⟨_,JC _ rfl,rfl,_,rfl,rfl⟩
section
variable(P:Program)(w:World)
noncomputable def az(H:Hp)(h:Heap)(a:Addr):HO->Prop
 | .lst xs=>xs.length<=sizeLine/\∃(its:List Value)(n:Nat),aQ xs its/\h.get? a=some {cls:=.type "list",data:=.seq its.toArray n}
 | .tup xs=>xs.length<=sizeLine/\∃its:List Value,aQ xs its/\eY h a its.toArray
 | .dK kvs=>kvs.length<=sizeLine/\(a==sysModules)=false/\∃vs,KV kvs vs/\h.DictOf (ac P w) a vs
 | .dT kvs=>kvs.length<=sizeLine/\(a==sysModules)=false/\∃xs:List (List am×Addr×Value),
   Paired (fun(p:List am×V) (q:List am×Addr×Value)=>p.1=q.1/\H q.2.1=some (.tup (p.1.map kV))/\RelV p.2 q.2.2) kvs xs /\
   ∃o es ep,h.get? a=some o/\o.ExactDict/\o.data=.dict es ep/\es.toList=xs.map (entryOfKey (tupleKind (ac P w)))/\(xs.map (·.1)).Nodup
 | .set S n=>h.SetOf (intKind P w) a S n
 | .ins C dx fs=>H dx=some (.own a)/\fs.length<=1000/\dx≠a/\h.get? a=some (W.instObj C dx) /\
   ∃mA,h.Ns1 dx mA/\(∀f,nZ (fs.lookup f) (mA f))/\PySem.Within mA (fs.map (·.1))
 | .own _=>∃o,h.get? a=some o
 | .xd fs=>∃mA,h.Ns1 a mA/\∀f,nZ (fs.lookup f) (mA f)
 | .rng lo hi=>∃t u v,h.get? a=some {cls:=.type "range",data:=.fields #[.int lo t,.int hi u,.int 1 v]}
 | .frz o u=>h.get? a=some o/\az H h a u
 | .tbl ps=>h.get? a=some {cls:=.none,data:=.fields ps}
 | .met f x=>h.get? a=some (W.methodObj (.ref f) (.ref x))
 | .ext φ=>φ h/\(∃o,h.get? a=some o)/\∀h1 h2:Heap,φ h1->(∀o,h1.get? a=some o->h2.get? a=some o)->φ h2
noncomputable def dw(H:Hp)(h:Heap):Prop:=∀a o,H a=some o->az P w H h a o
end
section
variable{P:Program}{w:World}{H H' :Hp}{h h' :Heap}{a:Addr}{o:HO}
theorem az.lt(x:az P w H h a o):a<h.objs.size:=by
 cases o with
 | lst xs=>obtain⟨_,_,_,_,e⟩:=x;exact Iz e
 | tup xs=>obtain⟨_,_,_,p⟩:=x;exact p.tup.lt
 | dK kvs=>obtain⟨_,_,_,_,o,_,_,e,_⟩:=x;exact Iz e
 | dT kvs=>obtain⟨_,_,_,_,o,_,_,e,_⟩:=x;exact Iz e
 | set S n=>obtain⟨o,_,_,_,e,_⟩:=x;exact Iz e
 | ins C dx fs=>obtain⟨_,_,_,e,_⟩:=x;exact Iz e
 | own y=>obtain⟨_,e⟩:=x;exact Iz e
 | xd fs=>obtain⟨_,⟨_,_,_,e,_⟩,_⟩:=x;exact Iz e
 | rng lo hi=>obtain⟨_,_,_,e⟩:=x;exact Iz e
 | frz ob u=>obtain⟨e,_⟩:=x;exact Iz e
 | tbl ps=>exact Iz (show h.get? a=some _ from x)
 | met f y=>exact Iz (show h.get? a=some _ from x)
 | ext φ=>obtain⟨_,⟨_,e⟩,_⟩:=x;exact Iz e
theorem Paired.mapP{α β:Type}{F G:α->β->Prop}{l₁:List α}{l₂:List β}(h:Paired F l₁ l₂)(f:∀a b,F a b->G a b):Paired G l₁ l₂:=by
 induction h with
 | nil=>exact .nil
 | cons r t ih=>exact .cons (f _ _ r) ih
theorem az.stay(x:az P w H h a o)(k:∀b u,(b=a\/H b=some (.own a))->h.get? b=some u->h'.get? b=some u)
  (ho:∀b,H b=some (.own a)->H' b=some (.own a)) (ht:∀b xs,H b=some (.tup xs)->H' b=some (.tup xs)):az P w H' h' a o:=by
 induction o with
 | lst xs=>obtain⟨z,its,n,r,e⟩:=x;exact⟨z,its,n,r,k _ _ (.inl rfl) e⟩
 | tup xs=>obtain⟨z,its,r,ob,e,c⟩:=x;exact⟨z,its,r,ob,k _ _ (.inl rfl) e,c⟩
 | dK kvs=>obtain⟨z,y,vs,r,ob,es,ep,e,c⟩:=x;exact⟨z,y,vs,r,ob,es,ep,k _ _ (.inl rfl) e,c⟩
 | dT kvs =>
  obtain⟨z,y,xs,r,ob,es,ep,e,c⟩:=x;exact⟨z,y,xs,Paired.mapP r fun p q z=>⟨z.1,ht _ _ z.2.1,z.2.2⟩,ob,es,ep,k _ _ (.inl rfl) e,c⟩
 | set S n=>obtain⟨ob,es,ep,t,e,c⟩:=x;exact⟨ob,es,ep,t,k _ _ (.inl rfl) e,c⟩
 | ins C dx fs =>
  obtain⟨d,z,ne,e,mA,⟨od,es,ep,e2,c⟩,r⟩:=x;exact⟨ho _ d,z,ne,k _ _ (.inl rfl) e,mA,⟨od,es,ep,k _ _ (.inr d) e2,c⟩,r⟩
 | own y=>obtain⟨ob,e⟩:=x;exact⟨ob,k _ _ (.inl rfl) e⟩
 | xd fs=>obtain⟨mA,⟨od,es,ep,e,c⟩,r⟩:=x;exact⟨mA,⟨od,es,ep,k _ _ (.inl rfl) e,c⟩,r⟩
 | rng lo hi=>obtain⟨t,u,v,e⟩:=x;exact⟨t,u,v,k _ _ (.inl rfl) e⟩
 | frz ob u ih=>obtain⟨e,q⟩:=x;exact⟨k _ _ (.inl rfl) e,ih q⟩
 | tbl ps =>
  have e:h.get? a=some {cls:=.none,data:=.fields ps}:=x;show h'.get? a=some {cls:=.none,data:=.fields ps};exact k a _ (.inl rfl) e
 | met f y =>
  have e:h.get? a=some (W.methodObj (.ref f) (.ref y)):=x;show h'.get? a=some (W.methodObj (.ref f) (.ref y));exact k a _ (.inl rfl) e
 | ext φ=>obtain⟨p,⟨o,e⟩,st⟩:=x;exact⟨st _ _ p fun o q=>k _ _ (.inl rfl) q,⟨o,k _ _ (.inl rfl) e⟩,st⟩
theorem dw.lt(x:dw P w H h)(e:H a=some o):a<h.objs.size:=(x a o e).lt
theorem dw.fresh(x:dw P w H h)(e:h.objs.size<=a):H a=none:=by
 cases q:H a with
 | none=>rfl
 | some u=>exact absurd (JT (x.lt q) e) (KP _)
theorem dw.kept(x:dw P w H h)(k:∀b u,h.get? b=some u->h'.get? b=some u):dw P w H h' :=fun a o e =>
 (x a o e).stay (fun b u _ q=>k b u q) (fun _ q=>q) fun _ _ q=>q
theorem dw.laid(x:dw P w H h)(k:∀b u,h.get? b=some u->h'.get? b=some u)(hp:h.objs.size<=a)(new:az P w (upd H a o) h' a o):dw P w (upd H a o) h' :=fun b u e=>by
 have hn:=x.fresh hp
 by_cases hb:b=a
 ·subst hb;rw[aK]at e;cases e;exact new
 ·rw[aD hb]at e
  exact(x b u e).stay (fun c v _ q=>k c v q) (fun c q=>by rw[aD (aM q hn)];exact q) fun c xs q=>by rw[aD (aM q hn)];exact q
end
noncomputable def Rd(H:Hp)(a:Addr)(u:HO):Prop:=H a=some u\/∃o,H a=some (.frz o u)
theorem Rd.ok{P:Program}{w:World}{H:Hp}{h:Heap}{a:Addr}{u:HO}(r:Rd H a u)(x:dw P w H h):az P w H h a u:=by
 rcases r with r|⟨o,r⟩
 ·exact x a u r
 ·obtain⟨_,q⟩:=x a _ r
  exact q
noncomputable def IW:Option HO->Prop
 | some (.lst _)=>True
 | some (.dK _)=>True
 | some (.dT _)=>True
 | some (.set _ _)=>True
 | some (.ins _ _ _)=>True
 | some (.ext _)=>True
 | _=>False
section
variable{P:Program}{w:World}{H:Hp}{h h' :Heap}{x e:Addr}{o' :HO}
theorem dw.write(ok:dw P w H h)(mu:IW (H x))(he:e=x\/H e=some (.own x))(k:∀b u,b≠e->h.get? b=some u->h'.get? b=some u)(heo:∃u,h'.get? e=some u)
  (new:az P w (upd H x o') h' x o'):dw P w (upd H x o') h' :=fun b u q=>by
 have nown:∀c y,H c=some (.own y)->c≠x:=fun c y r z=>by subst z;rw[r]at mu;exact mu
 have ntup:∀c xs,H c=some (.tup xs)->c≠x:=fun c xs r z=>by subst z;rw[r]at mu;exact mu
 by_cases hb:b=x
 ·subst hb;rw[aK]at q;cases q;exact new
 ·rw[aD hb]at q
  by_cases hbe:b=e
  ·have q' :H b=some (.own x):=by
    rcases he with z|z
    ·exact absurd (hbe.trans z) hb
    ·rw[hbe];exact z
   rw[q]at q';cases q';obtain⟨v,hv⟩:=heo;exact⟨v,by rw[hbe];exact hv⟩
  ·refine(ok b u q).stay (fun c v hc r=>k c v ?_ r) (fun c r=>by rw[aD (nown c b r)];exact r) fun c xs r=>by rw[aD (ntup c xs r)];exact r
   rcases hc with rfl|hc
   ·exact hbe
   ·rintro rfl
    rcases he with z|z
    ·exact nown c b hc z
    ·rw[hc]at z;cases z;exact hb rfl
end
structure Un(fs ex:List Addr)(H H' :Hp)(h h' :Heap):Prop where
 keep:∀b o,h.get? b=some o->H b=none->b∉fs->b∉ex->h'.get? b=some o
 slot:∀b o,h.get? b=some o->H b=none->b∈fs->b∉ex->∃sl,h'.get? b=some {o with slots:=sl}
 free:∀b o,h.get? b=some o->H b=none->b∉ex->H' b=none
 there:∀b o,h.get? b=some o->b∉ex->∃o',h'.get? b=some o'
 tups:∀b xs,H b=some (.tup xs)->H' b=some (.tup xs)
 frzs:∀b o u,H b=some (.frz o u)->H' b=some (.frz o u)
 tbls:∀b ps,H b=some (.tbl ps)->∃more,H' b=some (.tbl (ps++more))
section
variable{fs fs' ex ex' :List Addr}{H H1 H2:Hp}{h h1 h2 h' :Heap}{a x e:Addr}{o:HO}
theorem Un.any(u:Un fs ex H H1 h h1){b:Addr}{ob:Obj}(q:h.get? b=some ob)(n:H b=none)(hx:b∉ex):∃sl,h1.get? b=some {ob with slots:=sl}:=by
 by_cases hb:b∈fs
 ·exact u.slot b ob q n hb hx
 ·exact⟨ob.slots,u.keep b ob q n hb hx⟩
theorem Un.kept(k:∀b u,h.get? b=some u->h'.get? b=some u):Un fs ex H H h h' :=
 ⟨fun b ob q _ _ _=>k b ob q,fun b ob q _ _ _=>⟨ob.slots,k b ob q⟩,fun _ _ _ n _=>n,fun b ob q _=>⟨ob,k b ob q⟩,fun _ _ q=>q,fun _ _ _ q=>q,fun _ ps q=>⟨#[],by rw[q];simp⟩⟩
theorem Un.refl:Un fs ex H H h h:=Un.kept fun _ _ q=>q
theorem Un.laid(k:∀b u,h.get? b=some u->h'.get? b=some u)(hp:h.objs.size<=a)(hn:H a=none):Un fs ex H (upd H a o) h h' where
 keep:=fun b u q _ _ _=>k b u q
 slot:=fun b u q _ _ _=>⟨u.slots,k b u q⟩
 free:=fun b u q n _=>by rw[aD (JM (JT (Iz q) hp))];exact n
 there:=fun b u q _=>⟨u,k b u q⟩
 tups:=fun b xs q=>by rw[aD (aM q hn)];exact q
 frzs:=fun b u xs q=>by rw[aD (aM q hn)];exact q
 tbls:=fun b ps q=>⟨#[],by rw[aD (aM q hn),q];simp⟩
theorem Un.write(mu:IW (H x))(he:e=x\/H e=some (.own x))(k:∀b u,b≠e->h.get? b=some u->h'.get? b=some u)(heo:∃u,h'.get? e=some u):Un fs ex H (upd H x o) h h' :=by
 have hx:∀b,H b=none->b≠x:=fun b n z=>by subst z;rw[n]at mu;exact mu
 have hb:∀b,H b=none->b≠e:=fun b n z=>by
  subst z
  rcases he with r|r
  ·exact hx b n r
  ·rw[n]at r;cases r
 have hm:∀b u,H b=some u->¬IW (some u)->b≠x:=fun b u q nm z=>by subst z;rw[q]at mu;exact nm mu
 refine⟨fun b u q n _ _=>k b u (hb b n) q,fun b u q n _ _=>⟨u.slots,k b u (hb b n) q⟩,fun b u q n _=>by rw[aD (hx b n)];exact n,fun b u q _=> ?_,
  fun b xs q=>by rw[aD (hm b _ q fun z=>z)];exact q,fun b u xs q=>by rw[aD (hm b _ q fun z=>z)];exact q,fun b ps q=>⟨#[],by rw[aD (hm b _ q fun z=>z),q];simp⟩⟩
 by_cases hbe:b=e
 ·subst hbe;exact heo
 ·exact⟨u,k b u hbe q⟩
end
noncomputable def trk(h:Heap)(H:Hp):List Addr:=(List.range h.objs.size).filter fun a=>(H a).isSome
noncomputable def nK(h:Heap)(H:Hp):Heap:=W.hideAll h (trk h H)
theorem uc(h:Heap)(H:Hp):(nK h H).objs.size=h.objs.size:=W.hideAll_size _ _
theorem xN{h:Heap}{H:Hp}{b:Addr}{o:Obj}(e:h.get? b=some o)(n:H b=none):(nK h H).get? b=some o :=
 W.hideAll_get _ e fun hm=>by
  have q:(H b).isSome=true:=(KI.mp hm).2;rw[n]at q;simp at q
theorem zZ{h:Heap}{H:Hp}{b:Addr}{o:Obj}(e:(nK h H).get? b=some o):h.get? b=some o/\H b=none:=by
 have e' :h.get? b=some o:=W.of_hideAll (trk h H) e;refine⟨e',?_⟩;cases q:H b with
 | none=>rfl
 | some x =>
  have hm:b∈trk h H:=KI.mpr ⟨KR.mpr (Iz e'),by simp[q]⟩;have z:(nK h H).get? b=none:=W.hideAll_none (trk h H) hm;rw[z]at e;cases e
noncomputable def Ax(g h:Heap)(L:Addr):List (Addr×Obj):=(List.range h.objs.size).filterMap fun a=>if a=L\/(g.get? a).isSome=true then none else(h.get? a).map fun o=>(a,o)
noncomputable def aP(g h:Heap)(L d:Addr):List (Addr×Obj):=(Ax g h L).filter fun p=>decide (p.1≠d)
structure Mod(K:W.Frag)(mg:Str->Option Value)(base:Heap):Prop where
 kin:K.In base
 glob:base.Ns mainGlobals mg
 blt:∃mb,base.Ns builtinsNs mb/\∀x:Str,x≠"__name__"->mb x=bootBuiltins x
 nolimit:base.NoLimit
structure Cx where
 prog:Program
 w:World
 K:W.Frag
 mg:Str->Option Value
 base:Heap
 A:Around
 N:List Str
 s₀:Shared
 H₀:Hp
 env:Env
 outer:List Env
 stack:List Env
 ex:List Addr
 fn:Str->Bool
 calm:Bool
 pn:List (Addr×Obj)
 xe:Value->Shared->Prop
noncomputable def p7(l:List Env):List Addr:=l.filterMap (·.frame)
noncomputable abbrev Cx.fs(X:Cx):List Addr:=p7 X.outer
noncomputable def FV(sc:Scope)(x:Str):Prop:=sc.names.lookup x=some .local\/sc.names.lookup x=some .cell\/sc.names.lookup x=some .free
noncomputable def Loc(sc:Scope)(x:Str):Prop:=sc.names.lookup x=some .local\/sc.names.lookup x=some .cell
noncomputable def Look(env:Env)(h:Heap)(m:Str->Option Value)(x:Str)(u:Value):Prop :=
 (env.kindOf x=some .local/\m x=some u)\/((env.kindOf x=some .cell\/env.kindOf x=some .free)/\∃c,env.cells.lookup x=some c/\h.IsCell c (some u))
structure Cx.Ok(X:Cx):Prop where
 mod:Mod X.K X.mg X.base
 kind:X.env.scope.kind=.function
 glob:X.env.globals=mainGlobals
 blt:X.env.builtins=builtinsNs
 above:X.s₀.heap.objs.size<=X.env.locals
 inj:∀x y c,X.env.cells.lookup x=some c->X.env.cells.lookup y=some c->x=y
 has:∀x,(X.env.kindOf x=some .cell\/X.env.kindOf x=some .free)->∃c,X.env.cells.lookup x=some c
 cab:∀x c,X.fn x=true->X.env.cells.lookup x=some c->X.s₀.heap.objs.size<=c
 hd:X.calm=true->X.A.handled=none
 frames:X.A.frames=some X.stack
 stk:X.stack=X.outer\/(X.stack=X.env::X.outer/\X.env.frame=some X.env.locals)
 exf:∀b∈X.ex,b≠X.env.locals/\∀x c,X.env.cells.lookup x=some c->c≠b
 bs:∀b o,X.base.get? b=some o->X.s₀.heap.get? b=some o/\X.H₀ b=none
 bsz:X.base.objs.size<=X.s₀.heap.objs.size
 noex:∀b o,X.base.get? b=some o->b∉X.ex
 exfs:∀b∈X.ex,b∉X.fs
 funs:X.s₀.heap.FunFrames X.base X.outer
 frf:∀b∈X.fs,X.H₀ b=none
structure Inv(X:Cx)(pins:List (Addr×Obj))(σ:List (Option V))(H:Hp)(s:Shared):Prop where
 ok:X.Ok
 os:s.os=X.s₀.os
 bare:AllBare s.gens
 base:Un X.fs X.ex X.H₀ H X.s₀.heap s.heap
 loc:∃m,s.heap.Ns X.env.locals m/\∀(i:Nat)(x:Str)(v:V),X.N[i]? =some x->σ[i]? =some (some v)->FV X.env.scope x->∃u,RelV v u/\Look X.env s.heap m x u
 cell:∀x c,X.env.cells.lookup x=some c->∃v,s.heap.IsCell c v
 free:H X.env.locals=none
 freeC:∀x c,X.env.cells.lookup x=some c->H c=none
 pin:∀p∈X.pn++pins,s.heap.get? p.1=some p.2/\H p.1=none/\p.1≠X.env.locals/\p.1∉X.fs/\∀v,p.2.data≠.cell v
 hok:dw X.prog X.w H s.heap
 len:σ.length=X.N.length
section
variable{X:Cx}{pins:List (Addr×Obj)}{σ:List (Option V)}{H H' :Hp}{s:Shared}{h' :Heap}
theorem Cx.Ok.nofr(ok:X.Ok){b:Addr}{o:Obj}(e:X.base.get? b=some o):b∉X.fs:=fun hb=>by
 have:=(ok.funs.mem hb).1;rw[e]at this;cases this
theorem Inv.bs(I:Inv X pins σ H s):∀b o,X.base.get? b=some o->s.heap.get? b=some o/\H b=none:=fun b o e =>
 ⟨I.base.keep b o (I.ok.bs b o e).1 (I.ok.bs b o e).2 (I.ok.nofr e) (I.ok.noex b o e),I.base.free b o (I.ok.bs b o e).1 (I.ok.bs b o e).2 (I.ok.noex b o e)⟩
theorem Inv.bk(I:Inv X pins σ H s):∀b o,X.base.get? b=some o->s.heap.get? b=some o:=fun b o e=>(I.bs b o e).1
theorem Inv.mod(I:Inv X pins σ H s):Mod X.K X.mg X.base:=I.ok.mod
theorem Inv.kIn(I:Inv X pins σ H s):X.K.In s.heap:=I.ok.mod.kin.keeps I.bk
theorem Inv.fr(I:Inv X pins σ H s):∃m,Fr X.base X.env.locals s.heap m :=
 let⟨m,hn,_⟩:=I.loc
 ⟨m,hn,I.bk,JO I.ok.bsz I.ok.above⟩
theorem Inv.lt(I:Inv X pins σ H s):X.env.locals<s.heap.objs.size:=let⟨_,hn,_⟩:=I.loc;hn.lt
theorem Inv.sz(I:Inv X pins σ H s):X.s₀.heap.objs.size<=s.heap.objs.size:=JO I.ok.above (K0 I.lt)
theorem Inv.nofs(I:Inv X pins σ H s){a:Addr}(h:s.heap.objs.size<=a):a∉X.fs:=fun hb=>by
 obtain⟨_,o,ho,_⟩:=I.ok.funs.mem hb;exact absurd (JT (Iz ho) (JO I.sz h)) (KP _)
theorem Inv.cne(I:Inv X pins σ H s):∀x c,X.env.cells.lookup x=some c->c≠X.env.locals:=fun x c e z=>by
 obtain⟨v,o,ho,hd⟩:=I.cell x c e;obtain⟨m,⟨o',es,ep,ho',hd',_⟩,_⟩:=I.loc;rw[z,ho']at ho;cases ho;rw[hd']at hd;cases hd
theorem Inv.funs(I:Inv X pins σ H s):s.heap.FunFrames X.base X.outer:=by
 have all:∀(l:List Env),(∀b∈p7 l,b∈X.fs)->X.s₀.heap.FunFrames X.base l->s.heap.FunFrames X.base l:=by
  intro l
  induction l with
  | nil=>intro _ _;trivial
  | cons env r ih =>
   intro hs hl;obtain⟨hk,⟨L,o,hf,hn,ho,hd⟩,hr⟩:=hl;have hL:L∈X.fs:=hs L (by unfold p7;rw[List.filterMap_cons,hf];exact Ip);obtain⟨sl,e⟩:=I.base.slot L o ho (I.ok.frf L hL) hL fun z=>I.ok.exfs L z hL;exact⟨hk,⟨L,_,hf,hn,e,hd⟩,ih (fun b hb=>hs b (by unfold p7;rw[List.filterMap_cons,hf];exact Im _ hb)) hr⟩
 exact all X.outer (fun _ hb=>hb) I.ok.funs
theorem Inv.stack(I:Inv X pins σ H s):s.heap.FunFrames X.base X.stack:=by
 rcases I.ok.stk with e|⟨e,hf⟩
 ·rw[e];exact I.funs
 ·rw[e]
  obtain⟨m,hn,_⟩:=I.loc;refine .cons (by rw[I.ok.kind];decide) hf hn ?_ I.funs;exact Heap.get?_none_of_le (JO I.ok.bsz I.ok.above)
theorem Inv.stkSub(I:Inv X pins σ H s):∀b∈p7 X.stack,b∈X.env.locals::X.fs:=fun b hb=>by
 rcases I.ok.stk with e|⟨e,hf⟩
 ·rw[e]at hb;exact Im _ hb
 ·rw[e]at hb
  unfold p7 at hb;rw[List.filterMap_cons,hf]at hb;exact hb
theorem Inv.stkFree(I:Inv X pins σ H s):∀b∈p7 X.stack,H b=none:=fun b hb=>by
 rcases JD.mp (I.stkSub b hb)with e|hb
 ·rw[e];exact I.free
 ·obtain⟨_,o,ho,_⟩:=I.ok.funs.mem hb
  exact I.base.free b o ho (I.ok.frf b hb) fun z=>I.ok.exfs b z hb
theorem Inv.step{g' :Array GenState}{t' :Nat}{d' :Drawn}{ch:List Addr}(I:Inv X pins σ H s)
  (hch:∀b∈ch,(b∈X.ex\/X.s₀.heap.objs.size<=b)/\b≠X.env.locals/\(∀x c,X.env.cells.lookup x=some c->c≠b)/\∀p∈X.pn++pins,p.1≠b)
  (keep:∀b o,b≠X.env.locals->b∉X.fs->b∉ch->s.heap.get? b=some o->H b=none->h'.get? b=some o)
  (slot:∀b o,b≠X.env.locals->b∈X.fs->b∉ch->s.heap.get? b=some o->H b=none->∃sl,h'.get? b=some {o with slots:=sl}) (free:∀b o,b∉ch->s.heap.get? b=some o->H b=none->H' b=none)
  (there:∀b o,b∉ch->s.heap.get? b=some o->∃o',h'.get? b=some o')
  (tups:∀b xs,H b=some (.tup xs)->H' b=some (.tup xs)) (frzs:∀b o u,H b=some (.frz o u)->H' b=some (.frz o u)) (tbls:∀b ps,H b=some (.tbl ps)->∃more,H' b=some (.tbl (ps++more)))
  (ns:∀m,s.heap.Ns X.env.locals m->h'.Ns X.env.locals m) (hok:dw X.prog X.w H' h') (hg:AllBare g') :
  Inv X pins σ H' {s with heap:=h',gens:=g',drawn:=d',toks:=t'}:=by
 have neL:∀b o,X.s₀.heap.get? b=some o->b≠X.env.locals:=fun b o e=>JM (JT (Iz e) I.ok.above);have neC:∀b o,X.s₀.heap.get? b=some o->b∉X.ex->b∉ch:=fun b o e hx hb=>by
  rcases(hch b hb).1 with z|z
  ·exact hx z
  ·exact absurd (JT (Iz e) z) (KP _)
 have cellK:∀x c,X.env.cells.lookup x=some c->∀v,s.heap.IsCell c v->h'.IsCell c v:=fun x c e v ⟨o,ho,hd⟩=>by
  have nch:c∉ch:=fun z=>(hch c z).2.2.1 x c e rfl
  by_cases hc:c∈X.fs
  ·obtain⟨sl,q⟩:=slot c o (I.cne x c e) hc nch ho (I.freeC x c e)
   exact⟨_,q,hd⟩
  ·exact⟨o,keep c o (I.cne x c e) hc nch ho (I.freeC x c e),hd⟩
 refine⟨I.ok,I.os,hg,⟨fun b o e n hb hx=> ?_,fun b o e n hb hx=> ?_,fun b o e n hx=> ?_,fun b o e hx=> ?_,fun b xs e=>tups b xs (I.base.tups b xs e),fun b o xs e=>frzs b o xs (I.base.frzs b o xs e),fun b ps e=> ?_⟩,?_,fun x c e=> ?_,?_,fun x c e=> ?_,fun p hp=> ?_,hok,I.len⟩
 ·exact keep b o (neL b o e) hb (neC b o e hx) (I.base.keep b o e n hb hx) (I.base.free b o e n hx)
 ·obtain⟨sl,e1⟩:=I.base.slot b o e n hb hx
  obtain⟨sl',e2⟩:=slot b _ (neL b o e) hb (neC b o e hx) e1 (I.base.free b o e n hx);exact⟨sl',e2⟩
 ·obtain⟨o',e1⟩:=I.base.there b o e hx
  exact free b o' (neC b o e hx) e1 (I.base.free b o e n hx)
 ·obtain⟨o',e1⟩:=I.base.there b o e hx
  exact there b o' (neC b o e hx) e1
 ·obtain⟨m1,e1⟩:=I.base.tbls b ps e
  obtain⟨m2,e2⟩:=tbls b _ e1;exact⟨m1++m2,by rw[e2,Array.append_assoc]⟩
 ·obtain⟨m,hn,hl⟩:=I.loc
  refine⟨m,ns m hn,fun i x v e1 e2 e3=> ?_⟩;obtain⟨u,r,l⟩:=hl i x v e1 e2 e3;refine⟨u,r,?_⟩
  rcases l with l|⟨k,c,e,z⟩
  ·exact .inl l
  ·exact .inr ⟨k,c,e,cellK x c e _ z⟩
 ·obtain⟨v,z⟩:=I.cell x c e
  exact⟨v,cellK x c e v z⟩
 ·obtain⟨m,⟨o,_,_,ho,_⟩,_⟩:=I.loc
  exact free _ o (fun z=>(hch _ z).2.1 rfl) ho I.free
 ·obtain⟨v,o,ho,hd⟩:=I.cell x c e
  exact free c o (fun z=>(hch c z).2.2.1 x c e rfl) ho (I.freeC x c e)
 ·obtain⟨e,n,ne,nf,d⟩:=I.pin p hp
  have nch:p.1∉ch:=fun z=>(hch p.1 z).2.2.2 p hp rfl;exact⟨keep p.1 p.2 ne nf nch e n,free p.1 p.2 nch e n,ne,nf,d⟩
theorem Inv.un{t' :Nat}(I:Inv X pins σ H s)(u:Un X.fs [] H H' s.heap h')(hok:dw X.prog X.w H' h'):Inv X pins σ H' {s with heap:=h',toks:=t'}:=by
 obtain⟨m,⟨o,es,ep,ho,r⟩,_⟩:=id I.loc;obtain⟨sl,hL⟩:=u.any ho I.free (by simp);exact I.step (g' :=s.gens) (d' :=s.drawn) (ch:=[]) (fun _ z=>nomatch z) (fun b o _ hb _ e n=>u.keep b o e n hb (by simp)) (fun b o _ hb _ e n=>u.slot b o e n hb (by simp)) (fun b o _ e n=>u.free b o e n (by simp)) (fun b o _ e=>u.there b o e (by simp)) u.tups u.frzs u.tbls (fun m' hm=>by
  obtain⟨o',es',ep',ho',r'⟩:=hm;rw[ho]at ho';cases ho';exact⟨_,es',ep',hL,r'⟩) hok I.bare
theorem Inv.call{g' :Array GenState}{t' :Nat}{d' :Drawn}{ch:List Addr}(I:Inv X pins σ H s)(u:Un (p7 X.stack) ch H H' s.heap h')(hok:dw X.prog X.w H' h')(hg:AllBare g')
  (hch:∀b∈ch,(b∈X.ex\/X.s₀.heap.objs.size<=b)/\b≠X.env.locals/\(∀x c,X.env.cells.lookup x=some c->c≠b)/\∀p∈X.pn++pins,p.1≠b) :
  Inv X pins σ H' {s with heap:=h',gens:=g',drawn:=d',toks:=t'}:=by
 obtain⟨m,⟨o,es,ep,ho,r⟩,_⟩:=id I.loc;obtain⟨sl,hL⟩:=u.any ho I.free fun z=>(hch _ z).2.1 rfl;exact I.step (ch:=ch) hch (fun b o hL hb hc e n=>u.keep b o e n (fun z=>(JD.mp (I.stkSub b z)).elim hL hb) hc) (fun b o _ _ hc e n=>u.any e n hc) (fun b o hc e n=>u.free b o e n hc) (fun b o hc e=>u.there b o e hc) u.tups u.frzs u.tbls (fun m' hm=>by
  obtain⟨o',es',ep',ho',r'⟩:=hm;rw[ho]at ho';cases ho';exact⟨_,es',ep',hL,r'⟩) hok hg
theorem Inv.turned{t' :Nat}{it:Addr}(I:Inv X pins σ H s)(k:∀b o,b≠it->s.heap.get? b=some o->h'.get? b=some o)(hn:H it=none)(hL:it≠X.env.locals)
  (h1:it∈X.ex\/X.s₀.heap.objs.size<=it) (h2:∀x c,X.env.cells.lookup x=some c->c≠it) (h3:∀p∈X.pn++pins,p.1≠it):Inv X pins σ H {s with heap:=h',toks:=t'}:=by
 have nit:∀b u,H b=some u->b≠it:=fun b u e z=>by rw[z,hn]at e;cases e
 refine I.step (g' :=s.gens) (d' :=s.drawn) (ch:=[it]) (fun b hb=> ?_) (fun b o _ _ hc e _=>k b o (fun z=>hc (by simp[z])) e) (fun b o _ _ hc e _=>⟨o.slots,k b o (fun z=>hc (by simp[z])) e⟩) (fun _ _ _ _ n=>n)
  (fun b o hc e=>⟨o,k b o (fun z=>hc (by simp[z])) e⟩) (fun _ _ e=>e) (fun _ _ _ e=>e) (fun b ps e=>⟨#[],by rw[e];simp⟩) (fun m hm=> ?_) (fun b u e=> ?_) I.bare
 ·have e:b=it:=by simpa using hb
  subst e;exact⟨h1,hL,h2,h3⟩
 ·obtain⟨o,es,ep,ho,r⟩:=hm
  exact⟨o,es,ep,k _ o (KW hL) ho,r⟩
 ·refine(I.hok b u e).stay (fun c v hc q=>k c v ?_ q) (fun _ q=>q) fun _ _ q=>q
  rcases hc with z|z
  ·rw[z];exact nit b u e
  ·exact nit c _ z
theorem Inv.tok(I:Inv X pins σ H s)(t:Nat):Inv X pins σ H {s with toks:=t}:=I.un (h' :=s.heap) (t' :=t) Un.refl I.hok
theorem Inv.kept{t' :Nat}(I:Inv X pins σ H s)(k:∀b u,s.heap.get? b=some u->h'.get? b=some u):Inv X pins σ H {s with heap:=h',toks:=t'}:=I.un (Un.kept k) (I.hok.kept k)
theorem Inv.laid{a:Addr}{o:HO}{t' :Nat}(I:Inv X pins σ H s)(k:∀b u,s.heap.get? b=some u->h'.get? b=some u)(hp:s.heap.objs.size<=a)(new:az X.prog X.w (upd H a o) h' a o) :
  Inv X pins σ (upd H a o) {s with heap:=h',toks:=t'}:=I.un (Un.laid k hp (I.hok.fresh hp)) (I.hok.laid k hp new)
theorem Inv.write{x e:Addr}{o:HO}{t' :Nat}(I:Inv X pins σ H s)(mu:IW (H x))(he:e=x\/H e=some (.own x))(k:∀b u,b≠e->s.heap.get? b=some u->h'.get? b=some u)(heo:∃u,h'.get? e=some u)
  (new:az X.prog X.w (upd H x o) h' x o):Inv X pins σ (upd H x o) {s with heap:=h',toks:=t'}:=I.un (Un.write mu he k heo) (I.hok.write mu he k heo new)
theorem Inv.weak{σ' :List (Option V)}(I:Inv X pins σ H s)(hl:σ'.length=σ.length)(w:∀(i:Nat) v,σ'[i]? =some (some v)->σ[i]? =some (some v)):Inv X pins σ' H s :=
 ⟨I.ok,I.os,I.bare,I.base,let⟨m,hn,hl'⟩:=I.loc;⟨m,hn,fun i x v e1 e2 e3=>hl' i x v e1 (w i v e2) e3⟩,I.cell,I.free,I.freeC,I.pin,I.hok,hl.trans I.len⟩
theorem Inv.pins_of{pins' :List (Addr×Obj)}(I:Inv X pins σ H s)(h:∀p∈pins',s.heap.get? p.1=some p.2/\H p.1=none/\p.1≠X.env.locals/\p.1∉X.fs/\∀v,p.2.data≠.cell v):Inv X pins' σ H s :=
 ⟨I.ok,I.os,I.bare,I.base,I.loc,I.cell,I.free,I.freeC,fun p hp=>(Jw.mp hp).elim (fun z=>I.pin p (Kc _ z)) (h p),I.hok,I.len⟩
theorem jr{N:List Str}(hN:N.Nodup){i j:Nat}{x:Str}(a:N[i]? =some x)(b:N[j]? =some x):i=j:=by
 obtain⟨h1,e1⟩:=Iw.mp a;obtain⟨h2,e2⟩:=Iw.mp b;exact(List.getElem_inj hN).mp (e1.trans e2.symm)
theorem lY{M:Model}{A:Around}{E:Value->Shared->Prop}{i:Nat}{x:Str}{v:V}{u:Value}{Q:Unit->Shared->Prop}(I:Inv X pins σ H s)(hN:X.N.Nodup)(hi:X.N[i]? =some x)(hx:Loc X.env.scope x)(r:RelV v u)
  (h:∀s',Inv X pins (σ.set i (some v)) H s' ->(∃a,Heap.SameBut a s.heap s'.heap/\(a=X.env.locals\/X.env.cells.lookup x=some a))->Q () s') (hf:X.fn x=true\/X.env.scope.names.lookup x=some .local:=by first|exact .inl rfl|exact .inr rfl|assumption):wpAny M A (storeName X.env x u) Q E s:=by
 obtain⟨m,hn,hl⟩:=id I.loc;have hcls:(X.env.scope.kind== .class||(X.env.scope.kind== .module&&X.env.locals !=X.env.globals))=false:=by rw[I.ok.kind];rfl
 have hiσ:i<σ.length:=by rw[I.len];exact(Iw.mp hi).1
 have cne:=I.cne;have tracked:∀{a:Addr}{h' :Heap},(∃o,s.heap.get? a=some o/\H a=none)->Heap.SameBut a s.heap h' ->dw X.prog X.w H h' :=fun{a h'} ha hs b ob e=>by
  obtain⟨_,_,hfree⟩:=ha;refine(I.hok b ob e).stay (fun c w' hc q=>(hs.2 c ?_).trans q) (fun _ q=>q) fun _ _ q=>q;rintro rfl
  rcases hc with rfl|hc
  ·rw[hfree]at e;cases e
  ·rw[hfree]at hc;cases hc
 rcases hx with hk|hk
 ·refine wpAny_storeName_local hk hn (fun h' hn' hs=> ?_) hcls
  obtain⟨oL,_,_,hoL,_⟩:=id hn;refine h _ ⟨I.ok,I.os,I.bare,⟨fun b o e n hb hx=> ?_,fun b o e n hb hx=> ?_,I.base.free,fun b o e hx=> ?_,I.base.tups,I.base.frzs,I.base.tbls⟩,⟨_,hn',fun j y v' e1 e2 e3=> ?_⟩,fun y c e=> ?_,I.free,I.freeC,fun p hp=> ?_,tracked ⟨oL,hoL,I.free⟩ hs,by simpa using I.len⟩ ⟨_,hs,.inl rfl⟩
  ·exact(hs.2 b (JM (JT (Iz e) I.ok.above))).trans (I.base.keep b o e n hb hx)
  ·obtain⟨sl,e1⟩:=I.base.slot b o e n hb hx
   exact⟨sl,(hs.2 b (JM (JT (Iz e) I.ok.above))).trans e1⟩
  ·obtain⟨o',e1⟩:=I.base.there b o e hx
   exact⟨o',(hs.2 b (JM (JT (Iz e) I.ok.above))).trans e1⟩
  ·by_cases hj:j=i
   ·subst hj
    rw[hi]at e1;cases e1;rw[KB hiσ]at e2;cases e2;exact⟨u,r,.inl ⟨hk,by simp⟩⟩
   ·rw[Ja (KW hj)]at e2
    obtain⟨u',r',q⟩:=hl j y v' e1 e2 e3;refine⟨u',r',?_⟩
    rcases q with⟨k,e⟩|⟨k,c,e,z⟩
    ·refine .inl ⟨k,?_⟩
     have:y≠x:=fun e=>hj (jr hN e1 (e▸hi));simp[this,e]
    ·exact .inr ⟨k,c,e,z.sameBut hs (cne y c e)⟩
  ·obtain⟨w',z⟩:=I.cell y c e
   exact⟨w',z.sameBut hs (cne y c e)⟩
  ·obtain⟨e,n,ne,nf,d⟩:=I.pin p hp
   exact⟨(hs.2 p.1 ne).trans e,n,ne,nf,d⟩
 ·have hfn:X.fn x=true:=by
   rcases hf with z|z
   ·exact z
   ·rw[z]at hk;cases hk
  obtain⟨c,hc⟩:=I.ok.has x (.inl hk);obtain⟨w',z⟩:=I.cell x c hc;refine wpAny_storeName_cell I.ok.kind hk hc z (fun h' hc' hs=> ?_);obtain⟨oc,hoc,hocd⟩:=id z;refine h {s with heap:=h'} ⟨I.ok,I.os,I.bare,⟨fun b o e n hb hx=> ?_,fun b o e n hb hx=> ?_,I.base.free,fun b o e hx=> ?_,I.base.tups,I.base.frzs,I.base.tbls⟩,⟨m,hn.sameBut hs (KW (cne x c hc)),fun j y v' e1 e2 e3=> ?_⟩,fun y c' e=> ?_,I.free,I.freeC,fun p hp=> ?_,tracked ⟨oc,hoc,I.freeC x c hc⟩ hs,by simpa using I.len⟩ ⟨c,hs,.inr hc⟩
  ·exact(hs.2 b (JM (JT (Iz e) (I.ok.cab x c hfn hc)))).trans (I.base.keep b o e n hb hx)
  ·obtain⟨sl,e1⟩:=I.base.slot b o e n hb hx
   exact⟨sl,(hs.2 b (JM (JT (Iz e) (I.ok.cab x c hfn hc)))).trans e1⟩
  ·obtain⟨o',e1⟩:=I.base.there b o e hx
   exact⟨o',(hs.2 b (JM (JT (Iz e) (I.ok.cab x c hfn hc)))).trans e1⟩
  ·by_cases hj:j=i
   ·subst hj
    rw[hi]at e1;cases e1;rw[KB hiσ]at e2;cases e2;exact⟨u,r,.inr ⟨.inl hk,c,hc,hc'⟩⟩
   ·rw[Ja (KW hj)]at e2
    obtain⟨u',r',q⟩:=hl j y v' e1 e2 e3;refine⟨u',r',?_⟩
    rcases q with q|⟨k,c',e,z'⟩
    ·exact .inl q
    ·refine .inr ⟨k,c',e,z'.sameBut hs ?_⟩
     rintro rfl;exact hj (jr hN e1 (I.ok.inj _ _ _ e hc▸hi))
  ·by_cases hcc:c' =c
   ·subst hcc;exact⟨_,hc'⟩
   ·obtain⟨w2,z2⟩:=I.cell y c' e
    exact⟨w2,z2.sameBut hs hcc⟩
  ·obtain⟨e,n,ne,nf,d⟩:=I.pin p hp
   refine⟨(hs.2 p.1 ?_).trans e,n,ne,nf,d⟩;intro q;rw[q,hoc]at e;have q' :oc=p.2:=JF e;exact d w' (by rw[<- q'];exact hocd)
theorem ja{M:Model}{A:Around}{E:Value->Shared->Prop}{i:Nat}{x:Str}{v:V}{u:Value}{Q:Unit->Shared->Prop}(I:Inv X pins σ H s)(hN:X.N.Nodup)(hi:X.N[i]? =some x)(hx:Loc X.env.scope x)(r:RelV v u)
  (h:∀s',Inv X pins (σ.set i (some v)) H s' ->Q () s') (hf:X.fn x=true\/X.env.scope.names.lookup x=some .local:=by first|exact .inl rfl|exact .inr rfl|assumption):wpAny M A (storeName X.env x u) Q E s :=
 lY I hN hi hx r (fun s' I' _=>h s' I') hf
theorem Inv.call'{s' :Shared}{ch:List Addr}(I:Inv X pins σ H s)(ho:s'.os=s.os)(u:Un (p7 X.stack) ch H H' s.heap s'.heap)(hok:dw X.prog X.w H' s'.heap)(hg:AllBare s'.gens)
  (hch:∀b∈ch,(b∈X.ex\/X.s₀.heap.objs.size<=b)/\b≠X.env.locals/\(∀x c,X.env.cells.lookup x=some c->c≠b)/\∀p∈X.pn++pins,p.1≠b):Inv X pins σ H' s' :=by
 obtain⟨h',g',d',t',o'⟩:=s';have e:o' =s.os:=ho;subst e;exact I.call (g' :=g') (t' :=t') (d' :=d') u hok hg hch
end
noncomputable abbrev XK:=Value->Option Addr->Hp->Prop
noncomputable abbrev St:=List (Option V)
noncomputable abbrev VK:=V->Hp->Prop
noncomputable abbrev TE:=St->Hp->VK->Prop
noncomputable abbrev TT:=St->Hp->(Bool->Hp->Prop)->Prop
noncomputable abbrev TA:=St->Hp->(List V->Hp->Prop)->Prop
structure dN where
 nx:St->Hp->Prop
 rt:VK
 bk:St->Hp->Prop:=fun _ _=>False
 ct:St->Hp->Prop:=fun _ _=>False
noncomputable abbrev TS:=dN->St->Hp->Prop
noncomputable def EP(X:Cx)(pins:List (Addr×Obj))(σ:St)(Q:VK)(u:Value)(s' :Shared):Prop:=∃v H',Inv X pins σ H' s' /\RelV v u/\Q v H'
noncomputable def TP(X:Cx)(pins:List (Addr×Obj))(σ:St)(Q:Bool->Hp->Prop)(b:Bool)(s' :Shared):Prop:=∃H',Inv X pins σ H' s' /\Q b H'
noncomputable def AP(X:Cx)(pins:List (Addr×Obj))(σ:St)(Q:List V->Hp->Prop)(us:List Value)(s' :Shared):Prop:=∃vs H',Inv X pins σ H' s' /\aQ vs us/\Q vs H'
noncomputable def SP(X:Cx)(pins:List (Addr×Obj))(D:dN)(f:Flow)(s' :Shared):Prop :=
 match f with
 | .next=>∃σ' H',Inv X pins σ' H' s' /\D.nx σ' H'
 | .brk=>∃σ' H',Inv X pins σ' H' s' /\D.bk σ' H'
 | .cont=>∃σ' H',Inv X pins σ' H' s' /\D.ct σ' H'
 | .ret u=>∃v σ' H',Inv X pins σ' H' s' /\RelV v u/\D.rt v H'
noncomputable def PE(X:Cx)(e:Expr)(t:TE):Prop :=
 ∀(pins:List (Addr×Obj))(s:Shared)(σ:St)(H:Hp)(Q:VK),Inv X pins σ H s->t σ H Q->wpAny (model X.prog X.w) X.A (eval e X.env) (EP X pins σ Q) X.xe s
noncomputable def PT(X:Cx)(e:Expr)(t:TT):Prop :=
 ∀(pins:List (Addr×Obj))(s:Shared)(σ:St)(H:Hp)(Q:Bool->Hp->Prop),Inv X pins σ H s->t σ H Q->wpAny (model X.prog X.w) X.A (isTrue e X.env (eval e X.env)) (TP X pins σ Q) X.xe s
noncomputable def PW(X:Cx)(e:Expr)(t:TT):Prop :=
 ∀(whole:Sem Value)(pins:List (Addr×Obj))(s:Shared)(σ:St)(H:Hp)(Q:Bool->Hp->Prop),Inv X pins σ H s->t σ H Q->wpAny (model X.prog X.w) X.A (isTrue e X.env whole) (TP X pins σ Q) X.xe s
noncomputable def PA(X:Cx)(es:List Expr)(t:TA):Prop :=
 ∀(pos:Pos)(pins:List (Addr×Obj))(s:Shared)(σ:St)(H:Hp)(Q:List V->Hp->Prop),Inv X pins σ H s->t σ H Q->wpAny (model X.prog X.w) X.A (spliced (backTo pos (starEach es X.env))) (AP X pins σ Q) X.xe s
noncomputable def PS(X:Cx)(st:Stmt)(t:TS):Prop :=
 ∀(pins:List (Addr×Obj))(s:Shared)(σ:St)(H:Hp)(D:dN),Inv X pins σ H s->t D σ H->wpAny (model X.prog X.w) X.A (exec st X.env) (SP X pins D) X.xe s
noncomputable def pz(X:Cx)(st:List Stmt)(t:TS):Prop :=
 ∀(pins:List (Addr×Obj))(s:Shared)(σ:St)(H:Hp)(D:dN),Inv X pins σ H s->t D σ H->wpAny (model X.prog X.w) X.A (execs st X.env) (SP X pins D) X.xe s
theorem bD{α:Type}{t:Sem α}{Q Q' :α->Shared->Prop}{M:Model}{A:Around}{E:Value->Shared->Prop}{s:Shared}(h:wpAny M A t Q E s)(hQ:∀a s,Q a s->Q' a s):wpAny M A t Q' E s:=Kb h hQ fun _ _ x=>x
section
variable{X:Cx}
theorem bin{a b:Expr}{ta tb:TE}(ha:PE X a ta)(hb:PE X b tb){pins:List (Addr×Obj)}{s:Shared}{σ:St}{H:Hp}{R:V->V->Hp->Prop}(I:Inv X pins σ H s)(h:ta σ H fun x H1=>tb σ H1 fun y H2=>R x y H2)
  {α:Type} {Q:α->Shared->Prop} {f:Value->Value->Sem α}
  (hf:∀v u s2 x y H2,Inv X pins σ H2 s2->RelV x v->RelV y u->R x y H2->wpAny (model X.prog X.w) X.A (f v u) Q X.xe s2) :
  wpAny (model X.prog X.w) X.A (eval a X.env) (fun v s₁=>wpAny (model X.prog X.w) X.A (eval b X.env) (fun u s₂=>wpAny (model X.prog X.w) X.A (f v u) Q X.xe s₂) X.xe s₁) X.xe s:=by
 refine bD (ha pins s σ H _ I h) fun v s1 hpq=> ?_;obtain⟨x,H1,I1,r1,q1⟩:=hpq;refine bD (hb pins s1 σ H1 _ I1 q1) fun u s2 hpq=> ?_;obtain⟨y,H2,I2,r2,q2⟩:=hpq;exact hf v u s2 x y H2 I2 r1 r2 q2
noncomputable def Fx(i:Nat):TE:=fun σ H Q=>∃v,σ[i]? =some (some v)/\Q v H
noncomputable def tC(v:V):TE:=fun _ H Q=>Q v H
theorem qR{i:Nat}{x:Str}{pos:Pos}(hN:X.N[i]? =some x)(hv:FV X.env.scope x)(hd:(x==("__debug__":Str))=false:=by decide)(hcd:(x==("__classdict__":Str))=false:=by decide):PE X (.Name x pos) (Fx i):=by
 intro pins s σ H Q I h;obtain⟨v,e,h⟩:=h;obtain⟨m,hn,hl⟩:=I.loc;obtain⟨u,r,l⟩:=hl i x v hN e hv;have fin:EP X pins σ Q u s:=⟨v,H,I,r,h⟩
 rcases l with⟨hk,hm⟩|⟨hk,c,hc,hcell⟩
 ·exact wpAny_Name (wpAny_loadName_local I.ok.kind hk hn hm fin) hd
 ·rcases hk with hk|hk
  ·exact wpAny_Name (wpAny_loadName_cell I.ok.kind hk hc hcell fin) hd
  ·exact wpAny_Name (wpAny_loadName_free I.ok.kind hk hc hcell fin hcd) hd
theorem jp{i j pos}:PE X (.Constant (.int i) j pos) (tC (.int i)):=fun _ _ _ H _ I h=>wpAny_Constant_int ⟨.int i,H,I.tok _,⟨_,rfl⟩,h⟩
theorem Gu{b j pos}:PE X (.Constant (.bool b) j pos) (tC (.bl b)):=fun _ _ _ H _ I h=>Constant_bool ⟨.bl b,H,I,rfl,h⟩
theorem jo{j pos}:PE X (.Constant .none j pos) (tC .non):=fun _ _ _ H _ I h=>Constant_none ⟨.non,H,I,rfl,h⟩
theorem wM{x j pos}:PE X (.Constant (.str x) j pos) (tC (.str x)):=fun _ _ _ H _ I h=>Calls.Constant_str ⟨.str x,H,I.tok _,⟨_,rfl⟩,h⟩
noncomputable def Gl(X:Cx)(x:Str):Prop:=X.env.kindOf x=some .globalImplicit
theorem gf{E:Value->Shared->Prop}{pins:List (Addr×Obj)}{s:Shared}{σ:St}{H:Hp}{x:Str}{u:Value}{pos:Pos}{Q:Value->Shared->Prop}(I:Inv X pins σ H s)(hg:Gl X x)(hm:X.mg x=some u)(h:Q u s)
  (hd:(x==("__debug__":Str))=false:=by decide):wpAny (model X.prog X.w) X.A (eval (.Name x pos) X.env) Q E s :=
 Calls.Name_function_global I.ok.kind hg (Calls.loadGlobal_global (by rw[I.ok.glob];exact I.mod.glob.keeps I.bk) hm h) hd
theorem cI{E:Value->Shared->Prop}{pins:List (Addr×Obj)}{s:Shared}{σ:St}{H:Hp}{x:Str}{u:Value}{pos:Pos}{Q:Value->Shared->Prop}(I:Inv X pins σ H s)(hg:Gl X x)(hm:X.mg x=none)(hv:bootBuiltins x=some u)(h:Q u s)
  (hn:x≠"__name__":=by decide) (hd:(x==("__debug__":Str))=false:=by decide):wpAny (model X.prog X.w) X.A (eval (.Name x pos) X.env) Q E s:=by
 obtain⟨mb,h1,h2⟩:=I.mod.blt;exact Calls.Name_function_global I.ok.kind hg (Calls.loadGlobal_builtin (by rw[I.ok.glob];exact I.mod.glob.keeps I.bk) hm (by rw[I.ok.blt];exact h1.keeps I.bk) ((h2 x hn).trans hv) h) hd
theorem zK{x:Str}{v:V}{u:Value}{pos:Pos}(hg:Gl X x)(hm:X.mg x=some u)(r:RelV v u)(hd:(x==("__debug__":Str))=false:=by decide):PE X (.Name x pos) (tC v) :=
 fun _ _ _ H _ I h=>gf I hg hm ⟨v,H,I,r,h⟩ hd
theorem zN{x:Str}{v:V}{u:Value}{pos:Pos}(hg:Gl X x)(hm:X.mg x=none)(hv:bootBuiltins x=some u)(r:RelV v u)(hn:x≠"__name__":=by decide)(hd:(x==("__debug__":Str))=false:=by decide):PE X (.Name x pos) (tC v) :=
 fun _ _ _ H _ I h=>cI I hg hm hv ⟨v,H,I,r,h⟩ hn hd
variable{a b:Expr}{ta tb:TE}{pos:Pos}
variable{tA tB' :TT}{aP:List Expr}
noncomputable def tAnd(t u:TT):TT:=fun σ H Q=>t σ H fun c H1=>if c=true then u σ H1 Q else Q false H1
noncomputable def tOr(t u:TT):TT:=fun σ H Q=>t σ H fun c H1=>if c=true then Q true H1 else u σ H1 Q
noncomputable def tNot(t:TT):TT:=fun σ H Q=>t σ H fun c H1=>Q (!c) H1
theorem y3(ha:PT X a tA):PW X (.BoolOp .And [a] pos) tA:=by
 intro wh pins s σ H Q I h;refine isTrue_and (bD (ha pins s σ H Q I h) fun c s1 e=> ?_);cases c with
 | true=>exact isTrue_and_nil e
 | false=>exact e
theorem Cb(ha:PT X a tA):PW X (.BoolOp .Or [a] pos) tA:=by
 intro wh pins s σ H Q I h;refine isTrue_or (bD (ha pins s σ H Q I h) fun c s1 e=> ?_);cases c with
 | false=>exact isTrue_or_nil e
 | true=>exact e
theorem Cc(ha:PT X a tA)(hb:PW X (.BoolOp .And (b::aP) pos) tB'):PW X (.BoolOp .And (a::b::aP) pos) (tAnd tA tB'):=by
 intro wh pins s σ H Q I h;refine isTrue_and (bD (ha pins s σ H _ I h) fun c s1 hpq=> ?_);obtain⟨H1,I1,q1⟩:=hpq;cases c with
 | true=>exact hb wh pins s1 σ H1 Q I1 q1
 | false=>exact⟨H1,I1,q1⟩
theorem Go(ha:PT X a tA)(hb:PW X (.BoolOp .Or (b::aP) pos) tB'):PW X (.BoolOp .Or (a::b::aP) pos) (tOr tA tB'):=by
 intro wh pins s σ H Q I h;refine isTrue_or (bD (ha pins s σ H _ I h) fun c s1 hpq=> ?_);obtain⟨H1,I1,q1⟩:=hpq;cases c with
 | true=>exact⟨H1,I1,q1⟩
 | false=>exact hb wh pins s1 σ H1 Q I1 q1
theorem Ch(ha:PT X a tA):PT X (.UnaryOp .Not a pos) (tNot tA):=by
 intro pins s σ H Q I h;exact isTrue_not (ha pins s σ H (fun c H1=>Q (!c) H1) I h)
noncomputable def GJ(ta tb:TE):TE:=fun σ H Q=>ta σ H fun x H1=>∃c,x=.bl c/\if c=true then tb σ H1 Q else Q (.bl false) H1
noncomputable def tOrV(ta tb:TE):TE:=fun σ H Q=>ta σ H fun x H1=>∃c,x=.bl c/\if c=true then Q (.bl true) H1 else tb σ H1 Q
noncomputable def GB(ta:TE):TE:=fun σ H Q=>ta σ H fun x H1=>∃c,x=.bl c/\Q (.bl (!c)) H1
theorem Co{op}{t:TE}(h:PE X a t):PE X (.BoolOp op [a] pos) t:=fun pins s σ H Q I hw=>BoolOp_one (h pins s σ H Q I hw)
theorem wS(ha:PE X a ta)(hb:PE X (.BoolOp .And (b::aP) pos) tb):PE X (.BoolOp .And (a::b::aP) pos) (GJ ta tb):=by
 intro pins s σ H Q I h;refine BoolOp_and (bD (ha pins s σ H _ I h) fun v s1 hpq=> ?_);obtain⟨x,H1,I1,r1,q1⟩:=hpq;obtain⟨c,rfl,q1⟩:=q1;cases r1;refine K1 ?_;cases c with
 | true=>exact hb pins s1 σ H1 Q I1 q1
 | false=>exact⟨.bl false,H1,I1,rfl,q1⟩
theorem BM(ha:PE X a ta)(hb:PE X (.BoolOp .Or (b::aP) pos) tb):PE X (.BoolOp .Or (a::b::aP) pos) (tOrV ta tb):=by
 intro pins s σ H Q I h;refine BoolOp_or (bD (ha pins s σ H _ I h) fun v s1 hpq=> ?_);obtain⟨x,H1,I1,r1,q1⟩:=hpq;obtain⟨c,rfl,q1⟩:=q1;cases r1;refine K1 ?_;cases c with
 | false=>exact hb pins s1 σ H1 Q I1 q1
 | true=>exact⟨.bl true,H1,I1,rfl,q1⟩
theorem Cp(ha:PE X a ta):PE X (.UnaryOp .Not a pos) (GB ta):=by
 intro pins s σ H Q I h;refine UnaryOp_ (bD (ha pins s σ H _ I h) fun v s1 hpq=> ?_);obtain⟨x,H1,I1,r1,q1⟩:=hpq;obtain⟨c,rfl,q1⟩:=q1;cases r1;exact not_of (K1 ⟨.bl (!c),H1,I1,rfl,q1⟩)
noncomputable def tIf(t:TT)(ta tb:TE):TE:=fun σ H Q=>t σ H fun c H1=>if c=true then ta σ H1 Q else tb σ H1 Q
theorem wP{c:Expr}(hc:PT X c tA)(ha:PE X a ta)(hb:PE X b tb):PE X (.IfExp c a b pos) (tIf tA ta tb):=by
 intro pins s σ H Q I h;refine wpAny_IfExp (bD (hc pins s σ H _ I h) fun d s1 hpq=> ?_);obtain⟨H1,I1,q1⟩:=hpq;cases d with
 | true=>exact ha pins s1 σ H1 Q I1 q1
 | false=>exact hb pins s1 σ H1 Q I1 q1
end
noncomputable def bN(K:W.Frag)(H:Hp)(a:Addr)(xs:List V):Prop :=
 Rd H a (.lst xs) \/
  ∃(o:Obj)(its:Array Value)(n:Nat),K.lookup a=some o/\o.cls=.type "list"/\o.dict=none/\o.data=.seq its n/\its.size<=sizeLine/\aQ xs its.toList
noncomputable def bw(K:W.Frag)(H:Hp)(a:Addr)(xs:List V):Prop :=
 Rd H a (.tup xs) \/
  ∃(o:Obj)(its:Array Value)(n:Nat),K.lookup a=some o/\o.cls=.type "tuple"/\o.dict=none/\o.data=.seq its n/\its.size<=sizeLine/\aQ xs its.toList
noncomputable def absV:Value->Option V
 | .none=>some .non
 | .bool b=>some (.bl b)
 | .int i _=>some (.int i)
 | .str x _=>some (.str x)
 | .bytes b _=>some (.byt b)
 | .float b _=>some (.flt b)
 | .ref a=>some (.ref a)
 | .type n=>some (.ty n)
 | _=>none
theorem RelV.abs{x:V}{u:Value}(r:RelV x u):absV u=some x:=by
 cases x with
 | non=>cases r;rfl
 | bl _=>cases r;rfl
 | int _=>obtain⟨t,rfl⟩:=r;rfl
 | str _=>obtain⟨t,rfl⟩:=r;rfl
 | byt _=>obtain⟨t,rfl⟩:=r;rfl
 | flt _=>obtain⟨t,rfl⟩:=r;rfl
 | ref _=>cases r;rfl
 | ty _=>cases r;rfl
theorem RelV.inj{x y:V}{u:Value}(r:RelV x u)(q:RelV y u):x=y:=JF (r.abs.symm.trans q.abs)
theorem aQ.inj{xs ys:List V}{us:List Value}(h:aQ xs us)(k:aQ ys us):xs=ys:=by
 induction h generalizing ys with
 | nil=>cases k;rfl
 | cons r t ih =>
  cases k with
  | cons r' t' =>rw[r.inj r',ih t']
section
variable{X:Cx}{pins:List (Addr×Obj)}{σ:St}{H:Hp}{s:Shared}{a:Addr}{xs ys:List V}
theorem bN.of{K:W.Frag}(h:H a=some (.lst xs)):bN K H a xs:=.inl (.inl h)
theorem bw.of{K:W.Frag}(h:H a=some (.tup xs)):bw K H a xs:=.inl (.inl h)
theorem Inv.list(I:Inv X pins σ H s)(h:bN X.K H a xs):∃its:List Value,aQ xs its/\PlainL s.heap a its.toArray/\xs.length<=sizeLine:=by
 rcases h with h|⟨o,its,n,hk,hc,hd,hs,hz,r⟩
 ·obtain⟨z,its,n,r,e⟩:=h.ok I.hok
  exact⟨its,r,⟨_,n,e,rfl,rfl,rfl⟩,z⟩
 ·refine⟨its.toList,r,⟨o,n,I.kIn a o hk,hc,hd,by simpa using hs⟩,?_⟩
  have e:=r.length;simp only[Jd]at e;omega
theorem Inv.tuple(I:Inv X pins σ H s)(h:bw X.K H a xs):∃its:List Value,aQ xs its/\IsTup s.heap a its.toArray/\xs.length<=sizeLine:=by
 rcases h with h|⟨o,its,n,hk,hc,_,hs,hz,r⟩
 ·obtain⟨z,its,r,p⟩:=h.ok I.hok
  exact⟨its,r,p.tup,z⟩
 ·refine⟨its.toList,r,⟨o,I.kIn a o hk,hc,n,by simpa using hs⟩,?_⟩
  have e:=r.length;simp only[Jd]at e;omega
theorem Inv.tupleD(I:Inv X pins σ H s)(h:bw X.K H a xs):∃o,s.heap.get? a=some o/\o.cls=.type "tuple"/\o.dict=none:=by
 rcases h with h|⟨o,its,n,hk,hc,hd,_⟩
 ·obtain⟨z,its,r,o,e,c,n,_,d⟩:=h.ok I.hok
  exact⟨o,e,c,d⟩
 ·exact⟨o,I.kIn a o hk,hc,hd⟩
theorem Inv.list_inj(I:Inv X pins σ H s)(h:bN X.K H a xs)(h' :bN X.K H a ys):xs=ys:=by
 obtain⟨its,r,⟨o,n,e,_,_,d⟩,_⟩:=I.list h;obtain⟨its',r',⟨o',n',e',_,_,d'⟩,_⟩:=I.list h';rw[e]at e';cases e';rw[d]at d'
 injection d' with d1 _
 have:its=its' :=by simpa using Je Array.toList d1
 subst this;exact r.inj r'
theorem Inv.tuple_inj(I:Inv X pins σ H s)(h:bw X.K H a xs)(h' :bw X.K H a ys):xs=ys:=by
 obtain⟨its,r,⟨o,e,_,n,d⟩,_⟩:=I.tuple h;obtain⟨its',r',⟨o',e',_,n',d'⟩,_⟩:=I.tuple h';rw[e]at e';cases e';rw[d]at d'
 injection d' with d1 _
 have:its=its' :=by simpa using Je Array.toList d1
 subst this;exact r.inj r'
end
noncomputable abbrev Cx.wish(X:Cx)(E:Value->Shared->Prop):Cx:={X with xe:=E}
noncomputable abbrev Cx.nox(X:Cx):Cx:=X.wish fun _ _=>False
theorem Cx.Ok.wish{X:Cx}(ok:X.Ok)(E:Value->Shared->Prop):(X.wish E).Ok :=
 ⟨ok.mod,ok.kind,ok.glob,ok.blt,ok.above,ok.inj,ok.has,ok.cab,ok.hd,ok.frames,ok.stk,ok.exf,ok.bs,ok.bsz,ok.noex,ok.exfs,ok.funs,ok.frf⟩
theorem Cx.Ok.unwish{X:Cx}{E:Value->Shared->Prop}(ok:(X.wish E).Ok):X.Ok :=
 ⟨ok.mod,ok.kind,ok.glob,ok.blt,ok.above,ok.inj,ok.has,ok.cab,ok.hd,ok.frames,ok.stk,ok.exf,ok.bs,ok.bsz,ok.noex,ok.exfs,ok.funs,ok.frf⟩
section
variable{X:Cx}{pins:List (Addr×Obj)}{σ:St}{H:Hp}{s:Shared}{E:Value->Shared->Prop}
theorem Inv.wish(I:Inv X pins σ H s)(E:Value->Shared->Prop):Inv (X.wish E) pins σ H s:=⟨I.ok.wish E,I.os,I.bare,I.base,I.loc,I.cell,I.free,I.freeC,I.pin,I.hok,I.len⟩
theorem Inv.unwish(I:Inv (X.wish E) pins σ H s):Inv X pins σ H s:=⟨I.ok.unwish,I.os,I.bare,I.base,I.loc,I.cell,I.free,I.freeC,I.pin,I.hok,I.len⟩
theorem SP.unwish{D:dN}{f:Flow}{s' :Shared}(h:SP (X.wish E) pins D f s'):SP X pins D f s' :=by
 cases f with
 | next=>obtain⟨σ',H',I,q⟩:=h;exact⟨σ',H',I.unwish,q⟩
 | brk=>obtain⟨σ',H',I,q⟩:=h;exact⟨σ',H',I.unwish,q⟩
 | cont=>obtain⟨σ',H',I,q⟩:=h;exact⟨σ',H',I.unwish,q⟩
 | ret u=>obtain⟨v,σ',H',I,r,q⟩:=h;exact⟨v,σ',H',I.unwish,r,q⟩
theorem pz.nox{st:List Stmt}{t:TS}(h:pz X.nox st t):pz X st t:=fun pins s σ H D I hw =>
 Kb (h pins s σ H D (I.wish _) hw) (fun _ _ q=>q.unwish) fun _ _ z=>False.elim z
end
section
variable{X:Cx}{st:Stmt}{aP:List Stmt}{t u:TS}{e:Expr}{te:TE}{pos:Pos}
noncomputable def BH:TS:=fun D σ H=>D.nx σ H
noncomputable def tSeq(t u:TS):TS:=fun D σ H=>t {D with nx:=u D} σ H
theorem sH:pz X [] BH:=fun _ _ σ H _ I h=>Lh ⟨σ,H,I,h⟩
theorem bZ(h1:PS X st t)(h2:pz X aP u):pz X (st::aP) (tSeq t u):=by
 intro pins s σ H D I h;refine wpAny_execs_cons (bD (h1 pins s σ H {D with nx:=u D} I h) fun f s1 q=> ?_);cases f with
 | next =>
  obtain⟨σ',H',I',q⟩:=q;exact h2 pins s1 σ' H' D I' q
 | ret v=>exact q
 | brk=>exact q
 | cont=>exact q
theorem bY(h1:PS X st t):pz X [st] t:=by
 intro pins s σ H D I h;refine wpAny_execs_cons (bD (h1 pins s σ H D I h) fun f s1 q=> ?_);cases f with
 | next=>exact Lh q
 | ret v=>exact q
 | brk=>exact q
 | cont=>exact q
noncomputable def CK:TS:=fun D σ H=>D.bk σ H
noncomputable def GF:TS:=fun D σ H=>D.ct σ H
theorem y8:PS X (.Pass pos) BH:=fun _ _ σ H _ I h=>wpAny_Pass ⟨σ,H,I,h⟩
theorem wB:PS X (.Break pos) CK:=fun _ _ σ H _ I h=>wpAny_Break ⟨σ,H,I,h⟩
theorem oP:PS X (.Continue pos) GF:=fun _ _ σ H _ I h=>wpAny_Continue ⟨σ,H,I,h⟩
theorem Inv.quiet{pins:List (Addr×Obj)}{σ:St}{H:Hp}{s:Shared}(I:Inv X pins σ H s):interactive X.env=false:=by simp[interactive,I.ok.kind]
noncomputable def GD(te:TE):TS:=fun D σ H=>te σ H fun _ H1=>D.nx σ H1
theorem y9(he:PE X e te)(hs:swapsWith e none pos.line X.env=pure false:=by rfl):PS X (.Expr e pos) (GD te):=by
 intro pins s σ H D I h;exact wpAny_Expr_any (bD (he pins s σ H _ I h) fun v s1 ⟨x,H1,I1,r1,q1⟩=>⟨σ,H1,I1,q1⟩) I.quiet hs
noncomputable def tRet(te:TE):TS:=fun D σ H=>te σ H D.rt
theorem ji(he:PE X e te):PS X (.Return (some e) pos) (tRet te):=by
 intro pins s σ H D I h;exact wpAny_Return_some (bD (he pins s σ H _ I h) fun v s1 ⟨x,H1,I1,r1,q1⟩=>⟨x,σ,H1,I1,r1,q1⟩)
noncomputable def Fz:TS:=fun D _ H=>D.rt .non H
theorem y7:PS X (.Return none pos) Fz:=fun _ _ σ H _ I h=>wpAny_Return_none ⟨.non,σ,H,I,rfl,h⟩
noncomputable def tIfS(c:TT)(t u:TS):TS:=fun D σ H=>c σ H fun b H1=>if b=true then t D σ H1 else u D σ H1
theorem sK{c:Expr}{a b:List Stmt}{tc:TT}(hc:PT X c tc)(ha:pz X a t)(hb:pz X b u):PS X (.If c a b pos) (tIfS tc t u):=by
 intro pins s σ H D I h;refine wpAny_If (bD (hc pins s σ H _ I h) fun d s1 hpq=> ?_);obtain⟨H1,I1,q1⟩:=hpq;cases d with
 | true=>exact ha pins s1 σ H1 D I1 q1
 | false=>exact hb pins s1 σ H1 D I1 q1
end
noncomputable abbrev TG:=V->St->Hp->(St->Hp->Prop)->Prop
noncomputable abbrev Ei:=List V->St->Hp->(St->Hp->Prop)->Prop
noncomputable def PG(X:Cx)(target:Expr)(t:TG):Prop :=
 ∀(pins:List (Addr×Obj))(s:Shared)(σ:St)(H:Hp)(v:V)(u:Value)(Q:St->Hp->Prop),Inv X pins σ H s->RelV v u->t v σ H Q ->
  wpAny (model X.prog X.w) X.A (assign target X.env u) (fun _ s' =>∃σ' H',Inv X pins σ' H' s' /\Q σ' H') X.xe s
noncomputable def IV(X:Cx)(ts:List Expr)(t:Ei):Prop :=
 ∀(pins:List (Addr×Obj))(s:Shared)(σ:St)(H:Hp)(vs:List V)(us:List Value)(Q:St->Hp->Prop),Inv X pins σ H s->aQ vs us->t vs σ H Q ->
  wpAny (model X.prog X.w) X.A (assignInOrder ((assignEach ts X.env).map (·.2)) us) (fun _ s' =>∃σ' H',Inv X pins σ' H' s' /\Q σ' H') X.xe s
noncomputable abbrev TIp:=V->V->Hp->VK->Prop
noncomputable def PIp(X:Cx)(op:Operator)(t:TIp):Prop :=
 ∀(pins:List (Addr×Obj))(s:Shared)(σ:St)(H:Hp)(x y:V)(v u:Value)(Q:VK),Inv X pins σ H s->RelV x v->RelV y u->t x y H Q ->
  wpAny (model X.prog X.w) X.A (inplaceOp op v u) (EP X pins σ Q) X.xe s
section
variable{X:Cx}{pos:Pos}
noncomputable def pG(i:Nat):TG:=fun v σ H Q=>Q (σ.set i (some v)) H
theorem bc{i:Nat}{x:Str}(hN:X.N.Nodup)(hi:X.N[i]? =some x)(hx:Loc X.env.scope x)(hf:X.fn x=true\/X.env.scope.names.lookup x=some .local:=by first|exact .inl rfl|exact .inr rfl|assumption):PG X (.Name x pos) (pG i):=by
 intro pins s σ H v u Q I r h;exact wpAny_assign_Name (ja I hN hi hx r (fun s' I' =>⟨_,H,I',h⟩) hf)
noncomputable def gNil:Ei:=fun vs σ H Q=>vs=[]/\Q σ H
noncomputable def HU(t:TG)(u:Ei):Ei:=fun vs σ H Q=>∃v r,vs=v::r/\t v σ H fun σ' H' =>u r σ' H' Q
theorem i8:IV X [] gNil:=by
 intro pins s σ H vs us Q I r h;obtain⟨e,h⟩:=h;subst e;cases r;exact assignInOrder_nil ⟨σ,H,I,h⟩
theorem cH{e:Expr}{es:List Expr}{t:TG}{u:Ei}(h1:PG X e t)(h2:IV X es u)
  (hs:(assignEach (e::es) X.env).map (·.2)=assign e X.env::(assignEach es X.env).map (·.2):=by rfl):IV X (e::es) (HU t u):=by
 intro pins s σ H vs us Q I r h;obtain⟨v,vr,e1,h⟩:=h;subst e1;cases r with
 | cons r rr =>
  rw[hs];refine assignInOrder_cons (bD (h1 pins s σ H _ _ _ I r h) fun _ s1 hpq=> ?_);obtain⟨σ1,H1,I1,q1⟩:=hpq;exact h2 pins s1 σ1 H1 _ _ Q I1 rr q1
noncomputable def gTup(K:W.Frag)(n:Nat)(t:Ei):TG:=fun v σ H Q=>∃a xs,v=.ref a/\bw K H a xs/\xs.length=n/\t xs σ H Q
theorem m6{es:List Expr}{k:Nat}{t:Ei}{n:Nat}(hc:X.calm=true)(h:IV X es t)
  (hn:(assignEach es X.env).length=n:=by rfl) (hst:(assignEach es X.env).findIdx? (·.1)=none:=by rfl):PG X (.Tuple es k pos) (gTup X.K n t):=by
 intro pins s σ H v u Q I r hw;obtain⟨a,xs,e1,hq,hl,hw⟩:=hw;subst e1;cases r;obtain⟨its,rv,ht,hz⟩:=I.tuple hq;refine assign_Tuple_tuple (I.ok.hd hc) ht (by simp[hn,<-hl,rv.length]) hst fun h' hx=> ?_;have I1:Inv X pins σ H {s with heap:=h'}:=I.kept (t' :=s.toks) fun b o e=>hx b o (JM (Iz e)) e;exact h pins _ σ H xs _ Q I1 (by simpa using rv) hw
noncomputable def GI(te:TE)(g:TG):TS:=fun D σ H=>te σ H fun x H1=>g x σ H1 D.nx
theorem cG{i:Nat}{x:Str}{e:Expr}{te:TE}{pos' :Pos}(hN:X.N.Nodup)(hi:X.N[i]? =some x)(hx:Loc X.env.scope x)(he:PE X e te)(hs:swapsWith e (some (.Name x pos')) pos.line X.env=pure false:=by rfl)(hf:X.fn x=true\/X.env.scope.names.lookup x=some .local:=by first|exact .inl rfl|exact .inr rfl|assumption) :
  PS X (.Assign [.Name x pos'] e pos) (GI te (pG i)):=by
 intro pins s σ H D I h;refine wpAny_Assign_Name (bD (he pins s σ H _ I h) fun v s1 ⟨y,H1,I1,r1,q1⟩=> ?_) hs;exact ja I1 hN hi hx r1 (fun s2 I2=>⟨_,H1,I2,q1⟩) hf
noncomputable def tAug(i:Nat)(te:TE)(ti:TIp):TS:=fun D σ H=>∃x,σ[i]? =some (some x)/\te σ H fun y H1=>ti x y H1 fun z H2=>D.nx (σ.set i (some z)) H2
theorem Ci{i:Nat}{x:Str}{e:Expr}{te:TE}{op:Operator}{ti:TIp}{pos' :Pos}(hN:X.N.Nodup)(hi:X.N[i]? =some x)(hx:Loc X.env.scope x)(he:PE X e te)(ho:PIp X op ti)(hf:X.fn x=true\/X.env.scope.names.lookup x=some .local:=by first|exact .inl rfl|exact .inr rfl|assumption) :
  PS X (.AugAssign (.Name x pos') op e pos) (tAug i te ti):=by
 intro pins s σ H D I h;obtain⟨v,e1,h⟩:=h;obtain⟨m,hn,hl⟩:=I.loc;have Bz:FV X.env.scope x:=by rcases hx with k|k;exact .inl k;exact .inr (.inl k)
 obtain⟨u,r,l⟩:=hl i x v hi e1 Bz;refine wpAny_AugAssign_Name ?_;have go:wpAny (model X.prog X.w) X.A (eval e X.env) (fun w s₂=>wpAny (model X.prog X.w) X.A (inplaceOp op u w) (fun r s₃=>wpAny (model X.prog X.w) X.A (storeName X.env x r) (fun _=>SP X pins D .next) X.xe s₃) X.xe s₂) X.xe s:=by
  refine bD (he pins s σ H _ I h) fun w s1 hpq=> ?_;obtain⟨y,H1,I1,r1,q1⟩:=hpq;refine bD (ho pins s1 σ H1 v y u w _ I1 r r1 q1) fun z s2 hpq=> ?_;obtain⟨zv,H2,I2,r2,q2⟩:=hpq;exact ja I2 hN hi hx r2 (fun s3 I3=>⟨_,H2,I3,q2⟩) hf
 rcases l with⟨hk,hm⟩|⟨hk,c,hc,hcell⟩
 ·exact wpAny_loadName_local I.ok.kind hk hn hm go
 ·rcases hk with hk|hk
  ·exact wpAny_loadName_cell I.ok.kind hk hc hcell go
  ·rcases hx with k|k
   ·have:X.env.scope.names.lookup x=some .free:=hk
    rw[k]at this;cases this
   ·have:X.env.scope.names.lookup x=some .free:=hk
    rw[k]at this;cases this
noncomputable def ipI(f:Int->Int->Int):TIp:=fun x y H Q=>∃i j,x=.int i/\y=.int j/\Q (.int (f i j)) H
theorem DU:PIp X .Add (ipI fun i j=>i+j):=by
 intro pins s σ H x y v u Q I r1 r2 h;obtain⟨i,j,e1,e2,q⟩:=h;subst e1;subst e2;obtain⟨t,rfl⟩:=r1;obtain⟨t',rfl⟩:=r2;exact iadd_int ⟨.int _,H,I.tok _,⟨_,rfl⟩,q⟩
theorem DT:PIp X .Sub (ipI fun i j=>i-j):=by
 intro pins s σ H x y v u Q I r1 r2 h;obtain⟨i,j,e1,e2,q⟩:=h;subst e1;subst e2;obtain⟨t,rfl⟩:=r1;obtain⟨t',rfl⟩:=r2;exact isub_int ⟨.int _,H,I.tok _,⟨_,rfl⟩,q⟩
noncomputable def CD(c:TT)(tb:TS):TS:=fun D σ H=>∃W:Nat->St->Hp->Prop,(∃m,W m σ H)/\∀m σ H,W m σ H ->
 c σ H fun b H1=>if b=true then∃N:St->Hp->Prop,(∀σ' H',N σ' H' ->∃m',m' <m/\W m' σ' H')/\tb {D with nx:=N,ct:=N,bk:=D.nx} σ H1 else D.nx σ H1
theorem v9{c:Expr}{body:List Stmt}{tc:TT}{tb:TS}(hp:PassesOwn (model X.prog X.w) X.A X.env X.xe)(hc:PT X c tc)(hb:pz X body tb):PS X (.While c body [] pos) (CD tc tb):=by
 intro pins s σ H D I h;obtain⟨W,⟨m0,w0⟩,turn⟩:=h;refine wpAny_While (codeAny_whileLoop (fun n s' =>∃σ' H',Inv X pins σ' H' s' /\W n σ' H') ?_ m0 ⟨σ,H,I,w0⟩);rintro n s1 ⟨σ1,H1,I1,w1⟩;refine Kv hp (bD (hc pins s1 σ1 H1 _ I1 (turn n σ1 H1 w1)) fun b s2 hpq=> ?_);obtain⟨H2,I2,q2⟩:=hpq;cases b with
 | true =>
  obtain⟨N,hN,q2⟩:=q2;rw[Ix rfl];refine Kv hp (bD (hb pins s2 σ1 H2 _ I2 q2) fun f s3 q3=> ?_);cases f with
  | next =>
   obtain⟨σ3,H3,I3,n3⟩:=q3;obtain⟨m',hm,w3⟩:=hN σ3 H3 n3;exact⟨m',hm,σ3,H3,I3,w3⟩
  | cont =>
   obtain⟨σ3,H3,I3,n3⟩:=q3;obtain⟨m',hm,w3⟩:=hN σ3 H3 n3;exact⟨m',hm,σ3,H3,I3,w3⟩
  | brk=>exact q3
  | ret v=>exact q3
 | false =>
  rw[Iq Ir];exact Lh ⟨σ1,H2,I2,q2⟩
end
structure It where
 go:Nat->Hp->Prop
 yld:Nat->Hp->V->Hp->Prop
 stop:Nat->Hp->Prop
noncomputable def iZ(X:Cx)(pins:List (Addr×Obj))(H:Hp)(b:Addr):Prop :=
 H b=none/\b≠X.env.locals/\b∉X.fs/\(b∈X.ex\/X.s₀.heap.objs.size<=b)/\(∀x c,X.env.cells.lookup x=some c->c≠b)/\∀p∈X.pn++pins,p.1≠b
theorem Inv.fpOk{X:Cx}{pins:List (Addr×Obj)}{σ:St}{H H' :Hp}{s:Shared}{b:Addr}(I:Inv X pins σ H s)(hb:s.heap.objs.size<=b)(hn:H' b=none):iZ X pins H' b:=by
 refine⟨hn,KM (JT I.lt hb),I.nofs hb,.inr (JO I.sz hb),fun x c e z=> ?_,fun p hp z=> ?_⟩
 ·obtain⟨v,q⟩:=I.cell x c e
  exact absurd (JT q.lt (by rw[z];exact hb)) (KP _)
 ·exact absurd (JT (Iz (I.pin p hp).1) (by rw[z];exact hb)) (KP _)
structure px(P:Program)(w:World)(K:W.Frag)(tg:Expr)(J:It)(fp:List Addr)(it:Addr)(tn:Nat->Heap->Prop):Prop where
 mem:it∈fp
 obj:∀i h,tn i h->∀b∈fp,∃o,h.get? b=some o/\∀v,o.data≠.cell v
 keep:∀i h h',tn i h->(∀b∈fp,∀o,h.get? b=some o->h'.get? b=some o)->tn i h'
 item:∀(X:Cx),X.prog=P->X.w=w->X.K=K->X.calm=true->∀(i:Nat)(pins:List (Addr×Obj))(s:Shared)(σ:St)(H:Hp)(E:Value->Shared->Prop),Inv X pins σ H s->(∀b∈fp,iZ X pins H b)->tn i s.heap->J.go i H ->
  wpAny (model P w) X.A (pyNext (.ref it)) (fun r s1=>∃u,r=some u /\
   wpAny (model P w) X.A (letOwnedTupleGo tg (.ref it) u) (fun _ s2=>∃x H',Inv X pins σ H' s2/\RelV x u/\J.yld i H x H' /\tn (i+1) s2.heap/\∀b∈fp,H' b=none) E s1) E s
 done:∀(X:Cx),X.prog=P->X.w=w->X.K=K->X.calm=true->∀(i:Nat)(pins:List (Addr×Obj))(s:Shared)(σ:St)(H:Hp)(E:Value->Shared->Prop),Inv X pins σ H s->(∀b∈fp,iZ X pins H b)->tn i s.heap->J.stop i H ->
  wpAny (model P w) X.A (pyNext (.ref it)) (fun r s1=>r=none/\Inv X pins σ H s1) E s
 self:∀(A:Around)(i:Nat)(s:Shared)(Q:Value->Shared->Prop)(E:Value->Shared->Prop),tn i s.heap->Q (.ref it) s->wpAny (model P w) A (pyIter (.ref it)) Q E s
noncomputable abbrev TI:=St->Hp->(It->Hp->Prop)->Prop
noncomputable def PIE(X:Cx)(pins:List (Addr×Obj))(σ:St)(tg:Expr)(R:It->Hp->Prop)(itv:Value)(s2:Shared):Prop :=
 ∃(it:Addr)(fp:List Addr)(tn:Nat->Heap->Prop)(J:It)(H' :Hp),itv=.ref it/\Inv X pins σ H' s2/\px X.prog X.w X.K tg J fp it tn/\tn 0 s2.heap/\(∀b∈fp,iZ X pins H' b)/\R J H'
noncomputable def PI(X:Cx)(tg iter:Expr)(wi:TI):Prop :=
 ∀(pins:List (Addr×Obj))(s:Shared)(σ:St)(H:Hp)(R:It->Hp->Prop),Inv X pins σ H s->wi σ H R ->
  wpAny (model X.prog X.w) X.A (eval iter X.env) (fun v s1=>wpAny (model X.prog X.w) X.A (pyIter v) (PIE X pins σ tg R) X.xe s1) X.xe s
theorem sr{M:Model}{A:Around}{E:Value->Shared->Prop}{s:Shared}{tg:Expr}{it:Addr}{u:Value}{o:Obj}{n:String}{vs:Array Value}{Q:Unit->Shared->Prop}(ho:s.heap.get? it=some o)(hc:o.cls=.type n)(hd:o.data=.fields vs)
    (hn:["enumerate","zip","dict_itemiterator","dict_reverseitemiterator","odict_iterator","itertools.zip_longest","itertools.pairwise"].contains n=false) (hQ:Q () s):wpAny M A (letOwnedTupleGo tg (.ref it) u) Q E s:=by
  unfold letOwnedTupleGo
  cases tg<;>first
    | exact JB hQ
    | (cases u<;>first
        | exact JB hQ
        | (refine Ij (wpAny_load ho ?_)
           rw[hc,hd];show wpAny M A (if(["enumerate","zip","dict_itemiterator","dict_reverseitemiterator","odict_iterator","itertools.zip_longest","itertools.pairwise"].contains n&&vs[0]? ==some (rawInt _))=true then _ else _) Q E s;rw[Iq (by intro h;rw[hn,LF]at h;cases h)];exact JB hQ))
noncomputable def FJ(K:W.Frag)(a:Addr):It :=
 ⟨fun i H=>∃xs x,bN K H a xs/\xs[i]? =some x,fun i H x H' =>H' =H/\∀xs,bN K H a xs->xs[i]? =some x,fun i H=>∃xs,bN K H a xs/\xs.length<=i⟩
noncomputable def Itt(K:W.Frag)(a:Addr):It :=
 ⟨fun i H=>∃xs x,bw K H a xs/\xs[i]? =some x,fun i H x H' =>H' =H/\∀xs,bw K H a xs->xs[i]? =some x,fun i H=>∃xs,bw K H a xs/\xs.length<=i⟩
noncomputable def Ic(lo:Int)(n:Nat):It:=⟨fun i _=>i<n,fun i H x H' =>H' =H/\x=.int (lo+i),fun i _=>n<=i⟩
theorem tm{P:Program}{w:World}{K:W.Frag}{tg:Expr}(a it:Addr):px P w K tg (FJ K a) [it] it (fun i h=>h.IsListIter it a i) where
 mem:=by simp
 obj:=fun i h st b hb=>by
  have e:b=it:=by simpa using hb
  subst e;obtain⟨o,e,c,d⟩:=st;exact⟨o,e,fun v z=>by rw[d]at z;cases z⟩
 keep:=fun i h h' st k=>st.at fun o e=>k it (by simp) o e
 item:=by
  intro X hP hw hK hc i pins s σ H E I hf st hg;subst hP hw hK;obtain⟨xs,x,hq,hx⟩:=hg;obtain⟨its,rv,p,hz⟩:=I.list hq;obtain⟨u,hu,ru⟩:=rv.get hx;obtain⟨f0,f1,f2,f3,f4,f5⟩:=hf it (by simp);refine wpAny_pyNext_list_item st p.isList (x:=u) (by simpa using hu) fun h' st' sb=> ?_;have I1:Inv X pins σ H {s with heap:=h'}:=I.turned (t' :=s.toks) (fun b o hb e=>(sb.2 b hb).trans e) f0 f1 f3 f4 f5;obtain⟨o,e,c,d⟩:=id st';exact⟨u,rfl,sr (s:={s with heap:=h'}) e c d (by decide) ⟨x,H,I1,ru,⟨rfl,fun ys hy=>by rw[I.list_inj hy hq];exact hx⟩,st',fun b hb=>(hf b hb).1⟩⟩
 done:=by
  intro X hP hw hK hc i pins s σ H E I hf st hg;subst hP hw hK;obtain⟨xs,hq,hx⟩:=hg;obtain⟨its,rv,p,hz⟩:=I.list hq;obtain⟨f0,f1,f2,f3,f4,f5⟩:=hf it (by simp);have hl:=rv.length;exact wpAny_pyNext_list_end (I.ok.hd hc) st p.isList (by simp;omega) fun h' eb=>⟨rfl,I.turned (t' :=s.toks) (fun b o hb e=>eb b o hb e) f0 f1 f3 f4 f5⟩
 self:=fun _ _ _ _ _ st h=>wpAny_pyIter_listiter st h
theorem qC{P:Program}{w:World}{K:W.Frag}{tg:Expr}(a it:Addr):px P w K tg (Itt K a) [it] it (fun i h=>h.IsTupleIter it a i) where
 mem:=by simp
 obj:=fun i h st b hb=>by
  have e:b=it:=by simpa using hb
  subst e;obtain⟨o,e,c,d⟩:=st;exact⟨o,e,fun v z=>by rw[d]at z;cases z⟩
 keep:=fun i h h' st k=>st.at fun o e=>k it (by simp) o e
 item:=by
  intro X hP hw hK hc i pins s σ H E I hf st hg;subst hP hw hK;obtain⟨xs,x,hq,hx⟩:=hg;obtain⟨its,rv,p,hz⟩:=I.tuple hq;obtain⟨u,hu,ru⟩:=rv.get hx;obtain⟨f0,f1,f2,f3,f4,f5⟩:=hf it (by simp);refine wpAny_pyNext_tuple_item st (show s.heap.IsTuple a its.toArray from p) (x:=u) (by simpa using hu) fun h' st' sb=> ?_;have I1:Inv X pins σ H {s with heap:=h'}:=I.turned (t' :=s.toks) (fun b o hb e=>(sb.2 b hb).trans e) f0 f1 f3 f4 f5;obtain⟨o,e,c,d⟩:=id st';exact⟨u,rfl,sr (s:={s with heap:=h'}) e c d (by decide) ⟨x,H,I1,ru,⟨rfl,fun ys hy=>by rw[I.tuple_inj hy hq];exact hx⟩,st',fun b hb=>(hf b hb).1⟩⟩
 done:=by
  intro X hP hw hK hc i pins s σ H E I hf st hg;subst hP hw hK;obtain⟨xs,hq,hx⟩:=hg;obtain⟨its,rv,p,hz⟩:=I.tuple hq;obtain⟨f0,f1,f2,f3,f4,f5⟩:=hf it (by simp);have hl:=rv.length;exact wpAny_pyNext_tuple_end (I.ok.hd hc) st (show s.heap.IsTuple a its.toArray from p) (by simp;omega) fun h' eb=>⟨rfl,I.turned (t' :=s.toks) (fun b o hb e=>eb b o hb e) f0 f1 f3 f4 f5⟩
 self:=fun _ _ _ _ _ st h=>wpAny_pyIter_tupleiter st h
theorem qD{P:Program}{w:World}{K:PySem.W.Frag}{tg:Expr}(it:Addr)(lo:Int)(n:Nat):px P w K tg (Ic lo n) [it] it (fun i h=>IsRangeIter h it (lo+(i:Nat)*1) ((n:Int)-(i:Nat)) 1) where
 mem:=by simp
 obj:=fun i h st b hb=>by
  have e:b=it:=by simpa using hb
  subst e;exact⟨_,st,fun v z=>by
   have z' :Data.fields _=Data.cell v:=z;cases z'⟩
 keep:=fun i h h' st k=>k it (by simp) _ st
 item:=by
  intro X hP hw hK hc i pins s σ H E I hf st hg;subst hP hw hK;obtain⟨f0,f1,f2,f3,f4,f5⟩:=hf it (by simp);have W:=Walks.range (prog:=X.prog) (w:=X.w) (I.ok.hd hc) it lo 1 n;refine W.item i s _ _ hg st fun v h' tk hv st' kk=> ?_;obtain⟨t,rfl⟩:=hv;have I1:Inv X pins σ H {s with heap:=h',toks:=tk}:=I.turned (fun b o hb e=>kk b o (by simpa using hb) e) f0 f1 f3 f4 f5;refine⟨_,rfl,sr (s:={s with heap:=h',toks:=tk}) (n:="range_iterator") st' rfl rfl (by decide) ⟨.int (lo+i),H,I1,⟨t,?_⟩,⟨rfl,rfl⟩,st',fun b hb=>(hf b hb).1⟩⟩;rw[Int.mul_one]
 done:=by
  intro X hP hw hK hc i pins s σ H E I hf st hg;subst hP hw hK;obtain⟨f0,f1,f2,f3,f4,f5⟩:=hf it (by simp);exact wpAny_pyNext_range_end (I.ok.hd hc) st (by have:n<=i:=hg;omega) fun h' eb=>⟨rfl,I.turned (t' :=s.toks) (fun b o hb e=>eb b o hb e) f0 f1 f3 f4 f5⟩
 self:=fun _ _ _ _ _ st h=>wpAny_pyIter_rangeiter st h
section
variable{X:Cx}{tg:Expr}
noncomputable def HQ(K:W.Frag)(tl:TE):TI:=fun σ H R=>tl σ H fun x H1=>∃a,x=.ref a/\(∃xs,bN K H1 a xs)/\R (FJ K a) H1
noncomputable def iTup(K:W.Frag)(tl:TE):TI:=fun σ H R=>tl σ H fun x H1=>∃a,x=.ref a/\(∃xs,bw K H1 a xs)/\R (Itt K a) H1
theorem gZ{l:Expr}{tl:TE}(hl:PE X l tl):PI X tg l (HQ X.K tl):=by
 intro pins s σ H R I h;refine bD (hl pins s σ H _ I h) fun v s1 hpq=> ?_;obtain⟨x,H1,I1,r1,q1⟩:=hpq;obtain⟨a,e,⟨xs,hq⟩,q⟩:=q1;subst e;cases r1;obtain⟨its,rv,p,hz⟩:=I1.list hq;refine wpAny_pyIter_list p.isList ?_;refine⟨s1.heap.objs.size,[s1.heap.objs.size],_,_,H1,rfl,I1.kept (t' :=s1.toks) fun b o e=>Il _ e,tm a _,⟨_,JC _ rfl,rfl,rfl⟩,fun b hb=> ?_,q⟩;have e:b=s1.heap.objs.size:=by simpa using hb
 subst e;exact I1.fpOk (Io _) (I1.hok.fresh (Io _))
theorem wJ{l:Expr}{tl:TE}(hl:PE X l tl):PI X tg l (iTup X.K tl):=by
 intro pins s σ H R I h;refine bD (hl pins s σ H _ I h) fun v s1 hpq=> ?_;obtain⟨x,H1,I1,r1,q1⟩:=hpq;obtain⟨a,e,⟨xs,hq⟩,q⟩:=q1;subst e;cases r1;obtain⟨its,rv,p,hz⟩:=I1.tuple hq;refine Lr (show s1.heap.IsTuple a its.toArray from p) ?_;refine⟨s1.heap.objs.size,[s1.heap.objs.size],_,_,H1,rfl,I1.kept (t' :=s1.toks) fun b o e=>Il _ e,qC a _,⟨_,JC _ rfl,rfl,rfl⟩,fun b hb=> ?_,q⟩;have e:b=s1.heap.objs.size:=by simpa using hb
 subst e;exact I1.fpOk (Io _) (I1.hok.fresh (Io _))
theorem oM{pins:List (Addr×Obj)}{σ:St}{H:Hp}{s:Shared}{R:It->Hp->Prop}{E:Value->Shared->Prop}{lo hi:Int}{t u v:Tok}{tk:Nat}(I:Inv X pins σ H s)(h1: -(2^62)<=lo)(h2:lo<2^62)(h3: -(2^62)<=hi)(h4:hi<2^62)
  (q:R (Ic lo (hi-lo).toNat) H):wpAny (model X.prog X.w) X.A (pyIter (.ref s.heap.objs.size)) (PIE X pins σ tg R) E {s with heap:=s.heap.push {cls:=.type "range",data:=.fields #[.int lo t,.int hi u,.int 1 v]},toks:=tk}:=by
 refine wpAny_pyIter_range (IsRange.new ..) (small_one h1 h2 h3 h4) ?_;have I1:Inv X pins σ H {s with heap:=s.heap.push {cls:=.type "range",data:=.fields #[.int lo t,.int hi u,.int 1 v]},toks:=tk}:=I.kept fun b o e=>Il _ e
 refine⟨(s.heap.push {cls:=.type "range",data:=.fields #[.int lo t,.int hi u,.int 1 v]}).objs.size,[(s.heap.push {cls:=.type "range",data:=.fields #[.int lo t,.int hi u,.int 1 v]}).objs.size],_,_,H,rfl,
  I1.kept (t' :=tk) fun b o e=>Il _ e,qD _ lo (hi-lo).toNat,?_,fun b hb=> ?_,q⟩
 ·have e1:lo+((0:Nat):Int)*1=lo:=by simp
  have e2:(((hi-lo).toNat:Nat):Int)-((0:Nat):Int)=Builtin.Range.rangeSize lo hi 1:=by rw[rangeSize_one];split<;>omega
  show IsRangeIter _ _ (lo+((0:Nat):Int)*1) ((((hi-lo).toNat:Nat):Int)-((0:Nat):Int)) 1;rw[e1,e2];exact JC _ rfl
 ·have e:b=(s.heap.push {cls:=.type "range",data:=.fields #[.int lo t,.int hi u,.int 1 v]}).objs.size:=by simpa using hb
  subst e;exact I1.fpOk (Io _) (I1.hok.fresh (Io _))
noncomputable def HP(ta:TA):TI:=fun σ H R=>ta σ H fun vs H1=>∃j:Int,vs=[.int j]/\ -(2^62)<=j/\j<2^62/\R (Ic 0 j.toNat) H1
noncomputable def HN(ta:TA):TI:=fun σ H R=>ta σ H fun vs H1=>∃i j:Int,vs=[.int i,.int j]/\(-(2^62)<=i/\i<2^62/\ -(2^62)<=j/\j<2^62)/\R (Ic i (j-i).toNat) H1
theorem uH{a:Expr}{ta:TA}{p pos:Pos}(hg:Gl X "range")(hm:X.mg "range"=none)(ha:PA X [a] ta)(hs:starEach [a] X.env=[(false,eval a X.env)]:=by rfl):PI X tg (.Call (.Name "range" p) [a] [] pos) (HP ta):=by
 intro pins s σ H R I h;refine Call_ (cI I hg hm boot_range (JZ (bD (ha pos pins s σ H _ I h) fun us s1 ⟨vs,H1,I1,r1,q1⟩=> ?_) hs rfl));obtain⟨j,e,q1,q2,q⟩:=q1;subst e;cases r1 with
 | cons r rr =>
  cases rr;obtain⟨t,rfl⟩:=r;exact call_range_1 (oM I1 (by omega) (by omega) q1 q2 (by simpa using q))
theorem uG{a b:Expr}{ta:TA}{p pos:Pos}(hg:Gl X "range")(hm:X.mg "range"=none)(ha:PA X [a,b] ta)(hs:starEach [a,b] X.env=[(false,eval a X.env),(false,eval b X.env)]:=by rfl)(hs2:starEach [b] X.env=[(false,eval b X.env)]:=by rfl) :
  PI X tg (.Call (.Name "range" p) [a,b] [] pos) (HN ta):=by
 intro pins s σ H R I h;refine Call_ (cI I hg hm boot_range (JZ (bD (ha pos pins s σ H _ I h) fun us s1 ⟨vs,H1,I1,r1,q1⟩=> ?_) (by rw[hs,hs2]) (by rw[hs2];rfl)));obtain⟨i,j,e,⟨q1,q2,q3,q4⟩,q⟩:=q1;subst e;cases r1 with
 | cons r rr =>
  cases rr with
  | cons r' rr =>
   cases rr;obtain⟨t,rfl⟩:=r;obtain⟨t',rfl⟩:=r';exact call_range_2 (oM I1 q1 q2 q3 q4 q)
noncomputable def tFor(wi:TI)(g:TG)(tb:TS):TS:=fun D σ H=>wi σ H fun J H1=>∃W:Nat->Nat->St->Hp->Prop,(∃m,W 0 m σ H1)/\∀i m σ H,W i m σ H ->
 (J.stop i H/\D.nx σ H)\/(J.go i H/\∃N:St->Hp->Prop,(∀σ' H',N σ' H' ->∃m',m' <m/\W (i+1) m' σ' H')/\∀x H',J.yld i H x H' ->g x σ H' fun σ2 H2=>tb {D with nx:=N,ct:=N,bk:=D.nx} σ2 H2)
noncomputable def jl(fp:List Addr)(h:Heap):List (Addr×Obj):=fp.filterMap fun b=>(h.get? b).map fun o=>(b,o)
theorem dk{fp:List Addr}{h:Heap}{b:Addr}{o:Obj}(hb:b∈fp)(e:h.get? b=some o):(b,o)∈jl fp h:=List.mem_filterMap.mpr ⟨b,hb,by rw[e];rfl⟩
theorem uJ{fp:List Addr}{h:Heap}{p:Addr×Obj}(hp:p∈jl fp h):p.1∈fp/\h.get? p.1=some p.2:=by
 obtain⟨b,hb,e⟩:=List.mem_filterMap.mp hp;cases q:h.get? b with
 | none=>rw[q]at e;cases e
 | some o =>
  rw[q]at e;have e' :(b,o)=p:=JF e;subst e';exact⟨hb,q⟩
theorem Inv.pinned{pins:List (Addr×Obj)}{σ:St}{H:Hp}{s:Shared}{fp:List Addr}(I:Inv X pins σ H s)(hf:∀b∈fp,iZ X pins H b)(ho:∀b∈fp,∃o,s.heap.get? b=some o/\∀v,o.data≠.cell v):Inv X (pins++jl fp s.heap) σ H s :=
 I.pins_of fun p hp=>(Jw.mp hp).elim (fun z=>I.pin p (Ji _ z)) fun z=>by
  obtain⟨hb,e⟩:=uJ z;obtain⟨f0,f1,f2,_⟩:=hf p.1 hb;obtain⟨o,e',d⟩:=ho p.1 hb;rw[e]at e';cases e';exact⟨e,f0,f1,f2,d⟩
theorem Inv.unpinned{pins pl:List (Addr×Obj)}{σ:St}{H:Hp}{s:Shared}(I:Inv X (pins++pl) σ H s):Inv X pins σ H s:=I.pins_of fun p hp=>I.pin p (Ji _ (Kc _ hp))
theorem jj{iter:Expr}{body:List Stmt}{wi:TI}{g:TG}{tb:TS}{pos:Pos}(hp:PassesOwn (model X.prog X.w) X.A X.env X.xe)(hc:X.calm=true)(hi:PI X tg iter wi)(hg:PG X tg g)(hb:pz X body tb)
  (hs:∀x,foldedSetIterable iter X.env x=pure x:=by intro _;rfl):PS X (.For tg iter body [] pos) (tFor wi g tb):=by
 intro pins s σ H D I h;refine wpAny_For (bD (hi pins s σ H _ I h) fun v s1 h1=>bD h1 fun itv s2 h2=> ?_) hs;obtain⟨it,fp,tn,J,H2,e,I2,T,st2,f2,W,⟨m0,w0⟩,turn⟩:=h2;subst e;have stat:∀{H' :Hp},(∀b∈fp,H' b=none)->∀b∈fp,iZ X pins H' b:=fun hn b hb=>⟨hn b hb,(f2 b hb).2⟩;refine codeAny_forLoop_any (fun n s' =>∃i σ' H',Inv X pins σ' H' s' /\tn i s'.heap/\(∀b∈fp,H' b=none)/\W i n σ' H') ?_ m0 ⟨0,σ,H2,I2,st2,fun b hb=>(f2 b hb).1,w0⟩;rintro n s3 ⟨i,σ3,H3,I3,st3,fr3,w3⟩
 rcases turn i n σ3 H3 w3 with⟨stop,qn⟩|⟨go,N,hN,step⟩
 ·refine Kv hp (bD (T.done X rfl rfl rfl hc i pins s3 σ3 H3 X.xe I3 (stat fr3) st3 stop) fun r s4 hpq=> ?_)
  obtain⟨hr,I4⟩:=hpq;subst hr;exact Lh ⟨σ3,H3,I4,qn⟩
 ·refine Kv hp (bD (T.item X rfl rfl rfl hc i pins s3 σ3 H3 X.xe I3 (stat fr3) st3 go) fun r s4 hpq=> ?_)
  obtain⟨u,hr,h4⟩:=hpq;subst hr;refine Kv hp (bD h4 fun _ s5 hpq=> ?_);obtain⟨x,H5,I5,r5,y5,st5,fr5⟩:=hpq;have I5' :=I5.pinned (stat fr5) (T.obj _ _ st5);refine Kv hp (bD (hg _ s5 σ3 H5 x u _ I5' r5 (step x H5 y5)) fun _ s6 hpq=> ?_);obtain⟨σ6,H6,I6,q6⟩:=hpq;refine Kv hp (bD (hb _ s6 σ6 H6 _ I6 q6) fun f s7 q7=> ?_);have again:∀{σ7:St}{H7:Hp},Inv X (pins++jl fp s5.heap) σ7 H7 s7->N σ7 H7->∃m,m<n/\∃i σ' H',Inv X pins σ' H' s7/\tn i s7.heap/\(∀b∈fp,H' b=none)/\W i m σ' H' :=fun{σ7 H7} I7 n7=>by
   obtain⟨m',hm,w7⟩:=hN σ7 H7 n7;refine⟨m',hm,i+1,σ7,H7,I7.unpinned,T.keep _ _ _ st5 fun b hb o e=>(I7.pin (b,o) (Ji _ (Ji _ (dk hb e)))).1,fun b hb=> ?_,w7⟩;obtain⟨o,e,d⟩:=T.obj _ _ st5 b hb;exact(I7.pin (b,o) (Ji _ (Ji _ (dk hb e)))).2.1
  cases f with
  | next=>obtain⟨σ7,H7,I7,n7⟩:=q7;exact again I7 n7
  | cont=>obtain⟨σ7,H7,I7,n7⟩:=q7;exact again I7 n7
  | brk=>obtain⟨σ7,H7,I7,q7⟩:=q7;exact⟨σ7,H7,I7.unpinned,q7⟩
  | ret v=>obtain⟨x7,σ7,H7,I7,r7,q7⟩:=q7;exact⟨x7,σ7,H7,I7.unpinned,r7,q7⟩
end
theorem xS{K:PySem.W.Frag}{a:Addr}{xs:List V}{g:TG}{tb:TS}{D:dN}{σ:St}{H:Hp}(Pv:Nat->St->Hp->Prop)(h0:Pv 0 σ H)(hl:∀i σ H,i<=xs.length->Pv i σ H->bN K H a xs)
  (hs:∀i x σ H,xs[i]? =some x->Pv i σ H->g x σ H fun σ2 H2=>tb {D with nx:=Pv (i+1),ct:=Pv (i+1),bk:=D.nx} σ2 H2) (hd:∀σ H,Pv xs.length σ H->D.nx σ H) :
  ∃W:Nat->Nat->St->Hp->Prop,(∃m,W 0 m σ H)/\∀i m σ H,W i m σ H ->
   ((FJ K a).stop i H/\D.nx σ H)\/((FJ K a).go i H/\∃N:St->Hp->Prop,(∀σ' H',N σ' H' ->∃m',m' <m/\W (i+1) m' σ' H')/\∀x H',(FJ K a).yld i H x H' ->g x σ H' fun σ2 H2=>tb {D with nx:=N,ct:=N,bk:=D.nx} σ2 H2):=by
 refine⟨fun i m σ H=>m=xs.length-i/\i<=xs.length/\Pv i σ H,⟨xs.length,by simp,JR _,h0⟩,?_⟩;rintro i m σ H ⟨rfl,hi,p⟩;have q:=hl i σ H hi p
 by_cases hlt:i<xs.length
 ·refine .inr ⟨⟨xs,xs[i],q,by simp[hlt]⟩,Pv (i+1),fun σ' H' p' =>⟨xs.length-(i+1),by omega,rfl,hlt,p'⟩,fun x H' y=> ?_⟩
  obtain⟨e,y⟩:=y;subst e;exact hs i x σ _ (y xs q) p
 ·have e:i=xs.length:=by omega
  subst e;exact .inl ⟨⟨xs,q,Io _⟩,hd σ H p⟩
noncomputable abbrev R2:=V->V->Hp->VK->Prop
noncomputable def dv(X:Cx)(f:Value->Value->Sem Value)(r:R2):Prop :=
 ∀(pins:List (Addr×Obj))(s:Shared)(σ:St)(H:Hp)(x y:V)(v u:Value)(Q:VK),Inv X pins σ H s->RelV x v->RelV y u->r x y H Q ->
  wpAny (model X.prog X.w) X.A (f v u) (EP X pins σ Q) X.xe s
noncomputable def UnR(X:Cx)(f:Value->Sem Value)(r:V->Hp->VK->Prop):Prop :=
 ∀(pins:List (Addr×Obj))(s:Shared)(σ:St)(H:Hp)(x:V)(v:Value)(Q:VK),Inv X pins σ H s->RelV x v->r x H Q ->
  wpAny (model X.prog X.w) X.A (f v) (EP X pins σ Q) X.xe s
noncomputable def bR(X:Cx)(f:Value)(r:List V->Hp->VK->Prop):Prop :=
 ∀(pins:List (Addr×Obj))(s:Shared)(σ:St)(H:Hp)(xs:List V)(us:List Value)(Q:VK),Inv X pins σ H s->aQ xs us->r xs H Q ->
  wpAny (model X.prog X.w) X.A (call f us) (EP X pins σ Q) X.xe s
noncomputable def TruR(X:Cx)(r:V->Hp->(Bool->Hp->Prop)->Prop):Prop :=
 ∀(pins:List (Addr×Obj))(s:Shared)(σ:St)(H:Hp)(x:V)(v:Value)(Q:Bool->Hp->Prop),Inv X pins σ H s->RelV x v->r x H Q ->
  wpAny (model X.prog X.w) X.A (truthy v) (TP X pins σ Q) X.xe s
noncomputable def tOp(r:R2)(ta tb:TE):TE:=fun σ H Q=>ta σ H fun x H1=>tb σ H1 fun y H2=>r x y H2 Q
noncomputable def tUn(r:V->Hp->VK->Prop)(ta:TE):TE:=fun σ H Q=>ta σ H fun x H1=>r x H1 Q
noncomputable def rI(C:Int->Int->Prop)(g:Int->Int->V):R2:=fun x y H Q=>∃i j,x=.int i/\y=.int j/\C i j/\Q (g i j) H
noncomputable def vz(g:Int->Int->V):R2:=fun x y H Q=>∃i j,x=.int i/\y=.int j/\Q (g i j) H
noncomputable def rU(g:Int->V):V->Hp->VK->Prop:=fun x H Q=>∃i,x=.int i/\Q (g i) H
section
variable{X:Cx}{a b c:Expr}{ta tb tc:TE}{pos:Pos}
theorem EW(ha:PE X a ta)(hb:PE X b tb){pins:List (Addr×Obj)}{s:Shared}{σ:St}{H:Hp}{R:V->V->Hp->Prop}(I:Inv X pins σ H s)
  (h:ta σ H fun x H1=>tb σ H1 fun y H2=>R x y H2) {Q:Value->Shared->Prop} {f:Value->Value->Sem Value}
  (hf:∀v u s2 x y H2,Inv X pins σ H2 s2->RelV x v->RelV y u->R x y H2->wpAny (model X.prog X.w) X.A (f v u) Q X.xe s2) :
  wpAny (model X.prog X.w) X.A (eval a X.env) (fun v s₁=>wpAny (model X.prog X.w) X.A (eval b X.env) (fun u s₂=>wpAny (model X.prog X.w) X.A (f v u) Q X.xe s₂) X.xe s₁) X.xe s:=by
 refine bD (ha pins s σ H _ I h) fun v s1 hpq=> ?_;obtain⟨x,H1,I1,r1,q1⟩:=hpq;refine bD (hb pins s1 σ H1 _ I1 q1) fun u s2 hpq=> ?_;obtain⟨y,H2,I2,r2,q2⟩:=hpq;exact hf v u s2 x y H2 I2 r1 r2 q2
theorem jn{op:Operator}{r:R2}(ho:dv X (binaryOp op) r)(ha:PE X a ta)(hb:PE X b tb):PE X (.BinOp a op b pos) (tOp r ta tb):=by
 intro pins s σ H Q I h;exact wpAny_BinOp (EW ha hb I h fun v u s2 x y H2 I2 rx ry q=>ho pins s2 σ H2 x y v u Q I2 rx ry q)
theorem Gr{op:UnaryOp}{r:V->Hp->VK->Prop}(ho:UnR X (unaryOp op) r)(ha:PE X a ta):PE X (.UnaryOp op a pos) (tUn r ta):=by
 intro pins s σ H Q I h;exact UnaryOp_ (bD (ha pins s σ H _ I h) fun v s1 ⟨x,H1,I1,r1,q1⟩=>ho pins s1 σ H1 x v Q I1 r1 q1)
theorem G8{f:Value->Value->Sem Value}{C:Int->Int->Prop}{g:Int->Int->Int}
  (rule:∀(i j:Int)(t u:Tok)(s:Shared)(Q:Value->Shared->Prop)(E:Value->Shared->Prop),C i j->Q (.int (g i j) s.toks) {s with toks:=s.toks+1}->wpAny (model X.prog X.w) X.A (f (.int i t) (.int j u)) Q E s) :
  dv X f (rI C fun i j=>.int (g i j)):=by
 intro pins s σ H x y v u Q I rx ry h;obtain⟨i,j,rfl,rfl,hc,q⟩:=h;obtain⟨t,rfl⟩:=rx;obtain⟨t',rfl⟩:=ry;exact rule i j t t' s _ _ hc ⟨.int (g i j),H,I.tok _,⟨_,rfl⟩,q⟩
theorem zU{f:Value->Value->Sem Value}{g:Int->Int->Int}
  (rule:∀(i j:Int)(t u:Tok)(s:Shared)(Q:Value->Shared->Prop)(E:Value->Shared->Prop),Q (.int (g i j) s.toks) {s with toks:=s.toks+1}->wpAny (model X.prog X.w) X.A (f (.int i t) (.int j u)) Q E s) :
  dv X f (vz fun i j=>.int (g i j)):=by
 intro pins s σ H x y v u Q I rx ry h;obtain⟨i,j,rfl,rfl,q⟩:=h;obtain⟨t,rfl⟩:=rx;obtain⟨t',rfl⟩:=ry;exact rule i j t t' s _ _ ⟨.int (g i j),H,I.tok _,⟨_,rfl⟩,q⟩
theorem zV{f:Value->Value->Sem Value}{g:Int->Int->Bool}
  (rule:∀(i j:Int)(t u:Tok)(s:Shared)(Q:Value->Shared->Prop)(E:Value->Shared->Prop),Q (.bool (g i j)) s->wpAny (model X.prog X.w) X.A (f (.int i t) (.int j u)) Q E s) :
  dv X f (vz fun i j=>.bl (g i j)):=by
 intro pins s σ H x y v u Q I rx ry h;obtain⟨i,j,rfl,rfl,q⟩:=h;obtain⟨t,rfl⟩:=rx;obtain⟨t',rfl⟩:=ry;exact rule i j t t' s _ _ ⟨.bl (g i j),H,I,rfl,q⟩
noncomputable def CPow(i j:Int):Prop:=0<=j/\j<=1000000/\i.natAbs<2^64
noncomputable def FM(i j:Int):Prop:=(-(2^64)<i/\i<2^64)\/(-(2^64)<j/\j<2^64)
theorem FM.ok{i j:Int}(h:FM i j):IntMulOk i j:=by
 rcases h with⟨h1,h2⟩|⟨h1,h2⟩
 ·exact .of_left (intBits_le_64 h1 h2)
 ·exact .of_right (intBits_le_64 h1 h2)
theorem qT:dv X (binaryOp .Add) (vz fun i j=>.int (i+j)):=zU fun _ _ _ _ _ _ _ q=>add_int q
theorem Cs:dv X (binaryOp .Sub) (vz fun i j=>.int (i-j)):=zU fun _ _ _ _ _ _ _ q=>sub_int q
theorem Cy:dv X (binaryOp .Mult) (rI FM fun i j=>.int (i*j)):=G8 fun _ _ _ _ _ _ _ hc q=>mul_int q hc.ok
theorem Cz:dv X (binaryOp .Mod) (rI (fun _ j=>0<j) fun i j=>.int (i%j)):=G8 fun i j _ _ _ _ _ hc q=>by
 have h1:(0:Int)<j:=hc;exact mod_int' (by omega) (by rw[Int.fmod_eq_emod_of_nonneg i (by omega)];exact q)
theorem Cu:dv X (binaryOp .LShift) (rI CPow fun i j=>.int (i*2^j.toNat)):=G8 fun _ _ _ _ _ _ _ hc q=>lshift_int_small hc.1 hc.2.1 hc.2.2 q
theorem C4:dv X (binaryOp .BitAnd) (vz fun i j=>.int (Builtin.bitAnd i j)):=zU fun _ _ _ _ _ _ _ q=>and_int q
theorem BS:dv X (binaryOp .BitOr) (vz fun i j=>.int (Builtin.bitOr i j)):=zU fun _ _ _ _ _ _ _ q=>or_int q
theorem unI{f:Value->Sem Value}{g:Int->Int}
  (rule:∀(i:Int)(t:Tok)(s:Shared)(Q:Value->Shared->Prop)(E:Value->Shared->Prop),Q (.int (g i) s.toks) {s with toks:=s.toks+1}->wpAny (model X.prog X.w) X.A (f (.int i t)) Q E s) :
  UnR X f (rU fun i=>.int (g i)):=by
 intro pins s σ H x v Q I rx h;obtain⟨i,rfl,q⟩:=h;obtain⟨t,rfl⟩:=rx;exact rule i t s _ _ ⟨.int (g i),H,I.tok _,⟨_,rfl⟩,q⟩
theorem B3:UnR X (unaryOp .USub) (rU fun i=>.int (-i)):=unI fun _ _ _ _ _ q=>neg_int q
end
noncomputable def CQ:V->V->Bool
 | .non,.non=>true| .non,.int _=>true| .int _,.non=>true| .non,.bl _=>true| .bl _,.non=>true| .non,.str _=>true| .str _,.non=>true
 | .int _,.int _=>true| .bl _,.bl _=>true| .str _,.str _=>true| .byt _,.byt _=>true
 | .int _,.str _=>true| .str _,.int _=>true| .bl _,.str _=>true| .str _,.bl _=>true
 | _,_=>false
noncomputable def rEq:R2:=fun x y H Q=>CQ x y=true/\Q (.bl (decide (x=y))) H
noncomputable def rNe:R2:=fun x y H Q=>CQ x y=true/\Q (.bl (!decide (x=y))) H
theorem tN{i j:Int}:decide (V.int i=V.int j)=(i==j):=by
 rw[Jb];simp
theorem xj{i j:Bool}:decide (V.bl i=V.bl j)=(i==j):=by
 rw[Jb];simp
theorem tM{i j:Str}:decide (V.str i=V.str j)=(i==j):=by
 rw[Jb];simp
theorem tO{i j:Array UInt8}:decide (V.byt i=V.byt j)=(i.toList==j.toList):=by
 rw[Jb];cases i;cases j;simp
section
variable{X:Cx}{a b c:Expr}{ta tb tc:TE}{pos:Pos}
theorem aa{pins:List (Addr×Obj)}{σ:St}{H:Hp}{s:Shared}{Q:VK}{k k' :Bool}(I:Inv X pins σ H s)(q:Q (.bl k) H)(e:k=k'):EP X pins σ Q (.bool k') s:=by
 subst e;exact⟨.bl k,H,I,rfl,q⟩
theorem BU:dv X (compareOp .Eq) rEq:=by
 intro pins s σ H x y v u Q I rx ry h;obtain⟨hs,q⟩:=h;cases x with
 | non =>
  cases rx;cases y with
  | non=>cases ry;exact PySem.EqNone.eq_none_none (aa I q (by simp))
  | bl j=>cases ry;exact PySem.EqNone.eq_none_bool (aa I q (by simp))
  | int j=>obtain⟨t',rfl⟩:=ry;exact PySem.EqNone.eq_none_int (aa I q (by simp))
  | str j=>obtain⟨t',rfl⟩:=ry;exact PySem.EqNone.eq_none_str (aa I q (by simp))
  | _=>exact absurd (show false=true from hs) Ir
 | bl i =>
  cases rx;cases y with
  | non=>cases ry;exact PySem.EqNone.eq_bool_none (aa I q (by simp))
  | bl j=>cases ry;exact eq_bool (aa I q xj)
  | str j=>obtain⟨t',rfl⟩:=ry;exact PySem.EqMixed.eq_bool_str (aa I q (by simp))
  | _=>exact absurd (show false=true from hs) Ir
 | int i =>
  obtain⟨t,rfl⟩:=rx;cases y with
  | non=>cases ry;exact PySem.EqNone.eq_int_none (aa I q (by simp))
  | int j=>obtain⟨t',rfl⟩:=ry;exact eq_int (aa I q tN)
  | str j=>obtain⟨t',rfl⟩:=ry;exact PySem.EqMixed.eq_int_str (aa I q (by simp))
  | _=>exact absurd (show false=true from hs) Ir
 | str i =>
  obtain⟨t,rfl⟩:=rx;cases y with
  | non=>cases ry;exact PySem.EqNone.eq_str_none (aa I q (by simp))
  | bl j=>cases ry;exact PySem.EqMixed.eq_str_bool (aa I q (by simp))
  | int j=>obtain⟨t',rfl⟩:=ry;exact PySem.EqMixed.eq_str_int (aa I q (by simp))
  | str j=>obtain⟨t',rfl⟩:=ry;exact eq_str (aa I q tM)
  | _=>exact absurd (show false=true from hs) Ir
 | byt i =>
  obtain⟨t,rfl⟩:=rx;cases y with
  | byt j=>obtain⟨t',rfl⟩:=ry;exact W.eq_bytes (aa I q tO)
  | _=>exact absurd (show false=true from hs) Ir
 | _=>cases y<;>exact absurd (show false=true from hs) Ir
theorem Gx:dv X (compareOp .NotEq) rNe:=by
 intro pins s σ H x y v u Q I rx ry h;obtain⟨hs,q⟩:=h;cases x with
 | non =>
  cases rx;cases y with
  | non=>cases ry;exact PySem.EqNone.ne_none_none (aa I q (by simp))
  | bl j=>cases ry;exact PySem.EqNone.ne_none_bool (aa I q (by simp))
  | int j=>obtain⟨t',rfl⟩:=ry;exact PySem.EqNone.ne_none_int (aa I q (by simp))
  | str j=>obtain⟨t',rfl⟩:=ry;exact PySem.EqNone.ne_none_str (aa I q (by simp))
  | _=>exact absurd (show false=true from hs) Ir
 | bl i =>
  cases rx;cases y with
  | non=>cases ry;exact PySem.EqNone.ne_bool_none (aa I q (by simp))
  | bl j=>cases ry;exact ne_bool (aa I q (Je not xj))
  | str j=>obtain⟨t',rfl⟩:=ry;exact PySem.EqMixed.ne_bool_str (aa I q (by simp))
  | _=>exact absurd (show false=true from hs) Ir
 | int i =>
  obtain⟨t,rfl⟩:=rx;cases y with
  | non=>cases ry;exact PySem.EqNone.ne_int_none (aa I q (by simp))
  | int j=>obtain⟨t',rfl⟩:=ry;exact ne_int (aa I q (Je not tN))
  | str j=>obtain⟨t',rfl⟩:=ry;exact PySem.EqMixed.ne_int_str (aa I q (by simp))
  | _=>exact absurd (show false=true from hs) Ir
 | str i =>
  obtain⟨t,rfl⟩:=rx;cases y with
  | non=>cases ry;exact PySem.EqNone.ne_str_none (aa I q (by simp))
  | bl j=>cases ry;exact PySem.EqMixed.ne_str_bool (aa I q (by simp))
  | int j=>obtain⟨t',rfl⟩:=ry;exact PySem.EqMixed.ne_str_int (aa I q (by simp))
  | str j=>obtain⟨t',rfl⟩:=ry;exact ne_str (aa I q (Je not tM))
  | _=>exact absurd (show false=true from hs) Ir
 | byt i =>
  obtain⟨t,rfl⟩:=rx;cases y with
  | byt j=>obtain⟨t',rfl⟩:=ry;exact W.ne_bytes (aa I q (Je not tO))
  | _=>exact absurd (show false=true from hs) Ir
 | _=>cases y<;>exact absurd (show false=true from hs) Ir
theorem Gy:dv X (compareOp .Lt) (vz fun i j=>.bl (decide (i<j))):=zV fun _ _ _ _ _ _ _ q=>lt_int q
theorem Gz:dv X (compareOp .LtE) (vz fun i j=>.bl (decide (i<=j))):=zV fun _ _ _ _ _ _ _ q=>le_int q
theorem G6:dv X (compareOp .Gt) (vz fun i j=>.bl (decide (j<i))):=zV fun _ _ _ _ _ _ _ q=>gt_int q
theorem G7:dv X (compareOp .GtE) (vz fun i j=>.bl (decide (j<=i))):=zV fun _ _ _ _ _ _ _ q=>ge_int q
theorem wT:dv X (compareOp .Is) (fun x y H Q=>y=.non/\Q (.bl (decide (x=.non))) H):=by
 intro pins s σ H x y v u Q I rx ry h;obtain⟨rfl,q⟩:=h;cases ry;refine is_none_gen (aa I q ?_)
 cases x<;>first
  | (cases rx;rfl)
  | (obtain⟨t,rfl⟩:=rx;rfl)
theorem sO:dv X (compareOp .IsNot) (fun x y H Q=>y=.non/\Q (.bl (!decide (x=.non))) H):=by
 intro pins s σ H x y v u Q I rx ry h;obtain⟨rfl,q⟩:=h;cases ry;refine isnot_none_gen (aa I q ?_)
 cases x<;>first
  | (cases rx;rfl)
  | (obtain⟨t,rfl⟩:=rx;rfl)
noncomputable def isObj:HO->Bool
 | .lst _=>true
 | .ins _ _ _=>true
 | _=>false
theorem lm{pins:List (Addr×Obj)}{s:Shared}{σ:St}{H:Hp}{a:Addr}{o:HO}(I:Inv X pins σ H s)(h:H a=some o)(p:isObj o=true):∃ob,s.heap.get? a=some ob/\ob.cls≠.type "tuple":=by
 cases o with
 | lst xs =>
  obtain⟨_,its,n,_,e⟩:xs.length<=sizeLine/\∃(its:List Value)(n:Nat),aQ xs its/\s.heap.get? a=some {cls:=.type "list",data:=.seq its.toArray n}:=I.hok a _ h;exact⟨_,e,(by show Value.type "list"≠.type "tuple";decide +kernel)⟩
 | ins C dx fs =>
  have x:=I.hok a _ h;obtain⟨_,_,_,e,_⟩:=x;exact⟨_,e,(by show Value.ref C≠.type "tuple";exact fun z=>by cases z)⟩
 | _=>exact absurd (show false=true from p) Ir
theorem DB(b:Expr){op:CmpOp}(h:op≠.In:=by decide)(h2:op≠.NotIn:=by decide):behindInMarks op b=false:=by
 have e1:(op==CmpOp.In)=false:=by cases op<;>first|rfl|exact absurd rfl h
 have e2:(op==CmpOp.NotIn)=false:=by cases op<;>first|rfl|exact absurd rfl h2
 cases b<;>simp[behindInMarks,e1,e2]
theorem zM{op:CmpOp}{r:R2}(ho:dv X (compareOp op) r)(ha:PE X a ta)(hb:PE X b tb)(hm:behindInMarks op b=false):PE X (.Compare a [op] [b] pos) (tOp r ta tb):=by
 intro pins s σ H Q I h;exact wpAny_Compare1 (EW ha hb I h fun v u s2 x y H2 I2 rx ry q=>ho pins s2 σ H2 x y v u Q I2 rx ry q) hm
noncomputable def Fy(t:TE):TT:=fun σ H Q=>t σ H fun x H' =>∃k,x=.bl k/\Q k H'
theorem sF{op:CmpOp}{r:R2}(ho:dv X (compareOp op) r)(ha:PE X a ta)(hb:PE X b tb)(hm:behindInMarks op b=false):PT X (.Compare a [op] [b] pos) (Fy (tOp r ta tb)):=by
 intro pins s σ H Q I h
 refine wpAny_isTrue_Compare1 (bD (ha pins s σ H _ I h) fun v s1 ⟨x,H1,I1,r1,q1⟩=>bD (hb pins s1 σ H1 _ I1 q1) fun u s2 ⟨y,H2,I2,r2,q2⟩ =>
  bD (ho pins s2 σ H2 x y v u _ I2 r1 r2 q2) fun c s3 ⟨z,H3,I3,r3,k,e,q3⟩=> ?_) hm
 subst e;cases r3;exact K1 ⟨H3,I3,q3⟩
noncomputable def Eh(K:W.Frag)(x:V)(H:Hp)(k:Bool):Prop :=
 match x with
 | .non=>k=false
 | .bl b=>k=b
 | .int i=>k=(i !=0)
 | .str y=>y.length<=sizeLine/\k=((y.length:Int) !=0)
 | .byt y=>y.size<=sizeLine/\k=((y.size:Int) !=0)
 | .ref p=>(∃xs,bN K H p xs/\k= !xs.isEmpty)\/(∃xs,bw K H p xs/\k= !xs.isEmpty)\/∃kvs,H p=some (.dK kvs)/\k= !kvs.isEmpty
 | _=>False
theorem qg{κ:Type}{kvs:List (κ×V)}{vs:List (κ×Value)}(r:KV kvs vs):(!vs.isEmpty)= !kvs.isEmpty:=by
 cases r<;>rfl
theorem jz{xs:List V}{its:List Value}(r:aQ xs its):(!its.toArray.isEmpty)= !xs.isEmpty:=by
 cases r<;>simp
theorem iH:(sizeLine:Nat)<2^63:=by rw[J6];decide
theorem B6:TruR X (fun x H Q=>∃k,Eh X.K x H k/\Q k H):=by
 intro pins s σ H x v Q I rx h;obtain⟨k,e,q⟩:=h;have hl:=iH;have hs:sizeLine=16777216:=J6;cases x with
 | non =>
  cases rx;have e' :k=false:=e;subst e';exact truthy_none ⟨H,I,q⟩
 | bl b =>
  cases rx;have e' :k=b:=e;subst e';exact K1 ⟨H,I,q⟩
 | int i =>
  obtain⟨t,rfl⟩:=rx;have e' :k=(i !=0):=e;subst e';exact PySem.P.truthy_int ⟨H,I,q⟩
 | str y =>
  obtain⟨t,rfl⟩:=rx;obtain⟨hy,e'⟩:y.length<=sizeLine/\k=((y.length:Int) !=0):=e;subst e';exact PySem.P.truthy_str (by omega) ⟨H,I.tok _,q⟩
 | byt y =>
  obtain⟨t,rfl⟩:=rx;obtain⟨hy,e'⟩:y.size<=sizeLine/\k=((y.size:Int) !=0):=e;subst e';exact W.truthy_bytes (by omega) ⟨H,I.tok _,q⟩
 | ref p =>
  cases rx;have e' :(∃xs,bN X.K H p xs/\k= !xs.isEmpty)\/(∃xs,bw X.K H p xs/\k= !xs.isEmpty)\/∃kvs,H p=some (.dK kvs)/\k= !kvs.isEmpty:=e
  rcases e' with⟨xs,hx,e'⟩|⟨xs,hx,e'⟩|⟨kvs,hx,e'⟩
  ·subst e'
   obtain⟨its,r,pl,hz⟩:=I.list hx;have hlen:=r.length;exact wpAny_truthy_list pl.isList (by simp only[I0];omega) ⟨H,I.tok _,by rw[jz r];exact q⟩
  ·subst e'
   obtain⟨its,r,pl,hz⟩:=I.tuple hx;have hlen:=r.length;exact truthy_tuple pl (by simp only[I0];omega) ⟨H,I.tok _,by rw[jz r];exact q⟩
  ·subst e'
   obtain⟨hz,hS,vs,r,m⟩:kvs.length<=sizeLine/\(p==sysModules)=false/\∃vs,KV kvs vs/\s.heap.DictOf (ac X.prog X.w) p vs:=I.hok p _ hx;have hlen:kvs.length=vs.length:=Paired.length r;exact wpAny_truthy_dict hS m (by omega) ⟨H,I.tok _,by rw[qg r];exact q⟩
 | _=>exact(show False from e).elim
theorem v7(ha:PE X a ta)(he:∀whole,isTrue a X.env whole=(do let v<-whole;standAt a.pos;holding [v] (truthy v))) :
  PT X a (fun σ H Q=>ta σ H fun x H' =>∃k,Eh X.K x H' k/\Q k H'):=by
 intro pins s σ H Q I h;exact isTrue_plain (bD (ha pins s σ H _ I h) fun v s1 ⟨x,H1,I1,r1,q1⟩=>B6 pins s1 σ H1 x v Q I1 r1 q1) (he _)
theorem qS:dv X (binaryOp .Add) (fun x y H Q=>∃i j,x=.str i/\y=.str j/\i.length+j.length<=sizeLine/\Q (.str (i++j)) H):=by
 intro pins s σ H x y v u Q I rx ry h;obtain⟨i,j,rfl,rfl,hz,q⟩:=h;obtain⟨t,rfl⟩:=rx;obtain⟨t',rfl⟩:=ry;exact add_str (fun t' tk=>⟨.str (i++j),H,I.tok _,⟨_,rfl⟩,q⟩) hz
theorem vals1{x:V}{us:List Value}(r:aQ [x] us):∃u,us=[u]/\RelV x u:=by
 cases r with
 | cons r1 r2=>cases r2;exact⟨_,rfl,r1⟩
theorem vals2{x y:V}{us:List Value}(r:aQ [x,y] us):∃u w',us=[u,w']/\RelV x u/\RelV y w' :=by
 cases r with
 | cons r1 r2 =>
  cases r2 with
  | cons r3 r4=>cases r4;exact⟨_,_,rfl,r1,r3⟩
theorem x3:bR X (.builtin "abs") (fun xs H Q=>∃i,xs=[.int i]/\Q (.int (if i<0 then -i else i)) H):=by
 intro pins s σ H xs us Q I r h;obtain⟨i,rfl,q⟩:=h;obtain⟨u,rfl,t,rfl⟩:=vals1 r;exact call_abs_int fun u tk=>⟨.int (if i<0 then -i else i),H,I.tok _,⟨_,rfl⟩,q⟩
theorem ur(hc:X.calm=true):bR X (.builtin "max") (fun xs H Q=>∃i j,xs=[.int i,.int j]/\Q (.int (if j>i then j else i)) H):=by
 intro pins s σ H xs us Q I r h;obtain⟨i,j,rfl,q⟩:=h;obtain⟨u,w',rfl,⟨t,rfl⟩,⟨t',rfl⟩⟩:=vals2 r;refine max_two_ints (I.ok.hd hc) fun h' tk k=>⟨_,H,I.kept k,?_,q⟩
 by_cases hj:j>i
 ·rw[Ix hj,Ix hj];exact⟨_,rfl⟩
 ·rw[Iq hj,Iq hj];exact⟨_,rfl⟩
theorem uq(hc:X.calm=true):bR X (.builtin "min") (fun xs H Q=>∃i j,xs=[.int i,.int j]/\Q (.int (if j<i then j else i)) H):=by
 intro pins s σ H xs us Q I r h;obtain⟨i,j,rfl,q⟩:=h;obtain⟨u,w',rfl,⟨t,rfl⟩,⟨t',rfl⟩⟩:=vals2 r;refine min_two_ints (I.ok.hd hc) fun h' tk k=>⟨_,H,I.kept k,?_,q⟩
 by_cases hj:j<i
 ·rw[Ix hj,Ix hj];exact⟨_,rfl⟩
 ·rw[Iq hj,Iq hj];exact⟨_,rfl⟩
theorem mO:bR X (.type "int") (fun xs H Q=>(∃i,xs=[.int i]/\Q (.int i) H)\/∃k,xs=[.bl k]/\Q (.int (if k then 1 else 0)) H):=by
 intro pins s σ H xs us Q I r h
 rcases h with⟨i,rfl,q⟩|⟨k,rfl,q⟩
 ·obtain⟨u,rfl,t,rfl⟩:=vals1 r
  exact call_int_int ⟨.int i,H,I,⟨_,rfl⟩,q⟩
 ·obtain⟨u,rfl,r1⟩:=vals1 r
  cases r1;exact call_int_bool ⟨.int (if k then 1 else 0),H,I.tok _,⟨_,rfl⟩,q⟩
end
structure Em(h:Heap)(x dx C:Addr)(mA:Str->Option Value):Prop where
 obj:h.get? x=some (W.instObj C dx)
 ns:h.Ns1 dx mA
 ne:dx≠x
theorem uU{h:Heap}{dx:Addr}{mA:Str->Option Value}(n:h.Ns1 dx mA):∃od,h.get? dx=some od/\∀name,W.lookIn name od=some (mA name):=by
 obtain⟨o,es,ep,ho,hd,hk,_,hm⟩:=n;refine⟨o,ho,fun name=> ?_⟩;have e:=hm name;unfold nsFind findBy at e;rw[<- Array.find?_toList]at e;unfold W.lookIn;rw[hd];dsimp only
 split
 ·rename_i y q
  rw[q]at e;exact Je some e
 ·rename_i q
  rw[q]at e;have a:es.toList.any (·.refKey)=false:=by
   rw[List.any_eq_false];intro y hy;obtain⟨z,t,hkey⟩:=hk y (Array.mem_toList_iff.mp hy);simp[DictEntry.refKey,hkey]
  have a' :¬es.toList.any (·.refKey)=true:=by rw[a];exact Ir
  rw[Iq a'];exact Je some e
theorem Em.look{h:Heap}{x dx C:Addr}{mA:Str->Option Value}(I:Em h x dx C mA):∃od,W.InstAt h x (W.instObj C dx) C (some od)/\∀name,W.lookIn name od=some (mA name) :=
 let⟨od,ho,hl⟩:=uU I.ns
 ⟨od,⟨I.obj,rfl,rfl,ho⟩,hl⟩
section
variable{prog:Program}{w:World}{A:Around}{E:Value->Shared->Prop}{s:Shared}{K:W.Frag}{x dx C f:Addr}{mA:Str->Option Value}{name:Str}{v:Value}
end
section
variable{P:Program}{w:World}{H H' :Hp}{h h' :Heap}{a C dx:Addr}{fs fs' :List (Str×V)}
theorem zu(hok:dw P w H h)(e:H a=some (.ins C dx fs)):∃mA,Em h a dx C mA/\(∀f,nZ (fs.lookup f) (mA f))/\PySem.Within mA (fs.map (·.1))/\fs.length<=1000/\H dx=some (.own a):=by
 obtain⟨d,z,ne,ob,mA,n,r,q⟩:=(show az P w H h a (.ins C dx fs)from hok a _ e);exact⟨mA,⟨ob,n,ne⟩,r,q,z,d⟩
end
structure Cls(K:W.Frag)(C:Addr):Prop where
 pg:W.plainGet K C Str.empty=true
 hd:W.hasDictIn K C=true
 po:W.plainOver K C=true
 sa:W.findIn K (.ref C) "__setattr__"=some (some (.builtin "object.__setattr__"))
theorem Cls.get{K:W.Frag}{C:Addr}(c:Cls K C)(f:Str):W.plainGet K C f=true:=c.pg
section
variable{X:Cx}{pins:List (Addr×Obj)}{σ:St}{H:Hp}{s:Shared}{a C dx:Addr}{fs:List (Str×V)}{f:Str}{v:V}{A:Around}{E:Value->Shared->Prop}
end
section
variable{X:Cx}{o e value:Expr}{f:Str}{pos pos' tpos:Pos}{ta tv:TE}
end
section
variable{X:Cx}{pins:List (Addr×Obj)}{σ:St}{H:Hp}{s:Shared}{A:Around}{E:Value->Shared->Prop}{Q:Value->Shared->Prop}{c:Value}{b:Bool}
inductive iY(K:W.Frag)(H:Hp):V->Value->Prop where
 | non:iY K H .non (.type "NoneType")
 | bl (x:Bool):iY K H (.bl x) (.type "bool")
 | int (i:Int):iY K H (.int i) (.type "int")
 | str (x:Str):iY K H (.str x) (.type "str")
 | flt (x:UInt64):iY K H (.flt x) (.type "float")
 | lst {a:Addr} {xs:List V} (e:H a=some (.lst xs)):iY K H (.ref a) (.type "list")
 | frz {a:Addr} {o:Obj} {xs:List V} (e:H a=some (.frz o (.lst xs))):iY K H (.ref a) (.type "list")
 | tup {a:Addr} {xs:List V} (e:H a=some (.tup xs)):iY K H (.ref a) (.type "tuple")
 | dK {a:Addr} {kvs:List (am×V)} (e:H a=some (.dK kvs)):iY K H (.ref a) (.type "dict")
 | dT {a:Addr} {kvs:List (List am×V)} (e:H a=some (.dT kvs)):iY K H (.ref a) (.type "dict")
 | ins {a C dx:Addr} {fs:List (Str×V)} (e:H a=some (.ins C dx fs)) (cl:Cls K C) (ha:W.findIn K (.ref C) "__class__"=some (some (.builtin "object.__class__")))
   (hn:W.specialIn K (.builtin "object.__class__") "__get__"=some (some (.builtin "getset_descriptor.__get__"))) (htk:W.takesIn K (.builtin "object.__class__")=some true)
   (hm:W.mroIn K C (.type "object")=some true):iY K H (.ref a) (.ref C)
theorem uZ{x:V}{u t:Value}(I:Inv X pins σ H s)(rx:RelV x u)(ty:iY X.K H x t)(e:W.kitOne X.K t c=some b)(h:∀tk,Q (.bool b) {s with toks:=tk}) :
  wpAny (model X.prog X.w) A (call (.builtin "isinstance") [u,c]) Q E s:=by
 cases ty with
 | non=>cases(show u=Value.none from rx);exact Kn W.kitx_none I.kIn True.intro e (fun z=>nomatch z) h
 | bl y=>cases(show u=Value.bool y from rx);exact Kn W.kitx_bool I.kIn True.intro e (fun z=>nomatch z) h
 | int i=>obtain⟨t,q⟩:=(show∃t,u=Value.int i t from rx);cases q;exact Kn W.kitx_int I.kIn True.intro e (fun z=>nomatch z) h
 | str y=>obtain⟨t,q⟩:=(show∃t,u=Value.str y t from rx);cases q;exact Kn W.kitx_str I.kIn True.intro e (fun z=>nomatch z) h
 | flt y=>obtain⟨t,q⟩:=(show∃t,u=Value.float y t from rx);cases q;exact Kn W.kitx_float I.kIn True.intro e (fun z=>nomatch z) h
 | @lst a xs ea =>
  cases(show u=Value.ref a from rx);obtain⟨_,_,n,_,h1⟩:=(show az X.prog X.w H s.heap a (.lst xs)from I.hok a _ ea);exact Kn W.kitx_list I.kIn ⟨_,h1,rfl⟩ e (fun z=>nomatch z) h
 | @frz a ob xs ea =>
  cases(show u=Value.ref a from rx);obtain⟨_,_,_,n,_,h1⟩:=(show az X.prog X.w H s.heap a (.frz ob (.lst xs))from I.hok a _ ea);exact Kn W.kitx_list I.kIn ⟨_,h1,rfl⟩ e (fun z=>nomatch z) h
 | @tup a xs ea =>
  cases(show u=Value.ref a from rx);obtain⟨_,_,_,p⟩:=(show az X.prog X.w H s.heap a (.tup xs)from I.hok a _ ea);obtain⟨o,h1,h2,_⟩:=p;exact Kn W.kitx_tuple I.kIn ⟨o,h1,h2⟩ e (fun z=>nomatch z) h
 | @dK a kvs ea =>
  cases(show u=Value.ref a from rx);obtain⟨_,_,vs,_,p⟩:=(show az X.prog X.w H s.heap a (.dK kvs)from I.hok a _ ea);obtain⟨o,es,ep,h1,h2,_⟩:=p;exact Kn W.kitx_dict I.kIn ⟨o,h1,h2.1⟩ e (fun z=>nomatch z) h
 | @dT a kvs ea =>
  cases(show u=Value.ref a from rx);obtain⟨_,_,xs,_,o,es,ep,h1,h2,_⟩:=(show az X.prog X.w H s.heap a (.dT kvs)from I.hok a _ ea);exact Kn W.kitx_dict I.kIn ⟨o,h1,h2.1⟩ e (fun z=>nomatch z) h
 | @ins a C dx fs ea cl ha hn htk hm =>
  cases(show u=Value.ref a from rx);obtain⟨mA,O,_⟩:=zu I.hok ea;obtain⟨od,J,_⟩:=O.look;exact Kn (W.kitx_own (cl.get _) cl.hd ha hn htk hm) I.kIn J e (fun z=>nomatch z) h
end
structure eD(k:Nat)(A:Around):Prop where
 hd:A.handled=none
 dp:A.depth+3*k+5<recursionLimit
 un:A.units+16*k+200<cLine
theorem eD.deeper{k:Nat}{A:Around}(r:eD (k+1) A)(env:Env):eD k (A.deeper env) :=
 ⟨r.hd,by have:=r.dp;show A.depth+1+3*k+5<_;omega,by have:=r.un;show A.units+3+16*k+200<_;omega⟩
theorem eD.depth{k:Nat}{A:Around}(r:eD k A):A.depth<recursionLimit:=by have:=r.dp;omega
theorem eD.units{k:Nat}{A:Around}(r:eD k A):A.units+64<cLine:=by have:=r.un;omega
noncomputable def tNil:TA:=fun _ H Q=>Q [] H
noncomputable def GG(ta:TE)(tr:TA):TA:=fun σ H Q=>ta σ H fun x H1=>tr σ H1 fun xs H2=>Q (x::xs) H2
section
variable{X:Cx}{e:Expr}{es:List Expr}{te:TE}{t:TA}{pos:Pos}
theorem bC:PA X [] tNil:=fun _ _ _ _ H Q I h=>Calls.spliced_nil ⟨[],H,I,.nil,h⟩
theorem aZ(ha:PE X e te)(hr:PA X es t)(hs:starEach (e::es) X.env=(false,eval e X.env)::starEach es X.env:=by rfl):PA X (e::es) (GG te t):=by
 intro pos pins s σ H Q I h;rw[hs];show wpAny _ _ (spliced ((false,eval e X.env)::backTo pos (starEach es X.env))) _ _ s;refine Lw (bD (ha pins s σ H _ I h) fun u s1 hpq=> ?_);obtain⟨x,H1,I1,r1,q1⟩:=hpq;exact bD (hr pos pins s1 σ H1 _ I1 q1) fun us s2 ⟨xs,H2,I2,r2,q2⟩=>⟨x::xs,H2,I2,.cons r1 r2,q2⟩
noncomputable def tTup(t:TA):TE:=fun σ H Q=>t σ H fun xs H1=>xs.length<=sizeLine/\∀p,H1 p=none->Q (.ref p) (upd H1 p (.tup xs))
noncomputable def tLst(t:TA):TE:=fun σ H Q=>t σ H fun xs H1=>xs.length<=sizeLine/\∀p,H1 p=none->Q (.ref p) (upd H1 p (.lst xs))
theorem Cn{x1}(h:PA X es t):PE X (.Tuple es x1 pos) (tTup t):=by
 intro pins s σ H Q I hq;refine wpAny_Tuple_spliced (bD (h pos pins s σ H _ I hq) fun us s1 ⟨xs,H1,I1,r,z,q⟩=>⟨by rw[<- r.length];exact z,?_⟩);have hf:H1 s1.heap.objs.size=none:=I1.hok.fresh (Io _);refine⟨.ref s1.heap.objs.size,upd H1 s1.heap.objs.size (.tup xs),I1.laid (t' :=s1.toks) (fun b u e=>Il _ e) (Io _) ?_,rfl,q _ hf⟩;exact⟨z,us,r,⟨_,JC _ rfl,rfl,_,rfl,rfl⟩⟩
theorem wO(h:PA X es t):PE X (.List es pos) (tLst t):=by
 intro pins s σ H Q I hq;refine wpAny_List_spliced (bD (h pos pins s σ H _ I hq) fun us s1 ⟨xs,H1,I1,r,z,q⟩=>⟨by rw[<- r.length];exact z,?_⟩);have hf:H1 s1.heap.objs.size=none:=I1.hok.fresh (Io _);refine⟨.ref s1.heap.objs.size,upd H1 s1.heap.objs.size (.lst xs),I1.laid (t' :=s1.toks) (fun b u e=>Il _ e) (Io _) ?_,rfl,q _ hf⟩;exact⟨z,us,0,r,JC _ rfl⟩
end
noncomputable abbrev Sp:=List V->Hp->VK->XK->Prop
noncomputable abbrev p9:=List Env->Hp->Shared->XK->Value->Shared->Prop
structure A3(P:Program)(w:World)(K:W.Frag)(mg:Str->Option Value)(base:Heap)(A:Around)(outer:List Env)(s:Shared)(H:Hp):Prop where
 frames:A.frames=some outer
 mod:Mod K mg base
 bs:∀b o,base.get? b=some o->s.heap.get? b=some o/\H b=none
 bsz:base.objs.size<=s.heap.objs.size
 funs:s.heap.FunFrames base outer
 frf:∀b∈p7 outer,H b=none
 hok:dw P w H s.heap
 bare:AllBare s.gens
noncomputable def CE(outer:List Env)(P:Program)(w:World)(H:Hp)(s:Shared)(Q:VK)(u:Value)(s' :Shared):Prop :=
 ∃v H',s'.os=s.os/\AllBare s'.gens/\Un (p7 outer) [] H H' s.heap s'.heap/\dw P w H' s'.heap/\RelV v u/\Q v H'
noncomputable def CR(CX:p9)(outer:List Env)(P:Program)(w:World)(H:Hp)(s:Shared)(Q:VK)(E:XK)(r:Result)(s' :Shared):Prop :=
 match r with
 | .ok (.ret u)=>CE outer P w H s Q u s'
 | .ok _=>False
 | .error e=>CX outer H s E e s'
structure bi(P:Program)(w:World)(K:W.Frag)(mg:Str->Option Value)(base:Heap)(CX:p9)(k:Nat)(f:Addr)(fd:FuncData)(ps:List Str)(sp:Sp):Prop where
 len:∀vs H Q E,sp vs H Q E->vs.length=ps.length
 run:∀(A:Around)(outer:List Env)(s:Shared)(H:Hp)(args:Args)(us:List Value)(vs:List V)(Q:VK)(E:XK),eD k A->A3 P w K mg base A outer s H->BindsTo s fd args (ps.zip us)->aQ vs us->sp vs H Q E ->
  codeAny (model P w) A (.call (.ref f) args) (CR CX outer P w H s Q E) s
theorem bi.imp{P:Program}{w:World}{K:W.Frag}{mg:Str->Option Value}{base:Heap}{CX:p9}{k:Nat}{f:Addr}{fd:FuncData}{ps:List Str}{sp sp' :Sp}(F:bi P w K mg base CX k f fd ps sp)
  (h:∀vs H Q E,sp' vs H Q E->sp vs H Q E):bi P w K mg base CX k f fd ps sp' :=
 ⟨fun vs H Q E q=>F.len vs H Q E (h _ _ _ _ q),fun A outer s H args us vs Q E hr he hb hv hs=>F.run A outer s H args us vs Q E hr he hb hv (h _ _ _ _ hs)⟩
section
variable{X:Cx}{pins:List (Addr×Obj)}{σ:St}{H:Hp}{s s' :Shared}
theorem Inv.env0(I:Inv X pins σ H s):A3 X.prog X.w X.K X.mg X.base X.A X.stack s H :=
 ⟨I.ok.frames,I.ok.mod,I.bs,JO I.ok.bsz I.sz,I.stack,I.stkFree,I.hok,I.bare⟩
theorem Inv.after{Q:VK}{u:Value}(I:Inv X pins σ H s)(h:CE X.stack X.prog X.w H s Q u s'):EP X pins σ Q u s' :=by
 obtain⟨v,H',os,bare,un,hok,r,q⟩:=h;obtain⟨hh,g,d,t,os'⟩:=s';obtain rfl:os' =s.os:=os;exact⟨v,H',I.call (h' :=hh) (g' :=g) (d' :=d) (t' :=t) (ch:=[]) un hok bare (fun b z=>absurd z (by simp)),r,q⟩
end
noncomputable def GH(sp:Sp)(dvs:List V)(E:XK)(t:TA):TE:=fun σ H Q=>t σ H fun vs H1=>sp (vs++dvs) H1 Q E
noncomputable def Binds(K:W.Frag)(fd:FuncData)(ps:List Str)(ds:List Value):Prop :=
 ∀(s:Shared)(us:List Value),K.In s.heap->(us++ds).length=ps.length->BindsTo s fd ⟨us,[]⟩ (ps.zip (us++ds))
theorem Binds.all{K:W.Frag}{fd:FuncData}{ps:List Str}(h:∀us:List Value,us.length=ps.length->bindArgs fd ⟨us,[]⟩=pure (ps.zip us)):Binds K fd ps []:=fun s us _ hl=>by
 rw[Jp]at hl ⊢;exact .of_eq (h us hl)
noncomputable def kP(CX:p9)(X:Cx)(E:XK):Prop:=∀(pins:List (Addr×Obj))(σ:St)(H:Hp)(s:Shared)(e:Value)(s' :Shared),Inv X pins σ H s->CX X.stack H s E e s' ->X.xe e s'
section
variable{X:Cx}{CX:p9}{k:Nat}{f C:Addr}{fd:FuncData}{ps:List Str}{sp:Sp}{dvs:List V}{ds:List Value}{E:XK}{x m:Str}{p pos apos:Pos}{e o:Expr}{es:List Expr}{ta:TE}{t:TA}
theorem CU{pins:List (Addr×Obj)}{σ:St}{H:Hp}{s:Shared}{Q:VK}{us:List Value}{vs:List V}(F:bi X.prog X.w X.K X.mg X.base CX k f fd ps sp)(hr:eD k X.A)(hb:Binds X.K fd ps ds)(hd:aQ dvs ds)(hx:kP CX X E)
  (I:Inv X pins σ H s) (r:aQ vs us) (h:sp (vs++dvs) H Q E):wpAny (model X.prog X.w) X.A (call (.ref f) us) (EP X pins σ Q) X.xe s:=by
 have r2:aQ (vs++dvs) (us++ds):=r.append hd;have hl:(us++ds).length=ps.length:=by rw[<- r2.length];exact F.len _ _ _ _ h
 refine wpAny_call (codeAny_mono (F.run X.A X.stack s H ⟨us,[]⟩ (us++ds) (vs++dvs) Q E hr I.env0 (hb s us I.kIn hl) r2 h) fun r s' hq=> ?_);cases r with
 | error e=>exact hx pins σ H s e s' I hq
 | ok fl =>
  cases fl with
  | ret u=>exact I.after hq
  | next=>exact False.elim hq
  | brk=>exact False.elim hq
  | cont=>exact False.elim hq
theorem m7(F:bi X.prog X.w X.K X.mg X.base CX k f fd ps sp)(hr:eD k X.A)(hg:Gl X x)(hm:X.mg x=some (.ref f))(hk:W.keepIn X.K (.ref f)=true)(hb:Binds X.K fd ps ds)(hd:aQ dvs ds)(hx:kP CX X E)
  (ha:PA X (e::es) t) (hdb:(x==("__debug__":Str))=false:=by decide) (he:starEach (e::es) X.env=(false,eval e X.env)::starEach es X.env:=by rfl) (hpl:(backTo pos (starEach es X.env)).any (·.1)=false:=by rfl) :
  PE X (.Call (.Name x p) (e::es) [] pos) (GH sp dvs E t):=by
 intro pins s σ H Q I h;refine LJ (gf I hg hm ?_ hdb);refine W.callWith_K (h₀:=X.base) I.ok.mod.kin hk (bD (ha pos pins s σ H _ I h) fun us s1 ⟨vs,H1,I1,r,q⟩=>⟨I1.kIn,?_⟩) he hpl;exact CU F hr hb hd hx I1 r q
end
section
variable{X:Cx}{CX:p9}{k:Nat}{f C:Addr}{fd:FuncData}{ps ks:List Str}{sp:Sp}{E:XK}{x m:Str}{p pos apos kpos:Pos}{e o:Expr}{es:List Expr}{kws:List Keyword}{te ta:TE}{t tk:TA}{nm:Option Str}
variable{g:List Value->List Value->List Value}{gV:List V->List V->List V}
end
structure aT(N P:List Str)(sc:Scope):Prop where
 kind:sc.kind=.function
 co:sc.isCoroutine=false
 gen:sc.isGenerator=false
 nd:N.Nodup
 pre:N.take P.length=P
 par:∀x∈P,sc.names.lookup x=some .local\/sc.names.lookup x=some .cell
 nofree:∀y∈sc.names,y.2≠.free
theorem mR{kindOf:Str->Option NameKind}{x:Str}:∀{binds:List (Str×Value)}{m:Str->Option Value},(∀v,(x,v)∉binds)->bindL kindOf binds m x=m x
 | [],_,_=>rfl
 | (n,v)::r,m,h=>by
  unfold bindL;rw[mR fun w hw=>h w (Im _ hw)]
  split
  ·have:x≠n:=by rintro rfl;exact h v Ip
   simp[this]
  ·rfl
theorem mT{kindOf:Str->Option NameKind}{x:Str}:∀{binds:List (Str×Value)}{m:Str->Option Value},(∀v,(x,v)∉binds)->bindC kindOf binds m x=m x
 | [],_,_=>rfl
 | (n,v)::r,m,h=>by
  unfold bindC;rw[mT fun w hw=>h w (Im _ hw)]
  split
  ·rfl
  ·have:x≠n:=by rintro rfl;exact h v Ip
   simp[this]
theorem mS{kindOf:Str->Option NameKind}{x:Str}{v:Value}:∀{P:List Str}{vs:List Value}{i:Nat}{m:Str->Option Value},P.Nodup->P[i]? =some x->vs[i]? =some v->kindOf x=some .local ->
  bindL kindOf (P.zip vs) m x=some v
 | [],_,_,_,_,h,_,_=>by simp at h
 | _::_,[],_,_,_,_,h,_=>by simp at h
 | p::P,w::vs,0,m,nd,h1,h2,hk=>by
  simp at h1 h2;subst h1;subst h2;show bindL kindOf ((p,w)::P.zip vs) m p=_;unfold bindL;rw[mR fun v hv=>(Jo.mp nd).1 (List.of_mem_zip hv).1,Ix hk];simp
 | p::P,w::vs,i+1,m,nd,h1,h2,hk=>by
  show bindL kindOf ((p,w)::P.zip vs) m x=_;unfold bindL;exact mS (i:=i) (Jo.mp nd).2 (by simpa using h1) (by simpa using h2) hk
theorem mU{kindOf:Str->Option NameKind}{x:Str}{v:Value}:∀{P:List Str}{vs:List Value}{i:Nat}{m:Str->Option Value},P.Nodup->P[i]? =some x->vs[i]? =some v->kindOf x≠some .local ->
  bindC kindOf (P.zip vs) m x=some v
 | [],_,_,_,_,h,_,_=>by simp at h
 | _::_,[],_,_,_,_,h,_=>by simp at h
 | p::P,w::vs,0,m,nd,h1,h2,hk=>by
  simp at h1 h2;subst h1;subst h2;show bindC kindOf ((p,w)::P.zip vs) m p=_;unfold bindC;rw[mT fun v hv=>(Jo.mp nd).1 (List.of_mem_zip hv).1,Iq hk];simp
 | p::P,w::vs,i+1,m,nd,h1,h2,hk=>by
  show bindC kindOf ((p,w)::P.zip vs) m x=_;unfold bindC;exact mU (i:=i) (Jo.mp nd).2 (by simpa using h1) (by simpa using h2) hk
noncomputable def start(N:List Str)(vs:List V):St:=vs.map some++List.replicate (N.length-vs.length) none
noncomputable def iP(CX:p9)(P:Program)(w:World)(K:W.Frag)(mg:Str->Option Value)(base:Heap)(N:List Str)(qual:Str)(scope:Scope)(f:Addr)(cd:Value)(A:Around)(outer:List Env)(s:Shared)(H:Hp)(E:XK):Cx where
 prog:=P
 w:=w
 K:=K
 mg:=mg
 base:=base
 A:=A.deeper (envOfC qual scope s.heap.objs.size f cd)
 N:=N
 s₀:=s
 H₀:=H
 env:=envOfC qual scope s.heap.objs.size f cd
 outer:=outer
 stack:=envOfC qual scope s.heap.objs.size f cd::outer
 ex:=[]
 calm:=true
 fn:=fun _=>true
 pn:=[]
 xe:=fun e s' =>wpAny (model P w) (A.deeper (envOfC qual scope s.heap.objs.size f cd)) (leaving (envOfC qual scope s.heap.objs.size f cd) e) (fun _ s'' =>CX outer H s E e s'') (fun e' s'' =>CX outer H s E e' s'') s'
theorem pW{sc:Scope}{n:Nat}{x:Str}(h:sc.names.lookup x=some .cell):∃c,(cellsFrom n sc.names []).lookup x=some c:=by
 have q:=W.cellsFrom_some sc.names n [] (.inl h);exact Option.isSome_iff_exists.mp q
theorem ub{CX:p9}{P:Program}{w:World}{K:W.Frag}{mg:Str->Option Value}{base:Heap}{N ps:List Str}{qual:Str}{scope:Scope}{f:Addr}{cd:Value}{A:Around}{outer:List Env}{s s1:Shared}{H:Hp}{E:XK}{us:List Value}{vs:List V}
  (S:aT N ps scope) (hd:A.handled=none) (e0:A3 P w K mg base A outer s H) (hl:vs.length=ps.length) (r:aQ vs us)
  (x:InCallC s s.heap.objs.size (bindL (envOfC qual scope s.heap.objs.size f cd).kindOf (ps.zip us) fun _=>none) (cellsFrom (s.heap.objs.size+1) scope.names []) (bindC (envOfC qual scope s.heap.objs.size f cd).kindOf (ps.zip us) fun _=>none) s1) :
  Inv (iP CX P w K mg base N qual scope f cd A outer s H E) [] (start N vs) H s1:=by
 have hpl:ps.length<=N.length:=by have:=Je List.length S.pre;rw[JS]at this;omega
 obtain⟨h1,tk,rfl,hk⟩:=x.done;have noA:∀b:Addr,b∉(iP CX P w K mg base N qual scope f cd A outer s H E).ex:=fun b z=>absurd (show b∈([]:List Addr)from z) (by simp)
 refine⟨⟨e0.mod,S.kind,rfl,rfl,Io _,fun y z c h1 h2=> ?_,fun y hy=> ?_,fun y c _ h=> ?_,fun _=>hd,Around.frames_deeper e0.frames,.inr ⟨rfl,rfl⟩,fun b z=>absurd z (noA b),e0.bs,e0.bsz,fun b _ _=>noA b,fun b z=>absurd z (noA b),e0.funs,e0.frf⟩,
  rfl,e0.bare,Un.kept hk,⟨_,x.toInCall.ns,fun i y v h1 h2 h3=> ?_⟩,fun y c h=>⟨_,x.cell y c h⟩,e0.hok.fresh (Io _),fun y c h=> ?_,fun p hp=>absurd (show p∈([]:List (Addr×Obj))from hp) (by simp),e0.hok.kept hk,?_⟩
 ·exact name_of_addr x.apart (JV h1) (JV h2)
 ·have hy:scope.names.lookup y=some .cell\/scope.names.lookup y=some .free:=hy
  rcases hy with hy|hy
  ·exact pW hy
  ·exact absurd rfl (S.nofree _ (JV hy))
 ·exact K0 (x.above y c (JV h))
 ·have hi:i<vs.length:=by
   unfold start at h2
   by_cases hi:i<vs.length
   ·exact hi
   ·rw[Jv (by simpa using hi)]at h2
    rw[List.getElem?_replicate]at h2
    split at h2<;>cases h2
  have ha:vs[i]? =some v:=by
   unfold start at h2;rw[Jx (by simpa using hi),Iy]at h2;cases e:vs[i]? with
   | none=>rw[e]at h2;cases h2
   | some a=>rw[e]at h2;cases h2;rfl
  obtain⟨u,hu,rv⟩:=r.get ha;have hp:ps[i]? =some y:=by
   rw[<- S.pre,List.getElem?_take_of_lt (by omega)];exact h1
  have ndP:ps.Nodup:=by rw[<- S.pre];exact S.nd.sublist (List.take_sublist _ _)
  refine⟨u,rv,?_⟩
  rcases S.par y (JL hp)with k|k
  ·exact .inl ⟨k,mS ndP hp hu k⟩
  ·obtain⟨c,e⟩:=pW (n:=s.heap.objs.size+1) k
   refine .inr ⟨.inl k,c,e,?_⟩;have q:=x.cell y c e;rw[mU ndP hp hu (by show scope.names.lookup y≠_;rw[k];decide)]at q;exact q
 ·exact e0.hok.fresh (K0 (x.above y c (JV h)))
 ·unfold start
  show _=N.length;rw[JA,Ik,List.length_replicate];omega
theorem Ba{CX:p9}{P:Program}{w:World}{K:W.Frag}{mg:Str->Option Value}{base:Heap}{k:Nat}{f:Addr}{name qual:Str}{params:Arguments}{body:List Stmt}{scope:Scope}{dV kV doc pm cdv ct oc:Value}{an od:Option Addr}
  {osl:Array (Option Value)} {N ps:List Str} {sp:Sp} (lk:K.lookup f=some ⟨oc,od,.func (W.fnOf name qual params body scope dV kV doc pm an cdv ct),osl⟩) (hcd:W.codeIn K cdv qual=true) (S:aT N ps scope)
  (len:∀vs H Q E,sp vs H Q E->vs.length=ps.length)
  (hbody:∀(A:Around)(outer:List Env)(s:Shared)(H:Hp)(vs:List V)(Q:VK)(E:XK),eD k (A.deeper (envOfC qual scope s.heap.objs.size f cdv))->sp vs H Q E ->
   ∃t,pz (iP CX P w K mg base N qual scope f cdv A outer s H E) body t/\t {nx:=fun _ H' =>Q .non H',rt:=Q} (start N vs) H) :
  bi P w K mg base CX (k+1) f (W.fnOf name qual params body scope dV kV doc pm an cdv ct) ps sp:=by
 refine⟨len,fun A outer s H args us vs Q E hr e0 hb r hsp=> ?_⟩;have hl:=len _ _ _ _ hsp;have KX:K.In s.heap:=e0.mod.kin.keeps fun b o e=>(e0.bs b o e).1;have lim:s.heap.NoLimit:=e0.mod.nolimit.keeps fun b o e=>(e0.bs b o e).1;have hkind:∀y∈ps.zip us,scope.names.lookup y.1=some .local\/(scope.names.lookup y.1=some .cell/\((cellsFrom (s.heap.objs.size+1) scope.names []).lookup y.1).isSome=true):=fun⟨n,v⟩ hy=>by
  rcases S.par n (List.of_mem_zip hy).1 with q|q
  ·exact .inl q
  ·exact .inr ⟨q,W.cellsFrom_some _ _ _ (.inl q)⟩
 refine codeAny_call_function hr.depth (KX _ _ lk) rfl S.co S.gen rfl (W.codeRec_of KX hcd) (hb _ _ _ _ ?_);refine wpAny_newFunctionEnv_cells S.kind hkind fun env he s1 x=> ?_;subst he;refine⟨lim.keeps x.toInCall.keep,codeAny_func ?_⟩;obtain⟨t,ht,hq⟩:=hbody A outer s H vs Q E (hr.deeper _) hsp;have I:Inv (iP CX P w K mg base N qual scope f cdv A outer s H E) [] (start N vs) H s1:=ub S hr.hd e0 hl r x;refine Kb (ht [] s1 (start N vs) H _ I hq) (fun fl s' hs=> ?_) fun e s' hs=>hs
 have fin:∀{σ' :St}{H' :Hp}{v:V}{u:Value},Inv (iP CX P w K mg base N qual scope f cdv A outer s H E) [] σ' H' s' ->RelV v u->Q v H' ->CE outer P w H s Q u s' :=
  fun{σ' H' v u} J rv q=>⟨v,H',J.os,J.bare,J.base,J.hok,rv,q⟩
 cases fl with
 | ret u =>
  obtain⟨v,σ',H',J,rv,q⟩:=hs;exact fin J rv q
 | next =>
  obtain⟨σ',H',J,q⟩:=hs;exact fin (v:=V.non) (u:=Value.none) J rfl q
 | brk =>
  obtain⟨_,_,_,q⟩:=hs;exact False.elim q
 | cont =>
  obtain⟨_,_,_,q⟩:=hs;exact False.elim q
section
variable{X:Cx}{x:Str}{p pos:Pos}{e:Expr}{es:List Expr}{t:TA}{id T:String}{r:List V->Hp->VK->Prop}
noncomputable def tCB(r:List V->Hp->VK->Prop)(t:TA):TE:=fun σ H Q=>t σ H fun vs H1=>r vs H1 Q
theorem gb(hc:bR X (.builtin id) r)(hg:Gl X x)(hm:X.mg x=none)(hv:bootBuiltins x=some (.builtin id))(ha:PA X (e::es) t)(hn:x≠"__name__":=by decide)(hdb:(x==("__debug__":Str))=false:=by decide)
  (he:starEach (e::es) X.env=(false,eval e X.env)::starEach es X.env:=by rfl) (hpl:(backTo pos (starEach es X.env)).any (·.1)=false:=by rfl):PE X (.Call (.Name x p) (e::es) [] pos) (tCB r t):=by
 intro pins s σ H Q I h;refine LJ (cI I hg hm hv ?_ hn hdb);exact PyProof.Rows.callWith_builtin1 (bD (ha pos pins s σ H _ I h) fun us s1 ⟨vs,H1,I1,r1,q1⟩=>hc pins s1 σ H1 vs us Q I1 r1 q1) he hpl
theorem lj(hc:bR X (.type T) r)(hg:Gl X x)(hm:X.mg x=none)(hv:bootBuiltins x=some (.type T))(ha:PA X (e::es) t)(hn:x≠"__name__":=by decide)(hdb:(x==("__debug__":Str))=false:=by decide)
  (he:starEach (e::es) X.env=(false,eval e X.env)::starEach es X.env:=by rfl) (hpl:(backTo pos (starEach es X.env)).any (·.1)=false:=by rfl):PE X (.Call (.Name x p) (e::es) [] pos) (tCB r t):=by
 intro pins s σ H Q I h;refine LJ (cI I hg hm hv ?_ hn hdb);exact JZ (bD (ha pos pins s σ H _ I h) fun us s1 ⟨vs,H1,I1,r1,q1⟩=>hc pins s1 σ H1 vs us Q I1 r1 q1) he hpl
end
end L2
namespace HT
open PySem PyProof.Rows
section
open PySem.SeqAt
open PySem.AutoSeq1 (wpAny_loadPart')
open PySem.MeetsSeq PySem.MeetsSeq2 PySem.MeetsSeq3
end
section
variable{prog:Program}{w:World}{A:Around}{E:Value->Shared->Prop}{s:Shared}
theorem Af{t b:Addr}{vs ws:List Value}{Q:Value->Shared->Prop}(ht:IsTup s.heap t vs.toArray)(hb:IsTup s.heap b ws.toArray)(hv:vs≠[])
  (h1:ws=[]->Q (.ref t) s) (h2:ws≠[]->Q (.ref s.heap.objs.size) {s with heap:=s.heap.push {cls:=.type "tuple",data:=.seq (vs++ws).toArray}})
  (hsz:vs.length+ws.length<=sizeLine):wpAny (model prog w) A (binaryOp .Add (.ref t) (.ref b)) Q E s:=by
 obtain⟨⟨cls,dd,data,sl⟩,ho,hc,n,hd⟩:=id ht;obtain⟨⟨cls2,dd2,data2,sl2⟩,ho2,hc2,n2,hd2⟩:=id hb;simp only at hc hd hc2 hd2;subst hc hd hc2 hd2;have e:vs.toArray++ws.toArray=(vs++ws).toArray:=by simp
 by_cases hw:ws=[]
 ·exact concat_meets ⟨_,ho,rfl⟩ ⟨_,ho2,rfl⟩ noFill_tuple_add seq_tuple_add PySem.F.slot_tuple_add PySem.F.entry_tuple_add (Lp _ _)
   (tuple_addW1 t b vs.toArray ws.toArray n n2 dd dd2 sl sl2 (by simpa using hv) (by simp[hw])) ⟨ho,ho2,h1 hw⟩
 ·refine concat_meets ⟨_,ho,rfl⟩ ⟨_,ho2,rfl⟩ noFill_tuple_add seq_tuple_add PySem.F.slot_tuple_add PySem.F.entry_tuple_add (Lp _ _)
   (tuple_addW2 t b vs.toArray ws.toArray n n2 dd dd2 sl sl2 (by simpa using hv) (by simpa using hw) (by rw[I0,I0];exact hsz)) ⟨ho,ho2,?_⟩
  rw[e];exact h2 hw
noncomputable def bP(n d:Nat):Option Int->Nat
 | none=>d
 | some v=>if v<0 then(v+(n:Int)).toNat else min v.toNat n
theorem jf(n d:Nat):bP n d none=d:=rfl
theorem i5(n d k:Nat):bP n d (some (k:Int))=min k n:=by
 show(if(k:Int)<0 then((k:Int)+(n:Int)).toNat else min (k:Int).toNat n)=min k n;rw[Iq (by omega),Ln]
theorem CT(n d:Nat)(hd:d<=n)(o:Option Int):bP n d o<=n:=by
 cases o with
 | none=>exact hd
 | some v =>
  show(if v<0 then(v+(n:Int)).toNat else min v.toNat n)<=n
  by_cases hv:v<0
  ·rw[Ix hv];omega
  ·rw[Iq hv];exact Nat.min_le_right _ _
theorem tQ(v:Int)(n d:Nat):(if v<0 then max (v+(n:Int)) 0 else min v (n:Int))=((bP n d (some v):Nat):Int):=by
 show(if v<0 then max (v+(n:Int)) 0 else min v (n:Int))=(((if v<0 then(v+(n:Int)).toNat else min v.toNat n):Nat):Int)
 by_cases hv:v<0
 ·simp only[Ix hv];omega
 ·simp only[Iq hv];omega
theorem rM(lo hi:Option Int)(n:Nat):Builtin.Slice.sliceAdjust lo hi 1 (n:Int)=(((bP n 0 lo:Nat):Int),((bP n n hi:Nat):Int)):=by
 have h1:¬((1:Int)<0):=by omega
 unfold Builtin.Slice.sliceAdjust;simp only[h1,if_false];refine Prod.ext ?_ ?_
 ·cases lo with
  | none=>rfl
  | some v=>exact tQ v n 0
 ·cases hi with
  | none=>rfl
  | some v=>exact tQ v n n
theorem qQ(i j:Nat):Builtin.Slice.slicePlaces (i:Int) (j:Int) 1=j-i:=by
 unfold Builtin.Slice.slicePlaces;have h1:(1:Int)>0:=by omega
 simp only[h1,Kp,Int.ediv_one]
 split<;>omega
theorem jd{v:Value}{o:Option Int}{Q:Option Int->Shared->Prop}(p:IsPart v o)(h:Q o s):wpAny (model prog w) A (Builtin.Slice.slicePartIndex v) Q E s:=by
 cases p with
 | none=>exact slicePart_none h
 | int i t=>exact slicePart_int h
theorem dR{sl:Addr}{vl vu:Value}{lo hi:Option Int}{n:Nat}{Q:Int×Int×Nat->Shared->Prop}(hs:s.heap.IsSliceOf sl vl vu .none)(pl:IsPart vl lo)(pu:IsPart vu hi)
  (h:Q (((bP n 0 lo:Nat):Int),1,bP n n hi-bP n 0 lo) s):wpAny (model prog w) A (Builtin.Slice.sliceApplied (.ref sl) (pure (n:Int))) Q E s:=by
 obtain⟨os,hos,hcs,hds⟩:=id hs;unfold Builtin.Slice.sliceApplied Builtin.Slice.sliceFields;refine Ij (Ij (Jt hos hds (x:=vl) rfl (Ij (Jt hos hds (x:=vu) rfl (Ij (Jt hos hds (x:=.none) rfl (JB ?_)))))));refine Ij (slicePart_none ?_);show wpAny _ _ (if((1:Int)==0)=true then _ else _) _ _ s;rw[Iq (by decide)];refine Ij (jd pl (Ij (jd pu (Ij (JB ?_)))));show wpAny _ _ (match Builtin.Slice.sliceAdjust lo hi 1 (n:Int)with|(lo,hi)=>pure (lo,(1:Int),Builtin.Slice.slicePlaces lo hi 1)) _ _ s;rw[rM lo hi n];show wpAny _ _ (pure (((bP n 0 lo:Nat):Int),(1:Int),Builtin.Slice.slicePlaces ((bP n 0 lo:Nat):Int) ((bP n n hi:Nat):Int) 1)) _ _ s;rw[qQ];exact JB h
theorem wH(xs:Array Value)(i k:Nat):((List.range k).filterMap fun(m:Nat)=>xs[((i:Int)+(m:Int)*1).toNat]?).toArray=((xs.toList.drop i).take k).toArray:=by
 have e:(fun(m:Nat)=>xs[((i:Int)+(m:Int)*1).toNat]?)=fun m=>xs[i+m]? :=by
  funext m
  have:((i:Int)+(m:Int)*1).toNat=i+m:=by omega
  rw[this]
 rw[e];have:=pick_run xs i k;rw[List.filterMap_map]at this;have e2:((fun x=>xs[x]?)∘fun x=>i+x)=fun m=>xs[i+m]? :=rfl;rw[e2]at this;rw[this]
theorem gj{t sl:Addr}{items:Array Value}{vl vu:Value}{lo hi:Option Int}{Q:Value->Shared->Prop}(ht:IsTup s.heap t items)(hs:s.heap.IsSliceOf sl vl vu .none)(pl:IsPart vl lo)(pu:IsPart vu hi)
  (hw:¬(bP items.size 0 lo=0/\bP items.size items.size hi=items.size))
  (h:Q (.ref s.heap.objs.size) {s with heap:=s.heap.push {cls:=.type "tuple",data:=.seq ((items.toList.drop (bP items.size 0 lo)).take (bP items.size items.size hi-bP items.size 0 lo)).toArray}})
  (hsz:items.size<=sizeLine):wpAny (model prog w) A (getItem (.ref t) (.ref sl)) Q E s:=by
 have htake:sizeOk (.seq ((items.toList.drop (bP items.size 0 lo)).take (bP items.size items.size hi-bP items.size 0 lo)).toArray):=by
  show((items.toList.drop (bP items.size 0 lo)).take (bP items.size items.size hi-bP items.size 0 lo)).toArray.size<=sizeLine;rw[I0,JS,LQ,Jd];omega
 have hj:bP items.size items.size hi<=items.size:=CT _ _ (Io _) hi;obtain⟨os,hos,hcs,hds⟩:=id hs;have hTs:s.TypeIs (.ref sl) "slice":=⟨os,hos,hcs⟩;unfold getItem
 try with_reducible refine LA ?_
 first|refine Ij (JB ?_)|skip
 refine Ij (wpAny_sequenceKey ht.typeIs (by decide) ?_)
 refine Ij (KO (name:=Str.ofString "__getitem__") ht.typeIs Ju
  (Js Ju ht.typeIs entry_tuple_getitem ?_ (args_tuple_getitem _ _)))
 show wpAny _ _ (Builtin.Tuple.tupleItemsOf (.ref t) >>= _) _ _ s;refine Ij (tupleItemsOf_ ht ?_);refine Ij (wpAny_typeOf hTs ?_);rw[Ix (by decide)];refine Ij (dR hs pl pu ?_);have hno:¬((((bP items.size 0 lo:Nat):Int)==0&&(1:Int)==1&&(bP items.size items.size hi-bP items.size 0 lo)==items.size)=true):=by
  intro q;rw[Iu,Iu]at q;have q1:((bP items.size 0 lo:Nat):Int)=0:=JN q.1.1;have q2:bP items.size items.size hi-bP items.size 0 lo=items.size:=JN q.2;exact hw ⟨by omega,by omega⟩
 show wpAny _ _ (if(((bP items.size 0 lo:Nat):Int)==0&&(1:Int)==1&&(bP items.size items.size hi-bP items.size 0 lo)==items.size)=true then _ else _) _ _ s;rw[Iq hno,wH]
 first
  | exact Ij (m:=Builtin.Tuple.tupleExact _) (Jm (JB ⟨_,rfl,JB h⟩) htake)
  | exact Ij (m:=Builtin.Tuple.tupleExact _) (Jm (Ij (JB (JB ⟨_,rfl,JB h⟩))) htake)
  | exact Ij (Ij (m:=Builtin.Tuple.tupleExact _) (Jm (JB (JB ⟨_,rfl,JB h⟩)) htake))
  | exact Ij (Ij (m:=Builtin.Tuple.tupleExact _) (Jm (JB ⟨_,rfl,JB h⟩) htake))
end
end HT
namespace L2
open PySem PySem.Spec PyProof.Rows
noncomputable abbrev TO:=St->Hp->(Option Int->Hp->Prop)->Prop
noncomputable def PO(X:Cx)(e:Option Expr)(t:TO):Prop :=
 ∀(pins:List (Addr×Obj))(s:Shared)(σ:St)(H:Hp)(Q:Option Int->Hp->Prop),Inv X pins σ H s->t σ H Q ->
  wpAny (model X.prog X.w) X.A (evalPart e X.env) (fun u s' =>∃o H',Inv X pins σ H' s' /\IsPart u o/\Q o H') X.xe s
noncomputable def ym:TO:=fun _ H Q=>Q none H
noncomputable def GA(t:TE):TO:=fun σ H Q=>t σ H fun x H1=>∃i,x=.int i/\Q (some i) H1
theorem intsAre_of{ns:List Int}:∀{us:List Value},aQ (ns.map V.int) us->IntsAre us ns:=by
 induction ns with
 | nil=>intro us r;rw[Kl]at r;cases r;exact .nil
 | cons n ns ih =>
  intro us r;rw[JH]at r;cases r with
  | cons r1 r2 =>
   obtain⟨t,e⟩:=r1;subst e;exact .cons n t (ih r2)
section
variable{X:Cx}{e:Expr}{te:TE}{lo hi:Option Expr}{tl th:TO}{pos p2:Pos}
theorem zF:PO X none ym:=by
 intro pins s σ H Q I h;rw[evalPart_none];exact JB ⟨none,H,I,.none,h⟩
theorem zE(h:PE X e te):PO X (some e) (GA te):=by
 intro pins s σ H Q I hw;rw[evalPart_some];refine bD (h pins s σ H _ I hw) fun u s1 hpq=> ?_;obtain⟨x,H1,I1,r1,q1⟩:=hpq;obtain⟨i,rfl,q⟩:=q1;obtain⟨t,rfl⟩:=r1;exact⟨some i,H1,I1,.int i t,q⟩
noncomputable def FW(X:Cx)(r:V->Option Int->Option Int->Hp->VK->Prop):Prop :=
 ∀(pins:List (Addr×Obj))(s:Shared)(σ:St)(H:Hp)(x:V)(v vl vu:Value)(lo hi:Option Int)(sl:Addr)(Q:VK),Inv X pins σ H s->RelV x v->s.heap.IsSliceOf sl vl vu .none->IsPart vl lo->IsPart vu hi->r x lo hi H Q ->
  ∃T id,typeLookup (.type T) "__getitem__"=pure (some (.builtin id))/\s.TypeIs v T/\wpAny (model X.prog X.w) X.A (getItem v (.ref sl)) (EP X pins σ Q) X.xe s
noncomputable def tSl(r:V->Option Int->Option Int->Hp->VK->Prop)(te:TE)(tl th:TO):TE:=fun σ H Q=>te σ H fun x H1=>tl σ H1 fun l H2=>th σ H2 fun u H3=>r x l u H3 Q
theorem wN{r:V->Option Int->Option Int->Hp->VK->Prop}(hr:FW X r)(he:PE X e te)(hl:PO X lo tl)(hu:PO X hi th):PE X (.Subscript e (.Slice lo hi none p2) pos) (tSl r te tl th):=by
 intro pins s σ H Q I h;refine Subscript_ (bD (he pins s σ H _ I h) fun v s1 hpq=> ?_);obtain⟨x,H1,I1,r1,q1⟩:=hpq;refine wpAny_Slice (bD (hl pins s1 σ H1 _ I1 q1) fun vl s2 ⟨l,H2,I2,pl,q2⟩=>bD (hu pins s2 σ H2 _ I2 q2) fun vu s3 hpq=> ?_);obtain⟨u,H3,I3,pu,q3⟩:=hpq;rw[evalPart_none];refine JB ?_;have I4:Inv X pins σ H3 {s3 with heap:=s3.heap.push {cls:=.type "slice",data:=.fields #[vl,vu,.none]}}:=I3.kept (t' :=s3.toks) fun b ob q=>Il _ q;obtain⟨T,id,hT,ht,hg⟩:=hr pins {s3 with heap:=s3.heap.push {cls:=.type "slice",data:=.fields #[vl,vu,.none]}} σ H3 x v vl vu l u s3.heap.objs.size Q I4 r1 (Heap.IsSliceOf.new ..) pl pu q3;show wpAny (model X.prog X.w) X.A (subscriptTail e (.Slice lo hi none p2) v (.ref s3.heap.objs.size)) (EP X pins σ Q) X.xe {s3 with heap:=s3.heap.push {cls:=.type "slice",data:=.fields #[vl,vu,.none]}};exact tail_any (ops:=[.ref s3.heap.objs.size,v]) ht hT hg (by with_unfolding_all rfl)
noncomputable def pU(xs:List V)(lo hi:Option Int):List V:=(xs.drop (HT.bP xs.length 0 lo)).take (HT.bP xs.length xs.length hi-HT.bP xs.length 0 lo)
theorem ig(xs:List V)(lo hi:Option Int):(pU xs lo hi).length<=xs.length:=by
 unfold pU;rw[JS,LQ];omega
noncomputable def rSlT(K:W.Frag):V->Option Int->Option Int->Hp->VK->Prop:=fun x lo hi H Q=>∃a xs,x=.ref a/\bw K H a xs /\
 ¬(HT.bP xs.length 0 lo=0/\HT.bP xs.length xs.length hi=xs.length)/\∀p,H p=none->Q (.ref p) (upd H p (.tup (pU xs lo hi)))
theorem CN:FW X (rSlT X.K):=by
 intro pins s σ H x v vl vu lo hi sl Q I rx hs pl pu h;obtain⟨a,xs,rfl,hx,hw,q⟩:=h;cases rx;obtain⟨its,r,ht,hz⟩:=I.tuple hx;have hlen:its.toArray.size=xs.length:=by rw[I0];exact r.length.symm
 refine⟨"tuple",_,Ju.lookup,ht.typeIs,?_⟩;refine HT.gj ht hs pl pu (by rw[hlen];exact hw) ?_ (by rw[hlen];exact hz);rw[hlen];refine⟨.ref s.heap.objs.size,_,I.laid (t' :=s.toks) (o:=.tup (pU xs lo hi)) (fun b ob q=>Il _ q) (Io _) ?_,rfl,q _ (I.hok.fresh (Io _))⟩;exact⟨JO (ig xs lo hi) hz,_,(r.drop (HT.bP xs.length 0 lo)).take (HT.bP xs.length xs.length hi-HT.bP xs.length 0 lo),eY.new _ _⟩
noncomputable def Gm(K:W.Frag):R2:=fun x y H Q=>∃a b xs ys,x=.ref a/\y=.ref b/\bw K H a xs/\bw K H b ys/\xs≠[]/\xs.length+ys.length<=sizeLine /\
 (ys=[]->Q (.ref a) H)/\(ys≠[]->∀p,H p=none->Q (.ref p) (upd H p (.tup (xs++ys))))
theorem aQ.nil_iff{xs:List V}{us:List Value}(r:aQ xs us):us=[]↔xs=[]:=by
 cases r with
 | nil=>simp
 | cons _ _=>simp
theorem zS:dv X (binaryOp .Add) (Gm X.K):=by
 intro pins s σ H x y v u Q I rx ry h;obtain⟨a,b,xs,ys,rfl,rfl,ha,hb,hx,hz,q1,q2⟩:=h;cases rx;cases ry;obtain⟨its,r1,p1,_⟩:=I.tuple ha;obtain⟨its2,r2,p2,_⟩:=I.tuple hb;refine HT.Af p1 p2 (fun z=>hx (r1.nil_iff.mp z)) (fun z=>⟨.ref a,H,I,rfl,q1 (r2.nil_iff.mp z)⟩) (fun z=> ?_) (by rw[<- r1.length,<-r2.length];exact hz);refine⟨.ref s.heap.objs.size,_,I.laid (t' :=s.toks) (o:=.tup (xs++ys)) (fun b ob q=>Il _ q) (Io _) ?_,rfl,q2 (fun w=>z (r2.nil_iff.mpr w)) _ (I.hok.fresh (Io _))⟩;exact⟨by rw[JA];exact hz,_,r1.append r2,eY.new _ _⟩
end
noncomputable def oz(n:Nat)(i:Int):Option Nat:=if 0<=i then(if i<n then some i.toNat else none)else if -(n:Int)<=i then some (i+n).toNat else none
noncomputable def dC{α:Type}(xs:List α)(i:Int):Option α:=(oz xs.length i).bind fun j=>xs[j]?
theorem zt{n:Nat}{i:Int}{j:Nat}(h:oz n i=some j):seqIndex? i n=some j/\j<n/\ -(n:Int)<=i/\i<n:=by
 unfold oz at h
 by_cases h0:0<=i
 ·rw[Ix h0]at h
  by_cases h1:i<n
  ·rw[Ix h1]at h
   have e:i.toNat=j:=JF h;exact⟨by rw[seqIndex_of h0 h1,e],by omega,by omega,h1⟩
  ·rw[Iq h1]at h;cases h
 ·rw[Iq h0]at h
  by_cases h1: -(n:Int)<=i
  ·rw[Ix h1]at h
   have e:(i+n).toNat=j:=JF h;exact⟨by rw[seqIndex_neg (by omega) h1,e],by omega,h1,by omega⟩
  ·rw[Iq h1]at h;cases h
theorem nW{α:Type}{xs:List α}{i:Int}{v:α}(h:dC xs i=some v):∃j,seqIndex? i xs.length=some j/\xs[j]? =some v/\j<xs.length/\ -(xs.length:Int)<=i/\i<xs.length:=by
 unfold dC at h;cases e:oz xs.length i with
 | none=>rw[e]at h;cases h
 | some j =>
  rw[e]at h;obtain⟨h1,h2,h3,h4⟩:=zt e;exact⟨j,h1,h,h2,h3,h4⟩
theorem bh{α:Type}{xs:List α}{j:Nat}{v:α}(h:xs[j]? =some v):dC xs (j:Int)=some v:=by
 have hj:j<xs.length:=(Iw.mp h).1;have e:oz xs.length (j:Int)=some j:=by
  unfold oz;rw[Ix (by omega),Ix (by omega)];simp
 unfold dC;rw[e];exact h
theorem pq{α:Type}(xs:List α)(v:α):dC (xs++[v]) (-1)=some v:=by
 have hl:(xs++[v]).length=xs.length+1:=by simp
 have e:oz (xs++[v]).length (-1)=some xs.length:=by
  unfold oz;rw[hl,Iq (by decide),Ix (by omega)]
  congr 1
  omega
 unfold dC;rw[e];show(xs++[v])[xs.length]? =some v;simp
noncomputable def tV(b:Expr):Prop:=∀o i,subscripted b false o i=operate [o,i] (getItem o i)
noncomputable def Ia(X:Cx)(r:R2):Prop :=
 ∀(value slice:Expr)(pins:List (Addr×Obj))(s:Shared)(σ:St)(H:Hp)(x y:V)(v u:Value)(Q:VK),Inv X pins σ H s->RelV x v->RelV y u->r x y H Q ->
  subscripted slice false v u=operate [v,u] (getItem v u)->wpAny (model X.prog X.w) X.A (subscriptTail value slice v u) (EP X pins σ Q) X.xe s
noncomputable def FG(X:Cx)(id:String)(r:V->List V->Hp->VK->Prop):Prop :=
 ∀(pins:List (Addr×Obj))(s:Shared)(σ:St)(H:Hp)(x:V)(xs:List V)(v:Value)(us:List Value)(Q:VK),Inv X pins σ H s->RelV x v->aQ xs us->r x xs H Q ->
  wpAny (model X.prog X.w) X.A (call (.builtin id) (v::us)) (EP X pins σ Q) X.xe s
section
variable{X:Cx}{a b:Expr}{ta tb:TE}{pos:Pos}
theorem BO{r:R2}(hr:Ia X r)(ha:PE X a ta)(hb:PE X b tb)(hs:tV b):PE X (.Subscript a b pos) (tOp r ta tb):=by
 intro pins s σ H Q I h;exact Subscript_ (EW ha hb I h fun v u s2 x y H2 I2 rx ry q=>hr a b pins s2 σ H2 x y v u Q I2 rx ry q (hs _ _))
noncomputable def rIxL(K:W.Frag):R2:=fun x y H Q=>∃p xs i v,x=.ref p/\y=.int i/\bN K H p xs/\dC xs i=some v/\Q v H
noncomputable def rIxT(K:W.Frag):R2:=fun x y H Q=>∃p xs i v,x=.ref p/\y=.int i/\bw K H p xs/\dC xs i=some v/\Q v H
noncomputable def rIxS:R2:=fun x y H Q=>∃z i c,x=.str z/\y=.int i/\z.length<=sizeLine/\dC z.cps.toList i=some c/\Q (.str ⟨#[c]⟩) H
theorem jD:Ia X (rIxL X.K):=by
 intro value slice pins s σ H x y v u Q I rx ry h hs;obtain⟨p,xs,i,z,rfl,rfl,hq,he,q⟩:=h;cases rx;obtain⟨t,rfl⟩:=ry;obtain⟨its,r,pl,hz⟩:=I.list hq;obtain⟨j,h1,h2,h3,h4,h5⟩:=nW he;obtain⟨w,ew,rw'⟩:=r.get h2;have hl:=r.length;have hn:=iH;have fin:EP X pins σ Q w s:=⟨z,H,I,rw',q⟩
 by_cases h0:0<=i
 ·have hj:i.toNat=j:=by
   rw[seqIndex_of h0 h5]at h1;exact JF h1
  exact item_listR pl.isList h0 (by omega) (by rw[hj];simpa using ew) fin hs
 ·have hj:(i+(its.toArray.size:Int)).toNat=j:=by
   rw[seqIndex_neg (by omega) h4]at h1;rw[I0,<-hl];exact JF h1
  exact subscriptTail_builtinR (x:=w) pl.isList.typeIs slot_list_getitem.lookup
   (wpAny_getItem_list_neg (Q:=fun r s' =>r=w/\EP X pins σ Q r s') pl.isList (by omega) (by rw[I0]<;>omega) (by omega) (by rw[hj];simpa using ew) ⟨rfl,fin⟩) hs
theorem xG:Ia X (rIxT X.K):=by
 intro value slice pins s σ H x y v u Q I rx ry h hs;obtain⟨p,xs,i,z,rfl,rfl,hq,he,q⟩:=h;cases rx;obtain⟨t,rfl⟩:=ry;obtain⟨its,r,pl,hz⟩:=I.tuple hq;obtain⟨j,h1,h2,h3,h4,h5⟩:=nW he;obtain⟨w,ew,rw'⟩:=r.get h2;have hl:=r.length;have hn:=iH;have fin:EP X pins σ Q w s:=⟨z,H,I,rw',q⟩
 exact subscriptTail_builtinR (x:=w) pl.typeIs slot_tuple_getitem.lookup
  (getItem_tuple (j:=j) (Q:=fun r s' =>r=w/\EP X pins σ Q r s') pl (by omega) (by omega) (by rw[I0,<-hl];exact h1) (by simpa using ew) ⟨rfl,fin⟩) hs
theorem DP:Ia X rIxS:=by
 intro value slice pins s σ H x y v u Q I rx ry h hs;obtain⟨z,i,c,rfl,rfl,hz,he,q⟩:=h;obtain⟨t,rfl⟩:=rx;obtain⟨t',rfl⟩:=ry;obtain⟨j,h1,h2,h3,h4,h5⟩:=nW he;have hl:z.cps.toList.length=z.length:=by simp[Str.length]
 rw[hl]at h1 h4 h5;have hn:=iH
 exact tail_any (LK s z t) slot_str_getitem.lookup (getItem_str (c:=c) (by
  have e1:decide (i< -(2^63:Int))=false:=JK (by omega);have e2:decide (i ≥ 2^63)=false:=JK (by omega);rw[e1,e2,Bool.or_false]) (by rw[h1];simpa using h2) ⟨.str ⟨#[c]⟩,H,I.tok _,⟨_,rfl⟩,q⟩) hs
theorem Inv.lst{pins:List (Addr×Obj)}{σ:St}{H:Hp}{s:Shared}{p:Addr}{xs:List V}(I:Inv X pins σ H s)(h:H p=some (.lst xs)) :
  ∃(its:List Value)(n:Nat),aQ xs its/\s.heap.get? p=some {cls:=.type "list",data:=.seq its.toArray n}/\xs.length<=sizeLine:=by
 obtain⟨z,its,n,r,e⟩:=I.hok p _ h;exact⟨its,n,r,e,z⟩
theorem mn(lo hi:Option Int)(n:Nat):(sliceBounds lo hi none n).1=((HT.bP n 0 lo:Nat):Int)/\(sliceBounds lo hi none n).2.1=((HT.bP n n hi:Nat):Int)/\(sliceBounds lo hi none n).2.2=1:=by
 refine⟨?_,?_,rfl⟩
 ·cases lo with
  | none=>simp[sliceBounds,HT.bP]
  | some i =>
   simp only[sliceBounds,HT.bP,Option.getD_none,show(1:Int)>0 by decide,Kp]
   by_cases h:i<0
   ·simp only[h,Kp]<;>omega
   ·simp only[h,if_false]<;>omega
 ·cases hi with
  | none=>simp[sliceBounds,HT.bP]
  | some i =>
   simp only[sliceBounds,HT.bP,Option.getD_none,show(1:Int)>0 by decide,Kp]
   by_cases h:i<0
   ·simp only[h,Kp]<;>omega
   ·simp only[h,if_false]<;>omega
theorem kU(its:List Value)(lo hi:Option Int):slicePick its.toArray lo hi none=((its.drop (HT.bP its.length 0 lo)).take (HT.bP its.length its.length hi-HT.bP its.length 0 lo)).toArray:=by
 obtain⟨h1,h2,h3⟩:=mn lo hi its.toArray.size;unfold slicePick;rw[h1,h2,h3];simp only[sliceRange_one,pick_run,I0]<;>rfl
noncomputable def rSlL(K:W.Frag):V->Option Int->Option Int->Hp->VK->Prop:=fun x lo hi H Q=>∃a xs,x=.ref a/\bN K H a xs/\∀p,H p=none->Q (.ref p) (upd H p (.lst (pU xs lo hi)))
theorem yo:FW X (rSlL X.K):=by
 intro pins s σ H x v vl vu lo hi sl Q I rx hs pl pu h;obtain⟨a,xs,rfl,hx,q⟩:=h;cases rx;obtain⟨its,r,ht,hz⟩:=I.list hx;have hlen:=r.length;refine⟨"list",_,slot_list_getitem.lookup,ht.isList.typeIs,?_⟩;refine wpAny_getItem_list_slice ht.isList hs pl pu .none (by simp) ?_ (by rw[I0]<;>omega);rw[kU,<-hlen];refine⟨.ref s.heap.objs.size,_,I.laid (t' :=s.toks) (o:=.lst (pU xs lo hi)) (fun b ob q=>Il _ q) (Io _) ?_,rfl,q _ (I.hok.fresh (Io _))⟩;exact⟨JO (ig xs lo hi) hz,_,0,(r.drop (HT.bP xs.length 0 lo)).take (HT.bP xs.length xs.length hi-HT.bP xs.length 0 lo),JC _ rfl⟩
noncomputable def fJ:V->Bool
 | .non=>true
 | .bl _=>true
 | .int _=>true
 | .str _=>true
 | _=>false
noncomputable def vE:V->V->Bool
 | .non,.non=>true
 | .bl a,.bl b=>a==b
 | .bl a,.int b=>(if a then 1 else 0)==b
 | .int a,.bl b=>a==(if b then 1 else 0)
 | .int a,.int b=>a==b
 | .str a,.str b=>a==b
 | _,_=>false
theorem Dv{A:Around}{s:Shared}{y x:V}{u v:Value}(ry:RelV y u)(rx:RelV x v)(fy:fJ y=true)(fx:fJ x=true):SeqAt.EqAt A s u v (vE y x):=by
 cases y with
 | non =>
  cases ry;cases x with
  | non=>cases rx;exact SeqAt.EqAt.same _
  | bl b=>cases rx;exact SeqAt.EqAt.none_bool b
  | int b=>obtain⟨t,rfl⟩:=rx;exact SeqAt.EqAt.none_int b t
  | str b=>obtain⟨t,rfl⟩:=rx;exact SeqAt.EqAt.none_str b t
  | _=>exact absurd (show false=true from fx) Ir
 | bl a =>
  cases ry;cases x with
  | non=>cases rx;exact SeqAt.EqAt.bool_none a
  | bl b=>cases rx;exact SeqAt.EqAt.bool_bool a b
  | int b=>obtain⟨t,rfl⟩:=rx;exact SeqAt.EqAt.bool_int a b t
  | str b=>obtain⟨t,rfl⟩:=rx;exact SeqAt.EqAt.bool_str a b t
  | _=>exact absurd (show false=true from fx) Ir
 | int a =>
  obtain⟨t',rfl⟩:=ry;cases x with
  | non=>cases rx;exact SeqAt.EqAt.int_none a t'
  | bl b=>cases rx;exact SeqAt.EqAt.int_bool a t' b
  | int b=>obtain⟨t,rfl⟩:=rx;exact SeqAt.EqAt.int_int a t' b t
  | str b=>obtain⟨t,rfl⟩:=rx;exact SeqAt.EqAt.int_str a t' b t
  | _=>exact absurd (show false=true from fx) Ir
 | str a =>
  obtain⟨t',rfl⟩:=ry;cases x with
  | non=>cases rx;exact SeqAt.EqAt.str_none a t'
  | bl b=>cases rx;exact SeqAt.EqAt.str_bool a t' b
  | int b=>obtain⟨t,rfl⟩:=rx;exact SeqAt.EqAt.str_int a t' b t
  | str b=>obtain⟨t,rfl⟩:=rx;exact SeqAt.EqAt.str_str a t' b t
  | _=>exact absurd (show false=true from fx) Ir
 | _=>exact absurd (show false=true from fy) Ir
noncomputable def AJ(x:V)(u:Value):Bool:=match u with
 | .none=>vE .non x
 | .bool b=>vE (.bl b) x
 | .int i _=>vE (.int i) x
 | .str z _=>vE (.str z) x
 | _=>false
theorem xZ{x y:V}{u:Value}(r:RelV y u)(f:fJ y=true):AJ x u=vE y x:=by
 cases y with
 | non=>cases r;rfl
 | bl b=>cases r;rfl
 | int i=>obtain⟨t,rfl⟩:=r;rfl
 | str z=>obtain⟨t,rfl⟩:=r;rfl
 | _=>exact absurd (show false=true from f) Ir
theorem nX{x:V}:∀{xs:List V}{us:List Value},aQ xs us->xs.all fJ=true->us.any (AJ x)=xs.any fun y=>vE y x
 | _,_,.nil,_=>rfl
 | y::xs,u::us,.cons r t,f=>by
  rw[Kh,Iu]at f;rw[LU,LU,xZ r f.1,nX t f.2]
theorem ju{A:Around}{s:Shared}{x:V}{v:Value}(rx:RelV x v)(fx:fJ x=true):∀{xs:List V}{us:List Value},aQ xs us->xs.all fJ=true->∀u∈us,SeqAt.EqAt A s u v (AJ x u)
 | _,_,.nil,_=>fun u hu=>by cases hu
 | y::xs,u::us,.cons r t,f=>fun u' hu=>by
  rw[Kh,Iu]at f
  rcases JD.mp hu with rfl|hu
  ·rw[xZ r f.1];exact Dv r rx f.1 fx
  ·exact ju rx fx t f.2 u' hu
noncomputable def inV(x:V)(xs:List V):Bool:=xs.any fun y=>vE y x
noncomputable def rIn(K:W.Frag)(neg:Bool):R2:=fun x y H Q=>∃p xs,y=.ref p/\(bN K H p xs\/bw K H p xs)/\fJ x=true/\xs.all fJ=true/\Q (.bl (if neg then !inV x xs else inV x xs)) H
theorem gc:dv X (compareOp .NotIn) (rIn X.K true):=by
 intro pins s σ H x y v u Q I rx ry h;obtain⟨p,xs,rfl,hq,fx,fs,q⟩:=h;cases ry
 rcases hq with hq|hq
 ·obtain⟨its,r,pl,hz⟩:=I.list hq
  refine SeqAt.notIn_listAt (AJ x) pl.isList (fun w hw=>ju rx fx r fs w (by simpa using hw)) ⟨.bl _,H,I,rfl,?_⟩;rw[show its.toArray.any (AJ x)=its.any (AJ x)by simp,nX r fs];exact q
 ·obtain⟨its,r,pl,hz⟩:=I.tuple hq
  refine SeqAt.notIn_tupleAt (AJ x) pl (fun w hw=>ju rx fx r fs w (by simpa using hw)) ⟨.bl _,H,I,rfl,?_⟩;rw[show its.toArray.any (AJ x)=its.any (AJ x)by simp,nX r fs];exact q
theorem gr:bR X (.builtin "len") (fun xs H Q=>∃p ys,xs=[.ref p]/\(bN X.K H p ys\/bw X.K H p ys)/\Q (.int ys.length) H):=by
 intro pins s σ H xs us Q I r h;obtain⟨p,ys,rfl,hq,q⟩:=h;obtain⟨u,rfl,rx⟩:=vals1 r;cases rx;have hn:=iH
 rcases hq with hq|hq
 ·obtain⟨its,r',pl,hz⟩:=I.list hq
  have hlen:=r'.length;exact Calls.call_len_list pl.isList (by simp only[I0]<;>omega) ⟨.int ys.length,H,I.tok _,⟨s.toks+1,by rw[I0,hlen]⟩,q⟩
 ·obtain⟨its,r',pl,hz⟩:=I.tuple hq
  have hlen:=r'.length;exact len_tuple pl (by simp only[I0]<;>omega) ⟨.int ys.length,H,I.tok _,⟨s.toks+1,by rw[I0,hlen]⟩,q⟩
theorem nU:bR X (.builtin "len") (fun xs H Q=>∃z,xs=[.str z]/\z.length<=sizeLine/\Q (.int z.length) H):=by
 intro pins s σ H xs us Q I r h;obtain⟨z,rfl,hz,q⟩:=h;obtain⟨u,rfl,t,rfl⟩:=vals1 r;have hn:=iH;exact len_str (by omega) ⟨.int z.length,H,I.tok _,⟨_,rfl⟩,q⟩
theorem nS:bR X (.type "list") (fun xs H Q=>∃p ys,xs=[.ref p]/\(bN X.K H p ys\/bw X.K H p ys)/\∀l,H l=none->Q (.ref l) (upd H l (.lst ys))):=by
 intro pins s σ H xs us Q I r h;obtain⟨p,ys,rfl,hq,q⟩:=h;obtain⟨u,rfl,rx⟩:=vals1 r;cases rx
 have fin:∀(its:List Value),aQ ys its->ys.length<=sizeLine->∀(h' :Heap)(c' :Nat),(∀b o',s.heap.get? b=some o' ->h'.get? b=some o') ->
   h'.get? s.heap.objs.size=some {cls:=.type "list",dict:=none,data:=.seq its.toArray c',slots:= #[]}->EP X pins σ Q (.ref s.heap.objs.size) {s with heap:=h'}:=fun its r' hz h' c' kp e =>
  ⟨.ref s.heap.objs.size,_,I.laid (t' :=s.toks) kp (Io _) (show az X.prog X.w _ h' _ (.lst ys)from⟨hz,its,c',r',e⟩),rfl,q _ (I.hok.fresh (Io _))⟩
 rcases hq with hq|hq
 ·obtain⟨its,r',pl,hz⟩:=I.list hq
  have hlen:=r'.length;obtain⟨o,ho,hc,n,hd⟩:=pl.isList;exact call_list_seq p (.inl rfl) ho hc hd (fun h' c' kp e=>fin its r' hz h' c' kp e) (by simp only[I0]<;>omega)
 ·obtain⟨its,r',pl,hz⟩:=I.tuple hq
  have hlen:=r'.length;obtain⟨o,ho,hc,n,hd⟩:=pl;exact call_list_seq p (.inr rfl) ho hc hd (fun h' c' kp e=>fin its r' hz h' c' kp e) (by simp only[I0]<;>omega)
theorem lD:bR X (.type "tuple") (fun xs H Q=>∃p ys,xs=[.ref p]/\((bN X.K H p ys/\∀l,H l=none->Q (.ref l) (upd H l (.tup ys)))\/(bw X.K H p ys/\Q (.ref p) H))):=by
 intro pins s σ H xs us Q I r h;obtain⟨p,ys,rfl,h⟩:=h;obtain⟨u,rfl,rx⟩:=vals1 r;cases rx
 rcases h with⟨hq,q⟩|⟨hq,q⟩
 ·obtain⟨its,r',pl,hz⟩:=I.list hq
  have hlen:=r'.length;refine call_tuple_list pl.isList (fun h' kp=> ?_) (by simp only[I0]<;>omega);have I1:Inv X pins σ H {s with heap:=h'}:=I.kept (t' :=s.toks) kp
  have I2:Inv X pins σ (upd H h'.objs.size (.tup ys)) {s with heap:=h'.push {cls:=.type "tuple",data:=.seq its.toArray}} :=
   I1.laid (t' :=s.toks) (fun b o e=>Il _ e) (Io _) (show az X.prog X.w _ _ _ (.tup ys)from⟨hz,its,r',eY.new _ _⟩)
  exact⟨.ref h'.objs.size,_,I2,rfl,q _ (I1.hok.fresh (Io _))⟩
 ·obtain⟨its,r',pl,hz⟩:=I.tuple hq
  exact call_tuple_same pl ⟨.ref p,H,I,rfl,q⟩
noncomputable def tyV(K:W.Frag)(T:String)(x:V)(H:Hp):Prop:=match x with
 | .str _=>T="str"
 | .int _=>T="int"
 | .ref p=>(T="list"/\∃xs,bN K H p xs)\/(T="tuple"/\∃xs,bw K H p xs) \/
   (T="dict"/\((∃kvs,H p=some (.dK kvs))\/∃kvs,H p=some (.dT kvs)))\/(T="set"/\∃S n,H p=some (.set S n))
 | _=>False
theorem vT{pins:List (Addr×Obj)}{σ:St}{H:Hp}{s:Shared}{T:String}{x:V}{v:Value}(I:Inv X pins σ H s)(r:RelV x v)(ty:tyV X.K T x H) :
  s.TypeIs v T/\∀a,v=.ref a->∃ob,s.heap.get? a=some ob/\ob.dict=none:=by
 cases x with
 | str z =>
  obtain⟨t,rfl⟩:=r;cases(show T="str" from ty);exact⟨LK s z t,fun _ e=>nomatch e⟩
 | int i =>
  obtain⟨t,rfl⟩:=r;cases(show T="int" from ty);exact⟨typeIs_int s i t,fun _ e=>nomatch e⟩
 | ref p =>
  cases r
  rcases ty with⟨rfl,xs,hq⟩|⟨rfl,xs,hq⟩|⟨rfl,hk⟩|⟨rfl,S,n,hk⟩
  ·obtain⟨its,_,pl,_⟩:=I.list hq
   refine⟨pl.isList.typeIs,fun a e=> ?_⟩;cases e;obtain⟨o,n,e,c,hd,_⟩:=pl;exact⟨o,e,hd⟩
  ·obtain⟨o,e1,e2,e3⟩:=I.tupleD hq
   refine⟨⟨o,e1,e2⟩,fun a e=> ?_⟩;cases e;exact⟨o,e1,e3⟩
  ·have z:∃o,s.heap.get? p=some o/\o.ExactDict:=by
    rcases hk with⟨kvs,hk⟩|⟨kvs,hk⟩
    ·obtain⟨_,_,_,_,o,_,_,e,ex,_⟩:=I.hok p _ hk
     exact⟨o,e,ex⟩
    ·obtain⟨_,_,_,_,o,_,_,e,ex,_⟩:=I.hok p _ hk
     exact⟨o,e,ex⟩
   obtain⟨o,e,ex⟩:=z;refine⟨⟨o,e,ex.1⟩,fun a e2=> ?_⟩;cases e2;exact⟨o,e,ex.2.1⟩
  ·obtain⟨o,_,_,_,e,ex,_⟩:=I.hok p _ hk
   refine⟨⟨o,e,ex.1⟩,fun a e2=> ?_⟩;cases e2;exact⟨o,e,ex.2.1⟩
 | _=>exact False.elim ty
noncomputable def tBM0(K:W.Frag)(T:String)(r:V->List V->Hp->VK->Prop)(to:TE):TE:=fun σ H Q=>to σ H fun x H1=>tyV K T x H1/\r x [] H1 Q
noncomputable def tBM(K:W.Frag)(T:String)(r:V->List V->Hp->VK->Prop)(to:TE)(t:TA):TE:=fun σ H Q=>to σ H fun x H1=>tyV K T x H1/\t σ H1 fun xs H2=>r x xs H2 Q
variable{o e:Expr}{es:List Expr}{to:TE}{t:TA}{name:Str}{apos cpos:Pos}{T id:String}{r:V->List V->Hp->VK->Prop}
theorem Cq(pa:PlainAttrs T)(slot:Slot T name id)(hty:typeOf (.builtin id)=pure (.type "method_descriptor"))(hm:FG X id r)(ho:PE X o to)
  (hbase:attributeBase o name X.env (eval o X.env)=eval o X.env:=by rfl) (hline:(apos.endLine==cpos.line)=true:=by rfl):PE X (.Call (.Attribute o name apos) [] [] cpos) (tBM0 X.K T r to):=by
 intro pins s σ H Q I h;refine wpAny_Call_method0_late hbase hline (bD (ho pins s σ H _ I h) fun v s1 hpq=> ?_);obtain⟨x,H1,I1,r1,ty,q1⟩:=hpq;obtain⟨h1,h2⟩:=vT I1 r1 ty;exact⟨T,id,pa,slot,hty,h1,h2,Kt rfl (PySem.evalArgs_none (hm pins s1 σ H1 x [] v [] Q I1 r1 .nil q1))⟩
theorem oV(pa:PlainAttrs T)(slot:Slot T name id)(hty:typeOf (.builtin id)=pure (.type "method_descriptor"))(hm:FG X id r)(ho:PE X o to)(ha:PA X (e::es) t)
  (hbase:attributeBase o name X.env (eval o X.env)=eval o X.env:=by rfl)
  (hfew:((backTo cpos (starEach (e::es) X.env)).all (fun x=> !x.1)&&(backToKw cpos (keywordEach [] X.env)).all (fun x=>x.1.isSome)
   && decide ((e::es).length+([]:List Keyword).length+(if([]:List Keyword).isEmpty then 0 else 1)<30))=true:=by rfl)
  (hline:(apos.endLine==cpos.line)=true:=by rfl) (hs:starEach (e::es) X.env=(false,eval e X.env)::starEach es X.env:=by rfl) (hplain:(backTo cpos (starEach es X.env)).any (·.1)=false:=by rfl) :
  PE X (.Call (.Attribute o name apos) (e::es) [] cpos) (tBM X.K T r to t):=by
 intro pins s σ H Q I h;refine wpAny_Call_method_late hbase hfew hline rfl (bD (ho pins s σ H _ I h) fun v s1 hpq=> ?_);obtain⟨x,H1,I1,r1,ty,q1⟩:=hpq;obtain⟨h1,h2⟩:=vT I1 r1 ty;refine⟨T,id,pa,slot,hty,h1,h2,?_⟩;have hA:=ha cpos pins s1 σ H1 _ I1 q1;rw[hs]at hA ⊢;refine Kt (by show(false||(backTo cpos (starEach es X.env)).any (·.1))=false;rw[hplain]<;>rfl) (Calls.evalArgs_plain ?_);exact bD hA fun us s2 ⟨vs,H2,I2,r2,q2⟩=>hm pins s2 σ H2 x vs v us Q I2 r1 r2 q2
end
noncomputable def MtM(X:Cx)(id:String)(r:V->List V->Hp->VK->Prop):Prop :=
 ∀(pins:List (Addr×Obj))(s:Shared)(σ:St)(H:Hp)(x:V)(xs:List V)(v:Value)(us:List Value)(Q:VK),Inv X pins σ H s->RelV x v->aQ xs us->r x xs H Q ->
  wpAny (model X.prog X.w) X.A (call (.builtin id) (v::us)) (EP X pins σ Q) X.xe s
theorem aQ.one{x:V}{us:List Value}(h:aQ [x] us):∃u,us=[u]/\RelV x u:=vals1 h
theorem aQ.two{x y:V}{us:List Value}(h:aQ [x,y] us):∃u v,us=[u,v]/\RelV x u/\RelV y v:=vals2 h
theorem aQ.zero:∀{us:List Value},aQ [] us->us=[]
 | _,.nil=>rfl
theorem aQ.dropLast{xs:List V}{us:List Value}(h:aQ xs us):aQ xs.dropLast us.dropLast:=by
 induction h with
 | nil=>exact .nil
 | cons r t ih =>
  cases t with
  | nil=>exact .nil
  | cons q t' =>exact .cons r ih
theorem aQ.reverse{xs:List V}{us:List Value}(h:aQ xs us):aQ xs.reverse us.reverse:=by
 induction h with
 | nil=>exact .nil
 | cons r t ih=>rw[LB,LB];exact aQ.append ih (.cons r .nil)
theorem aQ.rep{xs:List V}{us:List Value}(h:aQ xs us):∀k:Nat,aQ (List.replicate k xs).flatten (List.replicate k us).flatten
 | 0=>.nil
 | k+1=>by
  rw[KL,KL,Ks,Ks];exact aQ.append h (aQ.rep h k)
theorem foldl_rep(its:List Value):∀(k:Nat)(acc:List Value),
  List.foldl (fun x1 x2=>x1++x2) acc.toArray (List.replicate k its.toArray)=(acc++(List.replicate k its).flatten).toArray
 | 0,acc=>by simp
 | k+1,acc=>by
  have e:acc.toArray++its.toArray=(acc++its).toArray:=by simp
  have e2:(acc++its)++(List.replicate k its).flatten=acc++(List.replicate (k+1) its).flatten:=by
   rw[KL,Ks,LD]
  rw[<- e2,<-foldl_rep its k (acc++its),<-e,KL,List.foldl_cons]
section
variable{X:Cx}{pins:List (Addr×Obj)}{σ:St}{H:Hp}{s:Shared}{l b:Addr}{xs ys zs:List V}
theorem Inv.lset{its its' :List Value}{n:Nat}{f:Array Value->Array Value}{t' :Nat}(I:Inv X pins σ H s)(hH:H l=some (.lst xs))
  (e:s.heap.get? l=some {cls:=.type "list",data:=.seq its.toArray n}) (hf:f its.toArray=its'.toArray) (hv:aQ ys its') (hz:ys.length<=sizeLine) :
  Inv X pins σ (upd H l (.lst ys)) {s with heap:=s.heap.update l (Obj.mapSeq f),toks:=t'}:=by
 have q:=PySem.IsL.update e f;rw[hf]at q;refine I.write (x:=l) (e:=l) (by rw[hH];exact trivial) (.inl rfl) (fun b' u hb hu=>(Jh s.heap (Obj.mapSeq f) (KW hb)).trans hu) ⟨_,q⟩ ?_;exact⟨hz,its',_,hv,q⟩
theorem Inv.lnew{its:List Value}{t' :Nat}(I:Inv X pins σ H s)(hv:aQ ys its)(hz:ys.length<=sizeLine) :
  Inv X pins σ (upd H s.heap.objs.size (.lst ys)) {s with heap:=s.heap.push {cls:=.type "list",data:=.seq its.toArray},toks:=t'} :=
 I.laid (fun _ _ q=>Il _ q) (Io _) ⟨hz,its,0,hv,JC _ rfl⟩
theorem Inv.fresh(I:Inv X pins σ H s):H s.heap.objs.size=none:=I.hok.fresh (Io _)
theorem Inv.lstM(I:Inv X pins σ H s)(hH:H l=some (.lst xs)):xs.length<=sizeLine/\∃(its:List Value)(n:Nat),aQ xs its/\xs.length=its.length/\s.heap.get? l=some {cls:=.type "list",data:=.seq its.toArray n}:=by
 obtain⟨z,its,n,r,e⟩:=I.hok l _ hH;exact⟨z,its,n,r,r.length,e⟩
theorem wb{n:Nat}(h:n<=sizeLine):Builtin.List.listTooLong n=false:=by
 unfold Builtin.List.listTooLong;exact JK (by omega)
end
section
variable{X:Cx}
noncomputable def yz:V->List V->Hp->VK->Prop:=fun x vs H Q=>∃l xs y,x=.ref l/\vs=[y]/\H l=some (.lst xs)/\xs.length<sizeLine/\Q .non (upd H l (.lst (xs++[y])))
theorem lu:MtM X "list.append" yz:=by
 intro pins s σ H x vs v us Q I rx rv h;obtain⟨l,xs,y,rfl,rfl,hH,hz,q⟩:=h;cases rx;obtain⟨u,rfl,ru⟩:=rv.one;obtain⟨z,its,n,r,hl,e⟩:=I.lstM hH;refine call_meets F.slot_list_append ⟨_,e,rfl⟩ F.entry_list_append (F.args_list_append_2 _ _) (PySem.list_append l its.toArray n u (by rw[I0];omega)) ⟨e,?_⟩;refine⟨.non,_,I.lset (its' :=its++[u]) hH e (by simp) (r.append (.cons ru .nil)) ?_,rfl,q⟩;rw[JA,LO];omega
noncomputable def rCat:R2:=fun x y H Q=>∃l b xs zs,x=.ref l/\y=.ref b/\H l=some (.lst xs)/\H b=some (.lst zs)/\xs.length+zs.length<=sizeLine/\∀p,H p=none->Q (.ref p) (upd H p (.lst (xs++zs)))
theorem C3:dv X (binaryOp .Add) rCat:=by
 intro pins s σ H x y v u Q I rx ry h;obtain⟨l,b,xs,zs,rfl,rfl,hH,hB,hz,q⟩:=h;cases rx;cases ry;obtain⟨z,its,n,r,hl,e⟩:=I.lstM hH;obtain⟨z2,its2,n2,r2,hl2,e2⟩:=I.lstM hB;refine PySem.P.add_list e e2 ?_ (by rw[I0,I0];omega);have ea:its.toArray++its2.toArray=(its++its2).toArray:=by simp
 rw[ea];exact⟨.ref _,_,I.lnew (t' :=s.toks) (r.append r2) (by rw[JA];omega),rfl,q _ I.fresh⟩
noncomputable def rRep:R2:=fun x y H Q=>∃l k xs,x=.ref l/\y=.int k/\H l=some (.lst xs)/\ -(2^63)<=k/\k<2^63/\xs.length*k.toNat<=sizeLine /\
 ∀p,H p=none->Q (.ref p) (upd H p (.lst (List.replicate k.toNat xs).flatten))
theorem zo{α:Type}(xs:List α)(k:Nat):(List.replicate k xs).flatten.length=k*xs.length:=by
 induction k with
 | zero=>simp
 | succ k ih=>rw[KL,Ks,JA,ih,Nat.succ_mul,Nat.add_comm]
theorem Cv:dv X (binaryOp .Mult) rRep:=by
 intro pins s σ H x y v u Q I rx ry h;obtain⟨l,k,xs,rfl,rfl,hH,h1,h2,hz,q⟩:=h;cases rx;obtain⟨t,rfl⟩:=ry;obtain⟨z,its,n,r,hl,e⟩:=I.lstM hH;have hlen:its.toArray.size*k.toNat<=sizeLine:=by rw[I0,<-hl];exact hz
 have hcap:¬its.toArray.size*k.toNat>(2^63-1)/8:=by
  have:(sizeLine:Nat)<=(2^63-1)/8:=by decide
  omega
 have hfit:¬(!Builtin.List.listFitsIndex k)=true:=by
  rw[fitsIndex_both h1 h2];exact Ir
 have hlong:¬Builtin.List.listTooLong (its.toArray.size*k.toNat)=true:=by
  rw[wb hlen];exact Ir
 have hnew:List.foldl (fun x1 x2=>x1++x2) #[] (List.replicate (if its.toArray.isEmpty=true then 0 else k.toNat) its.toArray)=(List.replicate k.toNat its).flatten.toArray:=by
  have f0:∀m:Nat,List.foldl (fun x1 x2=>x1++x2) #[] (List.replicate m its.toArray)=(List.replicate m its).flatten.toArray:=fun m=>by
   have:=foldl_rep its m [];rw[List.nil_append]at this;exact this
  rw[f0];cases its with
  | nil=>simp
  | cons a r' =>rw[Iq (by simp)]
 refine wpAny_binaryOp_repeat_ref (T:="list") (U:="int") (by decide) ⟨_,e,rfl⟩ (fun s' =>typeIs_int s' k t) noFill_list_mul F.fills_int_mul F.slot_int_rmul repeat_list F.slot_int_index.lookup
  (call_meets F.slot_int_rmul (typeIs_int s k t) F.entry_int_rmul (F.args_int_rmul_2 _ _) (int___rmul___int_list k t l its.toArray n)
   ⟨e,rfl,⟨_,e,rfl⟩,call_meets F.slot_list_mul ⟨_,e,rfl⟩ F.entry_list_mul (F.args_list_mul_2 _ _) (AutoListH.list___mul___list_int_3 l its.toArray n k t hfit hcap hlong) ⟨e,?_⟩⟩)
 rw[hnew];exact⟨.ref _,_,I.lnew (t' :=s.toks) (r.rep k.toNat) (by rw[zo,Nat.mul_comm];exact hz),rfl,q _ I.fresh⟩
end
section
variable{prog:Program}{w:World}{A:Around}{E:Value->Shared->Prop}{s:Shared}
end
section
variable{X:Cx}
end
end L2
namespace Att
open PySem PySem.W PySem.Calls PyProof.Rows
theorem iu{P:Params}{h:Heap}:∀(ns:List Int)(vs:List Value),WellAll P h vs (ns.map WData.int)->IntsAre vs ns:=by
 intro ns
 induction ns with
 | nil =>
  intro vs w;rw[Kl]at w;cases w;exact .nil
 | cons n ns ih =>
  intro vs w;rw[JH]at w;cases w with
  | cons a b =>
   cases a;exact .cons _ _ (ih _ b)
theorem t7{l:OpenLaw}{n:Nat}(hn:l.most=some n){P:Params}{h:Heap}{args:List WData}{vals:List Value}
  (hpre:l.row.toRowW.claim.pre args=true) (hwl:WellAll P h vals args) :
  ∃a vs ns,vals=[Value.ref a]/\args=[WData.list (ns.map WData.int)]/\h.get? a=some {cls:=.type "list",data:=.seq vs.toArray}/\IntsAre vs ns/\ns.length<=n:=by
 have hsh:WShape.hasAll [] args [.list .int]=true:=(pre_splitW hpre).1;have hc:l.pre.holds [] {args:=args}=true:=(pre_splitW hpre).2;obtain⟨d,r,rfl,h1,h2⟩:=hasAllW_cons hsh;obtain rfl:=hasAllW_nil h2;obtain⟨xs,rfl,h3⟩:=hasW_list h1;obtain⟨ns,rfl⟩:=items_int h3;have hlen:ns.length<=n:=by
  unfold OpenLaw.pre at hc;have h4:(WTm.not (.lt (.lit (.int (n:Int))) (.len (.arg 0)))).holds [] {args:=[.list (ns.map .int)]}=true:=by
   have h4:=(holds_andW hc).1;rw[hn]at h4;exact h4
  have h5:=condW_of h4 (w_not (w_lt w_lit (w_len_list (w_arg rfl))));rw[Ik]at h5;refine Nat.le_of_not_lt fun q=> ?_;have q' :(n:Int)<((ns.length:Nat):Int):=by omega
  first
   | (rw[JP q']at h5;exact absurd h5 (by decide))
   | (simp at h5;omega)
 cases hwl with
 | cons w1 w2 =>
  cases w2;cases w1 with
  | list ho hall=>exact⟨_,_,ns,rfl,rfl,ho,iu ns _ hall,hlen⟩
theorem uD(l:OpenLaw)(args:List WData):l.row.toRowW.claim.post args (.bool true) args=true :=
 postW_of (r:=l.row.toRowW) (X:=(true==true))
  (show WShape.has [] (.bool true) .bool=true by first|rfl|decide|simp[WShape.has,WShape.arms,WShape.armsAll])
  (show(WTm.eq .res (.lit (.bool true))).value [] {args:=args,res:=some (.bool true),after:=args}=some (.bool (true==true))from w_eq_bool (w_res rfl) w_lit) rfl
theorem pk{l:OpenLaw}{n:Nat}{q:Program}{loose:List Str}{XP:(Str->Option Value)->Heap->Prop}{YP:World->Heap->Prop}{d:DefRec}
  (hn:l.most=some n) (hdf:d.params.defaults=[])
  (call:∀(w:World)(s₀ s₁:Shared)(mg mb:Str->Option Value)(fa:Addr)(o:Obj)(pm cd doc:Value)(a:Addr)(vs:List Value)(ns:List Int),
   Ground q loose [] XP w s₀ mg mb s₁.heap->YP w s₁.heap ->
   s₁.heap.get? fa=some o->o.data=.func (docDef d.name d.params d.body d.scope pm cd doc)->s₁.heap.CodeRec cd d.name->mg d.name=some (.ref fa) ->
   s₁.heap.get? a=some {cls:=.type "list",data:=.seq vs.toArray}->IntsAre vs ns->ns.length<=n->s₁.gens= #[] ->
   codeAny (model l.prog w) callerA (.call (.ref fa) ⟨[.ref a],[]⟩) (fun r s' =>r=.ok (.ret (.bool true))/\OldK s₁.heap s'.heap/\s'.os=s₁.os/\AllBare s'.gens) s₁) :
  WalkO q loose XP YP l.row.toRowW d [] (fun f vs=>PySem.call f vs):=by
 intro w s₀ s₁ mg mb G Y fa o pm cd doc dV kV ho hd hcd hD hmg hg args vals as hpre hlay hrd hwl hlo;obtain rfl:dV=.none:=Dflts.none hD hdf;obtain rfl:kV=.none:=Dflts.noKw hD;obtain⟨a,vs,ns,rfl,rfl,hobj,hints,hlen⟩:=t7 hn hpre hwl;refine enter_call (codeAny_mono (call w s₀ s₁ mg mb fa o pm cd doc a vs ns G Y ho (fd_plain hd) hcd hmg hobj hints hlen hg) fun r s' hq=> ?_);obtain⟨rfl,h2,h3,h4⟩:=hq;exact⟨.inl ⟨.bool true,.bool true,[],rfl,fun _=>rfl,.bool true,uD l _,fun _=>⟨List.Pairwise.nil,fun _ hm=>(nomatch hm)⟩⟩,h2,h3,h4⟩
section
variable{prog:Program}{w:World}{A:Around}{E:Value->Shared->Prop}{s:Shared}{K:Frag}
end
end Att
namespace L2
open PySem PySem.Spec PyProof.Rows
theorem tf{vs:List Value}{ns:List Int}(h:IntsAre vs ns):aQ (ns.map V.int) vs:=by
 induction h with
 | nil=>exact .nil
 | cons n t h ih=>exact .cons ⟨t,rfl⟩ ih
noncomputable def El(H:Hp):Prop:=∀b,H b=none\/∃o xs,H b=some (.frz o (.lst xs))
theorem w9{P:Program}{w:World}{K:W.Frag}{mg mb:Str->Option Value}{CX:p9}{k:Nat}{fa a:Addr}{fd:FuncData}{x:Str}{sp:Sp}{s₁:Shared}{vs:List Value}{ns:List Int}
  (KX:K.In s₁.heap) (hns:s₁.heap.Ns mainGlobals mg) (hb:s₁.heap.Ns builtinsNs mb) (hbb:∀x:Str,x≠"__name__"->mb x=bootBuiltins x) (hlim:s₁.heap.NoLimit) (hg:s₁.gens= #[])
  (ha:s₁.heap.get? a=some {cls:=.type "list",data:=.seq vs.toArray}) (hi:IntsAre vs ns) (hl:ns.length<=sizeLine) (hr:eD k callerA)
  (F:∀base:Heap,K.In base->base.Ns mainGlobals mg->bi P w K mg base CX k fa fd [x] sp) (hbind:∀(s:Shared)(u:Value),BindsTo s fd ⟨[u],[]⟩ [(x,u)])
  (hsp:∀H:Hp,El H->bN K H a (ns.map V.int)->sp [.ref a] H (fun v _=>v=.bl true) fun _ _ _=>False)
  (hCX:∀H e s',CX [] H s₁ (fun _ _ _=>False) e s' ->False) :
  codeAny (model P w) callerA (.call (.ref fa) ⟨[.ref a],[]⟩) (fun r s' =>r=.ok (.ret (.bool true))/\OldK s₁.heap s'.heap/\s'.os=s₁.os/\AllBare s'.gens) s₁:=by
 have rv:=tf hi;have HE:=hi.length
 have core:∀H:Hp,El H->bN K H a (ns.map V.int)->dw P w H s₁.heap->(∀b,H b≠none->b=a)->(H a≠none->K.lookup a=none) ->
   codeAny (model P w) callerA (.call (.ref fa) ⟨[.ref a],[]⟩) (fun r s' =>r=.ok (.ret (.bool true))/\OldK s₁.heap s'.heap/\s'.os=s₁.os/\AllBare s'.gens) s₁:=by
  intro H hO hS hok hA hK;have base_of:∀{b:Addr}{o:Obj},s₁.heap.get? b=some o->H b=none->(nK s₁.heap H).get? b=some o:=fun e n=>xN e n;have noA:∀{b:Addr}{o:Obj}{es:Array DictEntry}{ep:Nat},s₁.heap.get? b=some o->o.data=.dict es ep->H b=none:=fun{b o es ep} e d=>by
   cases q:H b with
   | none=>rfl
   | some u =>
    have e' :b=a:=hA b (by rw[q];simp);subst e';rw[ha]at e;cases e;have d' :Data.seq vs.toArray _=Data.dict es ep:=d;cases d'
  have nsK:∀{b:Addr}{m:Str->Option Value},s₁.heap.Ns b m->(nK s₁.heap H).Ns b m:=fun{b m} ⟨o,es,ep,e,d,r⟩=>⟨o,es,ep,base_of e (noA e d),d,r⟩
  have hKb:K.In (nK s₁.heap H):=fun b o e=>base_of (KX b o e) (by
   cases q:H b with
   | none=>rfl
   | some u =>
    have e' :b=a:=hA b (by rw[q];simp);subst e';rw[hK (by rw[q];simp)]at e;cases e)
  have hM:Mod K mg (nK s₁.heap H):=⟨hKb,nsK hns,⟨mb,nsK hb,hbb⟩,let⟨mc,h1,h2⟩:=hlim;⟨mc,nsK h1,h2⟩⟩;have e0:A3 P w K mg (nK s₁.heap H) callerA [] s₁ H:=⟨rfl,hM,fun b o e=>zZ e,Nat.le_of_eq (uc _ _),trivial,fun b hb=>absurd (show b∈([]:List Addr)from hb) (by simp),hok,.of_eq hg⟩;refine codeAny_mono ((F _ hKb (nsK hns)).run callerA [] s₁ H ⟨[.ref a],[]⟩ [.ref a] [.ref a] _ _ hr e0 (hbind s₁ (.ref a)) (.cons rfl .nil) (hsp H hO hS)) fun r s' h=> ?_;cases r with
  | error e=>exact(hCX H e s' h).elim
  | ok fl =>
   cases fl with
   | next=>exact False.elim h
   | brk=>exact False.elim h
   | cont=>exact False.elim h
   | ret u =>
    obtain⟨v,H',os,bare,un,hok',r',q⟩:=h;have q' :v=.bl true:=q;subst q';obtain rfl:u=Value.bool true:=r';refine⟨rfl,OldK.of_keep fun b o e=> ?_,os,bare⟩;cases q:H b with
    | none=>exact un.keep b o e q (by intro z;exact absurd (show b∈([]:List Addr)from z) (by simp)) (by simp)
    | some u =>
     rcases hO b with z|⟨ob,xs,z⟩
     ·rw[q]at z;cases z
     ·have z2:=un.frzs b ob _ z
      obtain⟨e1,_⟩:=hok b _ z;obtain⟨e2,_⟩:=hok' b _ z2;rw[e]at e1;cases e1;exact e2
 cases hk:K.lookup a with
 | some o =>
  have e:=KX a o hk;rw[ha]at e;cases e;refine core (fun _=>none) (fun _=>.inl rfl) (.inr ⟨_,vs.toArray,_,hk,rfl,rfl,rfl,by rw[I0,HE];exact hl,by simpa using rv⟩) (fun b u z=>by have z' :(none:Option HO)=some u:=z;cases z') (fun b z=>absurd rfl z) fun z=>absurd rfl z
 | none =>
  refine core (fun b=>if b=a then some (.frz {cls:=.type "list",data:=.seq vs.toArray} (.lst (ns.map V.int)))else none) (fun b=> ?_) (.inl (.inr ⟨{cls:=.type "list",data:=.seq vs.toArray},Ix rfl⟩)) (fun b u z=> ?_) (fun b z=> ?_) fun _=>hk
  ·by_cases hb:b=a
   ·exact .inr ⟨_,_,Ix hb⟩
   ·exact .inl (Iq hb)
  ·by_cases hb:b=a
   ·have z' :=(Ix hb).symm.trans z
    cases z';subst hb;exact⟨ha,by rw[Ik];exact hl,vs,_,rv,ha⟩
   ·have z' :=(Iq hb).symm.trans z
    cases z'
  ·by_cases hb:b=a
   ·exact hb
   ·exact absurd (Iq hb) z
theorem yY{l:W.OpenLaw}{n k:Nat}{q:Program}{loose:List Str}{XP:(Str->Option Value)->Heap->Prop}{YP:World->Heap->Prop}{d:DefRec}{K:Params->W.Frag}{CX:World->p9}{sp:World->Sp}{x:Str}
  (hn:l.most=some n) (hn2:n<=sizeLine) (hdf:d.params.defaults=[]) (hr:eD k callerA)
  (hY:∀(w:World)(h:Heap),YP w h->(K w.params).In h)
  (F:∀(w:World)(mg:Str->Option Value)(fa:Addr)(h:Heap),(K w.params).In h->h.Ns mainGlobals mg->mg d.name=some (.ref fa) ->
   ∃fd:FuncData,(∀(s:Shared)(u:Value),BindsTo s fd ⟨[u],[]⟩ [(x,u)]) /\
    ∀base:Heap,(K w.params).In base->base.Ns mainGlobals mg->bi l.prog w (K w.params) mg base (CX w) k fa fd [x] (sp w))
  (hsp:∀(w:World)(H:Hp)(a:Addr)(ns:List Int),ns.length<=n->El H->bN (K w.params) H a (ns.map V.int)->sp w [.ref a] H (fun v _=>v=.bl true) fun _ _ _=>False)
  (hCX:∀(w:World)(H:Hp)(s:Shared)(e:Value)(s' :Shared),CX w [] H s (fun _ _ _=>False) e s' ->False) :
  W.WalkO q loose XP YP l.row.toRowW d [] (fun f vs=>PySem.call f vs):=by
 refine Att.pk hn hdf fun w s₀ s₁ mg mb fa o pm cd doc a vs ns G Y ho hd hcd hmg hobj hints hlen hg=> ?_;have KX:=hY w _ Y;obtain⟨fd,hb,hF⟩:=F w mg fa _ KX G.T.g hmg;exact w9 KX G.T.g G.T.b G.T.builtins G.T.nolimit hg hobj hints (JO hlen hn2) hr hF hb (fun H hO hS=>hsp w H a ns hlen hO hS) fun H e s' =>hCX w H s₁ e s'
noncomputable def aS(s:Stmt):Arguments:=match s with
 | .FunctionDef _ a _ _ _ _ _ _ _ _=>a
 | _=>{posonlyargs:=[],args:=[],vararg:=none,kwonlyargs:=[],kw_defaults:=[],kwarg:=none,defaults:=[]}
noncomputable def aF(s:Stmt):List Stmt:=match s with
 | .FunctionDef _ _ b _ _ _ _ _ _ _=>b
 | _=>[]
noncomputable def aA(s:Stmt):Scope:=match s with
 | .FunctionDef _ _ _ _ _ _ sc _ _ _=>sc
 | _=>{kind:=.function,names:=[],isGenerator:=false,isCoroutine:=false}
noncomputable abbrev p5:p9:=fun _ _ _ _ _ _=>False
noncomputable abbrev E0:XK:=fun _ _ _=>False
theorem BQ{X:Cx}:kP p5 X E0:=fun _ _ _ _ _ _ _ h=>h.elim
structure FY(K:W.Frag)(x qual:Str)(st:Stmt)(f:Addr)(fd:FuncData):Prop where
 ex:∃(oc:Value)(od:Option Addr)(kV doc pm:Value)(an:Option Addr)(cdv ct:Value)(osl:Array (Option Value)),
  fd=W.fnOf x qual (aS st) (aF st) (aA st) .none kV doc pm an cdv ct/\K.lookup f=some ⟨oc,od,.func fd,osl⟩/\W.codeIn K cdv qual=true
 kp:W.keepIn K (.ref f)=true
section
variable{P:Program}{w:World}{K:W.Frag}{mg:Str->Option Value}{base:Heap}
theorem FY.ok{x qual:Str}{st:Stmt}{f:Addr}{fd:FuncData}{N ps:List Str}{k:Nat}{sp:Sp}(F:FY K x qual st f fd)(S:aT N ps (aA st))(len:∀vs H Q E,sp vs H Q E->vs.length=ps.length)
  (hbody:∀(cdv:Value)(A:Around)(outer:List Env)(s:Shared)(H:Hp)(vs:List V)(Q:VK)(E:XK),eD k (A.deeper (envOfC qual (aA st) s.heap.objs.size f cdv))->sp vs H Q E ->
   ∃t,pz (iP p5 P w K mg base N qual (aA st) f cdv A outer s H E).nox (aF st) t/\t {nx:=fun _ H' =>Q .non H',rt:=Q} (start N vs) H):bi P w K mg base p5 (k+1) f fd ps sp:=by
 obtain⟨oc,od,kV,doc,pm,an,cdv,ct,osl,rfl,lk,hcd⟩:=F.ex;refine Ba lk hcd S len fun A outer s H vs Q E hr hsp=> ?_;obtain⟨t,h,q⟩:=hbody cdv A outer s H vs Q E hr hsp;exact⟨t,h.nox,q⟩
theorem FY.binds{x qual:Str}{st:Stmt}{f:Addr}{fd:FuncData}{ps:List Str}(F:FY K x qual st f fd)
  (h:∀(kV doc pm:Value)(an:Option Addr)(cdv ct:Value)(us:List Value),us.length=ps.length->bindArgs (W.fnOf x qual (aS st) (aF st) (aA st) .none kV doc pm an cdv ct) ⟨us,[]⟩=pure (ps.zip us)):Binds K fd ps []:=by
 obtain⟨oc,od,kV,doc,pm,an,cdv,ct,osl,rfl,lk,hcd⟩:=F.ex;exact .all (h kV doc pm an cdv ct)
theorem ai{x qual:Str}{st:Stmt}{f:Addr}{oc:Value}{od an:Option Addr}{osl:Array (Option Value)}{kV doc pm cdv ct:Value}(l:K.lookup f=some ⟨oc,od,.func (W.fnOf x qual (aS st) (aF st) (aA st) .none kV doc pm an cdv ct),osl⟩)
  (c:W.codeIn K cdv qual=true) (k:W.keepIn K (.ref f)=true):FY K x qual st f (W.fnOf x qual (aS st) (aF st) (aA st) .none kV doc pm an cdv ct):=⟨⟨oc,od,kV,doc,pm,an,cdv,ct,osl,rfl,l,c⟩,k⟩
end
theorem HR{A:Around}{k:Nat}(hr:eD k A):A.units+1<cLine:=Lc (Nat.add_le_add_left (by decide:1<=64) _) hr.units
section
variable{X:Cx}
theorem pv(i:Nat){x:Str}{pos:Pos}(hN:X.N[i]? =some x:=by rfl)(hv:FV X.env.scope x:=by first|exact Or.inl rfl|exact Or.inr (Or.inl rfl)|exact Or.inr (Or.inr rfl))(hd:(x==("__debug__":Str))=false:=by decide)
  (hcd:(x==("__classdict__":Str))=false:=by decide):PE X (.Name x pos) (Fx i):=qR hN hv hd hcd
end
theorem qf{A B:Prop}(h:B):if false=true then A else B:=by
 rw[Iq Ir];exact h
theorem qe{A B:Prop}(h:A):if true=true then A else B:=by
 rw[Ix rfl];exact h
theorem ite2{c A B:Prop}[Decidable c](h1:c->A)(h2:¬c->B):if c then A else B:=by
 by_cases h:c
 ·rw[Ix h]
  exact h1 h
 ·rw[Iq h]
  exact h2 h
noncomputable def aE(H H' :Hp):Prop:=∀b o,H b=some o->H' b=some o
theorem aE.refl(H:Hp):aE H H:=fun _ _ h=>h
theorem aE.trans{H H1 H2:Hp}(a:aE H H1)(b:aE H1 H2):aE H H2:=fun c o h=>b c o (a c o h)
theorem aE.free{H H' :Hp}(e:aE H H'){l:Addr}(h:H' l=Option.none):H l=Option.none:=by
 cases q:H l with
 | none=>rfl
 | some o =>
  rw[e l o q]at h;cases h
theorem aE.seq{K:W.Frag}{H H' :Hp}{a:Addr}{xs:List V}(e:aE H H')(h:bN K H a xs):bN K H' a xs:=by
 rcases h with(h|⟨o,h⟩)|h
 ·exact .inl (.inl (e _ _ h))
 ·exact .inl (.inr ⟨o,e _ _ h⟩)
 ·exact .inr h
end L2
set_option maxHeartbeats 4000000
namespace UM
open PySem PySem.Builtin PySem.Builtin.Str
theorem mh{x y:Str}(h:x.cps.toList=y.cps.toList):x=y:=PySem.Str.ext' (Array.toList_inj.mp h)
structure Ig(m:Nat)(rows:List Str):Prop where
 some:rows≠[]
 few:rows.length<=m
 wide:∃k,1<=k/\k<=m/\∀r∈rows,r.length=k
 signs:∀r∈rows,∀c∈r.cps.toList,c=120\/c=46
end UM
namespace L2
open PySem PySem.Spec PyProof.Rows
noncomputable def gp(env:Env):List (Str×NameKind)->List (Str×Addr)->List (Str×Addr)
 | [],acc=>acc
 | (n,k)::r,acc=>if(k==NameKind.free)=true then gp env r ((n,(env.cells.lookup n).getD 0)::acc)else gp env r acc
theorem iR{env:Env}{n:Str}{k:NameKind}{r:List (Str×NameKind)}{acc:List (Str×Addr)}(h:(k==NameKind.free)=true) :
  gp env ((n,k)::r) acc=gp env r ((n,(env.cells.lookup n).getD 0)::acc):=by
 show(if(k==NameKind.free)=true then _ else _)=_;rw[Ix h]
theorem fV{env:Env}{n:Str}{k:NameKind}{r:List (Str×NameKind)}{acc:List (Str×Addr)}(h:¬(k==NameKind.free)=true) :
  gp env ((n,k)::r) acc=gp env r acc:=by
 show(if(k==NameKind.free)=true then _ else _)=_;rw[Iq h]
theorem pX{env:Env}{n:Str}{c:Addr}(h:env.cells.lookup n=some c):cellOf env n=pure c:=by
 unfold cellOf;rw[h]
theorem qy{scope:Scope}{env:Env}(h:∀x∈scope.names,x.2=.free->∃c,env.cells.lookup x.1=some c):closureFor scope env=pure (gp env scope.names []):=by
 unfold closureFor
 suffices q:∀(l:List (Str×NameKind))(acc:List (Str×Addr)),(∀x∈l,x.2=.free->∃c,env.cells.lookup x.1=some c) ->
   (forIn l acc (fun(x:Str×NameKind) (r:List (Str×Addr))=>if(x.2==NameKind.free)=true then(do let a<-cellOf env x.1;pure (ForInStep.yield ((x.1,a)::r)))else pure (ForInStep.yield r)):Sem (List (Str×Addr)))=pure (gp env l acc)by
  exact(Je (fun m=>m >>= pure) (q scope.names [] h)).trans (by rfl)
 intro l
 induction l with
 | nil=>intro acc _;rfl
 | cons x l ih =>
  intro acc hl;obtain⟨n,k⟩:=x;rw[List.forIn_cons]
  by_cases hk:(k==NameKind.free)=true
  ·obtain⟨c,hc⟩:=hl (n,k) Ip (by simpa using hk)
   rw[iR hk];simp only[hk,Kp];rw[pX hc];have e:(env.cells.lookup n).getD 0=c:=by rw[show env.cells.lookup n=some c from hc];rfl
   rw[e];exact ih _ fun y hy=>hl y (Im _ hy)
  ·rw[fV hk]
   simp only[hk,if_false];exact ih _ fun y hy=>hl y (Im _ hy)
theorem dc{env:Env}:∀{l:List (Str×NameKind)}{acc:List (Str×Addr)}{x:Str}{c:Addr},(∀y∈l,y.2=.free->∃c,env.cells.lookup y.1=some c) ->
  (gp env l acc).lookup x=some c->acc.lookup x=some c\/env.cells.lookup x=some c
 | [],acc,x,c,_,h=>.inl h
 | (n,k)::l,acc,x,c,hl,h=>by
  have hl' :∀y∈l,y.2=.free->∃c,env.cells.lookup y.1=some c:=fun y hy=>hl y (Im _ hy)
  by_cases hk:(k==NameKind.free)=true
  ·rw[iR hk]at h
   rcases dc hl' h with q|q
   ·rw[JY]at q
    cases hx:(x==n)with
    | true =>
     rw[hx]at q;have hxn:x=n:=by simpa using hx
     subst hxn;obtain⟨c',hc'⟩:=hl (x,k) Ip (by simpa using hk);have hc2:env.cells.lookup x=some c' :=hc';rw[hc2]at q
     right
     rw[hc2]
     simpa using q
    | false =>
     rw[hx]at q;exact .inl q
   ·exact .inr q
  ·rw[fV hk]at h
   exact dc hl' h
theorem gm{env:Env}:∀{l:List (Str×NameKind)}{acc:List (Str×Addr)}{x:Str},((x,NameKind.free)∈l\/∃c,acc.lookup x=some c)->∃c,(gp env l acc).lookup x=some c
 | [],acc,x,h=>by
  rcases h with h|h
  ·cases h
  ·exact h
 | (n,k)::l,acc,x,h=>by
  by_cases hk:(k==NameKind.free)=true
  ·rw[iR hk]
   refine gm ?_
   rcases h with h|⟨c,h⟩
   ·rcases JD.mp h with e|e
    ·right
     injection e with e1 e2
     subst e1;exact⟨(env.cells.lookup x).getD 0,by rw[JY];simp⟩
    ·exact .inl e
   ·right
    rw[JY];cases hx:(x==n)with
    | true=>exact⟨_,rfl⟩
    | false=>exact⟨c,h⟩
  ·rw[fV hk]
   refine gm ?_
   rcases h with h|h
   ·rcases JD.mp h with e|e
    ·injection e with e1 e2
     subst e2;exact absurd rfl hk
    ·exact .inl e
   ·exact .inr h
section
variable{prog:Program}{w:World}{A:Around}{R:Result->Shared->Prop}{s:Shared}
theorem nR{elt target iter:Expr}{ifs:List Expr}{scope:Scope}{pos:Pos}{it acc:Value}{env:Env}(I:Nat->Shared->Prop)
  (turn:∀n s,I n s->wpAny (model prog w) A (pyNext it) (fun r s₁=>match r with
   | none=>R (.ok .next) s₁
   | some v=>wpAny (model prog w) A (letOwnedTupleGo target it v) (fun _ s₁' =>wpAny (model prog w) A (assign target env v) (fun _ s₂ =>
     wpAny (model prog w) A (forIn ifs true fun c r=>if r=true then do let ok<-isTrue c env (eval c env);pure (ForInStep.yield ok)else pure (ForInStep.yield r)) (fun ok s₃ =>
      if ok=true then wpAny (model prog w) A (eval elt env) (fun x s₄ =>
       wpAny (model prog w) A (call (.builtin "list.append") [acc,x]) (fun _ s₅=>∃m,m<n/\I m s₅) (notedBy (model prog w) A env fun e s' =>R (.error e) s') s₄) (notedBy (model prog w) A env fun e s' =>R (.error e) s') s₃
      else∃m,m<n/\I m s₃) (notedBy (model prog w) A env fun e s' =>R (.error e) s') s₂) (notedBy (model prog w) A env fun e s' =>R (.error e) s') s₁')
       (notedBy (model prog w) A env fun e s' =>R (.error e) s') s₁) (notedBy (model prog w) A env fun e s' =>R (.error e) s') s)
  (n:Nat) (h:I n s) :
  codeAny (model prog w) A (.compLoop (.ListComp elt [⟨target,iter,ifs,0⟩] scope pos) 0 it acc env) R s:=by
 refine codeAny_loop rfl I (fun n s hI=> ?_) n h;show wpAny _ A ((compTurn (.ListComp elt [⟨target,iter,ifs,0⟩] scope pos) 0 it acc env).onRaise (fun x=>do noteFrame x env;theTreesLotGoes x)) _ _ s;refine wpAny_noted ?_;rw[compTurn_list];refine Ij (wpAny_standAt (Ij (Kb (turn n s hI) (fun r s₁ h₁=> ?_) fun _ _ h' =>h')));cases r with
 | none=>exact JB h₁
 | some v =>
  refine Ij (Kb h₁ (fun _ s₁' h₁' => ?_) fun _ _ h' =>h');refine Ij (Kb h₁' (fun _ s₂ h₂=>Ij (Kb h₂ (fun ok s₃ h₃=> ?_) fun _ _ h' =>h')) fun _ _ h' =>h');cases ok with
  | false=>exact JB ⟨rfl,h₃⟩
  | true =>
   exact Ij (Ij (Kb h₃ (fun x s₄ h₄=>Ij (Kb h₄ (fun _ s₅ h₅=>JB (JB ⟨rfl,h₅⟩)) fun _ _ h' =>h')) fun _ _ h' =>h'))
end
noncomputable abbrev bH(X:Cx)(N' :List Str)(scope:Scope)(C:Addr)(s2:Shared)(H2:Hp)(fp:List Addr)(cl:List (Str×Addr)):Cx where
 prog:=X.prog
 w:=X.w
 K:=X.K
 mg:=X.mg
 base:=X.base
 A:=X.A
 N:=N'
 s₀:=s2
 H₀:=H2
 env:=compEnvC scope cl C X.env
 outer:=X.stack
 stack:=X.stack
 ex:=fp
 fn:=fun x=>scope.names.lookup x==some .cell
 calm:=X.calm
 pn:=[]
 xe:=fun _ _=>False
noncomputable def bQ(X:Cx)(scope:Scope):List Str->List (Option Nat)->Prop
 | [],[]=>True
 | _::ns,none::r=>bQ X scope ns r
 | x::ns,some i::r=>(X.N[i]? =some x/\scope.names.lookup x=some .free/\(X.env.scope.names.lookup x=some .cell\/X.env.scope.names.lookup x=some .free))/\bQ X scope ns r
 | _,_=>False
noncomputable def bO(src:List (Option Nat))(σ:St):St:=src.map fun o=>match o with
 | none=>none
 | some i=>(σ[i]?).join
theorem bQ.len{X:Cx}{scope:Scope}:∀{N' :List Str}{src:List (Option Nat)},bQ X scope N' src->src.length=N'.length
 | [],[],_=>rfl
 | _::_,none::_,h=>Je (·+1) (bQ.len (show bQ X scope _ _ from h))
 | _::_,some _::_,h=>Je (·+1) (bQ.len h.2)
 | [],_::_,h=>by cases h
 | _::_,[],h=>by cases h
theorem bQ.at{X:Cx}{scope:Scope}{σ:St}:∀{N' :List Str}{src:List (Option Nat)}{j:Nat}{x:Str}{v:V},bQ X scope N' src->N'[j]? =some x->(bO src σ)[j]? =some (some v) ->
  ∃i:Nat,X.N[i]? =some x/\σ[i]? =some (some v)/\scope.names.lookup x=some .free/\(X.env.scope.names.lookup x=some .cell\/X.env.scope.names.lookup x=some .free)
 | [],[],j,x,v,_,h,_=>by simp at h
 | y::ns,none::r,0,x,v,_,_,h=>by simp[bO]at h
 | y::ns,none::r,j+1,x,v,s,h,h' =>bQ.at (N' :=ns) (src:=r) (j:=j) s (by simpa using h) (by simpa [bO]using h')
 | y::ns,some i::r,0,x,v,s,h,h' =>by
  have e:y=x:=by simpa using h
  subst e;have q:(σ[i]?).join=some v:=by simpa [bO]using h'
  refine⟨i,s.1.1,?_,s.1.2.1,s.1.2.2⟩;cases z:σ[i]? with
  | none=>rw[z]at q;cases q
  | some o=>rw[z]at q;exact Je some q
 | y::ns,some i::r,j+1,x,v,s,h,h' =>bQ.at (N' :=ns) (src:=r) (j:=j) s.2 (by simpa using h) (by simpa [bO]using h')
 | [],_::_,_,_,_,s,_,_=>by cases s
 | _::_,[],_,_,_,s,_,_=>by cases s
noncomputable def u8(X:Cx)(ifs:List Expr)(t:TT):Prop :=
 ∀(pins:List (Addr×Obj))(s:Shared)(σ:St)(H:Hp)(Q:Bool->Hp->Prop),Inv X pins σ H s->t σ H Q ->
  wpAny (model X.prog X.w) X.A (forIn ifs true fun c r=>if r=true then do let ok<-isTrue c X.env (eval c X.env);pure (ForInStep.yield ok)else pure (ForInStep.yield r)) (TP X pins σ Q) X.xe s
noncomputable def BG:TT:=fun _ H Q=>Q true H
theorem jm{X:Cx}:u8 X [] BG:=fun _ _ _ H _ I h=>wpAny_tests_nil ⟨H,I,h⟩
theorem oR{X:Cx}{c:Expr}{t:TT}(h:PT X c t):u8 X [c] t:=fun pins s σ H Q I hw=>wpAny_tests_one (h pins s σ H Q I hw)
noncomputable def FI(X:Cx)(N' :List Str)(src:List (Option Nat))(scope:Scope)(target:Expr)(ifs:List Expr)(elt:Expr)(D:Addr)(σ:St)(x:V)(ys:List V)(H' :Hp)(N:List V->Hp->Prop):Prop :=
 ∀(C:Addr)(s2:Shared)(H2:Hp)(fp:List Addr)(cl:List (Str×Addr)),∃(g:TG)(tt:TT)(te:TE),PG (bH X N' scope C s2 H2 fp cl) target g/\u8 (bH X N' scope C s2 H2 fp cl) ifs tt/\PE (bH X N' scope C s2 H2 fp cl) elt te /\
  g x (bO src σ) H' fun σ2 H3=>(σ2.length=N'.length/\∀(j:Nat)(v:V),(bO src σ)[j]? =some (some v)->σ2[j]? =some (some v)) /\
   tt σ2 H3 fun b H4=>if b=true then te σ2 H4 fun v H5=>H5 D=some (.lst ys)/\ys.length<sizeLine/\N (ys++[v]) (upd H5 D (.lst (ys++[v])))else N ys H4
noncomputable def CG(X:Cx)(N' :List Str)(src:List (Option Nat))(scope:Scope)(target:Expr)(ifs:List Expr)(elt:Expr)(wi:TI):TE:=fun σ H Q=>wi σ H fun J H1=>∀D,H1 D=none ->
 ∃W:Nat->Nat->List V->Hp->Prop,(∃m,W 0 m [] (upd H1 D (.lst [])))/\∀i m ys H,W i m ys H ->
  (J.stop i H/\Q (.ref D) H)\/(J.go i H/\∀x H',J.yld i H x H' ->FI X N' src scope target ifs elt D σ x ys H' fun ys' H'' =>∃m',m' <m/\W (i+1) m' ys' H'')
section
variable{X:Cx}{pins:List (Addr×Obj)}{σ:St}{H:Hp}{s:Shared}
structure vA(X:Cx)(scope:Scope)(C:Addr)(cl:List (Str×Addr)):Prop where
 ex:∃own,cl=own++gp X.env scope.names []/\(∀n c,(n,c)∈own->C<c/\scope.names.lookup n=some .cell)/\(∀x,(x,NameKind.cell)∈scope.names->∃c,own.lookup x=some c)/\own.Pairwise fun x y=>x.2≠y.2
theorem vA.sub{scope:Scope}{C:Addr}{cl:List (Str×Addr)}(k:vA X scope C cl)(hfree:∀y∈scope.names,y.2=.free->∃c,X.env.cells.lookup y.1=some c){x:Str}{c:Addr}(e:cl.lookup x=some c) :
  (C<c/\scope.names.lookup x=some .cell)\/(scope.names.lookup x≠some .cell\/True)/\X.env.cells.lookup x=some c:=by
 obtain⟨own,rfl,h1,h2,h3⟩:=k.ex;rw[KS]at e;cases z:own.lookup x with
 | some c' =>
  rw[z]at e;cases e;exact .inl (h1 x c (JV z))
 | none =>
  rw[z]at e
  rcases dc hfree e with q|q
  ·cases q
  ·exact .inr ⟨.inr trivial,q⟩
theorem AW{N' :List Str}{scope:Scope}{C:Addr}{fp:List Addr}{cl:List (Str×Addr)}(I:Inv X pins σ H s)(hkind:scope.kind=.function)(k:vA X scope C cl)
  (hfree:∀y∈scope.names,y.2=.free->∃c,X.env.cells.lookup y.1=some c) (hC:s.heap.objs.size<=C) (hf:∀b∈fp,iZ X pins H b) (hlt:∀b∈fp,b<s.heap.objs.size):(bH X N' scope C s H fp cl).Ok:=by
 have old:∀x c,X.env.cells.lookup x=some c->c<s.heap.objs.size:=fun x c e=>let⟨_,q⟩:=I.cell x c e;q.lt
 obtain⟨own,hcl,h1,h2,h3⟩:=k.ex;have look:∀x c,cl.lookup x=some c->(x,c)∈own\/X.env.cells.lookup x=some c:=fun x c e=>by
  rw[hcl,KS]at e;cases z:own.lookup x with
  | some c' =>rw[z]at e;cases e;exact .inl (JV z)
  | none =>
   rw[z]at e
   rcases dc hfree e with q|q
   ·cases q
   ·exact .inr q
 refine⟨I.ok.mod,hkind,I.ok.glob,I.ok.blt,hC,fun x y c e1 e2=> ?_,fun x hx=> ?_,fun x c h e=> ?_,I.ok.hd,I.ok.frames,.inl rfl,fun b hb=>⟨?_,fun x c e=> ?_⟩,
  I.bs,JO I.ok.bsz I.sz,fun b o e hb=> ?_,fun b hb hs=> ?_,I.stack,I.stkFree⟩
 ·rcases look x c e1 with q1|q1<;>rcases look y c e2 with q2|q2
  ·exact PySem.name_of_addr h3 q1 q2
  ·exact absurd (Kk (old y c q2) (Lc hC (h1 x c q1).1)) (KP _)
  ·exact absurd (Kk (old x c q1) (Lc hC (h1 y c q2).1)) (KP _)
  ·exact I.ok.inj x y c q1 q2
 ·-- a name of the block's that is no local of it is one that it closes over,or has a cell of its own
  have hx' :(relabel scope X.env).names.lookup x=some .cell\/(relabel scope X.env).names.lookup x=some .free:=hx;have go:∀k,(k=NameKind.cell\/k=NameKind.free)->(relabel scope X.env).names.lookup x=some k->(x,NameKind.free)∈scope.names\/(x,NameKind.cell)∈scope.names:=fun k hk e=>by
   have m:=JV e;obtain⟨⟨n,k'⟩,hm,e'⟩:=JE.mp m
   by_cases hfr:k' =NameKind.free
   ·subst hfr
    have e'' :(if(NameKind.free==NameKind.free&&X.env.scope.kind== .function&&X.env.kindOf n==some .cell)=true then(n,NameKind.cell)else(n,NameKind.free))=(x,k):=e';have hn:n=x:=by split at e'' <;>exact(Prod.mk.inj e'').1
    rw[<- hn];exact .inl hm
   ·have e'' :(if(k' ==NameKind.free&&X.env.scope.kind== .function&&X.env.kindOf n==some .cell)=true then(n,NameKind.cell)else(n,k'))=(x,k):=e'
    have hkf:(k' ==NameKind.free)=false:=by simpa using hfr
    rw[hkf,LF,LF,Iq Ir]at e'';obtain⟨g1,g2⟩:=Prod.mk.inj e'';subst g1 g2
    rcases hk with rfl|rfl
    ·exact .inr hm
    ·exact .inl hm
  have fin:(x,NameKind.free)∈scope.names\/(x,NameKind.cell)∈scope.names->∃c,cl.lookup x=some c:=by
   intro z;rw[hcl]
   rcases z with z|z
   ·obtain⟨c,hc⟩:=gm (env:=X.env) (l:=scope.names) (acc:=[]) (x:=x) (.inl z)
    rw[KS];cases own.lookup x with
    | some c' =>exact⟨c',rfl⟩
    | none=>exact⟨c,hc⟩
   ·obtain⟨c,hc⟩:=h2 x z
    exact⟨c,by rw[KS,hc];rfl⟩
  rcases hx' with e|e
  ·exact fin (go _ (.inl rfl) e)
  ·exact fin (go _ (.inr rfl) e)
 ·have h:scope.names.lookup x=some .cell:=by simpa using h
  obtain⟨c',hc'⟩:=h2 x (JV h);have e:cl.lookup x=some c:=e;rw[hcl,KS,hc']at e;cases e;exact JO hC (K0 (h1 x c (JV hc')).1)
 ·exact fun e=>absurd (hlt b hb) (by show¬b<_;rw[e];exact Nat.not_lt.mpr hC)
 ·rcases look x c e with q|q
  ·exact fun z=>absurd (Kk (hlt b hb) (Lc hC (h1 x c q).1)) (by rw[z];exact KP _)
  ·exact(hf b hb).2.2.2.2.1 x c q
 ·rcases(hf b hb).2.2.2.1 with q|q
  ·exact I.ok.noex b o e q
  ·exact absurd (Iz e) (Nat.not_lt.mpr (JO I.ok.bsz q))
 ·rcases JD.mp (I.stkSub b hs)with q|q
  ·exact(hf b hb).2.1 q
  ·exact(hf b hb).2.2.1 q
theorem bt:∀(names:List (Str×NameKind))(n:Nat)(a b:List (Str×Addr)),cellsFrom n names (a++b)=cellsFrom n names a++b
 | [],_,_,_=>rfl
 | (x,k)::r,n,a,b=>by
  unfold cellsFrom
  split
  ·exact bt r (n+1) ((x,n)::a) b
  ·exact bt r n a b
theorem dL:∀(names:List (Str×NameKind))(n:Nat)(acc:List (Str×Addr))(x:Str)(c:Addr),(x,c)∈cellsFrom n names acc->(x,c)∈acc\/(x,NameKind.cell)∈names
 | [],_,_,_,_,h=>.inl h
 | (y,k)::r,n,acc,x,c,h=>by
  unfold cellsFrom at h
  split at h
  ·rename_i hk
   have hk:k=.cell:=by simpa using hk
   rcases dL r (n+1) ((y,n)::acc) x c h with q|q
   ·rcases JD.mp q with e|e
    ·cases e
     rw[hk];exact .inr Ip
    ·exact .inl e
   ·exact .inr (Im _ q)
  ·rcases dL r n acc x c h with q|q
   ·exact .inl q
   ·exact .inr (Im _ q)
theorem Ae{scope:Scope}{C:Addr}(hcn:∀y∈scope.names,y.2=.cell->scope.names.lookup y.1=some .cell)(h:Heap)(hC:h.objs.size=C+1):vA X scope C (cellsFrom (C+1) scope.names (gp X.env scope.names [])):=by
 have ok:=cellsFrom_ok scope.names h (C+1) [] ⟨fun _ _ hm=>(nomatch hm),List.Pairwise.nil⟩ (by rw[hC];exact Io _);rw[hC]at ok;refine⟨cellsFrom (C+1) scope.names [],by rw[<- bt];rfl,fun n c hm=>⟨(ok.empty n c hm).2,?_⟩,fun x hx=> ?_,ok.apart⟩
 ·rcases dL _ _ _ _ _ hm with q|q
  ·cases q
  ·exact hcn _ q rfl
 ·have:=W.cellsFrom_some (x:=x) scope.names (C+1) [] (.inl (hcn _ hx rfl))
  exact Option.isSome_iff_exists.mp this
theorem xa{M:Model}{A:Around}{E:Value->Shared->Prop}{s:Shared}{scope:Scope}{globals:Addr}{cl:List (Str×Addr)}{qual:Str}{env:Env}{Q:Env->Shared->Prop}
  (h:Q {scope:=scope,locals:=s.heap.objs.size,globals:=globals,cells:=cellsFrom (s.heap.objs.size+1) scope.names cl,qual:=qual,func:=none,code:=env.code,frame:=env.frame,builtins:=env.builtins} {s with heap:=pushCells (s.heap.push {cls:=.type "dict",data:=.dict #[]}) scope.names}) :
  wpAny M A (newFunctionEnv scope globals cl [] qual none .none (some env)) Q E s:=by
 simp only[newFunctionEnv,Option.isSome_some,Kp];refine Ij (wpAny_alloc ?_);refine Ij (wpAny_layCells _ (fun name kind cells=>by cases hkc:kind==NameKind.cell<;>simp[hkc]) _ _ _ _ ?_);rw[show({s with heap:=s.heap.push {cls:=.type "dict",data:=.dict #[]}}:Shared).heap.objs.size=s.heap.objs.size+1 from Heap.size_push ..];rw[List.forIn_nil];exact Ij (JB (JB h))
end
theorem gW{env:Env}:∀{names:List (Str×NameKind)}{x:Str},names.lookup x=some .free ->
  (names.map fun(n,k)=>if(k==NameKind.free&&env.scope.kind== .function&&env.kindOf n==some .cell)then(n,NameKind.cell)else(n,k)).lookup x=some .cell \/
  (names.map fun(n,k)=>if(k==NameKind.free&&env.scope.kind== .function&&env.kindOf n==some .cell)then(n,NameKind.cell)else(n,k)).lookup x=some .free
 | [],_,h=>by simp at h
 | (n,k)::r,x,h=>by
  have ih:= @gW env r x;show List.lookup x ((if(k==NameKind.free&&env.scope.kind== .function&&env.kindOf n==some .cell)=true then(n,NameKind.cell)else(n,k))::_)=_\/List.lookup x ((if(k==NameKind.free&&env.scope.kind== .function&&env.kindOf n==some .cell)=true then(n,NameKind.cell)else(n,k))::_)=_;cases hx:x==n with
  | true =>
   simp only[JY,hx]at h;cases h
   by_cases hc:(NameKind.free==NameKind.free&&env.scope.kind== .function&&env.kindOf n==some .cell)=true
   ·left;rw[Ix hc];simp only[JY,hx]
   ·right;rw[Iq hc];simp only[JY,hx]
  | false =>
   simp only[JY,hx]at h
   by_cases hc:(k==NameKind.free&&env.scope.kind== .function&&env.kindOf n==some .cell)=true
   ·rw[Ix hc];simp only[JY,hx];exact ih h
   ·rw[Iq hc];simp only[JY,hx];exact ih h
section
variable{X:Cx}{pins:List (Addr×Obj)}{σ:St}{H:Hp}{s:Shared}
theorem qo{N' :List Str}{src:List (Option Nat)}{scope:Scope}{D C:Addr}{fp:List Addr}{cl:List (Str×Addr)}{h₁:Heap}{m:Str->Option Value}{tk:Nat}(I:Inv X pins σ H s)(hkind:scope.kind=.function)(k:vA X scope C cl)
  (hfree:∀y∈scope.names,y.2=.free->∃c,X.env.cells.lookup y.1=some c) (hsrc:bQ X scope N' src) (hf:∀b∈fp,iZ X pins H b) (hlt:∀b∈fp,b<s.heap.objs.size)
  (hD:D=s.heap.objs.size) (hC:s.heap.objs.size<C) (hns:h₁.Ns C m) (old:∀b o,s.heap.get? b=some o->h₁.get? b=some o) (hacc:h₁.get? D=some {cls:=.type "list",data:=.seq #[]})
  (hce:∀x c,cl.lookup x=some c->C<c->∃v,h₁.IsCell c v) :
  Inv (bH X N' scope C s H fp cl) [] (bO src σ) (upd H D (.lst [])) {s with heap:=h₁,toks:=tk}:=by
 have hn:H D=none:=by rw[hD];exact I.hok.fresh (Io _)
 have ok:=AW (N' :=N') I hkind k hfree (K0 hC) hf hlt;have hDC:D≠C:=by rw[hD];exact JM hC
 refine⟨ok,rfl,I.bare,Un.laid old (by rw[hD];exact Io _) hn,⟨m,hns,fun j x v h1 h2 h3=> ?_⟩,fun x c e=> ?_,?_,fun x c e=> ?_,fun p hp=>(by cases hp),I.hok.laid old (by rw[hD];exact Io _) ?_,?_⟩
 ·obtain⟨i,e1,e2,e3,e4⟩:=hsrc.at h1 h2
  obtain⟨m0,_,hl⟩:=I.loc;obtain⟨u,r,l⟩:=hl i x v e1 e2 (.inr e4);refine⟨u,r,?_⟩;obtain⟨own,hcl,o1,o2,o3⟩:=k.ex;have hown:own.lookup x=none:=by
   cases z:own.lookup x with
   | none=>rfl
   | some c =>
    have:=(o1 x c (JV z)).2;rw[e3]at this;cases this
  obtain⟨c',hc'⟩:=gm (env:=X.env) (l:=scope.names) (acc:=[]) (x:=x) (.inl (JV e3));have hcX:X.env.cells.lookup x=some c' :=by
   rcases dc hfree hc' with q|q
   ·cases q
   ·exact q
  have hcl' :cl.lookup x=some c' :=by rw[hcl,KS,hown];exact hc'
  rcases l with⟨hk,_⟩|⟨hk,c,hc,hcl2⟩
  ·have hk' :X.env.scope.names.lookup x=some .local:=hk
   rcases e4 with e4|e4
   ·rw[hk']at e4;cases e4
   ·rw[hk']at e4;cases e4
  ·have ec:c' =c:=JF (hcX.symm.trans hc)
   subst ec
   right
   exact⟨gW e3,c',hcl',hcl2.keeps old⟩
 ·rcases k.sub hfree (show cl.lookup x=some c from e)with q|q
  ·exact hce x c e q.1
  ·obtain⟨v,z⟩:=I.cell x c q.2
   exact⟨v,z.keeps old⟩
 ·show upd H D (.lst []) C=none
  rw[aD (KW hDC)];exact I.hok.fresh (K0 hC)
 ·show upd H D (.lst []) c=none
  rcases k.sub hfree (show cl.lookup x=some c from e)with q|q
  ·have:s.heap.objs.size<c:=Kk hC q.1
   rw[aD (by rw[hD];exact KM this)];exact I.hok.fresh (K0 this)
  ·obtain⟨v,z⟩:=I.cell x c q.2
   rw[aD (by rw[hD];exact JM z.lt)];exact I.freeC x c q.2
 ·exact⟨JR _,[],0,.nil,hacc⟩
 ·show(src.map _).length=N'.length
  rw[Ik];exact hsrc.len
theorem dw.but{P:Program}{w:World}{H:Hp}{h h' :Heap}(x:dw P w H h)(k:∀b u,H b≠none->h.get? b=some u->h'.get? b=some u):dw P w H h' :=fun a o e =>
 (x a o e).stay (fun b u hb q=>k b u (by rcases hb with rfl|hb;(rw[e];simp);(rw[hb];simp)) q) (fun _ q=>q) fun _ _ q=>q
noncomputable def eO(sc scope:Scope):Bool:=scope.names.all fun y=> !(y.2==NameKind.free)||(sc.names.lookup y.1==some .cell||sc.names.lookup y.1==some .free)
theorem xR{sc scope:Scope}(h:eO sc scope=true):∀y∈scope.names,y.2=.free->(sc.names.lookup y.1=some .cell\/sc.names.lookup y.1=some .free):=fun y hy hf=>by
 have z:=JJ.mp h y hy;rw[hf]at z
 simpa using z
theorem se{use:Option (Value->Sem Unit)}{P:Value->Shared->Prop}{Q:VK}{elt target iter:Expr}{ifs:List Expr}{scope:Scope}{pos:Pos}{N' :List Str}{src:List (Option Nat)}{wi:TI}(hc:X.calm=true)(hi:PI X target iter wi)(hsrc:bQ X scope N' src)
  (hkind:scope.kind=.function) (hcell:∀y∈scope.names,y.2=.cell->scope.names.lookup y.1=some .cell) (hnames:∀y∈scope.names,y.2=.local->scope.names.lookup y.1=some .local)
  (hfr:eO X.env.scope scope=true)
  (hs:∀x,foldedSetIterable iter X.env x=pure x) (I:Inv X pins σ H s) (h:CG X N' src scope target ifs elt wi σ H Q)
  (fin:∀(C a:Addr)(s2 s4:Shared)(H2 H3:Hp)(fp:List Addr)(cl:List (Str×Addr))(m:Str->Option Value),Inv X pins σ H2 s2->(∀b∈fp,iZ X pins H2 b)->(∀b,b<s2.heap.objs.size->b≠C)->s2.heap.objs.size<=C->Inv (bH X N' scope C s2 H2 fp cl) [] (bO src σ) H3 s4->s4.heap.Ns C m->Q (.ref a) H3->∀v,compPost (model X.prog X.w) X.A X.xe use P (.ref a) C (.ok v) s4) :
  wpAny (model X.prog X.w) X.A (comprehension (.ListComp elt [⟨target,iter,ifs,0⟩] scope pos) scope X.env (firstIterPos [⟨target,iter,ifs,0⟩] pos) (newList []) (firstAsync [⟨target,iter,ifs,0⟩]) (firstIter [⟨target,iter,ifs,0⟩] X.env) use) P X.xe s:=by
 have hfree:∀y∈scope.names,y.2=.free->∃c,X.env.cells.lookup y.1=some c:=fun y hy hf=>I.ok.has y.1 (xR hfr y hy hf);refine wpAny_comprehension_free (use:=use) rfl hs (qy hfree) hkind hnames ?_;refine bD (hi pins s σ H _ I h) fun xv s1 h1=>bD h1 fun itv s2 h2=> ?_;obtain⟨it,fp,tn,J,H2,e,I2,T,st2,f2,q⟩:=h2;subst e;have hlt:∀b∈fp,b<s2.heap.objs.size:=fun b hb=>by
  obtain⟨o,e,_⟩:=T.obj _ _ st2 b hb;exact Iz e
 refine Jm (xa ?_);dsimp only
 generalize hH2:s2.heap.push {cls:=.type "list",dict:=none,data:=.seq ([]:List Value).toArray}=G2
 have hC:G2.objs.size=s2.heap.objs.size+1:=by rw[<- hH2,Heap.size_push]
 have hCle:s2.heap.objs.size<=G2.objs.size:=by rw[hC];exact Nat.le_succ _
 have hClt:s2.heap.objs.size<G2.objs.size:=by rw[hC];exact Nat.lt_succ_self _
 have below:∀b,b<s2.heap.objs.size->b≠G2.objs.size:=fun b hb=>by rw[hC];exact JM (KH hb)
 obtain⟨cl,hcl0⟩:∃cl,cl=cellsFrom (G2.objs.size+1) scope.names (gp X.env scope.names []):=⟨_,rfl⟩;obtain⟨h₁,hh₁⟩:∃h₁,h₁=pushCells (G2.push {cls:=.type "dict",data:=.dict #[]}) scope.names:=⟨_,rfl⟩;rw[<- hcl0,<-hh₁];have hfr2:(G2.push {cls:=.type "dict",data:=.dict #[]}).objs.size=G2.objs.size+1:=Heap.size_push ..;have kcl:vA X scope G2.objs.size cl:=by rw[hcl0];exact Ae hcell _ hfr2
 have hns₁:h₁.Ns G2.objs.size (fun _=>none):=by rw[hh₁];exact(Heap.Ns.new G2 (.type "dict")).keeps (pushCells_keeps _ _)
 have old:∀b o,s2.heap.get? b=some o->h₁.get? b=some o:=fun b o e=>by rw[hh₁];exact pushCells_keeps _ _ b o (Il _ (hH2▸Il _ e))
 have hacc:h₁.get? s2.heap.objs.size=some {cls:=.type "list",data:=.seq #[]}:=by rw[hh₁];exact pushCells_keeps _ _ _ _ (Il _ (hH2▸JC _ rfl))
 have hce:∀x c,cl.lookup x=some c->G2.objs.size<c->∃v,h₁.IsCell c v:=fun x c e hlt' =>by
  have okc:=cellsFrom_ok scope.names (G2.push {cls:=.type "dict",data:=.dict #[]}) (G2.objs.size+1) [] ⟨fun _ _ hm=>(nomatch hm),List.Pairwise.nil⟩ (by rw[hfr2];exact Io _);rw[hfr2]at okc;have e1:cl=cellsFrom (G2.objs.size+1) scope.names []++gp X.env scope.names []:=by rw[hcl0,<-bt];rfl
  rw[e1,KS]at e;cases z:(cellsFrom (G2.objs.size+1) scope.names []).lookup x with
  | some c' =>
   rw[z]at e;cases e;exact⟨none,by rw[hh₁];exact(okc.empty x c (JV z)).1⟩
  | none =>
   rw[z]at e
   rcases dc hfree e with q|q
   ·cases q
   ·obtain⟨v,zc⟩:=I2.cell x c q
    exact absurd (Kk zc.lt hClt) (Nat.not_lt.mpr (K0 hlt'))
 have hDn:H2 s2.heap.objs.size=none:=I2.hok.fresh (Io _);obtain⟨W,⟨m0,w0⟩,turn⟩:=q s2.heap.objs.size hDn;have st1:tn 0 h₁:=T.keep _ _ _ st2 fun b hb o e=>old b o e;have hsub:∀b∈fp,b∉p7 X.stack:=fun b hb hz=>by
  rcases JD.mp (I2.stkSub b hz)with z|z
  ·exact(f2 b hb).2.1 z
  ·exact(f2 b hb).2.2.1 z
 have hcl:∀x c,cl.lookup x=some c->G2.objs.size<c\/X.env.cells.lookup x=some c:=fun x c e=>by
  rcases kcl.sub hfree e with q|q
  ·exact .inl q.1
  ·exact .inr q.2
 have stat:∀{H' :Hp},(∀b∈fp,H' b=none)->∀b∈fp,iZ (bH X N' scope G2.objs.size s2 H2 fp cl) [] H' b:=fun hn b hb =>
  ⟨hn b hb,below b (hlt b hb),hsub b hb,.inl hb,fun x c e=>(by rcases hcl x c e with q|q;(exact fun z=>absurd (Kk (hlt b hb) (Kk hClt q)) (by rw[z];exact KP _));exact(f2 b hb).2.2.2.2.1 x c q),fun p hp=>by cases hp⟩
 have loop:∀s3:Shared,s3={s2 with heap:=h₁} ->
   codeAny (model X.prog X.w) X.A (.compLoop (.ListComp elt [⟨target,iter,ifs,0⟩] scope pos) 0 (.ref it) (.ref s2.heap.objs.size) (compEnvC scope cl G2.objs.size X.env))
    (compPost (model X.prog X.w) X.A X.xe use P (.ref s2.heap.objs.size) G2.objs.size) s3:=by
  rintro s3 rfl
  refine nR (fun n s' =>∃i ys H',Inv (bH X N' scope G2.objs.size s2 H2 fp cl) [] (bO src σ) H' s' /\tn i s'.heap/\(∀b∈fp,H' b=none)/\W i n ys H') ?_ m0
   ⟨0,[],_,qo I2 hkind kcl hfree hsrc f2 hlt rfl hClt hns₁ old hacc hce,st1,fun b hb=>by rw[aD (JM (hlt b hb))];exact(f2 b hb).1,w0⟩
  rintro n s' ⟨i,ys,H3,I3,st3,fr3,w3⟩
  rcases turn i n ys H3 w3 with⟨stop,qn⟩|⟨go,step⟩
  ·refine bD (T.done (bH X N' scope G2.objs.size s2 H2 fp cl) rfl rfl rfl hc i [] s' _ H3 _ I3 (stat fr3) st3 stop) fun r s4 hpq=> ?_
   obtain⟨hr,I4⟩:=hpq;subst hr;obtain⟨m,hn,_⟩:=I4.loc;exact fin _ _ s2 s4 H2 H3 fp cl m I2 f2 below hCle I4 hn qn _
  ·refine bD (T.item (bH X N' scope G2.objs.size s2 H2 fp cl) rfl rfl rfl hc i [] s' _ H3 _ I3 (stat fr3) st3 go) fun r s4 hpq=> ?_
   obtain⟨u,hr,h4⟩:=hpq;subst hr;refine bD h4 fun _ s5 hpq=> ?_;obtain⟨x,H5,I5,r5,y5,st5,fr5⟩:=hpq;obtain⟨g,tt,te,hg,ht,he,rd⟩:=step x H5 y5 G2.objs.size s2 H2 fp cl;have I5' :=I5.pinned (stat fr5) (T.obj _ _ st5);have noE:∀{α:Type}{t:Sem α}{Q' :α->Shared->Prop}{s' :Shared}{E:Value->Shared->Prop},wpAny (model X.prog X.w) X.A t Q' (fun _ _=>False) s' ->wpAny (model X.prog X.w) X.A t Q' E s' :=fun z=>Kb z (fun _ _ y=>y) fun _ _ y=>y.elim
   have again:∀{σ7:St}{H7:Hp}{s7:Shared}{ys' :List V},Inv (bH X N' scope G2.objs.size s2 H2 fp cl) ([]++jl fp s5.heap) σ7 H7 s7->(σ7.length=N'.length/\∀(j:Nat)(v:V),(bO src σ)[j]? =some (some v)->σ7[j]? =some (some v)) ->
     (∃m',m' <n/\W (i+1) m' ys' H7)->∃m,m<n/\∃i ys H',Inv (bH X N' scope G2.objs.size s2 H2 fp cl) [] (bO src σ) H' s7/\tn i s7.heap/\(∀b∈fp,H' b=none)/\W i m ys H' :=fun{σ7 H7 s7 ys'} I7 hσ ⟨m',hm,w7⟩=>by
    refine⟨m',hm,i+1,ys',H7,(I7.unpinned).weak (by rw[show(bO src σ).length=N'.length by(show(src.map _).length=_;rw[Ik];exact hsrc.len)];exact hσ.1.symm) hσ.2,T.keep _ _ _ st5 fun b hb o e=>(I7.pin (b,o) (Ji _ (Ji _ (dk hb e)))).1,fun b hb=> ?_,w7⟩;obtain⟨o,e,d⟩:=T.obj _ _ st5 b hb;exact(I7.pin (b,o) (Ji _ (Ji _ (dk hb e)))).2.1
   refine noE (bD (hg _ s5 _ H5 x u _ I5' r5 rd) fun _ s6 hpq=> ?_);obtain⟨σ6,H6,I6,hσ,q6⟩:=hpq;refine noE (bD (ht _ s6 σ6 H6 _ I6 q6) fun b s7 hpq=> ?_);obtain⟨H7,I7,q7⟩:=hpq;cases b with
   | false=>exact again I7 hσ q7
   | true =>
    rw[Ix rfl]at q7 ⊢;refine noE (bD (he _ s7 σ6 H7 _ I7 q7) fun y s8 hpq=> ?_);obtain⟨v,H8,I8,r8,hl8,hz8,q8⟩:=hpq;refine noE (bD (lu _ s8 σ6 H8 (.ref s2.heap.objs.size) [v] (.ref s2.heap.objs.size) [y] (fun _ H9=>∃m',m' <n/\W (i+1) m' (ys++[v]) H9) I8 rfl (.cons r8 .nil) ⟨_,_,_,rfl,rfl,hl8,hz8,q8⟩) fun _ s9 hpq=> ?_);obtain⟨_,H9,I9,_,q9⟩:=hpq;exact again I9 hσ q9
 exact codeAny_compStart_list (loop _ rfl) (T.self X.A 0 _ _ _ st1 (loop _ rfl))
theorem BN{elt target iter:Expr}{ifs:List Expr}{scope:Scope}{pos:Pos}{N' :List Str}{src:List (Option Nat)}{wi:TI}(hc:X.calm=true)(hi:PI X target iter wi)(hsrc:bQ X scope N' src)
  (hkind:scope.kind=.function) (hcell:∀y∈scope.names,y.2=.cell->scope.names.lookup y.1=some .cell) (hnames:∀y∈scope.names,y.2=.local->scope.names.lookup y.1=some .local)
  (hfr:eO X.env.scope scope=true)
  (hs:∀x,foldedSetIterable iter X.env x=pure x:=by intro _;rfl) :
  PE X (.ListComp elt [⟨target,iter,ifs,0⟩] scope pos) (CG X N' src scope target ifs elt wi):=by
 intro pins s σ H Q I h;rw[eval_ListComp];refine se hc hi hsrc hkind hcell hnames hfr hs I h fun C a s2 s4 H2 H3 fp cl m I2 f2 below hCle I4 hn qn _=> ?_;refine⟨m,hn,fun h' hs' => ?_⟩;have ne:∀b o,s2.heap.get? b=some o->b≠C:=fun b o e=>below b (Iz e);have hfree4:H3 C=none:=I4.free;have u4:Un (p7 X.stack) fp H2 H3 s2.heap s4.heap:=I4.base
 have u5:Un (p7 X.stack) fp H2 H3 s2.heap h' :=⟨fun b o e n z1 z2=>(hs'.2 b (ne b o e)).trans (u4.keep b o e n z1 z2),fun b o e n z1 z2=>let⟨sl,z⟩:=u4.slot b o e n z1 z2;⟨sl,(hs'.2 b (ne b o e)).trans z⟩,u4.free,
  fun b o e z=>let⟨o',z'⟩:=u4.there b o e z;⟨o',(hs'.2 b (ne b o e)).trans z'⟩,u4.tups,u4.frzs,u4.tbls⟩
 have hok:dw X.prog X.w H3 h' :=dw.but (h:=s4.heap) I4.hok fun b u hb z=>(hs'.2 b (fun w=>hb (by rw[w];exact hfree4))).trans z;exact⟨.ref a,H3,I2.call' (s' :={s4 with heap:=h'}) (ch:=fp) I4.os u5 hok I4.bare fun b hb=>⟨(f2 b hb).2.2.2.1,(f2 b hb).2.1,(f2 b hb).2.2.2.2.1,(f2 b hb).2.2.2.2.2⟩,rfl,qn⟩
end
section
variable{X:Cx}
theorem all_range(bs:List Bool):(List.range bs.length).all (fun i=>bs.getD i true)=bs.all id:=by
 rw[Jb,JJ,JJ]
 constructor
 ·intro h b hb
  obtain⟨i,hi,e⟩:=Kx.mp hb;have z:=h i (KR.mpr hi);rw[JG,Iv hi,e]at z;exact z
 ·intro h i hi
  have hi' :=KR.mp hi;rw[JG,Iv hi'];exact h _ (LR hi')
theorem qB{bs:List Bool}{us:List Value}(r:aQ (bs.map V.bl) us){i:Nat}{v:Value}(e:us[i]? =some v):v=.bool (bs.getD i true):=by
 have hl:=r.length;rw[Ik]at hl;have hi:i<us.length:=(Iw.mp e).1;have hb:(bs.map V.bl)[i]? =some (.bl (bs.getD i true)):=by
  rw[Iy,JG,Iv (by omega)];rfl
 obtain⟨u,e',ru⟩:=r.get hb;rw[e]at e';cases e';exact ru
theorem pZ(hc:X.calm=true):bR X (.builtin "all") (fun xs H Q=>∃(p:Addr)(bs:List Bool),xs=[.ref p]/\bN X.K H p (bs.map V.bl)/\Q (.bl (bs.all id)) H):=by
 intro pins s σ H xs us Q I r h;obtain⟨p,bs,rfl,hq,q⟩:=h;obtain⟨u,rfl,rx⟩:=vals1 r;cases rx;obtain⟨its,r',pl,hz⟩:=I.list hq;have hlen:=r'.length;rw[Ik]at hlen;have hp:p<s.heap.objs.size:=by
  obtain⟨o,e,_⟩:=pl.isList;exact Iz e
 refine call_all_walk (wpAny_pyIter_list pl.isList ?_);refine⟨s.heap.objs.size,_,_,its.toArray.size,_,_,(fun i=>bs.getD i true),rfl,Walks.list (A:=X.A.in1) (I.ok.hd hc) s.heap.objs.size p (JM hp) its.toArray,⟨⟨_,JC _ rfl,rfl,rfl⟩,pl.isList.push _⟩,?_,?_⟩
 ·intro i v s' Q' E' hv hQ
  have e:=qB r' (i:=i) (v:=v) (by simpa using hv);subst e;exact K1 hQ
 ·intro h' tk hk
  refine⟨.bl (bs.all id),H,I.kept (t' :=tk) (fun b o e=>hk b o (by simpa using JM (Iz e)) (Il _ e)),?_,q⟩;rw[I0,<-hlen,all_range];rfl
theorem fN:∀{ys:List Str}{us:List Value},aQ (ys.map V.str) us->StrsAre us ys
 | [],_,r=>by
  rw[Kl]at r;cases r;exact .nil
 | y::ys,_,r=>by
  rw[JH]at r;cases r with
  | cons r1 r2 =>
   obtain⟨t,e⟩:=r1;subst e;exact .cons y t (fN r2)
noncomputable def Gi(K:W.Frag):V->List V->Hp->VK->Prop:=fun x vs H Q=>∃sep p ys,x=.str sep/\vs=[.ref p]/\(bN K H p (ys.map V.str)\/bw K H p (ys.map V.str))/\(ys.map (·.length)).sum+ys.length*sep.length<=16777216/\Q (.str (Txt.join sep ys)) H
theorem zj:FG X "str.join" (Gi X.K):=by
 intro pins s σ H x xs v us Q I rx rs h;obtain⟨sep,p,ys,rfl,rfl,hq,hz,q⟩:=h;obtain⟨t,rfl⟩:=rx;obtain⟨u,rfl,ru⟩:=vals1 rs;cases ru
 rcases hq with hq|hq
 ·obtain⟨its,r,pl,_⟩:=I.list hq
  exact join_list pl.isList (fN (by simpa using r)) hz fun t' k=>⟨.str (Txt.join sep ys),H,I.tok _,⟨_,rfl⟩,q⟩
 ·obtain⟨its,r,pl,_⟩:=I.tuple hq
  exact join_tuple pl (fN (by simpa using r)) hz fun t' k=>⟨.str (Txt.join sep ys),H,I.tok _,⟨_,rfl⟩,q⟩
noncomputable def Ib(x:Str):It:=⟨fun i _=>i<x.cps.size,fun i H v H' =>H' =H/\∃c,x.cps[i]? =some c/\v=.str ⟨#[c]⟩,fun i _=>i=x.cps.size⟩
noncomputable def iStr(tl:TE):TI:=fun σ H R=>tl σ H fun x H1=>∃z,x=.str z/\R (Ib z) H1
theorem fL{P:Program}{w:World}{K:W.Frag}{tg:Expr}{it:Addr}{n:Nat}{Pw:Nat->Value->Prop}{tn:Nat->Heap->Prop}{J:It}(hW:∀A:Around,A.handled=none->Walks P w A it [it] [it] n Pw tn)
  (hob:∀i h,tn i h->∃(o:Obj)(ty:String)(vs:Array Value),h.get? it=some o/\o.cls=.type ty/\o.data=.fields vs/\["enumerate","zip","dict_itemiterator","dict_reverseitemiterator","odict_iterator","itertools.zip_longest","itertools.pairwise"].contains ty=false)
  (hgo:∀i H,J.go i H->i<n) (hst:∀i H,J.stop i H->i=n) (hy:∀i H v,Pw i v->∃x,RelV x v/\J.yld i H x H)
  (hself:∀(A:Around)(i:Nat)(s:Shared)(Q:Value->Shared->Prop)(E:Value->Shared->Prop),tn i s.heap->Q (.ref it) s->wpAny (model P w) A (pyIter (.ref it)) Q E s):px P w K tg J [it] it tn where
 mem:=by simp
 obj:=fun i h st b hb=>by
  have e:b=it:=by simpa using hb
  subst e;obtain⟨o,ty,vs,e,_,d,_⟩:=hob i h st;exact⟨o,e,fun v z=>by rw[d]at z;cases z⟩
 keep:=fun i h h' st k=>(hW {callerA with handled:=none} rfl).frame i h h' st k
 item:=by
  intro X hP hw hK hc i pins s σ H E I hf st hg;subst hP hw hK;obtain⟨f0,f1,f2,f3,f4,f5⟩:=hf it (by simp);refine(hW X.A (I.ok.hd hc)).item i s _ _ (hgo i H hg) st fun v h' tk hv st' kk=> ?_;obtain⟨x,rx,y⟩:=hy i H v hv;have I1:Inv X pins σ H {s with heap:=h',toks:=tk}:=I.turned (fun b o hb e=>kk b o (by simpa using hb) e) f0 f1 f3 f4 f5;obtain⟨o,ty,vs,e,c,d,nc⟩:=hob (i+1) h' st';exact⟨_,rfl,sr (s:={s with heap:=h',toks:=tk}) e c d nc ⟨x,H,I1,rx,y,st',fun b hb=>(hf b hb).1⟩⟩
 done:=by
  intro X hP hw hK hc i pins s σ H E I hf st hg;subst hP hw hK;obtain⟨f0,f1,f2,f3,f4,f5⟩:=hf it (by simp);have e:=hst i H hg;subst e;exact(hW X.A (I.ok.hd hc)).done s _ _ st fun h' tk kk=>⟨rfl,I.turned (fun b o hb e=>kk b o (by simpa using hb) e) f0 f1 f3 f4 f5⟩
 self:=hself
theorem Cm{tg:Expr}{l:Expr}{tl:TE}(hl:PE X l tl):PI X tg l (iStr tl):=by
 intro pins s σ H R I h;refine bD (hl pins s σ H _ I h) fun v s1 hpq=> ?_;obtain⟨x,H1,I1,r1,q1⟩:=hpq;obtain⟨z,rfl,q⟩:=q1;obtain⟨t,rfl⟩:=r1;have fp:∀b∈[s1.heap.objs.size],iZ X pins H1 b:=fun b hb=>by
  have e:b=s1.heap.objs.size:=by simpa using hb
  subst e;exact I1.fpOk (Io _) (I1.hok.fresh (Io _))
 have yl:∀(i:Nat)(H:Hp)(v:Value),SignAt z i v->∃x,RelV x v/\(Ib z).yld i H x H:=fun i H v hv=>by
  obtain⟨c,u,e,rfl⟩:=hv;exact⟨.str ⟨#[c]⟩,⟨_,rfl⟩,rfl,c,e,rfl⟩
 cases ha:z.cps.all (·<128)with
 | false =>
  refine wpAny_pyIter_wide ha ?_
  refine⟨s1.heap.objs.size,[s1.heap.objs.size],fun i h=>h.IsStrIter s1.heap.objs.size "str_iterator" z t i,Ib z,H1,rfl,I1.kept (t' :=s1.toks) fun b o e=>Il _ e,
   fL (fun A hA=>Walks.strWide hA _ z t) (fun i h st=> ?_) (fun i H g=>g) (fun i H g=>g) yl (fun A i s Q E st h=>wpAny_pyIter_striter_wide st h),⟨_,JC _ rfl,rfl,rfl⟩,fp,q⟩
  obtain⟨o,e,c,d⟩:=st;exact⟨o,_,_,e,c,d,by decide⟩
 | true =>
  refine wpAny_pyIter_ascii ha ?_
  refine⟨s1.heap.objs.size,[s1.heap.objs.size],fun i h=>h.IsStrIter s1.heap.objs.size "str_ascii_iterator" z t i,Ib z,H1,rfl,I1.kept (t' :=s1.toks) fun b o e=>Il _ e,
   fL (fun A hA=>Walks.strAscii hA _ z t) (fun i h st=> ?_) (fun i H g=>g) (fun i H g=>g) yl (fun A i s Q E st h=>wpAny_pyIter_striter_ascii st h),⟨_,JC _ rfl,rfl,rfl⟩,fp,q⟩
  obtain⟨o,e,c,d⟩:=st;exact⟨o,_,_,e,c,d,by decide⟩
noncomputable def Itc(lo c:Int)(n:Nat):It:=⟨fun i _=>i<n,fun i H x H' =>H' =H/\x=.int (lo+i*c),fun i _=>i=n⟩
noncomputable def HM(ta:TA):TI:=fun σ H R=>ta σ H fun vs H1=>∃i j c:Int,vs=[.int i,.int j,.int c]/\c≠0/\c.natAbs<1073741824/\Builtin.Range.small i j c=true/\R (Itc i c (Builtin.Range.rangeSize i j c).toNat) H1
theorem mx(i j c:Int):0<=Builtin.Range.rangeSize i j c:=by
 unfold Builtin.Range.rangeSize
 split
 ·split
  ·have:=Int.ediv_nonneg (a:=j-i-1) (b:=c) (by omega) (by omega)
   omega
  ·exact Lo _
 ·split
  ·by_cases hc:c=0
   ·subst hc
    simp
   ·have:=Int.ediv_nonneg (a:=i-j-1) (b:= -c) (by omega) (by omega)
    omega
  ·exact Lo _
theorem uF{tg:Expr}{a b c:Expr}{ta:TA}{p pos:Pos}(hg:Gl X "range")(hm:X.mg "range"=none)(ha:PA X [a,b,c] ta)(hs:starEach [a,b,c] X.env=(false,eval a X.env)::starEach [b,c] X.env:=by rfl)
  (hs2:(backTo pos (starEach [b,c] X.env)).any (·.1)=false:=by rfl):PI X tg (.Call (.Name "range" p) [a,b,c] [] pos) (HM ta):=by
 intro pins s σ H R I h;refine Call_ (cI I hg hm boot_range (JZ (bD (ha pos pins s σ H _ I h) fun us s1 ⟨vs,H1,I1,r1,q1⟩=> ?_) hs hs2));obtain⟨i,j,k,e,hk,hk2,hsm,q⟩:=q1;subst e;cases r1 with
 | cons r rr =>
  cases rr with
  | cons r' rr =>
   cases rr with
   | cons r'' rr =>
    cases rr;obtain⟨t,rfl⟩:=r;obtain⟨t',rfl⟩:=r';obtain⟨t'',rfl⟩:=r'';refine call_range_3 hk ?_ (.inl (PyProof.noPylong_small hk2));refine wpAny_pyIter_range (IsRange.new ..) hsm ?_;have I2:Inv X pins σ H1 {s1 with heap:=s1.heap.push {cls:=.type "range",data:=.fields #[.int i t,.int j t',.int k t'']}}:=I1.kept (t' :=s1.toks) fun b o e=>Il _ e
    refine⟨_,[_],_,_,H1,rfl,I2.kept (t' :=s1.toks) fun b o e=>Il _ e,
     fL (fun A hA=>Walks.range hA _ i k (Builtin.Range.rangeSize i j k).toNat) (fun m h st=>⟨_,_,_,st,rfl,rfl,by decide⟩) (fun m H g=>g) (fun m H g=>g) (fun m H v hv=> ?_) (fun A m s Q E st h=>wpAny_pyIter_rangeiter st h),?_,fun b hb=> ?_,q⟩
    ·obtain⟨u,rfl⟩:=hv
     exact⟨.int (i+m*k),⟨_,rfl⟩,rfl,rfl⟩
    ·have e1:i+((0:Nat):Int)*k=i:=by simp
     have e2:(((Builtin.Range.rangeSize i j k).toNat:Nat):Int)-((0:Nat):Int)=Builtin.Range.rangeSize i j k:=by
      have:=mx i j k;omega
     show IsRangeIter _ _ (i+((0:Nat):Int)*k) ((((Builtin.Range.rangeSize i j k).toNat:Nat):Int)-((0:Nat):Int)) k;rw[e1,e2];exact JC _ rfl
    ·have e:b=(s1.heap.push {cls:=.type "range",data:=.fields #[.int i t,.int j t',.int k t'']}).objs.size:=by simpa using hb
     subst e;exact I2.fpOk (Io _) (I2.hok.fresh (Io _))
theorem Inv.drew{pins:List (Addr×Obj)}{σ:St}{H:Hp}{s:Shared}{h' :Heap}{fp:List Addr}{p:Addr}{o:HO}{t' :Nat}(I:Inv X pins σ H s)(hf:∀b∈fp,iZ X pins H b)(k:∀b ob,b∉fp->s.heap.get? b=some ob->h'.get? b=some ob)
  (hp:s.heap.objs.size<=p) (new:az X.prog X.w (upd H p o) h' p o):Inv X pins σ (upd H p o) {s with heap:=h',toks:=t'}:=by
 have ne:∀b u,H b=some u->b≠p:=fun b u e=>JM (JT (I.hok.lt e) hp);have nf:∀b u,H b=some u->b∉fp:=fun b u e hb=>by rw[(hf b hb).1]at e;cases e
 refine I.step (g' :=s.gens) (d' :=s.drawn) (ch:=fp) (fun b hb=>⟨(hf b hb).2.2.2.1,(hf b hb).2.1,(hf b hb).2.2.2.2.1,(hf b hb).2.2.2.2.2⟩) (fun b ob _ _ hc e _=>k b ob hc e) (fun b ob _ _ hc e _=>⟨ob.slots,k b ob hc e⟩)
  (fun b ob hc e n=>by rw[aD (JM (JT (Iz e) hp))];exact n) (fun b ob hc e=>⟨ob,k b ob hc e⟩) (fun b xs e=>by rw[aD (ne b _ e)];exact e) (fun b ob u e=>by rw[aD (ne b _ e)];exact e)
  (fun b ps e=>⟨#[],by rw[aD (ne b _ e),e];simp⟩) (fun m hm=> ?_) (fun b u e=> ?_) I.bare
 ·obtain⟨ob,es,ep,ho,r⟩:=hm
  exact⟨ob,es,ep,k _ _ (fun hb=>(hf _ hb).2.1 rfl) ho,r⟩
 ·by_cases hb:b=p
  ·subst hb
   rw[aK]at e;cases e;exact new
  ·rw[aD hb]at e
   refine(I.hok b u e).stay (fun c v hc q=>k c v ?_ q) (fun c q=>by rw[aD (ne c _ q)];exact q) (fun c xs q=>by rw[aD (ne c _ q)];exact q)
   rcases hc with rfl|hc
   ·exact nf _ _ e
   ·exact nf _ _ hc
theorem Inv.drew0{pins:List (Addr×Obj)}{σ:St}{H:Hp}{s:Shared}{h' :Heap}{fp:List Addr}{t' :Nat}(I:Inv X pins σ H s)(hf:∀b∈fp,iZ X pins H b)(k:∀b ob,b∉fp->s.heap.get? b=some ob->h'.get? b=some ob) :
  Inv X pins σ H {s with heap:=h',toks:=t'}:=by
 have nf:∀b u,H b=some u->b∉fp:=fun b u e hb=>by rw[(hf b hb).1]at e;cases e
 refine I.step (g' :=s.gens) (d' :=s.drawn) (ch:=fp) (fun b hb=>⟨(hf b hb).2.2.2.1,(hf b hb).2.1,(hf b hb).2.2.2.2.1,(hf b hb).2.2.2.2.2⟩) (fun b ob _ _ hc e _=>k b ob hc e) (fun b ob _ _ hc e _=>⟨ob.slots,k b ob hc e⟩)
  (fun b ob hc e n=>n) (fun b ob hc e=>⟨ob,k b ob hc e⟩) (fun b xs e=>e) (fun b ob u e=>e) (fun b ps e=>⟨#[],by rw[e];simp⟩) (fun m hm=> ?_) (fun b u e=> ?_) I.bare
 ·obtain⟨ob,es,ep,ho,r⟩:=hm
  exact⟨ob,es,ep,k _ _ (fun hb=>(hf _ hb).2.1 rfl) ho,r⟩
 ·refine(I.hok b u e).stay (fun c v hc q=>k c v ?_ q) (fun c q=>q) (fun c xs q=>q)
  rcases hc with rfl|hc
  ·exact nf _ _ e
  ·exact nf _ _ hc
noncomputable def Itz(K:W.Frag)(a b:Addr):It :=
  ⟨fun i H=>∃xs ys x y,bN K H a xs/\bN K H b ys/\xs[i]? =some x/\ys[i]? =some y,
   fun i H v H' =>∃p,H p=none/\v=.ref p/\∀xs ys x y,bN K H a xs->bN K H b ys->xs[i]? =some x->ys[i]? =some y->H' =upd H p (.tup [x,y]),
   fun i H=>∃xs ys,bN K H a xs/\bN K H b ys/\(xs.length<=i\/ys.length<=i)⟩
noncomputable def IQ(z TI TO i1 i2 a b:Addr)(i:Nat)(h:Heap):Prop:=IsZip h z TI TO .none/\IsPair h TI (.ref i1) (.ref i2)/\(∃u v,IsPair h TO u v)/\h.IsListIter i1 a i/\h.IsListIter i2 b i
theorem vW{P:Program}{w:World}{K:W.Frag}{es:List Expr}{kt:Nat}{tpos:Pos}{z TI TO i1 i2 a b:Addr}(D:ZipApart z TI TO i1 i2 a b) :
  px P w K (.Tuple es kt tpos) (Itz K a b) [z,TI,TO,i1,i2] z (IQ z TI TO i1 i2 a b) where
 mem:=by simp
 obj:=fun i h st c hc=>by
  obtain⟨hz,hTI,⟨u,v,hTO⟩,⟨o1,e1,_,d1⟩,⟨o2,e2,_,d2⟩⟩:=st;simp only[JD,JW,Ku]at hc
  rcases hc with rfl|rfl|rfl|rfl|rfl
  ·exact⟨_,hz,fun v z=>by cases z⟩
  ·exact⟨_,hTI,fun v z=>by cases z⟩
  ·exact⟨_,hTO,fun v z=>by cases z⟩
  ·exact⟨_,e1,fun v z=>by rw[d1]at z;cases z⟩
  ·exact⟨_,e2,fun v z=>by rw[d2]at z;cases z⟩
 keep:=fun i h h' st k=>by
  obtain⟨hz,hTI,⟨u,v,hTO⟩,h1,h2⟩:=st;exact⟨k z (by simp) _ hz,k TI (by simp) _ hTI,⟨u,v,k TO (by simp) _ hTO⟩,h1.at fun o e=>k i1 (by simp) o e,h2.at fun o e=>k i2 (by simp) o e⟩
 item:=by
  intro X hP hw hK hc i pins s σ H E I hf st hg;subst hP hw hK;obtain⟨xs,ys,x,y,sa,sb,ex,ey⟩:=hg;obtain⟨its,ra,pa,_⟩:=I.list sa;obtain⟨its',rb,pb,_⟩:=I.list sb;obtain⟨u,eu,ru⟩:=ra.get ex;obtain⟨v,ev,rv⟩:=rb.get ey;obtain⟨hz,hTI,⟨u0,v0,hTO⟩,h1,h2⟩:=st;refine wpAny_pyNext_zip_item D hz hTI hTO h1 h2 pa.isList pb.isList (x:=u) (y:=v) (by simpa using eu) (by simpa using ev) fun h' a1 a2 a3 a4 a5 a6 hk=> ?_;refine⟨_,rfl,wpAny_letOwnedTupleGo_zip a1 fun h'' hz' hs' => ?_⟩;have zlt:z<s.heap.objs.size:=Iz hz;have kk:∀c o,c∉[z,TI,TO,i1,i2]->s.heap.get? c=some o->h''.get? c=some o:=fun c o hc e=>by
   simp only[JD,JW,Ku,not_or]at hc;obtain⟨c1,c2,c3,c4,c5⟩:=hc;exact(hs'.2 c c1).trans (hk c o c1 c3 c4 c5 e)
  have tI:h''.get? TI=some _:=(hs'.2 TI D.TIz).trans (hk TI _ D.TIz D.TITO D.TIi1 D.TIi2 hTI);have new:h''.get? s.heap.objs.size=some {cls:=.type "tuple",data:=.seq #[u,v]}:=(hs'.2 _ (KM zlt)).trans a5;have I1:Inv X pins σ (upd H s.heap.objs.size (.tup [x,y])) {s with heap:=h''}:=I.drew (t' :=s.toks) hf kk (Io _) ⟨by show 2<=sizeLine;decide,[u,v],.cons ru (.cons rv .nil),⟨_,new,rfl,_,rfl,rfl⟩⟩;refine⟨.ref s.heap.objs.size,upd H s.heap.objs.size (.tup [x,y]),I1,rfl,⟨s.heap.objs.size,I.hok.fresh (Io _),rfl,fun xs' ys' x' y' sa' sb' ex' ey' => ?_⟩,⟨hz',tI,⟨_,_,(hs'.2 TO D.TOz).trans a2⟩,a3.at fun o e=>(hs'.2 i1 D.i1z).trans e,a4.at fun o e=>(hs'.2 i2 D.i2z).trans e⟩,fun c hc=> ?_⟩
  ·have q1:=I.list_inj sa sa'
   have q2:=I.list_inj sb sb';subst q1 q2;rw[ex]at ex';rw[ey]at ey';cases ex';cases ey';rfl
  ·rw[aD ?_]
   ·exact(hf c hc).1
   ·intro e
    have lt:c<s.heap.objs.size:=by
     simp only[JD,JW,Ku]at hc;obtain⟨o1,e1,_⟩:=id h1;obtain⟨o2,e2,_⟩:=id h2
     rcases hc with rfl|rfl|rfl|rfl|rfl
     ·exact zlt
     ·exact Iz hTI
     ·exact Iz hTO
     ·exact Iz e1
     ·exact Iz e2
    exact absurd e (JM lt)
 done:=by
  intro X hP hw hK hc i pins s σ H E I hf st hg;subst hP hw hK;obtain⟨xs,ys,sa,sb,hend⟩:=hg;obtain⟨its,ra,pa,_⟩:=I.list sa;obtain⟨its',rb,pb,_⟩:=I.list sb;obtain⟨hz,hTI,⟨u0,v0,hTO⟩,h1,h2⟩:=st;have l1:=ra.length;have l2:=rb.length;refine wpAny_pyNext_zip_end (I.ok.hd hc) D hz hTI hTO h1 h2 pa.isList pb.isList ?_ fun h' hk=>⟨rfl,I.drew0 (t' :=s.toks) hf fun c o hc e=> ?_⟩
  ·rcases hend with q|q
   ·exact .inl (by simp;omega)
   ·exact .inr (by simp;omega)
  ·simp only[JD,JW,Ku,not_or]at hc
   exact hk c o hc.1 hc.2.2.1 hc.2.2.2.1 hc.2.2.2.2 e
 self:=fun _ _ _ _ _ st h=>wpAny_pyIter_zip st.1 h
noncomputable def iZip(K:W.Frag)(ta:TA):TI:=fun σ H R=>ta σ H fun vs H1=>∃a b xs ys,vs=[.ref a,.ref b]/\bN K H1 a xs/\bN K H1 b ys/\R (Itz K a b) H1
theorem Ck{es:List Expr}{kt:Nat}{tpos:Pos}{a b:Expr}{ta:TA}{p pos:Pos}(hg:Gl X "zip")(hm:X.mg "zip"=none)(ha:PA X [a,b] ta)(hs:starEach [a,b] X.env=(false,eval a X.env)::starEach [b] X.env:=by rfl)
  (hs2:(backTo pos (starEach [b] X.env)).any (·.1)=false:=by rfl):PI X (.Tuple es kt tpos) (.Call (.Name "zip" p) [a,b] [] pos) (iZip X.K ta):=by
 intro pins s σ H R I h;refine Call_ (cI I hg hm boot_zip (JZ (bD (ha pos pins s σ H _ I h) fun us s1 ⟨vs,H1,I1,r1,q1⟩=> ?_) hs hs2));obtain⟨l1,l2,xs,ys,e,sa,sb,q⟩:=q1;subst e;obtain⟨u,v,rfl,ru,rv⟩:=vals2 r1;cases ru;cases rv;obtain⟨its,ra,pa,_⟩:=I1.list sa;obtain⟨its',rb,pb,_⟩:=I1.list sb;have lt1:l1<s1.heap.objs.size:=by obtain⟨o,e,_⟩:=pa.isList;exact Iz e
 have lt2:l2<s1.heap.objs.size:=by obtain⟨o,e,_⟩:=pb.isList;exact Iz e
 refine call_zip_2 pa.isList pb.isList fun h' hz hTI hTO hit1 hit2 hsz hk=> ?_;refine wpAny_pyIter_zip hz ?_;have I2:Inv X pins σ H1 {s1 with heap:=h'}:=I1.kept (t' :=s1.toks) hk;refine⟨s1.heap.objs.size+4,[s1.heap.objs.size+4,s1.heap.objs.size+2,s1.heap.objs.size+3,s1.heap.objs.size,s1.heap.objs.size+1],_,_,H1,rfl,I2,vW (zipApart_new lt1 lt2),⟨hz,hTI,⟨_,_,hTO⟩,hit1,hit2⟩,fun c hc=> ?_,q⟩;have le:s1.heap.objs.size<=c:=by
  simp only[JD,JW,Ku]at hc
  rcases hc with rfl|rfl|rfl|rfl|rfl<;>omega
 exact I1.fpOk le (I1.hok.fresh le)
theorem wU:dv X (binaryOp .FloorDiv) (rI (fun _ j=>0<j/\j.natAbs.log2<9000) fun i j=>.int (i/j)):=G8 fun i j _ _ _ _ _ hc q=>by
 have h1:(0:Int)<j:=hc.1;exact floordiv_int (by omega) (by rw[Int.fdiv_eq_ediv_of_nonneg i (by omega)];exact q) (.inl (PyProof.noPylong_of_log2 hc.2))
end
theorem aE.tup{K:W.Frag}{H H' :Hp}{a:Addr}{xs:List V}(e:aE H H')(h:bw K H a xs):bw K H' a xs:=by
 rcases h with(h|⟨o,h⟩)|h
 ·exact .inl (.inl (e _ _ h))
 ·exact .inl (.inr ⟨o,e _ _ h⟩)
 ·exact .inr h
theorem aU{H:Hp}{p:Addr}(h:H p=none)(o:HO):aE H (upd H p o):=fun b u q=>by rw[aD (aM q h)];exact q
theorem aE.upd{H H' :Hp}{D:Addr}{o:HO}(e:aE H H')(h:H D=none):aE H (upd H' D o):=fun b u q=>by rw[aD (aM q h)];exact e b u q
noncomputable def cD(z:Str):List V:=z.cps.toList.map fun c=>V.str ⟨#[c]⟩
theorem je(z:Str):(cD z).length=z.length:=by
 unfold cD;rw[Ik,Jd];rfl
noncomputable def BZ(n:Nat):List V:=(List.range n).map fun i=>V.int (i:Nat)
section
variable{X:Cx}{N' :List Str}{scope:Scope}{elt:Expr}{σ:St}{H1:Hp}{J:It}{xs:List V}
theorem pe{r:List (Option Nat)}{σ:St}{x:V}(h:r.length+1=N'.length) :
  ((bO (none::r) σ).set 0 (some x)).length=N'.length/\∀(j:Nat)(v:V),(bO (none::r) σ)[j]? =some (some v)->((bO (none::r) σ).set 0 (some x))[j]? =some (some v):=by
 refine⟨by rw[KJ];simp[bO,h],fun j v e=> ?_⟩;cases j with
 | zero=>simp[bO]at e
 | succ j=>simpa [bO]using e
end
structure fF(K:W.Frag)(mg:Str->Option Value)(x:Str)(st:Stmt)(ps:List Str)(f:Addr)(fd:FuncData):Prop where
 fn:FY K x x st f fd
 nm:mg x=some (.ref f)
 bd:Binds K fd ps []
theorem Gs{X:Cx}{x:Str}{n:String}{pos:Pos}(hg:Gl X x)(hm:X.mg x=none)(hv:bootBuiltins x=some (.type n))(hn:x≠"__name__":=by decide)(hd:(x==("__debug__":Str))=false:=by decide):PE X (.Name x pos) (tC (.ty n)) :=
 zN (v:=.ty n) hg hm hv rfl hn hd
section
variable{K:W.Frag}
theorem eN(n:String):W.kitOne K (.type n) (.type n)=some true:=by
 unfold W.kitOne;rw[Ix (by simp)]
end
noncomputable def HE:V->Nat
 | .str z=>z.length
 | _=>0
noncomputable def sA(K:W.Frag):Sp:=fun vs H Q _=>∃(a:Addr)(ns:List Int),vs=[.ref a]/\bN K H a (ns.map V.int)/\ns.length<=63/\∀H',Q (.bl true) H'
section
variable{X:Cx}{e st:Expr}{te ts:TE}{pos p2:Pos}
end
section
variable{κ:Type}[DecidableEq κ]
noncomputable def gR(kvs:List (κ×V))(k:κ):Option V:=(kvs.find? fun kv=>decide (kv.1=k)).map (·.2)
noncomputable def dg(kvs:List (κ×V))(k:κ)(v:V):List (κ×V) :=
 if(kvs.any fun kv=>decide (kv.1=k))=true then kvs.map (fun kv=>if kv.1=k then(kv.1,v)else kv)else kvs++[(k,v)]
theorem jV{p:κ×V}{r:List (κ×V)}{k:κ}(e:p.1=k):gR (p::r) k=some p.2:=by simp[gR,J5,e]
theorem jW{p:κ×V}{r:List (κ×V)}{k:κ}(e:¬p.1=k):gR (p::r) k=gR r k:=by simp[gR,J5,e]
theorem nr(k:κ):∀kvs:List (κ×V),(kvs.any fun kv=>decide (kv.1=k))=(gR kvs k).isSome
 | []=>rfl
 | p::r=>by
  rw[LU]
  by_cases e:p.1=k
  ·simp only[jV e,JP e,Bool.true_or,Option.isSome_some]
  ·rw[jW e,JK e,Lq];exact nr k r
theorem eM(kvs:List (κ×V))(k:κ)(v:V):(dg kvs k v).length<=kvs.length+1:=by
 unfold dg
 split
 ·rw[Ik];omega
 ·rw[JA,JI,List.length_nil];omega
theorem nZ.isSome_eq{o:Option V}{u:Option Value}(r:nZ o u):o.isSome=u.isSome:=by
 cases o with
 | none=>cases u with
  | none=>rfl
  | some _=>exact(show False from r).elim
 | some _=>cases u with
  | none=>exact(show False from r).elim
  | some _=>rfl
theorem nZ.getD{o:Option V}{u:Option Value}{d:V}{d' :Value}(r:nZ o u)(rd:RelV d d'):RelV (o.getD d) (u.getD d'):=by
 cases o with
 | none=>cases u with
  | none=>exact rd
  | some _=>exact(show False from r).elim
 | some _=>cases u with
  | none=>exact(show False from r).elim
  | some _=>exact r
theorem KV.val{kvs:List (κ×V)}{vs:List (κ×Value)}(r:KV kvs vs)(k:κ):nZ (gR kvs k) (valueAt vs k):=by
 unfold KV at r
 induction r with
 | nil=>exact True.intro
 | @cons p q ps qs h t ih =>
  obtain⟨h1,h2⟩:=h
  by_cases e:p.1=k
  ·have e' :q.1=k:=h1.symm.trans e
   have b:valueAt (q::qs) k=some q.2:=by simp[valueAt,J5,e']
   rw[jV e,b];exact h2
  ·have e' :¬q.1=k:=fun z=>e (h1.trans z)
   have b:valueAt (q::qs) k=valueAt qs k:=by simp[valueAt,J5,e']
   rw[jW e,b];exact ih
theorem KV.any{kvs:List (κ×V)}{vs:List (κ×Value)}(r:KV kvs vs)(k:κ):(kvs.any fun kv=>decide (kv.1=k))=vs.any fun kv=>decide (kv.1=k):=by
 unfold KV at r
 induction r with
 | nil=>rfl
 | cons h t ih=>rw[LU,LU,ih,h.1]
theorem KV.repl{kvs:List (κ×V)}{vs:List (κ×Value)}(r:KV kvs vs)(k:κ){y:V}{u:Value}(ry:RelV y u) :
  KV (kvs.map fun kv=>if kv.1=k then(kv.1,y)else kv) (vs.map fun kv=>if kv.1=k then(kv.1,u)else kv):=by
 unfold KV at r ⊢
 induction r with
 | nil=>exact .nil
 | @cons p q ps qs h t ih =>
  rw[JH,JH];refine .cons ?_ ih;obtain⟨h1,h2⟩:=h
  by_cases e:p.1=k
  ·rw[Ix e,Ix (h1.symm.trans e)];exact⟨h1,ry⟩
  ·rw[Iq e,Iq (fun z=>e (h1.trans z))];exact⟨h1,h2⟩
theorem KV.put{kvs:List (κ×V)}{vs:List (κ×Value)}(r:KV kvs vs)(k:κ){y:V}{u:Value}(ry:RelV y u):KV (dg kvs k y) (stored vs k u):=by
 unfold dg stored;rw[r.any k]
 by_cases e:(vs.any fun kv=>decide (kv.1=k))=true
 ·rw[Ix e,Ix e];exact r.repl k ry
 ·rw[Iq e,Iq e];exact Paired.snoc r ⟨rfl,ry⟩
theorem KV.length{kvs:List (κ×V)}{vs:List (κ×Value)}(r:KV kvs vs):kvs.length=vs.length:=Paired.length r
end
theorem sf{P:Program}{w:World}{k:am}{u:Value}(r:RelV (kV k) u):(ac P w).is k u=true:=by
 cases k with
 | inl i=>obtain⟨t,e⟩:=(show∃t,u=Value.int i t from r);subst e;exact oi P w i t
 | inr x=>obtain⟨t,e⟩:=(show∃t,u=Value.str x t from r);subst e;exact oh P w x t
theorem mC{P:Program}{w:World}:∀{ks:List am}{us:List Value},aQ (ks.map kV) us->ItemsAre (ac P w) ks us
 | [],_,r=>by rw[Kl]at r;cases r;exact .nil
 | k::ks,_,r=>by
  rw[JH]at r;cases r with
  | cons h t=>exact .cons (sf h) (mC t)
noncomputable abbrev KT(H:Hp):List (List am×V)->List (List am×Addr×Value)->Prop:=Paired fun p q=>p.1=q.1/\H q.2.1=some (.tup (p.1.map kV))/\RelV p.2 q.2.2
theorem KT.val{H:Hp}{kvs:List (List am×V)}{xs:List (List am×Addr×Value)}(r:KT H kvs xs)(k:List am):nZ (gR kvs k) ((atKey xs k).map (·.2)):=by
 induction r with
 | nil=>exact True.intro
 | @cons p q ps qs h t ih =>
  obtain⟨h1,_,h2⟩:=h
  by_cases e:p.1=k
  ·have e' :q.1=k:=h1.symm.trans e
   have b:atKey (q::qs) k=some q.2:=by simp[atKey,J5,e']
   rw[jV e,b];exact h2
  ·have e' :¬q.1=k:=fun z=>e (h1.trans z)
   have b:atKey (q::qs) k=atKey qs k:=by simp[atKey,J5,e']
   rw[jW e,b];exact ih
theorem KT.repl{H:Hp}{kvs:List (List am×V)}{xs:List (List am×Addr×Value)}(r:KT H kvs xs)(k:List am){y:V}{u:Value}(ry:RelV y u) :
  KT H (kvs.map fun kv=>if kv.1=k then(kv.1,y)else kv) (xs.map (putAt k u)):=by
 induction r with
 | nil=>exact .nil
 | @cons p q ps qs h t ih =>
  rw[JH,JH];refine .cons ?_ ih;obtain⟨h1,h2,h3⟩:=h;unfold putAt
  by_cases e:p.1=k
  ·rw[Ix e,Ix (h1.symm.trans e)];exact⟨h1,h2,ry⟩
  ·rw[Iq e,Iq (fun z=>e (h1.trans z))];exact⟨h1,h2,h3⟩
theorem KT.put{H:Hp}{kvs:List (List am×V)}{xs:List (List am×Addr×Value)}(r:KT H kvs xs)(k:List am){b:Addr}{y:V}{u:Value}(hb:H b=some (.tup (k.map kV)))(ry:RelV y u) :
  KT H (dg kvs k y) (storedH xs k b u):=by
 have e:(kvs.any fun kv=>decide (kv.1=k))=(atKey xs k).isSome:=by
  rw[nr,(r.val k).isSome_eq,Option.isSome_map]
 unfold dg storedH;rw[e]
 by_cases q:(atKey xs k).isSome=true
 ·rw[Ix q,Ix q];exact r.repl k ry
 ·rw[Iq q,Iq q];exact Paired.snoc r ⟨rfl,hb,ry⟩
theorem KT.keeps{H H' :Hp}{kvs:List (List am×V)}{xs:List (List am×Addr×Value)}(r:KT H kvs xs)(ht:∀b ys,H b=some (.tup ys)->H' b=some (.tup ys)):KT H' kvs xs :=
 Paired.mapP r fun _ _ z=>⟨z.1,ht _ _ z.2.1,z.2.2⟩
section
variable{P:Program}{w:World}{H:Hp}{h:Heap}{a:Addr}
theorem BL{u:HO}(ok:dw P w H h)(e:Rd H a u):az P w H h a u:=e.ok ok
theorem pQ{kvs:List (am×V)}(ok:dw P w H h)(e:Rd H a (.dK kvs)):kvs.length<=sizeLine/\(a==sysModules)=false/\∃vs,KV kvs vs/\h.DictOf (ac P w) a vs :=
 show az P w H h a (.dK kvs)from BL ok e
theorem pR{kvs:List (am×V)}(ok:dw P w H h)(e:H a=some (.dK kvs)):kvs.length<=sizeLine/\(a==sysModules)=false/\∃vs,KV kvs vs/\h.DictOf (ac P w) a vs:=pQ ok (.inl e)
theorem qb{ks:List am}(ok:dw P w H h)(e:H a=some (.tup (ks.map kV))):(tupleKind (ac P w)).is h ks a:=by
 obtain⟨_,its,r,o,h1,h2,n,h3,_⟩:=(show az P w H h a (.tup (ks.map kV))from ok a _ e);exact⟨o,its.toArray,n,h1,h2,h3,by simpa using mC r⟩
theorem xg{kvs:List (List am×V)}(ok:dw P w H h)(e:Rd H a (.dT kvs)):kvs.length<=sizeLine/\(a==sysModules)=false /\
  ∃xs,KT H kvs xs/\h.DictOfH (tupleKind (ac P w)) a xs:=by
 obtain⟨z,y,xs,r,o,es,ep,h1,h2,h3,h4,h5⟩:=(show az P w H h a (.dT kvs)from BL ok e);refine⟨z,y,xs,r,o,es,ep,h1,h2,h3,h4,fun x hx=> ?_,h5⟩;have all:∀{l:List (List am×V)}{m:List (List am×Addr×Value)},KT H l m->∀x∈m,(tupleKind (ac P w)).is h x.1 x.2.1:=by
  intro l m q
  induction q with
  | nil=>intro x hx;exact nomatch hx
  | @cons p q ps qs hq t ih =>
   intro x hx
   rcases JD.mp hx with e|hx
   ·subst e
    exact qb ok (by rw[<- hq.1];exact hq.2.1)
   ·exact ih x hx
 exact all r x hx
theorem Ha{kvs:List (List am×V)}(ok:dw P w H h)(e:H a=some (.dT kvs)):kvs.length<=sizeLine/\(a==sysModules)=false /\
  ∃xs,KT H kvs xs/\h.DictOfH (tupleKind (ac P w)) a xs:=xg ok (.inl e)
end
noncomputable def rT(H:Hp)(a:Addr)(y:V)(r:Option V):Prop :=
 (∃kvs k,Rd H a (.dK kvs)/\y=kV k/\r=gR kvs k)\/∃kvs k b,Rd H a (.dT kvs)/\y=.ref b/\H b=some (.tup (k.map kV))/\r=gR kvs k
noncomputable def rS(H:Hp)(a:Addr)(y v:V)(H' :Hp):Prop :=
 (∃kvs k,H a=some (.dK kvs)/\y=kV k/\kvs.length<sizeLine/\H' =upd H a (.dK (dg kvs k v))) \/
 ∃kvs k b,H a=some (.dT kvs)/\y=.ref b/\H b=some (.tup (k.map kV))/\kvs.length<sizeLine/\H' =upd H a (.dT (dg kvs k v))
theorem rT.k{H:Hp}{a:Addr}{kvs:List (am×V)}{k:am}(e:H a=some (.dK kvs)):rT H a (kV k) (gR kvs k):=.inl ⟨kvs,k,.inl e,rfl,rfl⟩
theorem rT.t{H:Hp}{a b:Addr}{kvs:List (List am×V)}{k:List am}(e:H a=some (.dT kvs))(eb:H b=some (.tup (k.map kV))):rT H a (.ref b) (gR kvs k):=.inr ⟨kvs,k,b,.inl e,rfl,eb,rfl⟩
theorem rS.k{H:Hp}{a:Addr}{kvs:List (am×V)}{k:am}{v:V}(e:H a=some (.dK kvs))(hl:kvs.length<sizeLine):rS H a (kV k) v (upd H a (.dK (dg kvs k v))):=.inl ⟨kvs,k,e,rfl,hl,rfl⟩
theorem rS.t{H:Hp}{a b:Addr}{kvs:List (List am×V)}{k:List am}{v:V}(e:H a=some (.dT kvs))(eb:H b=some (.tup (k.map kV)))(hl:kvs.length<sizeLine) :
  rS H a (.ref b) v (upd H a (.dT (dg kvs k v))):=.inr ⟨kvs,k,b,e,rfl,eb,hl,rfl⟩
section
variable{X:Cx}{pins:List (Addr×Obj)}{σ:St}{H:Hp}{s:Shared}{a:Addr}{y v:V}{u r:Value}{o:Option V}{A:Around}{E:Value->Shared->Prop}
theorem Inv.big(I:Inv X pins σ H s):sysModules<s.heap.objs.size:=by
 have h:mainGlobals<s.heap.objs.size:=(I.mod.glob.keeps I.bk).lt;exact Kk (by decide) h
theorem nQ{h' :Heap}{t' :Nat}{ob:HO}(I:Inv X pins σ H s)(mu:IW (H a))(hs:Heap.SameBut a s.heap h')(he:∃q,h'.get? a=some q)(new:az X.prog X.w (upd H a ob) h' a ob) :
  Inv X pins σ (upd H a ob) {s with heap:=h',toks:=t'} :=
 I.write (x:=a) (e:=a) mu (.inl rfl) (fun b q hb z=>(hs.2 b hb).trans z) he new
theorem qm{P:Program}{w:World}{H' :Hp}{h' :Heap}{kvs:List (am×V)}{vs:List (am×Value)}(z:kvs.length<=sizeLine)(hd:(a==sysModules)=false)(rel:KV kvs vs)(dd:h'.DictOf (ac P w) a vs) :
  az P w H' h' a (.dK kvs):=⟨z,hd,vs,rel,dd⟩
theorem um{H' :Hp}{Q:Unit->Shared->Prop}(hu:A.units+1<cLine)(I:Inv X pins σ H s)(g:rS H a y v H')(ry:RelV y u)(rv:RelV v r)(h:∀s',Inv X pins σ H' s' ->Q () s') :
  wpAny (model X.prog X.w) A (setItem (.ref a) u r) Q E s:=by
 rcases g with⟨kvs,k,e,ey,l,eH⟩|⟨kvs,k,b,e,ey,eb,l,eH⟩
 ·subst ey eH
  obtain⟨z,hd,vs,rel,dd⟩:=pR I.hok e;have hz:vs.length<=sizeLine:=by rw[<- rel.length];exact z
  have hl:(dg kvs k v).length<=sizeLine:=by have:=eM kvs k v;omega
  refine wpAny_setItem_pairs (hsz:=hz) (sf ry) dd fun h' dd' hs=>h _ ?_;have he:∃q,h'.get? a=some q:=let⟨q,_,_,hq,_⟩:=dd';⟨q,hq⟩
  exact nQ I (by rw[e];exact True.intro) hs he (qm hl hd (rel.put k rv) dd')
 ·subst ey eH
  cases(show u=Value.ref b from ry);obtain⟨z,hd,xs,rel,dd⟩:=Ha I.hok e;have hz:xs.length<=sizeLine:=by rw[<- Paired.length rel];exact z
  have hl:(dg kvs k v).length<=sizeLine:=by have:=eM kvs k v;omega
  refine wpAny_setItem_heap (hsz:=hz) (tupleKind_room_in1 hu) (qb I.hok eb) dd fun h' dd' hs=>h _ ?_;obtain⟨q,es,ep,hq,h2,h3,h4,_,h5⟩:=dd';refine nQ I (by rw[e];exact True.intro) hs ⟨q,hq⟩ ⟨hl,hd,_,(rel.put k eb rv).keeps fun c ys ec=> ?_,q,es,ep,hq,h2,h3,h4,h5⟩;rw[aD (HC ec e (fun z=>nomatch z))];exact ec
end
section
variable{X:Cx}{pins:List (Addr×Obj)}{σ:St}{H:Hp}{s:Shared}{a:Addr}{kvs:List (am×V)}{k:am}{u:Value}{A:Around}{E:Value->Shared->Prop}
theorem Hb{Q:Value->Shared->Prop}(I:Inv X pins σ H s)(e:Rd H a (.dK kvs))(h:∀t s',Inv X pins σ H s' ->Q (.int kvs.length t) s'):wpAny (model X.prog X.w) A (call (.builtin "len") [.ref a]) Q E s:=by
 obtain⟨z,hd,vs,rel,dd⟩:=pQ I.hok e;refine call_len_dict hd dd (by rw[<- rel.length];rw[J6]at z;omega) ?_;rw[<- rel.length];exact h _ _ (I.tok _)
end
noncomputable def Gd(td ty tv:TE):TS:=fun D σ H=>tv σ H fun v H1=>td σ H1 fun x H2=>ty σ H2 fun y H3=>∃a H4,x=.ref a/\rS H3 a y v H4/\D.nx σ H4
section
variable{X:Cx}{o i e value:Expr}{pos pos' tpos:Pos}{td ty tv:TE}
theorem zA(hu:X.A.units+1<cLine)(ho:PE X o td)(hi:PE X i ty)(hv:PE X value tv)(hs:swapsWith value (some (.Subscript o i pos')) pos.line X.env=pure false) :
  PS X (.Assign [.Subscript o i pos'] value pos) (Gd td ty tv):=by
 intro pins s σ H D I h;refine wpAny_Assign_Subscript (bD (hv pins s σ H _ I h) fun r s1 ⟨v,H1,I1,rv,q1⟩=>bD (ho pins s1 σ H1 _ I1 q1) fun u s2 ⟨x,H2,I2,rx,q2⟩=>bD (hi pins s2 σ H2 _ I2 q2) fun iv s3 ⟨y,H3,I3,ry,a,H4,ex,g,q3⟩=> ?_) hs;subst ex;obtain rfl:u=Value.ref a:=rx;exact um hu I3 g ry rv fun s4 I4=>⟨σ,H4,I4,q3⟩
end
theorem pS{P:Program}{w:World}{H:Hp}(h:Heap)(hb:sysModules<h.objs.size):az P w H (h.push {cls:=.type "dict",data:=.dict #[]}) h.objs.size (.dK []) :=
 ⟨JR _,LX.mpr (KW (JM hb)),[],.nil,Heap.DictOf.new h⟩
noncomputable def CH:TE:=fun _ H Q=>∀p,H p=none->Q (.ref p) (upd H p (.dK []))
section
variable{X:Cx}{pos:Pos}
theorem oU:PE X (.Dict [] [] pos) CH:=fun pins s σ H Q I h =>
 wpAny_Dict_empty ⟨.ref s.heap.objs.size,_,I.laid (a:=s.heap.objs.size) (o:=.dK []) (t' :=s.toks) (fun _ _ q=>Il _ q) (Io _) (pS s.heap I.big),rfl,h _ (I.hok.fresh (Io _))⟩
end
noncomputable def qG:List (TE×TE)->St->Hp->(List (V×V)->Hp->Prop)->Prop
 | [],_,H,Q=>Q [] H
 | (tk,tv)::r,σ,H,Q=>tk σ H fun x H1=>tv σ H1 fun y H2=>qG r σ H2 fun ps H3=>Q ((x,y)::ps) H3
noncomputable abbrev VV:List (V×V)->List (Value×Value)->Prop:=Paired fun p q=>RelV p.1 q.1/\RelV p.2 q.2
noncomputable def PPs(X:Cx)(pos:Pos)(keys:List (Option Expr))(values:List Expr)(trs:List (TE×TE)):Prop :=
 ∀(pins:List (Addr×Obj))(s:Shared)(σ:St)(H:Hp)(Q:List (V×V)->Hp->Prop),Inv X pins σ H s->qG trs σ H Q ->
  wpAny (model X.prog X.w) X.A (evalPairs (pairTrees keys values X.env pos)) (fun vs s' =>∃ps H',Inv X pins σ H' s' /\VV ps vs/\Q ps H') X.xe s
theorem zD{X:Cx}{pos:Pos}:PPs X pos [] [] []:=fun pins s σ H Q I h=>pairTrees_nil_walk ⟨[],H,I,.nil,h⟩
theorem wE{X:Cx}{pos:Pos}{k v:Expr}{ks:List (Option Expr)}{vs:List Expr}{tk tv:TE}{trs:List (TE×TE)}(hk:PE X k tk)(hv:PE X v tv)(hr:PPs X pos ks vs trs) :
  PPs X pos (some k::ks) (v::vs) ((tk,tv)::trs):=fun pins s σ H Q I h =>
 pairTrees_cons_walk (bD (hk pins s σ H _ I h) fun u s1 ⟨x,H1,I1,rx,q1⟩=>bD (hv pins s1 σ H1 _ I1 q1) fun w2 s2 ⟨y,H2,I2,ry,q2⟩ =>
  bD (hr pins s2 σ H2 _ I2 q2) fun ws s3 ⟨ps,H3,I3,rel,q3⟩=>⟨(x,y)::ps,H3,I3,.cons ⟨rx,ry⟩ rel,q3⟩)
noncomputable def fQ(kvs more:List (am×V)):List (am×V):=more.foldl (fun acc kv=>dg acc kv.1 kv.2) kvs
theorem KV.merge:∀{more:List (am×V)}{rs:List (am×Value)}{kvs:List (am×V)}{vs:List (am×Value)},KV more rs->KV kvs vs->KV (fQ kvs more) (merged vs rs):=by
 intro more rs kvs vs r;unfold KV at r
 induction r generalizing kvs vs with
 | nil=>intro q;exact q
 | @cons p q ps qs h t ih =>
  intro r0;have e:KV (dg kvs p.1 p.2) (stored vs q.1 q.2):=by
   have:=r0.put p.1 h.2;rw[<- h.1];exact this
  exact ih e
theorem fH:∀(more kvs:List (am×V)),(fQ kvs more).length<=kvs.length+more.length
 | [],kvs=>by show kvs.length<=kvs.length+0;omega
 | p::r,kvs=>by
  have h1:=fH r (dg kvs p.1 p.2);have h2:=eM kvs p.1 p.2;show(fQ (dg kvs p.1 p.2) r).length<=_;rw[JI];omega
theorem kK{P:Program}{w:World}:∀{kvs:List (am×V)}{ws:List (Value×Value)},VV (kvs.map fun kv=>(kV kv.1,kv.2)) ws->∃rs,Carries (ac P w) ws rs/\KV kvs rs
 | [],_,r=>by rw[Kl]at r;cases r;exact⟨[],True.intro,.nil⟩
 | p::kvs,_,r=>by
  rw[JH]at r;cases r with
  | @cons a b as bs h t =>
   obtain⟨rs,c,q⟩:=kK (P:=P) (w:=w) t;obtain⟨b1,b2⟩:=b;exact⟨(p.1,b2)::rs,⟨sf h.1,rfl,c⟩,.cons ⟨rfl,h.2⟩ q⟩
noncomputable def GE(trs:List (TE×TE)):TE:=fun σ H Q=>∀p,H p=none->qG trs σ (upd H p (.dK [])) fun ps H2=>H2 p=some (.dK [])/\∃kvs:List (am×V),ps=kvs.map (fun kv=>(kV kv.1,kv.2))/\kvs.length<=15/\Q (.ref p) (upd H2 p (.dK (fQ [] kvs)))
theorem zL{X:Cx}{pos:Pos}{keys:List (Option Expr)}{values:List Expr}{trs:List (TE×TE)}(h:PPs X pos keys values trs)(hall:keys.all (·.isSome)=true)(hl:keys.length=values.length)(h0:keys≠[])
  (h15:keys.length<=15):PE X (.Dict keys values pos) (GE trs):=by
 intro pins s σ H Q I q;have hn:=I.hok.fresh (Io s.heap.objs.size);have I1:=I.laid (a:=s.heap.objs.size) (o:=.dK []) (h' :=s.heap.push {cls:=.type "dict",data:=.dict #[]}) (t' :=s.toks) (fun _ _ q=>Il _ q) (Io _) (pS s.heap I.big);refine wpAny_Dict_walk (knd:=ac X.prog X.w) hall hl h0 h15 (bD (h pins _ σ _ _ I1 (q _ hn)) fun ws s2 hpq=> ?_);obtain⟨ps,H2,I2,rel,e,kvs,ep,lk,q2⟩:=hpq;subst ep;obtain⟨rs,c,rk⟩:=kK (P:=X.prog) (w:=X.w) rel;obtain⟨z,hd,vs0,r0,dd⟩:=pR I2.hok e;cases r0;refine⟨rs,c,dd,fun h' dd' hs=>⟨.ref s.heap.objs.size,_,?_,rfl,q2⟩⟩;have hz:(fQ [] kvs).length<=sizeLine:=by
  have h1:=fH kvs [];rw[List.length_nil]at h1;rw[J6];omega
 have he:∃q,h'.get? s.heap.objs.size=some q:=let⟨q,_,_,hq,_⟩:=dd';⟨q,hq⟩
 exact nQ I2 (by rw[e];exact True.intro) hs he (qm hz hd (rk.merge .nil) dd')
structure M2(X:Cx)(o:Expr)(m:Str)(apos:Pos)(e f:Expr)(cpos:Pos):Prop where
 base:attributeBase o m X.env (eval o X.env)=eval o X.env
 few:((backTo cpos (starEach [e,f] X.env)).all (fun x=> !x.1)&&(backToKw cpos (keywordEach [] X.env)).all (fun x=>x.1.isSome)
  && decide (([e,f]:List Expr).length+([]:List Keyword).length+(if([]:List Keyword).isEmpty then 0 else 1)<30))=true
 line:(apos.endLine==cpos.line)=true
 trees:backTo cpos (starEach [e,f] X.env)=[(false,eval e X.env),(false,eval f X.env)]
noncomputable def IsD(H:Hp)(a:Addr):Prop:=(∃kvs,Rd H a (.dK kvs))\/∃kvs,Rd H a (.dT kvs)
theorem DS{X:Cx}{pins:List (Addr×Obj)}{σ:St}{H:Hp}{s:Shared}{a:Addr}(I:Inv X pins σ H s)(d:IsD H a) :
  s.TypeIs (.ref a) "dict"/\(∀b,Value.ref a=.ref b->∃ob,s.heap.get? b=some ob/\ob.dict=none)/\(a==sysModules)=false:=by
 rcases d with⟨kvs,e⟩|⟨kvs,e⟩
 ·obtain⟨_,hd,vs,_,dd⟩:=pQ I.hok e
  refine⟨dd.typeIs,fun b q=> ?_,hd⟩;cases q;obtain⟨ob,_,_,h1,h2,_⟩:=dd;exact⟨ob,h1,h2.2.1⟩
 ·obtain⟨_,hd,xs,_,dd⟩:=xg I.hok e
  refine⟨dd.typeIs,fun b q=> ?_,hd⟩;cases q;obtain⟨ob,_,_,h1,h2,_⟩:=dd;exact⟨ob,h1,h2.2.1⟩
section
variable{X:Cx}{pins:List (Addr×Obj)}{σ:St}{H:Hp}{s:Shared}{a:Addr}{y d:V}{u r:Value}{o:Option V}{A:Around}{E:Value->Shared->Prop}
theorem Dz{Q:Value->Shared->Prop}(hu:A.units+1<cLine)(I:Inv X pins σ H s)(g:rT H a y o)(ry:RelV y u)(rd:RelV d r)(h:∀w' s',Inv X pins σ H s' ->RelV (o.getD d) w' ->Q w' s') :
  wpAny (model X.prog X.w) A (call (.builtin "dict.get") [.ref a,u,r]) Q E s:=by
 rcases g with⟨kvs,k,e,ey,l⟩|⟨kvs,k,b,e,ey,eb,l⟩
 ·subst ey
  obtain⟨z,hd,vs,rel,dd⟩:=pQ I.hok e;refine call_meetsIn PySem.F.slot_dict_get dd.typeIs PySem.F.entry_dict_get (PySem.F.args_dict_get_3 _ _ _) (meets_dict_get_default (ac X.prog X.w) a (sf ry) hd r) ⟨_,dd.mapOf,h _ _ (I.tok _) ?_⟩;rw[l];exact(rel.val k).getD rd
 ·subst ey
  cases(show u=Value.ref b from ry);obtain⟨z,hd,xs,rel,dd⟩:=xg I.hok e;refine call_meetsIn PySem.F.slot_dict_get dd.typeIs PySem.F.entry_dict_get (PySem.F.args_dict_get_3 _ _ _) (meetsH_dict_get_default (tupleKind (ac X.prog X.w)) a b hd r) ⟨tupleKind_room_in1 hu,k,xs,qb I.hok eb,dd,h _ _ (I.tok _) ?_⟩;rw[l];exact(rel.val k).getD rd
end
noncomputable def CI(td ty tx:TE):TE:=fun σ H Q=>td σ H fun x H1=>∃a,x=.ref a/\IsD H1 a/\ty σ H1 fun y H2=>tx σ H2 fun z H3=>∃o,rT H3 a y o/\Q (o.getD z) H3
section
variable{X:Cx}{o e f:Expr}{apos cpos:Pos}{td ty tx:TE}
theorem wQ(hu:X.A.units+1<cLine)(ho:PE X o td)(he:PE X e ty)(hf:PE X f tx)(m:M2 X o "get" apos e f cpos):PE X (.Call (.Attribute o "get" apos) [e,f] [] cpos) (CI td ty tx):=by
 intro pins s σ H Q I h;refine wpAny_Call_method m.base m.few m.line PySem.F.plainAttrs_dict PySem.F.slot_dict_get PySem.F.type_dict_get (bD (ho pins s σ H _ I h) fun u s1 hpq=> ?_);obtain⟨x,H1,I1,rx,a,ex,d,q1⟩:=hpq;subst ex;obtain rfl:u=Value.ref a:=rx;obtain⟨t1,t2,_⟩:=DS I1 d;refine⟨t1,t2,?_⟩;rw[m.trees]
 refine Kt rfl (Calls.evalArgs_plain (Lw (bD (he pins s1 σ H1 _ I1 q1) fun iv s2 ⟨y,H2,I2,ry,q2⟩ =>
  Lw (bD (hf pins s2 σ H2 _ I2 q2) fun fv s3 ⟨z,H3,I3,rz,ov,g,q3⟩=>Calls.spliced_nil ?_))))
 exact Dz hu I3 g ry rz fun w' s4 I4 rw' =>⟨_,H3,I4,rw',q3⟩
end
section
variable{X:Cx}{pins:List (Addr×Obj)}{σ:St}{H:Hp}{s:Shared}{a:Addr}{kvs:List (am×V)}{A:Around}{E:Value->Shared->Prop}
theorem xk{Q:Value->Shared->Prop}(I:Inv X pins σ H s)(e:Rd H a (.dK kvs))(h:∀p s',H p=none->Inv X pins σ (upd H p (.dK kvs)) s' ->Q (.ref p) s'):wpAny (model X.prog X.w) A (call (.type "dict") [.ref a]) Q E s:=by
 obtain⟨z,hd,vs,rel,dd⟩:=pQ I.hok e;refine kt_call_dict hd dd (by rw[<- rel.length];exact z) fun h' dd' hs=> ?_;refine h _ _ (I.hok.fresh (Io _)) (I.laid (a:=s.heap.objs.size) (o:=.dK kvs) (t' :=s.toks) (fun b q hq=> ?_) (Io _) (qm z (LX.mpr (KW (JM I.big))) rel dd'));exact(hs.2 b (JM (Iz hq))).trans (Il _ hq)
end
section
variable{X:Cx}{pins:List (Addr×Obj)}{σ:St}{H:Hp}{s:Shared}{a:Addr}{y:V}{u:Value}{A:Around}{E:Value->Shared->Prop}
end
section
variable{κ:Type}[DecidableEq κ]
end
noncomputable def FQ(cs:List Nat):Str:=⟨cs.toArray⟩
theorem jy:∀cs:List Nat,Str.join ⟨#[]⟩ (cs.map fun c=>(⟨#[c]⟩:Str))=FQ cs
 | []=>rfl
 | [c]=>rfl
 | c::d::cs=>by
  have ih:=jy (d::cs);show(⟨#[c]⟩:Str)++⟨#[]⟩++Str.join ⟨#[]⟩ ((d::cs).map fun c=>(⟨#[c]⟩:Str))=_;rw[ih]
  apply UM.mh
  rw[PySem.Str.cps_append,PySem.Str.cps_append];simp[FQ]
theorem HH(cs:List Nat):Txt.join ⟨#[]⟩ (cs.map fun c=>(⟨#[c]⟩:Str))=FQ cs:=(PySem.StrLaws.glued_eq_join _ _).trans (jy cs)
noncomputable def cd(rows:List Str)(i j:Nat):Nat:=((rows.getD i ⟨#[]⟩).cps.toList).getD j 0
noncomputable def fl(c:Nat):Nat:=if c=120 then 46 else 120
noncomputable def sg(o:Bool)(c:Nat):Nat:=if o then fl c else c
noncomputable def Wd(rows:List Str)(w:Nat):Prop:=∀r∈rows,r.length=w
theorem Bh{rows:List Str}{w i j:Nat}(hw:Wd rows w)(hi:i<rows.length)(hj:j<w):∃z,rows[i]? =some z/\z.cps.toList[j]? =some (cd rows i j)/\z.length=w:=by
 have e:rows[i]? =some rows[i]:=Iv hi;have hl:=hw rows[i] (LR hi);have hj' :j<rows[i].cps.toList.length:=by
  rw[Jd];show j<rows[i].length;omega
 refine⟨rows[i],e,?_,hl⟩;unfold cd;rw[JG,JG,e,Option.getD_some,Iv hj',Option.getD_some]
open AutoSeq1 (wpAny_loadPart')
section
variable{X:Cx}
end
open AutoSeq1 (wpAny_loadPart')
section
variable{X:Cx}
theorem uI:dv X (compareOp .IsNot) (fun x y H Q=>∃b c,x=.bl b/\y=.bl c/\Q (.bl (b !=c)) H):=by
 intro pins s σ H x y u v Q I rx ry h;obtain⟨b,c,rfl,rfl,q⟩:=h;cases rx;cases ry;exact isnot_bool ⟨.bl (b !=c),H,I,rfl,q⟩
theorem vm:FW X (fun x lo hi H Q=>∃z,x=.str z/\z.length<=sizeLine/\Q (.str (Txt.slice z lo hi)) H):=by
 intro pins s σ H x v vl vu lo hi sl Q I rx hs pl pu h;obtain⟨z,rfl,hz,q⟩:=h;obtain⟨t,rfl⟩:=rx;refine⟨"str",_,slot_str_getitem.lookup,LK _ _ _,?_⟩;have fin:∀t' k,EP X pins σ Q (.str (Txt.slice z lo hi) t') {s with toks:=k}:=fun t' k=>⟨.str _,H,I.tok _,⟨_,rfl⟩,q⟩;cases pl with
 | none =>
  cases pu with
  | none=>exact LL (l:=none) (u:=none) (st:=none) hs rfl (post_val_or_str ⟨JO (Txt.slice_le z _ _) hz,fin⟩)
  | int j uj=>exact LL (l:=none) (u:=some (j,uj)) (st:=none) hs rfl (post_val_or_str ⟨JO (Txt.slice_le z _ _) hz,fin⟩)
 | int i ui =>
  cases pu with
  | none=>exact LL (l:=some (i,ui)) (u:=none) (st:=none) hs rfl (post_val_or_str ⟨JO (Txt.slice_le z _ _) hz,fin⟩)
  | int j uj=>exact LL (l:=some (i,ui)) (u:=some (j,uj)) (st:=none) hs rfl (post_val_or_str ⟨JO (Txt.slice_le z _ _) hz,fin⟩)
theorem zz(k n:Nat):Builtin.Str.strSliceIndices none (some (k:Int)) 1 n=(List.range (min k n)).map fun i=>0+i:=by
 unfold Builtin.Str.strSliceIndices sliceRange;have c:((if(0:Int)<max 0 (min (k:Int) (n:Int))then(max 0 (min (k:Int) (n:Int))-0+1-1)/1 else 0):Int).toNat=min k n:=by
  rw[Int.ediv_one]
  split<;>omega
 simp only[show(1:Int)>0 by decide,Kp,show¬((k:Int)<0)by omega,if_false,c];refine Jj fun i _=> ?_;omega
theorem zy(k n:Nat):Builtin.Str.strSliceIndices (some (k:Int)) none 1 n=(List.range (n-min k n)).map fun i=>min k n+i:=by
 unfold Builtin.Str.strSliceIndices sliceRange;have c:((if max 0 (min (k:Int) (n:Int))<(n:Int)then((n:Int)-max 0 (min (k:Int) (n:Int))+1-1)/1 else 0):Int).toNat=n-min k n:=by
  rw[Int.ediv_one]
  split<;>omega
 simp only[show(1:Int)>0 by decide,Kp,show¬((k:Int)<0)by omega,if_false,c];refine Jj fun i _=> ?_;omega
theorem t5(z:Str)(k:Nat):(Txt.slice z none (some (k:Int))).cps.toList=z.cps.toList.take k:=by
 have l:z.cps.toList.length=z.length:=by rw[Jd];rfl
 have p:=StrLaws.picks z.cps.toList (min k z.length) 0 (by omega);have f:(fun(i:Nat)=>z.cps[i]?)=fun i=>z.cps.toList[i]? :=by funext i;simp
 unfold Txt.slice;rw[zz]
 split
 ·rename_i h
  simp only[Ik,JU,Iu,beq_iff_eq]at h;rw[KN (by omega)]
 ·rw[f,p,List.drop_zero]
  show(List.take (min k z.length) z.cps.toList).toArray.toList=_;rw[List.toList_toArray,<-l,<-List.take_eq_take_min]
theorem tz(z:Str)(k:Nat):(Txt.slice z (some (k:Int)) none).cps.toList=z.cps.toList.drop k:=by
 have l:z.cps.toList.length=z.length:=by rw[Jd];rfl
 have p:=StrLaws.picks z.cps.toList (z.length-min k z.length) (min k z.length) (by omega);have f:(fun(i:Nat)=>z.cps[i]?)=fun i=>z.cps.toList[i]? :=by funext i;simp
 unfold Txt.slice;rw[zy]
 split
 ·rename_i h
  simp only[Ik,JU,Iu,beq_iff_eq]at h
  by_cases hz:z.length=0
  ·have:z.cps.toList=[]:=List.eq_nil_of_length_eq_zero (by omega)
   rw[this];simp
  ·have:k=0:=by omega
   subst this;rfl
 ·rw[f,p]
  show(List.take (z.length-min k z.length) (List.drop (min k z.length) z.cps.toList)).toArray.toList=_;rw[List.toList_toArray,KN (by rw[LQ];omega)]
  by_cases h:k<=z.length
  ·rw[Nat.min_eq_left h]
  ·rw[Nat.min_eq_right (by omega),LC (by omega),LC (by omega)]
end
section
variable{P:Program}{w:World}{A:Around}{E:Value->Shared->Prop}{s:Shared}
theorem C8{it a:Addr}{i:Nat}{its:Array Value}{v:Value}{Q:Value->Shared->Prop}(ti:s.heap.IsTupleIter it a i)(ta:s.heap.IsTuple a its)(hv:its[i]? =some v)
  (k:∀h',h'.IsTupleIter it a (i+1)->Heap.SameBut it s.heap h' ->Q v {s with heap:=h'}):wpAny (model P w) A (Builtin.SmallTypes.nextOf (.ref it)) Q E s:=by
 obtain⟨r,hr,rc,rd⟩:=id ti;obtain⟨q,hq,_,nq,qd⟩:=ta;unfold Builtin.SmallTypes.nextOf;refine Ij (KO (name:=Str.ofString "__next__") ti.typeIs F.slot_tuple_iterator_next (Js F.slot_tuple_iterator_next ti.typeIs F.entry_tuple_iterator_next ?_ (F.args_tuple_iterator_next_1 _)));show wpAny _ _ (field (.ref it) 0 >>= fun _=>_) _ _ s;refine Ij (Jt hr rd (x:=.ref a) rfl ?_);show wpAny _ _ (if(Value.ref a==Value.none)=true then _ else _) _ _ s;rw[Iq (by exact Ir)];show wpAny _ _ (field (.ref it) 1 >>= fun _=>_) _ _ s;refine Ij (Jt hr rd (x:=.int i 0) rfl ?_);show wpAny _ _ (seqItems? (.ref a) >>= fun _=>_) _ _ s;refine Ij (wpAny_seqItems hq qd ?_);simp only[Ln,hv];refine Ij (Km hr rd (by simp) (JB ⟨v,rfl,JB (k _ ?_ (K8 ..))⟩));exact⟨_,J7 _ hr (Kg (KA rd _)),(Obj.cls_mapFields ..).trans rc,by rw[KA rd];simp[rawInt]⟩
theorem qX{it a:Addr}{i:Nat}{its:Array Value}{Q:Value->Shared->Prop}(hd:A.handled=none)(ti:s.heap.IsTupleIter it a i)(ta:s.heap.IsTuple a its)(hv:its[i]? =none)
  (k:∀h' e,Heap.ExtBut it s.heap h' ->(∃o,h'.get? e=some o/\o.cls=.type "StopIteration")->E (.ref e) {s with heap:=h'}):wpAny (model P w) A (Builtin.SmallTypes.nextOf (.ref it)) Q E s:=by
 obtain⟨r,hr,rc,rd⟩:=id ti;obtain⟨q,hq,_,nq,qd⟩:=ta;unfold Builtin.SmallTypes.nextOf;refine Ij (KO (name:=Str.ofString "__next__") ti.typeIs F.slot_tuple_iterator_next (Js F.slot_tuple_iterator_next ti.typeIs F.entry_tuple_iterator_next ?_ (F.args_tuple_iterator_next_1 _)));show wpAny _ _ (field (.ref it) 0 >>= fun _=>_) _ _ s;refine Ij (Jt hr rd (x:=.ref a) rfl ?_);show wpAny _ _ (if(Value.ref a==Value.none)=true then _ else _) _ _ s;rw[Iq (by exact Ir)];show wpAny _ _ (field (.ref it) 1 >>= fun _=>_) _ _ s;refine Ij (Jt hr rd (x:=.int i 0) rfl ?_);show wpAny _ _ (seqItems? (.ref a) >>= fun _=>_) _ _ s;refine Ij (wpAny_seqItems hq qd ?_);simp only[Ln,hv];refine Ij (wpAny_rule (Ij (Km hr rd (by simp) ?_)));show wpAny _ _ (newExc (.type "StopIteration") [] >>= fun _=>_) _ _ _;refine Ij ?_;simp only[newExc,newTuple];refine Ij (Jm ?_ (by size_fits));refine Ij (m:=firstArgMember _ _) (KY (a:=Value.none) (by first|(simp only[firstArgMember];rfl)|rfl) ?_);refine Jm ?_ (by size_fits);simp only[raiseNew];refine Ij (wpAny_handled ?_)
 first|rw[hd]|rw[show A.in1.handled=none by exact hd]
 refine Ij (JB (wpAny_throw ?_));exact k _ _ (((K8 ..).extBut.push _).push _) ⟨_,JC _ rfl,rfl⟩
end
theorem ul{P:Program}{w:World}{A:Around}(hd:A.handled=none)(it a:Addr)(ne:a≠it)(its:Array Value) :
  Draws P w A it [it,a] its.size (fun i v=>its[i]? =some v) (fun i h=>h.IsTupleIter it a i/\h.IsTuple a its) where
 live:=fun _ _ st=>by obtain⟨⟨r,hr,_⟩,_⟩:=st;exact⟨r,hr⟩
 frame:=fun _ _ _ st k=>⟨st.1.at fun o e=>k it (by simp) o e,st.2.at fun o e=>k a (by simp) o e⟩
 item:=fun i s Q E hi st q=>by
  refine C8 st.1 st.2 (v:=its[i]) (by simp[hi]) fun h' t' sb=>q _ h' s.toks (by simp[hi]) ⟨t',st.2.extBut sb.extBut ne⟩ sb
 done:=fun s Q E st q=>qX hd st.1 st.2 (by simp) q
open AutoSeq1 (wpAny_loadPart')
theorem oj(a:Addr)(its:Array Value)(n:Nat)(dd:Option Addr)(sl:Array (Option Value)) :
  Meets (Builtin.«enumerate.__new__» ⟨[.type "enumerate",.ref a],[]⟩) (fun _ R s=>s.heap.get? a=some {cls:=.type "tuple",dict:=dd,data:=.seq its n,slots:=sl} /\
   R (.ok (.ret (.ref (s.heap.push {cls:=.type "tuple_iterator",data:=.fields #[.ref a,.int 0 0]}).objs.size)))
    {s with heap:=(s.heap.push {cls:=.type "tuple_iterator",data:=.fields #[.ref a,.int 0 0]}).push {cls:=.type "enumerate",data:=.fields #[.none,.bool false,.ref s.heap.objs.size,rawInt 0,.none,.none]}}) :=
 .of_wp fun prog w A R s h=>by
  obtain⟨hp,g,d,tk,os⟩:=s;obtain⟨ha,h⟩:=h;have hsub:=sub_enumerate;have hT:Heap.IsTuple (Shared.heap ⟨hp,g,d,tk,os⟩) a its:=⟨_,ha,rfl,n,rfl⟩
  wp_walk using Ki ha
  refine wpAny_stack_any fun _=>JB ?_
  split
  ·rename_i c _ _ _ _ _
   cases(c==Value.type "enumerate")
   ·wp_walk using Ki ha,Lr hT
    exact⟨_,rfl,h⟩
   ·wp_walk using Ki ha,Lr hT
    exact⟨_,rfl,h⟩
  ·wp_walk using Ki ha,Lr hT
   exact⟨_,rfl,h⟩
theorem rD{P:Program}{w:World}{A:Around}{E:Value->Shared->Prop}{s:Shared}{a:Addr}{its:Array Value}{Q:Value->Shared->Prop}(hT:s.heap.IsTuple a its)
  (k:∀h',IsEnum h' (s.heap.objs.size+1) s.heap.objs.size 0 .none->h'.IsTupleIter s.heap.objs.size a 0->(∀b o,s.heap.get? b=some o->h'.get? b=some o)->Q (.ref (s.heap.objs.size+1)) {s with heap:=h'}) :
  wpAny (model P w) A (call (.type "enumerate") [.ref a]) Q E s:=by
 obtain⟨⟨c,dd,dt,sl⟩,ha,hc,n,hd⟩:=hT;simp only at hc hd;subst hc hd;refine callType_new F.called_enumerate (by decide) (F.typeCall_enumerate_1 _) (F.newCall_enumerate_1 _) (fun ob=>F.args_object_init_2 ob _) F.entry_enumerate_new (oj a its n dd sl) ⟨ha,?_⟩;have hz:(s.heap.push {cls:=.type "tuple_iterator",data:=.fields #[.ref a,.int 0 0]}).objs.size=s.heap.objs.size+1:=Heap.size_push ..;show _/\_;rw[hz];have he:IsEnum ((s.heap.push {cls:=.type "tuple_iterator",data:=.fields #[.ref a,.int 0 0]}).push {cls:=.type "enumerate",data:=.fields #[.none,.bool false,.ref s.heap.objs.size,rawInt 0,.none,.none]}) (s.heap.objs.size+1) s.heap.objs.size 0 .none:=by
  have q:=JC (s.heap.push {cls:=.type "tuple_iterator",data:=.fields #[.ref a,.int 0 0]}) (o:={cls:=.type "enumerate",data:=.fields #[.none,.bool false,.ref s.heap.objs.size,rawInt 0,.none,.none]}) rfl;rw[hz]at q;exact q
 exact⟨⟨_,he,rfl⟩,k _ he ⟨_,Il _ (JC _ rfl),rfl,rfl⟩ fun b o y=>Il _ (Il _ y)⟩
noncomputable def FK(src:Hp->List V->Prop):It :=
 ⟨fun i H=>∃xs x,src H xs/\xs[i]? =some x,fun i H v H' =>∃p,H p=none/\v=.ref p/\∀xs x,src H xs->xs[i]? =some x->H' =upd H p (.tup [.int (i:Nat),x]),fun i H=>∃xs,src H xs/\xs.length=i⟩
structure tW(P:Program)(w:World)(K:W.Frag)(src:Hp->List V->Prop)(e it:Addr)(tn:Nat->Heap->Prop):Prop where
 ne:e≠it
 obj:∀i h,tn i h->∃o,h.get? it=some o/\∀v,o.data≠.cell v
 keep:∀i h h',tn i h->(∀o,h.get? it=some o->h'.get? it=some o)->tn i h'
 inj:∀(X:Cx) pins s σ H xs ys,X.K=K->Inv X pins σ H s->src H xs->src H ys->xs=ys
 draws:∀(X:Cx) pins s σ H xs (i:Nat),X.prog=P->X.w=w->X.K=K->X.calm=true->Inv X pins σ H s->src H xs->tn i s.heap->∃(fp:List Addr)(Pw:Nat->Value->Prop)(St:Nat->Heap->Prop),
  Draws P w X.A.in1 it fp xs.length Pw St/\e∉fp/\St i s.heap/\(∀j v x,Pw j v->xs[j]? =some x->RelV x v)/\∀j h,St j h->tn j h
theorem g9{P:Program}{w:World}{K:W.Frag}{es:List Expr}{kt:Nat}{tpos:Pos}{src:Hp->List V->Prop}{e it:Addr}{tn:Nat->Heap->Prop}(S:tW P w K src e it tn) :
  px P w K (.Tuple es kt tpos) (FK src) [e,it] e (fun i h=>(∃old,IsEnum h e it (i:Nat) old)/\tn i h) where
 mem:=by simp
 obj:=fun i h st c hc=>by
  obtain⟨⟨old,he⟩,ht⟩:=st;simp only[JD,JW,Ku]at hc
  rcases hc with rfl|rfl
  ·exact⟨_,he,fun v z=>by cases z⟩
  ·exact S.obj i h ht
 keep:=fun i h h' st k=>by
  obtain⟨⟨old,he⟩,ht⟩:=st;exact⟨⟨old,k e (by simp) _ he⟩,S.keep i h h' ht fun o q=>k it (by simp) o q⟩
 item:=by
  intro X hP hw hK hc i pins s σ H E I hf st hg;obtain⟨⟨old,he⟩,ht⟩:=st;obtain⟨xs,x,hs,hx⟩:=hg;obtain⟨fp,Pw,St,D,hef,hst,hrel,hback⟩:=S.draws X pins s σ H xs i hP hw hK hc I hs ht;subst hP hw hK;have hlt:i<xs.length:=(Iw.mp hx).1;have elt:e<s.heap.objs.size:=Iz he;have ilt:it<s.heap.objs.size:=by obtain⟨o,ho,_⟩:=S.obj i _ ht;exact Iz ho
  refine wpAny_pyNext_enum_itemD D he hst hlt S.ne hef fun u h' tk hu ho hst' hT hsz hk=> ?_;refine⟨_,rfl,wpAny_letOwnedTupleGo_enum ho fun h'' he' hs' => ?_⟩;have kk:∀c o,c∉[e,it]->s.heap.get? c=some o->h''.get? c=some o:=fun c o hc' y=>by
   simp only[JD,JW,Ku,not_or]at hc';exact(hs'.2 c hc'.1).trans (hk c o hc'.1 hc'.2 y)
  have new:h''.get? s.heap.objs.size=some {cls:=.type "tuple",data:=.seq #[.int i tk,u]}:=(hs'.2 _ (KM elt)).trans hT
  have I1:Inv X pins σ (upd H s.heap.objs.size (.tup [.int (i:Nat),x])) {s with heap:=h'',toks:=tk+1} :=
   I.drew (t' :=tk+1) hf kk (Io _) ⟨by show 2<=sizeLine;decide,[.int i tk,u],.cons ⟨tk,rfl⟩ (.cons (hrel i u x hu hx) .nil),⟨_,new,rfl,_,rfl,rfl⟩⟩
  refine⟨.ref s.heap.objs.size,_,I1,rfl,⟨s.heap.objs.size,I.hok.fresh (Io _),rfl,fun xs' x' hs2 hx2=> ?_⟩,⟨⟨u,by simpa using he'⟩,S.keep _ _ _ (hback _ _ hst') fun o y=>(hs'.2 it S.ne.symm).trans y⟩,fun c hc' => ?_⟩
  ·have q:=S.inj X pins s σ H _ _ rfl I hs hs2
   subst q;rw[hx]at hx2;cases hx2;rfl
  ·rw[aD ?_]
   ·exact(hf c hc').1
   ·simp only[JD,JW,Ku]at hc'
    rcases hc' with rfl|rfl
    ·exact JM elt
    ·exact JM ilt
 done:=by
  intro X hP hw hK hc i pins s σ H E I hf st hg;obtain⟨⟨old,he⟩,ht⟩:=st;obtain⟨xs,hs,hx⟩:=hg;obtain⟨fp,Pw,St,D,hef,hst,hrel,hback⟩:=S.draws X pins s σ H xs i hP hw hK hc I hs ht;subst hP hw hK;subst hx;exact wpAny_pyNext_enum_endD D he hst fun h' hk=>⟨rfl,I.drew0 (t' :=s.toks) hf fun c o hc' y=>hk c o (by simp only[JD,JW,Ku,not_or]at hc';exact hc'.2) y⟩
 self:=fun _ _ _ _ _ st h=>by
  obtain⟨⟨old,he⟩,_⟩:=st;exact Lx he h
theorem uh{P:Program}{w:World}{K:W.Frag}{a e it:Addr}(h1:e≠it)(h2:a≠it)(h3:a≠e):tW P w K (fun H xs=>bw K H a xs) e it (fun i h=>h.IsTupleIter it a i) where
 ne:=h1
 obj:=fun i h st=>by
  obtain⟨o,ho,_,d⟩:=st;exact⟨o,ho,fun v z=>by rw[d]at z;cases z⟩
 keep:=fun i h h' st k=>st.at k
 inj:=fun X pins s σ H xs ys hK I h1 h2=>by
  subst hK;exact I.tuple_inj h1 h2
 draws:=fun X pins s σ H xs i hP hw hK hc I hs ht=>by
  subst hP hw hK;obtain⟨its,r,p,_⟩:=I.tuple hs;have l:=r.length;have D:=ul (P:=X.prog) (w:=X.w) (A:=X.A.in1) (I.ok.hd hc) it a h2 its.toArray;rw[I0,<-l]at D;refine⟨_,_,_,D,by simp[h1,h3.symm],⟨ht,p⟩,fun j v x hv hx=> ?_,fun j h st=>st.1⟩;obtain⟨u,hu,ru⟩:=r.get hx;have e:its[j]? =some v:=by simpa using hv
  rw[hu]at e;cases e;exact ru
theorem uk{P:Program}{w:World}{K:W.Frag}{z:Str}{t:Tok}{e it:Addr}(h1:e≠it):tW P w K (fun _ xs=>xs=cD z) e it (fun i h=>h.IsStrIter it (strIterType z) z t i) where
 ne:=h1
 obj:=fun i h st=>by
  obtain⟨o,ho,_,d⟩:=st;exact⟨o,ho,fun v z=>by rw[d]at z;cases z⟩
 keep:=fun i h h' st k=>by
  obtain⟨o,ho,r⟩:=st;exact⟨o,k o ho,r⟩
 inj:=fun X pins s σ H xs ys hK I h1 h2=>by rw[h1,h2]
 draws:=fun X pins s σ H xs i hP hw hK hc I hs ht=>by
  subst hP hw hK hs;have l:(cD z).length=z.cps.size:=by rw[je];rfl
  have rel:∀(j:Nat)(v:Value)(x:V),(∃c u,z.cps[j]? =some c/\v=.str ⟨#[c]⟩ u)->(cD z)[j]? =some x->RelV x v:=fun j v x hv hx=>by
   obtain⟨c,u,hc',rfl⟩:=hv;unfold cD at hx;rw[Iy,Ko,hc']at hx;cases hx;exact⟨u,rfl⟩
  rw[l];cases ha:z.cps.all (·<128)with
  | true =>
   have e:strIterType z="str_ascii_iterator":=by unfold strIterType;rw[Ix ha]
   rw[e]at ht ⊢;exact⟨_,_,_,Draws.strAscii (prog:=X.prog) (w:=X.w) (A:=X.A.in1) (I.ok.hd hc) it z t,by simp[h1],ht,rel,fun j h st=>st⟩
  | false =>
   have e:strIterType z="str_iterator":=by unfold strIterType;rw[Iq (by rw[ha];exact Ir)]
   rw[e]at ht ⊢;exact⟨_,_,_,Draws.strWide (prog:=X.prog) (w:=X.w) (A:=X.A.in1) (I.ok.hd hc) it z t,by simp[h1],ht,rel,fun j h st=>st⟩
section
variable{X:Cx}
noncomputable def DZ(K:W.Frag)(ta:TA):TI:=fun σ H R=>ta σ H fun vs H1=>∃a xs,vs=[.ref a]/\bw K H1 a xs/\R (FK fun H xs=>bw K H a xs) H1
noncomputable def Da(ta:TA):TI:=fun σ H R=>ta σ H fun vs H1=>∃z,vs=[.str z]/\R (FK fun _ xs=>xs=cD z) H1
theorem wK{es:List Expr}{kt:Nat}{tpos:Pos}{a:Expr}{ta:TA}{p pos:Pos}(hg:Gl X "enumerate")(hm:X.mg "enumerate"=none)(ha:PA X [a] ta)(hs:starEach [a] X.env=[(false,eval a X.env)]:=by rfl) :
  PI X (.Tuple es kt tpos) (.Call (.Name "enumerate" p) [a] [] pos) (DZ X.K ta):=by
 intro pins s σ H R I h;refine Call_ (cI I hg hm boot_enumerate (JZ (bD (ha pos pins s σ H _ I h) fun us s1 ⟨vs,H1,I1,r1,q1⟩=> ?_) hs rfl));obtain⟨l,xs,e,sa,q⟩:=q1;subst e;obtain⟨u,rfl,ru⟩:=vals1 r1;cases ru;obtain⟨its,r,pt,_⟩:=I1.tuple sa;have lt:l<s1.heap.objs.size:=by obtain⟨o,e,_⟩:=id pt;exact Iz e
 refine rD pt fun h' he jE hk=> ?_;refine Lx he ?_;have I2:Inv X pins σ H1 {s1 with heap:=h'}:=I1.kept (t' :=s1.toks) hk;refine⟨s1.heap.objs.size+1,[s1.heap.objs.size+1,s1.heap.objs.size],_,_,H1,rfl,I2,g9 (uh (Nat.succ_ne_self _) (JM lt) (JM (KH lt))),⟨⟨_,he⟩,jE⟩,fun c hc=> ?_,q⟩;have le:s1.heap.objs.size<=c:=by
  simp only[JD,JW,Ku]at hc
  rcases hc with rfl|rfl<;>omega
 exact I1.fpOk le (I1.hok.fresh le)
theorem wL{es:List Expr}{kt:Nat}{tpos:Pos}{a:Expr}{ta:TA}{p pos:Pos}(hg:Gl X "enumerate")(hm:X.mg "enumerate"=none)(ha:PA X [a] ta)(hs:starEach [a] X.env=[(false,eval a X.env)]:=by rfl) :
  PI X (.Tuple es kt tpos) (.Call (.Name "enumerate" p) [a] [] pos) (Da ta):=by
 intro pins s σ H R I h;refine Call_ (cI I hg hm boot_enumerate (JZ (bD (ha pos pins s σ H _ I h) fun us s1 ⟨vs,H1,I1,r1,q1⟩=> ?_) hs rfl));obtain⟨z,e,q⟩:=q1;subst e;obtain⟨u,rfl,t,rfl⟩:=vals1 r1;refine call_enumerate_str fun h' he jE _ hk=> ?_;refine Lx he ?_;have I2:Inv X pins σ H1 {s1 with heap:=h'}:=I1.kept (t' :=s1.toks) hk;refine⟨s1.heap.objs.size+1,[s1.heap.objs.size+1,s1.heap.objs.size],_,_,H1,rfl,I2,g9 (uk (Nat.succ_ne_self _)),⟨⟨_,he⟩,jE⟩,fun c hc=> ?_,q⟩;have le:s1.heap.objs.size<=c:=by
  simp only[JD,JW,Ku]at hc
  rcases hc with rfl|rfl<;>omega
 exact I1.fpOk le (I1.hok.fresh le)
theorem xT{src:Hp->List V->Prop}{xs:List V}{g:TG}{tb:TS}{D:dN}{σ:St}{H:Hp}(Pv:Nat->St->Hp->Prop)(h0:Pv 0 σ H)(ha:∀i σ H,i<=xs.length->Pv i σ H->src H xs)
  (hs:∀i x p σ H,xs[i]? =some x->H p=none->Pv i σ H->g (.ref p) σ (upd H p (.tup [.int (i:Nat),x])) fun σ2 H2=>tb {D with nx:=Pv (i+1),ct:=Pv (i+1),bk:=D.nx} σ2 H2) (hd:∀σ H,Pv xs.length σ H->D.nx σ H) :
  ∃W:Nat->Nat->St->Hp->Prop,(∃m,W 0 m σ H)/\∀i m σ H,W i m σ H ->
   ((FK src).stop i H/\D.nx σ H)\/((FK src).go i H/\∃N:St->Hp->Prop,(∀σ' H',N σ' H' ->∃m',m' <m/\W (i+1) m' σ' H')/\∀x H',(FK src).yld i H x H' ->g x σ H' fun σ2 H2=>tb {D with nx:=N,ct:=N,bk:=D.nx} σ2 H2):=by
 refine⟨fun i m σ H=>m=xs.length-i/\i<=xs.length/\Pv i σ H,⟨xs.length,by simp,JR _,h0⟩,?_⟩;rintro i m σ H ⟨rfl,hi,p⟩;have qa:=ha i σ H hi p
 by_cases hlt:i<xs.length
 ·have ex:xs[i]? =some xs[i]:=by simp[hlt]
  refine .inr ⟨⟨xs,_,qa,ex⟩,Pv (i+1),fun σ' H' p' =>⟨xs.length-(i+1),by omega,rfl,hlt,p'⟩,fun x H' y=> ?_⟩;obtain⟨pp,hn,rfl,y⟩:=y;have e:=y xs _ qa ex;subst e;exact hs i _ pp σ H ex hn p
 ·have e:i=xs.length:=by omega
  subst e;exact .inl ⟨⟨xs,qa,rfl⟩,hd σ H p⟩
theorem nk{ns:List Int}{us:List Value}{i:Nat}{v:Value}(r:aQ (ns.map V.int) us)(h:us[i]? =some v):∃t,v=.int (ns.getD i 0) t:=by
 have hl:=r.length;rw[Ik]at hl;have hi:i<us.length:=(Iw.mp h).1;obtain⟨u,hu,ru⟩:=r.get (i:=i) (x:=.int (ns[i]'(by omega))) (by simp[show i<ns.length by omega]);rw[hu]at h;cases h;obtain⟨t,e⟩:=ru;refine⟨t,?_⟩;rw[e];simp[List.getD,show i<ns.length by omega]
theorem eJ(ns:List Int):∀k,k<=ns.length->preSum (fun i=>ns.getD i 0) k=(ns.take k).sum
 | 0,_=>by simp[preSum]
 | k+1,h=>by
  have e:ns.take (k+1)=ns.take k++[ns[k]'(by omega)]:=by rw[Kq];simp[show k<ns.length by omega]
  rw[preSum,eJ ns k (by omega),e,List.sum_append];simp[List.getD,show k<ns.length by omega]
theorem lF(hc:X.calm=true):bR X (.builtin "sum") (fun xs H Q=>∃(p:Addr)(ns:List Int),xs=[.ref p]/\bN X.K H p (ns.map V.int)/\Q (.int ns.sum) H):=by
 intro pins s σ H xs us Q I r h;obtain⟨p,ns,rfl,hq,q⟩:=h;obtain⟨u,rfl,rx⟩:=vals1 r;cases rx;obtain⟨its,r',pl,hz⟩:=I.list hq;have hlen:=r'.length;rw[Ik]at hlen;have hp:p<s.heap.objs.size:=by
  obtain⟨o,e,_⟩:=pl.isList;exact Iz e
 refine call_sum_walkAnyS (wpAny_pyIter_list pl.isList ?_);refine⟨s.heap.objs.size,_,_,_,its.toArray.size,_,_,(fun i=>ns.getD i 0),rfl,(Walks.list (A:=X.A.in1) (I.ok.hd hc) s.heap.objs.size p (JM hp) its.toArray).toS,⟨⟨_,JC _ rfl,rfl,rfl⟩,pl.isList.push _⟩,?_,?_,?_⟩
 ·intro b hb
  simp at hb
  rcases hb with rfl|rfl
  ·rw[size_push'];exact Nat.lt_succ_self _
  ·rw[size_push'];exact KH hp
 ·intro i v hv
  exact nk r' (by simpa using hv)
 ·intro s' t' hm
  obtain⟨m1,m2,m3,m4,m5⟩:=hm;have e:s' ={s with heap:=s'.heap,toks:=s'.toks}:=by
   cases s';simp only at m2 m3 m4;subst m2 m3 m4;rfl
  rw[e];refine⟨.int ns.sum,H,I.kept (t' :=s'.toks) (fun b o z=>m1 b o (by simpa using JM (Iz z)) (Il _ z)),⟨t',?_⟩,q⟩;rw[I0,<-hlen,eJ ns _ (Io _),Jq]
theorem gQ:∀{us:List Value}{ns:List Int},IntsAre us ns->aQ (ns.map V.int) us
 | _,_,.nil=>.nil
 | _,_,.cons n t r=>.cons ⟨t,rfl⟩ (gQ r)
noncomputable def sortI(ns:List Int):List Int:=ns.mergeSort (fun a b=>decide (a<=b))
theorem sortI_perm(ns:List Int):(sortI ns).Perm ns:=List.mergeSort_perm _ _
theorem vf(ns:List Int):(sortI ns).Pairwise (·<=·):=by
 have:=List.pairwise_mergeSort (le:=fun a b:Int=>decide (a<=b)) (fun a b c h1 h2=>by simp at *;omega) (fun a b=>by simp;omega) ns;exact this.imp fun h=>by simpa using h
theorem ml{ns ms:List Int}(h:ms.Perm ns)(s:ms.Pairwise (·<=·)):ms=sortI ns :=
 List.Perm.eq_of_pairwise (le:=(·<=·)) (fun a b _ _ h1 h2=>Int.le_antisymm h1 h2) s (vf ns) (h.trans (sortI_perm ns).symm)
theorem iS:bR X (.builtin "sorted") (fun xs H Q=>∃(p:Addr)(ns:List Int),xs=[.ref p]/\bN X.K H p (ns.map V.int)/\ns.length<64/\∀a,H a=none->Q (.ref a) (upd H a (.lst ((sortI ns).map V.int)))):=by
 intro pins s σ H xs us Q I r h;obtain⟨p,ns,rfl,hq,h64,q⟩:=h;obtain⟨u,rfl,rx⟩:=vals1 r;cases rx;obtain⟨its,r',pl,hz⟩:=I.list hq;have hlen:=r'.length;rw[Ik]at hlen;refine sorted_ints pl.isList (intsAre_of r') (by omega) fun out ns' a1 a2 a3=> ?_;have e:=ml a2 a3;subst e;obtain⟨c,hc⟩:=sortedAll_at s.heap its out;refine⟨.ref (s.heap.objs.size+1),_,I.laid (t' :=s.toks) (o:=.lst ((sortI ns).map V.int)) (fun b o z=>sortedAll_old z) (Nat.le_succ _) ?_,rfl,q _ (I.hok.fresh (Nat.le_succ _))⟩;refine⟨?_,out.toList,c,gQ a1,by simpa [seqObj]using hc⟩;rw[Ik,(sortI_perm ns).length_eq];have:=J6;omega
theorem qk{P:Program}{w:World}{K:W.Frag}{a e it:Addr}(h1:e≠it)(h2:a≠it)(h3:a≠e):tW P w K (fun H xs=>bN K H a xs) e it (fun i h=>h.IsListIter it a i) where
 ne:=h1
 obj:=fun i h st=>by
  obtain⟨o,ho,_,d⟩:=st;exact⟨o,ho,fun v z=>by rw[d]at z;cases z⟩
 keep:=fun i h h' st k=>st.at k
 inj:=fun X pins s σ H xs ys hK I h1 h2=>by
  subst hK;exact I.list_inj h1 h2
 draws:=fun X pins s σ H xs i hP hw hK hc I hs ht=>by
  subst hP hw hK;obtain⟨its,r,p,_⟩:=I.list hs;have l:=r.length;have D:=Draws.list (prog:=X.prog) (w:=X.w) (A:=X.A.in1) (I.ok.hd hc) it a h2 its.toArray;rw[I0,<-l]at D;refine⟨_,_,_,D,by simp[h1,h3.symm],⟨ht,p.isList⟩,fun j v x hv hx=> ?_,fun j h st=>st.1⟩;obtain⟨u,hu,ru⟩:=r.get hx;have e:its[j]? =some v:=by simpa using hv
  rw[hu]at e;cases e;exact ru
noncomputable def Db(K:W.Frag)(ta:TA):TI:=fun σ H R=>ta σ H fun vs H1=>∃a xs,vs=[.ref a]/\bN K H1 a xs/\R (FK fun H xs=>bN K H a xs) H1
theorem oS{es:List Expr}{kt:Nat}{tpos:Pos}{a:Expr}{ta:TA}{p pos:Pos}(hg:Gl X "enumerate")(hm:X.mg "enumerate"=none)(ha:PA X [a] ta)(hs:starEach [a] X.env=[(false,eval a X.env)]:=by rfl) :
  PI X (.Tuple es kt tpos) (.Call (.Name "enumerate" p) [a] [] pos) (Db X.K ta):=by
 intro pins s σ H R I h;refine Call_ (cI I hg hm boot_enumerate (JZ (bD (ha pos pins s σ H _ I h) fun us s1 ⟨vs,H1,I1,r1,q1⟩=> ?_) hs rfl));obtain⟨l,xs,e,sa,q⟩:=q1;subst e;obtain⟨u,rfl,ru⟩:=vals1 r1;cases ru;obtain⟨its,r,pt,_⟩:=I1.list sa;have lt:l<s1.heap.objs.size:=by obtain⟨o,e,_⟩:=pt.isList;exact Iz e
 refine call_enumerate_list pt.isList fun h' he jE hl hk=> ?_;refine Lx he ?_;have I2:Inv X pins σ H1 {s1 with heap:=h'}:=I1.kept (t' :=s1.toks) hk;refine⟨s1.heap.objs.size+1,[s1.heap.objs.size+1,s1.heap.objs.size],_,_,H1,rfl,I2,g9 (qk (Nat.succ_ne_self _) (JM lt) (JM (KH lt))),⟨⟨_,he⟩,jE⟩,fun c hc=> ?_,q⟩;have le:s1.heap.objs.size<=c:=by
  simp only[JD,JW,Ku]at hc
  rcases hc with rfl|rfl<;>omega
 exact I1.fpOk le (I1.hok.fresh le)
noncomputable def yM(i j:Int):Prop:=i.natAbs<2^2000/\j.natAbs<2^2000
theorem intBits_le{k:Int}(h:k.natAbs<2^2000):Builtin.Int.intBits k<=2000:=by
 unfold Builtin.Int.intBits
 split
 ·exact JR _
 ·have:k.natAbs.log2<2000:=by
   rcases Nat.eq_zero_or_pos k.natAbs with h0|hp
   ·rw[h0];decide
   ·exact(Nat.log2_lt (KM hp)).mpr h
  omega
theorem yM.ok{i j:Int}(h:yM i j):IntMulOk i j:=by
 unfold IntMulOk;have h1:=intBits_le h.1;have h2:=intBits_le h.2;have h3:Builtin.Int.intTooBig (Builtin.Int.intBits i+Builtin.Int.intBits j)=false:=by
  unfold Builtin.Int.intTooBig;have:((4000:Nat):Int)<=(bitsLine:Nat):=by decide
  exact JK (by omega)
 rw[h3];simp
theorem zQ:dv X (binaryOp .Mult) (rI yM fun i j=>.int (i*j)):=G8 fun _ _ _ _ _ _ _ hc q=>mul_int q hc.ok
theorem rB:bR X (.builtin "len") (fun xs H Q=>∃a kvs,xs=[V.ref a]/\Rd H a (.dK kvs)/\Q (.int kvs.length) H):=by
 intro pins s σ H xs us Q I r h;obtain⟨a,kvs,rfl,ha,q⟩:=h;obtain⟨u,rfl,ru⟩:=vals1 r;cases ru;exact Hb I ha fun t s' I' =>⟨.int kvs.length,H,I',⟨t,rfl⟩,q⟩
theorem pY:bR X (.type "dict") (fun xs H Q=>∃a kvs,xs=[V.ref a]/\Rd H a (.dK kvs)/\∀p,H p=none->Q (.ref p) (upd H p (.dK kvs))):=by
 intro pins s σ H xs us Q I r h;obtain⟨a,kvs,rfl,ha,q⟩:=h;obtain⟨u,rfl,ru⟩:=vals1 r;cases ru;exact xk I ha fun p s' hp I' =>⟨.ref p,_,I',rfl,q p hp⟩
noncomputable def tU(v d:Addr):HO:=.ext fun h=>h.IsValuesView v d
theorem uP:FG X "dict.values" (fun x vs H Q=>∃a kvs,x=.ref a/\vs=[]/\H a=some (.dK kvs)/\∀p,H p=none->Q (.ref p) (upd H p (tU p a))):=by
 intro pins s σ H x xs v us Q I rx rs h;obtain⟨a,kvs,rfl,rfl,ha,q⟩:=h;cases rx;cases rs;obtain⟨z,hd,vs,rel,dd⟩:=pR I.hok ha;refine call_meetsIn PySem.F.slot_dict_values dd.typeIs PySem.F.entry_dict_values (PySem.F.args_dict_values_1 _) (meets_dict_values (ac X.prog X.w) a hd) ⟨⟨vs,dd⟩,?_⟩;refine⟨.ref s.heap.objs.size,_,I.laid (a:=s.heap.objs.size) (o:=tU s.heap.objs.size a) (t' :=s.toks) (fun b u e=>Il _ e) (Io _) ?_,rfl,q _ (I.hok.fresh (Io _))⟩;refine⟨⟨_,JC _ rfl,rfl,rfl⟩,⟨_,JC _ rfl⟩,fun h1 h2 p k=> ?_⟩;obtain⟨o,e,r⟩:=p;exact⟨o,k o e,r⟩
theorem oy{kvs:List (am×V)}{vs:List (am×Value)}{ns:List Int}(r:KV kvs vs)(e:kvs.map (·.2)=ns.map V.int){i:Nat}{k:am}{v:Value}(h:vs[i]? =some (k,v)):∃t,v=.int (ns.getD i 0) t:=by
 have hl:kvs.length=vs.length:=r.length;have hi:i<vs.length:=(Iw.mp h).1;have hn:ns.length=kvs.length:=by have:=Je List.length e;simpa using this.symm
 have key:∀{kvs:List (am×V)}{vs:List (am×Value)}{i:Nat}{q:am×Value},KV kvs vs->vs[i]? =some q->∃p,kvs[i]? =some p/\RelV p.2 q.2:=by
  intro kvs vs i q r
  induction r generalizing i with
  | nil=>intro e;simp at e
  | cons a t ih =>
   intro e;cases i with
   | zero=>simp at e;subst e;exact⟨_,by simp,a.2⟩
   | succ i=>simpa using ih (by simpa using e)
 obtain⟨p,hp,rp⟩:=key r h;have e2:(kvs.map (·.2))[i]? =(ns.map V.int)[i]? :=by rw[e]
 rw[Iy,Iy,hp,Iv (by omega)]at e2;have e3:p.2=V.int (ns[i]'(by omega)):=by simpa using e2
 rw[e3]at rp;obtain⟨t,e4⟩:=rp;refine⟨t,?_⟩;have e5:v=.int (ns[i]'(by omega)) t:=e4;rw[e5];simp[List.getD,show i<ns.length by omega]
theorem lE(hc:X.calm=true):bR X (.builtin "sum") (fun xs H Q=>∃(p a:Addr)(kvs:List (am×V))(ns:List Int),xs=[.ref p]/\H p=some (tU p a)/\H a=some (.dK kvs)/\kvs.map (·.2)=ns.map V.int/\Q (.int ns.sum) H):=by
 intro pins s σ H xs us Q I r h;obtain⟨p,a,kvs,ns,rfl,hp,ha,en,q⟩:=h;obtain⟨u,rfl,rx⟩:=vals1 r;cases rx;obtain⟨z,hd,vs,rel,dd⟩:=pR I.hok ha;obtain⟨ep,da⟩:=dd.dictAt;obtain⟨hv,_⟩:=(show az X.prog X.w H s.heap p (tU p a)from I.hok p _ hp);have hl:kvs.length=vs.length:=rel.length;have hn:ns.length=kvs.length:=by have:=Je List.length en;simpa using this.symm
 have lt:a<s.heap.objs.size:=da.lt_size;refine call_sum_walkAnyS (wpAny_pyIter_values hv da ?_);refine⟨s.heap.objs.size,_,_,_,vs.length,_,_,(fun i=>ns.getD i 0),rfl,(Walks.dictValues (A:=X.A.in1) (knd:=ac X.prog X.w) (I.ok.hd hc) s.heap.objs.size a (JM lt) vs ep).toS,⟨⟨_,JC _ rfl,rfl,rfl⟩,da.push _⟩,?_,?_,?_⟩
 ·intro b hb
  simp at hb
  rcases hb with rfl|rfl
  ·rw[size_push'];exact Nat.lt_succ_self _
  ·rw[size_push'];exact KH lt
 ·rintro i v ⟨k,hv⟩
  exact oy rel en hv
 ·intro s' t' hm
  obtain⟨m1,m2,m3,m4,m5⟩:=hm;have e:s' ={s with heap:=s'.heap,toks:=s'.toks}:=by
   cases s';simp only at m2 m3 m4;subst m2 m3 m4;rfl
  rw[e];refine⟨.int ns.sum,H,I.kept (t' :=s'.toks) (fun b o z=>m1 b o (by simpa using JM (Iz z)) (Il _ z)),⟨t',?_⟩,q⟩;rw[<- hl,<-hn,eJ ns _ (Io _),Jq]
theorem Inv.known{pins:List (Addr×Obj)}{σ:St}{H:Hp}{s:Shared}{a:Addr}{kvs:List (am×V)}{o:Obj}(I:Inv X pins σ H s)(ha:H a=some (.dK kvs))(ho:s.heap.get? a=some o):Inv X pins σ (upd H a (.frz o (.dK kvs))) s:=by
 have nt:∀b xs,H b=some (.tup xs)->upd H a (.frz o (.dK kvs)) b=some (.tup xs):=fun b xs e=>by rw[aD (fun z=>by subst z;rw[ha]at e;cases e)];exact e
 refine⟨I.ok,I.os,I.bare,⟨I.base.keep,I.base.slot,fun b ob e n hx=> ?_,I.base.there,fun b xs e=>nt b xs (I.base.tups b xs e),fun b ob u e=> ?_,fun b ps e=> ?_⟩,I.loc,I.cell,?_,fun x c e=> ?_,fun p hp=> ?_,fun b u e=> ?_,I.len⟩
 ·have:=I.base.free b ob e n hx
  rw[aD (fun z=>by subst z;rw[ha]at this;cases this)];exact this
 ·have:=I.base.frzs b ob u e
  rw[aD (fun z=>by subst z;rw[ha]at this;cases this)];exact this
 ·obtain⟨m,e⟩:=I.base.tbls b ps e
  exact⟨m,by rw[aD (fun z=>by subst z;rw[ha]at e;cases e)];exact e⟩
 ·rw[aD (fun z=>by have:=I.free;rw[z,ha]at this;cases this)]
  exact I.free
 ·have:=I.freeC x c e
  rw[aD (fun z=>by rw[z,ha]at this;cases this)];exact this
 ·obtain⟨h1,h2,h3⟩:=I.pin p hp
  exact⟨h1,by rw[aD (fun z=>by rw[z,ha]at h2;cases h2)];exact h2,h3⟩
 ·by_cases hb:b=a
  ·subst hb
   rw[aK]at e;cases e;refine⟨ho,?_⟩;exact(I.hok b _ ha).stay (fun _ _ _ q=>q) (fun c q=>by rw[aD (fun z=>by subst z;rw[ha]at q;cases q)];exact q) nt
  ·rw[aD hb]at e
   exact(I.hok b u e).stay (fun _ _ _ q=>q) (fun c q=>by rw[aD (fun z=>by subst z;rw[ha]at q;cases q)];exact q) nt
noncomputable def NF(X:Cx)(a:Addr):Prop:=∀o u,X.H₀ a≠some (.frz o u)
theorem Inv.nf{pins:List (Addr×Obj)}{σ:St}{H:Hp}{s:Shared}{a:Addr}{kvs:List (am×V)}(I:Inv X pins σ H s)(ha:H a=some (.dK kvs)):NF X a:=fun o u e=>by
 have:=I.base.frzs a o u e;rw[ha]at this;cases this
theorem Inv.unknown{pins:List (Addr×Obj)}{σ:St}{H:Hp}{s:Shared}{a:Addr}{kvs:List (am×V)}{o:Obj}(I:Inv X pins σ H s)(nf:NF X a)(ha:H a=some (.frz o (.dK kvs))):Inv X pins σ (upd H a (.dK kvs)) s:=by
 have nt:∀b xs,H b=some (.tup xs)->upd H a (.dK kvs) b=some (.tup xs):=fun b xs e=>by rw[aD (fun z=>by subst z;rw[ha]at e;cases e)];exact e
 refine⟨I.ok,I.os,I.bare,⟨I.base.keep,I.base.slot,fun b ob e n hx=> ?_,I.base.there,fun b xs e=>nt b xs (I.base.tups b xs e),fun b ob u e=> ?_,fun b ps e=> ?_⟩,I.loc,I.cell,?_,fun x c e=> ?_,fun p hp=> ?_,fun b u e=> ?_,I.len⟩
 ·have:=I.base.free b ob e n hx
  rw[aD (fun z=>by subst z;rw[ha]at this;cases this)];exact this
 ·have:=I.base.frzs b ob u e
  rw[aD (fun z=>by subst z;exact nf _ _ e)];exact this
 ·obtain⟨m,e⟩:=I.base.tbls b ps e
  exact⟨m,by rw[aD (fun z=>by subst z;rw[ha]at e;cases e)];exact e⟩
 ·rw[aD (fun z=>by have:=I.free;rw[z,ha]at this;cases this)]
  exact I.free
 ·have:=I.freeC x c e
  rw[aD (fun z=>by rw[z,ha]at this;cases this)];exact this
 ·obtain⟨h1,h2,h3⟩:=I.pin p hp
  exact⟨h1,by rw[aD (fun z=>by rw[z,ha]at h2;cases h2)];exact h2,h3⟩
 ·by_cases hb:b=a
  ·subst hb
   rw[aK]at e;cases e;exact(I.hok b _ ha).2.stay (fun _ _ _ q=>q) (fun c q=>by rw[aD (fun z=>by subst z;rw[ha]at q;cases q)];exact q) nt
  ·rw[aD hb]at e
   exact(I.hok b u e).stay (fun _ _ _ q=>q) (fun c q=>by rw[aD (fun z=>by subst z;rw[ha]at q;cases q)];exact q) nt
noncomputable def Ie(a:Addr)(o:Obj)(kvs:List (am×V)):It :=
 ⟨fun i H=>H a=some (.frz o (.dK kvs))/\i<kvs.length,fun i H v H' =>∃p,H p=none/\v=.ref p/\∀k x,kvs[i]? =some (k,x)->H' =upd H p (.tup [kV k,x]),fun i H=>H a=some (.frz o (.dK kvs))/\i=kvs.length⟩
theorem DO{k:am}{v:Value}{P:Program}{w:World}(h:(ac P w).is k v=true):RelV (kV k) v:=by
 cases k with
 | inl i =>
  obtain⟨t,e⟩:=Value.isInt_shape h;exact⟨t,e⟩
 | inr z =>
  obtain⟨t,e⟩:=Value.isStrOf_shape h;exact⟨t,e⟩
theorem fD:entryFor table "dict_itemiterator.__iter__"=some Builtin.«dict_keyiterator.__iter__» :=
 entryFor_alias (id' :="dict_keyiterator.__iter__") (by kernel_rfl) rfl (by decide +kernel) (by kernel_rfl)
theorem qE{P:Program}{w:World}{K:W.Frag}{es:List Expr}{kt:Nat}{tpos:Pos}{a it:Addr}{o:Obj}{kvs:List (am×V)}{vs:List (am×Value)}{ep:Nat}{h0:Heap}(hne:a≠it)(rel:KV kvs vs)(hat:h0.DictAt (ac P w) a vs ep)(ho:h0.get? a=some o) :
  px P w K (.Tuple es kt tpos) (Ie a o kvs) [it] it (fun i h=>∃ok ov,IsItemIter h it a i vs.length ep ok ov) where
 mem:=by simp
 obj:=fun i h st b hb=>by
  have e:b=it:=by simpa using hb
  subst e;obtain⟨ok,ov,e⟩:=st;exact⟨_,e,fun v z=>by cases z⟩
 keep:=fun i h h' st k=>by
  obtain⟨ok,ov,e⟩:=st;exact⟨ok,ov,k it (by simp) _ e⟩
 item:=by
  intro X hP hw hK hc i pins s σ H E I hf st hg;subst hP hw hK;obtain⟨hfr,hlt⟩:=hg;obtain⟨ok,ov,he⟩:=st;have so:s.heap.get? a=some o:=(I.hok a _ hfr).1;have hat' :s.heap.DictAt (ac X.prog X.w) a vs ep:=hat.at' fun o' e=>by rw[ho]at e;cases e;exact so
  have hl:kvs.length=vs.length:=rel.length;obtain⟨⟨k,x⟩,hx⟩:∃q,kvs[i]? =some q:=⟨kvs[i],by simp[hlt]⟩;have key:∀{kvs:List (am×V)}{vs:List (am×Value)}{i:Nat}{q:am×V},KV kvs vs->kvs[i]? =some q->∃v,vs[i]? =some (q.1,v)/\RelV q.2 v:=by
   intro kvs vs i q r
   induction r generalizing i with
   | nil=>intro e;simp at e
   | cons a t ih =>
    intro e;cases i with
    | zero =>
     simp at e;subst e;rename_i c _ _;exact⟨c.2,by simp[a.1],a.2⟩
    | succ i=>simpa using ih (by simpa using e)
  obtain⟨v,hv,rv⟩:=key rel hx;have ilt:it<s.heap.objs.size:=Iz he;refine wpAny_pyNext_items_item he hat' hv fun kv h' hkey hout hT hsz hk=> ?_;refine⟨_,rfl,wpAny_letOwnedTupleGo_items (s:={s with heap:=h'}) hout fun h'' he' hs' => ?_⟩;have kk:∀c o,c∉[it]->s.heap.get? c=some o->h''.get? c=some o:=fun c o hc' y=>by
   have hc2:c≠it:=by simpa using hc'
   exact(hs'.2 c hc2).trans (hk c o hc2 y)
  have new:h''.get? s.heap.objs.size=some {cls:=.type "tuple",data:=.seq #[kv,v]}:=(hs'.2 _ (KM ilt)).trans hT
  have I1:Inv X pins σ (upd H s.heap.objs.size (.tup [kV k,x])) {s with heap:=h''} :=
   I.drew (t' :=s.toks) hf kk (Io _) ⟨by show 2<=sizeLine;decide,[kv,v],.cons (DO hkey) (.cons rv .nil),⟨_,new,rfl,_,rfl,rfl⟩⟩
  refine⟨.ref s.heap.objs.size,_,I1,rfl,⟨s.heap.objs.size,I.hok.fresh (Io _),rfl,fun k' x' hx' => ?_⟩,⟨_,_,he'⟩,fun c hc' => ?_⟩
  ·rw[hx]at hx'
   cases hx';rfl
  ·have hc2:c=it:=by simpa using hc'
   subst hc2;rw[aD (JM ilt)];exact(hf c (by simp)).1
 done:=by
  intro X hP hw hK hc i pins s σ H E I hf st hg;subst hP hw hK;obtain⟨hfr,rfl⟩:=hg;obtain⟨ok,ov,he⟩:=st;have so:s.heap.get? a=some o:=(I.hok a _ hfr).1;have hat' :s.heap.DictAt (ac X.prog X.w) a vs ep:=hat.at' fun o' e=>by rw[ho]at e;cases e;exact so
  have hl:kvs.length=vs.length:=rel.length;exact wpAny_pyNext_items_end (I.ok.hd hc) he hat' (by rw[hl];simp) fun h' hk=>⟨rfl,I.drew0 (t' :=s.toks) hf fun c o hc' y=>hk c o (by simpa using hc') y⟩
 self:=fun A i s Q E st h=>by
  obtain⟨ok,ov,he⟩:=st;refine wpAny_pyIter_slot ⟨_,he,rfl⟩ PySem.F.slot_dict_itemiterator_iter (Js PySem.F.slot_dict_itemiterator_iter ⟨_,he,rfl⟩ fD ?_ (PySem.F.args_dict_itemiterator_iter_1 _));show wpAny _ _ (ret (.ref it)) _ _ s;exact JB ⟨_,rfl,"dict_itemiterator",_,⟨_,he,rfl⟩,PySem.F.slot_dict_itemiterator_next.lookup,h⟩
noncomputable def DY(X:Cx)(td:TE):TI:=fun σ H R=>td σ H fun x H1=>∃a kvs,x=.ref a/\H1 a=some (.dK kvs)/\∀o,NF X a->R (Ie a o kvs) (upd H1 a (.frz o (.dK kvs)))
theorem wj{es:List Expr}{kt:Nat}{tpos:Pos}{o:Expr}{to:TE}{apos cpos:Pos}(ho:PE X o to)(hbase:attributeBase o "items" X.env (eval o X.env)=eval o X.env:=by rfl)(hline:(apos.endLine==cpos.line)=true:=by rfl) :
  PI X (.Tuple es kt tpos) (.Call (.Attribute o "items" apos) [] [] cpos) (DY X to):=by
 intro pins s σ H R I h;refine wpAny_Call_method0_late hbase hline (bD (ho pins s σ H _ I h) fun v s1 hpq=> ?_);obtain⟨x,H1,I1,r1,q1⟩:=hpq;obtain⟨a,kvs,rfl,ha,q⟩:=q1;cases r1;obtain⟨z,hd,vs,rel,dd⟩:=pR I1.hok ha;obtain⟨ep,da⟩:=dd.dictAt;obtain⟨o1,es1,hob,hex,_⟩:=id da;refine⟨"dict","dict.items",PySem.F.plainAttrs_dict,PySem.F.slot_dict_items,PySem.F.type_dict_items,dd.typeIs,fun b e=> ?_,Kt rfl (PySem.evalArgs_none ?_)⟩
 ·cases e
  exact⟨o1,hob,hex.2.1⟩
 refine call_meetsIn PySem.F.slot_dict_items dd.typeIs PySem.F.entry_dict_items (PySem.F.args_dict_items_1 _) (meets_dict_items (ac X.prog X.w) a hd) ⟨⟨vs,dd⟩,?_⟩;have I2:Inv X pins σ H1 {s1 with heap:=s1.heap.push {cls:=.type "dict_items",data:=.fields #[.ref a]}}:=I1.kept (t' :=s1.toks) fun b u e=>Il _ e;have da2:=da.push {cls:=.type "dict_items",data:=.fields #[.ref a]};refine wpAny_pyIter_items ⟨_,JC _ rfl,rfl,rfl⟩ da2 ?_;have lt:a<s1.heap.objs.size:=Iz hob;have I3:=I2.kept (t' :=s1.toks) (h' :=(s1.heap.push {cls:=.type "dict_items",data:=.fields #[.ref a]}).push {cls:=.type "dict_itemiterator",data:=.fields #[.none,.bool false,.ref a,.int 0 0,.int vs.length 0,.int ep 0,.none,.none]}) fun b u e=>Il _ e;have hob3:((s1.heap.push {cls:=.type "dict_items",data:=.fields #[.ref a]}).push {cls:=.type "dict_itemiterator",data:=.fields #[.none,.bool false,.ref a,.int 0 0,.int vs.length 0,.int ep 0,.none,.none]}).get? a=some o1:=Il _ (Il _ hob);have I4:=I3.known ha hob3;refine⟨(s1.heap.push {cls:=.type "dict_items",data:=.fields #[.ref a]}).objs.size,[(s1.heap.push {cls:=.type "dict_items",data:=.fields #[.ref a]}).objs.size],_,_,_,rfl,I4,qE (o:=o1) (h0:=s1.heap) (JM (by rw[size_push'];exact KH lt)) rel da hob,⟨_,_,JC _ rfl⟩,fun c hc=> ?_,q o1 (I1.nf ha)⟩;have e:c=(s1.heap.push {cls:=.type "dict_items",data:=.fields #[.ref a]}).objs.size:=by simpa using hc
 subst e;refine(I2.fpOk (Io _) ?_);rw[aD (KM (by rw[size_push'];exact KH lt))];exact I2.hok.fresh (Io _)
noncomputable def thaw(X:Cx)(D:dN):dN where
 nx:=fun σ H=>∃a o kvs,H a=some (.frz o (.dK kvs))/\NF X a/\D.nx σ (upd H a (.dK kvs))
 bk:=fun σ H=>∃a o kvs,H a=some (.frz o (.dK kvs))/\NF X a/\D.bk σ (upd H a (.dK kvs))
 ct:=fun σ H=>∃a o kvs,H a=some (.frz o (.dK kvs))/\NF X a/\D.ct σ (upd H a (.dK kvs))
 rt:=fun v H=>∃a o kvs,H a=some (.frz o (.dK kvs))/\NF X a/\D.rt v (upd H a (.dK kvs))
theorem y6{st:Stmt}{t:TS}(h:PS X st t):PS X st (fun D σ H=>t (thaw X D) σ H):=by
 intro pins s σ H D I hr;refine bD (h pins s σ H _ I hr) fun f s1 q=> ?_;cases f with
 | next =>
  obtain⟨σ',H',I',a,o,kvs,ha,nf,q⟩:=q;exact⟨σ',_,I'.unknown nf ha,q⟩
 | brk =>
  obtain⟨σ',H',I',a,o,kvs,ha,nf,q⟩:=q;exact⟨σ',_,I'.unknown nf ha,q⟩
 | cont =>
  obtain⟨σ',H',I',a,o,kvs,ha,nf,q⟩:=q;exact⟨σ',_,I'.unknown nf ha,q⟩
 | ret v =>
  obtain⟨σ',x,H',I',rx,a,o,kvs,ha,nf,q⟩:=q;exact⟨σ',x,_,I'.unknown nf ha,rx,q⟩
theorem ug{a:Addr}{o:Obj}{kvs:List (am×V)}{g:TG}{tb:TS}{D:dN}{σ:St}{H:Hp}(Pv:Nat->St->Hp->Prop)(h0:Pv 0 σ H)(ha:∀i σ H,i<=kvs.length->Pv i σ H->H a=some (.frz o (.dK kvs)))
  (hs:∀i k x p σ H,kvs[i]? =some (k,x)->H p=none->Pv i σ H->g (.ref p) σ (upd H p (.tup [kV k,x])) fun σ2 H2=>tb {D with nx:=Pv (i+1),ct:=Pv (i+1),bk:=D.nx} σ2 H2) (hd:∀σ H,Pv kvs.length σ H->D.nx σ H) :
  ∃W:Nat->Nat->St->Hp->Prop,(∃m,W 0 m σ H)/\∀i m σ H,W i m σ H ->
   ((Ie a o kvs).stop i H/\D.nx σ H)\/((Ie a o kvs).go i H/\∃N:St->Hp->Prop,(∀σ' H',N σ' H' ->∃m',m' <m/\W (i+1) m' σ' H')/\∀x H',(Ie a o kvs).yld i H x H' ->g x σ H' fun σ2 H2=>tb {D with nx:=N,ct:=N,bk:=D.nx} σ2 H2):=by
 refine⟨fun i m σ H=>m=kvs.length-i/\i<=kvs.length/\Pv i σ H,⟨kvs.length,by simp,JR _,h0⟩,?_⟩;rintro i m σ H ⟨rfl,hi,p⟩;have qa:=ha i σ H hi p
 by_cases hlt:i<kvs.length
 ·have ex:kvs[i]? =some kvs[i]:=by simp[hlt]
  refine .inr ⟨⟨qa,hlt⟩,Pv (i+1),fun σ' H' p' =>⟨kvs.length-(i+1),by omega,rfl,hlt,p'⟩,fun x H' y=> ?_⟩;obtain⟨pp,hn,rfl,y⟩:=y;have e:=y kvs[i].1 kvs[i].2 ex;subst e;exact hs i _ _ pp σ H ex hn p
 ·have e:i=kvs.length:=by omega
  subst e;exact .inl ⟨⟨qa,rfl⟩,hd σ H p⟩
end
namespace RV
theorem oD:Slot "reversed" "__next__" "reversed.__next__":=by
 refine .of (owner:="reversed") (n:="__next__") ?_ (by decide +kernel) (by decide +kernel) (by decide +kernel) ?_ ?_
 ·rw[LG,Kf];kernel_rfl
 ·first|exact .inl (by decide +kernel)|exact .inr (by decide +kernel)
 ·rw[Lu];kernel_rfl
theorem BI:Slot "reversed" "__iter__" "reversed.__iter__":=by
 refine .of (owner:="reversed") (n:="__iter__") ?_ (by decide +kernel) (by decide +kernel) (by decide +kernel) ?_ ?_
 ·rw[LG,Kf];kernel_rfl
 ·first|exact .inl (by decide +kernel)|exact .inr (by decide +kernel)
 ·rw[Lu];kernel_rfl
theorem vq:Slot "reversed" "__length_hint__" "reversed.__length_hint__":=by
 refine .of (owner:="reversed") (n:="__length_hint__") ?_ (by decide +kernel) (by decide +kernel) (by decide +kernel) ?_ ?_
 ·rw[LG,Kf];kernel_rfl
 ·first|exact .inl (by decide +kernel)|exact .inr (by decide +kernel)
 ·rw[Lu];kernel_rfl
theorem Gc:Slot "reversed" "__init__" "object.__init__":=by
 refine .of (owner:="object") (n:="__init__") ?_ (by decide +kernel) (by decide +kernel) (by decide +kernel) ?_ ?_
 ·rw[LG,Kf];kernel_rfl
 ·first|exact .inl (by decide +kernel)|exact .inr (by decide +kernel)
 ·rw[Lu];kernel_rfl
theorem Bg:entryFor table "reversed.__next__"=some Builtin.«reversed.__next__»:=entryFor_of_tree (by kernel_rfl)
theorem HZ:entryFor table "reversed.__length_hint__"=some Builtin.«reversed.__length_hint__»:=entryFor_of_tree (by kernel_rfl)
theorem HY:entryFor table "reversed.__iter__"=some Builtin.«dict_keyiterator.__iter__»:=by
 refine entryFor_alias (id' :="dict_keyiterator.__iter__") (by kernel_rfl) ?_ (by decide +kernel) (by kernel_rfl)
 first|rfl|decide +kernel|(unfold String.splitOn;simp +decide [String.splitOnAux])
theorem Bj(v:Value):argsOk "reversed.__next__" ⟨[v],[]⟩:=by unfold argsOk;kernel_rfl
theorem IN(v:Value):argsOk "reversed.__iter__" ⟨[v],[]⟩:=by unfold argsOk;kernel_rfl
theorem IP(v:Value):argsOk "reversed.__length_hint__" ⟨[v],[]⟩:=by unfold argsOk;kernel_rfl
theorem HB:typeLookup (.type "reversed") "__len__"=pure none:=by rw[LG,Kf];kernel_rfl
theorem HA:typeLookup (.type "str") "__reversed__"=pure none:=by rw[LG,Kf];kernel_rfl
theorem EU:TypeCalled "reversed" "reversed.__new__" "object.__init__" :=
 ⟨by decide +kernel,PySem.F.create_reversed,⟨_,_,PySem.F.mro_reversed⟩,PySem.F.made_reversed,PySem.F.plain_reversed_new,PySem.F.sub_reversed_self,Gc⟩
noncomputable def BK(x:Str)(t:Tok)(i:Int):Obj:={cls:=.type "reversed",data:=.fields #[.str x t,rawInt i]}
theorem subDict:isSubtype (.type "str") (.type "dict")=pure false:=by rw[Lu];kernel_rfl
theorem uS(x:Str)(t:Tok) :
  Meets (Builtin.«reversed.__new__» ⟨[.type "reversed",.str x t],[]⟩) (fun _ R s=>x.length<=sizeLine /\
   R (.ok (.ret (.ref s.heap.objs.size))) {s with heap:=s.heap.push (BK x t ((x.length:Int)-1)),toks:=s.toks+1+1}) :=
 .of_wp fun prog w A R s h=>by
  obtain⟨hx,h⟩:=h;unfold Builtin.«reversed.__new__»;refine Ij (KY (newClass_reversed _) ?_);refine Ij (KY (a:=()) (by first|rfl|kernel_rfl) ?_);refine Ij (KY (a:=()) (by first|rfl|kernel_rfl) ?_);refine Ij (Lf (LK s x t) HA ?_);refine Ij ?_;show wpAny _ _ (isInstance (.str x t) (.type "dict") >>= _) _ _ _;refine Ij (wpAny_isInstance (b:=false) (LK s x t) subDict ?_);show wpAny _ _ (specialOf (.str x t) (Str.ofString "__getitem__") >>= _) _ _ _;refine Ij (Lf (LK s x t) PySem.F.slot_str_getitem.lookup ?_);refine KY (a:=true) (by first|rfl|kernel_rfl) ?_;show wpAny _ _ (call (.builtin "len") [.str x t] >>= _) _ _ _;refine Ij (P.len_str (by have:sizeLine<2^63:=(by decide);omega) ?_);refine Ij (m:=asInt? (.int _ _)) (JB ?_);dsimp only;unfold Builtin.SmallTypes.newRecord;exact Ij (Jm (JB ⟨_,rfl,h⟩))
section
variable{prog:Program}{w:World}{A:Around}{E:Value->Shared->Prop}{s:Shared}{x:Str}{t:Tok}
theorem xz{Q:Value->Shared->Prop}(hx:x.length<=sizeLine)(h:Q (.ref s.heap.objs.size) {s with heap:=s.heap.push (BK x t ((x.length:Int)-1)),toks:=s.toks+1+1}) :
  wpAny (model prog w) A (call (.type "reversed") [.str x t]) Q E s :=
 callType_new EU (by decide) (PySem.F.typeCall_reversed_1 _) (PySem.F.newCall_reversed_1 _) (fun ob=>PySem.F.args_object_init_2 ob _) PySem.F.entry_reversed_new (uS x t)
  ⟨hx,⟨⟨_,JC _ rfl,rfl⟩,h⟩⟩
end
end RV
end L2
namespace L2
open PySem PySem.Spec PyProof.Rows
namespace RV
noncomputable def fE(h:Heap)(a:Addr)(x:Str)(t:Tok)(i:Int):Prop:=∃o,h.get? a=some o/\o.cls=.type "reversed"/\o.data=.fields #[.str x t,rawInt i]
section
variable{prog:Program}{w:World}{A:Around}{E:Value->Shared->Prop}{s:Shared}{x:Str}{t:Tok}{a:Addr}
theorem fE.ty{i:Int}(r:fE s.heap a x t i):s.TypeIs (.ref a) "reversed":=by
 obtain⟨o,e,c,_⟩:=r;exact⟨o,e,c⟩
theorem iK{i:Int}{Q:Value->Shared->Prop}(r:fE s.heap a x t i)(h:Q (.ref a) s):wpAny (model prog w) A (pyIter (.ref a)) Q E s:=by
 refine wpAny_pyIter_slot r.ty BI ?_;refine Js BI r.ty HY ?_ (IN _);show wpAny _ _ (ret (.ref a)) _ _ s;exact JB ⟨_,rfl,"reversed",_,r.ty,oD.lookup,h⟩
theorem uO{i c:Nat}{Q:Option Value->Shared->Prop}(r:fE s.heap a x t i)(hx:x.length<=sizeLine)(hc:x.cps[i]? =some c)
  (h:∀h' u tk,fE h' a x t ((i:Int)-1)->Heap.SameBut a s.heap h' ->Q (some (.str ⟨#[c]⟩ u)) {s with heap:=h',toks:=tk}):wpAny (model prog w) A (pyNext (.ref a)) Q E s:=by
 obtain⟨o,e,oc,od⟩:=id r;unfold pyNext;refine Ij (wpAny_attempt (KO (name:=Str.ofString "__next__") r.ty oD ?_));refine Js oD r.ty Bg ?_ (Bj _);unfold Builtin.«reversed.__next__»;refine Ij (KY (a:=(Value.ref a,[])) rfl ?_);refine Ij (Jt e od (x:=.str x t) rfl ?_);refine Ij (Jt e od (x:=rawInt (i:Int)) rfl ?_);show wpAny _ _ (if(i:Int)<0 then _ else _) _ _ s;rw[Iq (by omega)];show wpAny _ _ (specialOf (.str x t) (Str.ofString "__getitem__") >>= _) _ _ _;refine Ij (Lf (LK s x t) PySem.F.slot_str_getitem.lookup ?_);show wpAny _ _ (mkInt (i:Int) >>= _) _ _ _;refine Ij (wpAny_mkInt ?_);refine Ij (wpAny_attempt (P.getItem_str (c:=c) ?_ ?_ ?_))
 ·have z:sizeLine<2^63:=by decide
  have z2:i<x.cps.size:=(KC.mp hc).1;have z3:x.length=x.cps.size:=rfl;simp only[Bool.or_eq_false_iff,K6];omega
 ·have z2:i<x.cps.size:=(KC.mp hc).1
  have z3:x.length=x.cps.size:=rfl;have:seqIndex? (i:Int) x.length=some i:=by
   unfold seqIndex?;simp only;rw[Iq (show¬(i:Int)<0 by omega),Ix (by simp;omega)];simp
  rw[this];exact hc
 dsimp only;refine Ij (Jt e od (x:=rawInt (i:Int)) rfl ?_);show wpAny _ _ (setField (.ref a) 1 (rawInt ((i:Int)-1)) >>= _) _ _ _;refine Ij (Km e od (by simp) ?_);refine JB ⟨_,rfl,JB (h _ _ _ ?_ (K8 ..))⟩;refine⟨_,J7 _ e (Kg (KA od _)),(Obj.cls_mapFields ..).trans oc,?_⟩;rw[KA od];simp
theorem wd{Q:Option Value->Shared->Prop}(hh:A.handled=none)(r:fE s.heap a x t (-1))
  (h:∀h',Heap.ExtBut a s.heap h' ->Q none {s with heap:=h'}):wpAny (model prog w) A (pyNext (.ref a)) Q E s:=by
 obtain⟨o,e,oc,od⟩:=id r;unfold pyNext;refine Ij (wpAny_attempt (KO (name:=Str.ofString "__next__") r.ty oD ?_));refine Js oD r.ty Bg ?_ (Bj _);unfold Builtin.«reversed.__next__»;refine Ij (KY (a:=(Value.ref a,[])) rfl ?_);refine Ij (Jt e od (x:=.str x t) rfl ?_);refine Ij (Jt e od (x:=rawInt (-1)) rfl ?_);show wpAny _ _ (if(-1:Int)<0 then _ else _) _ _ s;rw[Ix (by decide)];refine Ij (wpAny_rule ?_);refine Ij ?_;show wpAny _ _ (setField (.ref a) 1 (rawInt (-1)) >>= fun _=>setField (.ref a) 0 .none) _ _ _;refine Ij (Km e od (by simp) ?_);have e2:=J7 (Obj.mapFields (·.setIfInBounds 1 (rawInt (-1)))) e (Kg (KA od _));have d2:=KA od (·.setIfInBounds 1 (rawInt (-1)));refine Km e2 d2 (by simp) ?_;have k2:=((K8 s.heap a (Obj.mapFields (·.setIfInBounds 1 (rawInt (-1))))).trans (K8 _ a (Obj.mapFields (·.setIfInBounds 0 Value.none)))).extBut;refine Ij ?_;show wpAny _ _ (newExc (.type "StopIteration") [] >>= fun e=>raiseNew e) _ _ _;refine Ij ?_;simp only[newExc,newTuple];refine Ij (Jm ?_ (by size_fits));refine Ij (m:=firstArgMember _ _) (KY (a:=Value.none) ?_ ?_)
 ·first|rfl|(simp only[firstArgMember];rfl)
 refine Jm ?_ (by size_fits);simp only[raiseNew];refine Ij (wpAny_handled ?_);rw[show A.in1.handled=none from hh];refine Ij (JB (wpAny_throw ?_));refine Ij (wpAny_isInstance (T:="StopIteration") (b:=true) ⟨_,JC _ rfl,rfl⟩ isSubtype_stop ?_);exact JB (h _ ((k2.push _).push _))
theorem Bx(hh:A.handled=none)(I:Addr)(x:Str)(t:Tok)(hx:x.length<=sizeLine) :
  Walks prog w A I [I] [I] x.cps.size (fun i v=>∃c u,x.cps[x.cps.size-1-i]? =some c/\v=.str ⟨#[c]⟩ u) (fun i h=>fE h I x t ((x.cps.size:Int)-1-(i:Int))) where
 sub:=fun _ hb=>hb
 frame:=fun i h h' st hk=>by
  obtain⟨o,ho,r⟩:=st;exact⟨o,hk I (by simp) o ho,r⟩
 item:=fun i s Q E hi st hQ=>by
  have e:(x.cps.size:Int)-1-(i:Int)=((x.cps.size-1-i:Nat):Int):=by omega
  have e2:((x.cps.size-1-i:Nat):Int)-1=(x.cps.size:Int)-1-((i+1:Nat):Int):=by omega
  have e3:x.cps[x.cps.size-1-i]? =some (x.cps[x.cps.size-1-i]'(by omega)):=Lj (by omega);have st:fE s.heap I x t ((x.cps.size:Int)-1-(i:Int)):=st;rw[e]at st;refine uO st hx e3 fun h' u tk it' sb=> ?_;rw[e2]at it';exact hQ _ h' tk ⟨_,u,e3,rfl⟩ it' fun b o hb eo=>sb.extBut b o (fun z=>hb (by simp[z])) eo
 done:=fun s Q E st hQ=>by
  have st:fE s.heap I x t ((x.cps.size:Int)-1-((x.cps.size:Nat):Int)):=st;rw[show(x.cps.size:Int)-1-(x.cps.size:Int)= -1 by omega]at st;exact wd hh st fun h' k=>hQ h' s.toks fun b o hb eo=>k b o (fun z=>hb (by simp[z])) eo
 self:=fun _ _ _ _ st hQ=>iK st hQ
theorem hint{Q:Value->Shared->Prop}(r:fE s.heap a x t ((x.length:Int)-1))(hx:x.length<=sizeLine)
  (h:∀u tk,s.toks<=tk->Q (.int x.length u) {s with toks:=tk}):wpAny (model prog w) A (call (.builtin "reversed.__length_hint__") [.ref a]) Q E s:=by
 obtain⟨o,e,oc,od⟩:=id r;refine Js vq r.ty HZ ?_ (IP _);unfold Builtin.«reversed.__length_hint__»;refine Ij (KY (a:=Value.ref a) rfl ?_);refine Ij (Jt e od (x:=.str x t) rfl ?_);show wpAny _ _ (call (.builtin "len") [.str x t] >>= _) _ _ _;refine Ij (P.len_str (by have:sizeLine<2^63:=(by decide);omega) ?_);refine Ij (m:=asInt? (.int _ _)) (JB ?_);dsimp only;refine Ij (Jt e od (x:=rawInt ((x.length:Int)-1)) rfl ?_);show wpAny _ _ (if(x.length:Int)<(x.length:Int)-1+1 then _ else _) _ _ _;rw[Iq (by omega),show(x.length:Int)-1+1=x.length by omega];exact Ij (wpAny_mkInt (JB ⟨_,rfl,h _ _ (by simp;omega)⟩))
end
end RV
end L2
namespace L2
open PySem PySem.Spec PyProof.Rows
namespace RV
section
variable{prog:Program}{w:World}{A:Around}{E:Value->Shared->Prop}{s:Shared}{x:Str}{t:Tok}{a:Addr}
noncomputable abbrev Sg(x:Str):Nat->Value->Prop:=fun i v=>∃c u,x.cps[x.cps.size-1-i]? =some c/\v=.str ⟨#[c]⟩ u
theorem coll{Q:List Value->Shared->Prop}(hh:A.handled=none)(hx:x.length<=16777216)(h0:0<x.length)(r:fE s.heap a x t ((x.length:Int)-1))
  (hQ:∀s' acc,Moved [a] (fun p q=>q=p) s s' ->ItemsOf (Sg x) acc x.cps.size->Q acc.toList s'):wpAny (model prog w) A (collect (.ref a)) Q E s:=by
 have hz:x.length<=sizeLine:=JO hx (by decide);have W:=(Bx (prog:=prog) (w:=w) (A:=A.in1) hh a x t hz).toS;have st0:fE s.heap a x t ((x.cps.size:Int)-1-((0:Nat):Int)):=by
  have z:(x.cps.size:Int)=(x.length:Int):=rfl;rw[z]
  simpa using r
 have lt:a<s.heap.objs.size:=by obtain⟨o,e,_⟩:=r;exact Iz e
 have nf:s.heap.objs.size∉[a]:=by simpa using KM lt
 have ne:s.heap.objs.size≠a:=KM lt;unfold collect;refine Ij (wpAny_runValue (codeAny_builtin PySem.F.entry_proto_collect ?_));rw[Around.under_plainId PySem.F.plain_proto_collect _];refine Ij (m:=newList []) (Jm ?_);refine JB ⟨plainId_quiet PySem.F.plain_list_iadd _,codeAny_builtin PySem.F.entry_list_iadd ?_⟩;rw[Around.under_plainId PySem.F.plain_list_iadd _];obtain⟨nl,hnl⟩:∃nl:Obj,nl={cls:=.type "list",data:=.seq ([]:List Value).toArray}:=⟨_,rfl⟩;show wpAny _ A.in1 (Builtin.List.listExtendWith (.ref s.heap.objs.size) (.ref a) (.ref s.heap.objs.size)) _ _ {s with heap:=s.heap.push _};rw[<- hnl];have r1:fE (s.heap.push nl) a x t ((x.length:Int)-1):=by
  obtain⟨o,e,q⟩:=r;exact⟨o,Il _ e,q⟩
 have g1:(s.heap.push nl).get? s.heap.objs.size=some nl:=JC _ (by rw[hnl];rfl);have ty1:=fE.ty (s:={s with heap:=s.heap.push nl}) r1;unfold Builtin.List.listExtendWith;refine Ij (wpAny_typeOf ty1 ?_);have b1:Builtin.List.listSameRef (.ref s.heap.objs.size) (.ref a)=false:=by simp[Builtin.List.listSameRef,ne]
 rw[Iq (by rw[b1];decide)];refine Ij (iK r1 ?_);refine Ij (LA ?_);unfold Builtin.List.listLengthHint;refine Ij (Lf ty1 HB ?_);show wpAny _ A.in1 (specialOf (Value.ref a) (Str.ofString "__length_hint__") >>= _) _ _ {s with heap:=s.heap.push nl};refine Ij (Lf ty1 vq.lookup ?_);dsimp only;rw[show splitId "reversed.__length_hint__"=some ("reversed","__length_hint__")from by decide +kernel];dsimp only;refine Ij (wpAny_isInstance (b:=true) ty1 PySem.F.sub_reversed_self ?_);rw[Iq (by decide),Iq (by decide)];refine Ij (wpAny_rule ?_);refine Ij (KY (vq.bind _) ?_);refine Ij (wpAny_attempt (hint r1 hz fun u tk le=> ?_));dsimp only;obtain⟨n,hn⟩:∃n:Int,n=(x.length:Int):=⟨_,rfl⟩;rw[<- hn];refine Ij (KY (a:=some n) rfl ?_);dsimp only;have c1:Builtin.List.listFitsIndex n=true:=by
  have z:sizeLine<2^63:=by decide
  simp only[Builtin.List.listFitsIndex,Iu,JX];omega
 have c2:Builtin.List.listTooLong n.toNat=false:=by
  simp only[Builtin.List.listTooLong,K6];omega
 have c3:(n !=0)=true:=by simp;omega
 rw[Iq (by rw[c1];decide),Iq (by omega),Iq (by rw[c2];decide),c3];refine JB ?_;rw[Ix (by rfl)];refine Ij (wpAny_rule ?_);refine Ij ?_;show wpAny _ A.in1 (updateSeq s.heap.objs.size (·.push .none) >>= fun _=>updateSeq s.heap.objs.size (·.pop)) _ _ {s with heap:=s.heap.push nl,toks:=tk};subst hnl;refine Ij (wpAny_updateSeq g1 rfl ?_);have g2:=J7 (Obj.mapSeq (·.push Value.none)) g1 rfl;refine wpAny_updateSeq g2 rfl ?_;have g3:=J7 (Obj.mapSeq (·.pop)) g2 rfl
 have oth:∀b o,b≠s.heap.objs.size->s.heap.get? b=some o->(((s.heap.push {cls:=.type "list",data:=.seq #[]}).update s.heap.objs.size (Obj.mapSeq (·.push Value.none))).update s.heap.objs.size (Obj.mapSeq (·.pop))).get? b=some o:=fun b o hb e =>
  (Jh _ _ (KW hb)).trans ((Jh _ _ (KW hb)).trans (Il _ e))
 have st3:fE (((s.heap.push {cls:=.type "list",data:=.seq #[]}).update s.heap.objs.size (Obj.mapSeq (·.push Value.none))).update s.heap.objs.size (Obj.mapSeq (·.pop))) a x t ((x.cps.size:Int)-1-((0:Nat):Int)):=by
  obtain⟨o,e,q⟩:=st0;exact⟨o,oth a o (KW ne) e,q⟩
 refine JB ⟨plainId_quiet PySem.F.plain_extend_loop _,codeAny_extend_loopS W hz _ nf _ x.cps.size 0 _ _ _ rfl (JR _) st3 g3 (ItemsOf.nil _) fun s' acc' c' hm hS' hacc=> ?_⟩;refine Ij (m:=load s.heap.objs.size) (wpAny_load hS' ?_);refine JB (hQ s' acc' ?_ hacc);obtain⟨m1,m2,m3,m4,m5⟩:=hm;refine⟨fun b o hb e=>m1 b o (fun z=> ?_) (oth b o (JM (Iz e)) e),m2,m3,m4,JO le m5⟩;simp only[JD,JW,Ku]at z hb;exact z.elim (JM (Iz e)) hb
end
end RV
end L2
namespace L2
open PySem PySem.Spec PyProof.Rows
namespace RV
open Builtin Builtin.Str Builtin.Int
noncomputable def gt(x:Str):List Str:=x.cps.toList.reverse.map fun c=>(⟨#[c]⟩:Str)
theorem pj(x:Str):(gt x).length=x.length:=by simp[gt,PySem.Str.length]
theorem Ar(x:Str){i:Nat}{c:Nat}(h:x.cps[x.cps.size-1-i]? =some c)(hi:i<x.cps.size):(gt x)[i]? =some ⟨#[c]⟩:=by
 unfold gt;rw[Iy,List.getElem?_reverse (by simpa using hi)];have:x.cps.toList[x.cps.toList.length-1-i]? =some c:=by
  rw[Ko]
  simpa using h
 rw[this];rfl
theorem yE(x:Str):((gt x).map (·.length)).sum=x.length:=by
 have:∀l:List Nat,((l.map fun c=>(⟨#[c]⟩:Str)).map (·.length)).sum=l.length:=by
  intro l
  induction l with
  | nil=>rfl
  | cons c l ih=>simp only[JH,LS,ih,JI];show 1+_=_;omega
 unfold gt;rw[this];simp[PySem.Str.length]
section
variable{prog:Program}{w:World}{A:Around}{E:Value->Shared->Prop}{s:Shared}{x sep:Str}{t u:Tok}{a:Addr}
theorem xF{Q:Value->Shared->Prop}(hh:A.handled=none)(h0:0<x.length)(hx:x.length+x.length*sep.length<=16777216)(r:fE s.heap a x t ((x.length:Int)-1))
  (hQ:∀s' t' k,Moved [a] (fun p q=>q=p) s s' ->Q (.str (Txt.join sep (gt x)) t') {s' with toks:=k}):wpAny (model prog w) A (call (.builtin "str.join") [.str sep u,.ref a]) Q E s:=by
 have hx1:x.length<=16777216:=by omega
 refine wpAny_call (codeAny_call_builtin LM.plain PySem.F.entry_str_join ?_);refine LM.check _ _ _ _ _ _ _ _ (LK _ _ _) (PySem.F.args_str_join_2 _ _) ?_;rw[join_tree_other];refine Ij (wpAny_typeOf r.ty ?_);rw[Iq (by decide)];refine Ij (wpAny_tryCatch (iK r ?_));refine Ij (coll (A:=A.in1) hh hx1 h0 r fun s' acc hm hacc=> ?_);obtain⟨l,hl⟩:=exists_strValues acc.toList fun v hv=>by
  obtain⟨j,hj,rfl⟩:=Array.mem_iff_getElem.mp (Array.mem_toList_iff.mp hv);obtain⟨c,u,_,e⟩:=hacc.2 j _ (Lj hj);exact⟨_,_,e⟩
 have el:l.map (·.1)=gt x:=by
  have hlen:l.length=x.cps.size:=by
   have:=Je List.length hl;simp[strValues]at this;rw[this];exact hacc.1
  apply Lm
  intro i
  by_cases hi:i<x.cps.size
  ·have e1:(strValues l)[i]? =some (Value.str (l[i]'(by omega)).1 (l[i]'(by omega)).2):=by simp[strValues,show i<l.length by omega]
   rw[hl,Ko]at e1;obtain⟨c,u,h1,h2⟩:=hacc.2 i _ e1;have h3:(l[i]'(by omega)).1=⟨#[c]⟩:=(Value.str.inj h2).1;rw[Ar x h1 hi,Iy,Iv (by omega),<-h3];rfl
  ·rw[KG (by simp;omega),KG (by rw[pj];exact Nat.le_of_not_lt hi)]
 rw[<- hl];have hok:JoinOk sep (l.map (·.1))=true:=by
  rw[el];refine joinOk_of ?_;rw[yE,pj];exact hx
 unfold JoinOk at hok;rw[Ke]at hok;have g:Gives (joinTail sep (strValues l)) (joinMade sep l):=by
  have g0:=gives_joinTail sep l hok
  clear hl el
  rcases l with _|⟨p,_|⟨q,m⟩⟩<;>exact g0
 refine g prog w A (wants Q E) s' (post_join l ⟨joinFit_length hok,fun t' k=> ?_⟩);rw[el];exact hQ s' t' k hm
end
end RV
section
variable{X:Cx}
noncomputable def GC(to:TE)(ta:TA):TE:=fun σ H Q=>to σ H fun x H1=>x=.str ⟨#[]⟩/\ta σ H1 fun ys H2=>∃z,ys=[.str z]/\0<z.length/\z.length<=16777216/\Q (.str (FQ z.cps.toList.reverse)) H2
theorem zJ{o b:Expr}{to:TE}{ta:TA}{apos p pos cpos:Pos}(hc:X.calm=true)(hg:Gl X "reversed")(hm:X.mg "reversed"=none)(ho:PE X o to)(ha:PA X [b] ta)
  (hs:starEach [b] X.env=[(false,eval b X.env)]) (hbase:attributeBase o "join" X.env (eval o X.env)=eval o X.env) (hline:(apos.endLine==cpos.line)=true) :
  PE X (.Call (.Attribute o "join" apos) [.Call (.Name "reversed" p) [b] [] pos] [] cpos) (GC to ta):=by
 intro pins s σ H Q I h;refine wpAny_Call_method_late hbase rfl hline rfl (bD (ho pins s σ H _ I h) fun v s1 hpq=> ?_);obtain⟨x,H1,I1,r1,ex,q1⟩:=hpq;subst ex;obtain⟨t1,rfl⟩:=r1;refine⟨"str","str.join",PySem.F.plainAttrs_str,LM,PySem.F.type_str_join,LK _ _ _,(fun a e=>nomatch e),?_⟩;refine Kt rfl (Calls.evalArgs_plain ?_);show wpAny _ _ (spliced [(false,eval (.Call (.Name "reversed" p) [b] [] pos) X.env)]) _ _ s1;refine Lw ?_;refine LJ (cI I1 hg hm boot_reversed ?_);refine JZ (bD (ha pos pins s1 σ H1 _ I1 q1) fun us s2 ⟨vs,H2,I2,r2,q2⟩=> ?_) hs rfl;obtain⟨z,e,z0,z1,q⟩:=q2;subst e;obtain⟨u,rfl,t,rfl⟩:=vals1 r2;refine RV.xz (JO z1 (by decide)) ?_;refine Calls.spliced_nil ?_;refine RV.xF (sep:=⟨#[]⟩) (I1.ok.hd hc) z0 (by show z.length+z.length*0<=_;omega) ⟨_,JC _ rfl,rfl,rfl⟩ fun s' t' k hm=> ?_;have ej:Txt.join ⟨#[]⟩ (RV.gt z)=FQ z.cps.toList.reverse:=HH _;rw[ej];obtain⟨m1,m2,m3,m4,m5⟩:=hm;have es:({s' with toks:=k}:Shared)={s2 with heap:=s'.heap,toks:=k}:=by
  cases s';simp only at m2 m3 m4;subst m2 m3 m4;rfl
 rw[es];refine⟨.str (FQ z.cps.toList.reverse),H2,I2.kept (t' :=k) fun b o e=>m1 b o (by simpa using JM (Iz e)) (Il _ e),⟨t',rfl⟩,q⟩
end
end L2
namespace L2
open PySem PySem.Spec PyProof.Rows
section
variable{X:Cx}
section
variable{prog:Program}{w:World}{A:Around}{E:Value->Shared->Prop}{s:Shared}{d:Addr}{od:Obj}{es:Array DictEntry}{ep:Nat}
end
section
variable{prog:Program}{w:World}{A:Around}{E:Value->Shared->Prop}{s:Shared}
end
end
section
variable{prog:Program}{w:World}{A:Around}{E:Value->Shared->Prop}{s:Shared}
end
section
variable{X:Cx}
noncomputable def Ca:V->List V->Hp->VK->Prop:=fun x vs H Q=>∃z y,x=.str z/\vs=[.str y]/\Q (.int (Txt.count z y)) H
theorem wm:FG X "str.count" Ca:=by
 intro pins s σ H x xs v us Q I rx rs h;obtain⟨z,y,rfl,rfl,q⟩:=h;obtain⟨t,rfl⟩:=rx;obtain⟨u,rfl,t',rfl⟩:=vals1 rs;exact SC.count ⟨.int (Txt.count z y),H,I.tok _,⟨_,rfl⟩,q⟩
end
end L2
namespace SQ
open PySem
noncomputable def lst(m:Nat):List Nat:=(List.range 8).filter fun v=>m/2^v%2==1
noncomputable def put(m v:Nat):Nat:=if m/2^v%2=1 then m else m+2^v
noncomputable def tab(led:Bool)(m:Nat):SetTable:={mask:=if(lst m).length<5 then 7 else 31,place:=(lst m).toArray,dummies:= #[],finger:=0,led:=led,moves:=if(lst m).length<5 then 0 else 1,plain:=true}
noncomputable def at_(m v:Nat):Nat:=((lst m).filter (·<v)).length
noncomputable def uL:Value->Option Int
 | .int i _=>some i
 | _=>none
theorem uK{x:Value}{i:Int}(h:uL x=some i):∃t,x=.int i t:=by
 cases x<;>simp[uL]at h;subst h;exact⟨_,rfl⟩
noncomputable def rR(es:List (Int×Value))(m:Nat):Prop:=es.map (fun e=>(e.1,uL e.2))=(lst m).map fun v:Nat=>((v:Int),some (v:Int))
noncomputable def SX(w:World)(a:Addr)(m:Nat)(h:Heap):Prop:=∃o es ep,h.get? a=some o/\o.ExactSet/\o.data=.set es ep (tab (!w.params.followText "set-order") m)/\rR es.toList m
theorem rR.len{es:List (Int×Value)}{m:Nat}(h:rR es m):es.length=(lst m).length:=by
 have:=Je List.length h
 simpa using this
theorem rR.at{es:List (Int×Value)}{m:Nat}(h:rR es m){e:Int×Value}(he:e∈es):∃v t,v∈lst m/\e=((v:Int),.int (v:Int) t):=by
 have:(e.1,uL e.2)∈es.map (fun e=>(e.1,uL e.2)):=JE.mpr ⟨e,he,rfl⟩;rw[h]at this;obtain⟨v,hv,q⟩:=JE.mp this;obtain⟨e1,e2⟩:=e;simp only[Prod.mk.injEq]at q;obtain⟨t,z⟩:=uK q.2.symm;exact⟨v,t,hv,by rw[z,<-q.1]⟩
theorem rR.has{es:List (Int×Value)}{m:Nat}(h:rR es m){v:Nat}(hv:v∈lst m):∃t,((v:Int),Value.int (v:Int) t)∈es:=by
 have:((v:Int),some (v:Int))∈(lst m).map fun v:Nat=>((v:Int),some (v:Int)):=JE.mpr ⟨v,hv,rfl⟩;rw[<- h]at this;obtain⟨e,he,q⟩:=JE.mp this;obtain⟨u,t,-,rfl⟩:=h.at he;simp only[uL,Prod.mk.injEq]at q;have:u=v:=by omega
 subst this;exact⟨t,he⟩
section
variable{prog:Program}{w:World}{A:Around}{E:Value->Shared->Prop}{s:Shared}
end
noncomputable def Ge(f:Nat->Nat):Nat->Nat->Nat->Nat
 | 0,_,m=>m
 | k+1,i,m=>Ge f k (i+1) (put m (f i))
theorem SX.at{w:World}{a:Addr}{m:Nat}{h h' :Heap}(x:SX w a m h)(k:∀o,h.get? a=some o->h'.get? a=some o):SX w a m h' :=
 let⟨o,es,ep,ho,r⟩:=x
 ⟨o,es,ep,k o ho,r⟩
section
variable{prog:Program}{w:World}{A:Around}{E:Value->Shared->Prop}
variable{s:Shared}
noncomputable def bare(led:Bool):Obj:={cls:=.type "set",dict:=none,data:=.set #[] 0 (.fresh 0 0 led)}
end
section
variable{prog:Program}{w:World}{A:Around}{E:Value->Shared->Prop}{s:Shared}
end
noncomputable def yL(I a i n ep j:Nat)(h:Heap):Prop:=∃o,h.get? I=some o/\o.cls=.type "set_iterator"/\o.data=.fields #[.int (j:Nat) 0,.int (i:Nat) 0,.ref a,.int (n:Nat) 0,.int (ep:Nat) 0]
theorem yL.typeIs{I a i n ep j:Nat}{s:Shared}(x:yL I a i n ep j s.heap):s.TypeIs (.ref I) "set_iterator":=let⟨o,ho,hc,_⟩:=x;⟨o,ho,hc⟩
theorem yL.keep{I a i n ep j:Nat}{h h' :Heap}(x:yL I a i n ep j h)(k:∀o,h.get? I=some o->h'.get? I=some o):yL I a i n ep j h' :=let⟨o,ho,r⟩:=x;⟨o,k o ho,r⟩
section
variable{prog:Program}{w:World}{A:Around}
end
section
variable{prog:Program}{w:World}{A:Around}{E:Value->Shared->Prop}{s:Shared}
end
end SQ
namespace SQ
open PySem PyProof.Rows
section
variable{prog:Program}{w:World}{A:Around}{E:Value->Shared->Prop}{s:Shared}
end
end SQ
namespace L2
open PySem PySem.Spec PyProof.Rows
noncomputable def maskOf(ns:List Int):Nat:=SQ.Ge (fun i=>(ns.getD i 0).toNat) ns.length 0 0
noncomputable def BV(ns:List Int):List Int:=(SQ.lst (maskOf ns)).map fun v:Nat=>(v:Int)
section
variable{X:Cx}
theorem Inv.ext{pins:List (Addr×Obj)}{σ:St}{H:Hp}{s:Shared}{a:Addr}{φ:Heap->Prop}(I:Inv X pins σ H s)(h:H a=some (.ext φ)):φ s.heap:=(show az X.prog X.w H s.heap a (.ext φ)from I.hok a _ h).1
end
end L2
namespace SW
open PySem.W PyProof.Rows
noncomputable def run{α:Type}(f:Nat->Nat->Bool):KasT α->α
 | .ret a=>a
 | .ask i j k=>run f (k (f i j))
theorem dS{α β:Type}(f:Nat->Nat->Bool)(g:α->KasT β):∀t:KasT α,run f (t.bind g)=run f (g (run f t))
 | .ret _=>rfl
 | .ask i j k=>dS f g (k (f i j))
section
variable(key:Nat->Int)
noncomputable def F:Nat->Nat->Bool:=fun i j=>decide (key i<key j)
noncomputable def K(p:Array Nat)(i:Nat):Int:=key (p.getD i 0)
noncomputable def vF(p:Array Nat)(k:Nat):Prop:=∀i,i+1<k->K key p i<=K key p (i+1)
noncomputable def A2(p:Array Nat)(k:Nat):Prop:=∀i,i+1<k->K key p (i+1)<=K key p i
variable{key}
theorem vF.le{p:Array Nat}{k:Nat}(h:vF key p k):∀(d i:Nat),i+d<k->K key p i<=K key p (i+d)
 | 0,_,_=>Lo _
 | d+1,i,hk=>Int.le_trans (vF.le h d i (by omega)) (h (i+d) (by omega))
theorem vF.mono{p:Array Nat}{k:Nat}(h:vF key p k){i j:Nat}(hij:i<=j)(hj:j<k):K key p i<=K key p j:=by
 have:=h.le (j-i) i (by omega)
 rwa [show i+(j-i)=j by omega]at this
theorem A2.le{p:Array Nat}{k:Nat}(h:A2 key p k):∀(d i:Nat),i+d<k->K key p (i+d)<=K key p i
 | 0,_,_=>Lo _
 | d+1,i,hk=>Int.le_trans (h (i+d) (by omega)) (A2.le h d i (by omega))
theorem A2.mono{p:Array Nat}{k:Nat}(h:A2 key p k){i j:Nat}(hij:i<=j)(hj:j<k):K key p j<=K key p i:=by
 have:=h.le (j-i) i (by omega)
 rwa [show i+(j-i)=j by omega]at this
theorem yK{p:Array Nat}{i j:Nat}(hj:j<=p.size)(x:Nat):K key (kas_rev p i j) x=if i<=x/\x<j then K key p (i+j-1-x)else K key p x:=by
 unfold K kas_rev;rw[Jr,getElem?_mirror_all hj]
 split
 ·rw[Jr]
 ·rw[Jr]
theorem IJ(p:Array Nat):∀k n,n<=run (F key) (kas_asc p k n)/\run (F key) (kas_asc p k n)<=n+k/\(∀i,n<=i->i<run (F key) (kas_asc p k n)->K key p (i-1)<=K key p i) /\
  (run (F key) (kas_asc p k n)<n+k->K key p (run (F key) (kas_asc p k n))<K key p (run (F key) (kas_asc p k n)-1))
 | 0,n=>⟨Io _,Io _,fun i h1 h2=>absurd (show i<n from h2) (by omega),fun h=>absurd (show n<n+0 from h) (by omega)⟩
 | k+1,n=>by
  have e:run (F key) (kas_asc p (k+1) n)=if K key p n<K key p (n-1)then n else run (F key) (kas_asc p k (n+1)):=by
   show run (F key) (if F key (p.getD n 0) (p.getD (n-1) 0)=true then .ret n else kas_asc p k (n+1))=_;unfold F K
   by_cases c:key (p.getD n 0)<key (p.getD (n-1) 0)
   ·rw[Ix (by simpa using c),Ix c]
    rfl
   ·rw[Iq (by simpa using c),Iq c]
  rw[e]
  by_cases c:K key p n<K key p (n-1)
  ·rw[Ix c]
   exact⟨Io _,by omega,fun i h1 h2=>by omega,fun _=>c⟩
  ·rw[Iq c]
   obtain⟨a1,a2,a3,a4⟩:=IJ p k (n+1);refine⟨by omega,by omega,fun i h1 h2=> ?_,fun h=>a4 (by omega)⟩
   rcases Nat.lt_or_ge n i with h|h
   ·exact a3 i h h2
   ·have:i=n:=by omega
    subst this;omega
structure Dn(p:Array Nat)(n q:Nat):Prop where
 one:q+1<=n
 sz:n<=p.size
 fal:A2 key p n
 eqs:∀i,n-(q+1)<=i->i<n->K key p i=K key p (n-1)
theorem gU(p:Array Nat)(i j:Nat):(kas_rev p i j).size=p.size:=mirror_size _ _ _ _
theorem kQ{p:Array Nat}{i j:Nat}(hj:j<=p.size)(h:∀x,i<=x->x<j->K key p x=K key p (j-1))(x:Nat):K key (kas_rev p i j) x=K key p x:=by
 rw[yK hj]
 split
 ·rename_i c
  rw[h (i+j-1-x) (by omega) (by omega),h x c.1 c.2]
 ·rfl
theorem AS:∀(k:Nat)(p:Array Nat)(n q:Nat),Dn (key:=key) p n q->n+k<=p.size ->
  Dn (key:=key) (run (F key) (kas_desc k p n q)).1 (run (F key) (kas_desc k p n q)).2.1 (run (F key) (kas_desc k p n q)).2.2/\(run (F key) (kas_desc k p n q)).1.Perm p/\(run (F key) (kas_desc k p n q)).2.1<=n+k
 | 0,p,n,q,h,_=>⟨h,LW _,Io _⟩
 | k+1,p,n,q,h,hk=>by
  have h1:=h.one;have e:run (F key) (kas_desc (k+1) p n q)=if K key p n<K key p (n-1)then(if q>0 then run (F key) (kas_desc k (kas_rev p (n-(q+1)) n) (n+1) 0)else run (F key) (kas_desc k p (n+1) 0))else if K key p (n-1)<K key p n then(p,n,q)else run (F key) (kas_desc k p (n+1) (q+1)):=by
   show run (F key) (if F key (p.getD n 0) (p.getD (n-1) 0)=true then(if q>0 then kas_desc k (kas_rev p (n-(q+1)) n) (n+1) 0 else kas_desc k p (n+1) 0)else .ask (p.getD (n-1) 0) (p.getD n 0) fun d=>if d=true then .ret (p,n,q)else kas_desc k p (n+1) (q+1))=_
   by_cases c:K key p n<K key p (n-1)
   ·rw[Ix (show F key (p.getD n 0) (p.getD (n-1) 0)=true by simpa [F,K]using c),Ix c]
    split<;>rfl
   ·rw[Iq (show¬F key (p.getD n 0) (p.getD (n-1) 0)=true by simpa [F,K]using c),Iq c]
    show run (F key) (if F key (p.getD (n-1) 0) (p.getD n 0)=true then .ret (p,n,q)else kas_desc k p (n+1) (q+1))=_
    by_cases d:K key p (n-1)<K key p n
    ·rw[Ix (show F key (p.getD (n-1) 0) (p.getD n 0)=true by simpa [F,K]using d),Ix d]
     rfl
    ·rw[Iq (show¬F key (p.getD (n-1) 0) (p.getD n 0)=true by simpa [F,K]using d),Iq d]
  have longer:∀p' :Array Nat,p'.size=p.size->(∀x,K key p' x=K key p x)->K key p n<=K key p (n-1)->A2 key p' (n+1):=fun p' z kk c i hi=>by
   rw[kk,kk]
   rcases Nat.lt_or_ge (i+1) n with y|y
   ·exact h.fal i y
   ·have:i=n-1:=by omega
    subst this;rw[show n-1+1=n by omega];exact c
  have new:∀p' :Array Nat,p'.size=p.size->(∀x,K key p' x=K key p x)->K key p n<=K key p (n-1)->Dn (key:=key) p' (n+1) 0:=fun p' z kk c =>
   ⟨by omega,by omega,longer p' z kk c,fun i i1 i2=>by
    have:i=n+1-1:=by omega
    rw[this]⟩
  rw[e]
  by_cases c:K key p n<K key p (n-1)
  ·rw[Ix c]
   by_cases hq:q>0
   ·rw[Ix hq]
    have kk:=kQ (key:=key) (i:=n-(q+1)) h.sz h.eqs;obtain⟨a1,a2,a3⟩:=AS k (kas_rev p (n-(q+1)) n) (n+1) 0 (new _ (gU _ _ _) kk (by omega)) (by rw[gU];omega);exact⟨a1,a2.trans (LI _ _ _ _),by omega⟩
   ·rw[Iq hq]
    obtain⟨a1,a2,a3⟩:=AS k p (n+1) 0 (new p rfl (fun _=>rfl) (by omega)) (by omega);exact⟨a1,a2,by omega⟩
  ·rw[Iq c]
   by_cases d:K key p (n-1)<K key p n
   ·rw[Ix d]
    exact⟨h,LW _,by dsimp only;omega⟩
   ·rw[Iq d]
    obtain⟨a1,a2,a3⟩:=AS k p (n+1) (q+1) ⟨by omega,by omega,longer p rfl (fun _=>rfl) (by omega),fun i i1 i2=>by
     have z:K key p n=K key p (n-1):=by omega
     rw[show n+1-1=n by omega,z]
     rcases Nat.lt_or_ge i n with y|y
     ·exact h.eqs i (by omega) y
     ·have:i=n:=by omega
      rw[this,z]⟩ (by omega)
    exact⟨a1,a2,by omega⟩
noncomputable def Good(p:Array Nat)(nrem:Nat)(r:Nat×Array Nat):Prop:=1<=r.1/\r.1<=nrem/\vF key r.2 r.1/\r.2.Perm p
theorem tail3{p:Array Nat}{n nrem:Nat}(h1:1<=n)(hn:n<=nrem)(hz:nrem<=p.size)(hf:A2 key p n):Good (key:=key) p nrem (run (F key) (kas_tail3 n nrem p)):=by
 unfold kas_tail3;rw[dS];obtain⟨a1,a2,a3,-⟩:=IJ (key:=key) (kas_rev p 0 n) (nrem-n) n;refine⟨by show 1<=run (F key) (kas_asc (kas_rev p 0 n) (nrem-n) n);omega,by show run (F key) (kas_asc (kas_rev p 0 n) (nrem-n) n)<=nrem;omega,fun i hi=> ?_,LI _ _ _ _⟩;show K key (kas_rev p 0 n) i<=K key (kas_rev p 0 n) (i+1);have hi:i+1<run (F key) (kas_asc (kas_rev p 0 n) (nrem-n) n):=hi
 rcases Nat.lt_or_ge (i+1) n with y|y
 ·rw[yK (by omega),yK (by omega),Ix (by omega),Ix (by omega)]
  exact hf.mono (by omega) (by omega)
 ·have:=a3 (i+1) y hi
  rwa [show i+1-1=i by omega]at this
theorem descPart{p:Array Nat}{n nrem:Nat}(h1:1<=n)(hn:n+1<=nrem)(hz:nrem<=p.size)(hf:A2 key p (n+1)):Good (key:=key) p nrem (run (F key) (kas_descPart n nrem p)):=by
 unfold kas_descPart;rw[dS];obtain⟨d,pm,le⟩:=AS (key:=key) (nrem-(n+1)) p (n+1) 0 ⟨by omega,by omega,hf,fun i i1 i2=>by
  have:i=n+1-1:=by omega
  rw[this]⟩ (by omega)
 generalize run (F key) (kas_desc (nrem-(n+1)) p (n+1) 0)=r at d pm le
 obtain⟨p',n',q'⟩:=r;dsimp only at d pm le ⊢;have h1' :=d.one;have hz' :p'.size=p.size:=pm.size_eq
 split
 ·have kk:=kQ (key:=key) (i:=n' -(q' +1)) d.sz d.eqs
  obtain⟨b1,b2,b3,b4⟩:=tail3 (key:=key) (p:=kas_rev p' (n' -(q' +1)) n') (n:=n') (nrem:=nrem) (by omega) (by omega) (by rw[gU];omega) (fun i hi=>by rw[kk,kk];exact d.fal i hi);exact⟨b1,b2,b3,(b4.trans (LI _ _ _ _)).trans pm⟩
 ·obtain⟨b1,b2,b3,b4⟩:=tail3 (key:=key) (p:=p') (n:=n') (nrem:=nrem) (by omega) (by omega) (by omega) d.fal
  exact⟨b1,b2,b3,b4.trans pm⟩
theorem count{p:Array Nat}{nrem:Nat}(h1:1<=nrem)(hz:nrem<=p.size):Good (key:=key) p nrem (run (F key) (kas_count nrem p)):=by
 unfold kas_count;rw[dS];obtain⟨a1,a2,a3,a4⟩:=IJ (key:=key) p (nrem-1) 1
 generalize run (F key) (kas_asc p (nrem-1) 1)=n at a1 a2 a3 a4
 have srt:vF key p n:=fun i hi=>by
  have:=a3 (i+1) (by omega) hi
  rwa [show i+1-1=i by omega]at this
 by_cases e:n=nrem
 ·rw[Ix (by simpa using e)]
  exact⟨a1,by show n<=nrem;omega,srt,LW _⟩
 ·rw[Iq (by simpa using e)]
  have lt:=a4 (by omega)
  by_cases h:n>1
  ·rw[Ix h]
   show Good p nrem (run (F key) (if F key (p.getD 0 0) (p.getD (n-1) 0)=true then .ret (n,p)else kas_descPart n nrem (kas_rev p 0 n)))
   by_cases c:K key p 0<K key p (n-1)
   ·rw[Ix (show F key (p.getD 0 0) (p.getD (n-1) 0)=true by simpa [F,K]using c)]
    exact⟨a1,by show n<=nrem;omega,srt,LW _⟩
   ·rw[Iq (show¬F key (p.getD 0 0) (p.getD (n-1) 0)=true by simpa [F,K]using c)]
    have alike:∀x,0<=x->x<n->K key p x=K key p (n-1):=fun x _ hx=>by
     have y1:=srt.mono (show 0<=x by omega) hx;have y2:=srt.mono (show x<=n-1 by omega) (by omega);omega
    have kk:=kQ (key:=key) (i:=0) (j:=n) (by omega) alike;obtain⟨b1,b2,b3,b4⟩:=descPart (key:=key) (p:=kas_rev p 0 n) (n:=n) (nrem:=nrem) a1 (by omega) (by rw[gU];omega) (fun i hi=>by
     rw[kk,kk]
     rcases Nat.lt_or_ge (i+1) n with y|y
     ·rw[alike (i+1) (by omega) y,alike i (by omega) (by omega)]
      exact Lo _
     ·have:i=n-1:=by omega
      subst this;rw[show n-1+1=n by omega];omega)
    exact⟨b1,b2,b3,b4.trans (LI _ _ _ _)⟩
  ·rw[Iq h]
   have:n=1:=by omega
   subst this;exact descPart (key:=key) (by omega) (by omega) hz (fun i hi=>by
    have:i=0:=by omega
    subst this;have lt:K key p (0+1)<K key p 0:=lt;exact Int.le_of_lt lt)
theorem place{p:Array Nat}{n:Nat}(hs:vF key p n):∀(k l r:Nat),l<=r->r<=n->r-l<=k->(∀i,i<l->K key p i<=K key p n)->(∀i,r<=i->i<n->K key p n<K key p i) ->
  run (F key) (kas_place p n k l r)<=n/\(∀i,i<run (F key) (kas_place p n k l r)->K key p i<=K key p n)/\∀i,run (F key) (kas_place p n k l r)<=i->i<n->K key p n<K key p i
 | 0,l,r,lr,rn,hk,h1,h2=>by
  have:l=r:=by omega
  subst this;exact⟨rn,h1,h2⟩
 | k+1,l,r,lr,rn,hk,h1,h2=>by
  unfold kas_place
  by_cases e:l ≥ r
  ·have:l=r:=by omega
   subst this;rw[Ix e];exact⟨rn,h1,h2⟩
  ·rw[Iq e]
   have hm:(l+r)/2<r:=by omega
   have hm2:l<=(l+r)/2:=by omega
   show run (F key) (if F key (p.getD n 0) (p.getD ((l+r)/2) 0)=true then kas_place p n k l ((l+r)/2)else kas_place p n k ((l+r)/2+1) r)<=n/\_;show(fun t=>run (F key) t<=n/\(∀i,i<run (F key) t->K key p i<=K key p n)/\∀i,run (F key) t<=i->i<n->K key p n<K key p i) (if F key (p.getD n 0) (p.getD ((l+r)/2) 0)=true then kas_place p n k l ((l+r)/2)else kas_place p n k ((l+r)/2+1) r)
   by_cases c:K key p n<K key p ((l+r)/2)
   ·rw[Ix (show F key (p.getD n 0) (p.getD ((l+r)/2) 0)=true by simpa [F,K]using c)]
    refine place hs k l ((l+r)/2) hm2 (by omega) (by omega) h1 fun i i1 i2=> ?_;exact Int.lt_of_lt_of_le c (hs.mono i1 i2)
   ·rw[Iq (show¬F key (p.getD n 0) (p.getD ((l+r)/2) 0)=true by simpa [F,K]using c)]
    refine place hs k ((l+r)/2+1) r (by omega) rn (by omega) (fun i hi=> ?_) h2;exact Int.le_trans (hs.mono (show i<=(l+r)/2 by omega) (by omega)) (by omega)
theorem IZ{p:Array Nat}{n L:Nat}(hn:n<p.size)(hL:L<=n)(x:Nat):K key (bubble p n (n-L)) x=if x=L then K key p n else if L<x/\x<=n then K key p (x-1)else K key p x:=by
 unfold K;rw[Jr,getElem?_bubble hn _ (by omega),show n-(n-L)=L by omega];rw[Jr (i:=n),Jr (i:=x-1),Jr (i:=x)]
 split
 ·rfl
 ·split
  ·rfl
  ·rfl
theorem bin:∀(k:Nat)(p:Array Nat)(n:Nat),n+k<=p.size->vF key p n->vF key (run (F key) (kas_bin k p n)) (n+k)/\(run (F key) (kas_bin k p n)).Perm p
 | 0,p,n,_,h=>⟨h,LW _⟩
 | k+1,p,n,hk,h=>by
  unfold kas_bin;rw[dS];obtain⟨b1,b2,b3⟩:=place (key:=key) h n 0 n (by omega) (by omega) (by omega) (fun i hi=>by omega) (fun i i1 i2=>by omega)
  generalize run (F key) (kas_place p n n 0 n)=L at b1 b2 b3
  have kb:=IZ (key:=key) (p:=p) (n:=n) (L:=L) (by omega) b1;have hs:vF key (bubble p n (n-L)) (n+1):=fun i hi=>by
   rw[kb,kb]
   by_cases e1:i=L
   ·rw[Ix e1,Iq (by omega),Ix (by omega)]
    have:=b3 (i+1-1) (by omega) (by omega);omega
   ·rw[Iq e1]
    by_cases e2:i+1=L
    ·rw[Ix e2,Iq (by omega)]
     exact b2 i (by omega)
    ·rw[Iq e2]
     by_cases e3:L<i/\i<=n
     ·rw[Ix e3,Ix (by omega)]
      exact h.mono (by omega) (by omega)
     ·rw[Iq e3,Iq (by omega)]
      exact h.mono (by omega) (by omega)
  obtain⟨c1,c2⟩:=bin k (bubble p n (n-L)) (n+1) (by rw[bubble_size];omega) hs;exact⟨by rw[show n+(k+1)=n+1+k by omega];exact c1,c2.trans (bubble_perm _ _ _)⟩
theorem sort{n:Nat}(h:1<=n):(run (F key) (kas_sort n)).toList.Perm (List.range n)/\((run (F key) (kas_sort n)).toList.map key).Pairwise (·<=·):=by
 have core:(run (F key) (kas_sort n)).Perm (List.toArray (List.range n))/\vF key (run (F key) (kas_sort n)) n:=by
  unfold kas_sort;rw[dS];obtain⟨a1,a2,a3,a4⟩:=count (key:=key) (p:=List.toArray (List.range n)) h (by simp)
  generalize run (F key) (kas_count n (List.toArray (List.range n)))=r at a1 a2 a3 a4
  have hz:r.2.size=n:=by rw[a4.size_eq];simp
  split
  ·have:max r.1 1=r.1:=by omega
   rw[this];obtain⟨b1,b2⟩:=bin (key:=key) (n-r.1) r.2 r.1 (by omega) a3;exact⟨b2.trans a4,by rw[show n=r.1+(n-r.1)by omega];rw[show r.1+(n-r.1)-r.1=n-r.1 by omega];exact b1⟩
  ·have:r.1=n:=by omega
   exact⟨a4,by rw[<- this];exact a3⟩
 obtain⟨c1,c2⟩:=core;have pm:=Array.perm_iff_toList_perm.mp c1;refine⟨by simpa using pm,?_⟩
 generalize run (F key) (kas_sort n)=p at c1 c2 pm
 have hl:p.toList.length=n:=by rw[pm.length_eq];simp
 rw[KZ];intro i j hi hj hij;rw[Ik]at hi hj;rw[List.getElem_map,List.getElem_map];have:=c2.mono (show i<=j by omega) (by omega);unfold K at this;rw[Jd]at hi hj
 simpa [Array.getD,hi,hj]using this
end
end SW
namespace SW
open PySem PySem.W PyProof.Rows
noncomputable def Ok{α:Type}(n:Nat)(P:α->Prop):KasT α->Prop
 | .ret a=>P a
 | .ask i j k=>i<n/\j<n/\∀b,Ok n P (k b)
theorem Ok.bind{α β:Type}{n:Nat}{P:α->Prop}{R:β->Prop}{g:α->KasT β}(hg:∀a,P a->Ok n R (g a)):∀{t:KasT α},Ok n P t->Ok n R (t.bind g)
 | .ret a,h=>hg a h
 | .ask i j k,h=>⟨h.1,h.2.1,fun b=>Ok.bind hg (h.2.2 b)⟩
theorem Ok.wp{α:Type}{n:Nat}{P:α->Prop}{cmp:Nat->Nat->(Bool->Shared->Prop)->Shared->Prop}{f:Nat->Nat->Bool}{Q:α->Shared->Prop}{s:Shared}(hc:∀i j C,i<n->j<n->C (f i j) s->cmp i j C s) :
  ∀{t:KasT α},Ok n P t->Q (run f t) s->t.kasWp cmp Q s
 | .ret a,_,h=>h
 | .ask i j k,o,h=>hc i j _ o.1 o.2.1 (Ok.wp hc (o.2.2 _) h)
noncomputable def B(n:Nat)(p:Array Nat):Prop:=∀x,p.getD x 0<n
theorem B.perm{n:Nat}{p p' :Array Nat}(hn:0<n)(h:B n p)(pm:p'.Perm p):B n p' :=fun x=>by
 by_cases hx:x<p'.size
 ·have e:p'.getD x 0=p'[x]:=by simp[Array.getD,hx]
  have hm:p'[x]∈p'.toList:=Array.getElem_mem_toList hx;have hm:=(Array.perm_iff_toList_perm.mp pm).mem_iff.mp hm;obtain⟨i,hi,z⟩:=List.getElem_of_mem hm;have:=h i;rw[Jd]at hi;rw[e,<-z]
  simpa [Array.getD,hi]using this
 ·have e:p'.getD x 0=0:=by simp[Array.getD,hx]
  rw[e];exact hn
section
variable{n:Nat}(hn:0<n)
include hn
theorem qV{p:Array Nat}(h:B n p):∀k m,Ok n (fun _=>True) (kas_asc p k m)
 | 0,_=>trivial
 | k+1,m=>⟨h _,h _,fun b=>by cases b<;>first|exact trivial|exact qV h k (m+1)⟩
theorem i9:∀(k:Nat)(p:Array Nat)(m q:Nat),B n p->Ok n (fun r=>B n r.1) (kas_desc k p m q)
 | 0,p,_,_,h=>h
 | k+1,p,m,q,h=>⟨h _,h _,fun b=>by
  cases b with
  | true =>
   show Ok n _ (if q>0 then kas_desc k (kas_rev p (m-(q+1)) m) (m+1) 0 else kas_desc k p (m+1) 0)
   split
   ·exact i9 k _ _ _ (h.perm hn (LI _ _ _ _))
   ·exact i9 k _ _ _ h
  | false=>exact⟨h _,h _,fun b=>by
    cases b
    ·exact i9 k p (m+1) (q+1) h
    ·exact h⟩⟩
theorem oY{p:Array Nat}{m r:Nat}(h:B n p):Ok n (fun r=>B n r.2) (kas_tail3 m r p):=by
 unfold kas_tail3;refine Ok.bind (P:=fun _=>True) (fun _ _=> ?_) (qV hn (h.perm hn (LI _ _ _ _)) _ _);exact h.perm hn (LI _ _ _ _)
theorem ib{p:Array Nat}{m r:Nat}(h:B n p):Ok n (fun r=>B n r.2) (kas_descPart m r p):=by
 unfold kas_descPart;refine Ok.bind (P:=fun r=>B n r.1) (fun a ha=> ?_) (i9 hn _ _ _ _ h)
 split
 ·exact oY hn (ha.perm hn (LI _ _ _ _))
 ·exact oY hn ha
theorem wV{p:Array Nat}{r:Nat}(h:B n p):Ok n (fun r=>B n r.2) (kas_count r p):=by
 unfold kas_count;refine Ok.bind (P:=fun _=>True) (fun a _=> ?_) (qV hn h _ _)
 split
 ·exact h
 ·split
  ·exact⟨h _,h _,fun b=>by
    cases b
    ·exact ib hn (h.perm hn (LI _ _ _ _))
    ·exact h⟩
  ·exact ib hn h
theorem jq{p:Array Nat}{m:Nat}(h:B n p):∀k l r,Ok n (fun _=>True) (kas_place p m k l r)
 | 0,_,_=>trivial
 | k+1,l,r=>by
  unfold kas_place
  split
  ·exact trivial
  ·exact⟨h _,h _,fun b=>by
    cases b
    ·exact jq h k _ _
    ·exact jq h k _ _⟩
theorem wW:∀(k:Nat)(p:Array Nat)(m:Nat),B n p->Ok n (fun p=>B n p) (kas_bin k p m)
 | 0,_,_,h=>h
 | k+1,p,m,h=>Ok.bind (fun l _=>wW k _ _ (h.perm hn (bubble_perm _ _ _))) (jq hn h _ _ _)
theorem zX:Ok n (fun p=>B n p) (kas_sort n):=by
 have h0:B n (List.toArray (List.range n)):=fun x=>by
  by_cases hx:x<n
  ·have:(List.toArray (List.range n)).getD x 0=x:=by simp[Array.getD,hx]
   omega
  ·have:(List.toArray (List.range n)).getD x 0=0:=by simp[Array.getD,hx]
   omega
 unfold kas_sort;refine Ok.bind (P:=fun r=>B n r.2) (fun r hr=> ?_) (wV hn h0)
 split
 ·exact wW hn _ _ _ hr
 ·exact hr
end
section
variable{prog:Program}{w:World}{A:Around}{E:Value->Shared->Prop}{s:Shared}
noncomputable def sN(key:Nat->Int)(vs:List Value):List Value:=(run (F key) (kas_sort vs.length)).toList.map fun i=>vs.getD i Value.none
theorem zP{key:Nat->Int}{vs:List Value}(h:1<=vs.length):(sN key vs).length=vs.length:=by
 unfold sN;rw[Ik,(sort (key:=key) h).1.length_eq,JU]
theorem zm{a:Addr}{vs:List Value}{n:Nat}{κ:SortKind}{key:Nat->Int}{P:PySem.Fin->Shared->Prop}(ho:s.heap.get? a=some (seqObj "list" vs.toArray n))(h2:2<=vs.length)(h64:vs.length<64)
  (hk:∀(s1:Shared)(Q:SortKind->Shared->Prop),(∀b o,b≠a->s.heap.get? b=some o->s1.heap.get? b=some o)->Q κ s1->wpAny (model prog w) A (keyKind' vs.toArray) Q E s1)
  (hc:∀(s1:Shared) i j C,(∀b o,b≠a->s.heap.get? b=some o->s1.heap.get? b=some o)->i<vs.length->j<vs.length->C (F key i j) s1->kas_ask prog w A κ vs i j C s1)
  (h:P (.done (.ret .none)) {s with heap:=sortedHeap s.heap a vs (sN key vs).toArray}) :
  wpAny (model prog w) A (Builtin.«list.sort» ⟨[.ref a],[]⟩) P E s:=by
 have ha:a<s.heap.objs.size:=Iz ho;rw[list_sort_plain];refine Ij (listItems_at ho rfl (Ij (listUpdate_at ho rfl ?_ (by rw[I0,J6];omega) (JR _))));obtain⟨e1,g1⟩:∃e1,(s.heap.update a (Obj.mapSeq fun _=>(#[]:Array Value))).get? a=some (seqObj "list" #[] e1):=⟨_,get?_update_seq ho fun _=> #[]⟩;refine Ij (seqEpoch_at g1 rfl (Ij (wpAny_newTuple ?_ (by show vs.length<=_;rw[J6];omega))));refine Ij (wpAny_newList ?_ (JR _));refine LA ?_;have g2:(((s.heap.update a (Obj.mapSeq fun _=>(#[]:Array Value))).push (seqObj "tuple" vs.toArray 0)).push (seqObj "list" #[] 0)).get? a=some (seqObj "list" #[] e1):=Il _ (Il _ g1)
 have old:∀b o,b≠a->s.heap.get? b=some o->(((s.heap.update a (Obj.mapSeq fun _=>(#[]:Array Value))).push (seqObj "tuple" vs.toArray 0)).push (seqObj "list" #[] 0)).get? b=some o:=fun b o nb e =>
  Il _ (Il _ (by rw[Jh _ _ (KW nb)];exact e))
 show wpAny (model prog w) A _ P E {s with heap:=((s.heap.update a (Obj.mapSeq fun _=>(#[]:Array Value))).push (seqObj "tuple" vs.toArray 0)).push (seqObj "list" #[] 0)};dsimp only;have n2:¬vs.toArray.size<2:=by rw[I0];omega
 rw[Iq n2,Iq n2];refine Ij (hk _ _ old ?_)
 refine Ij (Kb (kat_run (Q:=fun st' s' =>∃p:Array Nat,p=run (F key) (kas_sort vs.length)/\s' ={s with heap:=((s.heap.update a (Obj.mapSeq fun _=>(#[]:Array Value))).push (seqObj "tuple" vs.toArray 0)).push (seqObj "list" #[] 0)}/\arrOf st' =p.map (kas_item (vs.toArray.zip vs.toArray))/\failedOf st' =none)
  (G:=fun p s' =>p=run (F key) (kas_sort vs.length)/\s' ={s with heap:=((s.heap.update a (Obj.mapSeq fun _=>(#[]:Array Value))).push (seqObj "tuple" vs.toArray 0)).push (seqObj "list" #[] 0)})
  rfl h2 h64 (fun p' st' s' _ a2 a3 a4=>⟨p',a4.1,a4.2,a2,a3⟩) ((zX (by omega)).wp (fun i j C hi hj q=>hc _ i j C old hi hj q) ⟨rfl,rfl⟩)) ?_ fun _ _ e=>e)
 rintro⟨⟨⟩,st'⟩ s' ⟨p,rfl,rfl,har,hf⟩;dsimp only;have hout:(arrOf st').map (·.2)=(sN key vs).toArray:=kat_snds rfl har;rw[hout];refine Ij (seqEpoch_at g2 rfl ?_);refine Ij (listUpdate_at g2 rfl ?_ (JR _) (by rw[I0,zP (by omega),J6];omega));rw[hf];simp only[bne_self_eq_false,Bool.false_eq_true,if_false];exact JB h
end
end SW
set_option maxHeartbeats 400000
namespace SW
open PySem PySem.W PyProof.Rows
noncomputable def dM(h:Heap)(v:Value)(q:Int×Int):Prop:=∃a t u,v=.ref a/\IsTup h a #[.int q.1 t,.int q.2 u]
theorem dM.keep{h h' :Heap}{v:Value}{q:Int×Int}(x:dM h v q)(k:∀b o,h.get? b=some o->h'.get? b=some o):dM h' v q:=by
 obtain⟨a,t,u,e,z⟩:=x;exact⟨a,t,u,e,z.keeps k⟩
noncomputable def cJ(q:Int×Int):Int:=1000*q.1+q.2
section
variable{prog:Program}{w:World}{A:Around}{E:Value->Shared->Prop}{s:Shared}
theorem zk{x y:Value}{p q:Int×Int}{C:Bool->Shared->Prop}(hx:dM s.heap x p)(hy:dM s.heap y q)(bp:0<=p.2/\p.2<1000)(bq:0<=q.2/\q.2<1000)(h:C (decide (cJ p<cJ q)) s):wpAny (model prog w) A (keyLt' (tuples' true) x y) C E s:=by
 obtain⟨a,t,u,rfl,o,ho,-,n,hd⟩:=hx;obtain⟨b,t',u',rfl,o',ho',-,n',hd'⟩:=hy;refine kat_lt ho hd ho' hd' ?_;unfold cJ at h;refine kat_cons (wpAny_eqBool_int (kat_go (fun e=>kat_yes (kat_cons (wpAny_eqBool_int (kat_go (fun e2=>kat_yes (kat_nil ?_)) fun e2=>kat_no (kat_one _ _ (lt_int ?_)))))) fun e=>kat_no (oneLt_int ?_)))
 ·have e:=beq_iff_eq.mp e
  have e2:=beq_iff_eq.mp e2;rw[show decide (1000*p.1+p.2<1000*q.1+q.2)=false from JK (by omega)]at h;exact h
 ·have e:=beq_iff_eq.mp e
  show C (decide (p.2<q.2)) s;rw[show decide (1000*p.1+p.2<1000*q.1+q.2)=decide (p.2<q.2)from Ky.mpr (by omega)]at h;exact h
 ·have e:p.1≠q.1:=fun z=>by rw[z]at e;simp at e
  rw[show decide (1000*p.1+p.2<1000*q.1+q.2)=decide (p.1<q.1)from Ky.mpr (by omega)]at h;exact h
theorem qZ{vs:List Value}{ps:List (Int×Int)}{Q:SortKind->Shared->Prop}(h1:1<=vs.length)(hp:Paired (dM s.heap) vs ps)(h:Q (tuples' true) s):wpAny (model prog w) A (keyKind' vs.toArray) Q E s:=by
 obtain⟨fs,hf,hl,hi⟩:∃fs,KatTups s.heap vs fs/\fs.length=vs.length/\∀v∈fs,∃i t,v=.int i t:=by
  clear h1 h
  induction hp with
  | nil=>exact⟨[],.nil,rfl,fun v hv=>by cases hv⟩
  | cons r _ ih =>
   obtain⟨fs,a1,a2,a3⟩:=ih;obtain⟨a,t,u,rfl,o,ho,hc,n,hd⟩:=r;refine⟨_,KatTups.cons ho hc hd rfl a1,by simp[a2],fun v hv=> ?_⟩
   rcases JD.mp hv with z|z
   ·exact⟨_,_,z⟩
   ·exact a3 v z
 refine kat_kind (T:=.type "int") hf (by omega) (fun v hv=> ?_) (by decide) h;obtain⟨i,t,rfl⟩:=hi v hv;exact .now
theorem t6:∀{vs:List Value},vs.length<2->(vs.toArray.zip vs.toArray).map (·.2)=vs.toArray
 | [],_=>by simp
 | [_],_=>by simp
 | _::_::_,h=>absurd h (by simp)
theorem qI:∀{vs:List Value},vs.length<2->(List.range vs.length).map (fun i=>vs.getD i Value.none)=vs
 | [],_=>rfl
 | [_],_=>rfl
 | _::_::_,h=>absurd h (by simp)
theorem vo{f:Nat->Int}:∀{n:Nat},n<2->((List.range n).map f).Pairwise (·<=·)
 | 0,_=>.nil
 | 1,_=>by show([f 0]:List Int).Pairwise (·<=·);exact K7 _ _
 | _+2,h=>absurd h (by omega)
theorem om{a:Addr}{vs:List Value}{n:Nat}{P:PySem.Fin->Shared->Prop}(ho:s.heap.get? a=some (seqObj "list" vs.toArray n))(h2:vs.length<2)
  (h:P (.done (.ret .none)) {s with heap:=sortedHeap s.heap a vs vs.toArray}):wpAny (model prog w) A (Builtin.«list.sort» ⟨[.ref a],[]⟩) P E s:=by
 rw[list_sort_plain];refine Ij (listItems_at ho rfl (Ij (listUpdate_at ho rfl ?_ (by rw[I0,J6];omega) (JR _))));obtain⟨e1,g1⟩:∃e1,(s.heap.update a (Obj.mapSeq fun _=>(#[]:Array Value))).get? a=some (seqObj "list" #[] e1):=⟨_,get?_update_seq ho fun _=> #[]⟩;refine Ij (seqEpoch_at g1 rfl (Ij (wpAny_newTuple ?_ (by show vs.length<=_;rw[J6];omega))));refine Ij (wpAny_newList ?_ (JR _));refine LA ?_;have g2:(((s.heap.update a (Obj.mapSeq fun _=>(#[]:Array Value))).push (seqObj "tuple" vs.toArray 0)).push (seqObj "list" #[] 0)).get? a=some (seqObj "list" #[] e1):=Il _ (Il _ g1);show wpAny (model prog w) A _ P E {s with heap:=((s.heap.update a (Obj.mapSeq fun _=>(#[]:Array Value))).push (seqObj "tuple" vs.toArray 0)).push (seqObj "list" #[] 0)};dsimp only;have n2:vs.toArray.size<2:=by rw[I0];exact h2
 rw[Ix n2,Ix n2];refine Ij (JB ?_);rw[StateT.run_pure];refine Ij (JB ?_);dsimp only;have hout:(arrOf (SortSt.mk' general' (vs.toArray.zip vs.toArray) #[] 7 none)).map (·.2)=vs.toArray:=by
  exact t6 h2
 rw[hout];refine Ij (seqEpoch_at g2 rfl ?_);refine Ij (listUpdate_at g2 rfl ?_ (JR _) (by rw[I0,J6];omega));simp only[bne_self_eq_false,Bool.false_eq_true,if_false];exact JB h
theorem iE{F:Value->Int×Int->Prop}:∀{vs:List Value}{ps:List (Int×Int)},Paired F vs ps->∀i,i<vs.length->F (vs.getD i Value.none) (ps.getD i (0,0))/\ps.getD i (0,0)∈ps
 | _,_,.cons r _,0,_=>⟨r,Ip⟩
 | _,_,.cons _ t,i+1,h=>by
  have:=iE t i (by simpa using h);exact⟨this.1,Im _ this.2⟩
theorem mi{l:Addr}{vs:List Value}{ps:List (Int×Int)}{Q:Value->Shared->Prop}(hl:s.heap.IsList l vs.toArray)(hp:Paired (dM s.heap) vs ps)(hb:∀q∈ps,0<=q.2/\q.2<1000)(h64:vs.length<64)
  (h:∀js:List Nat,js.Perm (List.range vs.length)->(js.map fun i=>cJ (ps.getD i (0,0))).Pairwise (·<=·)->Q (.ref (s.heap.objs.size+1)) {s with heap:=sortedAll s.heap vs (js.map fun i=>vs.getD i Value.none).toArray}) :
  wpAny (model prog w) A (call (.builtin "sorted") [.ref l]) Q E s:=by
 refine Calls.call_function_entry kind_sorted plain_sorted entry_sorted (args_sorted1 _) ?_;unfold Builtin.«sorted»;refine Ij (m:=checkCount "sorted" 1 1 _) (JB ?_);refine Ij (collect_list hl ?_ (by rw[J6];omega));refine Ij (wpAny_newList ?_ (by rw[J6];omega));have hsz:((s.heap.push (seqObj "list" #[] 0)).update s.heap.objs.size (Obj.mapSeq (·++vs.toArray))).objs.size=s.heap.objs.size+1:=by rw[Heap.size_update,size_push']
 have hoL:(((s.heap.push (seqObj "list" #[] 0)).update s.heap.objs.size (Obj.mapSeq (·++vs.toArray))).push (seqObj "list" vs.toArray 0)).get? (s.heap.objs.size+1)=some (seqObj "list" vs.toArray 0):=by
  rw[<- hsz];exact JC _ rfl
 have keep:∀b o,s.heap.get? b=some o->(((s.heap.push (seqObj "list" #[] 0)).update s.heap.objs.size (Obj.mapSeq (·++vs.toArray))).push (seqObj "list" vs.toArray 0)).get? b=some o:=fun b o e=>by
  have lt:b<s.heap.objs.size:=Iz e;refine Il _ ?_;rw[Jh _ _ (KM lt)];exact Il _ e
 show wpAny _ _ _ _ _ {s with heap:=((s.heap.push (seqObj "list" #[] 0)).update s.heap.objs.size (Obj.mapSeq (·++vs.toArray))).push (seqObj "list" vs.toArray 0)};rw[hsz]
 by_cases h2:vs.length<2
 ·refine Ij (LA (Js slot_list_sort ⟨_,hoL,rfl⟩ entry_list_sort (om hoL h2 ⟨_,rfl,?_⟩) (args_list_sort _)))
  have q:=h (List.range vs.length) (List.Perm.refl _) (vo h2);rw[qI h2]at q;exact JB ⟨_,rfl,q⟩
 ·have hp2:∀s1:Shared,(∀b o,b≠s.heap.objs.size+1->(((s.heap.push (seqObj "list" #[] 0)).update s.heap.objs.size (Obj.mapSeq (·++vs.toArray))).push (seqObj "list" vs.toArray 0)).get? b=some o->s1.heap.get? b=some o)->∀{v:Value}{q:Int×Int},dM s.heap v q->dM s1.heap v q:=fun s1 k v q x =>
   x.keep fun b o e=>k b o (JM (KH (Iz e))) (keep b o e)
  refine Ij (LA (Js slot_list_sort ⟨_,hoL,rfl⟩ entry_list_sort (zm (κ:=tuples' true) (key:=fun i=>cJ (ps.getD i (0,0))) hoL (by omega) h64 (fun s1 Q1 k q1=> ?_) (fun s1 i j C k hi hj c=> ?_) ⟨_,rfl,?_⟩) (args_list_sort _)))
  ·exact qZ (ps:=ps) (by omega) (L2.Paired.mapP hp fun _ _ x=>hp2 s1 k x) q1
  ·obtain⟨x1,m1⟩:=iE hp i hi
   obtain⟨x2,m2⟩:=iE hp j hj;exact zk (hp2 s1 k x1) (hp2 s1 k x2) (hb _ m1) (hb _ m2) c
  ·obtain⟨z1,z2⟩:=sort (key:=fun i=>cJ (ps.getD i (0,0))) (n:=vs.length) (by omega)
   exact JB ⟨_,rfl,h _ z1 z2⟩
end
end SW
namespace L2
open PySem PySem.Spec PyProof.Rows
inductive Ek(K:W.Frag)(H:Hp):List V->List (Int×Int)->Prop
 | nil:Ek K H [] []
 | cons {a:Addr} {q:Int×Int} {us:List V} {ps:List (Int×Int)} (h:bw K H a [.int q.1,.int q.2]) (t:Ek K H us ps):Ek K H (.ref a::us) (q::ps)
theorem Ek.len{K:W.Frag}{H:Hp}{us:List V}{ps:List (Int×Int)}(h:Ek K H us ps):us.length=ps.length:=by
 induction h with
 | nil=>rfl
 | cons _ _ ih=>simp[ih]
theorem aQ.pick{us:List V}{vs:List Value}(r:aQ us vs):∀{js:List Nat},(∀j∈js,j<us.length)->aQ (js.map fun i=>us.getD i .non) (js.map fun i=>vs.getD i Value.none)
 | [],_=>.nil
 | j::js,h=>by
  have hj:=h j Ip;obtain⟨v,hv,rv⟩:=r.get (i:=j) (x:=us[j]) (Iv hj);refine .cons ?_ (aQ.pick r fun i hi=>h i (Im _ hi));dsimp only;rw[JG,Iv hj,JG,hv];exact rv
section
variable{X:Cx}
theorem gq:bR X (.builtin "sorted") (fun xs H Q=>∃(p:Addr)(us:List V)(ps:List (Int×Int)),xs=[.ref p]/\bN X.K H p us/\Ek X.K H us ps/\us.length<64/\(∀q∈ps,0<=q.2/\q.2<1000) /\
  ∀a (js:List Nat),H a=none->js.Perm (List.range us.length)->(js.map fun i=>SW.cJ (ps.getD i (0,0))).Pairwise (·<=·)->Q (.ref a) (upd H a (.lst (js.map fun i=>us.getD i .non)))):=by
 intro pins s σ H xs us Q I r h;obtain⟨p,ws,ps,rfl,hq,hp,h64,hb,q⟩:=h;obtain⟨u,rfl,rx⟩:=vals1 r;cases rx;obtain⟨its,r',pl,hz⟩:=I.list hq;have hlen:=r'.length;have pr:Paired (SW.dM s.heap) its ps:=by
  clear q hb h64 hq pl hz hlen
  induction hp generalizing its with
  | nil =>
   cases r';exact .nil
  | cons ht _ ih =>
   cases r' with
   | cons rv t =>
    refine .cons ?_ (ih _ t);cases rv;obtain⟨ys,ry,tp,_⟩:=I.tuple ht;obtain⟨y1,y2,rfl,e1,e2⟩:=vals2 ry;obtain⟨t1,rfl⟩:=e1;obtain⟨t2,rfl⟩:=e2;exact⟨_,t1,t2,rfl,tp⟩
 refine SW.mi pl.isList pr hb (by omega) fun js pm pw=> ?_;obtain⟨c,hc⟩:=sortedAll_at s.heap its (js.map fun i=>its.getD i Value.none).toArray;rw[<- hlen]at pm;refine⟨.ref (s.heap.objs.size+1),_,I.laid (t' :=s.toks) (o:=.lst (js.map fun i=>ws.getD i .non)) (fun b o z=>sortedAll_old z) (Nat.le_succ _) ?_,rfl,q _ js (I.hok.fresh (Nat.le_succ _)) pm pw⟩;refine⟨?_,js.map fun i=>its.getD i Value.none,c,aQ.pick r' fun j hj=>KR.mp (pm.mem_iff.mp hj),by simpa [seqObj]using hc⟩;rw[Ik,pm.length_eq,JU,J6];omega
end
end L2
namespace SR
open PySem PyProof.Rows
section
variable{prog:Program}{w:World}{A:Around}{E:Value->Shared->Prop}{s:Shared}
theorem zw{t:Addr}{its:Array Value}{x:Value}{j:Nat}{Q:Value->Shared->Prop}(ht:IsTup s.heap t its)(hj:j<its.size)(he:∀i v,i<=j->its[i]? =some v->SeqAt.EqAt A.in1 s v x (decide (i=j)))
  (h:∀u tk,Q (.int (j:Nat) u) {s with toks:=tk}):wpAny (model prog w) A (call (.builtin "tuple.index") [.ref t,x]) Q E s:=by
 obtain⟨o,ho,hc,n,hd⟩:=id ht;refine Js F.slot_tuple_index ⟨o,ho,hc⟩ F.entry_tuple_index ?_ (F.args_tuple_index_2 _ _);unfold Builtin.«tuple.index»;refine Ij (KY (a:=(.ref t,[x])) rfl ?_);dsimp only;unfold Builtin.Tuple.tupleItemsOf;refine Ij (Ij (wpAny_seqItems ho hd (JB ?_)));refine Ij (JB (Ij (JB ?_)));rw[Kz];refine Ij ?_;rw[Std.Legacy.Range.forIn_eq_forIn_range'];have hsz:([0:its.size]:Std.Legacy.Range).size=its.size:=by simp[Std.Legacy.Range.size]
 show wpAny _ _ (forIn (List.range' 0 ([0:its.size]:Std.Legacy.Range).size 1) _ _) _ _ _;rw[hsz];refine wpAny_forIn_list _ (fun l c s' =>∃i,l=List.range' i (its.size-i) 1/\i<=j/\c=(none,())/\s' =s) _ ?_ ?_ _ _ ⟨0,rfl,JR _,rfl,rfl⟩
 ·rintro k aP c s' ⟨i,hl,hi,rfl,rfl⟩
  obtain⟨m,hm⟩:∃m,its.size-i=m+1:=⟨its.size-i-1,by omega⟩;rw[hm,List.range'_succ]at hl
  injection hl with e1 e2
  subst e1;have lt:k<its.size:=by omega
  have hx:its[k]? =some its[k]:=Lj lt;rw[hx];dsimp only;refine Ij (he k _ hi hx _ _ _ _ ?_)
  by_cases e:k=j
  ·subst e
   rw[JP rfl,Ix rfl];unfold retInt;refine Ij (Ij (wpAny_mkInt (JB (JB ?_))));exact JB ⟨_,rfl,h _ _⟩
  ·rw[JK e,Iq Ir]
   refine JB ⟨k+1,?_,by omega,rfl,rfl⟩;rw[e2]
   congr 1
   omega
 ·rintro c s' ⟨i,hl,hi,rfl,rfl⟩
  have:=Je List.length hl;simp at this;omega
end
end SR
set_option maxHeartbeats 800000
namespace SR
open PySem PyProof.Rows
noncomputable def yH(I t:Addr)(i:Int)(h:Heap):Prop:=∃o,h.get? I=some o/\o.cls=.type "reversed"/\o.data=.fields #[.ref t,rawInt i]
theorem yH.typeIs{I t:Addr}{i:Int}{s:Shared}(x:yH I t i s.heap):s.TypeIs (.ref I) "reversed":=let⟨o,ho,hc,_⟩:=x;⟨o,ho,hc⟩
theorem yH.keep{I t:Addr}{i:Int}{h h' :Heap}(x:yH I t i h)(k:∀o,h.get? I=some o->h'.get? I=some o):yH I t i h' :=let⟨o,ho,r⟩:=x;⟨o,k o ho,r⟩
section
variable{prog:Program}{w:World}{A:Around}{E:Value->Shared->Prop}{s:Shared}
end
end SR
namespace L2
open PySem PySem.Spec PyProof.Rows
section
variable{X:Cx}
end
end L2
set_option maxHeartbeats 4000000
namespace L2
open PySem PySem.Spec PyProof.Rows
section
variable{X:Cx}
end
end L2
namespace L2
open PySem PySem.Spec PyProof.Rows PySem.W
section
variable{X:Cx}
end
end L2
set_option genInjectivity false
namespace IR
open PySem
noncomputable abbrev am:=L2.am
inductive PV where
 | non|bl (b:Bool)|int (i:Int)|str (z:Str)|lst (xs:List PV)|tup (xs:List PV)|dK (ks:List am) (vs:List PV)|dT (ks:List (List am)) (vs:List PV)
instance:Inhabited PV:=⟨.non⟩
mutual
noncomputable def imm:PV->Bool
 | .non=>true| .bl _=>true| .int _=>true| .str _=>true
 | .lst _=>false
 | .tup xs=>imms xs
 | .dK _ _=>false| .dT _ _=>false
noncomputable def imms:List PV->Bool
 | []=>true
 | x::xs=>imm x&&imms xs
end
inductive Bf where
 | len|int|str|list|tuple|sorted|min|max|sum|abs|all|any|lrange|lrange2|isin (t:String)|sumv|sset|lset|trev|lvals
inductive Bm where
 | join|split|count|index|get|jrev
mutual
inductive IE where
 | con (v:PV)|var (i:Nat)|bin (op:Operator) (a b:IE)|neg (a:IE)|cmp (op:CmpOp) (a b:IE)|chn (o1 o2:CmpOp) (a b c:IE)
 | and (a b:IE)|or (a b:IE)|not (a:IE)|ite (c:IC) (a b:IE)
 | call (f:Nat) (es:rQ)|bf (f:Bf) (es:rQ)|mth (m:Bm) (o:IE) (es:rQ)
 | lst (es:rQ)|tup (es:rQ)|dnew|dlit (k:am) (e:IE)|dnewT|ixt (a:IE) (es:rQ)|ix (a i:IE)|sl (a:IE) (lo hi:IO)|rev (a:IE)
 | lc (elt:IE) (src:IT) (ifs:Bk) (caps:List Nat)|lc2 (elt:IE) (src:IT) (ifs:Bk) (caps:List Nat)|lci (a:IE) (i:Nat)|lcs (a:IE)|never
inductive rQ where
 | nil|cons (e:IE) (es:rQ)
inductive IO where
 | no|yes (e:IE)
inductive IC where
 | val (e:IE)|not (c:IC)|and (c d:IC)|or (c d:IC)
inductive Bk where
 | no|yes (c:IC)
inductive IT where
 | seq (e:IE)|rng (es:rQ)|zip (a b:IE)|enum (a:IE)|rvd (a:IE)|never
end
mutual
inductive IS where
 | asg (i:Nat) (o:Bool) (cap:List Nat) (e:IE)|unp (is:List Nat) (cap:List Nat) (e:IE)|ret (cap:List Nat) (e:IE)|retN|ife (c:IC) (a b:ng)
 | forr (is:List Nat) (one:Bool) (cap:List Nat) (src:IT) (body:ng)|whil (c:IC) (body:ng)|pass|brk|cont
 | app (i:Nat) (cap:List Nat) (e:IE)|ins (i:Nat) (k e:IE)|popD (i:Nat)|popT (j i:Nat)|clr (i:Nat)|revI (i:Nat)|seti (i:Nat) (cap:List Nat) (k e:IE)|sett (i:Nat) (cap:List Nat) (ks:rQ) (e:IE)|drop (e:IE)|appE (o e:IE)|aug (i:Nat) (op:Operator) (e:IE)|augS (i:Nat) (op:Operator) (k e:IE)|grp (i:Nat) (es:rQ) (c:IC) (a:ng)|hand (m:Nat) (g:List PV->Option PV)|rais (x:Str)|never
inductive ng where
 | nil|cons (s:IS) (ss:ng)
end
inductive Bd where
 | lst|dK (ks:List am)|dT (ks:List (List am))
noncomputable def Bd.pv:Bd->List PV->PV
 | .lst,xs=>.lst xs
 | .dK ks,xs=>.dK ks xs
 | .dT ks,xs=>.dT ks xs
section
variable{κ α:Type}[DecidableEq κ]
noncomputable def yc:List κ->List α->κ->Option α
 | k' ::ks,x::xs,k=>if k' =k then some x else yc ks xs k
 | _,_,_=>none
noncomputable def Gg:List κ->List α->κ->α->List α
 | k' ::ks,x::xs,k,y=>(if k' =k then y else x)::Gg ks xs k y
 | _,xs,_,_=>xs
noncomputable def putL(ks:List κ)(xs:List α)(k:κ)(y:α):List α:=if k∈ks then Gg ks xs k y else xs++[y]
noncomputable def oO(ks:List κ)(k:κ):List κ:=if k∈ks then ks else ks++[k]
end
noncomputable def ly:PV->Option am
 | .int i=>some (.inl i)
 | .str z=>some (.inr z)
 | _=>none
noncomputable def iJ:List PV->Option (List am)
 | []=>some []
 | x::xs=>(ly x).bind fun k=>(iJ xs).map (k::·)
inductive TV where
 | un|frz (v:PV) (n:Bool)|own (xs:List PV) (n:Bool)|owd (b:Bd) (xs:List PV) (n:Bool)
noncomputable def TV.ob:TV->Option (Bd×List PV×Bool)
 | .own xs n=>some (.lst,xs,n)
 | .owd b xs n=>some (b,xs,n)
 | _=>none
noncomputable abbrev En:=List TV
noncomputable def TV.valD:TV->PV
 | .frz v _=>v
 | _=>.non
inductive RV where
 | frz (v:PV) (n:Bool)|bor (v:PV)|own (xs:List PV) (n:Bool)|owd (b:Bd) (xs:List PV) (n:Bool)
noncomputable def RV.val:RV->PV
 | .frz v _=>v
 | .bor v=>v
 | .own xs _=>.lst xs
 | .owd b xs _=>b.pv xs
noncomputable abbrev sc(v:PV):RV:=.frz v true
noncomputable def RV.keep:RV->Option (PV×Bool)
 | .frz v n=>some (v,n)
 | .bor v=>if imm v then some (v,true)else none
 | .own xs n=>some (.lst xs,n)
 | .owd b xs n=>some (b.pv xs,n)
noncomputable def lw(v:PV):RV:=if imm v then .frz v true else .bor v
noncomputable def RV.its:RV->Option (List PV×Bool)
 | .frz (.lst xs) n=>some (xs,n)
 | .frz (.tup xs) n=>some (xs,n)
 | .own xs n=>some (xs,n)
 | .bor (.lst xs)=>if imms xs then some (xs,true)else none
 | .bor (.tup xs)=>if imms xs then some (xs,true)else none
 | _=>none
noncomputable abbrev LN:Nat:=16777216
open L2 (oz dC)
noncomputable def signs(z:Str):List PV:=z.cps.toList.map fun c=>.str ⟨#[c]⟩
noncomputable def kq(xs:List PV)(n:Bool):Option RV:=if xs.length<=LN then some (.own xs n)else none
noncomputable def nA(xs:List PV)(n:Bool):Option RV:=if xs.length<=LN then some (.frz (.tup xs) n)else none
noncomputable def rK(a b:RV):Option RV :=
 match a.val,b.val with
 | .int i,.int j=>some (sc (.int (i+j)))
 | .str x,.str y=>if x.length+y.length<=LN then some (sc (.str (x++y)))else none
 | .lst _,.lst _=>match a.its,b.its with
  | some (xs,n),some (ys,m)=>kq (xs++ys) (n&&m)
  | _,_=>none
 | .tup _,.tup _=>match a.its,b.its with
  | some (xs,n),some (ys,m)=>nA (xs++ys) (n&&m)
  | _,_=>none
 | _,_=>none
noncomputable def rH(a b:RV):Option RV :=
 match a.val,b.val with
 | .int i,.int j=>some (sc (.int (i-j)))
 | _,_=>none
noncomputable def nV(a b:RV):Option RV :=
 match a.val,b.val with
 | .int i,.int j=>if(-(2^64)<i/\i<2^64)\/(-(2^64)<j/\j<2^64)then some (sc (.int (i*j)))else if i.natAbs<2^2000/\j.natAbs<2^2000 then some (sc (.int (i*j)))else none
 | .lst _,.int k=>match a with
  | .own xs n=>if 0<=k/\k<=1000000/\xs.length*k.toNat<=LN then some (.own (List.replicate k.toNat xs).flatten n)else none
  | _=>none
 | _,_=>none
noncomputable def eW(a b:RV):Option RV :=
 match a.val,b.val with
 | .int i,.int j=>if 0<j/\j<2^200 then some (sc (.int (i/j)))else none
 | _,_=>none
noncomputable def rJ(a b:RV):Option RV :=
 match a.val,b.val with
 | .int i,.int j=>if 0<j then some (sc (.int (i%j)))else none
 | _,_=>none
noncomputable def iV(a b:RV):Option RV :=
 match a.val,b.val with
 | .int i,.int j=>if 0<=j/\j<=1000000/\i.natAbs<2^64 then some (sc (.int (i*2^j.toNat)))else none
 | _,_=>none
noncomputable def cN(op:Operator)(a b:RV):Option RV:=match op with
 | .Add=>rK a b
 | .Sub=>rH a b
 | .Mult=>nV a b
 | .FloorDiv=>eW a b
 | .Mod=>rJ a b
 | .LShift=>iV a b
 | _=>none
noncomputable def pL:PV->Bool
 | .non=>true| .bl _=>true| .int _=>true| .str _=>true|_=>false
noncomputable def eqs:PV->PV->Option Bool
 | .int i,.int j=>some (decide (i=j))
 | .str i,.str j=>some (decide (i=j))
 | .bl i,.bl j=>some (decide (i=j))
 | .non,.non=>some true
 | .non,.int _=>some false| .non,.bl _=>some false| .non,.str _=>some false| .int _,.non=>some false| .bl _,.non=>some false| .str _,.non=>some false
 | .int _,.str _=>some false| .str _,.int _=>some false| .bl _,.str _=>some false| .str _,.bl _=>some false
 | _,_=>none
noncomputable def AH:PV->PV->Bool
 | .int i,.int j=>decide (i=j)
 | .str i,.str j=>decide (i=j)
 | .bl i,.bl j=>decide (i=j)
 | .bl b,.int j=>decide ((if b then 1 else 0:Int)=j)
 | .int j,.bl b=>decide (j=(if b then 1 else 0:Int))
 | .non,.non=>true
 | _,_=>false
mutual
noncomputable def iO:PV->PyData
 | .non=>.none
 | .bl b=>.bool b
 | .int i=>.int i
 | .str z=>.str z
 | .lst xs=>.list (dZ xs)
 | .tup xs=>.tuple (dZ xs)
 | .dK _ _=>.dict []
 | .dT _ _=>.dict []
noncomputable def dZ:List PV->List PyData
 | []=>[]
 | x::xs=>iO x::dZ xs
end
mutual
noncomputable def eS:PV->PV->Bool
 | .lst xs,.lst ys=>nP xs ys
 | .tup xs,.tup ys=>nP xs ys
 | a,b=>AH a b
noncomputable def nP:List PV->List PV->Bool
 | [],[]=>true
 | x::xs,y::ys=>eS x y&&nP xs ys
 | [],_::_=>false
 | _::_,[]=>false
end
noncomputable def bv:Nat->PV->Bool
 | _,.non=>true
 | _,.bl _=>true
 | _,.int _=>true
 | _,.str z=>PyData.strOk z
 | 0,.lst _=>false
 | 0,.tup _=>false
 | n+1,.lst xs=>xs.all (bv n)
 | n+1,.tup xs=>xs.all (bv n)
 | _,.dK _ _=>false
 | _,.dT _ _=>false
noncomputable def Bc(x y:PV):Option Bool:=match eqs x y with
 | some b=>some b
 | none=>if bv 12 x&&bv 12 y then some (eS x y)else none
noncomputable def si(x:PV)(ys:List PV):Option Bool :=
 if pL x/\ys.all pL then some (ys.any fun y=>AH y x)else if bv 12 x&&ys.all (bv 12)then some (ys.any fun y=>eS y x)else none
mutual
noncomputable def Dh:PV->PV->Option Bool
 | .int i,.int j=>some (decide (j<=i))
 | .tup xs,.tup ys=>ud xs ys
 | _,_=>none
noncomputable def ud:List PV->List PV->Option Bool
 | [],ys=>some ys.isEmpty
 | _::_,[]=>some true
 | x::xs,y::ys=>if eS x y then ud xs ys else Dh x y
end
noncomputable def geT(x y:PV):Option Bool:=if bv 12 x&&bv 12 y then Dh x y else none
noncomputable def xu(a b:PV):Option Bool :=
 match a,b with
 | .int i,.int j=>some (decide (i<j))
 | _,_=>none
noncomputable def qw(a b:PV):Option Bool :=
 match a,b with
 | .int i,.int j=>some (decide (i<=j))
 | _,_=>none
noncomputable def xy(a b:PV):Option Bool :=
 match a,b with
 | .int i,.int j=>some (decide (j<i))
 | _,_=>none
noncomputable def qx(a b:PV):Option Bool :=
 match a,b with
 | .int i,.int j=>some (decide (j<=i))
 | .tup xs,.tup ys=>geT (.tup xs) (.tup ys)
 | _,_=>none
noncomputable def xw(a b:PV):Option Bool :=
 match a,b with
 | .non,.non=>some true
 | x,.non=>some false
 | _,_=>none
noncomputable def kH(a b:PV):Option Bool :=
 match a,b with
 | .non,.non=>some false
 | x,.non=>some true
 | .bl b,.bl c=>some (b !=c)
 | _,_=>none
noncomputable def kG(a b:PV):Option Bool :=
 match a,b with
 | x,.lst ys=>(si x ys).map (!·)
 | x,.tup ys=>(si x ys).map (!·)
 | _,_=>none
noncomputable def ah(op:CmpOp)(a b:PV):Option Bool:=match op with
 | .Lt=>xu a b
 | .LtE=>qw a b
 | .Gt=>xy a b
 | .GtE=>qx a b
 | .Eq=>Bc a b
 | .NotEq=>(Bc a b).map (!·)
 | .Is=>xw a b
 | .IsNot=>kH a b
 | .NotIn=>kG a b
 | _=>none
noncomputable def lV:PV->Option Bool
 | .non=>some false
 | .bl b=>some b
 | .int i=>some (i !=0)
 | .str z=>if z.length<=LN then some ((z.length:Int) !=0)else none
 | .lst xs=>some !xs.isEmpty
 | .tup xs=>some !xs.isEmpty
 | .dK ks _=>some !ks.isEmpty
 | .dT _ _=>none
noncomputable def d0:PV->Option Nat
 | .str z=>if z.length<=LN then some z.length else none
 | .lst xs=>some xs.length
 | .tup xs=>some xs.length
 | .dK ks _=>some ks.length
 | _=>none
noncomputable def ez(t:String):PV->Option Bool
 | .non=>if t="int"\/t="str"\/t="list"\/t="tuple"\/t="bool" then some false else none
 | .bl _=>if t="int"\/t="bool" then some true else if t="str"\/t="list"\/t="tuple" then some false else none
 | .int _=>if t="int" then some true else if t="bool"\/t="str"\/t="list"\/t="tuple" then some false else none
 | .str _=>if t="str" then some true else if t="bool"\/t="int"\/t="list"\/t="tuple" then some false else none
 | .lst _=>if t="list" then some true else if t="bool"\/t="int"\/t="str"\/t="tuple" then some false else none
 | .tup _=>if t="tuple" then some true else if t="bool"\/t="int"\/t="str"\/t="list" then some false else none
 | .dK _ _=>if t="bool"\/t="int"\/t="str"\/t="list"\/t="tuple" then some false else none
 | .dT _ _=>none
noncomputable def mP:List PV->Option (List Bool)
 | []=>some []
 | .bl b::r=>(mP r).map (b::·)
 | _::_=>none
noncomputable def dF:List PV->Option (List Str)
 | []=>some []
 | .str z::r=>(dF r).map (z::·)
 | _::_=>none
noncomputable def ag:List PV->Option (List Int)
 | []=>some []
 | .int i::r=>(ag r).map (i::·)
 | _::_=>none
noncomputable def pC(sep:Str):List Str->Str
 | []=>⟨#[]⟩
 | [x]=>x
 | x::y::r=>x++sep++pC sep (y::r)
noncomputable def lrng(n:Nat):List PV:=(List.range n).map fun i=>.int (i:Nat)
noncomputable def wD:PV->Option (Int×Int)
 | .tup xs=>(ag xs).bind fun ns=>match ns with
  | [a,b]=>some (a,b)
  | _=>none
 | _=>none
noncomputable def gY:List PV->Option (List (Int×Int))
 | []=>some []
 | x::r=>(wD x).bind fun q=>(gY r).map (q::·)
noncomputable def eE(q:Int×Int):PV:=.tup [.int q.1,.int q.2]
noncomputable def b5(ps:List (Int×Int)):List (Int×Int):=ps.mergeSort fun a b=>decide (SW.cJ a<=SW.cJ b)
noncomputable def oA(xs:List PV):Option RV:=(gY xs).bind fun ps=>if ps.length<64/\ps.all (fun q=>decide (0<=q.2)&&decide (q.2<1000))=true then some (.own ((b5 ps).map eE) true)else none
noncomputable def la(xs:List PV):Option RV:=match ag xs with
 | some ns=>if ns.length<64 then some (.own ((L2.sortI ns).map PV.int) true)else none
 | none=>oA xs
noncomputable def vh:PV->Option (List Int)
 | .lst xs=>(ag xs).bind fun ns=>if ns.all (fun n=>decide (0<=n)&&decide (n<8))=true then some ns else none
 | _=>none
noncomputable def revT(a:RV):Option RV:=match a.val with
 | .tup _=>(match a.its with
  | some (xs,n)=>if xs.isEmpty then none else some (.frz (.tup xs.reverse) n)
  | none=>none)
 | _=>none
noncomputable def strI:PV->Option RV
 | .int i=>if i.natAbs.log2<1920 then some (sc (.str (Str.ofString (toString i))))else none
 | _=>none
noncomputable def nH(x:PV)(xs:List PV):Option RV:=if xs.all (bv 12)&&bv 12 x then(xs.findIdx? fun y=>eS y x).map fun j=>sc (.int (j:Nat))else none
noncomputable def HD:PV->Option RV
 | .dK ks vs=>if ks.length<=LN then(ag vs).map fun ns=>.own (ns.map PV.int) true else none
 | _=>none
noncomputable def mW(f:Bf)(as:List RV):Option RV :=
 match f,as with
 | .len,[a]=>(d0 a.val).map fun n=>sc (.int (n:Nat))
 | .int,[a]=>match a.val with
  | .int i=>some (sc (.int i))
  | .bl b=>some (sc (.int (if b then 1 else 0)))
  | _=>none
 | .list,[a]=>match a.its with
  | some (xs,n)=>some (.own xs n)
  | none=>none
 | .tuple,[a]=>match a.its with
  | some (xs,n)=>some (.frz (.tup xs) n)
  | none=>none
 | .all,[a]=>match a.val with
  | .lst xs=>(mP xs).map fun bs=>sc (.bl (bs.all id))
  | _=>none
 | .sum,[a]=>match a.val with
  | .lst xs=>(ag xs).map fun ns=>sc (.int ns.sum)
  | _=>none
 | .sorted,[a]=>match a.val with
  | .lst xs=>la xs
  | _=>none
 | .sumv,[a]=>match a.val with
  | .dK _ vs=>(ag vs).map fun ns=>sc (.int ns.sum)
  | _=>none
 | .sset,[a]=>(vh a.val).map fun ns=>.own ((L2.BV ns).map PV.int) true
 | .lset,[a]=>(vh a.val).map fun ns=>sc (.int ((L2.BV ns).length:Nat))
 | .trev,[a]=>revT a
 | .lvals,[a]=>HD a.val
 | .str,[a]=>strI a.val
 | .isin t,[a]=>(ez t a.val).map fun b=>sc (.bl b)
 | .min,[a,b]=>match a.val,b.val with
  | .int i,.int j=>some (sc (.int (if j<i then j else i)))
  | _,_=>none
 | .max,[a,b]=>match a.val,b.val with
  | .int i,.int j=>some (sc (.int (if j>i then j else i)))
  | _,_=>none
 | .abs,[a]=>match a.val with
  | .int i=>some (sc (.int (if i<0 then -i else i)))
  | _=>none
 | .lrange,[a]=>match a.val with
  | .int i=>if 0<=i/\i<=1000 then some (.own (lrng i.toNat) true)else none
  | _=>none
 | .lrange2,[a,b]=>match a.val,b.val with
  | .int i,.int j=>if -1000<=i/\j<=1000/\i<=j then some (.own ((List.range (j-i).toNat).map fun k=>.int (i+(k:Nat))) true)else none
  | _,_=>none
 | _,_=>none
noncomputable def jt(m:Bm)(o:RV)(as:List RV):Option RV :=
 match m,o.val,as with
 | .join,.str sep,[a]=>match a.val with
  | .lst xs=>(dF xs).bind fun ys=>if(ys.map (·.length)).sum+ys.length*sep.length<=LN then some (sc (.str (pC sep ys)))else none
  | .tup xs=>(dF xs).bind fun ys=>if(ys.map (·.length)).sum+ys.length*sep.length<=LN then some (sc (.str (pC sep ys)))else none
  | _=>none
 | .jrev,.str sep,[a]=>match a.val with
  | .str z=>if sep.cps= #[]/\0<z.length/\z.length<=LN then some (sc (.str ⟨z.cps.toList.reverse.toArray⟩))else none
  | _=>none
 | .count,.str z,[a]=>match a.val with
  | .str y=>some (sc (.int (Txt.count z y)))
  | _=>none
 | .index,.tup xs,[a]=>nH a.val xs
 | .index,.lst xs,[a]=>nH a.val xs
 | .get,.dK ks vs,[a,d]=>(ly a.val).bind fun k=>match yc ks vs k with
  | some e=>(match o with
   | .frz _ n=>some (.frz e (n||imm e))
   | .bor _=>some (lw e)
   | _=>none)
  | none=>some d
 | _,_,_=>none
noncomputable def ixK(a:RV)(k:Int):Option RV :=
 match a with
 | .frz (.lst xs) n=>(dC xs k).map fun e=>.frz e (n||imm e)
 | .frz (.tup xs) n=>(dC xs k).map fun e=>.frz e (n||imm e)
 | .own xs n=>(dC xs k).map fun e=>.frz e (n||imm e)
 | .bor (.lst xs)=>(dC xs k).map lw
 | .bor (.tup xs)=>(dC xs k).map lw
 | .frz (.str z) _=>if z.length<=LN then(dC z.cps.toList k).map fun c=>sc (.str ⟨#[c]⟩)else none
 | _=>none
noncomputable def index(a i:RV):Option RV:=match i.val with
 | .int k=>ixK a k
 | _=>none
noncomputable def ixT:RV->List am->Option RV
 | .frz (.dT ks vs) n,k=>(yc ks vs k).map fun e=>.frz e (n||imm e)
 | .bor (.dT ks vs),k=>(yc ks vs k).map lw
 | _,_=>none
noncomputable def cut{α:Type}(xs:List α)(lo hi:Option Int):List α:=(xs.drop (HT.bP xs.length 0 lo)).take (HT.bP xs.length xs.length hi-HT.bP xs.length 0 lo)
noncomputable def slice(a:RV)(lo hi:Option Int):Option RV :=
 match a.val with
 | .str z=>if z.length<=LN then(match lo,hi with
  | none,some k=>if 0<=k then some (sc (.str ⟨(z.cps.toList.take k.toNat).toArray⟩))else none
  | some k,none=>if 0<=k then some (sc (.str ⟨(z.cps.toList.drop k.toNat).toArray⟩))else none
  | _,_=>none)else none
 | .lst _=>match a.its with
  | some (xs,n)=>some (.own (cut xs lo hi) (n||imms xs))
  | none=>none
 | .tup _=>match a.its with
  | some (xs,n)=>if HT.bP xs.length 0 lo=0/\HT.bP xs.length xs.length hi=xs.length then some (.frz (.tup xs) n)else some (.frz (.tup (cut xs lo hi)) n)
  | none=>none
 | _=>none
noncomputable def Gf(a:RV):Option RV :=
 match a.val with
 | .str z=>if z.length<=LN then some (sc (.str ⟨z.cps.toList.reverse.toArray⟩))else none
 | .lst _=>match a.its with
  | some (xs,n)=>some (.own xs.reverse n)
  | none=>none
 | _=>none
noncomputable def keeps:List RV->Option (List PV×Bool)
 | []=>some ([],true)
 | r::rs=>r.keep.bind fun(v,n)=>(keeps rs).map fun(vs,m)=>(v::vs,n&&m)
noncomputable def pD(τ:En)(i:Nat):Option RV :=
 match τ[i]? with
 | some (.frz v n)=>some (.frz v n)
 | some (.own xs _)=>some (.bor (.lst xs))
 | some (.owd b xs _)=>some (.bor (b.pv xs))
 | _=>none
noncomputable def o6:Option RV->Option (Option Int)
 | none=>some none
 | some r=>match r.val with
  | .int i=>some (some i)
  | _=>none
noncomputable def cM(f:PV->Option (Option (PV×Bool))):List PV->Option (List PV×Bool)
 | []=>some ([],true)
 | x::xs=>(f x).bind fun r=>(cM f xs).map fun(vs,m)=>match r with
  | none=>(vs,m)
  | some (v,n)=>(v::vs,n&&m)
noncomputable def oW:PV->Option (PV×PV)
 | .tup [a,b]=>some (a,b)
 | _=>none
noncomputable def io:List RV->Option (List PV)
 | [a]=>match a.val with
  | .int j=>if -(2^62)<=j/\j<2^62 then some ((List.range j.toNat).map fun i=>.int (0+(i:Nat)))else none
  | _=>none
 | [a,b]=>match a.val,b.val with
  | .int i,.int j=>if -(2^62)<=i/\i<2^62/\ -(2^62)<=j/\j<2^62 then some ((List.range (j-i).toNat).map fun k=>.int (i+(k:Nat)))else none
  | _,_=>none
 | [a,b,c]=>match a.val,b.val,c.val with
  | .int i,.int j,.int k=>if k≠0/\k.natAbs<1073741824/\Builtin.Range.small i j k=true then some ((List.range (Builtin.Range.rangeSize i j k).toNat).map fun m=>.int (i+(m:Nat)*k))else none
  | _,_,_=>none
 | _=>none
noncomputable def lA:PV->Option Int
 | .int i=>some i
 | _=>none
noncomputable def ii:PV->Option Bool
 | .bl b=>some b
 | _=>none
noncomputable def ia(x:RV):Option (List PV×Bool×Bool):=match x with
  | .frz (.str z) _=>some (signs z,true,false)
  | .bor (.lst xs)=>if imms xs then some (xs,true,true)else none
  | .bor (.tup xs)=>if imms xs then some (xs,true,true)else none
  | .bor _=>none
  | r=>r.its.map fun(xs,n)=>(xs,n,false)
noncomputable def sM(x y:PV):PV:=.tup [x,y]
noncomputable def eC(i:Nat)(x:PV):PV:=.tup [.int (i:Nat),x]
noncomputable def uT:RV->Option (List PV×Bool)
 | .frz (.lst xs) n=>some (xs,n)
 | .own xs n=>some (xs,n)
 | _=>none
noncomputable def rvF:RV->Option (List PV×Bool)
 | .frz (.tup xs) n=>some (xs,n)
 | r=>uT r
noncomputable def vH(x y:RV):Option (List PV×Bool) :=
 match uT x,uT y with
 | some (xs,n),some (ys,m)=>if xs.length=ys.length then some (List.zipWith sM xs ys,n&&m)else none
 | _,_=>none
noncomputable def mJ(x:RV):Option (List PV×Bool) :=
 match x with
 | .frz (.str z) _=>some (List.zipWith eC (List.range z.length) (signs z),true)
 | .frz (.tup xs) n=>some (List.zipWith eC (List.range xs.length) xs,n)
 | x=>match uT x with
  | some (xs,n)=>some (List.zipWith eC (List.range xs.length) xs,n)
  | none=>none
noncomputable def GL(t:Int):List am->List PV->Option (List Int)
 | [],[]=>some []
 | .inl k::ks,.int v::vs=>(GL t ks vs).map fun r=>if Builtin.bitAnd k t=0 then v::r else r
 | _,_=>none
noncomputable def qsI:List am->List PV->Option (List (Int×Int))
 | [],[]=>some []
 | .inl k::ks,.int v::vs=>(qsI ks vs).map ((k,v)::·)
 | _,_=>none
noncomputable def HF:RV->Option RV
 | .frz (.dK ks vs) _=>if ks.length<=LN then(qsI ks vs).map fun qs=>.own (qs.map fun q=>.tup [.int q.2,.int q.1]) true else none
 | _=>none
noncomputable def HG(r:RV)(t:Option TV):Option RV:=match r,t with
 | .frz (.dK ks vs) _,some (.frz (.int t) _)=>if ks.length<=LN then(GL t ks vs).map fun ns=>.own (ns.map PV.int) true else none
 | _,_=>none
section
variable(cd:Nat->List PV->Option PV)
noncomputable def hZ:PV->RV
 | .lst xs=>.own xs true
 | v=>.frz v true
mutual
noncomputable def aW:IE->En->Option RV
 | .con v,_=>some (sc v)
 | .var i,τ=>pD τ i
 | .bin op a b,τ=>(aW a τ).bind fun x=>(aW b τ).bind fun y=>cN op x y
 | .neg a,τ=>(aW a τ).bind fun x=>(lA x.val).map fun i=>sc (.int (-i))
 | .cmp op a b,τ=>(aW a τ).bind fun x=>(aW b τ).bind fun y=>(ah op x.val y.val).map fun r=>sc (.bl r)
 | .chn o1 o2 a b c,τ=>(aW a τ).bind fun x=>(aW b τ).bind fun y=>(ah o1 x.val y.val).bind fun r=>if r then(aW c τ).bind fun z=>(ah o2 y.val z.val).map fun r=>sc (.bl r)else some (sc (.bl false))
 | .and a b,τ=>(aW a τ).bind fun x=>(ii x.val).bind fun t=>if t then aW b τ else some (sc (.bl false))
 | .or a b,τ=>(aW a τ).bind fun x=>(ii x.val).bind fun t=>if t then some (sc (.bl true))else aW b τ
 | .not a,τ=>(aW a τ).bind fun x=>(ii x.val).map fun b=>sc (.bl !b)
 | .ite c a b,τ=>(eA c τ).bind fun r=>if r then aW a τ else aW b τ
 | .call f es,τ=>(bW es τ).bind fun rs=>(cd f (rs.map RV.val)).map hZ
 | .bf f es,τ=>(bW es τ).bind fun rs=>mW f rs
 | .mth m o es,τ=>(aW o τ).bind fun x=>(bW es τ).bind fun rs=>jt m x rs
 | .lst es,τ=>(bW es τ).bind fun rs=>(keeps rs).bind fun(vs,n)=>kq vs n
 | .tup es,τ=>(bW es τ).bind fun rs=>(keeps rs).bind fun(vs,n)=>nA vs n
 | .dnew,_=>some (.owd (.dK []) [] true)
 | .dlit k e,τ=>(aW e τ).bind fun r=>r.keep.bind fun(v,_)=>if imm v then some (.owd (.dK [k]) [v] true)else none
 | .dnewT,_=>some (.owd (.dT []) [] true)
 | .ixt a es,τ=>(aW a τ).bind fun x=>(bW es τ).bind fun rs=>(iJ (rs.map RV.val)).bind fun k=>if k.length<=LN then ixT x k else none
 | .ix a i,τ=>(aW a τ).bind fun x=>(aW i τ).bind fun y=>index x y
 | .sl a lo hi,τ=>(aW a τ).bind fun x=>(Ds lo τ).bind fun l=>(Ds hi τ).bind fun h=>(o6 l).bind fun l' =>(o6 h).bind fun h' =>slice x l' h'
 | .rev a,τ=>(aW a τ).bind fun x=>Gf x
 | .lc elt src ifs caps,τ=>(lB src τ).bind fun(xs,n,_)=>if xs.length<=LN then(cM (fun x=>(iN ifs (.frz x (n||imm x)::caps.map fun i=>τ.getD i .un)).bind fun b =>
   if b then(aW elt (.frz x (n||imm x)::caps.map fun i=>τ.getD i .un)).bind fun r=>r.keep.map some else some none) xs).map fun(vs,m)=>.own vs m else none
 | .lc2 elt src ifs caps,τ=>(lB src τ).bind fun(xs,n,_)=>if xs.length<=LN then(cM (fun x=>(oW x).bind fun(a,b)=>(iN ifs (.frz a (n||imm a)::.frz b (n||imm b)::caps.map fun i=>τ.getD i .un)).bind fun t =>
   if t then(aW elt (.frz a (n||imm a)::.frz b (n||imm b)::caps.map fun i=>τ.getD i .un)).bind fun r=>r.keep.map some else some none) xs).map fun(vs,m)=>.own vs m else none
 | .lci a i,τ=>(aW a τ).bind fun x=>HG x τ[i]?
 | .lcs a,τ=>(aW a τ).bind fun x=>HF x
 | .never,_=>none
noncomputable def bW:rQ->En->Option (List RV)
 | .nil,_=>some []
 | .cons e es,τ=>(aW e τ).bind fun x=>(bW es τ).map (x::·)
noncomputable def Ds:IO->En->Option (Option RV)
 | .no,_=>some none
 | .yes e,τ=>(aW e τ).map some
noncomputable def eA:IC->En->Option Bool
 | .val e,τ=>(aW e τ).bind fun x=>lV x.val
 | .not c,τ=>(eA c τ).map (!·)
 | .and c d,τ=>(eA c τ).bind fun r=>if r then eA d τ else some false
 | .or c d,τ=>(eA c τ).bind fun r=>if r then some true else eA d τ
noncomputable def iN:Bk->En->Option Bool
 | .no,_=>some true
 | .yes c,τ=>eA c τ
noncomputable def lB:IT->En->Option (List PV×Bool×Bool)
 | .seq e,τ=>(aW e τ).bind ia
 | .rng es,τ=>(bW es τ).bind fun rs=>(io rs).map fun xs=>(xs,true,false)
 | .zip a b,τ=>(aW a τ).bind fun x=>(aW b τ).bind fun y=>(vH x y).map fun(xs,n)=>(xs,n,false)
 | .enum a,τ=>(aW a τ).bind fun x=>(mJ x).map fun(xs,n)=>(xs,n,false)
 | .rvd a,τ=>(aW a τ).bind fun x=>(rvF x).map fun(xs,n)=>(xs.reverse,n,false)
 | .never,_=>none
end
inductive Fl where
 | nx (τ:En)|bk (τ:En)|ct (τ:En)|rt (v:PV)
noncomputable def dE(f:Fl)(k:En->Option Fl):Option Fl:=match f with
 | .nx τ=>k τ
 | .bk τ=>some (.bk τ)
 | .ct τ=>some (.ct τ)
 | .rt v=>some (.rt v)
noncomputable def nM(τ:En)(i:Nat):En :=
 match τ[i]? with
 | some (.own xs n)=>τ.set i (.frz (.lst xs) n)
 | some (.owd b xs n)=>τ.set i (.frz (b.pv xs) n)
 | _=>τ
noncomputable def av(cap:List Nat)(τ:En):En:=cap.foldl nM τ
noncomputable def mz(o:Bool)(i:Nat)(r:RV)(τ:En):Option En :=
 match o,r with
 | true,.own xs n=>some (τ.set i (.own xs n))
 | true,.owd b xs n=>some (τ.set i (.owd b xs n))
 | _,r=>r.keep.map fun(v,n)=>τ.set i (.frz v n)
noncomputable def dJ(n:Bool):List Nat->List PV->En->Option En
 | [],[],τ=>some τ
 | i::is,x::xs,τ=>dJ n is xs (τ.set i (.frz x (n||imm x)))
 | _,_,_=>none
noncomputable def eG(is:List Nat)(one n:Bool)(x:PV)(τ:En):Option En :=
 if one then dJ n is [x] τ else match x with
  | .tup xs=>dJ n is xs τ
  | _=>none
noncomputable def CO(is:List Nat)(n:Bool)(x:PV)(τ:En):Option En:=match x with
 | .tup xs=>dJ n is xs τ
 | .lst xs=>dJ n is xs τ
 | _=>none
noncomputable def j4(set:PV->En->Option En)(body:En->Option Fl):List PV->En->Option Fl
 | [],τ=>some (.nx τ)
 | x::xs,τ=>(set x τ).bind fun τ1=>(body τ1).bind fun f=>match f with
  | .nx τ2=>j4 set body xs τ2
  | .ct τ2=>j4 set body xs τ2
  | .bk τ2=>some (.nx τ2)
  | .rt v=>some (.rt v)
noncomputable def yN(c:En->Option Bool)(body:En->Option Fl):Nat->En->Option Fl
 | 0,_=>none
 | k+1,τ=>(c τ).bind fun b=>if b then(body τ).bind fun f=>(match f with
  | .nx τ2=>yN c body k τ2
  | .ct τ2=>yN c body k τ2
  | .bk τ2=>some (.nx τ2)
  | .rt v=>some (.rt v))else some (.nx τ)
variable(fu:Nat)
mutual
noncomputable def cB:IS->En->Option Fl
 | .asg i o cap e,τ=>let τ1:=av cap τ;(aW cd e τ1).bind fun r=>(mz o i r τ1).map .nx
 | .unp is cap e,τ=>let τ1:=av cap τ;(aW cd e τ1).bind fun r=>r.keep.bind fun(v,n)=>(CO is n v τ1).map .nx
 | .ret cap e,τ=>let τ1:=av cap τ;(aW cd e τ1).bind fun r=>r.keep.bind fun(v,n)=>if n then some (.rt v)else none
 | .retN,_=>some (.rt .non)
 | .ife c a b,τ=>(eA cd c τ).bind fun r=>if r then bJ a τ else bJ b τ
 | .forr is one cap src body,τ=>let τ1:=av cap τ;(lB cd src τ1).bind fun(xs,n,b)=>if b then none else j4 (eG is one n) (fun τ=>bJ body τ) xs τ1
 | .whil c body,τ=>yN (fun τ=>eA cd c τ) (fun τ=>bJ body τ) fu τ
 | .pass,τ=>some (.nx τ)
 | .brk,τ=>some (.bk τ)
 | .cont,τ=>some (.ct τ)
 | .app i cap e,τ=>let τ1:=av cap τ;(aW cd e τ1).bind fun r=>r.keep.bind fun(v,m)=>match τ1[i]? with
  | some (.own xs n)=>if xs.length<LN then some (.nx (τ1.set i (.own (xs++[v]) (n&&m))))else none
  | _=>none
 | .ins i k e,τ=>(aW cd k τ).bind fun x=>(aW cd e τ).bind fun r=>r.keep.bind fun(v,m)=>match x.val,τ[i]? with
  | .int j,some (.own xs n)=>if 0<=j/\j<=xs.length/\xs.length<LN then some (.nx (τ.set i (.own (xs.take j.toNat++v::xs.drop j.toNat) (n&&m))))else none
  | _,_=>none
 | .popD i,τ=>match τ[i]? with
  | some (.own xs n)=>if xs.length=0 then none else some (.nx (τ.set i (.own xs.dropLast n)))
  | _=>none
 | .popT j i,τ=>match τ[i]? with
  | some (.own xs n)=>match xs.getLast? with
   | some v=>if i=j then none else some (.nx ((τ.set i (.own xs.dropLast n)).set j (.frz v (n||imm v))))
   | none=>none
  | _=>none
 | .clr i,τ=>match τ[i]? with
  | some (.own _ _)=>some (.nx (τ.set i (.own [] true)))
  | _=>none
 | .revI i,τ=>match τ[i]? with
  | some (.own xs n)=>some (.nx (τ.set i (.own xs.reverse n)))
  | _=>none
 | .seti i cap k e,τ=>let τ1:=av cap τ;(aW cd e τ1).bind fun r=>r.keep.bind fun(v,m)=>(aW cd k τ1).bind fun x=>match x.val,τ1[i]? with
  | .int j,some (.own xs n)=>(oz xs.length j).map fun q=>.nx (τ1.set i (.own (xs.set q v) (n&&m)))
  | y,some (.owd (.dK ks) xs n)=>(ly y).bind fun k=>if xs.length<LN then some (.nx (τ1.set i (.owd (.dK (oO ks k)) (putL ks xs k v) (n&&m))))else none
  | _,_=>none
 | .sett i cap es e,τ=>let τ1:=av cap τ;(aW cd e τ1).bind fun r=>r.keep.bind fun(v,m)=>(bW cd es τ1).bind fun rs=>(iJ (rs.map RV.val)).bind fun k=>match τ1[i]? with
  | some (.owd (.dT ks) xs n)=>if xs.length<LN/\k.length<=LN then some (.nx (τ1.set i (.owd (.dT (oO ks k)) (putL ks xs k v) (n&&m))))else none
  | _=>none
 | .drop e,τ=>(aW cd e τ).map fun _=>.nx τ
 | .appE o e,τ=>(aW cd o τ).bind fun a=>match a with
  | .own xs _=>(aW cd e τ).bind fun _=>if xs.length<LN then some (.nx τ)else none
  | _=>none
 | .aug i op e,τ=>(aW cd e τ).bind fun r=>match τ[i]?,r.val,op with
  | some (.frz (.int x) _),.int y,.Add=>some (.nx (τ.set i (.frz (.int (x+y)) true)))
  | some (.frz (.int x) _),.int y,.Sub=>some (.nx (τ.set i (.frz (.int (x-y)) true)))
  | _,_,_=>none
 | .augS i op k e,τ=>(aW cd k τ).bind fun x=>(lA x.val).bind fun j=>(aW cd e τ).bind fun r=>(lA r.val).bind fun y=>match τ[i]? with
  | some (.own xs n)=>(oz xs.length j).bind fun q=>((xs[q]?).bind lA).bind fun a=>match op with
   | .Add=>some (.nx (τ.set i (.own (xs.set q (.int (a+y))) n)))
   | .Sub=>some (.nx (τ.set i (.own (xs.set q (.int (a-y))) n)))
   | _=>none
  | _=>none
 | .grp i es c a,τ=>(bW cd es τ).bind fun rs=>match rs with
  | [.own xs true,.own ys true]=>if xs.length<LN/\ys.length<LN then(eA cd c (τ.set i (.frz (.lst [.lst xs,.lst ys]) true))).bind fun b=>if b then(match bJ a (τ.set i (.frz (.lst [.lst xs,.lst ys]) true))with
   | some (.rt v)=>some (.rt v)
   | _=>none)else some (.nx (τ.set i .un))else none
  | _=>none
 | .hand m g,τ=>(g ((τ.take m).map TV.valD)).map .rt
 | .rais _,_=>none
 | .never,_=>none
noncomputable def bJ:ng->En->Option Fl
 | .nil,τ=>some (.nx τ)
 | .cons s ss,τ=>(cB s τ).bind fun f=>dE f (fun τ1=>bJ ss τ1)
end
end
structure FD where
 nn:Nat
 np:Nat
 body:ng
noncomputable def entry(d:FD)(vs:List PV):En:=vs.map (fun v=>.frz v (imm v))++List.replicate (d.nn-vs.length) .un
noncomputable def eT:Option Fl->Option PV
 | some (.rt v)=>some v
 | some (.nx _)=>some .non
 | _=>none
noncomputable def aH(P:Nat->Option FD):Nat->Nat->List PV->Option PV
 | 0,_,_=>none
 | k+1,f,vs=>(P f).bind fun d=>if vs.length=d.np then eT (bJ (aH P k) 1000000 d.body (entry d vs))else none
section
set_option autoImplicit true
set_option relaxedAutoImplicit true
variable{cd:Nat->List PV->Option PV}{fu:Nat}{τ:En}
theorem cc:aW cd (.con v) τ=(some (sc v)):=rfl
theorem cO:aW cd (.var i) τ=(pD τ i):=rfl
theorem ci:aW cd (.bin op a b) τ=((aW cd a τ).bind fun x=>(aW cd b τ).bind fun y=>cN op x y):=rfl
theorem cT:aW cd (.neg a) τ=((aW cd a τ).bind fun x=>(lA x.val).map fun i=>sc (.int (-i))):=rfl
theorem cf:aW cd (.cmp op a b) τ=((aW cd a τ).bind fun x=>(aW cd b τ).bind fun y=>(ah op x.val y.val).map fun r=>sc (.bl r)):=rfl
theorem dB:aW cd (.chn o1 o2 a b c) τ=((aW cd a τ).bind fun x=>(aW cd b τ).bind fun y=>(ah o1 x.val y.val).bind fun r=>if r then(aW cd c τ).bind fun z=>(ah o2 y.val z.val).map fun r=>sc (.bl r)else some (sc (.bl false))):=rfl
theorem cq:aW cd (.and a b) τ=((aW cd a τ).bind fun x=>(ii x.val).bind fun t=>if t then aW cd b τ else some (sc (.bl false))):=rfl
theorem cR:aW cd (.or a b) τ=((aW cd a τ).bind fun x=>(ii x.val).bind fun t=>if t then some (sc (.bl true))else aW cd b τ):=rfl
theorem cS:aW cd (.not a) τ=((aW cd a τ).bind fun x=>(ii x.val).map fun b=>sc (.bl !b)):=rfl
theorem cy:aW cd (.ite c a b) τ=((eA cd c τ).bind fun r=>if r then aW cd a τ else aW cd b τ):=rfl
theorem cg:aW cd (.call f es) τ=((bW cd es τ).bind fun rs=>(cd f (rs.map RV.val)).map hZ):=rfl
theorem ck:aW cd (.bf f es) τ=((bW cd es τ).bind fun rs=>mW f rs):=rfl
theorem cU:aW cd (.mth m o es) τ=((aW cd o τ).bind fun x=>(bW cd es τ).bind fun rs=>jt m x rs):=rfl
theorem cV:aW cd (.lst es) τ=((bW cd es τ).bind fun rs=>(keeps rs).bind fun(vs,n)=>kq vs n):=rfl
theorem cP:aW cd (.tup es) τ=((bW cd es τ).bind fun rs=>(keeps rs).bind fun(vs,n)=>nA vs n):=rfl
theorem dA:aW cd (.dnew) τ=(some (.owd (.dK []) [] true)):=rfl
theorem cZ:aW cd (.dlit k e) τ=((aW cd e τ).bind fun r=>r.keep.bind fun(v,_)=>if imm v then some (.owd (.dK [k]) [v] true)else none):=rfl
theorem cz:aW cd (.dnewT) τ=(some (.owd (.dT []) [] true)):=rfl
theorem cx:aW cd (.ixt a es) τ=((aW cd a τ).bind fun x=>(bW cd es τ).bind fun rs=>(iJ (rs.map RV.val)).bind fun k=>if k.length<=LN then ixT x k else none):=rfl
theorem cY:aW cd (.ix a i) τ=((aW cd a τ).bind fun x=>(aW cd i τ).bind fun y=>index x y):=rfl
theorem cQ:aW cd (.sl a lo hi) τ=((aW cd a τ).bind fun x=>(Ds cd lo τ).bind fun l=>(Ds cd hi τ).bind fun h=>(o6 l).bind fun l' =>(o6 h).bind fun h' =>slice x l' h'):=rfl
theorem cr:aW cd (.rev a) τ=((aW cd a τ).bind fun x=>Gf x):=rfl
theorem cX:aW cd (.lc elt src ifs caps) τ=((lB cd src τ).bind fun(xs,n,_)=>if xs.length<=LN then(cM (fun x=>(iN cd ifs (.frz x (n||imm x)::caps.map fun i=>τ.getD i .un)).bind fun b =>
   if b then(aW cd elt (.frz x (n||imm x)::caps.map fun i=>τ.getD i .un)).bind fun r=>r.keep.map some else some none) xs).map fun(vs,m)=>.own vs m else none):=rfl
theorem cW:aW cd (.lc2 elt src ifs caps) τ=((lB cd src τ).bind fun(xs,n,_)=>if xs.length<=LN then(cM (fun x=>(oW x).bind fun(a,b)=>(iN cd ifs (.frz a (n||imm a)::.frz b (n||imm b)::caps.map fun i=>τ.getD i .un)).bind fun t =>
   if t then(aW cd elt (.frz a (n||imm a)::.frz b (n||imm b)::caps.map fun i=>τ.getD i .un)).bind fun r=>r.keep.map some else some none) xs).map fun(vs,m)=>.own vs m else none):=rfl
theorem cw:aW cd (.lci a i) τ=((aW cd a τ).bind fun x=>HG x τ[i]?):=rfl
theorem cv:aW cd (.lcs a) τ=((aW cd a τ).bind fun x=>HF x):=rfl
theorem cu:aW cd (.never) τ=(none):=rfl
theorem vB:bW cd (.nil) τ=(some []):=rfl
theorem vC:bW cd (.cons e es) τ=((aW cd e τ).bind fun x=>(bW cd es τ).map (x::·)):=rfl
theorem z0z:Ds cd (.no) τ=(some none):=rfl
theorem z14:Ds cd (.yes e) τ=((aW cd e τ).map some):=rfl
theorem vI:eA cd (.val e) τ=((aW cd e τ).bind fun x=>lV x.val):=rfl
theorem vK:eA cd (.not c) τ=((eA cd c τ).map (!·)):=rfl
theorem vL:eA cd (.and c d) τ=((eA cd c τ).bind fun r=>if r then eA cd d τ else some false):=rfl
theorem vJ:eA cd (.or c d) τ=((eA cd c τ).bind fun r=>if r then some true else eA cd d τ):=rfl
theorem Br:iN cd (.no) τ=(some true):=rfl
theorem Bq:iN cd (.yes c) τ=(eA cd c τ):=rfl
theorem A5:lB cd (.seq e) τ=((aW cd e τ).bind ia):=rfl
theorem A6:lB cd (.rng es) τ=((bW cd es τ).bind fun rs=>(io rs).map fun xs=>(xs,true,false)):=rfl
theorem A4:lB cd (.zip a b) τ=((aW cd a τ).bind fun x=>(aW cd b τ).bind fun y=>(vH x y).map fun(xs,n)=>(xs,n,false)):=rfl
theorem A7:lB cd (.enum a) τ=((aW cd a τ).bind fun x=>(mJ x).map fun(xs,n)=>(xs,n,false)):=rfl
theorem Bo:lB cd (.rvd a) τ=((aW cd a τ).bind fun x=>(rvF x).map fun(xs,n)=>(xs.reverse,n,false)):=rfl
theorem Bp:lB cd (.never) τ=(none):=rfl
theorem gM:cB cd fu (.asg i o cap e) τ=(let τ1:=av cap τ;(aW cd e τ1).bind fun r=>(mz o i r τ1).map .nx):=rfl
theorem ff:cB cd fu (.unp is cap e) τ=(let τ1:=av cap τ;(aW cd e τ1).bind fun r=>r.keep.bind fun(v,n)=>(CO is n v τ1).map .nx):=rfl
theorem fm:cB cd fu (.ret cap e) τ=(let τ1:=av cap τ;(aW cd e τ1).bind fun r=>r.keep.bind fun(v,n)=>if n then some (.rt v)else none):=rfl
theorem fk:cB cd fu (.retN) τ=(some (.rt .non)):=rfl
theorem gB:cB cd fu (.ife c a b) τ=((eA cd c τ).bind fun r=>if r then bJ cd fu a τ else bJ cd fu b τ):=rfl
theorem gF:cB cd fu (.forr is one cap src body) τ=(let τ1:=av cap τ;(lB cd src τ1).bind fun(xs,n,b)=>if b then none else j4 (eG is one n) (fun τ=>bJ cd fu body τ) xs τ1):=rfl
theorem fe:cB cd fu (.whil c body) τ=(yN (fun τ=>eA cd c τ) (fun τ=>bJ cd fu body τ) fu τ):=rfl
theorem fw:cB cd fu (.pass) τ=(some (.nx τ)):=rfl
theorem gJ:cB cd fu (.brk) τ=(some (.bk τ)):=rfl
theorem gH:cB cd fu (.cont) τ=(some (.ct τ)):=rfl
theorem gO:cB cd fu (.app i cap e) τ=(let τ1:=av cap τ;(aW cd e τ1).bind fun r=>r.keep.bind fun(v,m)=>match τ1[i]? with
  | some (.own xs n)=>if xs.length<LN then some (.nx (τ1.set i (.own (xs++[v]) (n&&m))))else none
  | _=>none):=rfl
theorem gA:cB cd fu (.ins i k e) τ=((aW cd k τ).bind fun x=>(aW cd e τ).bind fun r=>r.keep.bind fun(v,m)=>match x.val,τ[i]? with
  | .int j,some (.own xs n)=>if 0<=j/\j<=xs.length/\xs.length<LN then some (.nx (τ.set i (.own (xs.take j.toNat++v::xs.drop j.toNat) (n&&m))))else none
  | _,_=>none):=rfl
theorem ft:cB cd fu (.popD i) τ=(match τ[i]? with
  | some (.own xs n)=>if xs.length=0 then none else some (.nx (τ.set i (.own xs.dropLast n)))
  | _=>none):=rfl
theorem fq:cB cd fu (.popT j i) τ=(match τ[i]? with
  | some (.own xs n)=>match xs.getLast? with
   | some v=>if i=j then none else some (.nx ((τ.set i (.own xs.dropLast n)).set j (.frz v (n||imm v))))
   | none=>none
  | _=>none):=rfl
theorem gI:cB cd fu (.clr i) τ=(match τ[i]? with
  | some (.own _ _)=>some (.nx (τ.set i (.own [] true)))
  | _=>none):=rfl
theorem fj:cB cd fu (.revI i) τ=(match τ[i]? with
  | some (.own xs n)=>some (.nx (τ.set i (.own xs.reverse n)))
  | _=>none):=rfl
theorem fh:cB cd fu (.seti i cap k e) τ=(let τ1:=av cap τ;(aW cd e τ1).bind fun r=>r.keep.bind fun(v,m)=>(aW cd k τ1).bind fun x=>match x.val,τ1[i]? with
  | .int j,some (.own xs n)=>(oz xs.length j).map fun q=>.nx (τ1.set i (.own (xs.set q v) (n&&m)))
  | y,some (.owd (.dK ks) xs n)=>(ly y).bind fun k=>if xs.length<LN then some (.nx (τ1.set i (.owd (.dK (oO ks k)) (putL ks xs k v) (n&&m))))else none
  | _,_=>none):=rfl
theorem fg:cB cd fu (.sett i cap es e) τ=(let τ1:=av cap τ;(aW cd e τ1).bind fun r=>r.keep.bind fun(v,m)=>(bW cd es τ1).bind fun rs=>(iJ (rs.map RV.val)).bind fun k=>match τ1[i]? with
  | some (.owd (.dT ks) xs n)=>if xs.length<LN/\k.length<=LN then some (.nx (τ1.set i (.owd (.dT (oO ks k)) (putL ks xs k v) (n&&m))))else none
  | _=>none):=rfl
theorem gG:cB cd fu (.drop e) τ=((aW cd e τ).map fun _=>.nx τ):=rfl
theorem gN:cB cd fu (.appE o e) τ=((aW cd o τ).bind fun a=>match a with
  | .own xs _=>(aW cd e τ).bind fun _=>if xs.length<LN then some (.nx τ)else none
  | _=>none):=rfl
theorem gL:cB cd fu (.aug i op e) τ=((aW cd e τ).bind fun r=>match τ[i]?,r.val,op with
  | some (.frz (.int x) _),.int y,.Add=>some (.nx (τ.set i (.frz (.int (x+y)) true)))
  | some (.frz (.int x) _),.int y,.Sub=>some (.nx (τ.set i (.frz (.int (x-y)) true)))
  | _,_,_=>none):=rfl
theorem gK:cB cd fu (.augS i op k e) τ=((aW cd k τ).bind fun x=>(lA x.val).bind fun j=>(aW cd e τ).bind fun r=>(lA r.val).bind fun y=>match τ[i]? with
  | some (.own xs n)=>(oz xs.length j).bind fun q=>((xs[q]?).bind lA).bind fun a=>match op with
   | .Add=>some (.nx (τ.set i (.own (xs.set q (.int (a+y))) n)))
   | .Sub=>some (.nx (τ.set i (.own (xs.set q (.int (a-y))) n)))
   | _=>none
  | _=>none):=rfl
theorem gE:cB cd fu (.grp i es c a) τ=((bW cd es τ).bind fun rs=>match rs with
  | [.own xs true,.own ys true]=>if xs.length<LN/\ys.length<LN then(eA cd c (τ.set i (.frz (.lst [.lst xs,.lst ys]) true))).bind fun b=>if b then(match bJ cd fu a (τ.set i (.frz (.lst [.lst xs,.lst ys]) true))with
   | some (.rt v)=>some (.rt v)
   | _=>none)else some (.nx (τ.set i .un))else none
  | _=>none):=rfl
theorem gC:cB cd fu (.hand m g) τ=((g ((τ.take m).map TV.valD)).map .rt):=rfl
theorem fo:cB cd fu (.rais w1) τ=(none):=rfl
theorem fz:cB cd fu (.never) τ=(none):=rfl
theorem yV:bJ cd fu (.nil) τ=(some (.nx τ)):=rfl
theorem yW:bJ cd fu (.cons s ss) τ=((cB cd fu s τ).bind fun f=>dE f (fun τ1=>bJ cd fu ss τ1)):=rfl
end
end IR
namespace IR
open PySem PySem.Spec PyProof.Rows L2
noncomputable def del(H:Hp)(p:Addr):Hp:=fun b=>if b=p then none else H b
noncomputable def aX(H:Hp)(O:List Addr):Hp:=fun b=>if b∈O then none else H b
theorem eU{H H' :Hp}{p:Addr}(s:aE H H'):aE (del H p) (del H' p):=fun b o e=>by
 unfold del at e ⊢
 split at e
 ·cases e
 ·rename_i h
  rw[Iq h];exact s b o e
theorem aL{H H' :Hp}{O:List Addr}(s:aE H H'):aE (aX H O) (aX H' O):=fun b o e=>by
 unfold aX at e ⊢
 split at e
 ·cases e
 ·rename_i h
  rw[Iq h];exact s b o e
theorem bM{H:Hp}{p:Addr}:aE (del H p) H:=fun b o e=>by
 unfold del at e
 split at e
 ·cases e
 ·exact e
theorem aY{H:Hp}{O:List Addr}:aE (aX H O) H:=fun b o e=>by
 unfold aX at e
 split at e
 ·cases e
 ·exact e
theorem sj{H:Hp}{O O' :List Addr}(h:∀b∈O',b∈O):aE (aX H O) (aX H O'):=fun b o e=>by
 unfold aX at e ⊢
 split at e
 ·cases e
 ·rename_i n
  rw[Iq fun z=>n (h b z)];exact e
theorem sq{H:Hp}:aX H []=H:=by funext b;unfold aX;simp
section
variable(K:W.Frag)(Hi:Hp)
mutual
noncomputable def Rp(n:Bool):PV->Hp->V->Prop
 | .non,_,u=>u=.non
 | .bl b,_,u=>u=.bl b
 | .int i,_,u=>u=.int i
 | .str z,_,u=>u=.str z
 | .lst xs,H,u=>∃p us,u=.ref p/\(n=true->Hi p=none/\H p=some (.lst us))/\bN K H p us/\aJ n xs (del H p) us
 | .tup xs,H,u=>∃p us,u=.ref p/\bw K H p us/\aJ n xs H us
 | .dK ks vs,H,u=>∃p us,u=.ref p/\(n=true->Hi p=none)/\H p=some (.dK (ks.zip us))/\ks.length=us.length/\aJ n vs (del H p) us
 | .dT ks vs,H,u=>∃p us,u=.ref p/\(n=true->Hi p=none)/\H p=some (.dT (ks.zip us))/\ks.length=us.length/\aJ n vs (del H p) us
noncomputable def aJ(n:Bool):List PV->Hp->List V->Prop
 | [],_,us=>us=[]
 | x::xs,H,us=>∃u r,us=u::r/\Rp n x H u/\aJ n xs H r
end
end
section
variable{K:W.Frag}{Hi:Hp}
mutual
theorem Rp.mono{n:Bool}:∀{v:PV}{H H' :Hp}{u:V},aE H H' ->Rp K Hi n v H u->Rp K Hi n v H' u
 | .non,_,_,_,_,h=>by unfold Rp at h ⊢;exact h
 | .bl _,_,_,_,_,h=>by unfold Rp at h ⊢;exact h
 | .int _,_,_,_,_,h=>by unfold Rp at h ⊢;exact h
 | .str _,_,_,_,_,h=>by unfold Rp at h ⊢;exact h
 | .lst xs,_,_,_,s,h=>by
  unfold Rp at h ⊢;obtain⟨p,us,e,q,l,r⟩:=h;exact⟨p,us,e,fun z=>⟨(q z).1,s _ _ (q z).2⟩,s.seq l,aJ.mono (eU s) r⟩
 | .tup xs,_,_,_,s,h=>by
  unfold Rp at h ⊢;obtain⟨p,us,e,l,r⟩:=h;exact⟨p,us,e,s.tup l,aJ.mono s r⟩
 | .dK ks vs,_,_,_,s,h=>by
  unfold Rp at h ⊢;obtain⟨p,us,e,q,l,z,r⟩:=h;exact⟨p,us,e,q,s _ _ l,z,aJ.mono (eU s) r⟩
 | .dT ks vs,_,_,_,s,h=>by
  unfold Rp at h ⊢;obtain⟨p,us,e,q,l,z,r⟩:=h;exact⟨p,us,e,q,s _ _ l,z,aJ.mono (eU s) r⟩
theorem aJ.mono{n:Bool}:∀{xs:List PV}{H H' :Hp}{us:List V},aE H H' ->aJ K Hi n xs H us->aJ K Hi n xs H' us
 | [],_,_,_,_,h=>by unfold aJ at h ⊢;exact h
 | x::xs,_,_,_,s,h=>by
  unfold aJ at h ⊢;obtain⟨u,r,e,a,b⟩:=h;exact⟨u,r,e,Rp.mono s a,aJ.mono s b⟩
end
mutual
theorem Rp.weak{n:Bool}:∀{v:PV}{H:Hp}{u:V},Rp K Hi n v H u->Rp K Hi false v H u
 | .non,_,_,h=>by unfold Rp at h ⊢;exact h
 | .bl _,_,_,h=>by unfold Rp at h ⊢;exact h
 | .int _,_,_,h=>by unfold Rp at h ⊢;exact h
 | .str _,_,_,h=>by unfold Rp at h ⊢;exact h
 | .lst xs,_,_,h=>by
  unfold Rp at h ⊢;obtain⟨p,us,e,q,l,r⟩:=h;exact⟨p,us,e,(fun z=>absurd z Ir),l,aJ.weak r⟩
 | .tup xs,_,_,h=>by
  unfold Rp at h ⊢;obtain⟨p,us,e,l,r⟩:=h;exact⟨p,us,e,l,aJ.weak r⟩
 | .dK ks vs,_,_,h=>by
  unfold Rp at h ⊢;obtain⟨p,us,e,q,l,z,r⟩:=h;exact⟨p,us,e,(fun z=>absurd z Ir),l,z,aJ.weak r⟩
 | .dT ks vs,_,_,h=>by
  unfold Rp at h ⊢;obtain⟨p,us,e,q,l,z,r⟩:=h;exact⟨p,us,e,(fun z=>absurd z Ir),l,z,aJ.weak r⟩
theorem aJ.weak{n:Bool}:∀{xs:List PV}{H:Hp}{us:List V},aJ K Hi n xs H us->aJ K Hi false xs H us
 | [],_,_,h=>by unfold aJ at h ⊢;exact h
 | x::xs,_,_,h=>by
  unfold aJ at h ⊢;obtain⟨u,r,e,a,b⟩:=h;exact⟨u,r,e,Rp.weak a,aJ.weak b⟩
end
theorem Rp.low{n m:Bool}{v:PV}{H:Hp}{u:V}(h:Rp K Hi n v H u)(e:m=true->n=true):Rp K Hi m v H u:=by
 cases n with
 | true=>cases m with
  | true=>exact h
  | false=>exact h.weak
 | false=>cases m with
  | true=>cases e rfl
  | false=>exact h
theorem aJ.low{n m:Bool}{v:List PV}{H:Hp}{u:List V}(h:aJ K Hi n v H u)(e:m=true->n=true):aJ K Hi m v H u:=by
 cases n with
 | true=>cases m with
  | true=>exact h
  | false=>exact h.weak
 | false=>cases m with
  | true=>cases e rfl
  | false=>exact h
mutual
theorem Rp.entry{Hj:Hp}{n:Bool}(k:n=true->∀p,Hi p=none->Hj p=none):∀{v:PV}{H:Hp}{u:V},Rp K Hi n v H u->Rp K Hj n v H u
 | .non,_,_,h=>by unfold Rp at h ⊢;exact h
 | .bl _,_,_,h=>by unfold Rp at h ⊢;exact h
 | .int _,_,_,h=>by unfold Rp at h ⊢;exact h
 | .str _,_,_,h=>by unfold Rp at h ⊢;exact h
 | .lst xs,_,_,h=>by
  unfold Rp at h ⊢;obtain⟨p,us,e,q,l,r⟩:=h;exact⟨p,us,e,fun z=>⟨k z _ (q z).1,(q z).2⟩,l,aJ.entry k r⟩
 | .tup xs,_,_,h=>by
  unfold Rp at h ⊢;obtain⟨p,us,e,l,r⟩:=h;exact⟨p,us,e,l,aJ.entry k r⟩
 | .dK ks vs,_,_,h=>by
  unfold Rp at h ⊢;obtain⟨p,us,e,q,l,z,r⟩:=h;exact⟨p,us,e,fun z=>k z _ (q z),l,z,aJ.entry k r⟩
 | .dT ks vs,_,_,h=>by
  unfold Rp at h ⊢;obtain⟨p,us,e,q,l,z,r⟩:=h;exact⟨p,us,e,fun z=>k z _ (q z),l,z,aJ.entry k r⟩
theorem aJ.entry{Hj:Hp}{n:Bool}(k:n=true->∀p,Hi p=none->Hj p=none):∀{xs:List PV}{H:Hp}{us:List V},aJ K Hi n xs H us->aJ K Hj n xs H us
 | [],_,_,h=>by unfold aJ at h ⊢;exact h
 | x::xs,_,_,h=>by
  unfold aJ at h ⊢;obtain⟨u,r,e,a,b⟩:=h;exact⟨u,r,e,Rp.entry k a,aJ.entry k b⟩
end
noncomputable def rN(H G:Hp):Prop:=(∀b xs,H b=some (.tup xs)->G b=some (.tup xs))/\∀b o xs,H b=some (.frz o (.tup xs))->G b=some (.frz o (.tup xs))
theorem rN.at{H G:Hp}(t:rN H G){p:Addr}{xs:List V}(h:bw K H p xs):bw K G p xs:=by
 rcases h with(h|⟨o,h⟩)|h
 ·exact .inl (.inl (t.1 _ _ h))
 ·exact .inl (.inr ⟨o,t.2 _ _ _ h⟩)
 ·exact .inr h
mutual
theorem Rp.imm{n m:Bool}:∀{v:PV}{H G:Hp}{u:V},imm v=true->rN H G->Rp K Hi n v H u->Rp K Hi m v G u
 | .non,_,_,_,_,_,h=>by unfold Rp at h ⊢;exact h
 | .bl _,_,_,_,_,_,h=>by unfold Rp at h ⊢;exact h
 | .int _,_,_,_,_,_,h=>by unfold Rp at h ⊢;exact h
 | .str _,_,_,_,_,_,h=>by unfold Rp at h ⊢;exact h
 | .lst xs,_,_,_,i,_,h=>by unfold IR.imm at i;cases i
 | .tup xs,_,_,_,i,t,h=>by
  unfold Rp at h ⊢;unfold IR.imm at i;obtain⟨p,us,e,l,r⟩:=h;exact⟨p,us,e,t.at l,aJ.imm i t r⟩
 | .dK ks vs,_,_,_,i,_,h=>by unfold IR.imm at i;cases i
 | .dT ks vs,_,_,_,i,_,h=>by unfold IR.imm at i;cases i
theorem aJ.imm{n m:Bool}:∀{xs:List PV}{H G:Hp}{us:List V},imms xs=true->rN H G->aJ K Hi n xs H us->aJ K Hi m xs G us
 | [],_,_,_,_,_,h=>by unfold aJ at h ⊢;exact h
 | x::xs,_,_,_,i,t,h=>by
  unfold aJ at h ⊢;unfold imms at i;rw[Iu]at i;obtain⟨u,r,e,a,b⟩:=h;exact⟨u,r,e,Rp.imm i.1 t a,aJ.imm i.2 t b⟩
end
theorem Rp.up{n:Bool}{v:PV}{H:Hp}{u:V}(h:Rp K Hi n v H u):Rp K Hi (n||IR.imm v) v H u:=by
 cases e:IR.imm v with
 | true=>rw[Lb];exact Rp.imm e ⟨fun _ _ e=>e,fun _ _ _ e=>e⟩ h
 | false=>rw[Bool.or_false];exact h
theorem aJ.up{n:Bool}{v:List PV}{H:Hp}{u:List V}(h:aJ K Hi n v H u):aJ K Hi (n||IR.imms v) v H u:=by
 cases e:IR.imms v with
 | true=>rw[Lb];exact aJ.imm e ⟨fun _ _ e=>e,fun _ _ _ e=>e⟩ h
 | false=>rw[Bool.or_false];exact h
theorem aJ.len{n:Bool}:∀{xs:List PV}{H:Hp}{us:List V},aJ K Hi n xs H us->xs.length=us.length
 | [],_,_,h=>by unfold aJ at h;rw[h];rfl
 | x::xs,_,_,h=>by
  unfold aJ at h;obtain⟨u,r,e,a,b⟩:=h;rw[e,JI,JI,aJ.len b]
theorem aJ.at{n:Bool}:∀{xs:List PV}{H:Hp}{us:List V}{i:Nat}{x:PV},aJ K Hi n xs H us->xs[i]? =some x->∃u,us[i]? =some u/\Rp K Hi n x H u
 | [],_,_,_,_,h,e=>by simp at e
 | y::xs,_,_,i,x,h,e=>by
  unfold aJ at h;obtain⟨u,r,rfl,a,b⟩:=h;cases i with
  | zero=>simp at e;subst e;exact⟨u,by simp,a⟩
  | succ i=>simpa using aJ.at (i:=i) (x:=x) b (by simpa using e)
theorem aJ.at'{n:Bool}:∀{xs:List PV}{H:Hp}{us:List V}{i:Nat}{u:V},aJ K Hi n xs H us->us[i]? =some u->∃x,xs[i]? =some x/\Rp K Hi n x H u
 | [],_,_,_,_,h,e=>by unfold aJ at h;subst h;simp at e
 | y::xs,_,_,i,x,h,e=>by
  unfold aJ at h;obtain⟨u,r,rfl,a,b⟩:=h;cases i with
  | zero=>simp at e;subst e;exact⟨y,by simp,a⟩
  | succ i=>simpa using aJ.at' (i:=i) (u:=x) b (by simpa using e)
theorem aJ.nil{n:Bool}{H:Hp}:aJ K Hi n [] H []:=by unfold aJ;rfl
theorem aJ.cons{n:Bool}{x:PV}{xs:List PV}{H:Hp}{u:V}{us:List V}(a:Rp K Hi n x H u)(b:aJ K Hi n xs H us):aJ K Hi n (x::xs) H (u::us):=by unfold aJ;exact⟨u,us,rfl,a,b⟩
theorem aJ.app{n:Bool}:∀{xs ys:List PV}{H:Hp}{us vs:List V},aJ K Hi n xs H us->aJ K Hi n ys H vs->aJ K Hi n (xs++ys) H (us++vs)
 | [],_,_,_,_,h,g=>by unfold aJ at h;subst h;exact g
 | x::xs,_,_,_,_,h,g=>by
  unfold aJ at h;obtain⟨u,r,rfl,a,b⟩:=h;exact .cons a (aJ.app b g)
theorem aJ.take{n:Bool}:∀{xs:List PV}{H:Hp}{us:List V}(k:Nat),aJ K Hi n xs H us->aJ K Hi n (xs.take k) H (us.take k)
 | [],_,_,_,h=>by unfold aJ at h;subst h;simp;exact .nil
 | x::xs,_,_,k,h=>by
  unfold aJ at h;obtain⟨u,r,rfl,a,b⟩:=h;cases k with
  | zero=>exact .nil
  | succ k=>exact .cons a (aJ.take k b)
theorem aJ.drop{n:Bool}:∀{xs:List PV}{H:Hp}{us:List V}(k:Nat),aJ K Hi n xs H us->aJ K Hi n (xs.drop k) H (us.drop k)
 | [],_,_,_,h=>by unfold aJ at h;subst h;simp;exact .nil
 | x::xs,_,_,k,h=>by
  unfold aJ at h;obtain⟨u,r,rfl,a,b⟩:=h;cases k with
  | zero=>exact .cons a b
  | succ k=>exact aJ.drop k b
theorem aJ.rev{n:Bool}:∀{xs:List PV}{H:Hp}{us:List V},aJ K Hi n xs H us->aJ K Hi n xs.reverse H us.reverse
 | [],_,_,h=>by unfold aJ at h;subst h;exact .nil
 | x::xs,_,_,h=>by
  unfold aJ at h;obtain⟨u,r,rfl,a,b⟩:=h;rw[LB,LB];exact aJ.app (aJ.rev b) (.cons a .nil)
theorem aJ.set{n:Bool}:∀{xs:List PV}{H:Hp}{us:List V}(k:Nat){x:PV}{u:V},aJ K Hi n xs H us->Rp K Hi n x H u->aJ K Hi n (xs.set k x) H (us.set k u)
 | [],_,_,_,_,_,h,_=>by unfold aJ at h;subst h;exact .nil
 | y::xs,_,_,k,_,_,h,g=>by
  unfold aJ at h;obtain⟨u,r,rfl,a,b⟩:=h;cases k with
  | zero=>exact .cons g b
  | succ k=>exact .cons a (aJ.set k b g)
theorem Rp.int{n:Bool}{i:Int}{H:Hp}{u:V}:Rp K Hi n (.int i) H u↔u=.int i:=by unfold Rp;rfl
theorem Rp.str{n:Bool}{i:Str}{H:Hp}{u:V}:Rp K Hi n (.str i) H u↔u=.str i:=by unfold Rp;rfl
theorem Rp.bl{n:Bool}{i:Bool}{H:Hp}{u:V}:Rp K Hi n (.bl i) H u↔u=.bl i:=by unfold Rp;rfl
theorem Rp.non{n:Bool}{H:Hp}{u:V}:Rp K Hi n .non H u↔u=.non:=by unfold Rp;rfl
theorem Rp.tup{n:Bool}{xs:List PV}{H:Hp}{u:V}:Rp K Hi n (.tup xs) H u↔∃p us,u=.ref p/\bw K H p us/\aJ K Hi n xs H us:=by rw[Rp]
theorem Rp.lst{n:Bool}{xs:List PV}{H:Hp}{u:V}:Rp K Hi n (.lst xs) H u↔∃p us,u=.ref p/\(n=true->Hi p=none/\H p=some (.lst us))/\bN K H p us/\aJ K Hi n xs (del H p) us:=by rw[Rp]
theorem aJ.ints{n:Bool}{H:Hp}:∀{xs:List Int}{us:List V},aJ K Hi n (xs.map PV.int) H us↔us=xs.map V.int
 | [],us=>by unfold aJ;rfl
 | x::xs,us=>by
  rw[JH,JH,aJ]
  constructor
  ·rintro⟨u,r,rfl,a,b⟩
   rw[Rp.int.mp a,aJ.ints.mp b]
  ·rintro rfl
   exact⟨_,_,rfl,Rp.int.mpr rfl,aJ.ints.mpr rfl⟩
noncomputable def At:Bd->List V->HO->Prop
 | .lst,us,o=>o=.lst us
 | .dK ks,us,o=>o=.dK (ks.zip us)/\ks.length=us.length
 | .dT ks,us,o=>o=.dT (ks.zip us)/\ks.length=us.length
noncomputable def Mo(o:HO):Prop:=∃b us,At b us o
theorem Mo.lst{us:List V}:Mo (.lst us):=⟨.lst,us,rfl⟩
theorem Mo.tup{xs:List V}(h:Mo (.tup xs)):False:=by
 obtain⟨b,us,h⟩:=h;cases b with
 | lst=>cases h
 | dK ks=>cases h.1
 | dT ks=>cases h.1
variable(K Hi)in
structure ao(O:List Addr)(τ:En)(σ:L2.St)(H:Hp):Prop where
 same:aE Hi H
 own:∀l∈O,Hi l=none/\∃o,H l=some o/\Mo o
 frz:∀(i:Nat)(v:PV)(n:Bool),τ[i]? =some (.frz v n)->∃u,σ[i]? =some (some u)/\Rp K Hi n v (aX H O) u
 obs:∀(i:Nat)(t:TV)(b:Bd)(xs:List PV)(n:Bool),τ[i]? =some t->t.ob=some (b,xs,n)->∃l us o,σ[i]? =some (some (.ref l))/\l∈O/\H l=some o/\At b us o/\aJ K Hi n xs (aX H O) us
 dst:∀(i j:Nat)(t t' :TV)(x y:Bd×List PV×Bool)(l:Addr),τ[i]? =some t->t.ob=some x->τ[j]? =some t' ->t'.ob=some y->σ[i]? =some (some (.ref l))->σ[j]? =some (some (.ref l))->i=j
section
variable{O:List Addr}{τ:En}{σ:L2.St}{H H' :Hp}
theorem ao.owns(R:ao K Hi O τ σ H)(i:Nat)(xs:List PV)(n:Bool)(e:τ[i]? =some (.own xs n)):∃l us,σ[i]? =some (some (.ref l))/\l∈O/\H l=some (.lst us)/\aJ K Hi n xs (aX H O) us:=by
 obtain⟨l,us,o,h1,h2,h3,h4,h5⟩:=R.obs i _ .lst xs n e rfl;cases h4;exact⟨l,us,h1,h2,h3,h5⟩
theorem ao.ext(R:ao K Hi O τ σ H)(s:aE H H'):ao K Hi O τ σ H' where
 same:=R.same.trans s
 own:=fun l hl=>⟨(R.own l hl).1,by obtain⟨o,e,m⟩:=(R.own l hl).2;exact⟨o,s _ _ e,m⟩⟩
 frz:=fun i v n e=>by obtain⟨u,h1,h2⟩:=R.frz i v n e;exact⟨u,h1,h2.mono (aL s)⟩
 obs:=fun i t b xs n e ht=>by obtain⟨l,us,o,h1,h2,h3,h4,h5⟩:=R.obs i t b xs n e ht;exact⟨l,us,o,h1,h2,s _ _ h3,h4,h5.mono (aL s)⟩
 dst:=R.dst
theorem ao.tups(R:ao K Hi O τ σ H):rN H (aX H O):=by
 refine⟨fun b xs e=> ?_,fun b o xs e=> ?_⟩
 ·unfold aX
  rw[Iq fun z=> ?_]
  ·exact e
  ·obtain⟨us,e',m⟩:=(R.own b z).2
   rw[e]at e';cases e';exact m.tup
 ·unfold aX
  rw[Iq fun z=> ?_]
  ·exact e
  ·obtain⟨us,e',m⟩:=(R.own b z).2
   rw[e]at e';cases e';obtain⟨b,us,m⟩:=m;cases b with
   | lst=>cases m
   | dK ks=>cases m.1
   | dT ks=>cases m.1
theorem bF{α:Type}{l:List α}{i j:Nat}{x y:α}(h:(l.set i x)[j]? =some y):(i=j/\y=x)\/(i≠j/\l[j]? =some y):=by
 rw[Lk]at h
 split at h
 ·rename_i e
  split at h
  ·exact .inl ⟨e,(JF h).symm⟩
  ·cases h
 ·rename_i e
  exact .inr ⟨e,h⟩
theorem ao.setF(R:ao K Hi O τ σ H){i:Nat}{v:PV}{n:Bool}{u:V}(hi:i<σ.length)(r:Rp K Hi n v (aX H O) u):ao K Hi O (τ.set i (.frz v n)) (σ.set i (some u)) H where
 same:=R.same
 own:=R.own
 frz:=fun j w m e=>by
  rcases bF e with⟨rfl,e'⟩|⟨ne,e'⟩
  ·cases e'
   exact⟨u,by rw[KB hi],r⟩
  ·obtain⟨u',h1,h2⟩:=R.frz j w m e'
   exact⟨u',by rw[Ja ne];exact h1,h2⟩
 obs:=fun j t b xs m e ht=>by
  rcases bF e with⟨rfl,e'⟩|⟨ne,e'⟩
  ·subst e'
   cases ht
  ·obtain⟨l,us,o,h1,h2⟩:=R.obs j t b xs m e' ht
   exact⟨l,us,o,by rw[Ja ne];exact h1,h2⟩
 dst:=fun a b t t' x y l e1 ht e2 ht' h1 h2=>by
  rcases bF e1 with⟨_,z⟩|⟨ne1,z1⟩
  ·subst z
   cases ht
  ·rcases bF e2 with⟨_,z⟩|⟨ne2,z2⟩
   ·subst z
    cases ht'
   ·rw[Ja ne1]at h1
    rw[Ja ne2]at h2;exact R.dst a b t t' x y l z1 ht z2 ht' h1 h2
theorem ao.setB(R:ao K Hi O τ σ H){i:Nat}{t0:TV}{b0:Bd}{xs:List PV}{n:Bool}{p:Addr}{us:List V}{o:HO}(hob:t0.ob=some (b0,xs,n))(hi:i<σ.length)(s:aE H H')(h0:H p=none)(h1:H' p=some o)(ha:At b0 us o)(r:aJ K Hi n xs (aX H' (p::O)) us) :
  ao K Hi (p::O) (τ.set i t0) (σ.set i (some (.ref p))) H' :=by
 have hs:aE (aX H O) (aX H' (p::O)):=fun b o e=>by
  unfold aX at e ⊢
  split at e
  ·cases e
  ·rename_i nb
   have ne:b≠p:=aM e h0;rw[Iq (by simp[ne,nb])];exact s b o e
 have hn:Hi p=none:=R.same.free h0;refine⟨R.same.trans s,fun l hl=> ?_,fun j w m e=> ?_,fun j t b ys m e ht=> ?_,fun a b t t' x y l e1 ht e2 ht' g1 g2=> ?_⟩
 ·rcases JD.mp hl with rfl|hl
  ·exact⟨hn,o,h1,_,_,ha⟩
  ·obtain⟨q,vs,e,m⟩:=R.own l hl
   exact⟨q,vs,s _ _ e,m⟩
 ·rcases bF e with⟨rfl,e'⟩|⟨ne,e'⟩
  ·rw[<- e']at hob
   cases hob
  ·obtain⟨u',g1,g2⟩:=R.frz j w m e'
   exact⟨u',by rw[Ja ne];exact g1,g2.mono hs⟩
 ·rcases bF e with⟨rfl,e'⟩|⟨ne,e'⟩
  ·subst e'
   rw[hob]at ht;cases ht;exact⟨p,us,o,by rw[KB hi],Ip,h1,ha,r⟩
  ·obtain⟨l,vs,o',g1,g2,g3,g4,g5⟩:=R.obs j t b ys m e' ht
   exact⟨l,vs,o',by rw[Ja ne];exact g1,Im _ g2,s _ _ g3,g4,g5.mono hs⟩
 ·have old:∀(c:Nat)(t:TV)(x:Bd×List PV×Bool),τ[c]? =some t->t.ob=some x->σ[c]? =some (some (.ref l))->l≠p:=fun c t x e ht g=>by
   obtain⟨b',zs,q⟩:=x;obtain⟨l',vs,o',q1,q2,q3,_⟩:=R.obs c t b' zs q e ht;rw[q1]at g;cases g;exact aM q3 h0
  rcases bF e1 with⟨rfl,z1⟩|⟨ne1,z1⟩
  ·rw[KB hi]at g1
   cases g1
   rcases bF e2 with⟨rfl,_⟩|⟨ne2,z2⟩
   ·rfl
   ·rw[Ja ne2]at g2
    exact absurd rfl (old b t' y z2 ht' g2)
  ·rw[Ja ne1]at g1
   rcases bF e2 with⟨rfl,z2⟩|⟨ne2,z2⟩
   ·rw[KB hi]at g2
    cases g2;exact absurd rfl (old a t x z1 ht g1)
   ·rw[Ja ne2]at g2
    exact R.dst a b t t' x y l z1 ht z2 ht' g1 g2
theorem ao.setO(R:ao K Hi O τ σ H){i:Nat}{xs:List PV}{n:Bool}{p:Addr}{us:List V}(hi:i<σ.length)(s:aE H H')(h0:H p=none)(h1:H' p=some (.lst us))(r:aJ K Hi n xs (aX H' (p::O)) us) :
  ao K Hi (p::O) (τ.set i (.own xs n)) (σ.set i (some (.ref p))) H' :=R.setB (b0:=.lst) rfl hi s h0 h1 rfl r
theorem ao.updB(R:ao K Hi O τ σ H){i:Nat}{t t1:TV}{b b1:Bd}{xs ys:List PV}{n m:Bool}{l:Addr}{us:List V}{o:HO}(e:τ[i]? =some t)(ht:t.ob=some (b,xs,n))(ht1:t1.ob=some (b1,ys,m))(hl:σ[i]? =some (some (.ref l)))(ha:At b1 us o)(r:aJ K Hi m ys (aX H O) us) :
  ao K Hi O (τ.set i t1) σ (L2.upd H l o):=by
 obtain⟨l',vs,o',g1,g2,g3,g4,g5⟩:=R.obs i t b xs n e ht;rw[hl]at g1;cases g1;have hh:aX (L2.upd H l o) O=aX H O:=by
  funext b
  unfold aX
  split
  ·rfl
  ·rename_i nb
   exact aD fun z=>nb (z▸g2)
 have hn:=(R.own l g2).1;have hi:i<τ.length:=(Iw.mp e).1;refine⟨fun b o q=> ?_,fun k hk=> ?_,fun j w q z=> ?_,fun j t2 b2 zs q z ht2=> ?_,fun a b t2 t3 x y c e1 h2 e2 h3 k1 k2=> ?_⟩
 ·rw[aD (aM q hn)]
  exact R.same b o q
 ·obtain⟨q,ws,z,mo⟩:=R.own k hk
  refine⟨q,?_⟩
  by_cases c:k=l
  ·subst c
   exact⟨o,aK,_,_,ha⟩
  ·exact⟨ws,by rw[aD c];exact z,mo⟩
 ·rw[hh]
  rcases bF z with⟨rfl,z'⟩|⟨ne,z'⟩
  ·rw[<- z']at ht1
   cases ht1
  ·exact R.frz j w q z'
 ·rw[hh]
  rcases bF z with⟨rfl,z'⟩|⟨ne,z'⟩
  ·subst z'
   rw[ht1]at ht2;cases ht2;exact⟨l,us,o,hl,g2,aK,ha,r⟩
  ·obtain⟨l2,ws,o2,q1,q2,q3,q4,q5⟩:=R.obs j t2 b2 zs q z' ht2
   refine⟨l2,ws,o2,q1,q2,?_,q4,q5⟩;rw[aD fun c=> ?_]
   ·exact q3
   ·subst c
    exact ne (R.dst i j t t2 _ _ l2 e ht z' ht2 hl q1)
 ·have back:∀(c:Nat)(t2:TV)(x:Bd×List PV×Bool),(τ.set i t1)[c]? =some t2->t2.ob=some x->∃(t3:TV)(y:Bd×List PV×Bool),τ[c]? =some t3/\t3.ob=some y:=fun c t2 x z h=>by
   rcases bF z with⟨rfl,_⟩|⟨_,z'⟩
   ·exact⟨_,_,e,ht⟩
   ·exact⟨_,_,z',h⟩
  obtain⟨_,_,z1,w1⟩:=back a t2 x e1 h2;obtain⟨_,_,z2,w2⟩:=back b t3 y e2 h3;exact R.dst a b _ _ _ _ c z1 w1 z2 w2 k1 k2
theorem ao.upd(R:ao K Hi O τ σ H){i:Nat}{xs ys:List PV}{n m:Bool}{l:Addr}{us:List V}(e:τ[i]? =some (.own xs n))(hl:σ[i]? =some (some (.ref l)))(r:aJ K Hi m ys (aX H O) us) :
  ao K Hi O (τ.set i (.own ys m)) σ (L2.upd H l (.lst us)):=R.updB (b1:=.lst) e rfl rfl hl rfl r
theorem Rp.at{n:Bool}{b:Bd}{xs:List PV}{us:List V}{o:HO}{l:Addr}{G:Hp}(hn:n=true->Hi l=none)(h:G l=some o)(ha:At b us o)(r:aJ K Hi n xs (del G l) us):Rp K Hi n (b.pv xs) G (.ref l):=by
 cases b with
 | lst=>cases ha;exact Rp.lst.mpr ⟨l,us,rfl,fun z=>⟨hn z,h⟩,bN.of h,r⟩
 | dK ks =>
  obtain⟨rfl,hl⟩:=ha;show Rp K Hi n (.dK ks xs) G (.ref l);unfold Rp;exact⟨l,us,rfl,hn,h,hl,r⟩
 | dT ks =>
  obtain⟨rfl,hl⟩:=ha;show Rp K Hi n (.dT ks xs) G (.ref l);unfold Rp;exact⟨l,us,rfl,hn,h,hl,r⟩
theorem ao.freezeB(R:ao K Hi O τ σ H){i:Nat}{t:TV}{b0:Bd}{xs:List PV}{n:Bool}(e:τ[i]? =some t)(ht:t.ob=some (b0,xs,n)):∃O',ao K Hi O' (τ.set i (.frz (b0.pv xs) n)) σ H/\∀b∈O',b∈O:=by
 obtain⟨l,us,o,g1,g2,g3,g4,g5⟩:=R.obs i t b0 xs n e ht;refine⟨O.filter fun b=>decide (b≠l),?_,fun b hb=>(KI.mp hb).1⟩;have mem:∀b,b∈O.filter (fun b=>decide (b≠l))↔b∈O/\b≠l:=fun b=>by simp
 have hs:aE (aX H O) (aX H (O.filter fun b=>decide (b≠l))):=sj fun b hb=>((mem b).mp hb).1;have hd:aE (aX H O) (del (aX H (O.filter fun b=>decide (b≠l))) l):=fun b o z=>by
  unfold aX at z
  split at z
  ·cases z
  ·rename_i nb
   have ne:b≠l:=fun c=>nb (c▸g2);unfold del aX;rw[Iq ne,Iq fun c=>nb ((mem b).mp c).1];exact z
 have hl:aX H (O.filter fun b=>decide (b≠l)) l=some o:=by
  unfold aX;rw[Iq fun c=>((mem l).mp c).2 rfl];exact g3
 refine⟨R.same,fun b hb=>R.own b ((mem b).mp hb).1,fun j w m z=> ?_,fun j t2 b2 ys m z ht2=> ?_,fun a b t2 t3 x y c e1 h2 e2 h3 k1 k2=> ?_⟩
 ·rcases bF z with⟨rfl,z'⟩|⟨ne,z'⟩
  ·cases z'
   exact⟨.ref l,g1,Rp.at (fun _=>(R.own l g2).1) hl g4 (g5.mono hd)⟩
  ·obtain⟨u,q1,q2⟩:=R.frz j w m z'
   exact⟨u,q1,q2.mono hs⟩
 ·rcases bF z with⟨rfl,z'⟩|⟨ne,z'⟩
  ·subst z'
   cases ht2
  ·obtain⟨l2,ws,o2,q1,q2,q3,q4,q5⟩:=R.obs j t2 b2 ys m z' ht2
   exact⟨l2,ws,o2,q1,(mem l2).mpr ⟨q2,fun c=>by subst c;exact ne (R.dst i j _ _ _ _ l2 e ht z' ht2 g1 q1)⟩,q3,q4,q5.mono hs⟩
 ·rcases bF e1 with⟨_,z⟩|⟨_,z1⟩
  ·subst z
   cases h2
  ·rcases bF e2 with⟨_,z⟩|⟨_,z2⟩
   ·subst z
    cases h3
   ·exact R.dst a b t2 t3 x y c z1 h2 z2 h3 k1 k2
theorem ao.freeze(R:ao K Hi O τ σ H)(i:Nat):∃O',ao K Hi O' (nM τ i) σ H/\∀b∈O',b∈O:=by
 unfold nM;cases e:τ[i]? with
 | none=>exact⟨O,R,fun b hb=>hb⟩
 | some t =>
  cases t with
  | un=>exact⟨O,R,fun b hb=>hb⟩
  | frz v n=>exact⟨O,R,fun b hb=>hb⟩
  | own xs n=>exact R.freezeB e rfl
  | owd b xs n=>exact R.freezeB e rfl
theorem ao.freezes:∀{cap:List Nat}{O:List Addr}{τ:En},ao K Hi O τ σ H->∃O',ao K Hi O' (av cap τ) σ H/\∀b∈O',b∈O
 | [],O,_,R=>⟨O,R,fun b hb=>hb⟩
 | i::cap,_,_,R=>by
  obtain⟨O',R',h'⟩:=R.freeze i;obtain⟨O2,R2,h2⟩:=ao.freezes (cap:=cap) R';exact⟨O2,R2,fun b hb=>h' b (h2 b hb)⟩
variable(K Hi)in
noncomputable def ae(O:List Addr)(H H' :Hp):RV->V->Prop
 | .frz v n,u=>Rp K Hi n v (aX H' O) u
 | .bor v,u=>Rp K Hi false v H' u
 | .own xs n,u=>∃p us,u=.ref p/\H p=none/\H' p=some (.lst us)/\aJ K Hi n xs (aX (del H' p) O) us
 | .owd b xs n,u=>∃p us o,u=.ref p/\H p=none/\H' p=some o/\At b us o/\aJ K Hi n xs (aX (del H' p) O) us
theorem ae.ext{H2:Hp}{r:RV}{u:V}(h:ae K Hi O H H' r u)(s:aE H' H2):ae K Hi O H H2 r u:=by
 cases r with
 | frz v n=>exact Rp.mono (aL s) h
 | bor v=>exact Rp.mono s h
 | own xs n =>
  obtain⟨p,us,e,h0,h1,h2⟩:=h;exact⟨p,us,e,h0,s _ _ h1,h2.mono (aL (eU s))⟩
 | owd b xs n =>
  obtain⟨p,us,o,e,h0,h1,ha,h2⟩:=h;exact⟨p,us,o,e,h0,s _ _ h1,ha,h2.mono (aL (eU s))⟩
theorem ae.back{H0:Hp}{r:RV}{u:V}(h:ae K Hi O H H' r u)(s:aE H0 H):ae K Hi O H0 H' r u:=by
 cases r with
 | frz v n=>exact h
 | bor v=>exact h
 | own xs n =>
  obtain⟨p,us,e,h0,h1,h2⟩:=h;exact⟨p,us,e,s.free h0,h1,h2⟩
 | owd b xs n =>
  obtain⟨p,us,o,e,h0,h1,ha,h2⟩:=h;exact⟨p,us,o,e,s.free h0,h1,ha,h2⟩
theorem gg{p:Addr}:aX (del H' p) O=del (aX H' O) p:=by
 funext b
 unfold aX del;dsimp only
 split<;>split<;>(try rfl)<;>simp_all
theorem ae.keep{r:RV}{u:V}{v:PV}{n:Bool}(R:ao K Hi O τ σ H)(h:ae K Hi O H H' r u)(s:aE H H')(e:r.keep=some (v,n)):Rp K Hi n v (aX H' O) u:=by
 cases r with
 | frz w m =>
  cases e;exact h
 | bor w =>
  have e:(if imm w then some (w,true)else none)=some (v,n):=e
  split at e
  ·rename_i i
   cases e;exact Rp.imm i (R.ext s).tups h
  ·cases e
 | own xs m =>
  cases e;obtain⟨p,us,e,h0,h1,h2⟩:=h;have hl:aX H' O p=some (.lst us):=by
   unfold aX;rw[Iq fun z=> ?_]
   ·exact h1
   ·obtain⟨vs,e',_⟩:=(R.own p z).2
    rw[h0]at e';cases e'
  exact Rp.lst.mpr ⟨p,us,e,fun _=>⟨R.same.free h0,hl⟩,bN.of hl,by rw[<- gg];exact h2⟩
 | owd b xs m =>
  cases e;obtain⟨p,us,o,e,h0,h1,ha,h2⟩:=h;subst e;have hl:aX H' O p=some o:=by
   unfold aX;rw[Iq fun z=> ?_]
   ·exact h1
   ·obtain⟨vs,e',_⟩:=(R.own p z).2
    rw[h0]at e';cases e'
  exact Rp.at (fun _=>R.same.free h0) hl ha (by rw[<- gg];exact h2)
theorem ae.val{r:RV}{u:V}(R:ao K Hi O τ σ H)(h:ae K Hi O H H' r u)(s:aE H H'):Rp K Hi false r.val H' u:=by
 cases r with
 | frz w m=>exact(Rp.mono aY h).weak
 | bor w=>exact h
 | own xs m=>exact(Rp.mono aY (h.keep R s rfl)).weak
 | owd b xs m=>exact(Rp.mono aY (h.keep R s rfl)).weak
theorem ae.its{r:RV}{u:V}{xs:List PV}{n:Bool}(R:ao K Hi O τ σ H)(h:ae K Hi O H H' r u)(s:aE H H')(e:r.its=some (xs,n)) :
  ∃p us,u=.ref p/\((bN K H' p us/\∃ys,r.val=.lst ys)\/(bw K H' p us/\∃ys,r.val=.tup ys))/\aJ K Hi n xs (aX H' O) us:=by
 cases r with
 | frz w m =>
  cases w with
  | lst ys =>
   cases e;obtain⟨p,us,e,_,l,r⟩:=Rp.lst.mp h;exact⟨p,us,e,.inl ⟨(aY (O:=O)).seq l,_,rfl⟩,r.mono bM⟩
  | tup ys =>
   cases e;obtain⟨p,us,e,l,r⟩:=Rp.tup.mp h;exact⟨p,us,e,.inr ⟨(aY (O:=O)).tup l,_,rfl⟩,r⟩
  | _=>cases e
 | bor w =>
  cases w with
  | lst ys =>
   have e:(if imms ys then some (ys,true)else none)=some (xs,n):=e
   split at e
   ·rename_i i
    cases e;obtain⟨p,us,e,_,l,r⟩:=Rp.lst.mp h;exact⟨p,us,e,.inl ⟨l,_,rfl⟩,aJ.imm i (R.ext s).tups (r.mono bM)⟩
   ·cases e
  | tup ys =>
   have e:(if imms ys then some (ys,true)else none)=some (xs,n):=e
   split at e
   ·rename_i i
    cases e;obtain⟨p,us,e,l,r⟩:=Rp.tup.mp h;exact⟨p,us,e,.inr ⟨l,_,rfl⟩,aJ.imm i (R.ext s).tups r⟩
   ·cases e
  | _=>cases e
 | own ys m =>
  cases e;obtain⟨p,us,e,h0,h1,h2⟩:=h;exact⟨p,us,e,.inl ⟨bN.of h1,_,rfl⟩,h2.mono (aL bM)⟩
 | owd b ys m=>cases e
end
end
section
variable{K:W.Frag}{Hi:Hp}{κ:Type}[DecidableEq κ]
end
end IR
namespace IR
open PySem
structure Ct where
 N:List Str
 S:List (Str×NameKind)
 F:List (Str×Nat)
 G:List (Str×PV)
 B:List Str
 M:List Nat
noncomputable def slot:List Str->Str->Option Nat
 | [],_=>none
 | y::ys,x=>if y==x then some 0 else(slot ys x).map (·+1)
theorem ed:∀{N:List Str}{x:Str}{i:Nat},slot N x=some i->N[i]? =some x
 | [],_,_,h=>by cases h
 | y::ys,x,i,h=>by
  unfold slot at h
  split at h
  ·rename_i e
   cases h;simp[JN e]
  ·cases e:slot ys x with
   | none=>rw[e]at h;cases h
   | some j =>
    rw[e]at h;cases h
    simpa using ed e
noncomputable def Bz(S:List (Str×NameKind))(x:Str):Bool:=S.lookup x==some .local||S.lookup x==some .cell||S.lookup x==some .free
noncomputable def qW(x:Str):Bool:=x==("__debug__":Str)||x==("__classdict__":Str)||x==("__name__":Str)
noncomputable def jX(ct:Ct)(x:Str):IE :=
 if qW x then .never else if Bz ct.S x then(match slot ct.N x with
  | some i=>.var i
  | none=>.never)else if ct.S.lookup x==some .globalImplicit then(match ct.G.lookup x with
   | some v=>.con v
   | none=>.never)else .never
noncomputable def dX:Expr->Bool
 | .Set .. =>true
 | _=>false
noncomputable def sh:Expr->Bool
 | .Slice .. =>true
 | _=>false
noncomputable def isStar:Expr->Bool
 | .Starred .. =>true
 | _=>false
noncomputable def dh:Expr->Bool
 | .Name .. =>true
 | .Constant .. =>true
 | _=>false
noncomputable def ma:Const->IE
 | .int i=>.con (.int i)
 | .bool b=>.con (.bl b)
 | .str z=>.con (.str z)
 | .none=>.con .non
 | _=>.never
noncomputable def j6(op:BoolOp):List IE->IE
 | []=>.never
 | [a]=>a
 | a::b::r=>match op with
  | .And=>.and a (j6 op (b::r))
  | .Or=>.or a (j6 op (b::r))
noncomputable def j5(op:BoolOp):List IC->IC
 | []=>.val .never
 | [a]=>a
 | a::b::r=>match op with
  | .And=>.and a (j5 op (b::r))
  | .Or=>.or a (j5 op (b::r))
noncomputable def pf(x:Str)(k:Nat):Option Bf :=
 if x==("len":Str)&&k==1 then some .len else if x==("int":Str)&&k==1 then some .int else if x==("list":Str)&&k==1 then some .list else if x==("tuple":Str)&&k==1 then some .tuple
 else if x==("all":Str)&&k==1 then some .all else if x==("min":Str)&&k==2 then some .min else if x==("max":Str)&&k==2 then some .max else if x==("abs":Str)&&k==1 then some .abs
 else if x==("any":Str)&&k==1 then some .any else if x==("sum":Str)&&k==1 then some .sum else if x==("sorted":Str)&&k==1 then some .sorted else none
noncomputable def pi(x:Str)(k:Nat):Option Bf:=pf x k
noncomputable def vU(x:Str):Option String :=
 if x==("int":Str)then some "int" else if x==("bool":Str)then some "bool" else if x==("str":Str)then some "str" else if x==("list":Str)then some "list" else if x==("tuple":Str)then some "tuple" else none
noncomputable def own(ct:Ct)(x:Str):Bool:=ct.B.contains x&&ct.S.lookup x==some .globalImplicit
noncomputable def eV:Expr->Option (Str×List Expr)
 | .Call (.Name x _) es [] _=>some (x,es)
 | _=>none
theorem ut{e:Expr}{x:Str}{es:List Expr}(h:eV e=some (x,es)):∃p q,e=.Call (.Name x p) es [] q:=by
 unfold eV at h
 split at h
 ·cases h
  exact⟨_,_,rfl⟩
 ·cases h
noncomputable def vg:List Expr->Option Expr
 | [b]=>some b
 | _=>none
noncomputable def sD(e:Expr):Option Expr:=(eV e).bind fun c=>if c.1==("reversed":Str)then vg c.2 else none
theorem uA{a b:Expr}(h:sD a=some b):∃p q,a=.Call (.Name "reversed" p) [b] [] q:=by
 unfold sD at h;cases e:eV a with
 | none=>rw[e]at h;cases h
 | some c =>
  rw[e]at h;have h:(if c.1==("reversed":Str)then vg c.2 else none)=some b:=h
  split at h
  ·rename_i z
   obtain⟨p,q,rfl⟩:=ut (x:=c.1) (es:=c.2) e;rw[JN z];cases hc:c.2 with
   | nil=>rw[hc]at h;cases h
   | cons d r =>
    rw[hc]at h;cases r with
    | nil=>cases h;exact⟨p,q,rfl⟩
    | cons d2 r=>cases h
  ·cases h
noncomputable def lg(S names:List (Str×NameKind)):List (Str×NameKind):=names.map fun(n,k)=>if(k== .free&&true&&S.lookup n==some .cell)then(n,.cell)else(n,k)
noncomputable def frees(scope:Scope):List Str:=(scope.names.filter fun y=>y.2== .free).map (·.1)
noncomputable def slots(N:List Str):List Str->Option (List Nat)
 | []=>some []
 | x::xs=>(slot N x).bind fun i=>(slots N xs).map (i::·)
noncomputable def uV(ct:Ct)(t:Str)(scope:Scope):Bool :=
 scope.kind== .function&&(scope.names.all fun y=> !(y.2== .cell)||scope.names.lookup y.1==some .cell)&&(scope.names.all fun y=> !(y.2== .local)||scope.names.lookup y.1==some .local) &&
 (scope.names.all fun y=> !(y.2== .free)||(ct.S.lookup y.1==some .cell||ct.S.lookup y.1==some .free))&&decide (t::frees scope).Nodup&&(scope.names.lookup t==some .local||scope.names.lookup t==some .cell) &&
 (frees scope).all fun x=>scope.names.lookup x==some .free
noncomputable def blk(ct:Ct)(t:Str)(scope:Scope):Ct:=⟨t::frees scope,lg ct.S scope.names,ct.F,ct.G,ct.B,[]⟩
noncomputable def lx(ct:Ct)(t t2:Str)(scope:Scope):Bool :=
 scope.kind== .function&&(scope.names.all fun y=> !(y.2== .cell)||scope.names.lookup y.1==some .cell)&&(scope.names.all fun y=> !(y.2== .local)||scope.names.lookup y.1==some .local) &&
 (scope.names.all fun y=> !(y.2== .free)||(ct.S.lookup y.1==some .cell||ct.S.lookup y.1==some .free))&&decide (t::t2::frees scope).Nodup&&(scope.names.lookup t==some .local||scope.names.lookup t==some .cell)&&(scope.names.lookup t2==some .local||scope.names.lookup t2==some .cell) &&
 (frees scope).all fun x=>scope.names.lookup x==some .free
noncomputable def blk2(ct:Ct)(t t2:Str)(scope:Scope):Ct:=⟨t::t2::frees scope,lg ct.S scope.names,ct.F,ct.G,ct.B,[]⟩
noncomputable def uR:List IE->rQ
 | []=>.nil
 | e::es=>.cons e (uR es)
noncomputable def oa:Expr->Option Str
 | .Name x _=>some x
 | _=>none
noncomputable def og:Expr->Option (Str×Str)
 | .Tuple es _ _=>(match es with
  | [a,b]=>(oa a).bind fun x=>(oa b).map fun y=>(x,y)
  | _=>none)
 | _=>none
noncomputable def rg(gs:List Comprehension):Option (Str×Str×Expr×List Expr):=match gs with
 | [g]=>if g.is_async=0 then(og g.target).map fun w=>(w.1,w.2,g.iter,g.ifs)else none
 | _=>none
theorem oZ{e:Expr}{x:Str}(h:oa e=some x):∃p,e=.Name x p:=by
 unfold oa at h
 split at h
 ·cases h;exact⟨_,rfl⟩
 ·cases h
theorem zf{a b:Expr}{q:Str×Str}(h:((oa a).bind fun x=>(oa b).map fun y=>(x,y))=some q):∃p p2,a=.Name q.1 p/\b=.Name q.2 p2:=by
 cases ha:oa a with
 | none=>rw[ha]at h;cases h
 | some x =>
  cases hb:oa b with
  | none=>rw[ha,hb]at h;cases h
  | some y =>
   rw[ha,hb]at h;cases h;obtain⟨p,rfl⟩:=oZ ha;obtain⟨p2,rfl⟩:=oZ hb;exact⟨p,p2,rfl,rfl⟩
theorem uM{e:Expr}{q:Str×Str}(h:og e=some q):∃p p2 k p3,e=.Tuple [.Name q.1 p,.Name q.2 p2] k p3:=by
 unfold og at h
 split at h
 ·split at h
  ·obtain⟨p,p2,rfl,rfl⟩:=zf h
   exact⟨p,p2,_,_,rfl⟩
  ·cases h
 ·cases h
theorem tj{gs:List Comprehension}{t t2:Str}{iter:Expr}{ifs:List Expr}(h:rg gs=some (t,t2,iter,ifs)):∃tp tp2 kk tpp,gs=[⟨.Tuple [.Name t tp,.Name t2 tp2] kk tpp,iter,ifs,0⟩]:=by
 match gs,h with
 | [],h=>cases h
 | _::_::_,h=>cases h
 | [⟨tg,it,fs,as⟩],h =>
  have h' :(if as=0 then(og tg).map fun w=>(w.1,w.2,it,fs)else none)=some (t,t2,iter,ifs):=h
  split at h'
  ·rename_i e0
   subst e0
   clear h
   cases e1:og tg with
   | none=>rw[e1]at h';cases h'
   | some w =>
    rw[e1]at h';cases h';obtain⟨p1,p2,k,p3,rfl⟩:=uM e1;exact⟨_,_,_,_,rfl⟩
  ·cases h'
mutual
noncomputable def al:Nat->Ct->Expr->IE
 | 0,_,_=>.never
 | n+1,ct,e=>match e with
  | .Constant c _ _=>ma c
  | .Name x _=>jX ct x
  | .BinOp a op b _=>.bin op (al n ct a) (al n ct b)
  | .UnaryOp op a _=>match op with
   | .USub=>.neg (al n ct a)
   | .Not=>.not (al n ct a)
   | _=>.never
  | .Compare a ops cs _=>match ops,cs with
   | [op],[b]=>if dX b then .never else .cmp op (al n ct a) (al n ct b)
   | _,_=>.never
  | .BoolOp op vs _=>if vs.length<2 then .never else j6 op (vs.map (al n ct))
  | .IfExp c a b _=>.ite (lX n ct c) (al n ct a) (al n ct b)
  | .List es _=>.lst (eB n ct es)
  | .Tuple es _ _=>.tup (eB n ct es)
  | .Dict ks vs _=>match ks,vs with
   | [],[]=>.dnew
   | [some (.Constant c _ _)],[v]=>match c with
    | .int i=>.dlit (.inl i) (al n ct v)
    | .str z=>.dlit (.inr z) (al n ct v)
    | _=>.never
   | _,_=>.never
  | .Subscript a i _=>match i with
   | .Slice lo hi st _=>match st with
    | none=>.sl (al n ct a) (BE n ct lo) (BE n ct hi)
    | some _=>.never
   | i=>.ix (al n ct a) (al n ct i)
  | .Call f es ks cp=>match ks with
   | []=>match f with
    | .Name x _=>hJ n ct x es
    | .Attribute o m ap=>if ap.endLine==cp.line then lW n ct o m es else .never
    | _=>.never
   | _=>.never
  | .ListComp elt gs scope _=>match gs with
   | [⟨.Name t _,iter,ifs,0⟩]=>if uV ct t scope then(match slots ct.N (frees scope)with
    | some caps=>.lc (al n (blk ct t scope) elt) (vD n ct false iter) (match ifs with
     | []=>.no
     | [c]=>.yes (lX n (blk ct t scope) c)
     | _=>.yes (.val .never)) caps
    | none=>.never)else .never
   | gs=>(match rg gs with
    | some (t,t2,iter,ifs)=>if lx ct t t2 scope then(match slots ct.N (frees scope)with
     | some caps=>.lc2 (al n (blk2 ct t t2 scope) elt) (vD n ct true iter) (match ifs with
      | []=>.no
      | [c]=>.yes (lX n (blk2 ct t t2 scope) c)
      | _=>.yes (.val .never)) caps
     | none=>.never)else .never
    | none=>.never)
  | _=>.never
noncomputable def eB:Nat->Ct->List Expr->rQ
 | 0,_,_=>.cons .never .nil
 | n+1,ct,es=>uR (es.map fun e=>if isStar e then .never else al n ct e)
noncomputable def BE:Nat->Ct->Option Expr->IO
 | 0,_,_=>.yes .never
 | n+1,ct,e=>match e with
  | none=>.no
  | some e=>.yes (al n ct e)
noncomputable def lX:Nat->Ct->Expr->IC
 | 0,_,_=>.val .never
 | n+1,ct,e=>match e with
  | .UnaryOp op a p=>match op with
   | .Not=>.not (lX n ct a)
   | op=>.val (al n ct (.UnaryOp op a p))
  | .BoolOp op vs _=>j5 op (vs.map (lX n ct))
  | .IfExp _ _ _ _=>.val .never
  | e=>.val (al n ct e)
noncomputable def hJ:Nat->Ct->Str->List Expr->IE
 | 0,_,_,_=>.never
 | n+1,ct,x,es=>if qW x then .never else if ct.S.lookup x==some .globalImplicit then(match ct.F.lookup x with
  | some f=>match es with
   | []=>.never
   | es=>.call f (eB n ct es)
  | none=>if ct.B.contains x then(if x==("isinstance":Str)then(match es with
    | [a,.Name t _]=>match vU t with
     | some ty=>if isStar a then .never else if own ct t then .bf (.isin ty) (.cons (al n ct a) .nil)else .never
     | none=>.never
    | _=>.never)else match es with
     | [.Call (.Attribute o m ap) [] [] cp]=>if x==("sum":Str)&&m==("values":Str)&&dh o&&ap.endLine==cp.line then .bf .sumv (.cons (al n ct o) .nil)else(match pi x es.length with
      | some f=>.bf f (eB n ct es)
      | none=>.never)
     | es=>match pi x es.length with
      | some f=>.bf f (eB n ct es)
      | none=>.never)else .never)else .never
noncomputable def lW:Nat->Ct->Expr->Str->List Expr->IE
 | 0,_,_,_,_=>.never
 | n+1,ct,o,m,es=>if dh o then(match es with
  | [a]=>if isStar a then .never else if m==("join":Str)then(match sD a with
   | some b=>if isStar b|| !own ct ("reversed":Str)then .never else .mth .jrev (al n ct o) (.cons (al n ct b) .nil)
   | none=>.mth .join (al n ct o) (.cons (al n ct a) .nil))else if m==("count":Str)then .mth .count (al n ct o) (.cons (al n ct a) .nil)else if m==("index":Str)then .mth .index (al n ct o) (.cons (al n ct a) .nil)else .never
  | _=>.never)else .never
noncomputable def vD:Nat->Ct->Bool->Expr->IT
 | 0,_,_,_=>.never
 | n+1,ct,tp,e=>if dX e then .never else match eV e with
  | some (x,es)=>if x==("range":Str)then(if own ct x then .rng (eB n ct es)else .never)else if x==("zip":Str)then(match es with
    | [a,b]=>if isStar a||isStar b|| !tp|| !own ct x then .never else .zip (al n ct a) (al n ct b)
    | _=>.never)else if x==("enumerate":Str)then(match es with
    | [a]=>if isStar a|| !tp|| !own ct x then .never else .enum (al n ct a)
    | _=>.never)else .seq (al n ct e)
  | none=>.seq (al n ct e)
end
noncomputable def kM:Nat->Ct->Expr->List Nat
 | 0,_,_=>[]
 | n+1,ct,e=>match e with
  | .Name x _=>(slot ct.N x).toList
  | .List es _=>es.flatMap (kM n ct)
  | .Tuple es _ _=>es.flatMap (kM n ct)
  | .IfExp _ a b _=>kM n ct a++kM n ct b
  | _=>[]
noncomputable def kL:Nat->Ct->Expr->List Nat
 | 0,_,_=>[]
 | n+1,ct,e=>match e with
  | .Name x _=>(slot ct.N x).toList
  | .List es _=>es.flatMap (kL n ct)
  | .Tuple es _ _=>es.flatMap (kL n ct)
  | .BinOp a _ b _=>kL n ct a++kL n ct b
  | .IfExp _ a b _=>kL n ct a++kL n ct b
  | .Call (.Name x _) es _ _=>if x==("tuple":Str)||x==("list":Str)||x==("sorted":Str)then es.flatMap (kL n ct)else[]
  | .ListComp _ gs _ _=>gs.flatMap fun g=>kL n ct g.iter
  | _=>[]
noncomputable def ET(ct:Ct)(x:Str)(e:Expr):List Nat:=match e with
 | .BinOp (.Name y _) .Add _ _=>if y==x then(slot ct.N x).toList else[]
 | _=>[]
noncomputable def Hf(n:Nat)(ct:Ct)(e:Expr):List Nat:=match eV e with
 | some (x,es)=>if x==("zip":Str)||x==("enumerate":Str)||x==("reversed":Str)then es.flatMap (kM n ct)else[]
 | none=>kM n ct e
noncomputable def loc(ct:Ct)(x:Str):Option Nat:=if(ct.S.lookup x==some .local||ct.S.lookup x==some .cell)&& !qW x then slot ct.N x else none
noncomputable def qi:Expr->Bool
 | .ListComp .. =>true
 | .SetComp .. =>true
 | .DictComp .. =>true
 | _=>false
noncomputable def my:Option Expr->Option Expr->Option Str
 | some (.Call (.Name x _) [] [] _),none=>some x
 | _,_=>none
theorem qP{e c:Option Expr}{x:Str}(h:my e c=some x):∃p q,e=some (.Call (.Name x p) [] [] q)/\c=none:=by
 unfold my at h
 split at h
 ·cases h
  exact⟨_,_,rfl,rfl⟩
 ·cases h
noncomputable def locs(ct:Ct):List Expr->Option (List Nat)
 | []=>some []
 | .Name x _::es=>(loc ct x).bind fun i=>(locs ct es).map (i::·)
 | _::_=>none
noncomputable def tq(ct:Ct):Expr->Option (List Nat×Bool)
 | .Name x _=>(loc ct x).map fun i=>([i],true)
 | .Tuple es _ _=>(locs ct es).map fun is=>(is,false)
 | _=>none
mutual
noncomputable def kT:Nat->Ct->Stmt->IS
 | 0,_,_=>.never
 | n+1,ct,s=>match s with
  | .Return v _=>match v with
   | some e=>.ret (kL n ct e) (al n ct e)
   | none=>.retN
  | .Assign ts e _=>match ts with
   | [.Name x _]=>match loc ct x with
    | some i=>.asg i (ct.M.contains i) (ET ct x e++kM n ct e) (al n ct e)
    | none=>.never
   | _=>.never
  | .If c a b _=>.ife (lX n ct c) (bA n ct a) (bA n ct b)
  | .For tg it body els _=>match els with
   | []=>match tq ct tg with
    | some (is,one)=>.forr is one (Hf n ct it) (vD n ct (!one) it) (bA n ct body)
    | none=>.never
   | _=>.never
  | .While c body els _=>match els with
   | []=>.whil (lX n ct c) (bA n ct body)
   | _=>.never
  | .Pass _=>.pass
  | .Break _=>.brk
  | .Continue _=>.cont
  | .Expr e _=>match e with
   | .Call (.Attribute (.Name x _) m ap) es [] cp=>if ap.endLine==cp.line then(match loc ct x with
    | some i=>(match es with
     | [a]=>if isStar a then .never else if m==("append":Str)then .app i (kM n ct a) (al n ct a)else .never
     | _=>.never)
    | none=>.never)else .never
   | _=>.never
  | .Raise e c _=>match my e c with
   | some x=>if ct.S.lookup x==some .globalImplicit&& !qW x then .rais x else .never
   | none=>.never
  | .AugAssign t op e _=>match t with
   | .Name x _=>match loc ct x with
    | some i=>.aug i op (al n ct e)
    | none=>.never
   | _=>.never
  | _=>.never
noncomputable def bA:Nat->Ct->List Stmt->ng
 | 0,_,_=>.cons .never .nil
 | n+1,ct,ss=>match ss with
  | []=>.nil
  | s::ss=>.cons (kT n ct s) (bA n ct ss)
end
section
set_option autoImplicit true
set_option relaxedAutoImplicit true
variable{n:Nat}{ct:Ct}
theorem jT:al 0 w0 w1=.never:=rfl
theorem jO:al (n+1) ct (.Constant c w1 w2)=(ma c):=rfl
theorem jJ:al (n+1) ct (.Name x w1)=(jX ct x):=rfl
theorem jS:al (n+1) ct (.BinOp a op b w1)=(.bin op (al n ct a) (al n ct b)):=rfl
theorem jG:al (n+1) ct (.UnaryOp op a w1)=(match op with
   | .USub=>.neg (al n ct a)
   | .Not=>.not (al n ct a)
   | _=>.never):=rfl
theorem jP:al (n+1) ct (.Compare a ops cs w1)=(match ops,cs with
   | [op],[b]=>if dX b then .never else .cmp op (al n ct a) (al n ct b)
   | _,_=>.never):=rfl
theorem jR:al (n+1) ct (.BoolOp op vs w1)=(if vs.length<2 then .never else j6 op (vs.map (al n ct))):=rfl
theorem jM:al (n+1) ct (.IfExp c a b w1)=(.ite (lX n ct c) (al n ct a) (al n ct b)):=rfl
theorem jL:al (n+1) ct (.List es w1)=(.lst (eB n ct es)):=rfl
theorem jH:al (n+1) ct (.Tuple es w1 w2)=(.tup (eB n ct es)):=rfl
theorem jN:al (n+1) ct (.Dict ks vs w1)=(match ks,vs with
   | [],[]=>.dnew
   | [some (.Constant c _ _)],[v]=>match c with
    | .int i=>.dlit (.inl i) (al n ct v)
    | .str z=>.dlit (.inr z) (al n ct v)
    | _=>.never
   | _,_=>.never):=rfl
theorem jI:al (n+1) ct (.Subscript a i w1)=(match i with
   | .Slice lo hi st _=>match st with
    | none=>.sl (al n ct a) (BE n ct lo) (BE n ct hi)
    | some _=>.never
   | i=>.ix (al n ct a) (al n ct i)):=rfl
theorem jQ:al (n+1) ct (.Call f es ks cp)=(match ks with
   | []=>match f with
    | .Name x _=>hJ n ct x es
    | .Attribute o m ap=>if ap.endLine==cp.line then lW n ct o m es else .never
    | _=>.never
   | _=>.never):=rfl
theorem jK:al (n+1) ct (.ListComp elt gs scope w1)=(match gs with
   | [⟨.Name t _,iter,ifs,0⟩]=>if uV ct t scope then(match slots ct.N (frees scope)with
    | some caps=>.lc (al n (blk ct t scope) elt) (vD n ct false iter) (match ifs with
     | []=>.no
     | [c]=>.yes (lX n (blk ct t scope) c)
     | _=>.yes (.val .never)) caps
    | none=>.never)else .never
   | gs=>(match rg gs with
    | some (t,t2,iter,ifs)=>if lx ct t t2 scope then(match slots ct.N (frees scope)with
     | some caps=>.lc2 (al n (blk2 ct t t2 scope) elt) (vD n ct true iter) (match ifs with
      | []=>.no
      | [c]=>.yes (lX n (blk2 ct t t2 scope) c)
      | _=>.yes (.val .never)) caps
     | none=>.never)else .never
    | none=>.never)):=rfl
theorem z2n:eB 0 w0 w1=.cons .never .nil:=rfl
theorem z2o:eB (n+1) ct es=(uR (es.map fun e=>if isStar e then .never else al n ct e)):=rfl
theorem z2r:BE 0 w0 w1=.yes .never:=rfl
theorem z2s:BE (n+1) ct (none)=(.no):=rfl
theorem z2t:BE (n+1) ct (some e)=(.yes (al n ct e)):=rfl
theorem Fc:lX 0 w0 w1=.val .never:=rfl
theorem FZ:lX (n+1) ct (.UnaryOp op a p)=(match op with
   | .Not=>.not (lX n ct a)
   | op=>.val (al n ct (.UnaryOp op a p))):=rfl
theorem Fb:lX (n+1) ct (.BoolOp op vs w1)=(j5 op (vs.map (lX n ct))):=rfl
theorem Fa:lX (n+1) ct (.IfExp w1 w2 w3 w4)=(.val .never):=rfl
theorem z23:hJ 0 w0 w1 w2=.never:=rfl
theorem z24:hJ (n+1) ct x es=(if qW x then .never else if ct.S.lookup x==some .globalImplicit then(match ct.F.lookup x with
  | some f=>match es with
   | []=>.never
   | es=>.call f (eB n ct es)
  | none=>if ct.B.contains x then(if x==("isinstance":Str)then(match es with
    | [a,.Name t _]=>match vU t with
     | some ty=>if isStar a then .never else if own ct t then .bf (.isin ty) (.cons (al n ct a) .nil)else .never
     | none=>.never
    | _=>.never)else match es with
     | [.Call (.Attribute o m ap) [] [] cp]=>if x==("sum":Str)&&m==("values":Str)&&dh o&&ap.endLine==cp.line then .bf .sumv (.cons (al n ct o) .nil)else(match pi x es.length with
      | some f=>.bf f (eB n ct es)
      | none=>.never)
     | es=>match pi x es.length with
      | some f=>.bf f (eB n ct es)
      | none=>.never)else .never)else .never):=rfl
theorem z2p:lW 0 w0 w1 w2 w3=.never:=rfl
theorem z2q:lW (n+1) ct o m es=(if dh o then(match es with
  | [a]=>if isStar a then .never else if m==("join":Str)then(match sD a with
   | some b=>if isStar b|| !own ct ("reversed":Str)then .never else .mth .jrev (al n ct o) (.cons (al n ct b) .nil)
   | none=>.mth .join (al n ct o) (.cons (al n ct a) .nil))else if m==("count":Str)then .mth .count (al n ct o) (.cons (al n ct a) .nil)else if m==("index":Str)then .mth .index (al n ct o) (.cons (al n ct a) .nil)else .never
  | _=>.never)else .never):=rfl
theorem z39:vD 0 w0 w1 w2=.never:=rfl
theorem z3a:vD (n+1) ct tp e=(if dX e then .never else match eV e with
  | some (x,es)=>if x==("range":Str)then(if own ct x then .rng (eB n ct es)else .never)else if x==("zip":Str)then(match es with
    | [a,b]=>if isStar a||isStar b|| !tp|| !own ct x then .never else .zip (al n ct a) (al n ct b)
    | _=>.never)else if x==("enumerate":Str)then(match es with
    | [a]=>if isStar a|| !tp|| !own ct x then .never else .enum (al n ct a)
    | _=>.never)else .seq (al n ct e)
  | none=>.seq (al n ct e)):=rfl
theorem lU:kT 0 w0 w1=.never:=rfl
theorem lK:kT (n+1) ct (.Return v w1)=(match v with
   | some e=>.ret (kL n ct e) (al n ct e)
   | none=>.retN):=rfl
theorem lT:kT (n+1) ct (.Assign ts e w1)=(match ts with
   | [.Name x _]=>match loc ct x with
    | some i=>.asg i (ct.M.contains i) (ET ct x e++kM n ct e) (al n ct e)
    | none=>.never
   | _=>.never):=rfl
theorem lN:kT (n+1) ct (.If c a b w1)=(.ife (lX n ct c) (bA n ct a) (bA n ct b)):=rfl
theorem lO:kT (n+1) ct (.For tg it body els w1)=(match els with
   | []=>match tq ct tg with
    | some (is,one)=>.forr is one (Hf n ct it) (vD n ct (!one) it) (bA n ct body)
    | none=>.never
   | _=>.never):=rfl
theorem lJ:kT (n+1) ct (.While c body els w1)=(match els with
   | []=>.whil (lX n ct c) (bA n ct body)
   | _=>.never):=rfl
theorem lM:kT (n+1) ct (.Pass w1)=(.pass):=rfl
theorem lR:kT (n+1) ct (.Break w1)=(.brk):=rfl
theorem lQ:kT (n+1) ct (.Continue w1)=(.cont):=rfl
theorem lP:kT (n+1) ct (.Expr e w1)=(match e with
   | .Call (.Attribute (.Name x _) m ap) es [] cp=>if ap.endLine==cp.line then(match loc ct x with
    | some i=>(match es with
     | [a]=>if isStar a then .never else if m==("append":Str)then .app i (kM n ct a) (al n ct a)else .never
     | _=>.never)
    | none=>.never)else .never
   | _=>.never):=rfl
theorem lL:kT (n+1) ct (.Raise e c w1)=(match my e c with
   | some x=>if ct.S.lookup x==some .globalImplicit&& !qW x then .rais x else .never
   | none=>.never):=rfl
theorem lS:kT (n+1) ct (.AugAssign t op e w1)=(match t with
   | .Name x _=>match loc ct x with
    | some i=>.aug i op (al n ct e)
    | none=>.never
   | _=>.never):=rfl
theorem FP:bA 0 w0 w1=.cons .never .nil:=rfl
theorem FN:bA (n+1) ct ([])=(.nil):=rfl
theorem FO:bA (n+1) ct (s::ss)=(.cons (kT n ct s) (bA n ct ss)):=rfl
end
end IR
namespace L2
open PySem PySem.Spec PyProof.Rows
section
variable{X:Cx}
theorem zT:dv X (binaryOp .Add) (fun x y H Q=>∃(l b:Addr)(xs zs:List V),x=.ref l/\y=.ref b/\bN X.K H l xs/\bN X.K H b zs/\xs.length+zs.length<=sizeLine/\∀p,H p=none->Q (.ref p) (upd H p (.lst (xs++zs)))):=by
 intro pins s σ H x y v u Q I rx ry h;obtain⟨l,b,xs,zs,rfl,rfl,hH,hB,hz,q⟩:=h;cases rx;cases ry;obtain⟨its,r,pl,_⟩:=I.list hH;obtain⟨its2,r2,pl2,_⟩:=I.list hB;have hl:=r.length;have hl2:=r2.length;obtain⟨⟨cls,dd,data,sl⟩,ho,hc,n,hd⟩:=id pl.isList;obtain⟨⟨cls2,dd2,data2,sl2⟩,ho2,hc2,n2,hd2⟩:=id pl2.isList;simp only at hc hd hc2 hd2;subst hc hd hc2 hd2;have e:its.toArray++its2.toArray=(its++its2).toArray:=by simp
 refine concat_meets ⟨_,ho,rfl⟩ ⟨_,ho2,rfl⟩ noFill_list_add seq_list_add PySem.F.slot_list_add PySem.F.entry_list_add (PySem.F.args_list_add_2 _ _) (list_addW l b its.toArray its2.toArray n n2 dd dd2 sl sl2 (by rw[I0,I0];omega)) ⟨ho,ho2,?_⟩;rw[e];exact⟨.ref _,_,I.lnew (t' :=s.toks) (r.append r2) (by rw[JA];omega),rfl,q _ I.fresh⟩
theorem zR:dv X (binaryOp .Add) (fun x y H Q=>∃(a b:Addr)(xs ys:List V),x=.ref a/\y=.ref b/\bw X.K H a xs/\bw X.K H b ys/\xs.length+ys.length<=sizeLine/\∀p H',aE H H' ->bw X.K H' p (xs++ys)->Q (.ref p) H'):=by
 intro pins s σ H x y u v Q I rx ry h;obtain⟨a,b,xs,ys,rfl,rfl,ha,hb,hz,q⟩:=h
 by_cases hx:xs=[]
 ·subst hx
  cases rx;cases ry;obtain⟨its,r1,p1,_⟩:=I.tuple ha;obtain⟨its2,r2,p2,_⟩:=I.tuple hb;cases r1;obtain⟨⟨cls,dd,data,sl⟩,ho,hc,n,hd⟩:=id p1;obtain⟨⟨cls2,dd2,data2,sl2⟩,ho2,hc2,n2,hd2⟩:=id p2;simp only at hc hd hc2 hd2;subst hc hd hc2 hd2
  exact concat_meets ⟨_,ho,rfl⟩ ⟨_,ho2,rfl⟩ noFill_tuple_add seq_tuple_add PySem.F.slot_tuple_add PySem.F.entry_tuple_add (Lp _ _)
   (tuple_addW0 a b #[] its2.toArray n n2 dd dd2 sl sl2 rfl) ⟨ho,ho2,⟨.ref b,H,I,rfl,q b H (aE.refl H) hb⟩⟩
 ·refine zS pins s σ H (.ref a) (.ref b) u v Q I rx ry ⟨a,b,xs,ys,rfl,rfl,ha,hb,hx,hz,fun e=> ?_,fun _ p hp=>q p _ (aU hp _) (bw.of aK)⟩
  subst e;exact q a H (aE.refl H) (by rw[Jp];exact ha)
theorem yn:FW X (fun x lo hi H Q=>∃a xs,x=.ref a/\bw X.K H a xs/\(HT.bP xs.length 0 lo=0/\HT.bP xs.length xs.length hi=xs.length)/\Q (.ref a) H):=by
 intro pins s σ H x v vl vu lo hi sl Q I rx hs pl pu h;obtain⟨a,xs,rfl,hx,hw,q⟩:=h;cases rx;obtain⟨its,r,ht,hz⟩:=I.tuple hx;have hlen:its.toArray.size=xs.length:=by rw[I0];exact r.length.symm
 refine⟨"tuple",_,Ju.lookup,ht.typeIs,?_⟩;obtain⟨os,hos,hcs,hds⟩:=id hs;have hTs:s.TypeIs (.ref sl) "slice":=⟨os,hos,hcs⟩;unfold getItem
 try with_reducible refine LA ?_
 first|refine Ij (JB ?_)|skip
 refine Ij (wpAny_sequenceKey ht.typeIs (by decide) ?_)
 refine Ij (KO (name:=Str.ofString "__getitem__") ht.typeIs Ju
  (Js Ju ht.typeIs entry_tuple_getitem ?_ (args_tuple_getitem _ _)))
 show wpAny _ _ (Builtin.Tuple.tupleItemsOf (.ref a) >>= _) _ _ s;refine Ij (tupleItemsOf_ ht ?_);refine Ij (wpAny_typeOf hTs ?_);rw[Ix (by decide)];refine Ij (HT.dR hs pl pu ?_);rw[<- hlen]at hw;show wpAny _ _ (if(((HT.bP its.toArray.size 0 lo:Nat):Int)==0&&(1:Int)==1&&(HT.bP its.toArray.size its.toArray.size hi-HT.bP its.toArray.size 0 lo)==its.toArray.size)=true then _ else _) _ _ s;rw[Ix (by rw[hw.1,hw.2];simp)];unfold Builtin.Tuple.tupleIsExact;refine Ij (Ij (wpAny_typeOf ht.typeIs (JB ?_)));rw[Ix (by decide)];exact Ij (wpAny_rule (JB ⟨_,rfl,JB ⟨.ref a,H,I,rfl,q⟩⟩))
end
end L2
namespace IR
open PySem PySem.Spec PyProof.Rows L2
noncomputable abbrev WE(X:Cx)(e:Expr)(σ:L2.St)(H:Hp)(Q:VK):Prop:=∀(pins:List (Addr×Obj))(s:Shared),Inv X pins σ H s->wpAny (model X.prog X.w) X.A (eval e X.env) (EP X pins σ Q) X.xe s
noncomputable abbrev WT(X:Cx)(e:Expr)(σ:L2.St)(H:Hp)(Q:Bool->Hp->Prop):Prop:=∀(pins:List (Addr×Obj))(s:Shared),Inv X pins σ H s->wpAny (model X.prog X.w) X.A (isTrue e X.env (eval e X.env)) (TP X pins σ Q) X.xe s
noncomputable abbrev WA(X:Cx)(es:List Expr)(σ:L2.St)(H:Hp)(Q:List V->Hp->Prop):Prop:=∀(pos:Pos)(pins:List (Addr×Obj))(s:Shared),Inv X pins σ H s->wpAny (model X.prog X.w) X.A (spliced (backTo pos (starEach es X.env))) (AP X pins σ Q) X.xe s
theorem af{X:Cx}{e:Expr}:PE X e (fun σ H Q=>WE X e σ H Q):=fun pins s σ H Q I h=>h pins s I
theorem ir{X:Cx}{e:Expr}:PT X e (fun σ H Q=>WT X e σ H Q):=fun pins s σ H Q I h=>h pins s I
theorem oX{X:Cx}{e:List Expr}:PA X e (fun σ H Q=>WA X e σ H Q):=fun pos pins s σ H Q I h=>h pos pins s I
theorem we{X:Cx}{e:Expr}{t:TE}{σ:L2.St}{H:Hp}{Q:VK}(h:PE X e t)(q:t σ H Q):WE X e σ H Q:=fun pins s I=>h pins s σ H Q I q
theorem wt{X:Cx}{e:Expr}{t:TT}{σ:L2.St}{H:Hp}{Q:Bool->Hp->Prop}(h:PT X e t)(q:t σ H Q):WT X e σ H Q:=fun pins s I=>h pins s σ H Q I q
theorem wa{X:Cx}{e:List Expr}{t:TA}{σ:L2.St}{H:Hp}{Q:List V->Hp->Prop}(h:PA X e t)(q:t σ H Q):WA X e σ H Q:=fun pos pins s I=>h pos pins s σ H Q I q
noncomputable def yQ(K:W.Frag)(m:List PV->Option PV):Sp:=fun vs H Q _=>∃pvs r,aJ K H false pvs H vs/\m pvs=some r/\∀u H',aE H H' ->Rp K H true r H' u->Q u H'
structure bX(cd:Nat->List PV->Option PV)(X:Cx)(ct:Ct):Prop where
 N:X.N=ct.N
 nd:ct.N.Nodup
 S:X.env.scope.names=ct.S
 kind:X.env.scope.kind=.function
 calm:X.calm=true
 glob:∀x v,ct.G.lookup x=some v->∃u w,X.mg x=some u/\RelV w u/\∀Hi n H,Rp X.K Hi n v H w
 bl:∀x,ct.B.contains x=true->X.mg x=none
 fns:∀x f,ct.F.lookup x=some f->∃k a fd ps,bi X.prog X.w X.K X.mg X.base p5 k a fd ps (yQ X.K (cd f))/\eD k X.A/\X.mg x=some (.ref a)/\W.keepIn X.K (.ref a)=true/\Binds X.K fd ps []
 xe:PassesOwn (model X.prog X.w) X.A X.env X.xe
 un:X.A.units+64<cLine
section
variable{X:Cx}{Hi:Hp}{τ:En}
variable(X Hi τ)in
noncomputable def aI(e:Expr)(r:RV):Prop:=∀(O:List Addr)(σ:L2.St)(H:Hp)(Q:VK),ao X.K Hi O τ σ H->(∀u H',aE H H' ->ae X.K Hi O H H' r u->Q u H')->WE X e σ H Q
variable(X Hi τ)in
noncomputable def eX(e:Expr)(b:Bool):Prop:=∀(O:List Addr)(σ:L2.St)(H:Hp)(Q:Bool->Hp->Prop),ao X.K Hi O τ σ H->(∀H',aE H H' ->Q b H')->WT X e σ H Q
variable(X Hi)in
noncomputable def b6(O:List Addr)(H H' :Hp):List RV->List V->Prop
 | [],us=>us=[]
 | r::rs,us=>∃u vs,us=u::vs/\ae X.K Hi O H H' r u/\b6 O H H' rs vs
variable(X Hi τ)in
noncomputable def na(es:List Expr)(rs:List RV):Prop:=∀(O:List Addr)(σ:L2.St)(H:Hp)(Q:List V->Hp->Prop),ao X.K Hi O τ σ H->(∀us H',aE H H' ->b6 X Hi O H H' rs us->Q us H')->WA X es σ H Q
theorem dQ:sizeLine=16777216:=J6
theorem b6.ext{O:List Addr}{H H' H2:Hp}(s:aE H' H2):∀{rs:List RV}{us:List V},b6 X Hi O H H' rs us->b6 X Hi O H H2 rs us
 | [],_,h=>h
 | r::rs,_,h=>by
  obtain⟨u,vs,e,a,b⟩:=h;exact⟨u,vs,e,a.ext s,b6.ext s b⟩
theorem b6.back{O:List Addr}{H0 H H' :Hp}(s:aE H0 H):∀{rs:List RV}{us:List V},b6 X Hi O H H' rs us->b6 X Hi O H0 H' rs us
 | [],_,h=>h
 | r::rs,_,h=>by
  obtain⟨u,vs,e,a,b⟩:=h;exact⟨u,vs,e,a.back s,b6.back s b⟩
theorem b6.vals{O:List Addr}{σ:L2.St}{H H' :Hp}(R:ao X.K Hi O τ σ H)(s:aE H H'):∀{rs:List RV}{us:List V},b6 X Hi O H H' rs us->aJ X.K Hi false (rs.map RV.val) H' us
 | [],_,h=>by cases h;exact .nil
 | r::rs,_,h=>by
  obtain⟨u,vs,rfl,a,b⟩:=h;exact .cons (a.val R s) (b6.vals R s b)
theorem b6.keeps{O:List Addr}{σ:L2.St}{H H' :Hp}(R:ao X.K Hi O τ σ H)(s:aE H H'):∀{rs:List RV}{us:List V}{vs:List PV}{n:Bool},b6 X Hi O H H' rs us->IR.keeps rs=some (vs,n)->aJ X.K Hi n vs (aX H' O) us
 | [],_,_,_,h,e=>by cases h;cases e;exact .nil
 | r::rs,_,vs,n,h,e=>by
  obtain⟨u,ws,rfl,a,b⟩:=h;unfold IR.keeps at e;cases hk:r.keep with
  | none=>rw[hk]at e;cases e
  | some p =>
   obtain⟨v,n1⟩:=p;rw[hk]at e;cases hs:IR.keeps rs with
   | none=>rw[hs]at e;cases e
   | some p =>
    obtain⟨vs',n2⟩:=p;rw[hs]at e;cases e;refine .cons ((a.keep R s hk).low fun z=> ?_) ((b6.keeps R s b hs).low fun z=> ?_)
    ·rw[Iu]at z;exact z.1
    ·rw[Iu]at z;exact z.2
theorem fG{v:PV}{u:V}{O:List Addr}{H H' :Hp}(h:∀G,Rp X.K Hi true v G u):ae X.K Hi O H H' (sc v) u:=h _
theorem xr{c:Const}{k:Nat}{pos:Pos}{r:RV}{cd:Nat->List PV->Option PV}(h:aW cd (ma c) τ=some r):aI X Hi τ (.Constant c k pos) r:=by
 intro O σ H Q R q;cases c with
 | int i =>
  cases h;exact we jp (q _ _ (aE.refl _) (fG fun _=>Rp.int.mpr rfl))
 | bool b =>
  cases h;exact we Gu (q _ _ (aE.refl _) (fG fun _=>Rp.bl.mpr rfl))
 | str b =>
  cases h;exact we wM (q _ _ (aE.refl _) (fG fun _=>Rp.str.mpr rfl))
 | none =>
  cases h;exact we jo (q _ _ (aE.refl _) (fG fun _=>Rp.non.mpr rfl))
 | _=>cases h
theorem vQ{S:List (Str×NameKind)}{sc:Scope}(e:sc.names=S){x:Str}(h:Bz S x=true):FV sc x:=by
 unfold Bz at h;unfold FV;rw[e]
 simpa [KD,or_assoc]using h
theorem bz{x:Str}(h:qW x=false):(x==("__debug__":Str))=false/\(x==("__classdict__":Str))=false/\x≠"__name__":=by
 unfold qW at h;simp only[Bool.or_eq_false_iff]at h;exact⟨h.1.1,h.1.2,fun e=>by rw[e]at h;simp at h⟩
theorem zi{cd:Nat->List PV->Option PV}{ct:Ct}(C:bX cd X ct){x:Str}{pos:Pos}{r:RV}(h:aW cd (jX ct x) τ=some r):aI X Hi τ (.Name x pos) r:=by
 intro O σ H Q R q;unfold jX at h
 split at h
 ·simp[cc,cO,ci,cT,cf,dB,cq,cR,cS,cy,cg,ck,cU,cV,cP,dA,cZ,cz,cx,cY,cQ,cr,cX,cW,cw,cv,cu]at h
 rename_i ho;obtain⟨o1,o2,o3⟩:=bz (Jz.mpr ho)
 split at h
 ·rename_i hv
  cases hs:slot ct.N x with
  | none=>rw[hs]at h;simp[cc,cO,ci,cT,cf,dB,cq,cR,cS,cy,cg,ck,cU,cV,cP,dA,cZ,cz,cx,cY,cQ,cr,cX,cW,cw,cv,cu]at h
  | some i =>
   rw[hs]at h;have h:pD τ i=some r:=by simpa [cc,cO,ci,cT,cf,dB,cq,cR,cS,cy,cg,ck,cU,cV,cP,dA,cZ,cz,cx,cY,cQ,cr,cX,cW,cw,cv,cu]using h
   refine we (qR (by rw[C.N];exact ed hs) (vQ C.S hv) o1 o2) ?_;unfold pD at h;cases ht:τ[i]? with
   | none=>rw[ht]at h;cases h
   | some t =>
    rw[ht]at h;cases t with
    | un=>cases h
    | frz v n =>
     cases h;obtain⟨u,h1,h2⟩:=R.frz i v n ht;exact⟨u,h1,q u H (aE.refl _) h2⟩
    | own xs n =>
     cases h;obtain⟨l,us,h1,h2,h3,h4⟩:=R.owns i xs n ht;refine⟨_,h1,q _ H (aE.refl _) ?_⟩;refine Rp.lst.mpr ⟨l,us,rfl,(fun z=>absurd z Ir),bN.of h3,h4.weak.mono fun b o e=> ?_⟩;unfold aX at e
     split at e
     ·cases e
     ·rename_i nb
      unfold del;have ne:b≠l:=fun z=>nb (z▸h2);rw[Iq ne];exact e
    | owd b xs n =>
     cases h;obtain⟨l,us,o,h1,h2,h3,ha,h4⟩:=R.obs i _ b xs n ht rfl;refine⟨_,h1,q _ H (aE.refl _) ?_⟩;refine Rp.at (fun z=>absurd z Ir) h3 ha (h4.weak.mono fun c o e=> ?_);unfold aX at e
     split at e
     ·cases e
     ·rename_i nb
      unfold del;have ne:c≠l:=fun z=>nb (z▸h2);rw[Iq ne];exact e
 ·split at h
  ·rename_i hg
   cases hx:ct.G.lookup x with
   | none=>rw[hx]at h;simp[cc,cO,ci,cT,cf,dB,cq,cR,cS,cy,cg,ck,cU,cV,cP,dA,cZ,cz,cx,cY,cQ,cr,cX,cW,cw,cv,cu]at h
   | some v =>
    rw[hx]at h;have h:some (sc v)=some r:=by simpa [cc,cO,ci,cT,cf,dB,cq,cR,cS,cy,cg,ck,cU,cV,cP,dA,cZ,cz,cx,cY,cQ,cr,cX,cW,cw,cv,cu]using h
    cases h;obtain⟨u,w,h1,h2,h3⟩:=C.glob x v hx;have g:Gl X x:=by
     show X.env.scope.names.lookup x=_;rw[C.S]
     simpa using hg
    exact we (zK g h1 h2 o1) (q _ _ (aE.refl _) (fG fun _=>h3 _ _ _))
  ·simp[cc,cO,ci,cT,cf,dB,cq,cR,cS,cy,cg,ck,cU,cV,cP,dA,cZ,cz,cx,cY,cQ,cr,cX,cW,cw,cv,cu]at h
theorem iU{a b:Expr}{op:Operator}{pos:Pos}{x y r:RV}{rr:R2}(ho:dv X (binaryOp op) rr)(ha:aI X Hi τ a x)(hb:aI X Hi τ b y)
  (k:∀(O:List Addr)(σ:L2.St)(H H2:Hp)(u v:V)(Q:VK),ao X.K Hi O τ σ H->aE H H2->ae X.K Hi O H H2 x u->ae X.K Hi O H H2 y v->(∀w H3,aE H2 H3->ae X.K Hi O H H3 r w->Q w H3)->rr u v H2 Q) :
  aI X Hi τ (.BinOp a op b pos) r:=by
 intro O σ H Q R q;refine we (jn ho af af) ?_;refine ha O σ H _ R fun u H1 s1 r1=>hb O σ H1 _ (R.ext s1) fun v H2 s2 r2=> ?_;exact k O σ H H2 u v Q R (s1.trans s2) (r1.ext s2) (r2.back s1) fun w H3 s3 r3=>q w H3 (s1.trans (s2.trans s3)) r3
theorem ae.int{O:List Addr}{σ:L2.St}{H H' :Hp}{x:RV}{u:V}{i:Int}(R:ao X.K Hi O τ σ H)(s:aE H H')(h:ae X.K Hi O H H' x u)(e:x.val=.int i):u=.int i:=by
 have z:=h.val R s;rw[e]at z;exact Rp.int.mp z
theorem ae.str{O:List Addr}{σ:L2.St}{H H' :Hp}{x:RV}{u:V}{i:Str}(R:ao X.K Hi O τ σ H)(s:aE H H')(h:ae X.K Hi O H H' x u)(e:x.val=.str i):u=.str i:=by
 have z:=h.val R s;rw[e]at z;exact Rp.str.mp z
theorem ae.bl{O:List Addr}{σ:L2.St}{H H' :Hp}{x:RV}{u:V}{i:Bool}(R:ao X.K Hi O τ σ H)(s:aE H H')(h:ae X.K Hi O H H' x u)(e:x.val=.bl i):u=.bl i:=by
 have z:=h.val R s;rw[e]at z;exact Rp.bl.mp z
theorem ae.tup{O:List Addr}{σ:L2.St}{H H' :Hp}{x:RV}{u:V}{ys:List PV}(R:ao X.K Hi O τ σ H)(s:aE H H')(h:ae X.K Hi O H H' x u)(e:x.val=.tup ys):∃p us,u=.ref p/\bw X.K H' p us/\aJ X.K Hi false ys H' us:=by
 have z:=h.val R s;rw[e]at z;exact Rp.tup.mp z
theorem ae.lst{O:List Addr}{σ:L2.St}{H H' :Hp}{x:RV}{u:V}{ys:List PV}(R:ao X.K Hi O τ σ H)(s:aE H H')(h:ae X.K Hi O H H' x u)(e:x.val=.lst ys):∃p us,u=.ref p/\bN X.K H' p us/\aJ X.K Hi false ys H' us:=by
 have z:=h.val R s;rw[e]at z;obtain⟨p,us,h1,_,h2,h3⟩:=Rp.lst.mp z;exact⟨p,us,h1,h2,h3.mono bM⟩
theorem ae.itsL{O:List Addr}{σ:L2.St}{H H' :Hp}{r:RV}{u:V}{xs ys:List PV}{n:Bool}(R:ao X.K Hi O τ σ H)(s:aE H H')(h:ae X.K Hi O H H' r u)(e:r.its=some (xs,n))(ev:r.val=.lst ys) :
  ∃p us,u=.ref p/\bN X.K H' p us/\aJ X.K Hi n xs (aX H' O) us:=by
 obtain⟨p,us,h1,h2,h3⟩:=h.its R s e
 rcases h2 with⟨h2,_⟩|⟨_,zs,h2⟩
 ·exact⟨p,us,h1,h2,h3⟩
 ·rw[ev]at h2
  cases h2
theorem ae.itsT{O:List Addr}{σ:L2.St}{H H' :Hp}{r:RV}{u:V}{xs ys:List PV}{n:Bool}(R:ao X.K Hi O τ σ H)(s:aE H H')(h:ae X.K Hi O H H' r u)(e:r.its=some (xs,n))(ev:r.val=.tup ys) :
  ∃p us,u=.ref p/\bw X.K H' p us/\aJ X.K Hi n xs (aX H' O) us:=by
 obtain⟨p,us,h1,h2,h3⟩:=h.its R s e
 rcases h2 with⟨_,zs,h2⟩|⟨h2,_⟩
 ·rw[ev]at h2
  cases h2
 ·exact⟨p,us,h1,h2,h3⟩
theorem di{O:List Addr}{H H2:Hp}{xs:List PV}{n:Bool}{p:Addr}{us:List V}(s:aE H H2)(hp:H2 p=none)(r:aJ X.K Hi n xs (aX H2 O) us):ae X.K Hi O H (L2.upd H2 p (.lst us)) (.own xs n) (.ref p):=by
 refine⟨p,us,rfl,s.free hp,aK,r.mono (aL fun b o e=> ?_)⟩;have ne:=aM e hp;unfold del;rw[Iq ne,aD ne];exact e
theorem nJ{O:List Addr}{σ:L2.St}{H H2:Hp}{p:Addr}{o:HO}(R:ao X.K Hi O τ σ H)(s:aE H H2)(hp:H2 p=none):aX (L2.upd H2 p o) O p=some o:=by
 unfold aX;rw[Iq fun z=> ?_]
 ·exact aK
 ·obtain⟨us,e,_⟩:=(R.own p z).2
  rw[s _ _ e]at hp;cases hp
theorem sm{O:List Addr}{σ:L2.St}{H H2:Hp}{p:Addr}{us:List V}(R:ao X.K Hi O τ σ H)(s:aE H H2)(h:bw X.K H2 p us):bw X.K (aX H2 O) p us:=(R.ext s).tups.at h
theorem DG{n m:Bool}{xs ys:List PV}{H:Hp}{us vs:List V}(a:aJ X.K Hi n xs H us)(b:aJ X.K Hi m ys H vs):aJ X.K Hi (n&&m) (xs++ys) H (us++vs):=by
 refine aJ.app (a.low fun z=> ?_) (b.low fun z=> ?_)
 ·rw[Iu]at z;exact z.1
 ·rw[Iu]at z;exact z.2
theorem qJ{O:List Addr}{H H' :Hp}{i:Int}:ae X.K Hi O H H' (sc (.int i)) (.int i):=fG fun _=>Rp.int.mpr rfl
theorem FS{O:List Addr}{H H' :Hp}{i:Bool}:ae X.K Hi O H H' (sc (.bl i)) (.bl i):=fG fun _=>Rp.bl.mpr rfl
theorem FR{O:List Addr}{H H' :Hp}{i:Str}:ae X.K Hi O H H' (sc (.str i)) (.str i):=fG fun _=>Rp.str.mpr rfl
theorem sS{xs:List PV}{n:Bool}{r:RV}(h:kq xs n=some r):xs.length<=LN/\r=.own xs n:=by
 unfold kq at h
 split at h
 ·rename_i e;cases h;exact⟨e,rfl⟩
 ·cases h
theorem sR{xs:List PV}{n:Bool}{r:RV}(h:nA xs n=some r):xs.length<=LN/\r=.frz (.tup xs) n:=by
 unfold nA at h
 split at h
 ·rename_i e;cases h;exact⟨e,rfl⟩
 ·cases h
theorem binI{a b:Expr}{op:Operator}{pos:Pos}{x y:RV}{i j:Int}{C:Int->Int->Prop}{g:Int->Int->V}{w:PV}(ho:dv X (binaryOp op) (rI C g))(ha:aI X Hi τ a x)(hb:aI X Hi τ b y)(ex:x.val=.int i)(ey:y.val=.int j)(c:C i j)
  (hg:∀G,Rp X.K Hi true w G (g i j)):aI X Hi τ (.BinOp a op b pos) (sc w) :=
 iU ho ha hb fun O σ H H2 u v Q R s ru rv q=>⟨i,j,ru.int R s ex,rv.int R s ey,c,q _ _ (aE.refl _) (fG hg)⟩
theorem Bi{a b:Expr}{op:Operator}{pos:Pos}{x y:RV}{i j:Int}{g:Int->Int->V}{w:PV}(ho:dv X (binaryOp op) (vz g))(ha:aI X Hi τ a x)(hb:aI X Hi τ b y)(ex:x.val=.int i)(ey:y.val=.int j)
  (hg:∀G,Rp X.K Hi true w G (g i j)):aI X Hi τ (.BinOp a op b pos) (sc w) :=
 iU ho ha hb fun O σ H H2 u v Q R s ru rv q=>⟨i,j,ru.int R s ex,rv.int R s ey,q _ _ (aE.refl _) (fG hg)⟩
theorem aJ.rep{n:Bool}{xs:List PV}{H:Hp}{us:List V}(h:aJ X.K Hi n xs H us):∀k:Nat,aJ X.K Hi n (List.replicate k xs).flatten H (List.replicate k us).flatten
 | 0=>by simp;exact .nil
 | k+1=>by
  rw[KL,Ks,KL,Ks];exact h.app (aJ.rep h k)
theorem x6{a b:Expr}{op:Operator}{pos:Pos}{x y r:RV}(ha:aI X Hi τ a x)(hb:aI X Hi τ b y)(h:cN op x y=some r):aI X Hi τ (.BinOp a op b pos) r:=by
 cases op with
 | Add =>
  have h:rK x y=some r:=h;unfold rK at h
  split at h
  case h_1 i j e1 e2=>cases h;exact Bi qT ha hb e1 e2 fun _=>Rp.int.mpr rfl
  case h_2 i j e1 e2 =>
   split at h
   ·rename_i hz
    cases h;exact iU qS ha hb fun O σ H H2 u v Q R s ru rv q=>⟨i,j,ru.str R s e1,rv.str R s e2,by rw[dQ];exact hz,q _ _ (aE.refl _) FR⟩
   ·cases h
  case h_3 e1 e2 =>
   split at h
   ·rename_i xs n ys m ix iy
    obtain⟨hz,rfl⟩:=sS h;refine iU zT ha hb fun O σ H H2 u v Q R s ru rv q=> ?_;obtain⟨p,us,rfl,l1,r1⟩:=ru.itsL R s ix e1;obtain⟨p2,us2,rfl,l2,r2⟩:=rv.itsL R s iy e2;have z1:=r1.len;have z2:=r2.len;rw[JA]at hz;exact⟨p,p2,us,us2,rfl,rfl,l1,l2,by rw[dQ,<-z1,<-z2];exact hz,fun p3 hp=>q _ _ (aU hp _) (di s hp (DG r1 r2))⟩
   ·cases h
  case h_4 e1 e2 =>
   split at h
   ·rename_i xs n ys m ix iy
    obtain⟨hz,rfl⟩:=sR h;refine iU zR ha hb fun O σ H H2 u v Q R s ru rv q=> ?_;obtain⟨p,us,rfl,l1,r1⟩:=ru.itsT R s ix e1;obtain⟨p2,us2,rfl,l2,r2⟩:=rv.itsT R s iy e2;have z1:=r1.len;have z2:=r2.len;rw[JA]at hz;exact⟨p,p2,us,us2,rfl,rfl,l1,l2,by rw[dQ,<-z1,<-z2];exact hz,fun p3 H3 s3 l3=>q _ _ s3 (Rp.tup.mpr ⟨p3,_,rfl,sm R (s.trans s3) l3,(DG r1 r2).mono (aL s3)⟩)⟩
   ·cases h
  case h_5=>cases h
 | Sub =>
  have h:rH x y=some r:=h;unfold rH at h
  split at h
  case h_1 i j e1 e2=>cases h;exact Bi Cs ha hb e1 e2 fun _=>Rp.int.mpr rfl
  case h_2=>cases h
 | Mult =>
  have h:nV x y=some r:=h;unfold nV at h
  split at h
  case h_1 i j e1 e2 =>
   split at h
   ·rename_i c
    cases h;exact binI Cy ha hb e1 e2 c fun _=>Rp.int.mpr rfl
   ·split at h
    ·rename_i c
     cases h;exact binI zQ ha hb e1 e2 c fun _=>Rp.int.mpr rfl
    ·cases h
  case h_2 k e1 e2 =>
   split at h
   ·rename_i xs n
    split at h
    ·rename_i c
     cases h;refine iU Cv ha hb fun O σ H H2 u v Q R s ru rv q=> ?_;obtain⟨p,us,rfl,l0,l1,r1⟩:=ru;have z1:=r1.len;refine⟨p,k,us,rfl,rv.int R s e2,l1,by omega,by omega,by rw[dQ,<-z1];exact c.2.2,fun p3 hp=>q _ _ (aU hp _) (di s hp ((r1.mono (aL bM)).rep _))⟩
    ·cases h
   ·cases h
  case h_3=>cases h
 | FloorDiv =>
  have h:eW x y=some r:=h;unfold eW at h
  split at h
  case h_1 i j e1 e2 =>
   split at h
   ·rename_i c
    cases h;exact binI wU ha hb e1 e2 ⟨c.1,Kk ((Nat.log2_lt (n:=j.natAbs) (k:=200) (by omega)).mpr (by omega)) (by decide)⟩ fun _=>Rp.int.mpr rfl
   ·cases h
  case h_2=>cases h
 | Mod =>
  have h:rJ x y=some r:=h;unfold rJ at h
  split at h
  case h_1 i j e1 e2 =>
   split at h
   ·rename_i c
    cases h;exact binI Cz ha hb e1 e2 c fun _=>Rp.int.mpr rfl
   ·cases h
  case h_2=>cases h
 | LShift =>
  have h:iV x y=some r:=h;unfold iV at h
  split at h
  case h_1 i j e1 e2 =>
   split at h
   ·rename_i c
    cases h;exact binI Cu ha hb e1 e2 c fun _=>Rp.int.mpr rfl
   ·cases h
  case h_2=>cases h
 | _=>exact absurd (show(none:Option RV)=some r from h) (by intro z;cases z)
mutual
theorem ar{pins:List (Addr×Obj)}{σ:L2.St}{H:Hp}{s:Shared}(I:Inv X pins σ H s):∀{a:PV}{n:Nat}{u:V}{u' :Value},bv n a=true->Rp X.K Hi false a H u->RelV u u' ->∃as,Reads s.heap u' (iO a) as
 | .non,_,_,_,_,r,e=>by cases Rp.non.mp r;cases e;exact⟨_,.none⟩
 | .bl b,_,_,_,_,r,e=>by cases Rp.bl.mp r;cases e;exact⟨_,.bool b⟩
 | .int i,_,_,_,_,r,e=>by cases Rp.int.mp r;obtain⟨t,rfl⟩:=e;exact⟨_,.int i t⟩
 | .str z,_,_,_,_,r,e=>by cases Rp.str.mp r;obtain⟨t,rfl⟩:=e;exact⟨_,.str z t⟩
 | .lst xs,n,_,_,f,r,e=>by
  obtain⟨p,us,rfl,_,l,r⟩:=Rp.lst.mp r;cases e;cases n with
  | zero=>cases f
  | succ n =>
   obtain⟨its,rv,pl,_⟩:=I.list l;obtain⟨as,z⟩:=fU I (xs:=xs) (n:=n) f (r.mono bM) rv;obtain⟨o,ho,hc,m,hd⟩:=pl.isList;exact⟨_,.list ho hc hd (by simpa using z)⟩
 | .tup xs,n,_,_,f,r,e=>by
  obtain⟨p,us,rfl,l,r⟩:=Rp.tup.mp r;cases e;cases n with
  | zero=>cases f
  | succ n =>
   obtain⟨its,rv,pl,_⟩:=I.tuple l;obtain⟨as,z⟩:=fU I (xs:=xs) (n:=n) f r rv;obtain⟨o,ho,hc,m,hd⟩:=pl;exact⟨_,.tuple ho hc hd (by simpa using z)⟩
 | .dK _ _,n,_,_,f,_,_=>by cases n<;>cases f
 | .dT _ _,n,_,_,f,_,_=>by cases n<;>cases f
theorem fU{pins:List (Addr×Obj)}{σ:L2.St}{H:Hp}{s:Shared}(I:Inv X pins σ H s):∀{xs:List PV}{n:Nat}{us:List V}{us' :List Value},xs.all (bv n)=true->aJ X.K Hi false xs H us->aQ us us' ->∃as,ReadsAll s.heap us' (dZ xs) as
 | [],_,_,_,_,r,e=>by
  unfold aJ at r;subst r;cases e;exact⟨_,.nil⟩
 | x::xs,n,_,_,f,r,e=>by
  unfold aJ at r;obtain⟨u,us,rfl,r1,r2⟩:=r;cases e with
  | cons e1 e2 =>
   rw[Kh,Iu]at f;obtain⟨as,z⟩:=ar I f.1 r1 e1;obtain⟨bs,y⟩:=fU I f.2 r2 e2;exact⟨_,.cons z y⟩
end
mutual
theorem bS:∀{a:PV}{n:Nat},bv n a=true->(iO a).canLay0=true/\(iO a).depth<=n
 | .non,n,_=>⟨rfl,JR _⟩
 | .bl _,n,_=>⟨rfl,JR _⟩
 | .int _,n,_=>⟨rfl,JR _⟩
 | .str z,n,h=>⟨by cases n<;>exact h,JR _⟩
 | .lst xs,0,h=>by cases h
 | .lst xs,n+1,h=>⟨(dY (xs:=xs) (n:=n) h).1,Nat.succ_le_succ (dY (xs:=xs) (n:=n) h).2⟩
 | .tup xs,0,h=>by cases h
 | .tup xs,n+1,h=>⟨(dY (xs:=xs) (n:=n) h).1,Nat.succ_le_succ (dY (xs:=xs) (n:=n) h).2⟩
 | .dK _ _,n,h=>by cases n<;>cases h
 | .dT _ _,n,h=>by cases n<;>cases h
theorem dY:∀{xs:List PV}{n:Nat},xs.all (bv n)=true->PyData.canLayAll0 (dZ xs)=true/\PyData.depthAll (dZ xs)<=n
 | [],n,_=>⟨rfl,JR _⟩
 | x::xs,n,h=>by
  rw[Kh,Iu]at h;obtain⟨a,b⟩:=bS h.1;obtain⟨c,d⟩:=dY h.2;refine⟨?_,?_⟩
  ·show((iO x).canLay0&&PyData.canLayAll0 (dZ xs))=true
   rw[a,c];rfl
  ·show max (iO x).depth (PyData.depthAll (dZ xs))<=n
   omega
end
mutual
theorem b8:∀(a b:PV),PyData.eqv (iO a) (iO b)=eS a b
 | .lst xs,b=>by
  cases b with
  | lst ys=>show PyData.eqvAll (dZ xs) (dZ ys)=nP xs ys;exact j9 xs ys
  | _=>rfl
 | .tup xs,b=>by
  cases b with
  | tup ys=>show PyData.eqvAll (dZ xs) (dZ ys)=nP xs ys;exact j9 xs ys
  | _=>rfl
 | .non,b=>by cases b<;>rfl
 | .bl x,b=>by cases b<;>first|rfl|exact beq_eq_decide _ _|(unfold eS;simp[iO,PyData.eqv,AH,LP])
 | .int x,b=>by cases b<;>first|rfl|exact beq_eq_decide _ _|(unfold eS;simp[iO,PyData.eqv,AH,LP])
 | .str x,b=>by cases b<;>first|rfl|exact beq_eq_decide _ _|(unfold eS;simp[iO,PyData.eqv,AH,LP])
 | .dK k v,b=>by cases b<;>rfl
 | .dT k v,b=>by cases b<;>rfl
theorem j9:∀(xs ys:List PV),PyData.eqvAll (dZ xs) (dZ ys)=nP xs ys
 | [],[]=>rfl
 | [],_::_=>rfl
 | _::_,[]=>rfl
 | x::xs,y::ys=>by
  show(PyData.eqv (iO x) (iO y)&&PyData.eqvAll (dZ xs) (dZ ys))=(eS x y&&nP xs ys);rw[b8 x y,j9 xs ys]
end
theorem kB(x:PV):∀ys:List PV,((dZ ys).any fun y=>PyData.eqv y (iO x))=ys.any fun y=>eS y x
 | []=>rfl
 | y::ys=>by
  show(PyData.eqv (iO y) (iO x)||(dZ ys).any fun y=>PyData.eqv y (iO x))=(eS y x||ys.any fun y=>eS y x);rw[b8,kB x ys]
variable(X Hi)in
noncomputable def Gk(g:Bool->Bool):R2:=fun x y H Q=>∃a b,bv 12 a=true/\bv 12 b=true/\Rp X.K Hi false a H x/\Rp X.K Hi false b H y/\Q (.bl (g (eS a b))) H
theorem C2(hu:X.A.units+64<cLine):dv X (compareOp .Eq) (Gk X Hi id):=by
 intro pins s σ H x y u v Q I rx ry h;obtain⟨a,b,fa,fb,ra,rb,q⟩:=h;obtain⟨as,za⟩:=ar I fa ra rx;obtain⟨bs,zb⟩:=ar I fb rb ry;obtain⟨ca,da⟩:=bS fa;obtain⟨cb,db⟩:=bS fb;refine SeqAt.compareEq_reads za zb ca cb (by omega) ?_;rw[b8];exact⟨.bl _,H,I,rfl,q⟩
theorem Cw(hu:X.A.units+64<cLine):dv X (compareOp .NotEq) (Gk X Hi not):=by
 intro pins s σ H x y u v Q I rx ry h;obtain⟨a,b,fa,fb,ra,rb,q⟩:=h;obtain⟨as,za⟩:=ar I fa ra rx;obtain⟨bs,zb⟩:=ar I fb rb ry;obtain⟨ca,da⟩:=bS fa;obtain⟨cb,db⟩:=bS fb;refine SeqAt.compareNe_reads za zb ca cb (by omega) ?_;rw[b8];exact⟨.bl _,H,I,rfl,q⟩
variable(X Hi)in
noncomputable def rIn2(g:Bool->Bool):R2:=fun x y H Q=>∃a ys,bv 12 a=true/\ys.all (bv 12)=true/\Rp X.K Hi false a H x/\(Rp X.K Hi false (.lst ys) H y\/Rp X.K Hi false (.tup ys) H y)/\Q (.bl (g (ys.any fun y=>eS y a))) H
theorem sQ(hu:X.A.units+64<cLine):dv X (compareOp .NotIn) (rIn2 X Hi not):=by
 intro pins s σ H x y u v Q I rx ry h;obtain⟨a,ys,fa,fb,ra,rb,q⟩:=h;obtain⟨as,za⟩:=ar I fa ra rx;obtain⟨ca,da⟩:=bS fa;obtain⟨cb,db⟩:=dY fb
 rcases rb with rb|rb
 ·obtain⟨bs,zb⟩:=ar I (a:=.lst ys) (n:=13) fb rb ry
  refine SeqAt.notIn_list_reads zb za cb ca (by omega) ?_;rw[kB];exact⟨.bl _,H,I,rfl,q⟩
 ·obtain⟨bs,zb⟩:=ar I (a:=.tup ys) (n:=13) fb rb ry
  refine SeqAt.notIn_tuple_reads zb za cb ca (by omega) ?_;rw[kB];exact⟨.bl _,H,I,rfl,q⟩
theorem Rp.dT{n:Bool}{ks:List (List am)}{vs:List PV}{G:Hp}{u:V}(h:Rp X.K Hi n (.dT ks vs) G u):∃p us,u=.ref p/\G p=some (.dT (ks.zip us))/\ks.length=us.length/\aJ X.K Hi n vs (IR.del G p) us:=by
 unfold Rp at h;obtain⟨p,us,e,_,h1,h2,h3⟩:=h;exact⟨p,us,e,h1,h2,h3⟩
theorem Rp.dK{n:Bool}{ks:List am}{vs:List PV}{G:Hp}{u:V}(h:Rp X.K Hi n (.dK ks vs) G u):∃p us,u=.ref p/\G p=some (.dK (ks.zip us))/\ks.length=us.length/\aJ X.K Hi n vs (IR.del G p) us:=by
 unfold Rp at h;obtain⟨p,us,e,_,h1,h2,h3⟩:=h;exact⟨p,us,e,h1,h2,h3⟩
end
section
variable{X:Cx}{Hi:Hp}
noncomputable def FL(A:Around)(s:Shared)(a b:Value)(t:Bool):Prop:=∀(prog:Program)(w:World)(E:Value->Shared->Prop)(Q:Value->Shared->Prop),Q (.bool t) s->wpAny (model prog w) A (richCompare .GtE a b) Q E s
inductive p4(A:Around)(s:Shared):List (Value×Value)->Option Bool->Prop
 | nil:p4 A s [] none
 | eq {p q:Value} {r:List (Value×Value)} {t:Option Bool}:SeqAt.EqAt A s p q true->p4 A s r t->p4 A s ((p,q)::r) t
 | ne {p q:Value} {r:List (Value×Value)} {t:Bool}:SeqAt.EqAt A s p q false->FL A s p q t->p4 A s ((p,q)::r) (some t)
theorem B5(l b:Addr)(xs ys:Array Value)(n n2:Nat)(d1 d2:Option Addr)(sl sl2:Array (Option Value)):Meets (Builtin.«tuple.__ge__» ⟨[.ref l,.ref b],[]⟩)
  (fun A R s=>s.heap.get? l=some ⟨.type "tuple",d1,.seq xs n,sl⟩/\s.heap.get? b=some ⟨.type "tuple",d2,.seq ys n2,sl2⟩ /\
   ∃t:Option Bool,p4 A.in1 s (xs.toList.zip ys.toList) t/\R (.ok (.ret (.bool (t.getD (decide (xs.size ≥ ys.size)))))) s) :=
 .of_wp fun prog w A R s h=>by
  obtain⟨hp,g,d,tk,os⟩:=s;obtain⟨h1,h2,t,ow,hR⟩:=h;have f2:=AutoSeq1.sub_tuple_tuple
  wp_walk using AutoSeq1.wpAny_loadPart' h1,AutoSeq1.wpAny_loadPart' h2,wpAny_forIn_list _ (fun aP c s' =>c.1=none/\s' =⟨hp,g,d,tk,os⟩/\∃t:Option Bool,p4 A.in1 ⟨hp,g,d,tk,os⟩ aP t/\R (.ok (.ret (.bool (t.getD (decide (xs.size ≥ ys.size)))))) ⟨hp,g,d,tk,os⟩) _
  case turn =>
   rintro⟨y,x⟩ aP c s' ⟨hc,rfl,t,ow,hR⟩;cases ow with
   | eq he ow =>
    refine Ij (he prog w _ _ ?_)
    wp_walk
    exact⟨rfl,rfl,t,ow,hR⟩
   | ne he hl =>
    refine Ij (he prog w _ _ ?_);refine Ij (wpAny_rule (Ij (hl prog w _ _ ?_)));refine Ij (JB (JB ?_));exact JB ⟨_,rfl,hR⟩
  case fin =>
   rintro⟨c1,c2⟩ s' ⟨hc,rfl,t,ow,hR⟩;cases ow;simp only at hc;subst hc
   wp_walk
   exact⟨_,rfl,by simpa [Builtin.Tuple.tupleCompareSizes]using hR⟩
  case h =>
   exact⟨rfl,rfl,t,ow,hR⟩
theorem ue{A:Around}{s:Shared}{l b:Addr}{xs ys:Array Value}{t:Option Bool}(hl:s.heap.IsTuple l xs)(hb:s.heap.IsTuple b ys)(hu:A.units<cLine)(ow:p4 A.in1 s (xs.toList.zip ys.toList) t):FL A s (.ref l) (.ref b) (t.getD (decide (xs.size ≥ ys.size))):=fun prog w E Q h=>by
 obtain⟨⟨c1,d1,x1,s1⟩,h1,e1,n,y1⟩:=id hl;obtain⟨⟨c2,d2,x2,s2⟩,h2,e2,m,y2⟩:=id hb;simp only at e1 y1 e2 y2;subst e1 y1 e2 y2;exact richCompare_meets_room (op:=.GtE) ⟨_,h1,rfl⟩ ⟨_,h2,rfl⟩ PySem.F.slot_tuple_ge PySem.F.entry_tuple_ge (PySem.F.args_tuple_ge_2 _ _) (B5 l b xs ys n m d1 d2 s1 s2) ⟨h1,h2,t,ow,(fun z=>nomatch z),h⟩ hu
mutual
theorem xP:∀{x y:PV}{n:Nat}{A:Around}{s:Shared}{a b:Value}{as bs:List Addr}{t:Bool},Reads s.heap a (iO x) as->Reads s.heap b (iO y) bs->bv n x=true->bv n y=true->A.units+n<cLine->Dh x y=some t->FL A s a b t
 | .int i,y,_,_,_,_,_,_,_,_,ra,rb,_,_,_,h=>by
  cases y with
  | int j =>
   cases h;cases ra;cases rb;exact fun prog w E Q q=>PyProof.Rows.ge_int q
  | _=>cases h
 | .tup xs,y,n,A,s,_,_,_,_,t,ra,rb,fa,fb,hu,h=>by
  cases y with
  | tup ys =>
   cases n with
   | zero=>cases fa
   | succ n =>
    cases ra with
    | @tuple l o vs m _ _ h1 h2 h3 h4 =>
     cases rb with
     | @tuple l' o' ws m' _ _ k1 k2 k3 k4 =>
      obtain⟨o,ow,e⟩:=sw (A:=A.in1) (n:=n) h4 k4 fa fb (by show A.units+1+n<cLine;omega) h;rw[Jd,Jd]at e;rw[e];exact ue ⟨_,h1,h2,_,h3⟩ ⟨_,k1,k2,_,k3⟩ (by omega) ow
  | _=>cases h
 | .non,_,_,_,_,_,_,_,_,_,_,_,_,_,_,h=>by cases h
 | .bl _,_,_,_,_,_,_,_,_,_,_,_,_,_,_,h=>by cases h
 | .str _,_,_,_,_,_,_,_,_,_,_,_,_,_,_,h=>by cases h
 | .lst _,_,_,_,_,_,_,_,_,_,_,_,_,_,_,h=>by cases h
 | .dK _ _,_,_,_,_,_,_,_,_,_,_,_,_,_,_,h=>by cases h
 | .dT _ _,_,_,_,_,_,_,_,_,_,_,_,_,_,_,h=>by cases h
theorem sw:∀{xs ys:List PV}{n:Nat}{A:Around}{s:Shared}{vs ws:List Value}{as bs:List Addr}{t:Bool},ReadsAll s.heap vs (dZ xs) as->ReadsAll s.heap ws (dZ ys) bs->xs.all (bv n)=true->ys.all (bv n)=true->A.units+n<cLine->ud xs ys=some t ->
  ∃o:Option Bool,p4 A s (vs.zip ws) o/\t=o.getD (decide (vs.length ≥ ws.length))
 | [],ys,_,_,_,_,_,_,_,_,ra,rb,_,_,_,h=>by
  cases h;cases ra;refine⟨none,.nil,?_⟩;cases ys with
  | nil=>cases rb;rfl
  | cons y ys=>cases rb;rfl
 | x::xs,[],_,_,_,_,_,_,_,_,ra,rb,_,_,_,h=>by
  cases h;cases rb;cases ra;exact⟨none,by rw[List.zip_nil_right];exact .nil,rfl⟩
 | x::xs,y::ys,n,A,s,_,_,_,_,t,ra,rb,fa,fb,hu,h=>by
  rw[Kh,Iu]at fa fb;cases ra with
  | cons r rs =>
   cases rb with
   | cons r' rs' =>
    obtain⟨c1,d1⟩:=bS fa.1;obtain⟨c2,d2⟩:=bS fb.1;have he:=SeqAt.eqAt_reads (iO x) (iO y) A s _ _ _ _ r r' c1 c2 (by omega);rw[b8]at he;have h:(if eS x y=true then ud xs ys else Dh x y)=some t:=h;cases e:eS x y with
    | true =>
     rw[e]at h he;obtain⟨o,ow,z⟩:=sw rs rs' fa.2 fb.2 hu h;refine⟨o,.eq he ow,?_⟩;rw[z,JI,JI]
     congr 1
     exact Ky.mpr (by omega)
    | false =>
     rw[e]at h he;exact⟨some t,.ne he (xP r r' fa.1 fb.1 hu h),rfl⟩
end
variable(X Hi)in
noncomputable def rGeT:R2:=fun x y H Q=>∃a b t,bv 12 a=true/\bv 12 b=true/\Rp X.K Hi false a H x/\Rp X.K Hi false b H y/\Dh a b=some t/\Q (.bl t) H
theorem C0(hu:X.A.units+64<cLine):dv X (compareOp .GtE) (rGeT X Hi):=by
 intro pins s σ H x y u v Q I rx ry h;obtain⟨a,b,t,fa,fb,ra,rb,e,q⟩:=h;obtain⟨as,za⟩:=ar I fa ra rx;obtain⟨bs,zb⟩:=ar I fb rb ry;exact xP za zb fa fb (by omega) e _ _ _ _ ⟨.bl _,H,I,rfl,q⟩
end
section
variable{X:Cx}{Hi:Hp}{τ:En}
theorem xY{a b:PV}{t:Bool}{H H' :Hp}{u v:V}(h:eqs a b=some t)(ha:Rp X.K Hi false a H u)(hb:Rp X.K Hi false b H' v):CQ u v=true/\decide (u=v)=t:=by
  cases a<;>cases b<;>first
    | exact absurd (show(none:Option Bool)=some t from h) (by intro z;cases z)
    | (have e:=JF (show some _=some t from h)
       subst e
       first
       | rw[Rp.int.mp ha]|rw[Rp.str.mp ha]|rw[Rp.bl.mp ha]|rw[Rp.non.mp ha]
       first
       | rw[Rp.int.mp hb]|rw[Rp.str.mp hb]|rw[Rp.bl.mp hb]|rw[Rp.non.mp hb]
       exact⟨rfl,by simp⟩)
theorem nO{a:PV}{H:Hp}{u:V}(ha:Rp X.K Hi false a H u)(f:pL a=true):fJ u=true:=by
 cases a with
 | non=>rw[Rp.non.mp ha];rfl
 | bl b=>rw[Rp.bl.mp ha];rfl
 | int b=>rw[Rp.int.mp ha];rfl
 | str b=>rw[Rp.str.mp ha];rfl
 | _=>cases f
theorem Dt{a b:PV}{H H' :Hp}{u v:V}(ha:Rp X.K Hi false a H u)(hb:Rp X.K Hi false b H' v)(fa:pL a=true)(fb:pL b=true):vE u v=AH a b:=by
 cases a<;>(try cases fa)<;>cases b<;>(try cases fb) <;>
  (first|rw[Rp.int.mp ha]|rw[Rp.str.mp ha]|rw[Rp.bl.mp ha]|rw[Rp.non.mp ha]) <;>
  (first|rw[Rp.int.mp hb]|rw[Rp.str.mp hb]|rw[Rp.bl.mp hb]|rw[Rp.non.mp hb]) <;>
  first|rfl|exact beq_eq_decide _ _|exact(beq_eq_decide _ _).symm|(simp[vE,AH,LP];done)|(unfold vE AH;simp only[beq_eq_decide])
theorem j7:∀{xs:List PV}{H:Hp}{us:List V},aJ X.K Hi false xs H us->xs.all pL=true->us.all fJ=true
 | [],_,_,h,_=>by unfold aJ at h;subst h;rfl
 | x::xs,_,_,h,f=>by
  unfold aJ at h;obtain⟨u,r,rfl,a,b⟩:=h;rw[Kh,Iu]at f ⊢;exact⟨nO a f.1,j7 b f.2⟩
theorem rL{x:PV}{H' :Hp}{v:V}(hb:Rp X.K Hi false x H' v)(fb:pL x=true):∀{xs:List PV}{H:Hp}{us:List V},aJ X.K Hi false xs H us->xs.all pL=true->inV v us=xs.any fun y=>AH y x
 | [],_,_,h,_=>by unfold aJ at h;subst h;rfl
 | y::xs,_,_,h,f=>by
  unfold aJ at h;obtain⟨u,r,rfl,a,b⟩:=h;rw[Kh,Iu]at f;show(vE u v||inV v r)=_;rw[LU,rL hb fb b f.2,Dt a hb f.1 fb]
theorem wZ{a:PV}{H:Hp}{u:V}(ha:Rp X.K Hi false a H u)(h:∀z,a≠z\/z≠PV.non):u≠.non:=by
 intro e;subst e;cases a with
 | non=>rcases h .non with z|z<;>exact z rfl
 | bl b=>cases Rp.bl.mp ha
 | int b=>cases Rp.int.mp ha
 | str b=>cases Rp.str.mp ha
 | lst xs=>obtain⟨p,us,z,_⟩:=Rp.lst.mp ha;cases z
 | tup xs=>obtain⟨p,us,z,_⟩:=Rp.tup.mp ha;cases z
 | dK ks vs=>unfold Rp at ha;obtain⟨p,us,z,_⟩:=ha;cases z
 | dT ks vs=>unfold Rp at ha;obtain⟨p,us,z,_⟩:=ha;cases z
theorem pV(hun:X.A.units+64<cLine){op:CmpOp}{x y:RV}{t:Bool}(h:ah op x.val y.val=some t):∃rr:R2,dv X (compareOp op) rr /\
  ∀(O:List Addr)(σ:L2.St)(H H2:Hp)(u v:V)(Q:VK),ao X.K Hi O τ σ H->aE H H2->ae X.K Hi O H H2 x u->ae X.K Hi O H H2 y v->Q (.bl t) H2->rr u v H2 Q:=by
 cases op with
 | Lt =>
  have h:xu x.val y.val=some t:=h;unfold xu at h
  split at h
  case h_1 i j e1 e2=>cases h;exact⟨_,Gy,fun O σ H H2 u v Q R s ru rv q=>⟨i,j,ru.int R s e1,rv.int R s e2,q⟩⟩
  case h_2=>cases h
 | LtE =>
  have h:qw x.val y.val=some t:=h;unfold qw at h
  split at h
  case h_1 i j e1 e2=>cases h;exact⟨_,Gz,fun O σ H H2 u v Q R s ru rv q=>⟨i,j,ru.int R s e1,rv.int R s e2,q⟩⟩
  case h_2=>cases h
 | Gt =>
  have h:xy x.val y.val=some t:=h;unfold xy at h
  split at h
  case h_1 i j e1 e2=>cases h;exact⟨_,G6,fun O σ H H2 u v Q R s ru rv q=>⟨i,j,ru.int R s e1,rv.int R s e2,q⟩⟩
  case h_2=>cases h
 | GtE =>
  have h:qx x.val y.val=some t:=h;unfold qx at h
  split at h
  case h_1 i j e1 e2=>cases h;exact⟨_,G7,fun O σ H H2 u v Q R s ru rv q=>⟨i,j,ru.int R s e1,rv.int R s e2,q⟩⟩
  case h_2 xs ys e1 e2 =>
   unfold geT at h
   split at h
   ·rename_i c
    rw[Iu]at c;exact⟨_,C0 (Hi:=Hi) hun,fun O σ H H2 u v Q R s ru rv q=>⟨_,_,t,c.1,c.2,by have z:=ru.val R s;rw[e1]at z;exact z,by have z:=rv.val R s;rw[e2]at z;exact z,h,q⟩⟩
   ·cases h
  case h_3=>cases h
 | Eq =>
  have h:Bc x.val y.val=some t:=h;unfold Bc at h
  split at h
  ·rename_i z
   cases h;refine⟨_,BU,fun O σ H H2 u v Q R s ru rv q=> ?_⟩;obtain⟨z1,z2⟩:=xY z (ru.val R s) (rv.val R s);exact⟨z1,by rw[z2];exact q⟩
  ·split at h
   ·rename_i c
    rw[Iu]at c;cases h;exact⟨_,C2 (Hi:=Hi) hun,fun O σ H H2 u v Q R s ru rv q=>⟨_,_,c.1,c.2,ru.val R s,rv.val R s,q⟩⟩
   ·cases h
 | NotEq =>
  have h:(Bc x.val y.val).map (!·)=some t:=h;obtain⟨k,e,rfl⟩:∃k,Bc x.val y.val=some k/\t= !k:=by
   cases e:Bc x.val y.val with
   | none=>rw[e]at h;cases h
   | some k=>rw[e]at h;cases h;exact⟨k,rfl,rfl⟩
  unfold Bc at e
  split at e
  ·rename_i z
   cases e;refine⟨_,Gx,fun O σ H H2 u v Q R s ru rv q=> ?_⟩;obtain⟨z1,z2⟩:=xY z (ru.val R s) (rv.val R s);exact⟨z1,by rw[z2];exact q⟩
  ·split at e
   ·rename_i c
    rw[Iu]at c;cases e;exact⟨_,Cw (Hi:=Hi) hun,fun O σ H H2 u v Q R s ru rv q=>⟨_,_,c.1,c.2,ru.val R s,rv.val R s,q⟩⟩
   ·cases e
 | Is =>
  have h:xw x.val y.val=some t:=h;unfold xw at h
  split at h
  case h_1 e1 e2 =>
   cases h;refine⟨_,wT,fun O σ H H2 u v Q R s ru rv q=> ?_⟩;have z1:=ru.val R s;have z2:=rv.val R s;rw[e1]at z1;rw[e2]at z2;exact⟨Rp.non.mp z2,by rw[Rp.non.mp z1];exact q⟩
  case h_2 e2 ne =>
   cases h;refine⟨_,wT,fun O σ H H2 u v Q R s ru rv q=> ?_⟩;have z2:=rv.val R s;rw[e2]at z2;have n:u≠.non:=wZ (ru.val R s) fun z=>by
    by_cases c:z=.non
    ·left;intro c2;exact ne (c2.trans c)
    ·right;exact c
   exact⟨Rp.non.mp z2,by rw[JK n];exact q⟩
  case h_3=>cases h
 | IsNot =>
  have h:kH x.val y.val=some t:=h;unfold kH at h
  split at h
  case h_1 e1 e2 =>
   cases h;refine⟨_,sO,fun O σ H H2 u v Q R s ru rv q=> ?_⟩;have z1:=ru.val R s;have z2:=rv.val R s;rw[e1]at z1;rw[e2]at z2;exact⟨Rp.non.mp z2,by rw[Rp.non.mp z1];exact q⟩
  case h_2 e2 ne =>
   cases h;refine⟨_,sO,fun O σ H H2 u v Q R s ru rv q=> ?_⟩;have z2:=rv.val R s;rw[e2]at z2;have n:u≠.non:=wZ (ru.val R s) fun z=>by
    by_cases c:z=.non
    ·left;intro c2;exact ne (c2.trans c)
    ·right;exact c
   exact⟨Rp.non.mp z2,by rw[JK n];exact q⟩
  case h_3 b c e1 e2=>cases h;exact⟨_,uI,fun O σ H H2 u v Q R s ru rv q=>⟨b,c,ru.bl R s e1,rv.bl R s e2,q⟩⟩
  case h_4=>cases h
 | NotIn =>
  have h:kG x.val y.val=some t:=h;unfold kG at h
  split at h
  case h_1 ys e2 =>
   obtain⟨k,e,rfl⟩:∃k,si x.val ys=some k/\t= !k:=by
    cases e:si x.val ys with
    | none=>rw[e]at h;cases h
    | some k=>rw[e]at h;cases h;exact⟨k,rfl,rfl⟩
   unfold si at e
   split at e
   ·rename_i c
    cases e;refine⟨_,gc,fun O σ H H2 u v Q R s ru rv q=> ?_⟩;obtain⟨p,us,rfl,l,r⟩:=rv.lst R s e2;exact⟨p,us,rfl,.inl l,nO (ru.val R s) c.1,j7 r c.2,by rw[rL (ru.val R s) c.1 r c.2];exact q⟩
   ·split at e
    ·rename_i c
     rw[Iu]at c;cases e;exact⟨_,sQ (Hi:=Hi) hun,fun O σ H H2 u v Q R s ru rv q=>⟨_,ys,c.1,c.2,ru.val R s,.inl (by have z:=rv.val R s;rw[e2]at z;exact z),q⟩⟩
    ·cases e
  case h_2 ys e2 =>
   obtain⟨k,e,rfl⟩:∃k,si x.val ys=some k/\t= !k:=by
    cases e:si x.val ys with
    | none=>rw[e]at h;cases h
    | some k=>rw[e]at h;cases h;exact⟨k,rfl,rfl⟩
   unfold si at e
   split at e
   ·rename_i c
    cases e;refine⟨_,gc,fun O σ H H2 u v Q R s ru rv q=> ?_⟩;obtain⟨p,us,rfl,l,r⟩:=rv.tup R s e2;exact⟨p,us,rfl,.inr l,nO (ru.val R s) c.1,j7 r c.2,by rw[rL (ru.val R s) c.1 r c.2];exact q⟩
   ·split at e
    ·rename_i c
     rw[Iu]at c;cases e;exact⟨_,sQ (Hi:=Hi) hun,fun O σ H H2 u v Q R s ru rv q=>⟨_,ys,c.1,c.2,ru.val R s,.inr (by have z:=rv.val R s;rw[e2]at z;exact z),q⟩⟩
    ·cases e
  case h_3=>cases h
 | _=>exact absurd (show(none:Option Bool)=some t from h) (by intro z;cases z)
theorem BW{op:CmpOp}{b:Expr}(h:dX b=false):behindInMarks op b=false:=by
 cases b<;>first|rfl|cases h
theorem EO(hun:X.A.units+64<cLine){a b:Expr}{op:CmpOp}{pos:Pos}{x y:RV}{t:Bool}(ha:aI X Hi τ a x)(hb:aI X Hi τ b y)(hs:dX b=false)(h:ah op x.val y.val=some t):aI X Hi τ (.Compare a [op] [b] pos) (sc (.bl t)):=by
 obtain⟨rr,ho,k⟩:=pV (X:=X) (Hi:=Hi) (τ:=τ) hun h;intro O σ H Q R q;refine we (zM ho af af (BW hs)) ?_;refine ha O σ H _ R fun u H1 s1 r1=>hb O σ H1 _ (R.ext s1) fun v H2 s2 r2=> ?_;exact k O σ H H2 u v Q R (s1.trans s2) (r1.ext s2) (r2.back s1) (q _ _ (s1.trans s2) FS)
theorem EN(hun:X.A.units+64<cLine){a b:Expr}{op:CmpOp}{pos:Pos}{x y:RV}{t:Bool}(ha:aI X Hi τ a x)(hb:aI X Hi τ b y)(hs:dX b=false)(h:ah op x.val y.val=some t):eX X Hi τ (.Compare a [op] [b] pos) t:=by
 obtain⟨rr,ho,k⟩:=pV (X:=X) (Hi:=Hi) (τ:=τ) hun h;intro O σ H Q R q;refine wt (sF ho af af (BW hs)) ?_;refine ha O σ H _ R fun u H1 s1 r1=>hb O σ H1 _ (R.ext s1) fun v H2 s2 r2=> ?_;exact k O σ H H2 u v _ R (s1.trans s2) (r1.ext s2) (r2.back s1) ⟨t,rfl,q _ (s1.trans s2)⟩
theorem DD{a:Expr}{pos:Pos}{x:RV}{i:Int}(ha:aI X Hi τ a x)(e:x.val=.int i):aI X Hi τ (.UnaryOp .USub a pos) (sc (.int (-i))):=by
 intro O σ H Q R q;refine we (Gr B3 af) ?_;exact ha O σ H _ R fun u H1 s1 r1=>⟨i,r1.int R s1 e,q _ _ s1 qJ⟩
theorem DA{a:Expr}{pos:Pos}{x:RV}{b:Bool}(ha:aI X Hi τ a x)(e:x.val=.bl b):aI X Hi τ (.UnaryOp .Not a pos) (sc (.bl !b)):=by
 intro O σ H Q R q;refine we (Cp af) ?_;exact ha O σ H _ R fun u H1 s1 r1=>⟨b,r1.bl R s1 e,q _ _ s1 FS⟩
theorem C6{op:BoolOp}{a:Expr}{pos:Pos}{x:RV}(ha:aI X Hi τ a x):aI X Hi τ (.BoolOp op [a] pos) x:=by
 intro O σ H Q R q;exact we (Co af) (ha O σ H _ R q)
theorem IK{a b:Expr}{aP:List Expr}{pos:Pos}{x y:RV}(ha:aI X Hi τ a x)(e:x.val=.bl true)(hb:aI X Hi τ (.BoolOp .And (b::aP) pos) y):aI X Hi τ (.BoolOp .And (a::b::aP) pos) y:=by
 intro O σ H Q R q;refine we (wS af af) ?_;exact ha O σ H _ R fun u H1 s1 r1=>⟨true,r1.bl R s1 e,qe (hb O σ H1 _ (R.ext s1) fun w H2 s2 r2=>q w H2 (s1.trans s2) (r2.back s1))⟩
theorem IL{a b:Expr}{aP:List Expr}{pos:Pos}{x:RV}(ha:aI X Hi τ a x)(e:x.val=.bl false):aI X Hi τ (.BoolOp .And (a::b::aP) pos) (sc (.bl false)):=by
 intro O σ H Q R q;refine we (wS af af) ?_;exact ha O σ H _ R fun u H1 s1 r1=>⟨false,r1.bl R s1 e,qf (q _ _ s1 FS)⟩
theorem or_f{a b:Expr}{aP:List Expr}{pos:Pos}{x y:RV}(ha:aI X Hi τ a x)(e:x.val=.bl false)(hb:aI X Hi τ (.BoolOp .Or (b::aP) pos) y):aI X Hi τ (.BoolOp .Or (a::b::aP) pos) y:=by
 intro O σ H Q R q;refine we (BM af af) ?_;exact ha O σ H _ R fun u H1 s1 r1=>⟨false,r1.bl R s1 e,qf (hb O σ H1 _ (R.ext s1) fun w H2 s2 r2=>q w H2 (s1.trans s2) (r2.back s1))⟩
theorem or_t{a b:Expr}{aP:List Expr}{pos:Pos}{x:RV}(ha:aI X Hi τ a x)(e:x.val=.bl true):aI X Hi τ (.BoolOp .Or (a::b::aP) pos) (sc (.bl true)):=by
 intro O σ H Q R q;refine we (BM af af) ?_;exact ha O σ H _ R fun u H1 s1 r1=>⟨true,r1.bl R s1 e,qe (q _ _ s1 FS)⟩
theorem DQ{c a b:Expr}{pos:Pos}{t:Bool}{r:RV}(hc:eX X Hi τ c t)(h:aI X Hi τ (if t=true then a else b) r):aI X Hi τ (.IfExp c a b pos) r:=by
 intro O σ H Q R q;refine we (wP ir af af) ?_;refine hc O σ H _ R fun H1 s1=> ?_;cases t with
 | true=>exact qe ((show aI X Hi τ a r from h) O σ H1 _ (R.ext s1) fun w H2 s2 r2=>q w H2 (s1.trans s2) (r2.back s1))
 | false=>exact qf ((show aI X Hi τ b r from h) O σ H1 _ (R.ext s1) fun w H2 s2 r2=>q w H2 (s1.trans s2) (r2.back s1))
theorem vY{v:PV}{b:Bool}{H:Hp}{u:V}(h:lV v=some b)(r:Rp X.K Hi false v H u):Eh X.K u H b:=by
 cases v with
 | non=>cases h;rw[Rp.non.mp r];rfl
 | bl c=>cases h;rw[Rp.bl.mp r];rfl
 | int i=>cases h;rw[Rp.int.mp r];rfl
 | str z =>
  have h:(if z.length<=LN then some ((z.length:Int) !=0)else none)=some b:=h
  split at h
  ·rename_i c
   cases h;rw[Rp.str.mp r];exact⟨by rw[dQ];exact c,rfl⟩
  ·cases h
 | lst xs =>
  cases h;obtain⟨p,us,rfl,_,l,r⟩:=Rp.lst.mp r;have:=r.len;exact .inl ⟨us,l,by cases xs<;>cases us<;>simp_all⟩
 | tup xs =>
  cases h;obtain⟨p,us,rfl,l,r⟩:=Rp.tup.mp r;have:=r.len;exact .inr (.inl ⟨us,l,by cases xs<;>cases us<;>simp_all⟩)
 | dK ks vs =>
  cases h;unfold Rp at r;obtain⟨p,us,rfl,_,l,z,r⟩:=r;exact .inr (.inr ⟨_,l,by cases ks<;>cases us<;>simp_all⟩)
 | dT ks vs=>cases h
theorem B1{e:Expr}{x:RV}{b:Bool}(he:aI X Hi τ e x)(h:lV x.val=some b)(hp:∀whole,isTrue e X.env whole=(do let v<-whole;standAt e.pos;holding [v] (truthy v))):eX X Hi τ e b:=by
 intro O σ H Q R q;refine wt (v7 af hp) ?_;exact he O σ H _ R fun u H1 s1 r1=>⟨b,vY h (r1.val R s1),q _ s1⟩
theorem C9{a:Expr}{pos:Pos}{b:Bool}(ha:eX X Hi τ a b):eX X Hi τ (.UnaryOp .Not a pos) !b:=by
 intro O σ H Q R q;exact wt (Ch ir) (ha O σ H _ R fun H1 s1=>q _ s1)
noncomputable def lG(X:Cx)(Hi:Hp)(τ:En)(e:Expr)(b:Bool):Prop:=∀(O:List Addr)(σ:L2.St)(H:Hp)(Q:Bool->Hp->Prop),ao X.K Hi O τ σ H->(∀H',aE H H' ->Q b H') ->
 ∀(whole:Sem Value)(pins:List (Addr×Obj))(s:Shared),Inv X pins σ H s->wpAny (model X.prog X.w) X.A (isTrue e X.env whole) (TP X pins σ Q) X.xe s
theorem Gn{e:Expr}:PW X e (fun σ H Q=>∀(whole:Sem Value)(pins:List (Addr×Obj))(s:Shared),Inv X pins σ H s->wpAny (model X.prog X.w) X.A (isTrue e X.env whole) (TP X pins σ Q) X.xe s):=fun wh pins s σ H Q I h=>h wh pins s I
theorem lG.tc{e:Expr}{b:Bool}(h:lG X Hi τ e b):eX X Hi τ e b:=fun O σ H Q R q pins s I=>h O σ H Q R q _ pins s I
theorem C5{op:BoolOp}{a:Expr}{pos:Pos}{b:Bool}(ha:eX X Hi τ a b):lG X Hi τ (.BoolOp op [a] pos) b:=by
 intro O σ H Q R q wh pins s I;cases op with
 | And=>exact y3 ir wh pins s σ H Q I (ha O σ H Q R q)
 | Or=>exact Cb ir wh pins s σ H Q I (ha O σ H Q R q)
theorem yG{a b:Expr}{aP:List Expr}{pos:Pos}{t u:Bool}(ha:eX X Hi τ a t)(hb:if t=true then lG X Hi τ (.BoolOp .And (b::aP) pos) u else u=false):lG X Hi τ (.BoolOp .And (a::b::aP) pos) u:=by
 intro O σ H Q R q wh pins s I;refine Cc ir Gn wh pins s σ H Q I ?_;refine ha O σ H _ R fun H1 s1=> ?_;cases t with
 | true=>exact qe ((show lG X Hi τ _ u from hb) O σ H1 _ (R.ext s1) fun H2 s2=>q _ (s1.trans s2))
 | false =>
  have hb:u=false:=hb;subst hb;exact qf (q _ s1)
theorem BR{a b:Expr}{aP:List Expr}{pos:Pos}{t u:Bool}(ha:eX X Hi τ a t)(hb:if t=true then u=true else lG X Hi τ (.BoolOp .Or (b::aP) pos) u):lG X Hi τ (.BoolOp .Or (a::b::aP) pos) u:=by
 intro O σ H Q R q wh pins s I;refine Go ir Gn wh pins s σ H Q I ?_;refine ha O σ H _ R fun H1 s1=> ?_;cases t with
 | false=>exact qf ((show lG X Hi τ _ u from hb) O σ H1 _ (R.ext s1) fun H2 s2=>q _ (s1.trans s2))
 | true =>
  have hb:u=true:=hb;subst hb;exact qe (q _ s1)
end
end IR
namespace L2
open PySem PySem.Spec PyProof.Rows
section
variable{X:Cx}
inductive IU(K:W.Frag)(H:Hp):V->Value->Prop where
 | of {x:V} {t:Value} (h:iY K H x t):IU K H x t
 | lst {a:Addr} {xs:List V} (e:bN K H a xs):IU K H (.ref a) (.type "list")
 | tup {a:Addr} {xs:List V} (e:bw K H a xs):IU K H (.ref a) (.type "tuple")
theorem rC:bR X (.builtin "isinstance") (fun xs H Q=>∃x c t b,xs=[x,.ty c]/\IU X.K H x t/\W.kitOne X.K t (.type c)=some b/\Q (.bl b) H):=by
 intro pins s σ H xs us Q I r h;obtain⟨x,c,t,b,rfl,ty,e,q⟩:=h;obtain⟨u,w',rfl,rx,ry⟩:=vals2 r;cases ry;cases ty with
 | of ty=>exact uZ I rx ty e fun tk=>⟨.bl b,H,I.tok _,rfl,q⟩
 | lst l =>
  cases rx;obtain⟨its,r',pl,hz⟩:=I.list l;obtain⟨o,n,h1,h2,_⟩:=pl;exact Kn W.kitx_list I.kIn ⟨o,h1,h2⟩ e (fun z=>nomatch z) fun tk=>⟨.bl b,H,I.tok _,rfl,q⟩
 | tup l =>
  cases rx;obtain⟨its,r',pl,hz⟩:=I.tuple l;obtain⟨o,h1,h2,_⟩:=pl;exact Kn W.kitx_tuple I.kIn ⟨o,h1,h2⟩ e (fun z=>nomatch z) fun tk=>⟨.bl b,H,I.tok _,rfl,q⟩
end
section
variable{K:W.Frag}
theorem kits:(W.kitOne K (.type "NoneType") (.type "int")=some false/\W.kitOne K (.type "NoneType") (.type "str")=some false/\W.kitOne K (.type "NoneType") (.type "list")=some false/\W.kitOne K (.type "NoneType") (.type "tuple")=some false/\W.kitOne K (.type "NoneType") (.type "bool")=some false) /\
  (W.kitOne K (.type "bool") (.type "int")=some true/\W.kitOne K (.type "bool") (.type "str")=some false/\W.kitOne K (.type "bool") (.type "list")=some false/\W.kitOne K (.type "bool") (.type "tuple")=some false) /\
  (W.kitOne K (.type "int") (.type "bool")=some false/\W.kitOne K (.type "int") (.type "str")=some false/\W.kitOne K (.type "int") (.type "list")=some false/\W.kitOne K (.type "int") (.type "tuple")=some false) /\
  (W.kitOne K (.type "str") (.type "bool")=some false/\W.kitOne K (.type "str") (.type "int")=some false/\W.kitOne K (.type "str") (.type "list")=some false/\W.kitOne K (.type "str") (.type "tuple")=some false) /\
  (W.kitOne K (.type "list") (.type "bool")=some false/\W.kitOne K (.type "list") (.type "int")=some false/\W.kitOne K (.type "list") (.type "str")=some false/\W.kitOne K (.type "list") (.type "tuple")=some false) /\
  (W.kitOne K (.type "tuple") (.type "bool")=some false/\W.kitOne K (.type "tuple") (.type "int")=some false/\W.kitOne K (.type "tuple") (.type "str")=some false/\W.kitOne K (.type "tuple") (.type "list")=some false) /\
  (W.kitOne K (.type "dict") (.type "bool")=some false/\W.kitOne K (.type "dict") (.type "int")=some false/\W.kitOne K (.type "dict") (.type "str")=some false/\W.kitOne K (.type "dict") (.type "list")=some false/\W.kitOne K (.type "dict") (.type "tuple")=some false):=by
 refine⟨⟨?_,?_,?_,?_,?_⟩,⟨?_,?_,?_,?_⟩,⟨?_,?_,?_,?_⟩,⟨?_,?_,?_,?_⟩,⟨?_,?_,?_,?_⟩,⟨?_,?_,?_,?_⟩,⟨?_,?_,?_,?_,?_⟩⟩<;>kernel_rfl
end
end L2
namespace IR
open PySem PySem.Spec PyProof.Rows L2
section
variable{X:Cx}{Hi:Hp}{τ:En}
theorem aO{e:Expr}{es:List Expr}{env:Env}(h:isStar e=false):starEach (e::es) env=(false,eval e env)::starEach es env:=by
 cases e<;>first|rfl|cases h
theorem ef{env:Env}{pos:Pos}:∀{es:List Expr},(∀e∈es,isStar e=false)->(backTo pos (starEach es env)).any (·.1)=false
 | [],_=>rfl
 | e::es,h=>by
  rw[aO (h e Ip)];show(false||(backTo pos (starEach es env)).any (·.1))=false;rw[ef fun x hx=>h x (Im _ hx)];rfl
theorem Ee:na X Hi τ [] []:=by
 intro O σ H Q R q;exact wa bC (q _ _ (aE.refl _) rfl)
theorem Au{e:Expr}{es:List Expr}{r:RV}{rs:List RV}(he:aI X Hi τ e r)(hs:isStar e=false)(hr:na X Hi τ es rs):na X Hi τ (e::es) (r::rs):=by
 intro O σ H Q R q;refine wa (aZ af oX (aO hs)) ?_;refine he O σ H _ R fun u H1 s1 r1=>hr O σ H1 _ (R.ext s1) fun us H2 s2 r2=> ?_;exact q _ _ (s1.trans s2) ⟨u,us,rfl,r1.ext s2,r2.back s1⟩
theorem DF{es:List Expr}{pos:Pos}{rs:List RV}{vs:List PV}{n:Bool}{r:RV}(h:na X Hi τ es rs)(hk:keeps rs=some (vs,n))(hn:kq vs n=some r):aI X Hi τ (.List es pos) r:=by
 obtain⟨hz,rfl⟩:=sS hn;intro O σ H Q R q;refine we (wO oX) ?_;refine h O σ H _ R fun us H1 s1 r1=> ?_;have k:=r1.keeps R s1 hk;have hl:=k.len;exact⟨by rw[dQ,<-hl];exact hz,fun p hp=>q _ _ (s1.trans (aU hp _)) (di s1 hp k)⟩
theorem B4{es:List Expr}{m:Nat}{pos:Pos}{rs:List RV}{vs:List PV}{n:Bool}{r:RV}(h:na X Hi τ es rs)(hk:keeps rs=some (vs,n))(hn:nA vs n=some r):aI X Hi τ (.Tuple es m pos) r:=by
 obtain⟨hz,rfl⟩:=sR hn;intro O σ H Q R q;refine we (Cn oX) ?_;refine h O σ H _ R fun us H1 s1 r1=> ?_;have k:=r1.keeps R s1 hk;have hl:=k.len;exact⟨by rw[dQ,<-hl];exact hz,fun p hp=>q _ _ (s1.trans (aU hp _)) (Rp.tup.mpr ⟨p,us,rfl,bw.of (nJ R s1 hp),k.mono (aL (aU hp _))⟩)⟩
theorem AR{pos:Pos}:aI X Hi τ (.Dict [] [] pos) (.owd (.dK []) [] true):=by
 intro O σ H Q R q;refine we oU ?_;intro p hp;exact q _ _ (aU hp _) ⟨p,[],_,rfl,hp,aK,⟨rfl,rfl⟩,.nil⟩
theorem tL{k:am}{ke v:Expr}{r:RV}{w:PV}{n:Bool}{pos:Pos}{tk:TE}(hk:PE X ke tk)(hk2:∀σ H Q,Q (kV k) H->tk σ H Q)(h:aI X Hi τ v r)(hw:r.keep=some (w,n))(hi:imm w=true):aI X Hi τ (.Dict [some ke] [v] pos) (.owd (.dK [k]) [w] true):=by
 intro O σ H Q R q;refine we (zL (wE hk af zD) rfl rfl (by intro z;cases z) (by show 1<=15;decide)) ?_;intro p hp;have s0:=aU hp (.dK []);refine hk2 σ _ _ ?_;refine h O σ _ _ (R.ext s0) fun u H2 s2 r2=> ?_;have kp:=r2.keep (R.ext s0) s2 hw;refine⟨s2 _ _ aK,[(k,u)],rfl,by show 1<=15;decide,?_⟩;have e:fQ [] [(k,u)]=[(k,u)]:=by simp[fQ,dg]
 rw[e];have ss:aE H (L2.upd H2 p (.dK [(k,u)])):=fun b o z=>by rw[aD (aM z hp)];exact s2 _ _ (s0 _ _ z)
 refine q _ _ ss ⟨p,[u],_,rfl,hp,aK,⟨rfl,rfl⟩,.cons (Rp.imm hi ⟨fun b xs z=> ?_,fun b o xs z=> ?_⟩ kp) .nil⟩
 ·have hne:b≠p:=fun c=>by
   subst c;have:=aY _ _ z;rw[s2 _ _ aK]at this;cases this
  unfold aX at z ⊢
  split at z
  ·cases z
  ·rename_i nb
   rw[Iq nb];unfold del;rw[Iq hne,aD hne];exact z
 ·have hne:b≠p:=fun c=>by
   subst c;have:=aY _ _ z;rw[s2 _ _ aK]at this;cases this
  unfold aX at z ⊢
  split at z
  ·cases z
  ·rename_i nb
   rw[Iq nb];unfold del;rw[Iq hne,aD hne];exact z
noncomputable def gv(O:List Addr)(G:Hp):Prop:=∀l∈O,(∀xs,G l≠some (.tup xs))/\∀o xs,G l≠some (.frz o (.tup xs))
theorem Mo.noTup{o:HO}{G:Hp}{l:Addr}(m:Mo o)(e:G l=some o):(∀xs,G l≠some (.tup xs))/\∀o xs,G l≠some (.frz o (.tup xs)):=by
 obtain⟨b,us,m⟩:=m;refine⟨fun xs z=> ?_,fun o xs z=> ?_⟩<;>(rw[e]at z;cases z;cases b<;>first|cases m.1|cases m)
theorem gv.del{O:List Addr}{G:Hp}{p:Addr}(h:gv O G):gv O (IR.del G p):=fun l hl=>by
 refine⟨fun xs e=> ?_,fun o xs e=> ?_⟩
 ·unfold IR.del at e
  split at e
  ·cases e
  ·exact(h l hl).1 xs e
 ·unfold IR.del at e
  split at e
  ·cases e
  ·exact(h l hl).2 o xs e
theorem gv.tups{O:List Addr}{G:Hp}(h:gv O G):rN G (aX G O):=by
 refine⟨fun b xs e=> ?_,fun b o xs e=> ?_⟩
 ·unfold aX
  rw[Iq fun z=>(h b z).1 xs e];exact e
 ·unfold aX
  rw[Iq fun z=>(h b z).2 o xs e];exact e
mutual
theorem Rp.avoid{K:W.Frag}{Hj:Hp}{O:List Addr}(hO:∀l∈O,Hj l≠none):∀{v:PV}{G:Hp}{u:V},gv O G->Rp K Hj true v G u->Rp K Hj true v (aX G O) u
 | .non,_,_,_,h=>by unfold Rp at h ⊢;exact h
 | .bl _,_,_,_,h=>by unfold Rp at h ⊢;exact h
 | .int _,_,_,_,h=>by unfold Rp at h ⊢;exact h
 | .str _,_,_,_,h=>by unfold Rp at h ⊢;exact h
 | .lst xs,G,_,t,h=>by
  unfold Rp at h ⊢;obtain⟨p,us,e,q,l,r⟩:=h;obtain⟨q1,q2⟩:=q rfl;have q3:aX G O p=some (.lst us):=by
   unfold aX;rw[Iq fun z=>hO p z q1];exact q2
  exact⟨p,us,e,fun _=>⟨q1,q3⟩,bN.of q3,by rw[<- gg];exact aJ.avoid hO t.del r⟩
 | .tup xs,_,_,t,h=>by
  unfold Rp at h ⊢;obtain⟨p,us,e,l,r⟩:=h;exact⟨p,us,e,t.tups.at l,aJ.avoid hO t r⟩
 | .dK ks vs,G,_,t,h=>by
  unfold Rp at h ⊢;obtain⟨p,us,e,q,l,z,r⟩:=h;refine⟨p,us,e,q,?_,z,by rw[<- gg];exact aJ.avoid hO t.del r⟩;unfold aX;rw[Iq fun z=>hO p z (q rfl)];exact l
 | .dT ks vs,G,_,t,h=>by
  unfold Rp at h ⊢;obtain⟨p,us,e,q,l,z,r⟩:=h;refine⟨p,us,e,q,?_,z,by rw[<- gg];exact aJ.avoid hO t.del r⟩;unfold aX;rw[Iq fun z=>hO p z (q rfl)];exact l
theorem aJ.avoid{K:W.Frag}{Hj:Hp}{O:List Addr}(hO:∀l∈O,Hj l≠none):∀{xs:List PV}{G:Hp}{us:List V},gv O G->aJ K Hj true xs G us->aJ K Hj true xs (aX G O) us
 | [],_,_,_,h=>by unfold aJ at h ⊢;exact h
 | x::xs,_,_,t,h=>by
  unfold aJ at h ⊢;obtain⟨u,r,e,a,b⟩:=h;exact⟨u,r,e,Rp.avoid hO t a,aJ.avoid hO t b⟩
end
theorem yi{O:List Addr}{σ:L2.St}{H H1 H' :Hp}{v:PV}{u:V}(R:ao X.K Hi O τ σ H)(s1:aE H H1)(s:aE H1 H')(h:Rp X.K H1 true v H' u):ae X.K Hi O H H' (hZ v) u:=by
 have e1:∀p,H1 p=none->Hi p=none:=fun p hp=>R.same.free (s1.free hp);have hO:∀l∈O,H1 l≠none:=fun l hl z=>by
  obtain⟨us,e,_⟩:=(R.own l hl).2;rw[s1 _ _ e]at z;cases z
 have hT:gv O H' :=fun l hl=>by
  obtain⟨us,e,mo⟩:=(R.own l hl).2;have e' :=s _ _ (s1 _ _ e);exact mo.noTup e'
 have gen:Rp X.K Hi true v (aX H' O) u:=(Rp.avoid hO hT h).entry fun _=>e1;cases v with
 | lst xs =>
  obtain⟨p,us,e,q,l,r⟩:=Rp.lst.mp h;obtain⟨q1,q2⟩:=q rfl;exact⟨p,us,e,s1.free q1,q2,(aJ.avoid hO hT.del r).entry fun _=>e1⟩
 | _=>exact gen
theorem call_ok{cd:Nat->List PV->Option PV}{ct:Ct}(C:bX cd X ct){x:Str}{f:Nat}{e:Expr}{es:List Expr}{p pos:Pos}{rs:List RV}{v:PV}(hx:qW x=false)(hg:ct.S.lookup x=some .globalImplicit)(hf:ct.F.lookup x=some f)
  (hs:∀a∈e::es,isStar a=false) (ha:na X Hi τ (e::es) rs) (hv:cd f (rs.map RV.val)=some v):aI X Hi τ (.Call (.Name x p) (e::es) [] pos) (hZ v):=by
 intro O σ H Q R q;obtain⟨k,a,fd,ps,F,hr,hm,kp,bd⟩:=C.fns x f hf;have g:Gl X x:=by
  show X.env.scope.names.lookup x=_;rw[C.S];exact hg
 refine we (m7 F hr g hm kp bd .nil BQ oX (bz hx).1 (aO (hs e Ip)) (ef fun b hb=>hs b (Im _ hb))) ?_;refine ha O σ H _ R fun us H1 s1 r1=> ?_;have vs:=r1.vals R s1;rw[Jp];exact⟨_,v,vs.entry (fun z=>by cases z),hv,fun u H' s' ru=>q _ _ (s1.trans s') (yi R s1 s' ru)⟩
theorem fI{cd:Nat->List PV->Option PV}{ct:Ct}(C:bX cd X ct){x:Str}(h:own ct x=true):Gl X x/\X.mg x=none:=by
 unfold own at h;rw[Iu]at h;refine⟨?_,C.bl x h.1⟩;show X.env.scope.names.lookup x=_;rw[C.S]
 simpa using h.2
theorem gu{cd:Nat->List PV->Option PV}{ct:Ct}(C:bX cd X ct){x:Str}{id:String}{a:Expr}{p pos:Pos}{ra r:RV}{rr:List V->Hp->VK->Prop}(hc:bR X (.builtin id) rr)(ho:own ct x=true)(hb:bootBuiltins x=some (.builtin id))(hx:qW x=false)(hs:isStar a=false)(ha:aI X Hi τ a ra)
  (k:∀(O:List Addr)(σ:L2.St)(H H2:Hp)(u:V)(Q:VK),ao X.K Hi O τ σ H->aE H H2->ae X.K Hi O H H2 ra u->(∀w H3,aE H2 H3->ae X.K Hi O H H3 r w->Q w H3)->rr [u] H2 Q):aI X Hi τ (.Call (.Name x p) [a] [] pos) r:=by
 intro O σ H Q R q;obtain⟨g,hm⟩:=fI C ho;refine we (gb hc g hm hb (aZ af bC (aO hs)) (bz hx).2.2 (bz hx).1 (aO hs) rfl) ?_;exact ha O σ H _ R fun u H1 s1 r1=>k O σ H H1 u Q R s1 r1 fun w H3 s3 r3=>q w H3 (s1.trans s3) r3
theorem r6{cd:Nat->List PV->Option PV}{ct:Ct}(C:bX cd X ct){x:Str}{id:String}{a:Expr}{p pos:Pos}{ra r:RV}{rr:List V->Hp->VK->Prop}(hc:bR X (.type id) rr)(ho:own ct x=true)(hb:bootBuiltins x=some (.type id))(hx:qW x=false)(hs:isStar a=false)(ha:aI X Hi τ a ra)
  (k:∀(O:List Addr)(σ:L2.St)(H H2:Hp)(u:V)(Q:VK),ao X.K Hi O τ σ H->aE H H2->ae X.K Hi O H H2 ra u->(∀w H3,aE H2 H3->ae X.K Hi O H H3 r w->Q w H3)->rr [u] H2 Q):aI X Hi τ (.Call (.Name x p) [a] [] pos) r:=by
 intro O σ H Q R q;obtain⟨g,hm⟩:=fI C ho;refine we (lj hc g hm hb (aZ af bC (aO hs)) (bz hx).2.2 (bz hx).1 (aO hs) rfl) ?_;exact ha O σ H _ R fun u H1 s1 r1=>k O σ H H1 u Q R s1 r1 fun w H3 s3 r3=>q w H3 (s1.trans s3) r3
theorem b2_go{cd:Nat->List PV->Option PV}{ct:Ct}(C:bX cd X ct){x:Str}{id:String}{a b:Expr}{p pos:Pos}{ra rb r:RV}{rr:List V->Hp->VK->Prop}(hc:bR X (.builtin id) rr)(ho:own ct x=true)(hb:bootBuiltins x=some (.builtin id))(hx:qW x=false)(hs:isStar a=false)(hs2:isStar b=false)(ha:aI X Hi τ a ra)(hb' :aI X Hi τ b rb)
  (k:∀(O:List Addr)(σ:L2.St)(H H2:Hp)(u v:V)(Q:VK),ao X.K Hi O τ σ H->aE H H2->ae X.K Hi O H H2 ra u->ae X.K Hi O H H2 rb v->(∀w H3,aE H2 H3->ae X.K Hi O H H3 r w->Q w H3)->rr [u,v] H2 Q):aI X Hi τ (.Call (.Name x p) [a,b] [] pos) r:=by
 intro O σ H Q R q;obtain⟨g,hm⟩:=fI C ho;refine we (gb hc g hm hb (aZ af (aZ af bC (aO hs2)) (aO hs)) (bz hx).2.2 (bz hx).1 (aO hs) (ef fun c hc=>by simp at hc;subst hc;exact hs2)) ?_;exact ha O σ H _ R fun u H1 s1 r1=>hb' O σ H1 _ (R.ext s1) fun v H2 s2 r2=>k O σ H H2 u v Q R (s1.trans s2) (r1.ext s2) (r2.back s1) fun w H3 s3 r3=>q w H3 (s1.trans (s2.trans s3)) r3
theorem pc:∀{xs:List PV}{bs:List Bool}{H:Hp}{us:List V},mP xs=some bs->aJ X.K Hi false xs H us->us=bs.map V.bl
 | [],bs,_,_,h,r=>by cases h;unfold aJ at r;exact r
 | x::xs,bs,_,_,h,r=>by
  unfold aJ at r;obtain⟨u,ws,rfl,a,b⟩:=r;cases x with
  | bl c =>
   have h:(mP xs).map (c::·)=some bs:=h;cases e:mP xs with
   | none=>rw[e]at h;cases h
   | some ds =>
    rw[e]at h;cases h;rw[Rp.bl.mp a,pc e b];rfl
  | _=>cases h
theorem fA:∀{xs:List PV}{bs:List Int}{H:Hp}{us:List V},ag xs=some bs->aJ X.K Hi false xs H us->us=bs.map V.int
 | [],bs,_,_,h,r=>by cases h;unfold aJ at r;exact r
 | x::xs,bs,_,_,h,r=>by
  unfold aJ at r;obtain⟨u,ws,rfl,a,b⟩:=r;cases x with
  | int c =>
   have h:(ag xs).map (c::·)=some bs:=h;cases e:ag xs with
   | none=>rw[e]at h;cases h
   | some ds =>
    rw[e]at h;cases h;rw[Rp.int.mp a,fA e b];rfl
  | _=>cases h
theorem jY:∀{xs:List PV}{bs:List Str}{H:Hp}{us:List V},dF xs=some bs->aJ X.K Hi false xs H us->us=bs.map V.str
 | [],bs,_,_,h,r=>by cases h;unfold aJ at r;exact r
 | x::xs,bs,_,_,h,r=>by
  unfold aJ at r;obtain⟨u,ws,rfl,a,b⟩:=r;cases x with
  | str c =>
   have h:(dF xs).map (c::·)=some bs:=h;cases e:dF xs with
   | none=>rw[e]at h;cases h
   | some ds =>
    rw[e]at h;cases h;rw[Rp.str.mp a,jY e b];rfl
  | _=>cases h
theorem DR{t:String}{v:PV}{b:Bool}{H:Hp}{u:V}(h:ez t v=some b)(r:Rp X.K Hi false v H u):∃c,IU X.K H u c/\W.kitOne X.K c (.type t)=some b:=by
 obtain⟨⟨n1,n2,n3,n4,n5⟩,⟨b1,b2,b3,b4⟩,⟨i1,i2,i3,i4⟩,⟨s1,s2,s3,s4⟩,⟨l1,l2,l3,l4⟩,⟨t1,t2,t3,t4⟩,⟨d1,d2,d3,d4,d5⟩⟩:= @kits X.K;cases v with
 | non =>
  rw[Rp.non.mp r];refine⟨_,.of .non,?_⟩;simp only[ez]at h
  split at h
  ·rename_i c
   cases h
   rcases c with rfl|rfl|rfl|rfl|rfl<;>assumption
  ·cases h
 | bl x =>
  rw[Rp.bl.mp r];refine⟨_,.of (.bl x),?_⟩;simp only[ez]at h
  split at h
  ·rename_i c
   cases h
   rcases c with rfl|rfl
   ·assumption
   ·exact eN _
  ·split at h
   ·rename_i c
    cases h
    rcases c with rfl|rfl|rfl<;>assumption
   ·cases h
 | int x =>
  rw[Rp.int.mp r];refine⟨_,.of (.int x),?_⟩;simp only[ez]at h
  split at h
  ·rename_i c
   cases h;subst c;exact eN _
  ·split at h
   ·rename_i c
    cases h
    rcases c with rfl|rfl|rfl|rfl<;>assumption
   ·cases h
 | str x =>
  rw[Rp.str.mp r];refine⟨_,.of (.str x),?_⟩;simp only[ez]at h
  split at h
  ·rename_i c
   cases h;subst c;exact eN _
  ·split at h
   ·rename_i c
    cases h
    rcases c with rfl|rfl|rfl|rfl<;>assumption
   ·cases h
 | lst x =>
  obtain⟨p,us,rfl,_,l,_⟩:=Rp.lst.mp r;refine⟨_,.lst l,?_⟩;simp only[ez]at h
  split at h
  ·rename_i c
   cases h;subst c;exact eN _
  ·split at h
   ·rename_i c
    cases h
    rcases c with rfl|rfl|rfl|rfl<;>assumption
   ·cases h
 | tup x =>
  obtain⟨p,us,rfl,l,_⟩:=Rp.tup.mp r;refine⟨_,.tup l,?_⟩;simp only[ez]at h
  split at h
  ·rename_i c
   cases h;subst c;exact eN _
  ·split at h
   ·rename_i c
    cases h
    rcases c with rfl|rfl|rfl|rfl<;>assumption
   ·cases h
 | dK ks vs =>
  unfold Rp at r;obtain⟨p,us,rfl,_,l,_⟩:=r;refine⟨_,.of (.dK l),?_⟩;simp only[ez]at h
  split at h
  ·rename_i c
   cases h
   rcases c with rfl|rfl|rfl|rfl|rfl<;>assumption
  ·cases h
 | dT ks vs=>cases h
theorem Ag{t:Str}{ty:String}(h:vU t=some ty):bootBuiltins t=some (.type ty)/\qW t=false:=by
 unfold vU at h
 split at h
 ·rename_i c;cases h;rw[JN c];exact⟨PyProof.Rows.boot_int,by decide⟩
 split at h
 ·rename_i c;cases h;rw[JN c];exact⟨PyProof.Rows.boot_bool,by decide⟩
 split at h
 ·rename_i c;cases h;rw[JN c];exact⟨PyProof.Rows.boot_str,by decide⟩
 split at h
 ·rename_i c;cases h;rw[JN c];exact⟨PyProof.Rows.boot_list,by decide⟩
 split at h
 ·rename_i c;cases h;rw[JN c];exact⟨PyProof.Rows.boot_tuple,by decide⟩
 cases h
theorem isin_ok{cd:Nat->List PV->Option PV}{ct:Ct}(C:bX cd X ct){t:Str}{ty:String}{a:Expr}{p pt pos:Pos}{ra:RV}{b:Bool}(ho:own ct ("isinstance":Str)=true)(ht:vU t=some ty)(hot:own ct t=true)(hs:isStar a=false)(ha:aI X Hi τ a ra)(h:ez ty ra.val=some b) :
  aI X Hi τ (.Call (.Name "isinstance" p) [a,.Name t pt] [] pos) (sc (.bl b)):=by
 intro O σ H Q R q;obtain⟨g,hm⟩:=fI C ho;obtain⟨g2,hm2⟩:=fI C hot;obtain⟨hb,hod⟩:=Ag ht;refine we (gb rC g hm boot_isinstance (aZ af (aZ (Gs g2 hm2 hb (bz hod).2.2 (bz hod).1) bC) (aO hs)) (by decide) (by decide) (aO hs) rfl) ?_;refine ha O σ H _ R fun u H1 s1 r1=> ?_;obtain⟨c,ty',k⟩:=DR h (r1.val R s1);exact⟨u,ty,c,b,rfl,ty',k,q _ _ s1 FS⟩
end
end IR
namespace L2
open PySem PySem.Spec PyProof.Rows
end L2
namespace IR
open PySem L2
section
variable{X:Cx}{Hi:Hp}{τ:En}
theorem zC{x:PV}{q:Int×Int}(h:wD x=some q):x=eE q:=by
 cases x with
 | tup xs =>
  have h:((ag xs).bind fun ns=>match ns with
   | [a,b]=>some (a,b)
   | _=>none)=some q:=h
  cases e:ag xs with
  | none=>rw[e]at h;cases h
  | some ns =>
   rw[e]at h
   match ns,h with
   | [a,b],h =>
    cases h;have:xs=[PV.int a,PV.int b]:=by
     have key:∀(xs:List PV)(ns:List Int),ag xs=some ns->xs=ns.map PV.int:=by
      intro xs
      induction xs with
      | nil=>intro ns z;cases z;rfl
      | cons y r ih =>
       intro ns z;cases y with
       | int i =>
        have z:(ag r).map (i::·)=some ns:=z;cases e2:ag r with
        | none=>rw[e2]at z;cases z
        | some m=>rw[e2]at z;cases z;rw[ih m e2];rfl
       | _=>cases z
     exact key xs _ e
    subst this;rfl
 | _=>cases h
theorem oQ:∀{xs:List PV}{ps:List (Int×Int)},gY xs=some ps->xs=ps.map eE
 | [],_,h=>by cases h;rfl
 | x::r,ps,h=>by
  have h:((wD x).bind fun q=>(gY r).map (q::·))=some ps:=h;cases e:wD x with
  | none=>rw[e]at h;cases h
  | some q =>
   rw[e]at h;have h:(gY r).map (q::·)=some ps:=h;cases e2:gY r with
   | none=>rw[e2]at h;cases h
   | some m =>
    rw[e2]at h;cases h;rw[zC e,oQ e2];rfl
theorem aJ.prs{n:Bool}{H:Hp}:∀{ps:List (Int×Int)}{us:List V},aJ X.K Hi n (ps.map eE) H us->Ek X.K H us ps
 | [],us,h=>by
  have h:us=[]:=by unfold aJ at h;exact h
  subst h;exact .nil
 | q::ps,us,h=>by
  rw[JH]at h;unfold aJ at h;obtain⟨u,r,rfl,h1,h2⟩:=h;obtain⟨p,ws,rfl,l,rr⟩:=Rp.tup.mp h1;have e:ws=[V.int q.1,V.int q.2]:=by
   have:=(aJ.ints (K:=X.K) (Hi:=Hi) (n:=n) (H:=H) (xs:=[q.1,q.2]) (us:=ws)).mp rr;exact this
  subst e;exact .cons l (aJ.prs h2)
theorem aJ.pick{n:Bool}{H:Hp}{xs:List PV}{us:List V}(r:aJ X.K Hi n xs H us):∀{js:List Nat},(∀j∈js,j<us.length)->aJ X.K Hi n (js.map fun i=>xs.getD i .non) H (js.map fun i=>us.getD i .non)
 | [],_=>.nil
 | j::js,h=>by
  have hj:=h j Ip;obtain⟨x,hx,rx⟩:=r.at' (i:=j) (u:=us[j]) (Iv hj);refine .cons ?_ (aJ.pick r fun i hi=>h i (Im _ hi));dsimp only;rw[JG,hx,JG,Iv hj];exact rx
theorem fO(ps:List (Int×Int)):(b5 ps).Perm ps:=List.mergeSort_perm _ _
theorem oB(ps:List (Int×Int)):(b5 ps).Pairwise fun a b=>SW.cJ a<=SW.cJ b:=by
 have:=List.pairwise_mergeSort (le:=fun a b:Int×Int=>decide (SW.cJ a<=SW.cJ b)) (fun a b c h1 h2=>by simp only[JX]at *;omega) (fun a b=>by simp only[KD,JX];omega) ps;exact this.imp fun h=>by simpa using h
theorem xB{a b:Int×Int}(ha:0<=a.2/\a.2<1000)(hb:0<=b.2/\b.2<1000)(h:SW.cJ a=SW.cJ b):a=b:=by
 unfold SW.cJ at h;exact Prod.ext (by omega) (by omega)
theorem mj{ps qs:List (Int×Int)}(hb:∀q∈ps,0<=q.2/\q.2<1000)(p:qs.Perm ps)(s:qs.Pairwise fun a b=>SW.cJ a<=SW.cJ b):qs=b5 ps :=
 List.Perm.eq_of_pairwise (le:=fun a b=>SW.cJ a<=SW.cJ b) (fun a b ha hb' h1 h2=>xB (hb _ (p.mem_iff.mp ha)) (hb _ ((fO ps).mem_iff.mp hb')) (by omega)) s (oB ps) (p.trans (fO ps).symm)
theorem qO{α:Type}(d:α)(xs:List α):(List.range xs.length).map (fun i=>xs.getD i d)=xs:=by
 apply List.ext_getElem (by simp)
 intro i h1 h2;simp[h2]
theorem o9:∀ps:List (Int×Int),imms (ps.map eE)=true
 | []=>rfl
 | q::ps=>by
  show(imm (eE q)&&imms (ps.map eE))=true;rw[o9 ps];rfl
theorem ve{cd:Nat->List PV->Option PV}{ct:Ct}(C:bX cd X ct){a:Expr}{p pos:Pos}{ra r:RV}{xs:List PV}(ho:own ct ("sorted":Str)=true)(hs:isStar a=false)(ha:aI X Hi τ a ra)(e:ra.val=.lst xs)(h:oA xs=some r) :
  aI X Hi τ (.Call (.Name "sorted" p) [a] [] pos) r:=by
 unfold oA at h;cases eb:gY xs with
 | none=>rw[eb]at h;cases h
 | some ps =>
  rw[eb]at h;have h:(if ps.length<64/\ps.all (fun q=>decide (0<=q.2)&&decide (q.2<1000))=true then some (RV.own ((b5 ps).map eE) true)else none)=some r:=h
  split at h
  ·rename_i c
   cases h;refine gu C gq ho PyProof.Rows.boot_sorted (by decide) hs ha fun O σ H H2 u Q R s r q=> ?_;obtain⟨p,us,rfl,l,r⟩:=r.lst R s e;have ex:=oQ eb;subst ex;have pr:=r.prs;have hl:=pr.len;have hb:∀q∈ps,0<=q.2/\q.2<1000:=fun q hq=>by
    have:=JJ.mp c.2 q hq
    simpa using this
   refine⟨p,us,ps,rfl,l,pr,by omega,hb,fun d js hd pm pw=>q _ _ (aU hd _) (di s hd ?_)⟩;have hj:∀j∈js,j<us.length:=fun j hj=>KR.mp (pm.mem_iff.mp hj);have e1:js.map (fun i=>ps.getD i (0,0))=b5 ps:=by
    refine mj hb ?_ ?_
    ·have:=pm.map fun i=>ps.getD i (0,0)
     rw[hl,qO]at this;exact this
    ·rw[Kr]at pw ⊢
     exact pw
   have e2:js.map (fun i=>(ps.map eE).getD i .non)=(b5 ps).map eE:=by
    rw[<- e1,Jf];refine Jj fun i hi=> ?_;have:=hj i hi;have lt:i<ps.length:=by omega
    simp[lt]
   have rp:=r.pick hj;rw[e2]at rp;exact rp.imm (o9 _) (R.ext s).tups
  ·cases h
end
end IR
namespace IR
open PySem PySem.Spec PyProof.Rows L2
section
variable{X:Cx}{Hi:Hp}{τ:En}
theorem wx{cd:Nat->List PV->Option PV}{ct:Ct}(C:bX cd X ct){a:Expr}{p pos:Pos}{ra:RV}{n:Nat}(ho:own ct ("len":Str)=true)(hs:isStar a=false)(ha:aI X Hi τ a ra)(h:d0 ra.val=some n) :
  aI X Hi τ (.Call (.Name "len" p) [a] [] pos) (sc (.int n)):=by
 cases e:ra.val with
 | str z =>
  rw[e]at h;have h:(if z.length<=LN then some z.length else none)=some n:=h
  split at h
  ·rename_i c
   cases h;exact gu C nU ho PySem.boot_len (by decide) hs ha fun O σ H H2 u Q R s r q=>⟨z,by rw[r.str R s e],by rw[dQ];exact c,q _ _ (aE.refl _) qJ⟩
  ·cases h
 | lst xs =>
  rw[e]at h;cases h;refine gu C gr ho PySem.boot_len (by decide) hs ha fun O σ H H2 u Q R s r q=> ?_;obtain⟨p,us,rfl,l,r⟩:=r.lst R s e;exact⟨p,us,rfl,.inl l,by rw[<- r.len];exact q _ _ (aE.refl _) qJ⟩
 | tup xs =>
  rw[e]at h;cases h;refine gu C gr ho PySem.boot_len (by decide) hs ha fun O σ H H2 u Q R s r q=> ?_;obtain⟨p,us,rfl,l,r⟩:=r.tup R s e;exact⟨p,us,rfl,.inr l,by rw[<- r.len];exact q _ _ (aE.refl _) qJ⟩
 | dK ks vs =>
  rw[e]at h;cases h;refine gu C rB ho PySem.boot_len (by decide) hs ha fun O σ H H2 u Q R s r q=> ?_;have z:=r.val R s;rw[e]at z;unfold Rp at z;obtain⟨p,us,rfl,_,hp,hl,_⟩:=z;refine⟨p,_,rfl,.inl hp,?_⟩;have:(ks.zip us).length=ks.length:=by rw[List.length_zip,<-hl,Kz]
  rw[this];exact q _ _ (aE.refl _) qJ
 | _=>rw[e]at h;cases h
theorem sumv_ok{cd:Nat->List PV->Option PV}{ct:Ct}(C:bX cd X ct){o:Expr}{p ap cp pos:Pos}{ro r:RV}(ho:own ct ("sum":Str)=true)(hp:dh o=true)(hl:(ap.endLine==cp.line)=true)(h0:aI X Hi τ o ro)(h:mW .sumv [ro]=some r) :
  aI X Hi τ (.Call (.Name "sum" p) [.Call (.Attribute o "values" ap) [] [] cp] [] pos) r:=by
 have hbase:attributeBase o "values" X.env (eval o X.env)=eval o X.env:=by
  cases o<;>first|rfl|cases hp
 have h:(match ro.val with
   | .dK _ vs=>(ag vs).map fun ns=>sc (.int ns.sum)
   | _=>none)=some r:=h
 cases e:ro.val with
 | dK ks vs =>
  simp only[e]at h;cases eb:ag vs with
  | none=>rw[eb]at h;cases h
  | some ns =>
   rw[eb]at h;cases h;intro O σ H Q R q;obtain⟨g,hm⟩:=fI C ho;have hs:isStar (.Call (.Attribute o "values" ap) [] [] cp)=false:=rfl;refine we (gb (lE C.calm) g hm boot_sum (aZ (Cq PySem.F.plainAttrs_dict PySem.F.slot_dict_values PySem.F.type_dict_values uP af hbase hl) bC (aO hs)) (by decide) (by decide) (aO hs) rfl) ?_;refine h0 O σ H _ R fun u H1 s1 r1=> ?_;have z:=r1.val R s1;rw[e]at z;unfold Rp at z;obtain⟨a,us,rfl,_,ha,hlen,rr⟩:=z;refine⟨.inr (.inr (.inl ⟨rfl,.inl ⟨_,ha⟩⟩)),a,_,rfl,rfl,ha,fun v hv=> ?_⟩;have eu:=fA eb rr;refine⟨v,a,_,ns,rfl,aK,by rw[aD (aM ha hv)];exact ha,?_,q _ _ (s1.trans (aU hv _)) qJ⟩;rw[<- eu];have key:∀(ks:List am)(us:List V),ks.length=us.length->(ks.zip us).map (·.2)=us:=by
    intro ks
    induction ks with
    | nil=>intro us h;cases us with|nil=>rfl|cons _ _=>cases h
    | cons k ks ih=>intro us h;cases us with|nil=>cases h|cons u us=>simp at h;simp[ih us h]
   exact key ks us hlen
 | _=>simp only[e]at h;cases h
theorem iW{x:Str}{k:Nat}{f:Bf}(h:pf x k=some f):(x="len"/\k=1/\f=.len)\/(x="int"/\k=1/\f=.int)\/(x="list"/\k=1/\f=.list)\/(x="tuple"/\k=1/\f=.tuple)\/(x="all"/\k=1/\f=.all)\/(x="min"/\k=2/\f=.min)\/(x="max"/\k=2/\f=.max)\/(x="abs"/\k=1/\f=.abs)\/(x="any"/\k=1/\f=.any)\/(x="sum"/\k=1/\f=.sum)\/(x="sorted"/\k=1/\f=.sorted):=by
 unfold pf at h
 split at h
 ·rename_i c;rw[Iu]at c;cases h;exact .inl ⟨JN c.1,JN c.2,rfl⟩
 split at h
 ·rename_i c;rw[Iu]at c;cases h;exact .inr (.inl ⟨JN c.1,JN c.2,rfl⟩)
 split at h
 ·rename_i c;rw[Iu]at c;cases h;exact .inr (.inr (.inl ⟨JN c.1,JN c.2,rfl⟩))
 split at h
 ·rename_i c;rw[Iu]at c;cases h;exact .inr (.inr (.inr (.inl ⟨JN c.1,JN c.2,rfl⟩)))
 split at h
 ·rename_i c;rw[Iu]at c;cases h;exact .inr (.inr (.inr (.inr (.inl ⟨JN c.1,JN c.2,rfl⟩))))
 split at h
 ·rename_i c;rw[Iu]at c;cases h;exact .inr (.inr (.inr (.inr (.inr (.inl ⟨JN c.1,JN c.2,rfl⟩)))))
 split at h
 ·rename_i c;rw[Iu]at c;cases h;exact .inr (.inr (.inr (.inr (.inr (.inr (.inl ⟨JN c.1,JN c.2,rfl⟩))))))
 split at h
 ·rename_i c;rw[Iu]at c;cases h;exact .inr (.inr (.inr (.inr (.inr (.inr (.inr (.inl ⟨JN c.1,JN c.2,rfl⟩)))))))
 split at h
 ·rename_i c;rw[Iu]at c;cases h;exact .inr (.inr (.inr (.inr (.inr (.inr (.inr (.inr (.inl ⟨JN c.1,JN c.2,rfl⟩))))))))
 split at h
 ·rename_i c;rw[Iu]at c;cases h;exact .inr (.inr (.inr (.inr (.inr (.inr (.inr (.inr (.inr (.inl ⟨JN c.1,JN c.2,rfl⟩)))))))))
 split at h
 ·rename_i c;rw[Iu]at c;cases h;exact .inr (.inr (.inr (.inr (.inr (.inr (.inr (.inr (.inr (.inr (⟨JN c.1,JN c.2,rfl⟩))))))))))
 cases h
theorem Ea{cd:Nat->List PV->Option PV}{ct:Ct}(C:bX cd X ct){x:Str}{f:Bf}{a:Expr}{p pos:Pos}{ra r:RV}(ho:own ct x=true)(hb:pi x 1=some f)(hs:isStar a=false)(ha:aI X Hi τ a ra)(h:mW f [ra]=some r) :
  aI X Hi τ (.Call (.Name x p) [a] [] pos) r:=by
 have hb:pf x 1=some f:=hb
 rcases iW hb with⟨rfl,_,rfl⟩|⟨rfl,_,rfl⟩|⟨rfl,_,rfl⟩|⟨rfl,_,rfl⟩|⟨rfl,_,rfl⟩|⟨_,z,_⟩|⟨_,z,_⟩|⟨rfl,_,rfl⟩|⟨rfl,_,rfl⟩|⟨rfl,_,rfl⟩|⟨rfl,_,rfl⟩
 ·have h:(d0 ra.val).map (fun n=>sc (.int (n:Nat)))=some r:=h
  cases e:d0 ra.val with
  | none=>rw[e]at h;cases h
  | some n =>
   rw[e]at h;cases h;exact wx C ho hs ha e
 ·unfold mW at h
  cases e:ra.val with
  | int i =>
   simp only[e]at h;cases h;exact r6 C mO ho PyProof.Rows.boot_int (by decide) hs ha fun O σ H H2 u Q R s r q=>.inl ⟨i,by rw[r.int R s e],q _ _ (aE.refl _) qJ⟩
  | bl i =>
   simp only[e]at h;cases h;exact r6 C mO ho PyProof.Rows.boot_int (by decide) hs ha fun O σ H H2 u Q R s r q=>.inr ⟨i,by rw[r.bl R s e],q _ _ (aE.refl _) qJ⟩
  | _=>simp only[e]at h;cases h
 ·have h:(match ra.its with|some (xs,n)=>some (RV.own xs n)|none=>none)=some r:=h
  cases e:ra.its with
  | none=>rw[e]at h;cases h
  | some w =>
   obtain⟨xs,n⟩:=w;rw[e]at h;cases h;refine r6 C nS ho PyProof.Rows.boot_list (by decide) hs ha fun O σ H H2 u Q R s r q=> ?_;obtain⟨p,us,rfl,l,r⟩:=r.its R s e;exact⟨p,us,rfl,l.imp (·.1) (·.1),fun l2 hl=>q _ _ (aU hl _) (di s hl r)⟩
 ·have h:(match ra.its with|some (xs,n)=>some (RV.frz (.tup xs) n)|none=>none)=some r:=h
  cases e:ra.its with
  | none=>rw[e]at h;cases h
  | some w =>
   obtain⟨xs,n⟩:=w;rw[e]at h;cases h;refine r6 C lD ho PyProof.Rows.boot_tuple (by decide) hs ha fun O σ H H2 u Q R s r q=> ?_;obtain⟨p,us,rfl,l,r⟩:=r.its R s e;refine⟨p,us,rfl,l.imp (fun l=>⟨l.1,fun l2 hl=> ?_⟩) (fun l=>⟨l.1,?_⟩)⟩
   ·exact q _ _ (aU hl _) (Rp.tup.mpr ⟨l2,us,rfl,bw.of (nJ R s hl),r.mono (aL (aU hl _))⟩)
   ·exact q _ _ (aE.refl _) (Rp.tup.mpr ⟨p,us,rfl,sm R s l.1,r⟩)
 ·unfold mW at h
  cases e:ra.val with
  | lst xs =>
   simp only[e]at h;cases eb:mP xs with
   | none=>rw[eb]at h;cases h
   | some bs =>
    rw[eb]at h;cases h;refine gu C (pZ C.calm) ho boot_all (by decide) hs ha fun O σ H H2 u Q R s r q=> ?_;obtain⟨p,us,rfl,l,r⟩:=r.lst R s e;have:=pc eb r;subst this;exact⟨p,bs,rfl,l,q _ _ (aE.refl _) FS⟩
  | _=>simp only[e]at h;cases h
 ·cases z
 ·cases z
 ·unfold mW at h
  cases e:ra.val with
  | int i =>
   simp only[e]at h;cases h;exact gu C x3 ho PyProof.Rows.boot_abs (by decide) hs ha fun O σ H H2 u Q R s r q=>⟨i,by rw[r.int R s e],q _ _ (aE.refl _) qJ⟩
  | _=>simp only[e]at h;cases h
 ·exact absurd (show(none:Option RV)=some r from h) (by simp)
 ·have h:(match ra.val with
   | .lst xs=>(ag xs).map fun ns=>sc (.int ns.sum)
   | _=>none)=some r:=h
  cases e:ra.val with
  | lst xs =>
   simp only[e]at h;cases eb:ag xs with
   | none=>rw[eb]at h;cases h
   | some bs =>
    rw[eb]at h;cases h;refine gu C (lF C.calm) ho boot_sum (by decide) hs ha fun O σ H H2 u Q R s r q=> ?_;obtain⟨p,us,rfl,l,r⟩:=r.lst R s e;have:=fA eb r;subst this;exact⟨p,bs,rfl,l,q _ _ (aE.refl _) qJ⟩
  | _=>simp only[e]at h;cases h
 ·have h:(match ra.val with
   | .lst xs=>la xs
   | _=>none)=some r:=h
  cases e:ra.val with
  | lst xs =>
   simp only[e]at h;unfold la at h;cases eb:ag xs with
   | none =>
    rw[eb]at h;exact ve C ho hs ha e h
   | some bs =>
    rw[eb]at h;have h:(if bs.length<64 then some (RV.own ((L2.sortI bs).map PV.int) true)else none)=some r:=h
    split at h
    ·rename_i c
     cases h;refine gu C iS ho boot_sorted (by decide) hs ha fun O σ H H2 u Q R s r q=> ?_;obtain⟨p,us,rfl,l,r⟩:=r.lst R s e;have:=fA eb r;subst this;exact⟨p,bs,rfl,l,c,fun a ha=>q _ _ (aU ha _) (di s ha (aJ.ints.mpr rfl))⟩
    ·cases h
  | _=>simp only[e]at h;cases h
theorem EZ{cd:Nat->List PV->Option PV}{ct:Ct}(C:bX cd X ct){x:Str}{f:Bf}{a b:Expr}{p pos:Pos}{ra rb r:RV}(ho:own ct x=true)(hb:pi x 2=some f)(hs:isStar a=false)(hs2:isStar b=false)(ha:aI X Hi τ a ra)(hb' :aI X Hi τ b rb)(h:mW f [ra,rb]=some r) :
  aI X Hi τ (.Call (.Name x p) [a,b] [] pos) r:=by
 refine Ka fun no=> ?_;have hb:pf x 2=some f:=hb
 rcases iW hb with⟨_,z,_⟩|⟨_,z,_⟩|⟨_,z,_⟩|⟨_,z,_⟩|⟨_,z,_⟩|⟨rfl,_,rfl⟩|⟨rfl,_,rfl⟩|⟨_,z,_⟩|⟨_,z,_⟩|⟨_,z,_⟩|⟨_,z,_⟩
 ·cases z
 ·cases z
 ·cases z
 ·cases z
 ·cases z
 ·unfold mW at h
  cases e1:ra.val with
  | int i =>
   cases e2:rb.val with
   | int j =>
    simp only[e1,e2]at h;cases h;exact no<|b2_go C (uq C.calm) ho boot_min (by decide) hs hs2 ha hb' fun O σ H H2 u v Q R s r r2 q=>⟨i,j,by rw[r.int R s e1,r2.int R s e2],q _ _ (aE.refl _) qJ⟩
   | _=>simp only[e1,e2]at h;cases h
  | _=>simp only[e1]at h;cases h
 ·unfold mW at h
  cases e1:ra.val with
  | int i =>
   cases e2:rb.val with
   | int j =>
    simp only[e1,e2]at h;cases h;exact no<|b2_go C (ur C.calm) ho boot_max (by decide) hs hs2 ha hb' fun O σ H H2 u v Q R s r r2 q=>⟨i,j,by rw[r.int R s e1,r2.int R s e2],q _ _ (aE.refl _) qJ⟩
   | _=>simp only[e1,e2]at h;cases h
  | _=>simp only[e1]at h;cases h
 ·cases z
 ·cases z
 ·cases z
 ·cases z
theorem aJ.lrng{n:Bool}{H:Hp}(k:Nat):aJ X.K Hi n (lrng k) H (BZ k):=by
 unfold IR.lrng BZ
 generalize List.range k=l
 induction l with
 | nil=>exact .nil
 | cons x l ih=>exact .cons (Rp.int.mpr rfl) ih
theorem count_ok{o a:Expr}{apos cpos:Pos}{ro ra r:RV}(hp:dh o=true)(hl:(apos.endLine==cpos.line)=true)(hs:isStar a=false)(h0:aI X Hi τ o ro)(ha:aI X Hi τ a ra)(h:jt .count ro [ra]=some r) :
  aI X Hi τ (.Call (.Attribute o "count" apos) [a] [] cpos) r:=by
 have hbase:attributeBase o "count" X.env (eval o X.env)=eval o X.env:=by
  cases o<;>first|rfl|cases hp
 unfold jt at h;cases e1:ro.val with
 | str z =>
  cases e2:ra.val with
  | str y =>
   simp only[e1,e2]at h;cases h;intro O σ H Q R q;refine we (oV PySem.F.plainAttrs_str PySem.F.slot_str_count PySem.F.type_str_count wm af (aZ af bC (aO hs)) hbase (by rw[aO hs];rfl) hl (aO hs) rfl) ?_;refine h0 O σ H _ R fun u H1 s1 r1=> ?_;have e3:=r1.str R s1 e1;subst e3;refine⟨rfl,ha O σ H1 _ (R.ext s1) fun v H2 s2 r2=> ?_⟩;have e4:=(r2.back s1).str R (s1.trans s2) e2;subst e4;exact⟨z,y,rfl,rfl,q _ _ (s1.trans s2) qJ⟩
  | _=>simp only[e1,e2]at h;cases h
 | _=>simp only[e1]at h;cases h
theorem jrev_ok{cd:Nat->List PV->Option PV}{ct:Ct}(C:bX cd X ct){o b:Expr}{p q apos cpos:Pos}{ro ra r:RV}(hw:own ct ("reversed":Str)=true)(hp:dh o=true)(hl:(apos.endLine==cpos.line)=true)(hs:isStar b=false)(h0:aI X Hi τ o ro)(ha:aI X Hi τ b ra)(h:jt .jrev ro [ra]=some r) :
  aI X Hi τ (.Call (.Attribute o "join" apos) [.Call (.Name "reversed" p) [b] [] q] [] cpos) r:=by
 have hbase:attributeBase o "join" X.env (eval o X.env)=eval o X.env:=by
  cases o<;>first|rfl|cases hp
 obtain⟨g,hm⟩:=fI C hw;unfold jt at h;cases e1:ro.val with
 | str sep =>
  cases e2:ra.val with
  | str z =>
   simp only[e1,e2]at h
   split at h
   ·rename_i c
    cases h;intro O σ H Q R k;refine we (zJ C.calm g hm af (aZ af bC (aO hs)) (aO hs) hbase hl) ?_;refine h0 O σ H _ R fun u H1 s1 r1=> ?_;have e3:=r1.str R s1 e1;subst e3;refine⟨by obtain⟨cs⟩:=sep;rw[show cs= #[]from c.1],ha O σ H1 _ (R.ext s1) fun v H2 s2 r2=> ?_⟩;have e4:=(r2.back s1).str R (s1.trans s2) e2;subst e4;exact⟨z,rfl,c.2.1,c.2.2,k _ _ (s1.trans s2) FR⟩
   ·cases h
  | _=>simp only[e1,e2]at h;cases h
 | _=>simp only[e1]at h;cases h
theorem su(sep:Str):∀ys:List Str,Str.join sep ys=pC sep ys
 | []=>rfl
 | [x]=>rfl
 | x::y::r=>by
  show x++sep++Str.join sep (y::r)=_;rw[su sep (y::r)];rfl
theorem join_ok{o a:Expr}{apos cpos:Pos}{ro ra r:RV}(hp:dh o=true)(hl:(apos.endLine==cpos.line)=true)(hs:isStar a=false)(h0:aI X Hi τ o ro)(ha:aI X Hi τ a ra)(h:jt .join ro [ra]=some r) :
  aI X Hi τ (.Call (.Attribute o "join" apos) [a] [] cpos) r:=by
 have hbase:attributeBase o "join" X.env (eval o X.env)=eval o X.env:=by
  cases o<;>first|rfl|cases hp
 have key:∀(sep:Str)(ys:List Str)(hsep:ro.val=.str sep),(∀(O:List Addr)(σ:L2.St)(H H2:Hp)(u:V),ao X.K Hi O τ σ H->aE H H2->ae X.K Hi O H H2 ra u->∃p,u=.ref p/\(bN X.K H2 p (ys.map V.str)\/bw X.K H2 p (ys.map V.str))) ->
   (ys.map (·.length)).sum+ys.length*sep.length<=LN->aI X Hi τ (.Call (.Attribute o "join" apos) [a] [] cpos) (sc (.str (pC sep ys))):=by
  intro sep ys hsep jE hz O σ H Q R q;refine we (oV PySem.F.plainAttrs_str LM PySem.F.type_str_join zj af (aZ af bC (aO hs)) hbase (by rw[aO hs];rfl) hl (aO hs) rfl) ?_;refine h0 O σ H _ R fun u H1 s1 r1=> ?_;have e1:=r1.str R s1 hsep;subst e1;refine⟨rfl,ha O σ H1 _ (R.ext s1) fun v H2 s2 r2=> ?_⟩;obtain⟨p,rfl,hq⟩:=jE O σ H H2 v R (s1.trans s2) (r2.back s1);refine⟨sep,p,ys,rfl,rfl,hq,hz,?_⟩;have e:Txt.join sep ys=pC sep ys:=(PySem.StrLaws.glued_eq_join _ _).trans (su sep ys);rw[e];exact q _ _ (s1.trans s2) FR
 unfold jt at h;cases e1:ro.val with
 | str sep =>
  cases e2:ra.val with
  | lst xs =>
   simp only[e1,e2]at h;cases et:dF xs with
   | none=>rw[et]at h;cases h
   | some ys =>
    rw[et]at h;have h:(if(ys.map (·.length)).sum+ys.length*sep.length<=LN then some (sc (.str (pC sep ys)))else none)=some r:=h
    split at h
    ·rename_i c
     cases h;refine key sep ys e1 (fun O σ H H2 u R s r=> ?_) c;obtain⟨p,us,rfl,l,r⟩:=r.lst R s e2;have:=jY et r;subst this;exact⟨p,rfl,.inl l⟩
    ·cases h
  | tup xs =>
   simp only[e1,e2]at h;cases et:dF xs with
   | none=>rw[et]at h;cases h
   | some ys =>
    rw[et]at h;have h:(if(ys.map (·.length)).sum+ys.length*sep.length<=LN then some (sc (.str (pC sep ys)))else none)=some r:=h
    split at h
    ·rename_i c
     cases h;refine key sep ys e1 (fun O σ H H2 u R s r=> ?_) c;obtain⟨p,us,rfl,l,r⟩:=r.tup R s e2;have:=jY et r;subst this;exact⟨p,rfl,.inr l⟩
    ·cases h
  | _=>simp only[e1,e2]at h;cases h
 | _=>simp only[e1]at h;cases h
theorem zG{b:Expr}(h:sh b=false):tV b:=by
 intro o i;cases b<;>first|rfl|cases h
theorem kN{n:Bool}{xs:List PV}{H:Hp}{us:List V}{k:Int}{e:PV}(r:aJ X.K Hi n xs H us)(h:dC xs k=some e):∃u,dC us k=some u/\Rp X.K Hi n e H u:=by
 unfold dC at h ⊢;rw[<- r.len];cases c:oz xs.length k with
 | none=>rw[c]at h;cases h
 | some j =>
  rw[c]at h;exact r.at (i:=j) h
theorem xJ(hun:X.A.units+64<cLine){a i:Expr}{pos:Pos}{x y r:RV}(hb:sh i=false)(ha:aI X Hi τ a x)(hi:aI X Hi τ i y)(h:index x y=some r):aI X Hi τ (.Subscript a i pos) r:=by
 have go:∀{rr:R2}(hr:Ia X rr),(∀(O:List Addr)(σ:L2.St)(H H2:Hp)(u v:V)(Q:VK),ao X.K Hi O τ σ H->aE H H2->ae X.K Hi O H H2 x u->ae X.K Hi O H H2 y v->(∀w,ae X.K Hi O H H2 r w->Q w H2)->rr u v H2 Q)->aI X Hi τ (.Subscript a i pos) r:=by
  intro rr hr k O σ H Q R q;refine we (BO hr af af (zG hb)) ?_;refine ha O σ H _ R fun u H1 s1 r1=>hi O σ H1 _ (R.ext s1) fun v H2 s2 r2=> ?_;exact k O σ H H2 u v Q R (s1.trans s2) (r1.ext s2) (r2.back s1) fun w r3=>q w H2 (s1.trans s2) r3
 unfold index at h
 split at h
 case h_1 k e2 =>
  unfold ixK at h
  split at h
  case h_1 xs n =>
   cases c:dC xs k with
   | none=>rw[c]at h;cases h
   | some e =>
    rw[c]at h;cases h;refine go jD fun O σ H H2 u v Q R s r1 r2 q=> ?_;obtain⟨p,us,rfl,_,l,r⟩:=Rp.lst.mp (show Rp X.K Hi n (.lst xs) (aX H2 O) u from r1);obtain⟨w,hw,rw'⟩:=kN r c;exact⟨p,us,k,w,rfl,r2.int R s e2,(aY (O:=O)).seq l,hw,q w (rw'.mono bM).up⟩
  case h_2 xs n =>
   cases c:dC xs k with
   | none=>rw[c]at h;cases h
   | some e =>
    rw[c]at h;cases h;refine go xG fun O σ H H2 u v Q R s r1 r2 q=> ?_;obtain⟨p,us,rfl,l,r⟩:=Rp.tup.mp (show Rp X.K Hi n (.tup xs) (aX H2 O) u from r1);obtain⟨w,hw,rw'⟩:=kN r c;exact⟨p,us,k,w,rfl,r2.int R s e2,(aY (O:=O)).tup l,hw,q w rw'.up⟩
  case h_3 xs n =>
   cases c:dC xs k with
   | none=>rw[c]at h;cases h
   | some e =>
    rw[c]at h;cases h;refine go jD fun O σ H H2 u v Q R s r1 r2 q=> ?_;obtain⟨p,us,rfl,h0,h1,r⟩:=r1;obtain⟨w,hw,rw'⟩:=kN r c;exact⟨p,us,k,w,rfl,r2.int R s e2,bN.of h1,hw,q w (rw'.mono (aL bM)).up⟩
  case h_4 xs =>
   cases c:dC xs k with
   | none=>rw[c]at h;cases h
   | some e =>
    rw[c]at h;cases h;refine go jD fun O σ H H2 u v Q R s r1 r2 q=> ?_;obtain⟨p,us,rfl,_,l,r⟩:=Rp.lst.mp (show Rp X.K Hi false (.lst xs) H2 u from r1);obtain⟨w,hw,rw'⟩:=kN r c;refine⟨p,us,k,w,rfl,r2.int R s e2,l,hw,q w ?_⟩;unfold lw
    split
    ·rename_i im
     exact Rp.imm im (R.ext s).tups (rw'.mono bM)
    ·exact rw'.mono bM
  case h_5 xs =>
   cases c:dC xs k with
   | none=>rw[c]at h;cases h
   | some e =>
    rw[c]at h;cases h;refine go xG fun O σ H H2 u v Q R s r1 r2 q=> ?_;obtain⟨p,us,rfl,l,r⟩:=Rp.tup.mp (show Rp X.K Hi false (.tup xs) H2 u from r1);obtain⟨w,hw,rw'⟩:=kN r c;refine⟨p,us,k,w,rfl,r2.int R s e2,l,hw,q w ?_⟩;unfold lw
    split
    ·rename_i im
     exact Rp.imm im (R.ext s).tups rw'
    ·exact rw'
  case h_6 z n =>
   split at h
   ·rename_i hz
    cases c:dC z.cps.toList k with
    | none=>rw[c]at h;cases h
    | some e =>
     rw[c]at h;cases h;exact go DP fun O σ H H2 u v Q R s r1 r2 q=>⟨z,k,e,r1.str R s rfl,r2.int R s e2,by rw[dQ];exact hz,c,q _ FR⟩
   ·cases h
  case h_7=>cases h
 case h_2=>cases h
variable(X Hi τ)in
noncomputable def u9(e:Option Expr)(o:Option Int):Prop:=match e,o with
 | none,none=>True
 | some e,some i=>∃r,aI X Hi τ e r/\r.val=.int i
 | _,_=>False
theorem eF{a:Expr}{lo hi:Option Expr}{l h:Option Int}{p2 pos:Pos}{x r:RV}{rr:V->Option Int->Option Int->Hp->VK->Prop}(hr:FW X rr)(ha:aI X Hi τ a x)(hl:u9 X Hi τ lo l)(hh:u9 X Hi τ hi h)
  (k:∀(O:List Addr)(σ:L2.St)(H H2:Hp)(u:V)(Q:VK),ao X.K Hi O τ σ H->aE H H2->ae X.K Hi O H H2 x u->(∀w H3,aE H2 H3->ae X.K Hi O H H3 r w->Q w H3)->rr u l h H2 Q):aI X Hi τ (.Subscript a (.Slice lo hi none p2) pos) r:=by
 have part:∀{e:Option Expr}{o:Option Int},u9 X Hi τ e o->∃t,PO X e t/\∀(O:List Addr)(σ:L2.St)(H:Hp)(Q:Option Int->Hp->Prop),ao X.K Hi O τ σ H->(∀H',aE H H' ->Q o H')->t σ H Q:=by
  intro e o he;cases e with
  | none =>
   cases o with
   | none=>exact⟨_,zF,fun O σ H Q R q=>q H (aE.refl _)⟩
   | some i=>cases he
  | some e =>
   cases o with
   | none=>cases he
   | some i =>
    obtain⟨r,h1,h2⟩:=he;exact⟨_,zE af,fun O σ H Q R q=>h1 O σ H _ R fun u H1 s1 r1=>⟨i,r1.int R s1 h2,q _ s1⟩⟩
 obtain⟨tl,pl,ql⟩:=part hl;obtain⟨th,ph,qh⟩:=part hh;intro O σ H Q R q;refine we (wN hr af pl ph) ?_;refine ha O σ H _ R fun u H1 s1 r1=>ql O σ H1 _ (R.ext s1) fun H2 s2=>qh O σ H2 _ (R.ext (s1.trans s2)) fun H3 s3=> ?_;exact k O σ H H3 u Q R (s1.trans (s2.trans s3)) (r1.ext (s2.trans s3)) fun w H4 s4 r4=>q w H4 (s1.trans (s2.trans (s3.trans s4))) r4
theorem aJ.cut{n:Bool}{xs:List PV}{H:Hp}{us:List V}(r:aJ X.K Hi n xs H us)(lo hi:Option Int):aJ X.K Hi n (IR.cut xs lo hi) H (pU us lo hi):=by
 unfold IR.cut pU;rw[<- r.len];exact(r.drop _).take _
theorem ae.whole{O:List Addr}{σ:L2.St}{H H' :Hp}{x:RV}{u:V}{xs ys:List PV}{n:Bool}(R:ao X.K Hi O τ σ H)(s:aE H H')(h:ae X.K Hi O H H' x u)(e:x.its=some (xs,n))(ev:x.val=.tup ys):ae X.K Hi O H H' (.frz (.tup xs) n) u:=by
 cases x with
 | frz w m =>
  obtain rfl:w=.tup ys:=ev;cases e;exact h
 | bor w =>
  obtain rfl:w=.tup ys:=ev;have e:(if imms ys then some (ys,true)else none)=some (xs,n):=e
  split at e
  ·rename_i i
   cases e;exact Rp.imm (by rw[imm];exact i) (R.ext s).tups (show Rp X.K Hi false (.tup _) H' u from h)
  ·cases e
 | own ys m=>cases ev
 | owd b ys m=>cases b<;>cases ev
theorem vj{a:Expr}{lo hi:Option Expr}{l h:Option Int}{p2 pos:Pos}{x r:RV}(ha:aI X Hi τ a x)(hl:u9 X Hi τ lo l)(hh:u9 X Hi τ hi h)(e:slice x l h=some r):aI X Hi τ (.Subscript a (.Slice lo hi none p2) pos) r:=by
 unfold slice at e
 split at e
 case h_1 z ev =>
  split at e
  ·rename_i hz
   split at e
   ·rename_i k
    split at e
    ·rename_i hk
     cases e;refine eF vm ha hl hh fun O σ H H2 u Q R s r1 q=>⟨z,r1.str R s ev,by rw[dQ];exact hz,?_⟩;have e1:Txt.slice z none (some k)=(⟨(z.cps.toList.take k.toNat).toArray⟩:Str):=by
      refine UM.mh ?_;have:=t5 z k.toNat;rw[show((k.toNat:Nat):Int)=k by omega]at this;rw[this]
     rw[e1];exact q _ _ (aE.refl _) FR
    ·cases e
   ·rename_i k
    split at e
    ·rename_i hk
     cases e;refine eF vm ha hl hh fun O σ H H2 u Q R s r1 q=>⟨z,r1.str R s ev,by rw[dQ];exact hz,?_⟩;have e1:Txt.slice z (some k) none=(⟨(z.cps.toList.drop k.toNat).toArray⟩:Str):=by
      refine UM.mh ?_;have:=tz z k.toNat;rw[show((k.toNat:Nat):Int)=k by omega]at this;rw[this]
     rw[e1];exact q _ _ (aE.refl _) FR
    ·cases e
   ·cases e
  ·cases e
 case h_2 ev =>
  cases ei:x.its with
  | none=>rw[ei]at e;cases e
  | some w =>
   obtain⟨xs,n⟩:=w;rw[ei]at e;cases e;refine eF yo ha hl hh fun O σ H H2 u Q R s r1 q=> ?_;obtain⟨p,us,rfl,l1,r2⟩:=r1.itsL R s ei ev;exact⟨p,us,rfl,l1,fun p3 hp=>q _ _ (aU hp _) (di s hp (r2.up.cut _ _))⟩
 case h_3 ev =>
  cases ei:x.its with
  | none=>rw[ei]at e;cases e
  | some w =>
   obtain⟨xs,n⟩:=w;rw[ei]at e;dsimp only at e
   split at e
   ·rename_i hw
    cases e;refine eF yn ha hl hh fun O σ H H2 u Q R s r1 q=> ?_;obtain⟨p,us,rfl,l1,r2⟩:=r1.itsT R s ei ev;exact⟨p,us,rfl,l1,by rw[<- r2.len];exact hw,q _ _ (aE.refl _) (r1.whole R s ei ev)⟩
   ·rename_i hw
    cases e;refine eF CN ha hl hh fun O σ H H2 u Q R s r1 q=> ?_;obtain⟨p,us,rfl,l1,r2⟩:=r1.itsT R s ei ev;refine⟨p,us,rfl,l1,by rw[<- r2.len];exact hw,fun p3 hp=>q _ _ (aU hp _) ?_⟩;exact Rp.tup.mpr ⟨p3,_,rfl,bw.of (nJ R s hp),(r2.cut _ _).mono (aL (aU hp _))⟩
 case h_4=>cases e
end
end IR
namespace IR
open PySem L2
section
variable{X:Cx}{Hi:Hp}{τ:En}
theorem wn{α β:Type}{o:Option α}{f:α->β}{b:β}(h:o.map f=some b):∃a,o=some a/\f a=b:=by
 cases o with
 | none=>cases h
 | some a=>cases h;exact⟨a,rfl,rfl⟩
variable(X Hi)in
noncomputable def rIdx:V->List V->Hp->VK->Prop:=fun x vs H Q=>∃a ys y j,vs=[y]/\bv 12 a=true/\ys.all (bv 12)=true/\Rp X.K Hi false a H y/\Rp X.K Hi false (.tup ys) H x/\ys.findIdx? (fun y=>eS y a)=some j/\Q (.int (j:Nat)) H
theorem wk(hu:X.A.units+64<cLine):FG X "tuple.index" (rIdx X Hi):=by
 intro pins s σ H x xs v us Q I rx rs h;obtain⟨a,ys,y,j,rfl,fa,fy,ra,rb,hj,q⟩:=h;obtain⟨u,rfl,ru⟩:=vals1 rs;obtain⟨t,ws,rfl,lt,rr⟩:=Rp.tup.mp rb;cases rx;obtain⟨its,rv,tp,hz⟩:=I.tuple lt;obtain⟨as,za⟩:=ar I fa ra ru;obtain⟨ca,da⟩:=bS fa;obtain⟨hj1,hj2,hj3⟩:=K9.mp hj;have hl1:=rr.len;have hl2:=rv.length;refine SR.zw (j:=j) tp (by rw[I0];omega) (fun i w hi hw=> ?_) fun u tk=>⟨.int (j:Nat),H,I.kept (t' :=tk) (fun b o e=>e),⟨_,rfl⟩,q⟩;have hw:its[i]? =some w:=by simpa using hw
 have hi' :i<ys.length:=by omega
 obtain⟨wv,hwv,rw'⟩:=rr.at (i:=i) (x:=ys[i]) (Iv hi');obtain⟨w',hw',rel⟩:=rv.get hwv;rw[hw]at hw';cases hw';have fi:bv 12 ys[i]=true:=JJ.mp fy _ (LR hi');obtain⟨bs,zb⟩:=ar I fi rw' rel;obtain⟨cb,db⟩:=bS fi;have e:decide (i=j)=PyData.eqv (iO ys[i]) (iO a):=by
  rw[b8]
  by_cases z:i=j
  ·subst z
   rw[JP rfl];exact hj2.symm
  ·rw[JK z]
   have:=hj3 i (by omega);exact(Jz.mpr this).symm
 rw[e];exact fun prog w E Q hq=>SeqAt.eqBoolOverData prog w _ E s _ _ _ _ _ _ Q zb za cb ca (by show X.A.units+1+min _ _<cLine;omega) hq
variable(X Hi)in
noncomputable def Gj:V->List V->Hp->VK->Prop:=fun x vs H Q=>∃a ys y j,vs=[y]/\bv 12 a=true/\ys.all (bv 12)=true/\Rp X.K Hi false a H y/\Rp X.K Hi false (.lst ys) H x/\ys.findIdx? (fun y=>eS y a)=some j/\Q (.int (j:Nat)) H
open Classical in
theorem uQ(hu:X.A.units+64<cLine):FG X "list.index" (Gj X Hi):=by
 intro pins s σ H x xs v us Q I rx rs h;obtain⟨a,ys,y,j,rfl,fa,fy,ra,rb,hj,q⟩:=h;obtain⟨u,rfl,ru⟩:=vals1 rs;obtain⟨t,ws,rfl,_,lt,rr⟩:=Rp.lst.mp rb;cases rx;obtain⟨its,rv,⟨⟨cls,dct,da0,sl⟩,n,ho,hc,hd,hs⟩,hz⟩:=I.list lt;simp only at hc hd hs;subst hc hd hs;obtain⟨as,za⟩:=ar I fa ra ru;obtain⟨ca,da⟩:=bS fa;obtain⟨hj1,hj2,hj3⟩:=K9.mp hj;have hl1:=rr.len;have hl2:=rv.length;have key:∀i (hi:i<ys.length) w,its[i]? =some w->∃bs,Reads s.heap w (iO ys[i]) bs/\(iO ys[i]).canLay0=true/\bv 12 ys[i]=true:=fun i hi w hw=>by
  obtain⟨wv,hwv,rw'⟩:=rr.at (i:=i) (x:=ys[i]) (Iv hi);obtain⟨w',hw',rel⟩:=rv.get hwv;rw[hw]at hw';cases hw';have fi:bv 12 ys[i]=true:=JJ.mp fy _ (LR hi);obtain⟨bs,zb⟩:=ar I fi (rw'.mono bM) rel;exact⟨bs,zb,(bS fi).1,fi⟩
 have ev:∀i (hi:i<ys.length) w,its[i]? =some w->decide (∃i,∃hi:i<ys.length,its[i]? =some w/\eS ys[i] a=true)=eS ys[i] a:=fun i hi w hw=>by
  cases z:eS ys[i] a with
  | true=>exact JP ⟨i,hi,hw,z⟩
  | false =>
   refine JK ?_;rintro⟨i',hi',hw',z'⟩;obtain⟨bs,zb,_,f1⟩:=key i hi w hw;obtain⟨bs',zb',_,f2⟩:=key i' hi' w hw';rw[<- b8,(zb.unique _ _ zb').1,b8]at z;rw[z]at z';cases z'
 have at' :∀i (hi:i<its.length),its[i]? =some its[i]:=fun i hi=>Iv hi
 refine call_meets PySem.F.slot_list_index ⟨_,ho,rfl⟩ PySem.F.entry_list_index (PySem.F.args_list_index_2 _ _)
  (SeqAt.list_indexAt t its.toArray n none sl u (fun w=>decide (∃i,∃hi:i<ys.length,its[i]? =some w/\eS ys[i] a=true)) j (by rw[I0];omega) (by have:sizeLine=16777216:=rfl;omega) ?_ ?_) ⟨ho,fun w hw=> ?_,?_⟩
 ·exact(ev j hj1 _ (by rw[List.getElem_toArray];exact at' j (by omega))).trans hj2
 ·intro m hm hlt
  exact(ev m (by omega) _ (by rw[List.getElem_toArray];exact at' m (by omega))).trans (Jz.mpr (hj3 m hlt))
 ·obtain⟨i,hi,rfl⟩:=Kx.mp (List.mem_toArray.mp hw)
  obtain⟨bs,zb,cb,_⟩:=key i (by omega) _ (at' i hi);have e:decide (∃i',∃hi' :i' <ys.length,its[i']? =some its[i]/\eS ys[i'] a=true)=PyData.eqv (iO (ys[i]'(by omega))) (iO a):=by
   rw[b8];exact ev i (by omega) _ (at' i hi)
  rw[e];exact fun prog w E Q hq=>SeqAt.eqBoolOverData prog w _ E s _ _ _ _ _ _ Q zb za cb ca (by show X.A.units+1+min _ _<cLine;omega) hq
 ·exact⟨.int (j:Nat),H,I.kept (t' :=_) (fun b o e=>e),⟨_,rfl⟩,q⟩
theorem indexT_ok(hu:X.A.units+64<cLine){o a:Expr}{apos cpos:Pos}{ro ra r:RV}(hp:dh o=true)(hl:(apos.endLine==cpos.line)=true)(hs:isStar a=false)(h0:aI X Hi τ o ro)(ha:aI X Hi τ a ra)(h:jt .index ro [ra]=some r) :
  aI X Hi τ (.Call (.Attribute o "index" apos) [a] [] cpos) r:=by
 have hbase:attributeBase o "index" X.env (eval o X.env)=eval o X.env:=by
  cases o<;>first|rfl|cases hp
 unfold jt at h;cases e1:ro.val with
 | tup xs =>
  simp only[e1]at h;have h:(if xs.all (bv 12)&&bv 12 ra.val then(xs.findIdx? fun y=>eS y ra.val).map fun j=>sc (.int (j:Nat))else none)=some r:=h
  split at h
  ·rename_i c
   rw[Iu]at c;obtain⟨j,hj,rfl⟩:=wn h;intro O σ H Q R q;refine we (oV PySem.F.plainAttrs_tuple PySem.F.slot_tuple_index PySem.F.type_tuple_index (wk (Hi:=Hi) hu) af (aZ af bC (aO hs)) hbase (by rw[aO hs];rfl) hl (aO hs) rfl) ?_;refine h0 O σ H _ R fun u H1 s1 r1=> ?_;have z1:=r1.val R s1;rw[e1]at z1;obtain⟨t,ws,rfl,lt,rr⟩:=Rp.tup.mp z1;refine⟨?_,ha O σ H1 _ (R.ext s1) fun v H2 s2 r2=> ?_⟩
   ·exact .inr (.inl ⟨rfl,_,lt⟩)
   ·have z2:=(r2.back s1).val R (s1.trans s2)
    exact⟨ra.val,xs,v,j,rfl,c.2,c.1,z2,z1.mono s2,hj,q _ _ (s1.trans s2) qJ⟩
  ·cases h
 | lst xs =>
  simp only[e1]at h;have h:(if xs.all (bv 12)&&bv 12 ra.val then(xs.findIdx? fun y=>eS y ra.val).map fun j=>sc (.int (j:Nat))else none)=some r:=h
  split at h
  ·rename_i c
   rw[Iu]at c;obtain⟨j,hj,rfl⟩:=wn h;intro O σ H Q R q;refine we (oV PySem.F.plainAttrs_list PySem.F.slot_list_index PySem.F.type_list_index (uQ (Hi:=Hi) hu) af (aZ af bC (aO hs)) hbase (by rw[aO hs];rfl) hl (aO hs) rfl) ?_;refine h0 O σ H _ R fun u H1 s1 r1=> ?_;have z1:=r1.val R s1;rw[e1]at z1;obtain⟨t,ws,rfl,_,lt,rr⟩:=Rp.lst.mp z1;refine⟨?_,ha O σ H1 _ (R.ext s1) fun v H2 s2 r2=> ?_⟩
   ·exact .inl ⟨rfl,_,lt⟩
   ·have z2:=(r2.back s1).val R (s1.trans s2)
    exact⟨ra.val,xs,v,j,rfl,c.2,c.1,z2,z1.mono s2,hj,q _ _ (s1.trans s2) qJ⟩
  ·cases h
 | _=>simp only[e1]at h;cases h
end
end IR
namespace IR
open PySem PySem.Spec PyProof.Rows L2
section
variable{X:Cx}{Hi:Hp}{τ:En}
noncomputable def WI(X:Cx)(tg iter:Expr)(σ:L2.St)(H:Hp)(R:It->Hp->Prop):Prop:=∃wi,PI X tg iter wi/\wi σ H R
theorem zI{tg iter:Expr}:PI X tg iter (fun σ H R=>WI X tg iter σ H R):=fun pins s σ H R I ⟨wi,h,q⟩=>h pins s σ H R I q
noncomputable def rP(O:List Addr)(H:Hp):Prop:=∀l∈O,∃o,H l=some o/\Mo o
theorem ao.lsts{K:W.Frag}{O:List Addr}{σ:L2.St}{H:Hp}(R:ao K Hi O τ σ H):rP O H:=fun l hl=>(R.own l hl).2
noncomputable def A1(B:Hp)(H:Hp)(O:List Addr):Prop:=rP O H/\aE B (aX H O)
noncomputable def OkB(B:Hp)(H:Hp)(O:List Addr):Prop:=rP O H/\aE B H
theorem rP.tups{O:List Addr}{H:Hp}(h:rP O H):rN H (aX H O):=by
 refine gv.tups fun l hl=> ?_;obtain⟨us,e,mo⟩:=h l hl;exact mo.noTup e
variable(X Hi)in
structure ij(J:It)(Ok:Hp->List Addr->Prop)(xs:List PV)(n:Bool):Prop where
 go:∀(H:Hp)(O:List Addr)(i:Nat),Ok H O->i<xs.length->J.go i H
 stop:∀(H:Hp)(O:List Addr),Ok H O->J.stop xs.length H
 yld:∀(H:Hp)(O:List Addr)(i:Nat)(u:V)(H' :Hp),Ok H O->i<xs.length->J.yld i H u H' ->aE H H' /\∃x,xs[i]? =some x/\Rp X.K Hi n x (aX H' O) u
variable(X Hi τ)in
noncomputable def lI(tg iter:Expr)(xs:List PV)(n b:Bool):Prop:=∀(O:List Addr)(σ:L2.St)(H:Hp)(R:It->Hp->Prop),ao X.K Hi O τ σ H ->
 (∀J H1,aE H H1->ij X Hi J (if b=true then OkB H1 else A1 (aX H1 O)) xs n->R J H1)->WI X tg iter σ H R
theorem Be{B:Hp}{p:Addr}{us:List V}{xs:List PV}{n:Bool}(l:bN X.K B p us)(r:aJ X.K Hi n xs B us):ij X Hi (FJ X.K p) (A1 B) xs n where
 go:=fun H O i ok hi=>⟨us,us[i]'(by rw[<- r.len];exact hi),(ok.2.trans aY).seq l,by simp⟩
 stop:=fun H O ok=>⟨us,(ok.2.trans aY).seq l,by rw[r.len];exact Io _⟩
 yld:=fun H O i u H' ok hi y=>by
  obtain⟨e,y⟩:=y;subst e;obtain⟨x,h1,h2⟩:=r.at' (y us ((ok.2.trans aY).seq l));exact⟨aE.refl _,x,h1,h2.mono ok.2⟩
theorem HW{B:Hp}{p:Addr}{us:List V}{xs:List PV}{n:Bool}(l:bw X.K B p us)(r:aJ X.K Hi n xs B us):ij X Hi (Itt X.K p) (A1 B) xs n where
 go:=fun H O i ok hi=>⟨us,us[i]'(by rw[<- r.len];exact hi),(ok.2.trans aY).tup l,by simp⟩
 stop:=fun H O ok=>⟨us,(ok.2.trans aY).tup l,by rw[r.len];exact Io _⟩
 yld:=fun H O i u H' ok hi y=>by
  obtain⟨e,y⟩:=y;subst e;obtain⟨x,h1,h2⟩:=r.at' (y us ((ok.2.trans aY).tup l));exact⟨aE.refl _,x,h1,h2.mono ok.2⟩
theorem Dy{B:Hp}{p:Addr}{us:List V}{xs:List PV}{n m:Bool}(l:bN X.K B p us)(r:aJ X.K Hi m xs B us)(im:imms xs=true):ij X Hi (FJ X.K p) (OkB B) xs n where
 go:=fun H O i ok hi=>⟨us,us[i]'(by rw[<- r.len];exact hi),ok.2.seq l,by simp⟩
 stop:=fun H O ok=>⟨us,ok.2.seq l,by rw[r.len];exact Io _⟩
 yld:=fun H O i u H' ok hi y=>by
  obtain⟨e,y⟩:=y;subst e;have r2:aJ X.K Hi n xs (aX H' O) us:=aJ.imm im ok.1.tups (r.mono ok.2);obtain⟨x,h1,h2⟩:=r2.at' (y us (ok.2.seq l));exact⟨aE.refl _,x,h1,h2⟩
theorem Dx{B:Hp}{p:Addr}{us:List V}{xs:List PV}{n m:Bool}(l:bw X.K B p us)(r:aJ X.K Hi m xs B us)(im:imms xs=true):ij X Hi (Itt X.K p) (OkB B) xs n where
 go:=fun H O i ok hi=>⟨us,us[i]'(by rw[<- r.len];exact hi),ok.2.tup l,by simp⟩
 stop:=fun H O ok=>⟨us,ok.2.tup l,by rw[r.len];exact Io _⟩
 yld:=fun H O i u H' ok hi y=>by
  obtain⟨e,y⟩:=y;subst e;have r2:aJ X.K Hi n xs (aX H' O) us:=aJ.imm im ok.1.tups (r.mono ok.2);obtain⟨x,h1,h2⟩:=r2.at' (y us (ok.2.tup l));exact⟨aE.refl _,x,h1,h2⟩
theorem cA(z:Str):(signs z).length=z.cps.size:=by unfold signs;rw[Ik,Jd]
theorem signs_at{z:Str}{i:Nat}{c:Nat}(h:z.cps[i]? =some c):(signs z)[i]? =some (.str ⟨#[c]⟩):=by
 unfold signs;rw[Iy,Ko,h];rfl
theorem HX{B:Hp}{z:Str}{n:Bool}:ij X Hi (Ib z) (A1 B) (signs z) n where
 go:=fun H O i ok hi=>by rw[cA]at hi;exact hi
 stop:=fun H O ok=>by show(signs z).length=z.cps.size;exact cA z
 yld:=fun H O i u H' ok hi y=>by
  obtain⟨e,c,hc,rfl⟩:=y;subst e;exact⟨aE.refl _,_,signs_at hc,Rp.str.mpr rfl⟩
theorem tJ{B:Hp}{lo:Int}{k:Nat}{n:Bool}:ij X Hi (Ic lo k) (A1 B) ((List.range k).map fun i=>.int (lo+(i:Nat))) n where
 go:=fun H O i ok hi=>by show i<k;simpa using hi
 stop:=fun H O ok=>by show k<=_;simp
 yld:=fun H O i u H' ok hi y=>by
  obtain⟨e,rfl⟩:=y;subst e;have hi:i<k:=by simpa using hi
  exact⟨aE.refl _,_,by rw[Iy,Jk hi];rfl,Rp.int.mpr rfl⟩
theorem xc{B:Hp}{lo c:Int}{k:Nat}{n:Bool}:ij X Hi (Itc lo c k) (A1 B) ((List.range k).map fun i=>.int (lo+(i:Nat)*c)) n where
 go:=fun H O i ok hi=>by show i<k;simpa using hi
 stop:=fun H O ok=>by show _=k;simp
 yld:=fun H O i u H' ok hi y=>by
  obtain⟨e,rfl⟩:=y;subst e;have hi:i<k:=by simpa using hi
  exact⟨aE.refl _,_,by rw[Iy,Jk hi];rfl,Rp.int.mpr rfl⟩
theorem CP{tg e:Expr}{r:RV}{xs:List PV}{n b:Bool}(he:aI X Hi τ e r)(h:ia r=some (xs,n,b)):lI X Hi τ tg e xs n b:=by
 intro O σ H R Rl q;cases r with
 | frz v m =>
  cases v with
  | str z =>
   cases h;refine⟨_,Cm af,?_⟩;exact he O σ H _ Rl fun u H1 s1 r1=>⟨z,r1.str Rl s1 rfl,q _ _ s1 HX⟩
  | lst ys =>
   cases h;refine⟨_,gZ af,?_⟩;refine he O σ H _ Rl fun u H1 s1 r1=> ?_;obtain⟨p,us,rfl,_,l,r⟩:=Rp.lst.mp (show Rp X.K Hi n (.lst xs) (aX H1 O) u from r1);exact⟨p,rfl,⟨us,(aY (O:=O)).seq l⟩,q _ _ s1 (Be l (r.mono bM))⟩
  | tup ys =>
   cases h;refine⟨_,wJ af,?_⟩;refine he O σ H _ Rl fun u H1 s1 r1=> ?_;obtain⟨p,us,rfl,l,r⟩:=Rp.tup.mp (show Rp X.K Hi n (.tup xs) (aX H1 O) u from r1);exact⟨p,rfl,⟨us,(aY (O:=O)).tup l⟩,q _ _ s1 (HW l r)⟩
  | _=>cases h
 | bor v =>
  cases v with
  | lst ys =>
   have h:(if imms ys then some (ys,true,true)else none)=some (xs,n,b):=h
   split at h
   ·rename_i im
    cases h;refine⟨_,gZ af,?_⟩;refine he O σ H _ Rl fun u H1 s1 r1=> ?_;obtain⟨p,us,rfl,_,l,r⟩:=Rp.lst.mp (show Rp X.K Hi false (.lst xs) H1 u from r1);exact⟨p,rfl,⟨us,l⟩,q _ _ s1 (Dy l (r.mono bM) im)⟩
   ·cases h
  | tup ys =>
   have h:(if imms ys then some (ys,true,true)else none)=some (xs,n,b):=h
   split at h
   ·rename_i im
    cases h;refine⟨_,wJ af,?_⟩;refine he O σ H _ Rl fun u H1 s1 r1=> ?_;obtain⟨p,us,rfl,l,r⟩:=Rp.tup.mp (show Rp X.K Hi false (.tup xs) H1 u from r1);exact⟨p,rfl,⟨us,l⟩,q _ _ s1 (Dx l r im)⟩
   ·cases h
  | _=>cases h
 | owd bd ys m=>cases h
 | own ys m =>
  cases h;refine⟨_,gZ af,?_⟩;refine he O σ H _ Rl fun u H1 s1 r1=> ?_;obtain⟨p,us,rfl,h0,h1,r⟩:=r1;have hl:aX H1 O p=some (.lst us):=by
   unfold aX;rw[Iq fun z=> ?_]
   ·exact h1
   ·obtain⟨vs,e',_⟩:=(Rl.own p z).2
    rw[h0]at e';cases e'
  exact⟨p,rfl,⟨us,bN.of h1⟩,q _ _ s1 (Be (bN.of hl) (r.mono (aL bM)))⟩
theorem CY{cd:Nat->List PV->Option PV}{ct:Ct}(C:bX cd X ct){tg:Expr}{es:List Expr}{p pos:Pos}{rs:List RV}{xs:List PV}(ho:own ct ("range":Str)=true)(hs:∀a∈es,isStar a=false)(ha:na X Hi τ es rs)(hl:es.length=rs.length)(h:io rs=some xs) :
  lI X Hi τ tg (.Call (.Name "range" p) es [] pos) xs true false:=by
 intro O σ H R Rl q;obtain⟨g,hm⟩:=fI C ho;unfold io at h
 split at h
 ·rename_i ra
  cases e:ra.val with
  | int j =>
   simp only[e]at h
   split at h
   ·rename_i c
    cases h
    match es,hl with
    | [a],_ =>
     refine⟨_,uH g hm oX (aO (hs a (by simp))),?_⟩;refine ha O σ H _ Rl fun us H1 s1 r1=> ?_;obtain⟨u,vs,rfl,r2,z⟩:=r1;cases z;exact⟨j,by rw[r2.int Rl s1 e],c.1,c.2,q _ _ s1 tJ⟩
   ·cases h
  | _=>simp only[e]at h;cases h
 ·rename_i ra rb
  cases e:ra.val with
  | int i =>
   cases e2:rb.val with
   | int j =>
    simp only[e,e2]at h
    split at h
    ·rename_i c
     cases h
     match es,hl with
     | [a,b],_ =>
      have h1:starEach [a,b] X.env=[(false,eval a X.env),(false,eval b X.env)]:=by rw[aO (hs a (by simp)),aO (hs b (by simp))];rfl
      refine⟨_,uG g hm oX h1 (aO (hs b (by simp))),?_⟩;refine ha O σ H _ Rl fun us H1 s1 r1=> ?_;obtain⟨u,vs,rfl,r2,u2,vs2,rfl,r3,z⟩:=r1;cases z;exact⟨i,j,by rw[r2.int Rl s1 e,r3.int Rl s1 e2],c,q _ _ s1 tJ⟩
    ·cases h
   | _=>simp only[e,e2]at h;cases h
  | _=>simp only[e]at h;cases h
 ·rename_i ra rb rc
  cases e:ra.val with
  | int i =>
   cases e2:rb.val with
   | int j =>
    cases e3:rc.val with
    | int k =>
     simp only[e,e2,e3]at h
     split at h
     ·rename_i c
      cases h
      match es,hl with
      | [a,b,d],_ =>
       refine⟨_,uF g hm oX (aO (hs a (by simp))) (ef fun z hz=>hs z (by simp at hz ⊢;rcases hz with rfl|rfl<;>simp)),?_⟩;refine ha O σ H _ Rl fun us H1 s1 r1=> ?_;obtain⟨u,vs,rfl,r2,u2,vs2,rfl,r3,u3,vs3,rfl,r4,z⟩:=r1;cases z;exact⟨i,j,k,by rw[r2.int Rl s1 e,r3.int Rl s1 e2,r4.int Rl s1 e3],c.1,c.2.1,c.2.2,q _ _ s1 xc⟩
     ·cases h
    | _=>simp only[e,e2,e3]at h;cases h
   | _=>simp only[e,e2]at h;cases h
  | _=>simp only[e]at h;cases h
 ·cases h
theorem nB{O:List Addr}{σ:L2.St}{H H1:Hp}{r:RV}{xs:List PV}{n:Bool}{u:V}(R:ao X.K Hi O τ σ H)(s:aE H H1)(h:uT r=some (xs,n))(ok:ae X.K Hi O H H1 r u):∃p us,u=.ref p/\bN X.K (aX H1 O) p us/\aJ X.K Hi n xs (aX H1 O) us:=by
 cases r with
 | frz v m =>
  cases v with
  | lst ys =>
   cases h;obtain⟨p,us,rfl,_,l,r⟩:=Rp.lst.mp (show Rp X.K Hi n (.lst xs) (aX H1 O) u from ok);exact⟨p,us,rfl,l,r.mono bM⟩
  | _=>cases h
 | bor v=>cases h
 | owd bd ys m=>cases h
 | own ys m =>
  cases h;obtain⟨p,us,rfl,h0,h1,r⟩:=ok;have hl:aX H1 O p=some (.lst us):=by
   unfold aX;rw[Iq fun z=> ?_]
   ·exact h1
   ·obtain⟨vs,e',_⟩:=(R.own p z).2
    rw[h0]at e';cases e'
  exact⟨p,us,rfl,bN.of hl,r.mono (aL bM)⟩
theorem jB{O:List Addr}{H:Hp}{p:Addr}{us:List V}{xs:List PV}{n:Bool}(l:rP O H)(hp:H p=none)(r:aJ X.K Hi n xs (aX H O) us):Rp X.K Hi n (.tup xs) (aX (L2.upd H p (.tup us)) O) (.ref p):=by
 refine Rp.tup.mpr ⟨p,us,rfl,bw.of ?_,r.mono (aL (aU hp _))⟩;unfold aX;rw[Iq fun z=> ?_]
 ·exact aK
 ·obtain⟨us,e,_⟩:=l p z
  rw[e]at hp;cases hp
theorem Bl{cd:Nat->List PV->Option PV}{ct:Ct}(C:bX cd X ct){ts:List Expr}{kt:Nat}{tpos:Pos}{a b:Expr}{p pos:Pos}{ra rb:RV}{xs:List PV}{n:Bool}(ho:own ct ("zip":Str)=true)(hs:isStar a=false)(hs2:isStar b=false)(ha:aI X Hi τ a ra)(hb:aI X Hi τ b rb)(h:vH ra rb=some (xs,n)) :
  lI X Hi τ (.Tuple ts kt tpos) (.Call (.Name "zip" p) [a,b] [] pos) xs n false:=by
 intro O σ H R Rl q;obtain⟨g,hm⟩:=fI C ho;unfold vH at h
 split at h
 ·rename_i ys n1 zs n2 e1 e2
  split at h
  ·rename_i hlen
   cases h;refine⟨_,Ck g hm (aZ af (aZ af bC (aO hs2)) (aO hs)) (aO hs) (ef fun c hc=>by simp at hc;subst hc;exact hs2),?_⟩;refine ha O σ H _ Rl fun u H1 s1 r1=>hb O σ H1 _ (Rl.ext s1) fun v H2 s2 r2=> ?_;obtain⟨p1,us,rfl,l1,q1⟩:=nB Rl (s1.trans s2) e1 (r1.ext s2);obtain⟨p2,vs,rfl,l2,q2⟩:=nB Rl (s1.trans s2) e2 (r2.back s1);refine⟨p1,p2,us,vs,rfl,(aY (O:=O)).seq l1,(aY (O:=O)).seq l2,q _ _ (s1.trans s2) ?_⟩;have z1:=q1.len;have z2:=q2.len;have zl:(List.zipWith sM ys zs).length=us.length:=by rw[Kj,<-hlen,Kz];exact z1
   refine⟨fun G P i ok hi=> ?_,fun G P ok=> ?_,fun G P i w G' ok hi y=> ?_⟩
   ·rw[zl]at hi
    exact⟨us,vs,us[i],vs[i]'(by omega),(ok.2.trans aY).seq l1,(ok.2.trans aY).seq l2,by simp,by simp⟩
   ·exact⟨us,vs,(ok.2.trans aY).seq l1,(ok.2.trans aY).seq l2,.inl (by rw[zl];exact Io _)⟩
   ·rw[zl]at hi
    obtain⟨p3,hp3,rfl,y⟩:=y;have e:=y us vs us[i] (vs[i]'(by omega)) ((ok.2.trans aY).seq l1) ((ok.2.trans aY).seq l2) (by simp) (by simp);subst e;obtain⟨x1,hx1,rx1⟩:=q1.at' (i:=i) (u:=us[i]) (by simp);obtain⟨x2,hx2,rx2⟩:=q2.at' (i:=i) (u:=vs[i]'(by omega)) (by simp);refine⟨aU hp3 _,sM x1 x2,by rw[KF,hx1,hx2],jB ok.1 hp3 (.cons ((rx1.mono ok.2).low fun z=> ?_) (.cons ((rx2.mono ok.2).low fun z=> ?_) .nil))⟩
    ·rw[Iu]at z;exact z.1
    ·rw[Iu]at z;exact z.2
  ·cases h
 ·cases h
theorem AK{cd:Nat->List PV->Option PV}{ct:Ct}(C:bX cd X ct){ts:List Expr}{kt:Nat}{tpos:Pos}{a:Expr}{p pos:Pos}{ra:RV}{xs:List PV}{n:Bool}(ho:own ct ("enumerate":Str)=true)(hs:isStar a=false)(ha:aI X Hi τ a ra)(h:mJ ra=some (xs,n)) :
  lI X Hi τ (.Tuple ts kt tpos) (.Call (.Name "enumerate" p) [a] [] pos) xs n false:=by
 intro O σ H R Rl q;obtain⟨g,hm⟩:=fI C ho;unfold mJ at h
 split at h
 ·rename_i z m
  cases h;refine⟨_,wL g hm (aZ af bC (aO hs)) (aO hs),?_⟩;refine ha O σ H _ Rl fun u H1 s1 r1=>⟨z,by rw[r1.str Rl s1 rfl],q _ _ s1 ?_⟩;have zl:(List.zipWith eC (List.range z.length) (signs z)).length=z.length:=by rw[Kj,cA,JU];exact Kz _
  have hsl:(cD z).length=z.length:=je z;refine⟨fun G P i ok hi=> ?_,fun G P ok=> ?_,fun G P i w G' ok hi y=> ?_⟩
  ·rw[zl]at hi
   exact⟨_,(cD z)[i]'(by omega),rfl,by simp⟩
  ·exact⟨_,rfl,by rw[zl,hsl]⟩
  ·rw[zl]at hi
   obtain⟨p3,hp3,rfl,y⟩:=y;have hz:i<z.cps.size:=hi;obtain⟨c,hc⟩:∃c,z.cps[i]? =some c:=⟨z.cps[i],by simp[hz]⟩;have hv:(cD z)[i]? =some (.str ⟨#[c]⟩):=by
    unfold cD;rw[Iy,Ko,hc];rfl
   have e:=y _ (.str ⟨#[c]⟩) rfl hv;subst e;refine⟨aU hp3 _,eC i (.str ⟨#[c]⟩),by rw[KF,signs_at hc,Jk hi],jB ok.1 hp3 (.cons (Rp.int.mpr rfl) (.cons (Rp.str.mpr rfl) .nil))⟩
 ·rename_i ys m
  cases h;refine⟨_,wK g hm (aZ af bC (aO hs)) (aO hs),?_⟩;refine ha O σ H _ Rl fun u H1 s1 r1=> ?_;obtain⟨p1,us,rfl,l,r⟩:=Rp.tup.mp (show Rp X.K Hi n (.tup ys) (aX H1 O) u from r1);refine⟨p1,us,rfl,(aY (O:=O)).tup l,q _ _ s1 ?_⟩;have zl:(List.zipWith eC (List.range ys.length) ys).length=ys.length:=by rw[Kj,JU];exact Kz _
  have hsl:=r.len;refine⟨fun G P i ok hi=> ?_,fun G P ok=> ?_,fun G P i w G' ok hi y=> ?_⟩
  ·rw[zl]at hi
   exact⟨us,us[i]'(by omega),(ok.2.trans aY).tup l,by simp⟩
  ·exact⟨us,(ok.2.trans aY).tup l,by rw[zl,hsl]⟩
  ·rw[zl]at hi
   obtain⟨p3,hp3,rfl,y⟩:=y;have hv:us[i]? =some (us[i]'(by omega)):=by simp
   have e:=y us _ ((ok.2.trans aY).tup l) hv;subst e;obtain⟨x1,hx1,rx1⟩:=r.at' hv;exact⟨aU hp3 _,eC i x1,by rw[KF,hx1,Jk hi],jB ok.1 hp3 (.cons (Rp.int.mpr rfl) (.cons (rx1.mono ok.2) .nil))⟩
 ·split at h
  ·rename_i ys m e1
   cases h;refine⟨_,oS g hm (aZ af bC (aO hs)) (aO hs),?_⟩;refine ha O σ H _ Rl fun u H1 s1 r1=> ?_;obtain⟨p1,us,rfl,l,r⟩:=nB Rl s1 e1 r1;refine⟨p1,us,rfl,(aY (O:=O)).seq l,q _ _ s1 ?_⟩;have zl:(List.zipWith eC (List.range ys.length) ys).length=ys.length:=by rw[Kj,JU];exact Kz _
   have hsl:=r.len;refine⟨fun G P i ok hi=> ?_,fun G P ok=> ?_,fun G P i w G' ok hi y=> ?_⟩
   ·rw[zl]at hi
    exact⟨us,us[i]'(by omega),(ok.2.trans aY).seq l,by simp⟩
   ·exact⟨us,(ok.2.trans aY).seq l,by rw[zl,hsl]⟩
   ·rw[zl]at hi
    obtain⟨p3,hp3,rfl,y⟩:=y;have hv:us[i]? =some (us[i]'(by omega)):=by simp
    have e:=y us _ ((ok.2.trans aY).seq l) hv;subst e;obtain⟨x1,hx1,rx1⟩:=r.at' hv;exact⟨aU hp3 _,eC i x1,by rw[KF,hx1,Jk hi],jB ok.1 hp3 (.cons (Rp.int.mpr rfl) (.cons (rx1.mono ok.2) .nil))⟩
  ·cases h
theorem iB{N:List Str}:∀{xs:List Str}{is:List Nat},slots N xs=some is->xs.length=is.length
 | [],is,h=>by cases h;rfl
 | x::xs,is,h=>by
  unfold slots at h;cases e:slot N x with
  | none=>rw[e]at h;cases h
  | some i =>
   rw[e]at h;cases e2:slots N xs with
   | none=>simp[e2]at h
   | some js =>
    simp[e2]at h;subst h;simp[iB e2]
theorem oC{N:List Str}:∀{xs:List Str}{is:List Nat}{j i:Nat},slots N xs=some is->is[j]? =some i->∃x,xs[j]? =some x/\N[i]? =some x
 | [],is,j,i,h,hj=>by cases h;simp at hj
 | x::xs,is,j,i,h,hj=>by
  unfold slots at h;cases e:slot N x with
  | none=>rw[e]at h;cases h
  | some i0 =>
   rw[e]at h;cases e2:slots N xs with
   | none=>simp[e2]at h
   | some js =>
    simp[e2]at h;subst h;cases j with
    | zero =>
     simp at hj;subst hj;exact⟨x,by simp,ed e⟩
    | succ j=>simpa using oC e2 (by simpa using hj)
theorem jw{ct:Ct}{t:Str}{scope:Scope}(h:uV ct t scope=true):scope.kind=.function/\(∀y∈scope.names,y.2=.cell->scope.names.lookup y.1=some .cell)/\(∀y∈scope.names,y.2=.local->scope.names.lookup y.1=some .local) /\
  (∀y∈scope.names,y.2=.free->(ct.S.lookup y.1=some .cell\/ct.S.lookup y.1=some .free))/\(t::frees scope).Nodup/\(scope.names.lookup t=some .local\/scope.names.lookup t=some .cell)/\∀x∈frees scope,scope.names.lookup x=some .free:=by
 unfold uV at h;simp only[Iu]at h;obtain⟨⟨⟨⟨⟨⟨h1,h2⟩,h3⟩,h4⟩,h5⟩,h6⟩,h7⟩:=h;refine⟨JN h1,fun y hy e=> ?_,fun y hy e=> ?_,fun y hy e=> ?_,Jy h5,by simpa using h6,fun x hx=> ?_⟩
 ·have:=JJ.mp h2 y hy
  rw[e]at this
  simpa using this
 ·have:=JJ.mp h3 y hy
  rw[e]at this
  simpa using this
 ·have:=JJ.mp h4 y hy
  rw[e]at this
  simpa using this
 ·have:=JJ.mp h7 x hx
  simpa using this
theorem gX{env:Env}:∀{names:List (Str×NameKind)}{x:Str},names.lookup x=some .cell ->
  (names.map fun(n,k)=>if(k==NameKind.free&&env.scope.kind== .function&&env.kindOf n==some .cell)then(n,NameKind.cell)else(n,k)).lookup x=some .cell
 | [],_,h=>by simp at h
 | (n,k)::r,x,h=>by
  have ih:= @gX env r x;show List.lookup x ((if(k==NameKind.free&&env.scope.kind== .function&&env.kindOf n==some .cell)=true then(n,NameKind.cell)else(n,k))::_)=_;cases hx:x==n with
  | true =>
   simp only[JY,hx]at h;cases h;rw[Iq (by simp)];simp only[JY,hx]
  | false =>
   simp only[JY,hx]at h
   by_cases hc:(k==NameKind.free&&env.scope.kind== .function&&env.kindOf n==some .cell)=true
   ·rw[Ix hc];simp only[JY,hx];exact ih h
   ·rw[Iq hc];simp only[JY,hx];exact ih h
theorem mf{N' :List Str}{scope:Scope}{Cf:Addr}{s2:Shared}{H2:Hp}{fp:List Addr}{cl:List (Str×Addr)}{t:Str}(h:scope.names.lookup t=some .local\/scope.names.lookup t=some .cell):L2.Loc (bH X N' scope Cf s2 H2 fp cl).env.scope t:=by
 rcases h with h|h
 ·exact .inl (lookup_relabel_local h)
 ·exact .inr (gX h)
theorem qF{N' :List Str}{scope:Scope}{Cf:Addr}{s2:Shared}{H2:Hp}{fp:List Addr}{cl:List (Str×Addr)}{t:Str}(h:scope.names.lookup t=some .local\/scope.names.lookup t=some .cell):(bH X N' scope Cf s2 H2 fp cl).fn t=true\/(bH X N' scope Cf s2 H2 fp cl).env.scope.names.lookup t=some .local:=by
 rcases h with h|h
 ·exact .inr (lookup_relabel_local h)
 ·left
  show(scope.names.lookup t==some .cell)=true;rw[h];rfl
theorem bX.blk{cd:Nat->List PV->Option PV}{ct:Ct}(C:bX cd X ct){t:Str}{scope:Scope}(h:uV ct t scope=true)(Cf:Addr)(s2:Shared)(H2:Hp)(fp:List Addr)(cl:List (Str×Addr)):bX cd (bH X (t::frees scope) scope Cf s2 H2 fp cl) (blk ct t scope):=by
 obtain⟨h1,h2,h3,h4,h5,h6,h7⟩:=jw h;refine⟨rfl,h5,?_,h1,C.calm,C.glob,C.bl,C.fns,LH,C.un⟩;show(scope.names.map fun(n,k)=>if(k==NameKind.free&&X.env.scope.kind== .function&&X.env.kindOf n==some .cell)then(n,NameKind.cell)else(n,k))=lg ct.S scope.names;unfold lg;refine Jj fun y hy=> ?_;obtain⟨n,k⟩:=y;have e:(X.env.scope.kind==ScopeKind.function)=true:=by rw[C.kind];rfl
 have e2:X.env.kindOf n=ct.S.lookup n:=by
  show X.env.scope.names.lookup n=_;rw[C.S]
 dsimp only;rw[e,e2]
theorem iI{ct:Ct}{t t2:Str}{scope:Scope}(h:lx ct t t2 scope=true):scope.kind=.function/\(∀y∈scope.names,y.2=.cell->scope.names.lookup y.1=some .cell)/\(∀y∈scope.names,y.2=.local->scope.names.lookup y.1=some .local) /\
  (∀y∈scope.names,y.2=.free->(ct.S.lookup y.1=some .cell\/ct.S.lookup y.1=some .free))/\(t::t2::frees scope).Nodup/\(scope.names.lookup t=some .local\/scope.names.lookup t=some .cell)/\(scope.names.lookup t2=some .local\/scope.names.lookup t2=some .cell)/\∀x∈frees scope,scope.names.lookup x=some .free:=by
 unfold lx at h;simp only[Iu]at h;obtain⟨⟨⟨⟨⟨⟨⟨h1,h2⟩,h3⟩,h4⟩,h5⟩,h6⟩,h8⟩,h7⟩:=h;refine⟨JN h1,fun y hy e=> ?_,fun y hy e=> ?_,fun y hy e=> ?_,Jy h5,by simpa using h6,by simpa using h8,fun x hx=> ?_⟩
 ·have:=JJ.mp h2 y hy
  rw[e]at this
  simpa using this
 ·have:=JJ.mp h3 y hy
  rw[e]at this
  simpa using this
 ·have:=JJ.mp h4 y hy
  rw[e]at this
  simpa using this
 ·have:=JJ.mp h7 x hx
  simpa using this
theorem bX.blk2{cd:Nat->List PV->Option PV}{ct:Ct}(C:bX cd X ct){t t2:Str}{scope:Scope}(h:lx ct t t2 scope=true)(Cf:Addr)(s2:Shared)(H2:Hp)(fp:List Addr)(cl:List (Str×Addr)):bX cd (bH X (t::t2::frees scope) scope Cf s2 H2 fp cl) (blk2 ct t t2 scope):=by
 obtain⟨h1,h2,h3,h4,h5,h6,h8,h7⟩:=iI h;refine⟨rfl,h5,?_,h1,C.calm,C.glob,C.bl,C.fns,LH,C.un⟩;show(scope.names.map fun(n,k)=>if(k==NameKind.free&&X.env.scope.kind== .function&&X.env.kindOf n==some .cell)then(n,NameKind.cell)else(n,k))=lg ct.S scope.names;unfold lg;refine Jj fun y hy=> ?_;obtain⟨n,k⟩:=y;have e:(X.env.scope.kind==ScopeKind.function)=true:=by rw[C.kind];rfl
 have e2:X.env.kindOf n=ct.S.lookup n:=by
  show X.env.scope.names.lookup n=_;rw[C.S]
 dsimp only;rw[e,e2]
theorem jc{cd:Nat->List PV->Option PV}{ct:Ct}(C:bX cd X ct){scope:Scope}:∀{xs:List Str}{caps:List Nat},slots ct.N xs=some caps->(∀x∈xs,scope.names.lookup x=some .free/\(ct.S.lookup x=some .cell\/ct.S.lookup x=some .free))->bQ X scope xs (caps.map some)
 | [],caps,h,_=>by cases h;exact True.intro
 | x::xs,caps,h,k=>by
  unfold slots at h;cases e:slot ct.N x with
  | none=>rw[e]at h;cases h
  | some i0 =>
   rw[e]at h;cases e2:slots ct.N xs with
   | none=>simp[e2]at h
   | some js =>
    simp[e2]at h;subst h;obtain⟨k1,k2⟩:=k x Ip;exact⟨⟨by rw[C.N];exact ed e,k1,by rw[C.S];exact k2⟩,jc C e2 fun y hy=>k y (Im _ hy)⟩
theorem wY{t:TV}{x:Bd×List PV×Bool}(h:t.ob=some x):t≠.un:=fun e=>by subst e;cases h
theorem ao.block{K:W.Frag}{O:List Addr}{σ:L2.St}{H:Hp}{caps:List Nat}{x:PV}{n:Bool}{u:V}(R:ao K Hi O τ σ H)(nd:caps.Nodup)(r:Rp K Hi n x (aX H O) u) :
  ao K Hi O (.frz x n::caps.map fun i=>τ.getD i .un) (some u::bO (caps.map some) σ) H:=by
 have hτ:∀(j:Nat)(v:TV),(caps.map fun i=>τ.getD i .un)[j]? =some v->v≠.un->∃i,caps[j]? =some i/\τ[i]? =some v:=fun j v e hv=>by
  rw[Iy]at e;cases ec:caps[j]? with
  | none=>rw[ec]at e;cases e
  | some i =>
   rw[ec]at e;refine⟨i,rfl,?_⟩;have e:τ.getD i .un=v:=JF e;rw[JG]at e;cases et:τ[i]? with
   | none=>rw[et]at e;exact absurd e.symm hv
   | some w=>rw[et]at e;exact Je some e
 have hσ:∀(j i:Nat),caps[j]? =some i->(bO (caps.map some) σ)[j]? =some ((σ[i]?).join):=fun j i e=>by
  unfold bO;rw[Iy,Iy,e];rfl
 refine⟨R.same,R.own,fun j v m e=> ?_,fun j t bd ys m e ht=> ?_,fun a b t t' x1 y1 l e1 ht e2 ht' h1 h2=> ?_⟩
 ·cases j with
  | zero =>
   simp at e;obtain⟨rfl,rfl⟩:=e;exact⟨u,by simp,r⟩
  | succ j =>
   obtain⟨i,h1,h2⟩:=hτ j _ (by simpa using e) (by simp);obtain⟨w,h3,h4⟩:=R.frz i v m h2;exact⟨w,by rw[J8,hσ j i h1,h3];rfl,h4⟩
 ·cases j with
  | zero =>
   simp at e;subst e;cases ht
  | succ j =>
   obtain⟨i,h1,h2⟩:=hτ j _ (by simpa using e) (wY ht);obtain⟨l,us,o,h3,h4⟩:=R.obs i t bd ys m h2 ht;exact⟨l,us,o,by rw[J8,hσ j i h1,h3];rfl,h4⟩
 ·cases a with
  | zero =>
   simp at e1;subst e1;cases ht
  | succ a =>
   cases b with
   | zero =>
    simp at e2;subst e2;cases ht'
   | succ b =>
    obtain⟨i,c1,c2⟩:=hτ a _ (by simpa using e1) (wY ht);obtain⟨j,d1,d2⟩:=hτ b _ (by simpa using e2) (wY ht');rw[J8,hσ a i c1]at h1;rw[J8,hσ b j d1]at h2;obtain⟨b1,xs1,n1⟩:=x1;obtain⟨b2,xs2,n2⟩:=y1;obtain⟨l1,us1,o1,g1,_⟩:=R.obs i t b1 xs1 n1 c2 ht;obtain⟨l2,us2,o2,g2,_⟩:=R.obs j t' b2 xs2 n2 d2 ht';rw[g1]at h1;rw[g2]at h2;cases h1;cases h2;have e:=R.dst i j t t' _ _ l c2 ht d2 ht' g1 g2;subst e
    congr 1
    have ha:a<caps.length:=(Iw.mp c1).1;have hb:b<caps.length:=(Iw.mp d1).1;have e1:caps[a]=i:=by rw[Iv ha]at c1;exact JF c1
    have e2:caps[b]=i:=by rw[Iv hb]at d1;exact JF d1
    exact(List.getElem_inj nd).mp (e1.trans e2.symm)
theorem fW{N:List Str}:∀{xs:List Str}{caps:List Nat},slots N xs=some caps->xs.Nodup->caps.Nodup
 | [],caps,h,_=>by cases h;exact List.nodup_nil
 | x::xs,caps,h,nd=>by
  unfold slots at h;cases e:slot N x with
  | none=>rw[e]at h;cases h
  | some i0 =>
   rw[e]at h;cases e2:slots N xs with
   | none=>simp[e2]at h
   | some js =>
    simp[e2]at h;subst h;refine Jo.mpr ⟨fun hm=> ?_,fW e2 (Jo.mp nd).2⟩;obtain⟨k,hk⟩:=List.mem_iff_getElem?.mp hm;obtain⟨y,h1,h2⟩:=oC e2 hk;rw[ed e]at h2;cases h2;exact(Jo.mp nd).1 (JL h1)
theorem ao.hide{K:W.Frag}{O:List Addr}{σ:L2.St}{H H' :Hp}{D:Addr}{us:List V}(R:ao K Hi O τ σ H)(s:aE H H')(h0:H D=none)(h1:H' D=some (.lst us)):ao K Hi (D::O) τ σ H' :=by
 have hs:aE (aX H O) (aX H' (D::O)):=fun b o e=>by
  unfold aX at e ⊢
  split at e
  ·cases e
  ·rename_i nb
   have ne:b≠D:=aM e h0;rw[Iq (by simp[ne,nb])];exact s b o e
 refine⟨R.same.trans s,fun l hl=> ?_,fun i v n e=> ?_,fun i t b xs n e ht=> ?_,R.dst⟩
 ·rcases JD.mp hl with rfl|hl
  ·exact⟨R.same.free h0,_,h1,.lst⟩
  ·obtain⟨q,vs,e,mo⟩:=R.own l hl
   exact⟨q,vs,s _ _ e,mo⟩
 ·obtain⟨u,g1,g2⟩:=R.frz i v n e
  exact⟨u,g1,g2.mono hs⟩
 ·obtain⟨l,vs,o,g1,g2,g3,g4,g5⟩:=R.obs i t b xs n e ht
  exact⟨l,vs,o,g1,Im _ g2,s _ _ g3,g4,g5.mono hs⟩
theorem jA{e:Expr}{env:Env}(h:dX e=false):∀x,foldedSetIterable e env x=pure x:=by
 intro x;cases e with
 | Set a b c=>cases h
 | _=>rfl
noncomputable def Hd(cd:Nat->List PV->Option PV)(ifs:Bk)(elt:IE)(n:Bool)(aP:En):PV->Option (Option (PV×Bool)):=fun x=>(iN cd ifs (.frz x (n||imm x)::aP)).bind fun b=>if b then(aW cd elt (.frz x (n||imm x)::aP)).bind fun r=>r.keep.map some else some none
theorem w5{cd:Nat->List PV->Option PV}{ctb:Ct}{Nn:List Str}{pre:List (Option Nat)}{tg iter elt:Expr}{ifs:List Expr}{ifs' :Bk}{elt' :IE}{scope:Scope}{xs:List PV}{n b:Bool}{VS:List PV}{NN:Bool}{CF:PV->Option (Option (PV×Bool))}
  (jE:lI X Hi τ tg iter xs n b) (hz:xs.length<=LN) (hblk:∀(Cf:Addr)(s2:Shared)(H2:Hp)(fp:List Addr)(cl:List (Str×Addr)),bX cd (bH X Nn scope Cf s2 H2 fp cl) ctb)
  (hifs:∀(X' :Cx)(τ' :En)(k:Bool),bX cd X' ctb->iN cd ifs' τ' =some k->∃tt,u8 X' ifs tt/\∀(O:List Addr)(σ:L2.St)(H:Hp)(Q:Bool->Hp->Prop),ao X'.K Hi O τ' σ H->(∀H',aE H H' ->Q k H')->tt σ H Q)
  (helt:∀(X' :Cx)(τ' :En)(r:RV),bX cd X' ctb->aW cd elt' τ' =some r->aI X' Hi τ' elt r)
  (step:∀(O:List Addr)(σ:L2.St)(D:Addr)(x:PV)(r0:Option (PV×Bool))(u:V)(G' :Hp)(Cf:Addr)(s2:Shared)(H2:Hp)(fp:List Addr)(cl:List (Str×Addr)),CF x=some r0->ao X.K Hi (D::O) τ σ G' ->Rp X.K Hi n x (aX G' (D::O)) u ->
   ∃(τx:En)(σx:L2.St)(g:TG),((iN cd ifs' τx).bind fun t=>if t then(aW cd elt' τx).bind fun r=>r.keep.map some else some none)=some r0/\ao X.K Hi (D::O) τx σx G' /\PG (bH X Nn scope Cf s2 H2 fp cl) tg g /\
    ∀K:L2.St->Hp->Prop,K σx G' ->g u (bO pre σ) G' fun σ2 H3=>(σ2.length=Nn.length/\∀(j:Nat)(v:V),(bO pre σ)[j]? =some (some v)->σ2[j]? =some (some v))/\K σ2 H3)
  (hrun:cM CF xs=some (VS,NN)) (O:List Addr) (σ:L2.St) (H:Hp) (Q:VK) (R:ao X.K Hi O τ σ H) (q:∀u H',aE H H' ->ae X.K Hi O H H' (.own VS NN) u->Q u H'):CG X Nn pre scope tg ifs elt (fun σ H R=>WI X tg iter σ H R) σ H Q:=by
 refine jE O σ H _ R fun J H1 s1 En=> ?_;intro D hD;have ok:∀(G:Hp)(ys:List V),aE H1 G->G D=some (.lst ys)->(if b=true then OkB H1 else A1 (aX H1 O)) G (D::O):=by
  intro G ys sG gD;have ls:rP (D::O) G:=fun l hl=>by
   rcases JD.mp hl with rfl|hl
   ·exact⟨_,gD,.lst⟩
   ·obtain⟨us,e,mo⟩:=(R.own l hl).2
    exact⟨us,sG _ _ (s1 _ _ e),mo⟩
  cases b with
  | true=>exact⟨ls,sG⟩
  | false =>
   refine⟨ls,fun c o e=> ?_⟩;unfold aX at e ⊢
   split at e
   ·cases e
   ·rename_i nb
    have ne:c≠D:=aM e hD;rw[Iq (by simp[ne,nb])];exact sG c o e
 refine⟨fun i m ys G=>m=xs.length-i/\i<=xs.length/\aE H1 G/\G D=some (.lst ys)/\ys.length<=i/\∃dn ws mm,cM CF (xs.drop i)=some (ws,mm)/\VS=dn++ws/\(NN=true->mm=true)/\aJ X.K Hi NN dn (aX G (D::O)) ys,
  ⟨xs.length,by simp,JR _,aU hD _,aK,Io _,[],VS,NN,hrun,rfl,id,.nil⟩,?_⟩
 rintro i m ys G ⟨rfl,hi,sG,gD,hyl,dn,ws,mm,hc1,hv,hn,hr⟩
 by_cases hlt:i<xs.length
 ·refine .inr ⟨En.go G (D::O) i (ok G ys sG gD) hlt,fun u G' y=> ?_⟩
  obtain⟨sGG,x,hx,rx⟩:=En.yld G (D::O) i u G' (ok G ys sG gD) hlt y;intro Cf s2 H2 fp cl;have C' :=hblk Cf s2 H2 fp cl;have hd:xs.drop i=x::xs.drop (i+1):=by
   rw[Li hlt];rw[Iv hlt]at hx;rw[JF hx]
  rw[hd]at hc1;unfold cM at hc1;cases hf:CF x with
  | none=>rw[hf]at hc1;cases hc1
  | some r0 =>
   rw[hf]at hc1;cases hcr:cM CF (xs.drop (i+1))with
   | none=>rw[hcr]at hc1;cases hc1
   | some w =>
    obtain⟨ws',mm'⟩:=w;rw[hcr]at hc1;have gD' :G' D=some (.lst ys):=sGG _ _ gD;obtain⟨τx,σx,g,hf,RB,pg,hg⟩:=step O σ D x r0 u G' Cf s2 H2 fp cl hf (R.hide (s1.trans (sG.trans sGG)) (s1.free hD) gD') rx;cases hco:iN cd ifs' τx with
    | none=>rw[hco]at hf;cases hf
    | some k =>
     rw[hco]at hf;obtain⟨tt,ptt,qtt⟩:=hifs _ _ _ C' hco;refine⟨g,tt,_,pg,ptt,af,hg _ ?_⟩;refine qtt (D::O) _ G' _ RB fun G4 s4=> ?_;cases k with
     | false =>
      rw[Iq Ir];have hf:(some none:Option (Option (PV×Bool)))=some r0:=hf;cases hf;cases hc1;exact⟨xs.length-(i+1),by omega,rfl,hlt,sG.trans (sGG.trans s4),s4 _ _ gD',by omega,dn,ws,mm,hcr,hv,hn,hr.mono (aL (sGG.trans s4))⟩
     | true =>
      rw[Ix rfl];have hf:((aW cd elt' τx).bind fun r=>r.keep.map some)=some r0:=hf;cases he:aW cd elt' τx with
      | none=>rw[he]at hf;cases hf
      | some r =>
       rw[he]at hf;have hf:r.keep.map some=some r0:=hf;cases hk:r.keep with
       | none=>rw[hk]at hf;cases hf
       | some vn =>
        obtain⟨v,nv⟩:=vn;rw[hk]at hf;cases hf;have hc1:some (v::ws',nv&&mm')=some (ws,mm):=hc1;cases hc1;refine helt _ _ _ C' he (D::O) _ G4 _ (RB.ext s4) fun w G5 s5 r5=> ?_;have kp:=r5.keep (RB.ext s4) s5 hk;have gD5:=s5 _ _ (s4 _ _ gD');have sT:=sG.trans (sGG.trans (s4.trans s5));have hz' :xs.length<=16777216:=hz;refine⟨gD5,by rw[dQ];omega,xs.length-(i+1),by omega,rfl,hlt,sT.upd hD,aK,by rw[JA];simp;omega,dn++[v],ws',mm',hcr,by rw[hv];simp,fun z=> ?_,?_⟩
        ·have:=hn z
         rw[Iu]at this;exact this.2
        ·have e:aX (L2.upd G5 D (.lst (ys++[w]))) (D::O)=aX G5 (D::O):=by
          funext c
          unfold aX
          split
          ·rfl
          ·rename_i nc
           exact aD fun z=>nc (z▸Ip)
         rw[e];refine(hr.mono (aL (sGG.trans (s4.trans s5)))).app (.cons (kp.low fun z=> ?_) .nil);have:=hn z;rw[Iu]at this;exact this.1
 ·have e:i=xs.length:=by omega
  subst e;rw[List.drop_length]at hc1;cases hc1;refine .inl ⟨En.stop G (D::O) (ok G ys sG gD),q _ _ (s1.trans sG) ?_⟩;refine⟨D,ys,rfl,s1.free hD,gD,?_⟩;rw[hv,Jp];refine hr.mono fun c o e=> ?_;unfold aX at e;unfold aX del
  split at e
  ·cases e
  ·rename_i nc
   have n1:c≠D:=fun z=>nc (z▸Ip);have n2:c∉O:=fun z=>nc (Im _ z);rw[Iq n2,Iq n1];exact e
theorem zq{cd:Nat->List PV->Option PV}{ct:Ct}(C:bX cd X ct){t:Str}{tp:Pos}{iter elt:Expr}{ifs:List Expr}{ifs' :Bk}{elt' :IE}{scope:Scope}{caps:List Nat}{xs:List PV}{n b:Bool}{VS:List PV}{NN:Bool}
  (h:uV ct t scope=true) (hc:slots ct.N (frees scope)=some caps) (hset:dX iter=false) (jE:lI X Hi τ (.Name t tp) iter xs n b) (hz:xs.length<=LN)
  (hifs:∀(X' :Cx)(τ' :En)(k:Bool),bX cd X' (blk ct t scope)->iN cd ifs' τ' =some k->∃tt,u8 X' ifs tt/\∀(O:List Addr)(σ:L2.St)(H:Hp)(Q:Bool->Hp->Prop),ao X'.K Hi O τ' σ H->(∀H',aE H H' ->Q k H')->tt σ H Q)
  (helt:∀(X' :Cx)(τ' :En)(r:RV),bX cd X' (blk ct t scope)->aW cd elt' τ' =some r->aI X' Hi τ' elt r)
  (hrun:cM (Hd cd ifs' elt' n (caps.map fun i=>τ.getD i .un)) xs=some (VS,NN)):bQ X scope (t::frees scope) (none::caps.map some)/\eO X.env.scope scope=true /\
  ∀(O:List Addr)(σ:L2.St)(H:Hp)(Q:VK),ao X.K Hi O τ σ H->(∀u H',aE H H' ->ae X.K Hi O H H' (.own VS NN) u->Q u H')->CG X (t::frees scope) (none::caps.map some) scope (.Name t tp) ifs elt (fun σ H R=>WI X (.Name t tp) iter σ H R) σ H Q:=by
 obtain⟨h1,h2,h3,h4,h5,h6,h7⟩:=jw h;have hmem:∀x∈frees scope,(x,NameKind.free)∈scope.names:=fun x hx=>JV (h7 x hx);have hsrc:bQ X scope (t::frees scope) (none::caps.map some):=jc C hc fun x hx=>⟨h7 x hx,h4 _ (hmem x hx) rfl⟩;have hfr:eO X.env.scope scope=true:=by
  unfold eO;rw[JJ];intro y hy;rw[C.S]
  by_cases e:y.2=.free
  ·rcases h4 y hy e with z|z<;>simp[e,z]
  ·simp[e]
 have hlen:=iB hc;refine⟨hsrc,hfr,w5 jE hz (C.blk h) hifs helt (fun O σ D x r0 u G' Cf s2 H2 fp cl hf R rx=> ?_) hrun⟩;exact⟨_,some u::bO (caps.map some) σ,pG 0,hf,R.block (fW hc (Jo.mp h5).2) rx.up,bc h5 rfl (mf h6) (qF h6),fun K k=>⟨pe (by simp[hlen]),k⟩⟩
theorem ao.consF{K:W.Frag}{O:List Addr}{σ:L2.St}{H:Hp}{x:PV}{n:Bool}{u:V}(R:ao K Hi O τ σ H)(r:Rp K Hi n x (aX H O) u):ao K Hi O (.frz x n::τ) (some u::σ) H:=by
 refine⟨R.same,R.own,fun j v m e=> ?_,fun j t bd ys m e ht=> ?_,fun a b t t' x1 y1 l e1 ht e2 ht' h1 h2=> ?_⟩
 ·cases j with
  | zero =>
   simp at e;obtain⟨rfl,rfl⟩:=e;exact⟨u,by simp,r⟩
  | succ j =>
   obtain⟨w,h3,h4⟩:=R.frz j v m (by simpa using e);exact⟨w,by simpa using h3,h4⟩
 ·cases j with
  | zero =>
   simp at e;subst e;cases ht
  | succ j =>
   obtain⟨l,us,o,h3,h4⟩:=R.obs j t bd ys m (by simpa using e) ht;exact⟨l,us,o,by simpa using h3,h4⟩
 ·cases a with
  | zero =>
   simp at e1;subst e1;cases ht
  | succ a =>
   cases b with
   | zero =>
    simp at e2;subst e2;cases ht'
   | succ b=>rw[R.dst a b t t' x1 y1 l (by simpa using e1) ht (by simpa using e2) ht' (by simpa using h1) (by simpa using h2)]
theorem uu{N' :List Str}{r:List (Option Nat)}{σ:L2.St}{x y:V}(h:r.length+2=N'.length) :
  (((bO (none::none::r) σ).set 0 (some x)).set 1 (some y)).length=N'.length/\∀(j:Nat)(v:V),(bO (none::none::r) σ)[j]? =some (some v)->(((bO (none::none::r) σ).set 0 (some x)).set 1 (some y))[j]? =some (some v):=by
 refine⟨by rw[KJ,KJ];simp[bO,h],fun j v e=> ?_⟩;cases j with
 | zero=>simp[bO]at e
 | succ j =>
  cases j with
  | zero=>simp[bO]at e
  | succ j=>simpa [bO]using e
noncomputable def xt(cd:Nat->List PV->Option PV)(ifs:Bk)(elt:IE)(n:Bool)(aP:En):PV->Option (Option (PV×Bool)):=fun x=>(oW x).bind fun(a,b)=>(iN cd ifs (.frz a (n||imm a)::.frz b (n||imm b)::aP)).bind fun t=>if t then(aW cd elt (.frz a (n||imm a)::.frz b (n||imm b)::aP)).bind fun r=>r.keep.map some else some none
theorem wz{cd:Nat->List PV->Option PV}{ct:Ct}(C:bX cd X ct){t t2:Str}{kk:Nat}{tp tp2 tpp:Pos}{iter elt:Expr}{ifs:List Expr}{ifs' :Bk}{elt' :IE}{scope:Scope}{caps:List Nat}{xs:List PV}{n b:Bool}{VS:List PV}{NN:Bool}
  (h:lx ct t t2 scope=true) (hc:slots ct.N (frees scope)=some caps) (hset:dX iter=false) (jE:lI X Hi τ (.Tuple [.Name t tp,.Name t2 tp2] kk tpp) iter xs n b) (hz:xs.length<=LN)
  (hifs:∀(X' :Cx)(τ' :En)(k:Bool),bX cd X' (blk2 ct t t2 scope)->iN cd ifs' τ' =some k->∃tt,u8 X' ifs tt/\∀(O:List Addr)(σ:L2.St)(H:Hp)(Q:Bool->Hp->Prop),ao X'.K Hi O τ' σ H->(∀H',aE H H' ->Q k H')->tt σ H Q)
  (helt:∀(X' :Cx)(τ' :En)(r:RV),bX cd X' (blk2 ct t t2 scope)->aW cd elt' τ' =some r->aI X' Hi τ' elt r)
  (hrun:cM (xt cd ifs' elt' n (caps.map fun i=>τ.getD i .un)) xs=some (VS,NN)):bQ X scope (t::t2::frees scope) (none::none::caps.map some)/\eO X.env.scope scope=true /\
  ∀(O:List Addr)(σ:L2.St)(H:Hp)(Q:VK),ao X.K Hi O τ σ H->(∀u H',aE H H' ->ae X.K Hi O H H' (.own VS NN) u->Q u H')->CG X (t::t2::frees scope) (none::none::caps.map some) scope (.Tuple [.Name t tp,.Name t2 tp2] kk tpp) ifs elt (fun σ H R=>WI X (.Tuple [.Name t tp,.Name t2 tp2] kk tpp) iter σ H R) σ H Q:=by
 obtain⟨h1,h2,h3,h4,h5,h6,h8,h7⟩:=iI h;have hmem:∀x∈frees scope,(x,NameKind.free)∈scope.names:=fun x hx=>JV (h7 x hx);have hsrc:bQ X scope (t::t2::frees scope) (none::none::caps.map some):=jc C hc fun x hx=>⟨h7 x hx,h4 _ (hmem x hx) rfl⟩;have hfr:eO X.env.scope scope=true:=by
  unfold eO;rw[JJ];intro y hy;rw[C.S]
  by_cases e:y.2=.free
  ·rcases h4 y hy e with z|z<;>simp[e,z]
  ·simp[e]
 have hlen:=iB hc;refine⟨hsrc,hfr,w5 jE hz (C.blk2 h) hifs helt (fun O σ D x r0 u G' Cf s2 H2 fp cl hf R rx=> ?_) hrun⟩;unfold xt at hf;obtain⟨x1,x2,rfl⟩:∃x1 x2,x=.tup [x1,x2]:=by
  cases hp:oW x with
  | none=>rw[hp]at hf;cases hf
  | some w =>
   unfold oW at hp
   split at hp
   ·exact⟨_,_,rfl⟩
   ·cases hp
 obtain⟨pa,us,rfl,lt,rt⟩:=Rp.tup.mp rx;unfold aJ at rt;obtain⟨u1,us1,rfl,ra,rt⟩:=rt;unfold aJ at rt;obtain⟨u2,us2,rfl,rb,rt⟩:=rt;unfold aJ at rt;subst rt
 exact⟨_,some u1::some u2::bO (caps.map some) σ,_,hf,(R.block (fW hc (Jo.mp (Jo.mp h5).2).2) rb.up).consF ra.up,m6 (C.blk2 h Cf s2 H2 fp cl).calm (cH (bc (i:=0) h5 rfl (mf h6) (qF h6)) (cH (bc (i:=1) h5 rfl (mf h8) (qF h8)) i8 rfl) rfl) rfl rfl,
  fun K k=>⟨pa,_,rfl,(aY (O:=D::O)).tup lt,rfl,u1,_,rfl,u2,_,rfl,rfl,⟨uu (by simp[hlen]),k⟩⟩⟩
end
theorem bind_some{α β:Type}{o:Option α}{f:α->Option β}{b:β}(h:o.bind f=some b):∃a,o=some a/\f a=some b:=by
 cases o with
 | none=>cases h
 | some a=>exact⟨a,rfl,h⟩
theorem map_some{α β:Type}{o:Option α}{f:α->β}{b:β}(h:o.map f=some b):∃a,o=some a/\f a=b:=by
 cases o with
 | none=>cases h
 | some a=>exact⟨a,rfl,JF h⟩
structure ik(cd:Nat->List PV->Option PV)(n:Nat):Prop where
 e:∀(X:Cx)(ct:Ct)(Hi:Hp)(τ:En)(e:Expr)(r:RV),bX cd X ct->aW cd (al n ct e) τ=some r->aI X Hi τ e r
 cm:∀(X:Cx)(ct:Ct)(Hi:Hp)(τ:En)(a:Expr)(ops:List CmpOp)(cs:List Expr)(pos:Pos)(r:RV),bX cd X ct->aW cd (al n ct (.Compare a ops cs pos)) τ=some r->∃t,r=sc (.bl t)/\eX X Hi τ (.Compare a ops cs pos) t
 es:∀(X:Cx)(ct:Ct)(Hi:Hp)(τ:En)(es:List Expr)(rs:List RV),bX cd X ct->bW cd (eB n ct es) τ=some rs->na X Hi τ es rs/\(∀a∈es,isStar a=false)/\es.length=rs.length/\∀(i:Nat)(a:Expr)(r:RV),es[i]? =some a->rs[i]? =some r->aI X Hi τ a r
 o:∀(X:Cx)(ct:Ct)(Hi:Hp)(τ:En)(e:Option Expr)(o:Option RV)(i:Option Int),bX cd X ct->Ds cd (BE n ct e) τ=some o->o6 o=some i->u9 X Hi τ e i
 c:∀(X:Cx)(ct:Ct)(Hi:Hp)(τ:En)(e:Expr)(b:Bool),bX cd X ct->eA cd (lX n ct e) τ=some b->eX X Hi τ e b
 call:∀(X:Cx)(ct:Ct)(Hi:Hp)(τ:En)(x:Str)(es:List Expr)(p pos:Pos)(r:RV),bX cd X ct->aW cd (hJ n ct x es) τ=some r->aI X Hi τ (.Call (.Name x p) es [] pos) r
 mth:∀(X:Cx)(ct:Ct)(Hi:Hp)(τ:En)(o:Expr)(m:Str)(es:List Expr)(ap cp:Pos)(r:RV),bX cd X ct->(ap.endLine==cp.line)=true->aW cd (lW n ct o m es) τ=some r->aI X Hi τ (.Call (.Attribute o m ap) es [] cp) r
 t:∀(X:Cx)(ct:Ct)(Hi:Hp)(τ:En)(tp:Bool)(e tg:Expr)(xs:List PV)(k b:Bool),bX cd X ct->(tp=true->∃ts kk p,tg=.Tuple ts kk p)->lB cd (vD n ct tp e) τ=some (xs,k,b)->lI X Hi τ tg e xs k b/\dX e=false
section
variable{cd:Nat->List PV->Option PV}
theorem iT{v:PV}{b:Bool}(h:ii v=some b):v=.bl b:=by
 cases v<;>first|(cases h;done)|(cases h;rfl)
theorem xH{v:PV}{b:Int}(h:lA v=some b):v=.int b:=by
 cases v<;>first|(cases h;done)|(cases h;rfl)
theorem qU{α:Type}{l:List α}(h:l.length=1):∃a,l=[a]:=by
 cases l with
 | nil=>cases h
 | cons a l =>
  cases l with
  | nil=>exact⟨a,rfl⟩
  | cons b l=>cases h
theorem vV{α:Type}{l:List α}(h:l.length=2):∃a b,l=[a,b]:=by
 cases l with
 | nil=>cases h
 | cons a l =>
  obtain⟨b,rfl⟩:=qU (show l.length=1 from La h);exact⟨a,b,rfl⟩
theorem aR{τ:En}{r:RV}(h:aW cd .never τ=some r){P:Prop}:P:=by simp[cc,cO,ci,cT,cf,dB,cq,cR,cS,cy,cg,ck,cU,cV,cP,dA,cZ,cz,cx,cY,cQ,cr,cX,cW,cw,cv,cu]at h
theorem pK{X:Cx}{Hi:Hp}{τ:En}{op:BoolOp}{pos:Pos}{f:Expr->IE}(hf:∀e r,aW cd (f e) τ=some r->aI X Hi τ e r):∀{vs:List Expr}{r:RV},aW cd (j6 op (vs.map f)) τ=some r->aI X Hi τ (.BoolOp op vs pos) r
 | [],r,h=>aR h
 | [a],r,h=>C6 (hf a r h)
 | a::b::aP,r,h=>by
  have ih:= @pK X Hi τ op pos f hf (b::aP);cases op with
  | And =>
   have h:aW cd (.and (f a) (j6 .And ((b::aP).map f))) τ=some r:=h;simp only[cc,cO,ci,cT,cf,dB,cq,cR,cS,cy,cg,ck,cU,cV,cP,dA,cZ,cz,cx,cY,cQ,cr,cX,cW,cw,cv,cu]at h;obtain⟨x,hx,h⟩:=bind_some h;have hx:=hf a x hx;obtain⟨t,ht,h⟩:=bind_some h;have e:=iT ht;cases t with
   | true=>exact IK hx e (ih h)
   | false=>cases h;exact IL hx e
  | Or =>
   have h:aW cd (.or (f a) (j6 .Or ((b::aP).map f))) τ=some r:=h;simp only[cc,cO,ci,cT,cf,dB,cq,cR,cS,cy,cg,ck,cU,cV,cP,dA,cZ,cz,cx,cY,cQ,cr,cX,cW,cw,cv,cu]at h;obtain⟨x,hx,h⟩:=bind_some h;have hx:=hf a x hx;obtain⟨t,ht,h⟩:=bind_some h;have e:=iT ht;cases t with
   | true=>cases h;exact or_t hx e
   | false=>exact or_f hx e (ih h)
theorem pJ{X:Cx}{Hi:Hp}{τ:En}{op:BoolOp}{pos:Pos}{f:Expr->IC}(hf:∀e b,eA cd (f e) τ=some b->eX X Hi τ e b):∀{vs:List Expr}{b:Bool},eA cd (j5 op (vs.map f)) τ=some b->lG X Hi τ (.BoolOp op vs pos) b
 | [],r,h=>by
  have h:eA cd (.val .never) τ=some r:=h;simp[vI,vK,vL,vJ,cc,cO,ci,cT,cf,dB,cq,cR,cS,cy,cg,ck,cU,cV,cP,dA,cZ,cz,cx,cY,cQ,cr,cX,cW,cw,cv,cu]at h
 | [a],r,h=>C5 (hf a r h)
 | a::b::aP,r,h=>by
  have ih:= @pJ X Hi τ op pos f hf (b::aP);cases op with
  | And =>
   have h:eA cd (.and (f a) (j5 .And ((b::aP).map f))) τ=some r:=h;simp only[vI,vK,vL,vJ]at h;obtain⟨x,hx,h⟩:=bind_some h;have hx:=hf a x hx;cases x with
   | true=>exact yG hx (ih h)
   | false=>cases h;exact yG hx rfl
  | Or =>
   have h:eA cd (.or (f a) (j5 .Or ((b::aP).map f))) τ=some r:=h;simp only[vI,vK,vL,vJ]at h;obtain⟨x,hx,h⟩:=bind_some h;have hx:=hf a x hx;cases x with
   | true=>cases h;exact BR hx rfl
   | false=>exact BR hx (ih h)
theorem sV{X:Cx}{Hi:Hp}{τ:En}{f:Expr->IE}(hf:∀e r,aW cd (f e) τ=some r->aI X Hi τ e r):∀{es:List Expr}{rs:List RV},bW cd (uR (es.map fun e=>if isStar e then .never else f e)) τ=some rs->na X Hi τ es rs/\(∀a∈es,isStar a=false)/\es.length=rs.length/\∀(i:Nat)(a:Expr)(r:RV),es[i]? =some a->rs[i]? =some r->aI X Hi τ a r
 | [],rs,h=>by
  have h:some []=some rs:=by simpa [uR,vB,vC]using h
  cases h;exact⟨Ee,fun a ha=>(by cases ha),rfl,fun i a r e=>(by simp at e)⟩
 | e::es,rs,h=>by
  have h:bW cd (.cons (if isStar e then .never else f e) (uR (es.map fun e=>if isStar e then .never else f e))) τ=some rs:=h;simp only[vB,vC]at h;obtain⟨x,hx,h⟩:=bind_some h;obtain⟨ys,hy,h⟩:=map_some h;subst h;obtain⟨i1,i2,i3,i4⟩:=sV hf hy;cases hs:isStar e with
  | true=>rw[hs]at hx;exact aR hx
  | false =>
   rw[hs]at hx;refine⟨Au (hf e x hx) hs i1,fun a ha=> ?_,by rw[JI,JI,i3],fun i a r e1 e2=> ?_⟩
   ·rcases JD.mp ha with rfl|ha
    ·exact hs
    ·exact i2 a ha
   ·cases i with
    | zero =>
     simp at e1 e2;subst e1 e2;exact hf _ _ hx
    | succ i=>exact i4 i a r (by simpa using e1) (by simpa using e2)
theorem He{n:Nat}(IH:ik cd n){X:Cx}{ct:Ct}{Hi:Hp}{τ:En}{a:Expr}{ops:List CmpOp}{cs:List Expr}{pos:Pos}{r:RV}(C:bX cd X ct)(h:aW cd (al (n+1) ct (.Compare a ops cs pos)) τ=some r) :
  ∃t,r=sc (.bl t)/\aI X Hi τ (.Compare a ops cs pos) r/\eX X Hi τ (.Compare a ops cs pos) t:=by
 refine Ka fun no=> ?_;simp only[jT,jO,jJ,jS,jG,jP,jR,jM,jL,jH,jN,jI,jQ,jK]at h
 split at h
 ·rename_i op b
  split at h
  ·exact aR h
  ·rename_i hs
   have hs:=Jz.mpr hs;simp only[cc,cO,ci,cT,cf,dB,cq,cR,cS,cy,cg,ck,cU,cV,cP,dA,cZ,cz,cx,cY,cQ,cr,cX,cW,cw,cv,cu]at h;obtain⟨x,hx,h⟩:=bind_some h;obtain⟨y,hy,h⟩:=bind_some h;obtain⟨t,ht,h⟩:=map_some h;subst h;have ha:=IH.e X ct Hi τ a x C hx;have hb:=IH.e X ct Hi τ b y C hy;exact no<|⟨t,rfl,EO C.un ha hb hs ht,EN C.un ha hb hs ht⟩
 ·exact aR h
theorem Hg{n:Nat}(IH:ik cd n){X:Cx}{ct:Ct}{Hi:Hp}{τ:En}{x:Str}{es:List Expr}{p pos:Pos}{r:RV}(C:bX cd X ct)(h:aW cd (hJ (n+1) ct x es) τ=some r):aI X Hi τ (.Call (.Name x p) es [] pos) r:=by
 refine Ka fun no=> ?_;simp only[z23,z24]at h
 split at h
 ·exact aR h
 rename_i ho;have ho:=Jz.mpr ho
 split at h
 ·rename_i hg
  have hg:ct.S.lookup x=some .globalImplicit:=by simpa using hg
  cases hf:ct.F.lookup x with
  | some f =>
   rw[hf]at h;dsimp only at h;cases es with
   | nil=>exact aR h
   | cons e es =>
    simp only[cc,cO,ci,cT,cf,dB,cq,cR,cS,cy,cg,ck,cU,cV,cP,dA,cZ,cz,cx,cY,cQ,cr,cX,cW,cw,cv,cu]at h;obtain⟨rs,hrs,h⟩:=bind_some h;obtain⟨v,hv,h⟩:=map_some h;subst h;obtain⟨i1,i2,i3,i4⟩:=IH.es X ct Hi τ (e::es) rs C hrs;exact no<|call_ok C ho hg hf i2 i1 hv
  | none =>
   rw[hf]at h;dsimp only at h
   split at h
   ·rename_i hb
    have hown:own ct x=true:=by
     unfold own;rw[hb,hg];rfl
    have plain:∀{es:List Expr}{r:RV},aW cd (match pi x es.length with|some f=>IE.bf f (eB n ct es)|none=>.never) τ=some r->aI X Hi τ (.Call (.Name x p) es [] pos) r:=by
     intro es r h;cases hbf:pi x es.length with
     | none=>rw[hbf]at h;exact aR h
     | some f =>
      rw[hbf]at h;simp only[cc,cO,ci,cT,cf,dB,cq,cR,cS,cy,cg,ck,cU,cV,cP,dA,cZ,cz,cx,cY,cQ,cr,cX,cW,cw,cv,cu]at h;obtain⟨rs,hrs,h⟩:=bind_some h;obtain⟨i1,i2,i3,i4⟩:=IH.es X ct Hi τ es rs C hrs;have one:∀a,es=[a]->aI X Hi τ (.Call (.Name x p) es [] pos) r:=by
       intro a ea;subst ea;obtain⟨ra,rfl⟩:=qU (show rs.length=1 from i3.symm);exact Ea C hown hbf (i2 a (by simp)) (i4 0 a ra rfl rfl) h
      have two:∀a b,es=[a,b]->aI X Hi τ (.Call (.Name x p) es [] pos) r:=by
       intro a b ea;subst ea;obtain⟨ra,rb,rfl⟩:=vV (show rs.length=2 from i3.symm);exact EZ C hown hbf (i2 a (by simp)) (i2 b (by simp)) (i4 0 a ra rfl rfl) (i4 1 b rb rfl rfl) h
      have hk:es.length=1\/es.length=2:=by
       rcases iW hbf with⟨_,z,_⟩|⟨_,z,_⟩|⟨_,z,_⟩|⟨_,z,_⟩|⟨_,z,_⟩|⟨_,z,_⟩|⟨_,z,_⟩|⟨_,z,_⟩|⟨_,z,_⟩|⟨_,z,_⟩|⟨_,z,_⟩<;>simp[z]
      rcases hk with hk|hk
      ·obtain⟨a,ha⟩:=qU hk
       exact one a ha
      ·obtain⟨a,b,ha⟩:=vV hk
       exact two a b ha
    split at h
    ·rename_i hi
     have hi:x=("isinstance":Str):=JN hi;subst hi
     split at h
     ·rename_i a t tpos
      split at h
      ·rename_i ty hty
       split at h
       ·exact aR h
       ·rename_i hs
        have hs:=Jz.mpr hs
        split at h
        ·rename_i hot
         simp only[cc,cO,ci,cT,cf,dB,cq,cR,cS,cy,cg,ck,cU,cV,cP,dA,cZ,cz,cx,cY,cQ,cr,cX,cW,cw,cv,cu,vB,vC]at h;obtain⟨rs,hrs,h⟩:=bind_some h;obtain⟨ra,hra,h2⟩:=bind_some hrs;cases h2;have h:(ez ty ra.val).map (fun b=>sc (.bl b))=some r:=h;obtain⟨b,hb2,h⟩:=map_some h;subst h;exact no<|isin_ok C hown hty hot hs (IH.e X ct Hi τ a ra C hra) hb2
        ·exact aR h
      ·exact aR h
     ·exact aR h
    ·split at h
     ·rename_i o m ap cp
      split at h
      ·rename_i hc
       simp only[Iu]at hc;obtain⟨⟨⟨hx,hy⟩,hp⟩,hl⟩:=hc;have hx:=JN hx;have hy:=JN hy;subst hx hy;simp only[cc,cO,ci,cT,cf,dB,cq,cR,cS,cy,cg,ck,cU,cV,cP,dA,cZ,cz,cx,cY,cQ,cr,cX,cW,cw,cv,cu,vB,vC]at h;obtain⟨rs,hrs,h⟩:=bind_some h;obtain⟨ra,hra,h2⟩:=bind_some hrs;cases h2;exact no<|sumv_ok C hown hp hl (IH.e X ct Hi τ o ra C hra) h
      ·exact no<|plain h
     ·exact no<|plain h
   ·exact aR h
 ·exact aR h
theorem mthE{n:Nat}(IH:ik cd n){X:Cx}{ct:Ct}{Hi:Hp}{τ:En}{o:Expr}{m:Str}{es:List Expr}{ap cp:Pos}{r:RV}(C:bX cd X ct)(hl:(ap.endLine==cp.line)=true)(h:aW cd (lW (n+1) ct o m es) τ=some r):aI X Hi τ (.Call (.Attribute o m ap) es [] cp) r:=by
 refine Ka fun no=> ?_;simp only[z2p,z2q]at h
 split at h
 ·rename_i hp
  split at h
  ·rename_i a
   split at h
   ·exact aR h
   ·rename_i hs
    have hs:=Jz.mpr hs
    split at h
    ·rename_i hm
     have hm:=JN hm;subst hm
     split at h
     ·rename_i b hb
      split at h
      ·exact aR h
      ·rename_i hs2
       simp only[KD,not_or,Bool.not_eq_true,Bool.not_eq_false']at hs2;obtain⟨p,q,rfl⟩:=uA hb;simp only[cc,cO,ci,cT,cf,dB,cq,cR,cS,cy,cg,ck,cU,cV,cP,dA,cZ,cz,cx,cY,cQ,cr,cX,cW,cw,cv,cu,vB,vC]at h;obtain⟨ro,hro,h⟩:=bind_some h;obtain⟨rs,hrs,h⟩:=bind_some h;obtain⟨ra,hra,h2⟩:=bind_some hrs;cases h2;exact no<|jrev_ok C hs2.2 hp hl hs2.1 (IH.e X ct Hi τ o ro C hro) (IH.e X ct Hi τ b ra C hra) h
     ·simp only[cc,cO,ci,cT,cf,dB,cq,cR,cS,cy,cg,ck,cU,cV,cP,dA,cZ,cz,cx,cY,cQ,cr,cX,cW,cw,cv,cu,vB,vC]at h
      obtain⟨ro,hro,h⟩:=bind_some h;obtain⟨rs,hrs,h⟩:=bind_some h;obtain⟨ra,hra,h2⟩:=bind_some hrs;cases h2;exact no<|join_ok hp hl hs (IH.e X ct Hi τ o ro C hro) (IH.e X ct Hi τ a ra C hra) h
    ·split at h
     ·rename_i hm
      have hm:=JN hm;subst hm;simp only[cc,cO,ci,cT,cf,dB,cq,cR,cS,cy,cg,ck,cU,cV,cP,dA,cZ,cz,cx,cY,cQ,cr,cX,cW,cw,cv,cu,vB,vC]at h;obtain⟨ro,hro,h⟩:=bind_some h;obtain⟨rs,hrs,h⟩:=bind_some h;obtain⟨ra,hra,h2⟩:=bind_some hrs;cases h2;exact no<|count_ok hp hl hs (IH.e X ct Hi τ o ro C hro) (IH.e X ct Hi τ a ra C hra) h
     ·split at h
      ·rename_i hm
       have hm:=JN hm;subst hm;simp only[cc,cO,ci,cT,cf,dB,cq,cR,cS,cy,cg,ck,cU,cV,cP,dA,cZ,cz,cx,cY,cQ,cr,cX,cW,cw,cv,cu,vB,vC]at h;obtain⟨ro,hro,h⟩:=bind_some h;obtain⟨rs,hrs,h⟩:=bind_some h;obtain⟨ra,hra,h2⟩:=bind_some hrs;cases h2;exact no<|indexT_ok C.un hp hl hs (IH.e X ct Hi τ o ro C hro) (IH.e X ct Hi τ a ra C hra) h
      ·exact aR h
  ·exact aR h
 ·exact aR h
theorem HI{n:Nat}(IH:ik cd n){X:Cx}{ct:Ct}{Hi:Hp}{τ:En}{tp:Bool}{e tg:Expr}{xs:List PV}{k b:Bool}(C:bX cd X ct)(ht:tp=true->∃ts kk p,tg=.Tuple ts kk p)(h:lB cd (vD (n+1) ct tp e) τ=some (xs,k,b)):lI X Hi τ tg e xs k b/\dX e=false:=by
 simp only[z39,z3a]at h
 split at h
 ·simp[A5,A6,A4,A7,Bo,Bp]at h
 rename_i hset;have hset:=Jz.mpr hset;refine⟨?_,hset⟩;have seq:lB cd (.seq (al n ct e)) τ=some (xs,k,b)->lI X Hi τ tg e xs k b:=by
  intro h;simp only[A5,A6,A4,A7,Bo,Bp]at h;obtain⟨r,hr,h⟩:=bind_some h;exact CP (IH.e X ct Hi τ e r C hr) h
 have nv:∀{P:Prop},lB cd .never τ=some (xs,k,b)->P:=by
  intro P h;simp[A5,A6,A4,A7,Bo,Bp]at h
 split at h
 ·rename_i x es hc
  obtain⟨p,pos,rfl⟩:∃p pos,e=.Call (.Name x p) es [] pos:=by
   unfold eV at hc
   split at hc
   ·cases hc;exact⟨_,_,rfl⟩
   ·cases hc
  split at h
  ·rename_i hx
   have hx:=JN hx;subst hx
   split at h
   ·rename_i ho
    simp only[A5,A6,A4,A7,Bo,Bp]at h;obtain⟨rs,hrs,h⟩:=bind_some h;obtain⟨ys,hy,h⟩:=map_some h;cases h;obtain⟨i1,i2,i3,i4⟩:=IH.es X ct Hi τ es rs C hrs;exact CY C ho i2 i1 i3 hy
   ·exact nv h
  ·split at h
   ·rename_i hx
    have hx:=JN hx;subst hx
    split at h
    ·rename_i a b'
     split at h
     ·exact nv h
     ·rename_i hc
      simp only[KD,not_or,Bool.not_eq_true,Ke]at hc;obtain⟨⟨⟨c1,c2⟩,c3⟩,c4⟩:=hc;obtain⟨ts,kk,tpos,rfl⟩:=ht (by simpa using c3);simp only[A5,A6,A4,A7,Bo,Bp]at h;obtain⟨ra,hra,h⟩:=bind_some h;obtain⟨rb,hrb,h⟩:=bind_some h;obtain⟨w,hw,h⟩:=map_some h;cases h;exact Bl C (by simpa using c4) c1 c2 (IH.e X ct Hi τ _ ra C hra) (IH.e X ct Hi τ _ rb C hrb) hw
    ·exact nv h
   ·split at h
    ·rename_i hx
     have hx:=JN hx;subst hx
     split at h
     ·rename_i a
      split at h
      ·exact nv h
      ·rename_i hc
       simp only[KD,not_or,Bool.not_eq_true,Ke]at hc;obtain⟨⟨c1,c3⟩,c4⟩:=hc;obtain⟨ts,kk,tpos,rfl⟩:=ht (by simpa using c3);simp only[A5,A6,A4,A7,Bo,Bp]at h;obtain⟨ra,hra,h⟩:=bind_some h;obtain⟨w,hw,h⟩:=map_some h;cases h;exact AK C (by simpa using c4) c1 (IH.e X ct Hi τ _ ra C hra) hw
     ·exact nv h
    ·exact seq h
 ·exact seq h
theorem lcE{n:Nat}(IH:ik cd n){X:Cx}{ct:Ct}{Hi:Hp}{τ:En}{elt:Expr}{gs:List Comprehension}{scope:Scope}{pos:Pos}{r:RV}(C:bX cd X ct)(h:aW cd (al (n+1) ct (.ListComp elt gs scope pos)) τ=some r) :
  ∃tg iter ifs N' src,gs=[⟨tg,iter,ifs,0⟩]/\bQ X scope N' src/\scope.kind=.function/\(∀y∈scope.names,y.2=.cell->scope.names.lookup y.1=some .cell)/\(∀y∈scope.names,y.2=.local->scope.names.lookup y.1=some .local)/\eO X.env.scope scope=true/\dX iter=false /\
   ∀(O:List Addr)(σ:L2.St)(H:Hp)(Q:VK),ao X.K Hi O τ σ H->(∀u H',aE H H' ->ae X.K Hi O H H' r u->Q u H')->CG X N' src scope tg ifs elt (fun σ H R=>WI X tg iter σ H R) σ H Q:=by
 refine Ka fun no=> ?_;simp only[jT,jO,jJ,jS,jG,jP,jR,jM,jL,jH,jN,jI,jQ,jK]at h
 split at h
 ·rename_i t tp iter ifs
  split at h
  ·rename_i hlc
   cases hc:slots ct.N (frees scope)with
   | none=>rw[hc]at h;exact aR h
   | some caps =>
    rw[hc]at h;simp only[cc,cO,ci,cT,cf,dB,cq,cR,cS,cy,cg,ck,cU,cV,cP,dA,cZ,cz,cx,cY,cQ,cr,cX,cW,cw,cv,cu]at h;obtain⟨w,hw,h⟩:=bind_some h;obtain⟨xs,n',b⟩:=w;dsimp only at h
    split at h
    ·rename_i hz
     obtain⟨w2,hw2,h⟩:=map_some h;obtain⟨VS,NN⟩:=w2;subst h;obtain⟨jE,hset⟩:=IH.t X ct Hi τ false iter (.Name t tp) xs n' b C (fun z=>by cases z) hw;obtain⟨g1,g2,g3,g4,g5,g6,g7⟩:=jw hlc;obtain⟨q1,q2,q3⟩:=zq (elt:=elt) (ifs:=ifs) C hlc hc hset jE hz (fun X' τ' k C' hk=>by
      split at hk
      ·simp only[Br,Bq]at hk
       cases hk;exact⟨_,jm,fun O σ H Q R q=>q H (aE.refl _)⟩
      ·rename_i c
       simp only[Br,Bq]at hk;exact⟨_,oR ir,fun O σ H Q R q=>IH.c X' _ Hi τ' _ k C' hk O σ H Q R q⟩
      ·simp[Br,Bq,vI,vK,vL,vJ,cc,cO,ci,cT,cf,dB,cq,cR,cS,cy,cg,ck,cU,cV,cP,dA,cZ,cz,cx,cY,cQ,cr,cX,cW,cw,cv,cu]at hk) (fun X' τ' r' C' hr' =>IH.e X' _ Hi τ' elt r' C' hr') hw2
     exact no<|⟨.Name t tp,iter,ifs,_,_,rfl,q1,g1,g2,g3,q2,hset,q3⟩
    ·cases h
  ·exact aR h
 ·cases e2:rg gs with
  | none=>rw[e2]at h;exact aR h
  | some w =>
   obtain⟨t,t2,iter,ifs⟩:=w;rw[e2]at h;obtain⟨tp,tp2,kk,tpp,rfl⟩:=tj e2;dsimp only at h
   split at h
   ·rename_i hlc
    cases hc:slots ct.N (frees scope)with
    | none=>rw[hc]at h;exact aR h
    | some caps =>
     rw[hc]at h;simp only[cc,cO,ci,cT,cf,dB,cq,cR,cS,cy,cg,ck,cU,cV,cP,dA,cZ,cz,cx,cY,cQ,cr,cX,cW,cw,cv,cu]at h;obtain⟨w,hw,h⟩:=bind_some h;obtain⟨xs,n',b⟩:=w;dsimp only at h
     split at h
     ·rename_i hz
      obtain⟨w2,hw2,h⟩:=map_some h;obtain⟨VS,NN⟩:=w2;subst h;obtain⟨jE,hset⟩:=IH.t X ct Hi τ true iter (.Tuple [.Name t tp,.Name t2 tp2] kk tpp) xs n' b C (fun _=>⟨_,_,_,rfl⟩) hw;obtain⟨g1,g2,g3,g4,g5,g6,g8,g7⟩:=iI hlc;obtain⟨q1,q2,q3⟩:=wz (elt:=elt) (ifs:=ifs) C hlc hc hset jE hz (fun X' τ' k C' hk=>by
       split at hk
       ·simp only[Br,Bq]at hk
        cases hk;exact⟨_,jm,fun O σ H Q R q=>q H (aE.refl _)⟩
       ·rename_i c
        simp only[Br,Bq]at hk;exact⟨_,oR ir,fun O σ H Q R q=>IH.c X' _ Hi τ' _ k C' hk O σ H Q R q⟩
       ·simp[Br,Bq,vI,vK,vL,vJ,cc,cO,ci,cT,cf,dB,cq,cR,cS,cy,cg,ck,cU,cV,cP,dA,cZ,cz,cx,cY,cQ,cr,cX,cW,cw,cv,cu]at hk) (fun X' τ' r' C' hr' =>IH.e X' _ Hi τ' elt r' C' hr') hw2
      exact no<|⟨.Tuple [.Name t tp,.Name t2 tp2] kk tpp,iter,ifs,_,_,rfl,q1,g1,g2,g3,q2,hset,q3⟩
     ·cases h
   ·exact aR h
theorem expE{n:Nat}(IH:ik cd n){X:Cx}{ct:Ct}{Hi:Hp}{τ:En}{e:Expr}{r:RV}(C:bX cd X ct)(h:aW cd (al (n+1) ct e) τ=some r):aI X Hi τ e r:=by
 cases e with
 | Constant c k pos=>simp only[jT,jO,jJ,jS,jG,jP,jR,jM,jL,jH,jN,jI,jQ,jK]at h;exact xr h
 | Name x pos=>simp only[jT,jO,jJ,jS,jG,jP,jR,jM,jL,jH,jN,jI,jQ,jK]at h;exact zi C h
 | BinOp a op b pos =>
  simp only[jT,jO,jJ,jS,jG,jP,jR,jM,jL,jH,jN,jI,jQ,jK,cc,cO,ci,cT,cf,dB,cq,cR,cS,cy,cg,ck,cU,cV,cP,dA,cZ,cz,cx,cY,cQ,cr,cX,cW,cw,cv,cu]at h;obtain⟨x,hx,h⟩:=bind_some h;obtain⟨y,hy,h⟩:=bind_some h;exact x6 (IH.e X ct Hi τ a x C hx) (IH.e X ct Hi τ b y C hy) h
 | UnaryOp op a pos =>
  simp only[jT,jO,jJ,jS,jG,jP,jR,jM,jL,jH,jN,jI,jQ,jK]at h;cases op with
  | USub =>
   simp only[cc,cO,ci,cT,cf,dB,cq,cR,cS,cy,cg,ck,cU,cV,cP,dA,cZ,cz,cx,cY,cQ,cr,cX,cW,cw,cv,cu]at h;obtain⟨x,hx,h⟩:=bind_some h;obtain⟨i,hi,h⟩:=map_some h;subst h;exact DD (IH.e X ct Hi τ a x C hx) (xH hi)
  | Not =>
   simp only[cc,cO,ci,cT,cf,dB,cq,cR,cS,cy,cg,ck,cU,cV,cP,dA,cZ,cz,cx,cY,cQ,cr,cX,cW,cw,cv,cu]at h;obtain⟨x,hx,h⟩:=bind_some h;obtain⟨i,hi,h⟩:=map_some h;subst h;exact DA (IH.e X ct Hi τ a x C hx) (iT hi)
  | _=>exact aR h
 | Compare a ops cs pos =>
  obtain⟨t,_,h1,_⟩:=He IH (Hi:=Hi) C h;exact h1
 | BoolOp op vs pos =>
  simp only[jT,jO,jJ,jS,jG,jP,jR,jM,jL,jH,jN,jI,jQ,jK]at h
  split at h
  ·exact aR h
  ·exact pK (fun e r h=>IH.e X ct Hi τ e r C h) h
 | IfExp c a b pos =>
  simp only[jT,jO,jJ,jS,jG,jP,jR,jM,jL,jH,jN,jI,jQ,jK,cc,cO,ci,cT,cf,dB,cq,cR,cS,cy,cg,ck,cU,cV,cP,dA,cZ,cz,cx,cY,cQ,cr,cX,cW,cw,cv,cu]at h;obtain⟨t,ht,h⟩:=bind_some h;refine DQ (IH.c X ct Hi τ c t C ht) ?_;cases t with
  | true=>exact IH.e X ct Hi τ a r C h
  | false=>exact IH.e X ct Hi τ b r C h
 | List es pos =>
  simp only[jT,jO,jJ,jS,jG,jP,jR,jM,jL,jH,jN,jI,jQ,jK,cc,cO,ci,cT,cf,dB,cq,cR,cS,cy,cg,ck,cU,cV,cP,dA,cZ,cz,cx,cY,cQ,cr,cX,cW,cw,cv,cu]at h;obtain⟨rs,hrs,h⟩:=bind_some h;obtain⟨w,hw,h⟩:=bind_some h;obtain⟨vs,n'⟩:=w;exact DF (IH.es X ct Hi τ es rs C hrs).1 hw h
 | Tuple es k pos =>
  simp only[jT,jO,jJ,jS,jG,jP,jR,jM,jL,jH,jN,jI,jQ,jK,cc,cO,ci,cT,cf,dB,cq,cR,cS,cy,cg,ck,cU,cV,cP,dA,cZ,cz,cx,cY,cQ,cr,cX,cW,cw,cv,cu]at h;obtain⟨rs,hrs,h⟩:=bind_some h;obtain⟨w,hw,h⟩:=bind_some h;obtain⟨vs,n'⟩:=w;exact B4 (IH.es X ct Hi τ es rs C hrs).1 hw h
 | Dict ks vs pos =>
  simp only[jT,jO,jJ,jS,jG,jP,jR,jM,jL,jH,jN,jI,jQ,jK]at h
  split at h
  ·simp only[cc,cO,ci,cT,cf,dB,cq,cR,cS,cy,cg,ck,cU,cV,cP,dA,cZ,cz,cx,cY,cQ,cr,cX,cW,cw,cv,cu]at h
   cases h;exact AR
  ·rename_i c _ _ v
   split at h
   ·simp only[cc,cO,ci,cT,cf,dB,cq,cR,cS,cy,cg,ck,cU,cV,cP,dA,cZ,cz,cx,cY,cQ,cr,cX,cW,cw,cv,cu]at h
    obtain⟨x,hx,h⟩:=bind_some h;obtain⟨w,hw,h⟩:=bind_some h;obtain⟨v',n'⟩:=w;dsimp only at h
    split at h
    ·rename_i hi
     cases h;exact tL jp (fun _ _ _ q=>q) (IH.e X ct Hi τ v x C hx) hw hi
    ·cases h
   ·simp only[cc,cO,ci,cT,cf,dB,cq,cR,cS,cy,cg,ck,cU,cV,cP,dA,cZ,cz,cx,cY,cQ,cr,cX,cW,cw,cv,cu]at h
    obtain⟨x,hx,h⟩:=bind_some h;obtain⟨w,hw,h⟩:=bind_some h;obtain⟨v',n'⟩:=w;dsimp only at h
    split at h
    ·rename_i hi
     cases h;exact tL wM (fun _ _ _ q=>q) (IH.e X ct Hi τ v x C hx) hw hi
    ·cases h
   ·exact aR h
  ·exact aR h
 | Subscript a i pos =>
  simp only[jT,jO,jJ,jS,jG,jP,jR,jM,jL,jH,jN,jI,jQ,jK]at h
  split at h
  ·rename_i lo hi st sp
   cases st with
   | none =>
    simp only[cc,cO,ci,cT,cf,dB,cq,cR,cS,cy,cg,ck,cU,cV,cP,dA,cZ,cz,cx,cY,cQ,cr,cX,cW,cw,cv,cu]at h;obtain⟨x,hx,h⟩:=bind_some h;obtain⟨l,hl,h⟩:=bind_some h;obtain⟨u,hu,h⟩:=bind_some h;obtain⟨l',hl',h⟩:=bind_some h;obtain⟨u',hu',h⟩:=bind_some h;exact vj (IH.e X ct Hi τ a x C hx) (IH.o X ct Hi τ lo l l' C hl hl') (IH.o X ct Hi τ hi u u' C hu hu') h
   | some st=>exact aR h
  ·rename_i hns
   simp only[cc,cO,ci,cT,cf,dB,cq,cR,cS,cy,cg,ck,cU,cV,cP,dA,cZ,cz,cx,cY,cQ,cr,cX,cW,cw,cv,cu]at h;obtain⟨x,hx,h⟩:=bind_some h;obtain⟨y,hy,h⟩:=bind_some h;refine xJ C.un ?_ (IH.e X ct Hi τ a x C hx) (IH.e X ct Hi τ i y C hy) h;cases i<;>first|rfl|(exfalso;exact hns _ _ _ _ rfl)
 | Call f es ks cp =>
  simp only[jT,jO,jJ,jS,jG,jP,jR,jM,jL,jH,jN,jI,jQ,jK]at h;cases ks with
  | nil =>
   dsimp only at h;cases f with
   | Name x p=>exact IH.call X ct Hi τ x es p cp r C h
   | Attribute o m ap =>
    dsimp only at h
    split at h
    ·rename_i hl
     exact IH.mth X ct Hi τ o m es ap cp r C hl h
    ·exact aR h
   | _=>exact aR h
  | cons k ks=>exact aR h
 | ListComp elt gs scope pos =>
  obtain⟨tg,iter,ifs,N',src,rfl,h1,h2,h3,h4,h5,h6,h7⟩:=lcE IH (Hi:=Hi) C h;intro O σ H Q R q;exact we (BN C.calm zI h1 h2 h3 h4 h5 (jA h6)) (h7 O σ H Q R q)
 | _=>(try simp only[jT,jO,jJ,jS,jG,jP,jR,jM,jL,jH,jN,jI,jQ,jK]at h);exact aR h
theorem tstE{n:Nat}(IH:ik cd n){X:Cx}{ct:Ct}{Hi:Hp}{τ:En}{e:Expr}{b:Bool}(C:bX cd X ct)(h:eA cd (lX (n+1) ct e) τ=some b):eX X Hi τ e b:=by
 have plain:∀{e:Expr},eA cd (.val (al n ct e)) τ=some b->(∀whole,isTrue e X.env whole=(do let v<-whole;standAt e.pos;holding [v] (truthy v)))->eX X Hi τ e b:=by
  intro e h hp;simp only[vI,vK,vL,vJ]at h;obtain⟨x,hx,h⟩:=bind_some h;exact B1 (IH.e X ct Hi τ e x C hx) h hp
 cases e with
 | UnaryOp op a p =>
  simp only[Fc,FZ,Fb,Fa]at h;cases op with
  | Not =>
   simp only[vI,vK,vL,vJ]at h;obtain⟨t,ht,h⟩:=map_some h;subst h;exact C9 (IH.c X ct Hi τ a t C ht)
  | _=>exact plain h fun _=>rfl
 | BoolOp op vs p =>
  simp only[Fc,FZ,Fb,Fa]at h;exact(pJ (fun e b h=>IH.c X ct Hi τ e b C h) h).tc
 | IfExp c a b' p =>
  simp[Fc,FZ,Fb,Fa,vI,vK,vL,vJ,cc,cO,ci,cT,cf,dB,cq,cR,cS,cy,cg,ck,cU,cV,cP,dA,cZ,cz,cx,cY,cQ,cr,cX,cW,cw,cv,cu]at h
 | Compare a ops cs pos =>
  have h:eA cd (.val (al n ct (.Compare a ops cs pos))) τ=some _:=h;simp only[vI,vK,vL,vJ]at h;obtain⟨x,hx,h⟩:=bind_some h;obtain⟨t,rfl,ht⟩:=IH.cm X ct Hi τ a ops cs pos x C hx;cases h;exact ht
 | _=>(try simp only[Fc,FZ,Fb,Fa]at h);exact plain h fun _=>rfl
theorem de:∀n:Nat,ik cd n
 | 0=>by
  refine⟨fun X ct Hi τ e r C h=> ?_,fun X ct Hi τ a ops cs pos r C h=> ?_,fun X ct Hi τ es rs C h=> ?_,fun X ct Hi τ e o i C h=> ?_,fun X ct Hi τ e b C h=> ?_,fun X ct Hi τ x es p pos r C h=> ?_,fun X ct Hi τ o m es ap cp r C hl h=> ?_,fun X ct Hi τ tp e tg xs k b C ht h=> ?_⟩
  ·simp[jT,jO,jJ,jS,jG,jP,jR,jM,jL,jH,jN,jI,jQ,jK,cc,cO,ci,cT,cf,dB,cq,cR,cS,cy,cg,ck,cU,cV,cP,dA,cZ,cz,cx,cY,cQ,cr,cX,cW,cw,cv,cu]at h
  ·simp[jT,jO,jJ,jS,jG,jP,jR,jM,jL,jH,jN,jI,jQ,jK,cc,cO,ci,cT,cf,dB,cq,cR,cS,cy,cg,ck,cU,cV,cP,dA,cZ,cz,cx,cY,cQ,cr,cX,cW,cw,cv,cu]at h
  ·simp[z2n,z2o,vB,vC,cc,cO,ci,cT,cf,dB,cq,cR,cS,cy,cg,ck,cU,cV,cP,dA,cZ,cz,cx,cY,cQ,cr,cX,cW,cw,cv,cu]at h
  ·simp[z2r,z2s,z2t,z0z,z14,cc,cO,ci,cT,cf,dB,cq,cR,cS,cy,cg,ck,cU,cV,cP,dA,cZ,cz,cx,cY,cQ,cr,cX,cW,cw,cv,cu]at h
  ·simp[Fc,FZ,Fb,Fa,vI,vK,vL,vJ,cc,cO,ci,cT,cf,dB,cq,cR,cS,cy,cg,ck,cU,cV,cP,dA,cZ,cz,cx,cY,cQ,cr,cX,cW,cw,cv,cu]at h
  ·simp[z23,z24,cc,cO,ci,cT,cf,dB,cq,cR,cS,cy,cg,ck,cU,cV,cP,dA,cZ,cz,cx,cY,cQ,cr,cX,cW,cw,cv,cu]at h
  ·simp[z2p,z2q,cc,cO,ci,cT,cf,dB,cq,cR,cS,cy,cg,ck,cU,cV,cP,dA,cZ,cz,cx,cY,cQ,cr,cX,cW,cw,cv,cu]at h
  ·simp[z39,z3a,A5,A6,A4,A7,Bo,Bp]at h
 | n+1=>by
  have IH:=de n;refine⟨fun X ct Hi τ e r C h=>expE IH C h,fun X ct Hi τ a ops cs pos r C h=> ?_,fun X ct Hi τ es rs C h=> ?_,fun X ct Hi τ e o i C h hi=> ?_,fun X ct Hi τ e b C h=>tstE IH C h,fun X ct Hi τ x es p pos r C h=>Hg IH C h,fun X ct Hi τ o m es ap cp r C hl h=>mthE IH C hl h,fun X ct Hi τ tp e tg xs k b C ht h=>HI IH C ht h⟩
  ·obtain⟨t,h1,_,h2⟩:=He IH (Hi:=Hi) C h
   exact⟨t,h1,h2⟩
  ·simp only[z2n,z2o]at h
   exact sV (fun e r h=>IH.e X ct Hi τ e r C h) h
  ·cases e with
   | none =>
    simp only[z2r,z2s,z2t,z0z,z14]at h;cases h;cases hi;exact True.intro
   | some e =>
    simp only[z2r,z2s,z2t,z0z,z14]at h;obtain⟨r,hr,h⟩:=map_some h;subst h;simp only[o6]at hi
    split at hi
    ·rename_i j ej
     cases hi;exact⟨r,IH.e X ct Hi τ e r C hr,ej⟩
    ·cases hi
end
end IR
namespace L2
open PySem PySem.Spec PyProof.Rows
section
variable{X:Cx}{pins:List (Addr×Obj)}{σ:St}{H:Hp}{s:Shared}
theorem wA{xn:Str}{ix:Nat}{xpos apos:Pos}{elt target iter:Expr}{ifs:List Expr}{scope:Scope}{pos:Pos}{N' :List Str}{src:List (Option Nat)}{wi:TI}(hc:X.calm=true)(hi:PI X target iter wi)(hsrc:bQ X scope N' src)
  (hkind:scope.kind=.function) (hcell:∀y∈scope.names,y.2=.cell->scope.names.lookup y.1=some .cell) (hnames:∀y∈scope.names,y.2=.local->scope.names.lookup y.1=some .local)
  (hfr:eO X.env.scope scope=true)
  (hs:∀x,foldedSetIterable iter X.env x=pure x) (hN:X.N.Nodup) (hix:X.N[ix]? =some xn) (hxl:Loc X.env.scope xn) (hf:X.fn xn=true\/X.env.scope.names.lookup xn=some .local)
  (hsw:swapsWith (.ListComp elt [⟨target,iter,ifs,0⟩] scope pos) (some (.Name xn xpos)) apos.line X.env=pure true) :
  PS X (.Assign [.Name xn xpos] (.ListComp elt [⟨target,iter,ifs,0⟩] scope pos) apos) (GI (CG X N' src scope target ifs elt wi) (pG ix)):=by
 intro pins s σ H D0 I h;rw[exec_Assign_Name_used xn xpos _ apos hsw];refine Ij (wpAny_standAt (Ij ?_));show wpAny (model X.prog X.w) X.A (comprehension (.ListComp elt [⟨target,iter,ifs,0⟩] scope pos) scope X.env _ (newList []) false _ (some (assign (.Name xn xpos) X.env)) >>= fun _=>pure ()) _ _ _;refine Ij (bD (Q:=fun _ s' =>SP X pins D0 .next s') ?_ fun _ s9 h9=>JB (JB h9));refine se (use:=some (assign (.Name xn xpos) X.env)) hc hi hsrc hkind hcell hnames hfr hs I h fun C a' s2 s4 H2 H3 fp cl m I2 f2 below hCle I4 hn qn _=> ?_;have u4:Un (p7 X.stack) fp H2 H3 s2.heap s4.heap:=I4.base;have IX:Inv X pins σ H3 s4:=I2.call' (s' :=s4) (ch:=fp) I4.os u4 I4.hok I4.bare fun b hb=>⟨(f2 b hb).2.2.2.1,(f2 b hb).2.1,(f2 b hb).2.2.2.2.1,(f2 b hb).2.2.2.2.2⟩;have hC3:H3 C=none:=I4.free;refine wpAny_assign_Name (lY IX hN hix hxl (v:=.ref a') rfl (fun s5 I5 ⟨a,sb,ha⟩=> ?_) hf);have ane:C≠a:=by
  rcases ha with rfl|ha
  ·exact(below _ I2.lt).symm
  ·obtain⟨v,qc⟩:=I2.cell _ _ ha
   exact(below _ qc.lt).symm
 refine⟨m,?_,fun h' hs' => ?_⟩
 ·obtain⟨ob,es,ep,ho,rr⟩:=hn
  exact⟨ob,es,ep,(sb.2 _ ane).trans ho,rr⟩
 ·refine⟨_,H3,I5.turned (t' :=s5.toks) (it:=C) (fun b o ne e=>(hs'.2 b ne).trans e) hC3 (below _ I2.lt).symm (.inr (JO I2.sz hCle)) (fun x c e=> ?_) (fun p hp=> ?_),qn⟩
  ·obtain⟨v,qc⟩:=I2.cell x c e
   exact below _ qc.lt
  ·exact below _ (Iz (I2.pin p hp).1)
end
end L2
namespace IR
open PySem PySem.Spec PyProof.Rows L2
section
variable{X:Cx}{Hi:Hp}{τ:En}{cd:Nat->List PV->Option PV}{ct:Ct}
noncomputable abbrev WS(X:Cx)(st:Stmt)(D:dN)(σ:L2.St)(H:Hp):Prop:=∀(pins:List (Addr×Obj))(s:Shared),Inv X pins σ H s->wpAny (model X.prog X.w) X.A (exec st X.env) (SP X pins D) X.xe s
noncomputable abbrev WSs(X:Cx)(st:List Stmt)(D:dN)(σ:L2.St)(H:Hp):Prop:=∀(pins:List (Addr×Obj))(s:Shared),Inv X pins σ H s->wpAny (model X.prog X.w) X.A (execs st X.env) (SP X pins D) X.xe s
theorem Gq{st:Stmt}:PS X st (fun D σ H=>WS X st D σ H):=fun pins s σ H D I h=>h pins s I
theorem dW{st:List Stmt}:pz X st (fun D σ H=>WSs X st D σ H):=fun pins s σ H D I h=>h pins s I
theorem ws{st:Stmt}{t:TS}{σ:L2.St}{H:Hp}{D:dN}(h:PS X st t)(q:t D σ H):WS X st D σ H:=fun pins s I=>h pins s σ H D I q
theorem wss{st:List Stmt}{t:TS}{σ:L2.St}{H:Hp}{D:dN}(h:pz X st t)(q:t D σ H):WSs X st D σ H:=fun pins s I=>h pins s σ H D I q
variable(X Hi)in
noncomputable def tZ(O:List Addr)(H:Hp)(τ' :En)(P:L2.St->Hp->Prop):Prop:=∀(σ' :L2.St)(H' :Hp)(O' :List Addr),ao X.K Hi O' τ' σ' H' ->σ'.length=X.N.length->aE (aX H O) (aX H' O')->P σ' H'
variable(X Hi)in
noncomputable def yI(fl:Fl)(O:List Addr)(H:Hp)(D:dN):Prop:=match fl with
 | .nx τ' =>tZ X Hi O H τ' D.nx
 | .bk τ' =>tZ X Hi O H τ' D.bk
 | .ct τ' =>tZ X Hi O H τ' D.ct
 | .rt v=>∀u H',aE Hi H' ->Rp X.K Hi true v H' u->D.rt u H'
variable(X Hi τ)in
noncomputable def lH(st:Stmt)(fl:Fl):Prop:=∀(O:List Addr)(σ:L2.St)(H:Hp)(D:dN),ao X.K Hi O τ σ H->σ.length=X.N.length->yI X Hi fl O H D->WS X st D σ H
variable(X Hi τ)in
noncomputable def rO(st:List Stmt)(fl:Fl):Prop:=∀(O:List Addr)(σ:L2.St)(H:Hp)(D:dN),ao X.K Hi O τ σ H->σ.length=X.N.length->yI X Hi fl O H D->WSs X st D σ H
theorem tZ.from{O O' :List Addr}{H H' :Hp}{τ' :En}{P:L2.St->Hp->Prop}(h:tZ X Hi O H τ' P)(s:aE (aX H O) (aX H' O')):tZ X Hi O' H' τ' P:=fun σ2 H2 O2 R hl s2=>h σ2 H2 O2 R hl (s.trans s2)
theorem yI.from{O O' :List Addr}{H H' :Hp}{fl:Fl}{D:dN}(h:yI X Hi fl O H D)(s:aE (aX H O) (aX H' O')):yI X Hi fl O' H' D:=by
 cases fl with
 | nx τ' =>exact tZ.from (show tZ X Hi O H τ' D.nx from h) s
 | bk τ' =>exact tZ.from (show tZ X Hi O H τ' D.bk from h) s
 | ct τ' =>exact tZ.from (show tZ X Hi O H τ' D.ct from h) s
 | rt v=>exact h
theorem iG(C:bX cd X ct){x:Str}{i:Nat}(h:loc ct x=some i):X.N[i]? =some x/\L2.Loc X.env.scope x/\qW x=false/\Bz ct.S x=true:=by
 unfold loc at h
 split at h
 ·rename_i c
  rw[Iu]at c;refine⟨by rw[C.N];exact ed h,?_,by simpa using c.2,?_⟩
  ·unfold L2.Loc
   rw[C.S]
   simpa using c.1
  ·unfold Bz
   have:=c.1;simp only[KD]at this ⊢;exact .inl this
 ·cases h
theorem fS{cap:List Nat}{O:List Addr}{σ:L2.St}{H:Hp}(R:ao X.K Hi O τ σ H):∃O',ao X.K Hi O' (av cap τ) σ H/\aE (aX H O) (aX H O'):=by
 obtain⟨O',R',h⟩:=R.freezes (cap:=cap);exact⟨O',R',sj h⟩
theorem Cd{o:Bool}{i:Nat}{r:RV}{τ' :En}{O:List Addr}{σ:L2.St}{H H' :Hp}{u:V}(R:ao X.K Hi O τ σ H)(s:aE H H')(hi:i<σ.length)(ok:ae X.K Hi O H H' r u)(h:mz o i r τ=some τ') :
  ∃O',ao X.K Hi O' τ' (σ.set i (some u)) H' /\aE (aX H O) (aX H' O'):=by
 unfold mz at h
 split at h
 ·rename_i xs n
  cases h;obtain⟨p,us,rfl,h0,h1,r1⟩:=ok;have hs:aE (aX (del H' p) O) (aX H' (p::O)):=fun b o e=>by
   unfold aX del at e;unfold aX
   split at e
   ·cases e
   ·rename_i nb
    split at e
    ·cases e
    ·rename_i np
     rw[Iq (by simp[np,nb])];exact e
  refine⟨p::O,R.setO hi s h0 h1 (r1.mono hs),fun b o e=> ?_⟩;unfold aX at e ⊢
  split at e
  ·cases e
  ·rename_i nb
   have ne:b≠p:=aM e h0;rw[Iq (by simp[ne,nb])];exact s b o e
 ·rename_i b xs n
  cases h;obtain⟨p,us,o,rfl,h0,h1,ha,r1⟩:=ok;have hs:aE (aX (del H' p) O) (aX H' (p::O)):=fun b o e=>by
   unfold aX del at e;unfold aX
   split at e
   ·cases e
   ·rename_i nb
    split at e
    ·cases e
    ·rename_i np
     rw[Iq (by simp[np,nb])];exact e
  refine⟨p::O,R.setB rfl hi s h0 h1 ha (r1.mono hs),fun b o e=> ?_⟩;unfold aX at e ⊢
  split at e
  ·cases e
  ·rename_i nb
   have ne:b≠p:=aM e h0;rw[Iq (by simp[ne,nb])];exact s b o e
 ·obtain⟨w,hw,h⟩:=map_some h
  obtain⟨v,n⟩:=w;subst h;exact⟨O,(R.ext s).setF hi (ok.keep R s hw),aL s⟩
theorem wc{e:Expr}{x:Str}{p:Pos}{l:Nat}{env:Env}(h:qi e=false\/env.kindOf x≠some .local):swapsWith e (some (.Name x p)) l env=pure false:=by
 rcases h with h|h
 ·cases e<;>first|rfl|cases h
 ·have hk:(env.kindOf x==some NameKind.local)=false:=by simpa using h
  cases e<;>first|rfl|(show(pure (_&&(env.kindOf x==some NameKind.local)&&_&&_):Sem Bool)=pure false;rw[hk,Bool.and_false,LF,LF])
theorem Ed(C:bX cd X ct)(hfn:X.fn=fun _=>true){n:Nat}{x:Str}{i:Nat}{o:Bool}{cap:List Nat}{e:Expr}{xp pos:Pos}{r:RV}{τ' :En}(hx:loc ct x=some i)(hr:aW cd (al n ct e) (av cap τ)=some r)(hp:mz o i r (av cap τ)=some τ') :
  lH X Hi τ (.Assign [.Name x xp] e pos) (.nx τ'):=by
 intro O σ H D R hl q;obtain⟨h1,h2,h3,h4⟩:=iG C hx;obtain⟨O1,R1,s1⟩:=fS (cap:=cap) R;have he:=(de n).e X ct Hi (av cap τ) e r C hr;have hi:i<σ.length:=by rw[hl];exact(Iw.mp h1).1
 have hN:X.N.Nodup:=by rw[C.N];exact C.nd
 have fin:∀u H',aE H H' ->ae X.K Hi O1 H H' r u->D.nx (σ.set i (some u)) H' :=fun u H' s ok=>by
  obtain⟨O2,R2,s2⟩:=Cd R1 s hi ok hp;exact q _ _ O2 R2 (by rw[KJ];exact hl) (s1.trans s2)
 by_cases hc:qi e=false\/X.env.kindOf x≠some .local
 ·refine ws (cG hN h1 h2 af (wc hc) (.inl (by rw[hfn]))) ?_
  exact he O1 σ H _ R1 fin
 ·rw[not_or]at hc
  obtain⟨c1,c2⟩:=hc;have c2:X.env.kindOf x=some .local:=Classical.not_not.mp c2;cases e with
  | ListComp elt gs scope lp =>
   cases n with
   | zero=>simp[jT,jO,jJ,jS,jG,jP,jR,jM,jL,jH,jN,jI,jQ,jK,cc,cO,ci,cT,cf,dB,cq,cR,cS,cy,cg,ck,cU,cV,cP,dA,cZ,cz,cx,cY,cQ,cr,cX,cW,cw,cv,cu]at hr
   | succ n =>
    obtain⟨tg,iter,ifs,N',src,rfl,g1,g2,g3,g4,g5,g6,g7⟩:=lcE (de n) (Hi:=Hi) C hr;obtain⟨b,hb⟩:∃b,swapsWith (.ListComp elt [⟨tg,iter,ifs,0⟩] scope lp) (some (.Name x xp)) pos.line X.env=pure b:=⟨_,rfl⟩;cases b with
    | true=>exact ws (wA C.calm zI g1 g2 g3 g4 g5 (jA g6) hN h1 h2 (.inl (by rw[hfn])) hb) (g7 O1 σ H _ R1 fin)
    | false=>exact ws (cG hN h1 h2 af hb (.inl (by rw[hfn]))) (he O1 σ H _ R1 fin)
  | SetComp a b c d=>exact aR (by cases n<;>exact hr)
  | DictComp a b c d e=>exact aR (by cases n<;>exact hr)
  | _=>exact absurd rfl c1
theorem CZ(C:bX cd X ct){n:Nat}{cap:List Nat}{e:Expr}{pos:Pos}{r:RV}{v:PV}(hr:aW cd (al n ct e) (av cap τ)=some r)(hk:r.keep=some (v,true)):lH X Hi τ (.Return (some e) pos) (.rt v):=by
 intro O σ H D R hl q;obtain⟨O1,R1,s1⟩:=fS (cap:=cap) R;refine ws (ji af) ?_;exact(de n).e X ct Hi _ e r C hr O1 σ H _ R1 fun u H' s ok=>q u H' (R.same.trans s) ((ok.keep R1 s hk).mono aY)
theorem yx{pos:Pos}:lH X Hi τ (.Return none pos) (.rt .non):=by
 intro O σ H D R hl q;exact ws y7 (q _ _ R.same (Rp.non.mpr rfl))
theorem DX{c:Expr}{a b:List Stmt}{pos:Pos}{t:Bool}{fl:Fl}(hc:eX X Hi τ c t)(h:rO X Hi τ (if t=true then a else b) fl):lH X Hi τ (.If c a b pos) fl:=by
 intro O σ H D R hl q;refine ws (sK ir dW dW) ?_;refine hc O σ H _ R fun H1 s1=> ?_;cases t with
 | true=>exact qe ((show rO X Hi τ a fl from h) O σ H1 _ (R.ext s1) hl (q.from (aL s1)))
 | false=>exact qf ((show rO X Hi τ b fl from h) O σ H1 _ (R.ext s1) hl (q.from (aL s1)))
theorem sZ(C:bX cd X ct)(hfn:X.fn=fun _=>true):∀{es:List Expr}{is:List Nat},locs ct es=some is->∃t,IV X es t/\(assignEach es X.env).length=is.length/\(assignEach es X.env).findIdx? (·.1)=none /\
  ∀(O:List Addr)(τ τ' :En)(σ:L2.St)(H:Hp)(n:Bool)(xs:List PV)(us:List V)(Q:L2.St->Hp->Prop),ao X.K Hi O τ σ H->σ.length=X.N.length->aJ X.K Hi n xs (aX H O) us->dJ n is xs τ=some τ' ->
   (∀σ',ao X.K Hi O τ' σ' H->σ'.length=X.N.length->Q σ' H)->t us σ H Q
 | [],is,h=>by
  cases h;refine⟨_,i8,rfl,rfl,fun O τ τ' σ H n xs us Q R hl r e q=> ?_⟩;cases xs with
  | nil =>
   unfold aJ at r;subst r;cases e;exact⟨rfl,q σ R hl⟩
  | cons x xs=>cases e
 | .Name x p::es,is,h=>by
  have h:(loc ct x).bind (fun i=>(locs ct es).map (i::·))=some is:=h;obtain⟨i,hi,h⟩:=bind_some h;obtain⟨js,hj,h⟩:=map_some h;subst h;obtain⟨h1,h2,h3,h4⟩:=iG C hi;obtain⟨t,pt,hlen,hf,k⟩:=sZ C hfn hj;refine⟨_,cH (bc (by rw[C.N];exact C.nd) h1 h2 (.inl (by rw[hfn]))) pt rfl,?_,?_,fun O τ τ' σ H n xs us Q R hl r e q=> ?_⟩
  ·show(assignEach es X.env).length+1=_
   rw[hlen];rfl
  ·show List.findIdx? (·.1) ((false,assign (.Name x p) X.env)::assignEach es X.env)=none
   rw[List.findIdx?_cons,hf];rfl
  ·cases xs with
   | nil=>cases e
   | cons y ys =>
    unfold aJ at r;obtain⟨u,vs,rfl,a,b⟩:=r;have hi' :i<σ.length:=by rw[hl];exact(Iw.mp h1).1
    exact⟨u,vs,rfl,k O _ τ' _ H n ys vs Q (R.setF hi' a.up) (by rw[KJ];exact hl) b e q⟩
 | .BoolOp .. ::_,_,h=>by cases h
 | .NamedExpr .. ::_,_,h=>by cases h
 | .BinOp .. ::_,_,h=>by cases h
 | .UnaryOp .. ::_,_,h=>by cases h
 | .Lambda .. ::_,_,h=>by cases h
 | .IfExp .. ::_,_,h=>by cases h
 | .Dict .. ::_,_,h=>by cases h
 | .Set .. ::_,_,h=>by cases h
 | .ListComp .. ::_,_,h=>by cases h
 | .SetComp .. ::_,_,h=>by cases h
 | .DictComp .. ::_,_,h=>by cases h
 | .GeneratorExp .. ::_,_,h=>by cases h
 | .Await .. ::_,_,h=>by cases h
 | .Yield .. ::_,_,h=>by cases h
 | .YieldFrom .. ::_,_,h=>by cases h
 | .Compare .. ::_,_,h=>by cases h
 | .Call .. ::_,_,h=>by cases h
 | .FormattedValue .. ::_,_,h=>by cases h
 | .JoinedStr .. ::_,_,h=>by cases h
 | .Constant .. ::_,_,h=>by cases h
 | .Attribute .. ::_,_,h=>by cases h
 | .Subscript .. ::_,_,h=>by cases h
 | .Starred .. ::_,_,h=>by cases h
 | .List .. ::_,_,h=>by cases h
 | .Tuple .. ::_,_,h=>by cases h
 | .Slice .. ::_,_,h=>by cases h
theorem BF(C:bX cd X ct)(hfn:X.fn=fun _=>true){tg:Expr}{is:List Nat}{one:Bool}(h:tq ct tg=some (is,one)):(one=false->∃ts k p,tg=.Tuple ts k p)/\∃g,PG X tg g /\
  ∀(O:List Addr)(τ τ' :En)(σ:L2.St)(H:Hp)(n:Bool)(x:PV)(u:V)(Q:L2.St->Hp->Prop),ao X.K Hi O τ σ H->σ.length=X.N.length->Rp X.K Hi n x (aX H O) u->eG is one n x τ=some τ' ->
   (∀σ',ao X.K Hi O τ' σ' H->σ'.length=X.N.length->Q σ' H)->g u σ H Q:=by
 cases tg with
 | Name x p =>
  obtain⟨i,hi,h⟩:=map_some (show(loc ct x).map (fun i=>([i],true))=some (is,one)from h);cases h;obtain⟨h1,h2,h3,h4⟩:=iG C hi;refine⟨fun z=>(by cases z),_,bc (by rw[C.N];exact C.nd) h1 h2 (.inl (by rw[hfn])),fun O τ τ' σ H n x u Q R hl r e q=> ?_⟩;have e:some (τ.set i (.frz x (n||imm x)))=some τ' :=e;cases e;have hi' :i<σ.length:=by rw[hl];exact(Iw.mp h1).1
  exact q _ (R.setF hi' r.up) (by rw[KJ];exact hl)
 | Tuple es k p =>
  obtain⟨js,hj,h⟩:=map_some (show(locs ct es).map (fun is=>(is,false))=some (is,one)from h);cases h;obtain⟨t,pt,hlen,hf,kk⟩:=sZ (Hi:=Hi) C hfn hj;refine⟨fun _=>⟨_,_,_,rfl⟩,_,m6 C.calm pt hlen hf,fun O τ τ' σ H n x u Q R hl r e q=> ?_⟩;cases x with
  | tup xs =>
   obtain⟨a,us,rfl,l,r2⟩:=Rp.tup.mp r;have e:dJ n is xs τ=some τ' :=e;have hz:∀{is:List Nat}{xs:List PV}{τ τ' :En},dJ n is xs τ=some τ' ->xs.length=is.length:=by
    intro is
    induction is with
    | nil=>intro xs τ τ' e;cases xs with
     | nil=>rfl
     | cons _ _=>cases e
    | cons i is ih=>intro xs τ τ' e;cases xs with
     | nil=>cases e
     | cons x xs=>rw[JI,JI,ih (show dJ n is xs _=some τ' from e)]
   exact⟨a,us,rfl,(aY (O:=O)).tup l,by rw[<- r2.len];exact hz e,kk O τ τ' σ H n xs us Q R hl r2 e q⟩
  | _=>cases e
 | _=>cases h
theorem Dk(C:bX cd X ct)(hfn:X.fn=fun _=>true){tg it:Expr}{is:List Nat}{one:Bool}{cap:List Nat}{n:Nat}{body:List Stmt}{pos:Pos}{xs:List PV}{k:Bool}{bd:En->Option Fl}{fl:Fl}(ht:tq ct tg=some (is,one))
  (hi:lB cd (vD n ct (!one) it) (av cap τ)=some (xs,k,false)) (hb:∀τ fl,bd τ=some fl->rO X Hi τ body fl) (h:j4 (eG is one k) bd xs (av cap τ)=some fl):lH X Hi τ (.For tg it body [] pos) fl:=by
 intro O σ H D R hl q;obtain⟨O1,R1,s1⟩:=fS (cap:=cap) R;obtain⟨htp,g,pg,kg⟩:=BF (Hi:=Hi) C hfn ht;obtain⟨jE,hset⟩:=(de n).t X ct Hi (av cap τ) (!one) it tg xs k false C (fun z=>htp (by simpa using z)) hi;refine ws (jj C.xe C.calm zI pg dW (jA hset)) ?_;refine jE O1 σ H _ R1 fun J H1 sJ En=> ?_;rw[Iq Ir]at En;have s2:aE (aX H O) (aX H1 O1):=s1.trans (aL sJ);refine⟨fun i m σ' G=>m=xs.length-i/\i<=xs.length/\∃(P:List Addr)(υ:IR.En),ao X.K Hi P υ σ' G/\σ'.length=X.N.length/\aE (aX H1 O1) (aX G P)/\j4 (eG is one k) bd (xs.drop i) υ=some fl,⟨xs.length,by simp,JR _,O1,_,R1.ext sJ,hl,aE.refl _,h⟩,?_⟩;rintro i m σ' G ⟨rfl,hi',P,υ,RP,hlP,sP,hrun⟩;have C7:A1 (aX H1 O1) G P:=⟨RP.lsts,sP⟩
 by_cases hlt:i<xs.length
 ·refine .inr ⟨En.go G P i C7 hlt,fun σ2 G2=>∃m',m' <xs.length-i/\(m' =xs.length-(i+1)/\i+1<=xs.length/\∃(P:List Addr)(υ:IR.En),ao X.K Hi P υ σ2 G2/\σ2.length=X.N.length/\aE (aX H1 O1) (aX G2 P)/\j4 (eG is one k) bd (xs.drop (i+1)) υ=some fl),
   fun σ2 G2 h=>h,fun u G' y=> ?_⟩
  obtain⟨sG,x,hx,rx⟩:=En.yld G P i u G' C7 hlt y;have hd:xs.drop i=x::xs.drop (i+1):=by
   rw[Li hlt];rw[Iv hlt]at hx;rw[JF hx]
  rw[hd]at hrun;unfold j4 at hrun;obtain⟨υ1,h1,hrun⟩:=bind_some hrun;obtain⟨f,hf,hrun⟩:=bind_some hrun;refine kg P υ υ1 σ' G' k x u _ (RP.ext sG) hlP rx h1 fun σ1 R2 hl1=> ?_;have s3:aE (aX H1 O1) (aX G' P):=sP.trans (aL sG);refine hb υ1 f hf P σ1 G' _ R2 hl1 ?_;cases f with
  | nx υ2=>exact fun σ3 G3 P3 R3 hl3 s4=>⟨_,by omega,rfl,hlt,P3,υ2,R3,hl3,s3.trans s4,hrun⟩
  | ct υ2=>exact fun σ3 G3 P3 R3 hl3 s4=>⟨_,by omega,rfl,hlt,P3,υ2,R3,hl3,s3.trans s4,hrun⟩
  | bk υ2 =>
   have hrun:some (Fl.nx υ2)=some fl:=hrun;cases hrun;exact fun σ3 G3 P3 R3 hl3 s4=>q σ3 G3 P3 R3 hl3 (s2.trans (s3.trans s4))
  | rt v =>
   have hrun:some (Fl.rt v)=some fl:=hrun;cases hrun;exact q
 ·have e:i=xs.length:=by omega
  subst e;rw[List.drop_length]at hrun;have hrun:some (Fl.nx υ)=some fl:=hrun;cases hrun;exact .inl ⟨En.stop G P C7,q σ' G P RP hlP (s2.trans sP)⟩
theorem vN(C:bX cd X ct){c:Expr}{body:List Stmt}{pos:Pos}{ce:En->Option Bool}{bd:En->Option Fl}{fl:Fl}(hc:∀τ b,ce τ=some b->eX X Hi τ c b)(hb:∀τ fl,bd τ=some fl->rO X Hi τ body fl){fu:Nat}(h:yN ce bd fu τ=some fl) :
  lH X Hi τ (.While c body [] pos) fl:=by
 intro O σ H D R hl q;refine ws (v9 C.xe ir dW) ?_;refine⟨fun m σ' G=>∃(P:List Addr)(υ:IR.En),ao X.K Hi P υ σ' G/\σ'.length=X.N.length/\aE (aX H O) (aX G P)/\yN ce bd m υ=some fl,⟨fu,O,τ,R,hl,aE.refl _,h⟩,?_⟩;rintro m σ' G ⟨P,υ,RP,hlP,sP,hrun⟩;cases m with
 | zero=>cases hrun
 | succ m =>
  unfold yN at hrun;obtain⟨b,hbv,hrun⟩:=bind_some hrun;refine hc υ b hbv P σ' G _ RP fun G1 s1=> ?_;cases b with
  | false =>
   rw[Iq Ir]at hrun ⊢;cases hrun;exact q σ' G1 P (RP.ext s1) hlP (sP.trans (aL s1))
  | true =>
   rw[Ix rfl]at hrun ⊢;obtain⟨f,hf,hrun⟩:=bind_some hrun;refine⟨fun σ2 G2=>∃m',m' <m+1/\∃(P:List Addr)(υ:IR.En),ao X.K Hi P υ σ2 G2/\σ2.length=X.N.length/\aE (aX H O) (aX G2 P)/\yN ce bd m' υ=some fl,fun σ2 G2 h=>h,?_⟩;have s3:aE (aX H O) (aX G1 P):=sP.trans (aL s1);refine hb υ f hf P σ' G1 _ (RP.ext s1) hlP ?_;cases f with
   | nx υ2=>exact fun σ3 G3 P3 R3 hl3 s4=>⟨m,by omega,P3,υ2,R3,hl3,s3.trans s4,hrun⟩
   | ct υ2=>exact fun σ3 G3 P3 R3 hl3 s4=>⟨m,by omega,P3,υ2,R3,hl3,s3.trans s4,hrun⟩
   | bk υ2 =>
    have hrun:some (Fl.nx υ2)=some fl:=hrun;cases hrun;exact fun σ3 G3 P3 R3 hl3 s4=>q σ3 G3 P3 R3 hl3 (s3.trans s4)
   | rt v =>
    have hrun:some (Fl.rt v)=some fl:=hrun;cases hrun;exact q
theorem ye{i:Nat}{xs ys:List PV}{n m:Bool}{O:List Addr}{σ:L2.St}{H:Hp}{l:Addr}{us:List V}{P:L2.St->Hp->Prop}(R:ao X.K Hi O τ σ H)(hl:σ.length=X.N.length)(e:τ[i]? =some (.own xs n))(g:σ[i]? =some (some (.ref l)))(r:aJ X.K Hi m ys (aX H O) us)
  (q:tZ X Hi O H (τ.set i (.own ys m)) P):P σ (L2.upd H l (.lst us)):=by
 have R2:=R.upd e g r;refine q σ _ O R2 hl fun b o z=> ?_;obtain⟨l',vs,g1,g2,_⟩:=R.owns i xs n e;rw[g]at g1;cases g1;unfold aX at z ⊢
 split at z
 ·cases z
 ·rename_i nb
  have ne:b≠l:=fun c=>nb (c▸g2);rw[Iq nb,aD ne];exact z
theorem Ef(C:bX cd X ct){n:Nat}{x m:Str}{i:Nat}{cap:List Nat}{a:Expr}{xp ap cp pos:Pos}{r:RV}{v:PV}{k j:Bool}{xs:List PV}(hx:loc ct x=some i)(hm:m="append")(hline:(ap.endLine==cp.line)=true)(hs:isStar a=false)
  (hr:aW cd (al n ct a) (av cap τ)=some r) (hk:r.keep=some (v,k)) (ho:(av cap τ)[i]? =some (.own xs j)) (hz:xs.length<LN) :
  lH X Hi τ (.Expr (.Call (.Attribute (.Name x xp) m ap) [a] [] cp) pos) (.nx ((av cap τ).set i (.own (xs++[v]) (j&&k)))):=by
 intro O σ H D R hl q;subst hm;obtain⟨h1,h2,h3,h4⟩:=iG C hx;obtain⟨O1,R1,s1⟩:=fS (cap:=cap) R;obtain⟨o1,o2,o3⟩:=bz h3;refine ws (y9 (oV PySem.F.plainAttrs_list PySem.F.slot_list_append PySem.F.type_list_append lu (qR h1 (vQ C.S h4) o1 o2) (aZ af bC (aO hs)) rfl (by rw[aO hs];rfl) hline (aO hs) rfl) rfl) ?_;obtain⟨l,us,g1,g2,g3,g4⟩:=R1.owns i xs j ho;refine⟨_,g1,.inl ⟨rfl,us,bN.of g3⟩,?_⟩;refine(de n).e X ct Hi _ a r C hr O1 σ H _ R1 fun u H' s ok=> ?_;have kp:=ok.keep R1 s hk;have hlen:=g4.len;refine⟨l,us,u,rfl,rfl,s _ _ g3,by rw[dQ,<-hlen];exact hz,?_⟩;exact ye (R1.ext s) hl ho g1 (DG (g4.mono (aL s)) (.cons kp .nil)) (tZ.from q (s1.trans (aL s)))
theorem aJ.dropLast{n:Bool}{xs:List PV}{H:Hp}{us:List V}(h:aJ X.K Hi n xs H us):aJ X.K Hi n xs.dropLast H us.dropLast:=by
 rw[List.dropLast_eq_take,List.dropLast_eq_take,<-h.len];exact h.take _
theorem yF(C:bX cd X ct)(hfn:X.fn=fun _=>true){n:Nat}{x:Str}{i:Nat}{op:Operator}{e:Expr}{xp pos:Pos}{r:RV}{v w:Int}{k:Bool}{g:Int->Int->Int}(hx:loc ct x=some i)(hop:PIp X op (ipI g))(hr:aW cd (al n ct e) τ=some r)(hv:τ[i]? =some (.frz (.int v) k))(hw:r.val=.int w) :
  lH X Hi τ (.AugAssign (.Name x xp) op e pos) (.nx (τ.set i (.frz (.int (g v w)) true))):=by
 intro O σ H D R hl q;obtain⟨h1,h2,h3,h4⟩:=iG C hx;have hi:i<σ.length:=by rw[hl];exact(Iw.mp h1).1
 have hN:X.N.Nodup:=by rw[C.N];exact C.nd
 obtain⟨u,hu,ru⟩:=R.frz i _ _ hv;cases Rp.int.mp ru;refine ws (Ci hN h1 h2 af hop (.inl (by rw[hfn]))) ⟨_,hu,?_⟩;refine(de n).e X ct Hi _ e r C hr O σ H _ R fun u' H' s ok=>⟨v,w,rfl,ok.int R s hw,?_⟩;exact q _ _ O ((R.ext s).setF hi (Rp.int.mpr rfl)) (by rw[KJ];exact hl) (aL s)
end
section
variable{cd:Nat->List PV->Option PV}{fu:Nat}
structure Ii(cd:Nat->List PV->Option PV)(fu:Nat)(n:Nat):Prop where
 s:∀(X:Cx)(ct:Ct)(Hi:Hp)(τ:En)(st:Stmt)(fl:Fl),bX cd X ct->(X.fn=fun _=>true)->cB cd fu (kT n ct st) τ=some fl->lH X Hi τ st fl
 ss:∀(X:Cx)(ct:Ct)(Hi:Hp)(τ:En)(st:List Stmt)(fl:Fl),bX cd X ct->(X.fn=fun _=>true)->bJ cd fu (bA n ct st) τ=some fl->rO X Hi τ st fl
theorem bE{τ:En}{r:Fl}(h:cB cd fu .never τ=some r){P:Prop}:P:=by simp[gM,ff,fm,fk,gB,gF,fe,fw,gJ,gH,gO,gA,ft,fq,gI,fj,fh,fg,gG,gN,gL,gK,gE,gC,fo,fz]at h
theorem stE{n:Nat}(IH:Ii cd fu n){X:Cx}{ct:Ct}{Hi:Hp}{τ:En}{st:Stmt}{fl:Fl}(C:bX cd X ct)(hfn:X.fn=fun _=>true)(h:cB cd fu (kT (n+1) ct st) τ=some fl):lH X Hi τ st fl:=by
 cases st with
 | Return v pos =>
  simp only[lU,lK,lT,lN,lO,lJ,lM,lR,lQ,lP,lL,lS]at h;cases v with
  | none =>
   simp only[gM,ff,fm,fk,gB,gF,fe,fw,gJ,gH,gO,gA,ft,fq,gI,fj,fh,fg,gG,gN,gL,gK,gE,gC,fo,fz]at h;cases h;exact yx
  | some e =>
   simp only[gM,ff,fm,fk,gB,gF,fe,fw,gJ,gH,gO,gA,ft,fq,gI,fj,fh,fg,gG,gN,gL,gK,gE,gC,fo,fz]at h;obtain⟨r,hr,h⟩:=bind_some h;obtain⟨w,hk,h⟩:=bind_some h;obtain⟨v,m⟩:=w;dsimp only at h
   split at h
   ·rename_i hm
    cases h;subst hm;exact CZ C hr hk
   ·cases h
 | Assign ts e pos =>
  simp only[lU,lK,lT,lN,lO,lJ,lM,lR,lQ,lP,lL,lS]at h
  split at h
  ·rename_i x xp
   cases hx:loc ct x with
   | none=>rw[hx]at h;exact bE h
   | some i =>
    rw[hx]at h;dsimp only at h;simp only[gM,ff,fm,fk,gB,gF,fe,fw,gJ,gH,gO,gA,ft,fq,gI,fj,fh,fg,gG,gN,gL,gK,gE,gC,fo,fz]at h;obtain⟨r,hr,h⟩:=bind_some h;obtain⟨τ',hp',h⟩:=map_some h;subst h;exact Ed C hfn hx hr hp'
  ·exact bE h
 | If c a b pos =>
  simp only[lU,lK,lT,lN,lO,lJ,lM,lR,lQ,lP,lL,lS,gM,ff,fm,fk,gB,gF,fe,fw,gJ,gH,gO,gA,ft,fq,gI,fj,fh,fg,gG,gN,gL,gK,gE,gC,fo,fz]at h;obtain⟨t,ht,h⟩:=bind_some h;refine DX ((de n).c X ct Hi τ c t C ht) ?_;cases t with
  | true=>exact IH.ss X ct Hi τ a fl C hfn h
  | false=>exact IH.ss X ct Hi τ b fl C hfn h
 | For tg it body els pos =>
  simp only[lU,lK,lT,lN,lO,lJ,lM,lR,lQ,lP,lL,lS]at h;cases els with
  | cons _ _=>exact bE h
  | nil =>
   dsimp only at h;cases ht:tq ct tg with
   | none=>rw[ht]at h;exact bE h
   | some w =>
    obtain⟨is,one⟩:=w;rw[ht]at h;simp only[gM,ff,fm,fk,gB,gF,fe,fw,gJ,gH,gO,gA,ft,fq,gI,fj,fh,fg,gG,gN,gL,gK,gE,gC,fo,fz]at h;obtain⟨w,hw,h⟩:=bind_some h;obtain⟨xs,k,b⟩:=w;dsimp only at h;cases b with
    | true=>cases h
    | false=>exact Dk C hfn ht hw (fun τ fl h=>IH.ss X ct Hi τ body fl C hfn h) h
 | While c body els pos =>
  simp only[lU,lK,lT,lN,lO,lJ,lM,lR,lQ,lP,lL,lS]at h;cases els with
  | cons _ _=>exact bE h
  | nil =>
   simp only[gM,ff,fm,fk,gB,gF,fe,fw,gJ,gH,gO,gA,ft,fq,gI,fj,fh,fg,gG,gN,gL,gK,gE,gC,fo,fz]at h;exact vN C (fun τ b h=>(de n).c X ct Hi τ c b C h) (fun τ fl h=>IH.ss X ct Hi τ body fl C hfn h) h
 | Pass pos =>
  simp only[lU,lK,lT,lN,lO,lJ,lM,lR,lQ,lP,lL,lS,gM,ff,fm,fk,gB,gF,fe,fw,gJ,gH,gO,gA,ft,fq,gI,fj,fh,fg,gG,gN,gL,gK,gE,gC,fo,fz]at h;cases h;exact fun O σ H D R hl q=>ws y8 (q σ H O R hl (aE.refl _))
 | Break pos =>
  simp only[lU,lK,lT,lN,lO,lJ,lM,lR,lQ,lP,lL,lS,gM,ff,fm,fk,gB,gF,fe,fw,gJ,gH,gO,gA,ft,fq,gI,fj,fh,fg,gG,gN,gL,gK,gE,gC,fo,fz]at h;cases h;exact fun O σ H D R hl q=>ws wB (q σ H O R hl (aE.refl _))
 | Continue pos =>
  simp only[lU,lK,lT,lN,lO,lJ,lM,lR,lQ,lP,lL,lS,gM,ff,fm,fk,gB,gF,fe,fw,gJ,gH,gO,gA,ft,fq,gI,fj,fh,fg,gG,gN,gL,gK,gE,gC,fo,fz]at h;cases h;exact fun O σ H D R hl q=>ws oP (q σ H O R hl (aE.refl _))
 | Expr e pos =>
  simp only[lU,lK,lT,lN,lO,lJ,lM,lR,lQ,lP,lL,lS]at h
  split at h
  ·rename_i x xp m ap es cp
   split at h
   ·rename_i hline
    cases hx:loc ct x with
    | none=>rw[hx]at h;exact bE h
    | some i =>
     rw[hx]at h;dsimp only at h
     split at h
     ·rename_i a
      split at h
      ·exact bE h
      ·rename_i hs
       split at h
       ·rename_i hm
        simp only[gM,ff,fm,fk,gB,gF,fe,fw,gJ,gH,gO,gA,ft,fq,gI,fj,fh,fg,gG,gN,gL,gK,gE,gC,fo,fz]at h;obtain⟨r,hr,h⟩:=bind_some h;obtain⟨w,hk,h⟩:=bind_some h;obtain⟨v,k⟩:=w
        split at h
        ·rename_i xs j ho
         split at h
         ·rename_i hz
          cases h;exact Ef C hx (JN hm) hline (Jz.mpr hs) hr hk ho hz
         ·cases h
        ·cases h
       ·exact bE h
     ·exact bE h
   ·exact bE h
  ·exact bE h
 | AugAssign t op e pos =>
  simp only[lU,lK,lT,lN,lO,lJ,lM,lR,lQ,lP,lL,lS]at h
  split at h
  ·rename_i x xp
   cases hx:loc ct x with
   | none=>rw[hx]at h;exact bE h
   | some i =>
    rw[hx]at h;simp only[gM,ff,fm,fk,gB,gF,fe,fw,gJ,gH,gO,gA,ft,fq,gI,fj,fh,fg,gG,gN,gL,gK,gE,gC,fo,fz]at h;obtain⟨r,hr,h⟩:=bind_some h
    split at h
    ·rename_i hv hw
     cases h;exact yF C hfn hx DU hr (by assumption) (by assumption)
    ·rename_i hv hw
     cases h;exact yF C hfn hx DT hr (by assumption) (by assumption)
    ·cases h
  ·exact bE h
 | Raise e c pos =>
  simp only[lU,lK,lT,lN,lO,lJ,lM,lR,lQ,lP,lL,lS]at h
  split at h
  ·split at h
   ·simp[gM,ff,fm,fk,gB,gF,fe,fw,gJ,gH,gO,gA,ft,fq,gI,fj,fh,fg,gG,gN,gL,gK,gE,gC,fo,fz]at h
   ·exact bE h
  ·exact bE h
 | _=>(try simp only[lU,lK,lT,lN,lO,lJ,lM,lR,lQ,lP,lL,lS]at h);exact bE h
theorem Aw:∀n:Nat,Ii cd fu n
 | 0=>by
  refine⟨fun X ct Hi τ st fl C hfn h=> ?_,fun X ct Hi τ st fl C hfn h=> ?_⟩
  ·simp[lU,lK,lT,lN,lO,lJ,lM,lR,lQ,lP,lL,lS,gM,ff,fm,fk,gB,gF,fe,fw,gJ,gH,gO,gA,ft,fq,gI,fj,fh,fg,gG,gN,gL,gK,gE,gC,fo,fz]at h
  ·simp[FP,FN,FO,yV,yW,gM,ff,fm,fk,gB,gF,fe,fw,gJ,gH,gO,gA,ft,fq,gI,fj,fh,fg,gG,gN,gL,gK,gE,gC,fo,fz]at h
 | n+1=>by
  have IH:=Aw n;refine⟨fun X ct Hi τ st fl C hfn h=>stE IH C hfn h,fun X ct Hi τ st fl C hfn h=> ?_⟩;cases st with
  | nil =>
   simp only[FP,FN,FO,yV,yW]at h;cases h;exact fun O σ H D R hl q=>wss sH (q σ H O R hl (aE.refl _))
  | cons st ss =>
   simp only[FP,FN,FO]at h;simp only[yV,yW]at h;obtain⟨f,hf,h⟩:=bind_some h;have h1:=IH.s X ct Hi τ st f C hfn hf;intro O σ H D R hl q;refine wss (bZ Gq dW) ?_;refine h1 O σ H _ R hl ?_;cases f with
   | nx τ1=>exact fun σ1 H1 O1 R1 hl1 s1=>IH.ss X ct Hi τ1 ss fl C hfn h O1 σ1 H1 D R1 hl1 (q.from s1)
   | bk τ1 =>
    have h:some (Fl.bk τ1)=some fl:=h;cases h;exact q
   | ct τ1 =>
    have h:some (Fl.ct τ1)=some fl:=h;cases h;exact q
   | rt v =>
    have h:some (Fl.rt v)=some fl:=h;cases h;exact q
end
theorem mK{K:W.Frag}{H:Hp}{d:FD}{N:List Str}{pvs:List PV}{vs:List V}(hn:d.nn=N.length)(r:aJ K H false pvs H vs):ao K H [] (entry d pvs) (start N vs) H:=by
 have hl:=r.len;have at_:∀(i:Nat)(t:TV),(entry d pvs)[i]? =some t->t=.un\/∃v u,t=.frz v (imm v)/\(start N vs)[i]? =some (some u)/\Rp K H false v H u:=fun i t e=>by
  unfold entry at e
  by_cases hi:i<pvs.length
  ·rw[Jx (by simpa using hi),Iy]at e
   have hv:pvs[i]? =some pvs[i]:=by simp
   rw[hv]at e;cases e;obtain⟨u,hu,ru⟩:=r.at hv;refine .inr ⟨_,u,rfl,?_,ru⟩;unfold L2.start;rw[Jx (by rw[Ik];omega),Iy,hu];rfl
  ·rw[Jv (by simpa using hi),List.getElem?_replicate]at e
   split at e
   ·cases e
    exact .inl rfl
   ·cases e
 refine⟨aE.refl _,fun l hl=>(by cases hl),fun i v n e=> ?_,fun i t b xs n e ht=> ?_,fun i j t t' x y l e1 ht e2 ht' h1 h2=> ?_⟩
 ·rcases at_ i _ e with z|⟨v',u,z,h1,h2⟩
  ·cases z
  ·cases z
   refine⟨u,h1,?_⟩;rw[sq];cases him:imm v with
   | true=>exact Rp.imm him ⟨fun _ _ e=>e,fun _ _ _ e=>e⟩ h2
   | false=>exact h2
 ·rcases at_ i _ e with z|⟨v',u,z,h1,h2⟩<;>(subst z;cases ht)
 ·rcases at_ i _ e1 with z|⟨v',u,z,h1,h2⟩<;>(subst z;cases ht)
theorem DJ{p:Program}{w:World}{K:W.Frag}{mg:Str->Option Value}{base:Heap}{P:Nat->Option FD}{k f:Nat}{a:Addr}{fd:FuncData}{ps:List Str}(F:bi p w K mg base p5 k a fd ps (yQ K (aH P k f)))
  (h:∀ns:List Int,ns.length<=63->aH P k f [.lst (ns.map PV.int)]=some (.bl true)):bi p w K mg base p5 k a fd ps (sA K) :=
 F.imp fun vs H Q E z=>by
  obtain⟨l,ns,rfl,hS,h63,q⟩:=z;refine⟨[.lst (ns.map PV.int)],.bl true,.cons (Rp.lst.mpr ⟨l,_,rfl,(fun z=>by cases z),hS,aJ.ints.mpr rfl⟩) .nil,h ns h63,fun u H' s r=> ?_⟩;rw[Rp.bl.mp r];exact q H'
section
variable{K:W.Frag}{mg:Str->Option Value}{P:Nat->Option FD}{F0:List (Str×Nat)}{G0:List (Str×PV)}{B0:List Str}
theorem gnil:∀(x:Str)(v:PV),([]:List (Str×PV)).lookup x=some v->∃u w,mg x=some u/\RelV w u/\∀Hi n H,Rp K Hi n v H w:=fun x f h=>by cases h
theorem sy{x0:Str}{v0:PV}{r:List (Str×PV)}(h:∃u w,mg x0=some u/\RelV w u/\∀Hi n H,Rp K Hi n v0 H w)(hr:∀(x:Str) (v:PV),r.lookup x=some v->∃u w,mg x=some u/\RelV w u/\∀Hi n H,Rp K Hi n v H w) :
  ∀(x:Str)(v:PV),((x0,v0)::r).lookup x=some v->∃u w,mg x=some u/\RelV w u/\∀Hi n H,Rp K Hi n v H w:=fun x f e=>by
 rw[JY]at e
 split at e
 ·rename_i c
  cases e;rw[JN c];exact h
 ·exact hr x f e
theorem bnil:∀(x:Str),([]:List Str).contains x=true->mg x=none:=fun x h=>by simp at h
theorem dG{x0:Str}{r:List Str}(h:mg x0=none)(hr:∀(x:Str),r.contains x=true->mg x=none):∀(x:Str),(x0::r).contains x=true->mg x=none:=fun x e=>by
 rw[K5,KD]at e
 rcases e with e|e
 ·rw[JN e]
  exact h
 ·exact hr x e
end
theorem ku{α:Type}{us:List α}(h:us.length=1):∃a,us=[a]:=by
 cases us with
 | nil=>cases h
 | cons a us=>cases us with
  | nil=>exact⟨a,rfl⟩
  | cons b us=>cases h
theorem nC{α:Type}{us:List α}(h:us.length=2):∃a b,us=[a,b]:=by
 cases us with
 | nil=>cases h
 | cons a us=>obtain⟨b,rfl⟩:=ku (La h);exact⟨a,b,rfl⟩
theorem kr{α:Type}{us:List α}(h:us.length=3):∃a b c,us=[a,b,c]:=by
 cases us with
 | nil=>cases h
 | cons a us=>obtain⟨b,c,rfl⟩:=nC (La h);exact⟨a,b,c,rfl⟩
theorem DI{α:Type}{us:List α}(h:us.length=4):∃a b c d,us=[a,b,c,d]:=by
 cases us with
 | nil=>cases h
 | cons a us=>obtain⟨b,c,d,rfl⟩:=kr (La h);exact⟨a,b,c,d,rfl⟩
theorem pI{set:PV->En->Option En}{body:En->Option Fl}(I:Nat->En->Prop)(R:Fl->Prop):∀(xs ys:List PV)(τ:En),I xs.length τ ->
  (∀(i:Nat)(x:PV)(τ:En),(xs++ys)[i]? =some x->xs.length<=i->I i τ->∃τ1 f,set x τ=some τ1/\body τ1=some f/\(match f with| .nx τ2=>I (i+1) τ2| .ct τ2=>I (i+1) τ2| .bk τ2=>R (.nx τ2)| .rt v=>R (.rt v))) ->
  (∀τ,I (xs++ys).length τ->R (.nx τ))->∃fl,j4 set body ys τ=some fl/\R fl
 | xs,[],τ,h0,hs,he=>⟨.nx τ,rfl,he τ (by rw[Jp];exact h0)⟩
 | xs,y::ys,τ,h0,hs,he=>by
  obtain⟨τ1,f,h1,h2,h3⟩:=hs xs.length y τ (by simp) (Io _) h0;have e:xs++y::ys=(xs++[y])++ys:=by simp
  have ih:=fun τ2 (h:I (xs.length+1) τ2)=>pI (set:=set) (body:=body) I R (xs++[y]) ys τ2 (by rw[JA];exact h) (fun i x τ hx hi=>hs i x τ (by rw[e];exact hx) (by rw[JA]at hi;omega)) (by rw[<- e];exact he);unfold j4;rw[h1];dsimp only[Option.bind];rw[h2];cases f with
  | nx τ2=>exact ih τ2 h3
  | ct τ2=>exact ih τ2 h3
  | bk τ2=>exact⟨_,rfl,h3⟩
  | rt v=>exact⟨_,rfl,h3⟩
theorem AG{set:PV->En->Option En}{body:En->Option Fl}{xs:List PV}{τ:En}(I:Nat->En->Prop)(R:Fl->Prop)(h0:I 0 τ)
  (hs:∀(i:Nat)(x:PV)(τ:En),xs[i]? =some x->I i τ->∃τ1 f,set x τ=some τ1/\body τ1=some f/\(match f with| .nx τ2=>I (i+1) τ2| .ct τ2=>I (i+1) τ2| .bk τ2=>R (.nx τ2)| .rt v=>R (.rt v)))
  (he:∀τ,I xs.length τ->R (.nx τ)):∃fl,j4 set body xs τ=some fl/\R fl :=
 pI I R [] xs τ h0 (fun i x τ hx _ hI=>hs i x τ hx hI) he
section
variable{v:PV}{n m:Bool}{xs ys:List PV}{i j:Int}{z y:Str}{a b:RV}{τ:En}{t:TV}{k:Nat}
theorem br:(RV.frz v n).val=v:=rfl
theorem yb:(RV.bor v).val=v:=rfl
theorem ya:(RV.own xs n).val=.lst xs:=rfl
theorem xE:(RV.frz v n).keep=some (v,n):=rfl
theorem xC:(RV.own xs n).keep=some (.lst xs,n):=rfl
theorem zr{ks:List am}:(RV.owd (.dK ks) xs n).keep=some (.dK ks xs,n):=rfl
theorem zp:d0 (.lst xs)=some xs.length:=rfl
theorem zn:d0 (.tup xs)=some xs.length:=rfl
theorem len_str:d0 (.str z)=if z.length<=LN then some z.length else none:=rfl
theorem AL:eT (some (.rt v))=some v:=rfl
theorem Dd:pD (.frz v n::τ) 0=some (.frz v n):=rfl
theorem Dg:pD (.own xs n::τ) 0=some (.bor (.lst xs)):=rfl
theorem De:pD (t::τ) (k+1)=pD τ k:=rfl
theorem j3:av [] τ=τ:=rfl
theorem mE{c:List Nat}:av (k::c) τ=av c (nM τ k):=rfl
theorem AD:nM (.own xs n::τ) 0=.frz (.lst xs) n::τ:=rfl
theorem tB:nM (.frz v n::τ) 0=.frz v n::τ:=rfl
theorem xQ:nM (t::τ) (k+1)=t::nM τ k:=by
 unfold nM;rw[J8];cases τ[k]? with
 | none=>rfl
 | some t=>cases t<;>rfl
theorem An:cN .Add (.frz (.int i) n) (.frz (.int j) m)=some (sc (.int (i+j))):=rfl
theorem Ah:cN .Sub (.frz (.int i) n) (.frz (.int j) m)=some (sc (.int (i-j))):=rfl
theorem Aj:cN .Mult (.frz (.int i) n) (.frz (.int j) m)=if(-(2^64)<i/\i<2^64)\/(-(2^64)<j/\j<2^64)then some (sc (.int (i*j)))else if i.natAbs<2^2000/\j.natAbs<2^2000 then some (sc (.int (i*j)))else none:=rfl
theorem Al:cN .FloorDiv (.frz (.int i) n) (.frz (.int j) m)=if 0<j/\j<2^200 then some (sc (.int (i/j)))else none:=rfl
theorem Ak:cN .Mod (.frz (.int i) n) (.frz (.int j) m)=if 0<j then some (sc (.int (i%j)))else none:=rfl
theorem Ai:cN .LShift (.frz (.int i) n) (.frz (.int j) m)=if 0<=j/\j<=1000000/\i.natAbs<2^64 then some (sc (.int (i*2^j.toNat)))else none:=rfl
theorem Am:cN .Add (.frz (.str z) n) (.frz (.str y) m)=if z.length+y.length<=LN then some (sc (.str (z++y)))else none:=rfl
theorem EQ:ah .Lt (.int i) (.int j)=some (decide (i<j)):=rfl
theorem ER:ah .Gt (.int i) (.int j)=some (decide (j<i)):=rfl
theorem ES:ah .GtE (.int i) (.int j)=some (decide (j<=i)):=rfl
theorem Ad:ah .Eq (.int i) (.int j)=some (decide (i=j)):=rfl
theorem Ab:ah .Eq (.str z) (.str y)=some (decide (z=y)):=rfl
theorem AZ:ah .NotEq (.int i) (.int j)=some (!decide (i=j)):=rfl
theorem AX:ah .NotEq (.str z) (.str y)=some (!decide (z=y)):=rfl
end
section
variable{cd:Nat->List PV->Option PV}{fu:Nat}{s:IS}{ss:ng}{τ τ1:En}{v:PV}
end
theorem iM{cd:Nat->List PV->Option PV}{fu:Nat}{s:IS}{ss:ng}{τ:En}:bJ cd fu (.cons s ss) τ=(cB cd fu s τ).bind fun f=>dE f (bJ cd fu ss):=by simp only[yV,yW]
theorem xX{cd:Nat->List PV->Option PV}{fu:Nat}{τ:En}:bJ cd fu .nil τ=some (.nx τ):=by simp only[yV,yW]
theorem run{P:Nat->Option FD}{k f:Nat}{d:FD}{vs:List PV}{r:PV}(hP:P f=some d)(hl:vs.length=d.np)(h:eT (bJ (aH P k) 1000000 d.body (entry d vs))=some r):aH P (k+1) f vs=some r:=by
 show(P f).bind _=_;rw[hP];show(if vs.length=d.np then _ else _)=_;rw[Ix hl];exact h
section
variable{a b:RV}{t:String}{n m:Bool}{xs ys:List PV}{i j:Int}{bl:Bool}
theorem me{τ:En}{k:En->Option Fl}:dE (.nx τ) k=k τ:=rfl
theorem yk{v:PV}{k:En->Option Fl}:dE (.rt v) k=some (.rt v):=rfl
theorem vZ:lV (.bl bl)=some bl:=rfl
theorem x5:ii (.bl bl)=some bl:=rfl
theorem xI:lA (.int i)=some i:=rfl
theorem yq{z:Str}:ia (.frz (.str z) n)=some (signs z,true,false):=rfl
theorem yt:ia (.frz (.lst xs) n)=some (xs,n,false):=rfl
theorem yp:ia (.frz (.tup xs) n)=some (xs,n,false):=rfl
theorem yr:ia (.own xs n)=some (xs,n,false):=rfl
theorem Gp{τ:En}{k:Nat}:mz true k (.own xs n) τ=some (τ.set k (.own xs n)):=rfl
theorem Ce{τ:En}{k:Nat}:mz false k (.own xs n) τ=some (τ.set k (.frz (.lst xs) n)):=rfl
theorem Cg{τ:En}{k:Nat}{o:Bool}{v:PV}:mz o k (.frz v n) τ=some (τ.set k (.frz v n)):=by cases o<;>rfl
theorem CA:hZ (.lst xs)=.own xs true:=rfl
theorem B7:hZ (.tup xs)=.frz (.tup xs) true:=rfl
theorem CB:hZ (.int i)=.frz (.int i) true:=rfl
theorem CC:hZ (.bl bl)=.frz (.bl bl) true:=rfl
theorem B8{z:Str}:hZ (.str z)=.frz (.str z) true:=rfl
theorem B9:hZ .non=.frz .non true:=rfl
theorem EX:mW .len [a]=(d0 a.val).map fun n=>sc (.int (n:Nat)):=rfl
theorem Aq:mW .int [.frz (.bl bl) n]=some (sc (.int (if bl then 1 else 0))):=rfl
theorem Ap:mW (.isin t) [a]=(ez t a.val).map fun b=>sc (.bl b):=rfl
theorem yB:mW .list [.frz (.tup xs) n]=some (.own xs n):=rfl
theorem yC:mW .list [.frz (.lst xs) n]=some (.own xs n):=rfl
theorem uw:mW .tuple [.own xs n]=some (.frz (.tup xs) n):=rfl
theorem ux:mW .tuple [.frz (.lst xs) n]=some (.frz (.tup xs) n):=rfl
theorem EY:mW .abs [.frz (.int i) n]=some (sc (.int (if i<0 then -i else i))):=rfl
theorem yA:mW .sorted [.frz (.lst xs) n]=la xs:=rfl
theorem ix_L(k:Int):index (.frz (.lst xs) n) (.frz (.int k) m)=(dC xs k).map fun e=>.frz e (n||imm e):=rfl
theorem ix_T(k:Int):index (.frz (.tup xs) n) (.frz (.int k) m)=(dC xs k).map fun e=>.frz e (n||imm e):=rfl
theorem ix_O(k:Int):index (.own xs n) (.frz (.int k) m)=(dC xs k).map fun e=>.frz e (n||imm e):=rfl
theorem ix_S(k:Int)(z:Str):index (.frz (.str z) n) (.frz (.int k) m)=if z.length<=LN then(dC z.cps.toList k).map fun c=>sc (.str ⟨#[c]⟩)else none:=rfl
end
theorem o5{i:Int}:ez "int" (.int i)=some true:=by simp[ez]
theorem nG{i:Int}:ez "bool" (.int i)=some false:=by simp[ez]
theorem o4{i:Int}:ez "str" (.int i)=some false:=by simp[ez]
theorem o0{z:Str}:ez "str" (.str z)=some true:=by simp[ez]
theorem nF{i:Int}:ez "list" (.int i)=some false:=by simp[ez]
theorem nD{z:Str}:ez "list" (.str z)=some false:=by simp[ez]
theorem nE{xs:List PV}:ez "list" (.lst xs)=some true:=by simp[ez]
theorem kz{i:Int}:ez "tuple" (.int i)=some false:=by simp[ez]
theorem kx{z:Str}:ez "tuple" (.str z)=some false:=by simp[ez]
theorem ky{xs:List PV}:ez "tuple" (.lst xs)=some false:=by simp[ez]
theorem kw{xs:List PV}:ez "tuple" (.tup xs)=some true:=by simp[ez]
theorem qt  :ah .Is .non .non=some true:=rfl
theorem qv{i:Int}:ah .Is (.int i) .non=some false:=rfl
theorem qr{z:Str}:ah .Is (.str z) .non=some false:=rfl
theorem qu{xs:List PV}:ah .Is (.lst xs) .non=some false:=rfl
theorem lC{xs:List PV}:ah .IsNot (.lst xs) .non=some true:=rfl
theorem qp{xs:List PV}:ah .Is (.tup xs) .non=some false:=rfl
theorem dq{α:Type}{f:PV->Option (Option (PV×Bool))}{h:α->PV}{g:α->PV}:∀{l:List α},(∀x∈l,f (h x)=some (some (g x,true)))->cM f (l.map h)=some (l.map g,true)
 | [],_=>rfl
 | x::xs,k=>by
  rw[JH];unfold cM;rw[k x Ip,dq fun y hy=>k y (Im _ hy)];rfl
noncomputable def To(o:Option Fl)(Q:Fl->Prop):Prop:=∃f,o=some f/\Q f
theorem yj{f:Fl}{Q:Fl->Prop}:To (some f) Q↔Q f:=⟨fun⟨g,e,h⟩=>by cases e;exact h,fun h=>⟨f,rfl,h⟩⟩
theorem To.imp{o:Option Fl}{Q Q' :Fl->Prop}(h:To o Q)(k:∀f,Q f->Q' f):To o Q' :=by
 obtain⟨f,e,q⟩:=h;exact⟨f,e,k f q⟩
theorem oF{P:Nat->Option FD}{k f:Nat}{d:FD}{vs:List PV}{Q:PV->Prop}(hP:P f=some d)(hl:vs.length=d.np)(h:To (bJ (aH P k) 1000000 d.body (entry d vs)) fun fl=>∃v,eT (some fl)=some v/\Q v):∃v,aH P (k+1) f vs=some v/\Q v:=by
 obtain⟨fl,e,v,h1,h2⟩:=h;exact⟨v,run hP hl (by rw[e];exact h1),h2⟩
theorem bV{P:Nat->Option FD}{k f:Nat}{d:FD}{vs:List PV}{r:PV}(hP:P f=some d)(hl:vs.length=d.np)(h:To (bJ (aH P k) 1000000 d.body (entry d vs)) fun fl=>eT (some fl)=some r):aH P (k+1) f vs=some r:=by
 obtain⟨fl,e,h1⟩:=h;exact run hP hl (by rw[e];exact h1)
section
variable{cd:Nat->List PV->Option PV}{fu:Nat}{τ:En}{cap:List Nat}{e e2:IE}{i j:Nat}{o one:Bool}{is:List Nat}{c:IC}{a b body:ng}{src:IT}
theorem Dq:cB cd fu (.asg i o cap e) τ=(aW cd e (av cap τ)).bind fun r=>(mz o i r (av cap τ)).map .nx:=by simp only[gM,ff,fm,fk,gB,gF,fe,fw,gJ,gH,gO,gA,ft,fq,gI,fj,fh,fg,gG,gN,gL,gK,gE,gC,fo,fz]
theorem Dm:cB cd fu (.ret cap e) τ=(aW cd e (av cap τ)).bind fun r=>r.keep.bind fun(v,n)=>if n then some (.rt v)else none:=by simp only[gM,ff,fm,fk,gB,gF,fe,fw,gJ,gH,gO,gA,ft,fq,gI,fj,fh,fg,gG,gN,gL,gK,gE,gC,fo,fz]
theorem Do:cB cd fu (.ife c a b) τ=(eA cd c τ).bind fun r=>if r then bJ cd fu a τ else bJ cd fu b τ:=by simp only[gM,ff,fm,fk,gB,gF,fe,fw,gJ,gH,gO,gA,ft,fq,gI,fj,fh,fg,gG,gN,gL,gK,gE,gC,fo,fz]
noncomputable def v5(i:Nat)(v:PV)(m:Bool)(τ:En):Option Fl:=match τ[i]? with
  | some (.own xs n)=>if xs.length<LN then some (.nx (τ.set i (.own (xs++[v]) (n&&m))))else none
  | _=>none
theorem Dr:cB cd fu (.app i cap e) τ=(aW cd e (av cap τ)).bind fun r=>r.keep.bind fun(v,m)=>v5 i v m (av cap τ):=by simp only[gM,ff,fm,fk,gB,gF,fe,fw,gJ,gH,gO,gA,ft,fq,gI,fj,fh,fg,gG,gN,gL,gK,gE,gC,fo,fz];rfl
theorem cF{v:PV}{n m:Bool}{xs:List PV}(h:τ[i]? =some (.own xs n))(hz:xs.length<LN):v5 i v m τ=some (.nx (τ.set i (.own (xs++[v]) (n&&m)))):=by
 unfold v5;rw[h];exact Ix hz
theorem bj{xs:List PV}{n:Bool}{k:En->Option Fl}{Q:Fl->Prop}(ht:lB cd src (av cap τ)=some (xs,n,false))(I:Nat->En->Prop)(h0:I 0 (av cap τ))
  (hs:∀(i:Nat)(x:PV)(τ:En),xs[i]? =some x->I i τ->∃τ1,eG is one n x τ=some τ1/\To (bJ cd fu body τ1) fun f=>match f with| .nx τ2=>I (i+1) τ2| .ct τ2=>I (i+1) τ2| .bk τ2=>To (k τ2) Q| .rt v=>Q (.rt v))
  (hk:∀τ',I xs.length τ' ->To (k τ') Q):To ((cB cd fu (.forr is one cap src body) τ).bind fun f=>dE f k) Q:=by
 obtain⟨fl,e,h⟩:=AG (set:=eG is one n) (body:=fun τ=>bJ cd fu body τ) (xs:=xs) (τ:=av cap τ) I (fun fl=>To (dE fl k) Q) h0 (fun i x τ hx hI=>by
  obtain⟨τ1,h1,f,h2,h3⟩:=hs i x τ hx hI;refine⟨τ1,f,h1,h2,?_⟩;cases f with
  | nx τ2=>exact h3
  | ct τ2=>exact h3
  | bk τ2=>exact h3
  | rt v=>exact⟨_,rfl,h3⟩) hk
 have e2:cB cd fu (.forr is one cap src body) τ=some fl:=by
  simp only[gM,ff,fm,fk,gB,gF,fe,fw,gJ,gH,gO,gA,ft,fq,gI,fj,fh,fg,gG,gN,gL,gK,gE,gC,fo,fz,ht,Jl];exact e
 rw[e2];exact h
end
theorem cK:∀l:List Str,imms (l.map PV.str)=true
 | []=>rfl
 | x::l=>by rw[JH,imms,cK l];rfl
theorem pA:∀l:List Int,imms (l.map PV.int)=true
 | []=>rfl
 | x::l=>by rw[JH,imms,pA l];rfl
theorem pB{α:Type}{f:α->PV}(h:∀x,imm (f x)=true):∀l:List α,imms (l.map f)=true
 | []=>rfl
 | x::l=>by rw[JH,imms,pB h l,h x];rfl
theorem xL(l:List Str):imm (.tup (l.map PV.str))=true:=by rw[imm];exact cK l
theorem As{l:List PV}{t:Int}(h0:0<=t)(h1:t<l.length):∃e,dC l t=some e/\e∈l:=by
 have h2:t.toNat<l.length:=by omega
 refine⟨l[t.toNat],?_,LR h2⟩;have:=bh (xs:=l) (j:=t.toNat) (v:=l[t.toNat]) (by simp);rw[show((t.toNat:Nat):Int)=t by omega]at this;exact this
theorem uv{n m:Bool}{xs ys:List PV}:cN .Add (.frz (.lst xs) n) (.own ys m)=kq (xs++ys) (n&&m):=rfl
theorem mV{n m:Bool}{xs ys:List PV}:cN .Add (.own xs n) (.own ys m)=kq (xs++ys) (n&&m):=rfl
theorem DW:o6 none=some none:=rfl
theorem DV{n:Bool}{i:Int}:o6 (some (.frz (.int i) n))=some (some i):=rfl
theorem vk{n:Bool}{z:Str}{k:Int}:slice (.frz (.str z) n) none (some k)=if z.length<=LN then(if 0<=k then some (sc (.str ⟨(z.cps.toList.take k.toNat).toArray⟩))else none)else none:=rfl
theorem mq{n:Bool}{xs:List PV}{lo hi:Option Int}:slice (.frz (.tup xs) n) lo hi=if HT.bP xs.length 0 lo=0/\HT.bP xs.length xs.length hi=xs.length then some (.frz (.tup xs) n)else some (.frz (.tup (cut xs lo hi)) n):=rfl
theorem df{n:Bool}{xs:List PV}{lo hi:Option Int}:slice (.frz (.lst xs) n) lo hi=some (.own (cut xs lo hi) (n||imms xs)):=rfl
theorem AV{α:Type}(xs:List α)(k:Nat):cut xs none (some (k:Int))=xs.take k:=by
 unfold cut;rw[HT.jf,HT.i5,List.drop_zero,Nat.sub_zero]
 rcases Nat.le_total k xs.length with h|h
 ·rw[Nat.min_eq_left h]
 ·rw[Nat.min_eq_right h,KN (Io _),KN h]
theorem rE(P:Nat->Option FD)(k f:Nat)(vs:List PV):aH P (k+1) f vs=(P f).bind fun d=>if vs.length=d.np then eT (bJ (aH P k) 1000000 d.body (entry d vs))else none:=rfl
section
variable{cd:Nat->List PV->Option PV}{fu:Nat}{τ:En}{e e2:IE}{i:Nat}
noncomputable def Ec(i:Nat)(op:Operator)(y:PV)(τ:En):Option Fl:=match τ[i]?,y,op with
  | some (.frz (.int x) _),.int y,.Add=>some (.nx (τ.set i (.frz (.int (x+y)) true)))
  | some (.frz (.int x) _),.int y,.Sub=>some (.nx (τ.set i (.frz (.int (x-y)) true)))
  | _,_,_=>none
theorem Dp{op:Operator}:cB cd fu (.aug i op e) τ=(aW cd e τ).bind fun r=>Ec i op r.val τ:=by simp only[gM,ff,fm,fk,gB,gF,fe,fw,gJ,gH,gO,gA,ft,fq,gI,fj,fh,fg,gG,gN,gL,gK,gE,gC,fo,fz];rfl
theorem tS{x y:Int}{n:Bool}(h:τ[i]? =some (.frz (.int x) n)):Ec i .Sub (.int y) τ=some (.nx (τ.set i (.frz (.int (x-y)) true))):=by unfold Ec;rw[h]
noncomputable def setO(i:Nat)(k v:PV)(m:Bool)(τ:En):Option Fl:=match k,τ[i]? with
  | .int j,some (.own xs n)=>(L2.oz xs.length j).map fun q=>.nx (τ.set i (.own (xs.set q v) (n&&m)))
  | y,some (.owd (.dK ks) xs n)=>(ly y).bind fun k=>if xs.length<LN then some (.nx (τ.set i (.owd (.dK (oO ks k)) (putL ks xs k v) (n&&m))))else none
  | _,_=>none
theorem vO{c:En->Option Bool}{body:En->Option Fl}(I:Nat->En->Prop)(R:Fl->Prop)(hs:∀m τ,I m τ->∃b,c τ=some b/\(b=true->0<m/\∃τ2,body τ=some (.nx τ2)/\I (m-1) τ2)/\(b=false->R (.nx τ))) :
  ∀(k m:Nat)(τ:En),m<k->I m τ->∃fl,yN c body k τ=some fl/\R fl
 | 0,m,τ,h,_=>by omega
 | k+1,m,τ,h,h0=>by
  obtain⟨b,hb,h1,h2⟩:=hs m τ h0;unfold yN;rw[hb];cases b with
  | false=>exact⟨_,rfl,h2 rfl⟩
  | true =>
   obtain⟨hm,τ2,e,h3⟩:=h1 rfl;dsimp only[Option.bind];rw[Ix rfl,e];exact vO I R hs k (m-1) τ2 (by omega) h3
theorem whTo{c:IC}{body:ng}{k:En->Option Fl}{Q:Fl->Prop}(I:Nat->En->Prop)(m:Nat)(hm:m<fu)(h0:I m τ)
  (hs:∀m τ,I m τ->∃b,eA cd c τ=some b/\(b=true->0<m/\To (bJ cd fu body τ) fun f=>∃τ2,f=.nx τ2/\I (m-1) τ2)/\(b=false->To (k τ) Q)):To ((cB cd fu (.whil c body) τ).bind fun f=>dE f k) Q:=by
 obtain⟨fl,e,h⟩:=vO (c:=fun τ=>eA cd c τ) (body:=fun τ=>bJ cd fu body τ) I (fun fl=>To (dE fl k) Q) (fun m τ hI=>by
  obtain⟨b,h1,h2,h3⟩:=hs m τ hI;refine⟨b,h1,fun z=> ?_,h3⟩;obtain⟨hm,f,e,τ2,rfl,h4⟩:=h2 z;exact⟨hm,τ2,e,h4⟩) fu m τ hm h0
 have e2:cB cd fu (.whil c body) τ=some fl:=by simp only[gM,ff,fm,fk,gB,gF,fe,fw,gJ,gH,gO,gA,ft,fq,gI,fj,fh,fg,gG,gN,gL,gK,gE,gC,fo,fz];exact e
 rw[e2];exact h
end
theorem x8{n m:Bool}{xs:List PV}{k:Int}:cN .Mult (.own xs n) (.frz (.int k) m)=if 0<=k/\k<=1000000/\xs.length*k.toNat<=LN then some (.own (List.replicate k.toNat xs).flatten n)else none:=rfl
theorem Dw{n:Bool}{xs:List PV}:mJ (.frz (.lst xs) n)=some (List.zipWith eC (List.range xs.length) xs,n):=rfl
theorem AY{xs ys:List PV}:ah .NotEq (.lst xs) (.lst ys)=(if bv 12 (.lst xs)&&bv 12 (.lst ys)then some (eS (.lst xs) (.lst ys))else none).map (!·):=rfl
theorem Ac{xs ys:List PV}:ah .Eq (.lst xs) (.lst ys)=if bv 12 (.lst xs)&&bv 12 (.lst ys)then some (eS (.lst xs) (.lst ys))else none:=rfl
theorem at_0{α:Type}{x:α}{xs:List α}:L2.dC (x::xs) 0=some x:=by
 have:=bh (xs:=x::xs) (j:=0) (v:=x) (by simp);exact this
theorem at_1{α:Type}{x y:α}{xs:List α}:L2.dC (x::y::xs) 1=some y:=by
 have:=bh (xs:=x::y::xs) (j:=1) (v:=y) (by simp);exact this
theorem cE{n i:Nat}{x:PV}(h:((List.range n).map fun i=>PV.int (0+(i:Nat)))[i]? =some x):i<n/\x=.int (i:Nat):=by
 rw[Iy]at h
 by_cases hi:i<n
 ·rw[Jk hi]at h
  refine⟨hi,?_⟩;have:=(JF h).symm
  simpa using this
 ·rw[KG (by simpa using hi)]at h
  cases h
theorem i6{n:Nat}:((List.range n).map fun i=>PV.int (0+(i:Nat))).length=n:=by simp
theorem tH{xs:List PV}{i:Nat}{x:PV}(h:(List.zipWith eC (List.range xs.length) xs)[i]? =some x):∃y,xs[i]? =some y/\x=eC i y:=by
 rw[KF]at h;cases e:xs[i]? with
 | none=>rw[e]at h;cases hh:(List.range xs.length)[i]? <;>rw[hh]at h<;>cases h
 | some y =>
  rw[e]at h;have hi:i<xs.length:=(Iw.mp e).1;rw[Jk hi]at h;exact⟨y,rfl,(JF h).symm⟩
theorem pN{xs:List PV}:(List.zipWith eC (List.range xs.length) xs).length=xs.length:=by rw[Kj,JU,Kz]
theorem zW(c d:Nat):decide ((⟨#[c]⟩:Str)=⟨#[d]⟩)=decide (c=d):=by
 by_cases h:c=d
 ·subst h;simp
 ·rw[JK h,JK]
  intro e;have:=Je (fun z:Str=>z.cps.toList) e;simp at this;exact h this
theorem rA(c:Nat):decide ((⟨#[c]⟩:Str)="x")=(c==120):=by
 have:=zW c 120;rw[show(⟨#[120]⟩:Str)="x" from rfl]at this;rw[this];rfl
theorem DH{ks:List am}{vs:List PV}:d0 (.dK ks vs)=some ks.length:=rfl
theorem Ao{n:Bool}{ks:List am}{vs:List PV}:mW .sumv [.frz (.dK ks vs) n]=(ag vs).map fun ns=>sc (.int ns.sum):=rfl
theorem cL{α:Type}{f:PV->Option (Option (PV×Bool))}{h:α->PV}{p:α->Bool}{g:α->PV}:∀{l:List α},(∀x∈l,f (h x)=some (if p x then some (g x,true)else none))->cM f (l.map h)=some ((l.filter p).map g,true)
 | [],_=>rfl
 | x::xs,k=>by
  rw[JH];unfold cM;rw[k x Ip,cL fun y hy=>k y (Im _ hy)];cases e:p x
  ·simp[KQ,e]
  ·simp[KQ,e]
noncomputable abbrev ak:=List (Int×Int)
noncomputable def gi(c:ak)(k:Int):Option Int:=(c.find? fun p=>decide (p.1=k)).map (·.2)
noncomputable def iD(c:ak)(k v:Int):ak:=if(c.any fun p=>decide (p.1=k))=true then c.map (fun p=>if p.1=k then(p.1,v)else p)else c++[(k,v)]
noncomputable def u6(c:ak)(k n:Int):ak:=iD c k ((gi c k).getD 0+n)
noncomputable def bU(t n:Int)(c:ak)(b:Int):ak:=if Builtin.bitAnd t b=0 then u6 c (Builtin.bitOr t b) n else c
noncomputable def cC(B:List Int)(c:ak)(p:Int×Int):ak:=B.foldl (bU p.1 p.2) c
noncomputable def yO(B:List Int)(c lev:ak):ak:=lev.foldl (cC B) c
noncomputable def wl(Ls:List ak)(B:List Int):Nat->List ak
 | 0=>Ls++[[]]
 | i+1=>(wl Ls B i).set (i+1) (yO B ((wl Ls B i).getD (i+1) []) (Ls.getD i []))
noncomputable def bL(c:ak):List (am×V):=c.map fun p=>(Sum.inl p.1,V.int p.2)
noncomputable def i7(c:ak):PV:=.dK (c.map fun p=>Sum.inl p.1) (c.map fun p=>.int p.2)
noncomputable def ni:List am->List PV->Option ak
 | [],[]=>some []
 | .inl k::ks,.int v::vs=>(ni ks vs).map ((k,v)::·)
 | _,_=>none
noncomputable def unT:PV->Option ak
 | .dK ks vs=>ni ks vs
 | _=>none
noncomputable def ny:List PV->Option (List ak)
 | []=>some []
 | x::xs=>(unT x).bind fun c=>(ny xs).map (c::·)
noncomputable def bT:List PV->Option PV
 | [.lst ls,.lst bs]=>(ny ls).bind fun Ls=>(ag bs).bind fun B=>if Ls.length<=100/\B.length<=100/\(Ls.all fun c=>decide (c.length<=1000))=true then some (.lst ((wl Ls B Ls.length).map i7))else none
 | _=>none
theorem j1:∀{xs:List PV}{ns:List Int},ag xs=some ns->xs=ns.map PV.int
 | [],ns,h=>by cases h;rfl
 | x::xs,ns,h=>by
  cases x with
  | int c =>
   have h:(ag xs).map (c::·)=some ns:=h;cases e:ag xs with
   | none=>rw[e]at h;cases h
   | some ds =>
    rw[e]at h;cases h;rw[j1 e];rfl
  | _=>cases h
theorem fR:∀ns:List Int,ag (ns.map PV.int)=some ns
 | []=>rfl
 | n::ns=>by rw[JH,ag,fR ns];rfl
theorem nh:∀{ks:List am}{vs:List PV}{c:ak},ni ks vs=some c->ks=c.map (fun p=>Sum.inl p.1)/\vs=c.map (fun p=>.int p.2)
 | [],[],c,h=>by cases h;exact⟨rfl,rfl⟩
 | .inl k::ks,.int v::vs,c,h=>by
  have h:(ni ks vs).map ((k,v)::·)=some c:=h;cases e:ni ks vs with
  | none=>rw[e]at h;cases h
  | some d =>
   rw[e]at h;cases h;obtain⟨h1,h2⟩:=nh e;exact⟨by rw[h1];rfl,by rw[h2];rfl⟩
 | .inr z::ks,vs,c,h=>by cases h
 | [],v::vs,c,h=>by cases h
 | .inl k::ks,[],c,h=>by cases h
 | .inl k::ks,.non::vs,c,h=>by cases h
 | .inl k::ks,.bl _::vs,c,h=>by cases h
 | .inl k::ks,.str _::vs,c,h=>by cases h
 | .inl k::ks,.lst _::vs,c,h=>by cases h
 | .inl k::ks,.tup _::vs,c,h=>by cases h
 | .inl k::ks,.dK _ _::vs,c,h=>by cases h
 | .inl k::ks,.dT _ _::vs,c,h=>by cases h
theorem yg{v:PV}{c:ak}(h:unT v=some c):v=i7 c:=by
 cases v with
 | dK ks vs =>
  obtain⟨h1,h2⟩:=nh h;unfold i7;rw[h1,h2]
 | _=>cases h
theorem nw:∀{ls:List PV}{Ls:List ak},ny ls=some Ls->ls=Ls.map i7
 | [],Ls,h=>by cases h;rfl
 | x::xs,Ls,h=>by
  simp only[ny]at h;cases e:unT x with
  | none=>rw[e]at h;cases h
  | some c =>
   rw[e]at h;simp only[Option.bind]at h;cases e2:ny xs with
   | none=>rw[e2]at h;cases h
   | some r =>
    rw[e2]at h;cases h;rw[yg e,nw e2];rfl
theorem rV:∀c:ak,ni (c.map fun p=>Sum.inl p.1) (c.map fun p=>.int p.2)=some c
 | []=>rfl
 | p::c=>by simp only[JH,ni,rV c];rfl
theorem rf:∀Ls:List ak,ny (Ls.map i7)=some Ls
 | []=>rfl
 | c::Ls=>by
  simp only[JH,ny,rf Ls];show(ni _ _).bind _=_;rw[rV];rfl
theorem AN(c:ak)(k:Int):gR (bL c) (Sum.inl k)=(gi c k).map V.int:=by
 unfold gR bL gi
 induction c with
 | nil=>rfl
 | cons p c ih =>
  rw[JH,J5,J5]
  by_cases e:p.1=k
  ·simp[e]
  ·have e' :¬((Sum.inl p.1:am)=Sum.inl k):=fun z=>e (Sum.inl.inj z)
   simp only[e,e',decide_false];exact ih
theorem AM(c:ak)(k v:Int):dg (bL c) (Sum.inl k) (V.int v)=bL (iD c k v):=by
 unfold dg iD;have e1:((bL c).any fun kv=>decide (kv.1=Sum.inl k))=(c.any fun p=>decide (p.1=k)):=by
  unfold bL;rw[List.any_map]
  congr 1
  funext p
  simp
 rw[e1]
 split
 ·unfold bL
  rw[Jf,Jf];refine Jj fun p _=> ?_
  by_cases e:p.1=k
  ·simp[e]
  ·simp[e]
 ·unfold bL
  rw[JQ];rfl
theorem v4(c:ak)(k v:Int):(iD c k v).length<=c.length+1:=by
 unfold iD
 split
 ·rw[Ik];omega
 ·rw[JA];simp
theorem tu(t n:Int)(c:ak)(b:Int):(bU t n c b).length<=c.length+1:=by
 unfold bU
 split
 ·exact v4 _ _ _
 ·omega
theorem iL(t n:Int):∀(B:List Int)(c:ak),(B.foldl (bU t n) c).length<=c.length+B.length
 | [],c=>by simp
 | b::B,c=>by
  rw[List.foldl_cons];have h1:=iL t n B (bU t n c b);have h2:=tu t n c b;rw[JI];omega
theorem mF(B:List Int):∀(lev c:ak),(lev.foldl (cC B) c).length<=c.length+lev.length*B.length
 | [],c=>by simp
 | p::lev,c=>by
  rw[List.foldl_cons];have h1:=mF B lev (cC B c p);have h2:(cC B c p).length<=c.length+B.length:=iL p.1 p.2 B c;rw[JI,Nat.succ_mul];omega
theorem mX(Ls:List ak)(B:List Int):∀i,(wl Ls B i).length=Ls.length+1
 | 0=>by simp[wl]
 | i+1=>by rw[wl,KJ];exact mX Ls B i
theorem tK(c:ak)(us:List V)(h:us=c.map fun p=>V.int p.2):(c.map fun p=>(Sum.inl p.1:am)).zip us=bL c:=by
 subst h;unfold bL
 induction c with
 | nil=>rfl
 | cons p c ih=>rw[JH,JH,List.zip_cons_cons,ih,JH]
theorem oH{K:W.Frag}{Hi:Hp}{n:Bool}{H:Hp}(c:ak){us:List V}:aJ K Hi n (c.map fun p=>PV.int p.2) H us↔us=c.map fun p=>V.int p.2:=by
 have e1:(c.map fun p=>PV.int p.2)=(c.map (·.2)).map PV.int:=by rw[Jf];rfl
 have e2:(c.map fun p=>V.int p.2)=(c.map (·.2)).map V.int:=by rw[Jf];rfl
 rw[e1,e2];exact aJ.ints
theorem CV{K:W.Frag}{Hi:Hp}{n:Bool}{c:ak}{H:Hp}{u:V}(h:Rp K Hi n (i7 c) H u):∃p,u=.ref p/\H p=some (.dK (bL c)):=by
 unfold i7 Rp at h;obtain⟨p,us,rfl,_,hp,hl,r⟩:=h;rw[tK c us ((oH c).mp r)]at hp;exact⟨p,rfl,hp⟩
theorem t9{K:W.Frag}{Hi:Hp}{c:ak}{H:Hp}{p:Addr}(h0:Hi p=none)(h:H p=some (.dK (bL c))):Rp K Hi true (i7 c) H (.ref p):=by
 unfold i7 Rp;refine⟨p,c.map fun p=>V.int p.2,rfl,fun _=>h0,by rw[tK c _ rfl];exact h,by simp,(oH c).mpr rfl⟩
noncomputable def p8(H0:Hp)(A:Addr)(ds:List Addr)(cs:List ak)(H:Hp):Prop :=
 aE H0 H/\H0 A=none/\H A=some (.lst (ds.map V.ref))/\A∉ds/\ds.Nodup/\ds.length=cs.length/\∀(q:Nat)(d:Addr)(c:ak),ds[q]? =some d->cs[q]? =some c->H0 d=none/\H d=some (.dK (bL c))
theorem p8.ext{H0:Hp}{A:Addr}{ds:List Addr}{cs:List ak}{H H' :Hp}(h:p8 H0 A ds cs H)(s:aE H H'):p8 H0 A ds cs H' :=by
 obtain⟨h1,h2,h3,h4,h5,h6,h7⟩:=h;exact⟨h1.trans s,h2,s _ _ h3,h4,h5,h6,fun q d c e1 e2=>⟨(h7 q d c e1 e2).1,s _ _ (h7 q d c e1 e2).2⟩⟩
theorem p8.put{H0:Hp}{A:Addr}{ds:List Addr}{cs:List ak}{H:Hp}{q:Nat}{d:Addr}{c' :ak}(h:p8 H0 A ds cs H)(hd:ds[q]? =some d):p8 H0 A ds (cs.set q c') (L2.upd H d (.dK (bL c'))):=by
 obtain⟨h1,h2,h3,h4,h5,h6,h7⟩:=h;have hq:q<ds.length:=(Iw.mp hd).1;have hc:cs[q]? =some (cs[q]'(by omega)):=by simp[show q<cs.length by omega]
 obtain⟨n0,n1⟩:=h7 q d _ hd hc;have hA:A≠d:=fun z=>h4 (z▸JL hd);refine⟨fun b o e=>by rw[aD (aM e n0)];exact h1 b o e,h2,by rw[aD hA];exact h3,h4,h5,by rw[KJ];exact h6,fun q' d' c e1 e2=> ?_⟩;rw[Lk]at e2
 by_cases e:q=q'
 ·subst e
  rw[hd]at e1;cases e1;rw[Ix rfl,Ix (by omega)]at e2;cases e2;exact⟨n0,aK⟩
 ·rw[Iq e]at e2
  obtain⟨m0,m1⟩:=h7 q' d' c e1 e2;refine⟨m0,?_⟩;rw[aD fun z=>e ?_]
  ·exact m1
  ·subst z
   have:=(List.getElem?_inj (i:=q') (j:=q) (Iw.mp e1).1 h5).mp (by rw[e1,hd]);exact this.symm
theorem p8.at{H0:Hp}{A:Addr}{ds:List Addr}{cs:List ak}{H:Hp}{q:Nat}{d:Addr}{c:ak}(h:p8 H0 A ds cs H)(hd:ds[q]? =some d)(hc:cs[q]? =some c):H0 d=none/\H d=some (.dK (bL c)):=h.2.2.2.2.2.2 q d c hd hc
theorem p8.push{H0:Hp}{A:Addr}{ds:List Addr}{cs:List ak}{H:Hp}{p:Addr}{c:ak}(h:p8 H0 A ds cs H)(hp:H p=none):p8 H0 A (ds++[p]) (cs++[c]) (L2.upd (L2.upd H p (.dK (bL c))) A (.lst (ds.map V.ref++[.ref p]))):=by
 obtain⟨h1,h2,h3,h4,h5,h6,h7⟩:=h;have hA:A≠p:=fun z=>by rw[z,hp]at h3;cases h3
 have hpd:p∉ds:=fun z=>by
  obtain⟨q,hq,e⟩:=Kx.mp z;obtain⟨_,m1⟩:=h7 q p (cs[q]'(by omega)) (by rw[Iv hq,e]) (by simp[show q<cs.length by omega]);rw[hp]at m1;cases m1
 refine⟨fun b o e=> ?_,h2,?_,?_,?_,by simp[h6],fun q d c' e1 e2=> ?_⟩
 ·rw[aD (aM e h2),aD (aM e (h1.free hp))]
  exact h1 b o e
 ·rw[aK,JQ]
  rfl
 ·intro z
  rcases Jw.mp z with z|z
  ·exact h4 z
  ·exact hA (by simpa using z)
 ·rw[List.nodup_append]
  exact⟨h5,by simp,fun a ha b hb e=>by
   have:b=p:=by simpa using hb
   rw[this]at e;exact hpd (e▸ha)⟩
 ·by_cases hq:q<ds.length
  ·rw[Jx hq]at e1
   rw[Jx (by omega)]at e2;obtain⟨m0,m1⟩:=h7 q d c' e1 e2;have d1:d≠A:=fun z=>h4 (z▸JL e1);have d2:d≠p:=fun z=>hpd (z▸JL e1);exact⟨m0,by rw[aD d1,aD d2];exact m1⟩
  ·rw[Jv (by omega)]at e1
   rw[Jv (by omega)]at e2;have q0:q-ds.length=0:=by
    cases e:q-ds.length with
    | zero=>rfl
    | succ m=>rw[e]at e1;simp at e1
   rw[q0]at e1;rw[show q-cs.length=0 by omega]at e2;have e1' :p=d:=by simpa using e1
   have e2' :c=c' :=by simpa using e2
   subst e1' e2';exact⟨h1.free hp,by rw[aD (KW hA),aK]⟩
theorem t8{H:Hp}{p a:Addr}{o:HO}{u:HO}(hp:H p=none)(ha:p≠a):aE (L2.upd H a u) (L2.upd (L2.upd H p o) a u):=fun b x e=>by
 by_cases hb:b=a
 ·subst hb
  rw[aK]at e ⊢;exact e
 ·rw[aD hb]at e ⊢
  rw[aD (aM e hp)];exact e
theorem r9{K:W.Frag}{H:Hp}{a b:Addr}{kvs:List (am×V)}{xs:List V}(h:bN K (L2.upd H a (.dK kvs)) b xs):bN K H b xs:=by
 have key:∀u,L2.upd H a (.dK kvs) b=some u->(∀k,u≠.dK k)->H b=some u:=fun u e n=>by
  by_cases hb:b=a
  ·subst hb
   rw[aK]at e;exact absurd (JF e).symm (n _)
  ·rw[aD hb]at e
   exact e
 rcases h with(h|⟨o,h⟩)|h
 ·exact .inl (.inl (key _ h fun k z=>by cases z))
 ·exact .inl (.inr ⟨o,key _ h fun k z=>by cases z⟩)
 ·exact .inr h
theorem AO{c:ak}{j:Nat}{k:am}{x:V}(h:(bL c)[j]? =some (k,x)):∃t n,c[j]? =some (t,n)/\k=.inl t/\x=.int n:=by
 unfold bL at h;rw[Iy]at h;cases e:c[j]? with
 | none=>rw[e]at h;cases h
 | some p =>
  rw[e]at h;have:=JF h;cases this;exact⟨p.1,p.2,rfl,rfl,rfl⟩
theorem pP(c:ak):(bL c).length=c.length:=by unfold bL;rw[Ik]
theorem BA(Ls:List ak)(B:List Int):∀(i j:Nat),i<j->(wl Ls B i)[j]? =(Ls++[[]])[j]?
 | 0,j,h=>rfl
 | i+1,j,h=>by
  rw[wl,Ja (by omega)];exact BA Ls B i j (by omega)
theorem vR{H:Hp}{a b:Addr}{x y:HO}(h:a≠b):L2.upd (L2.upd H a x) b y=L2.upd (L2.upd H b y) a x:=by
 funext c
 unfold L2.upd
 by_cases h1:c=a
 ·subst h1
  rw[Iq h,Ix rfl,Ix rfl]
 ·by_cases h2:c=b
  ·subst h2
   rw[Ix rfl,Iq h1,Ix rfl]
  ·rw[Iq h2,Iq h1,Iq h1,Iq h2]
theorem oG{K:W.Frag}{Hi:Hp}{H:Hp}:∀{cs:List ak}{ds:List Addr},ds.length=cs.length->(∀(q:Nat)(d:Addr)(c:ak),ds[q]? =some d->cs[q]? =some c->Hi d=none/\H d=some (.dK (bL c)))->aJ K Hi true (cs.map i7) H (ds.map V.ref)
 | [],[],_,_=>.nil
 | c::cs,d::ds,hl,h=>by
  obtain⟨h0,h1⟩:=h 0 d c rfl rfl;exact .cons (t9 h0 h1) (oG (by simpa using hl) fun q d' c' e1 e2=>h (q+1) d' c' (by simpa using e1) (by simpa using e2))
 | [],_::_,hl,_=>by cases hl
 | _::_,[],hl,_=>by cases hl
section
variable{X:Cx}{Hi:Hp}{τ:En}{cd:Nat->List PV->Option PV}{ct:Ct}{O:List Addr}{σ:L2.St}{H H' :Hp}{D:dN}
theorem jr{α:Type}{l:List α}{i j:Nat}{x:α}(h:l.Nodup)(hi:l[i]? =some x)(hj:l[j]? =some x):i=j:=by
 obtain⟨a,b⟩:=Iw.mp hi;obtain⟨c,d⟩:=Iw.mp hj;exact(List.getElem_inj h).mp (b.trans d.symm)
end
end IR
namespace IR
open PySem
theorem yD(a b:Nat):Builtin.bitAnd (a:Int) (b:Int)=((a &&& b:Nat):Int):=by
 unfold Builtin.bitAnd;have h1:decide ((0:Int)<=(a:Int))=true:=by simp
 have h2:decide ((0:Int)<=(b:Int))=true:=by simp
 rw[h1,h2];simp
theorem pd(a:Nat):Builtin.bitNot (a:Int)= -(a:Int)-1:=by unfold Builtin.bitNot;omega
theorem tR(a b:Nat):Builtin.bitOr (a:Int) (b:Int)=((a ||| b:Nat):Int):=by
 unfold Builtin.bitOr Builtin.bitAnd;rw[pd,pd];have h1:decide ((0:Int)<= -(a:Int)-1)=false:=by simp;omega
 have h2:decide ((0:Int)<= -(b:Int)-1)=false:=by simp;omega
 rw[h1,h2];dsimp only;have e1:(Builtin.bitNot (-(a:Int)-1)).toNat=a:=by unfold Builtin.bitNot;omega
 have e2:(Builtin.bitNot (-(b:Int)-1)).toNat=b:=by unfold Builtin.bitNot;omega
 rw[e1,e2];unfold Builtin.bitNot;omega
theorem eK:∀(n:Nat)(l:List Nat),l.Nodup->(∀x∈l,x<n)->l.length<=n
 | 0,l,_,h=>by
  cases l with
  | nil=>simp
  | cons x l=>exact absurd (h x Ip) (by omega)
 | n+1,l,nd,h=>by
  by_cases hn:n∈l
  ·have h1:=eK n (l.erase n) (nd.erase n) fun x hx=>by
    have:=(nd.mem_erase_iff).mp hx;have:=h x this.2;omega
   rw[List.length_erase_of_mem hn]at h1;omega
  ·have:=eK n l nd fun x hx=>by
    have h2:=h x hx;have:x≠n:=fun z=>hn (z▸hx);omega
   omega
noncomputable def bG(c:ak):Prop:=(c.map (·.1)).Nodup/\∀p∈c,(∃n:Nat,p.1=(n:Int)/\n<256)/\0<p.2
theorem bG.len{c:ak}(h:bG c):c.length<=256:=by
 have nd:((c.map (·.1)).map Int.toNat).Nodup:=by
  rw[List.nodup_iff_pairwise_ne,Kr];refine(List.nodup_iff_pairwise_ne.mp h.1).imp_of_mem fun{a b} ha hb hne e=>hne ?_;obtain⟨p,hp,rfl⟩:=JE.mp ha;obtain⟨q,hq,rfl⟩:=JE.mp hb;obtain⟨⟨m,em,_⟩,_⟩:=h.2 p hp;obtain⟨⟨n,en,_⟩,_⟩:=h.2 q hq;rw[em,en]at e ⊢;omega
 have:=eK 256 _ nd fun x hx=>by
  obtain⟨y,hy,rfl⟩:=JE.mp hx;obtain⟨p,hp,rfl⟩:=JE.mp hy;obtain⟨⟨m,em,hm⟩,_⟩:=h.2 p hp;rw[em];omega
 simpa using this
noncomputable def b9(φ:Int->Int):ak->Int
 | []=>0
 | p::c=>p.2*φ p.1+b9 φ c
theorem rZ(φ:Int->Int):∀c d:ak,b9 φ (c++d)=b9 φ c+b9 φ d
 | [],d=>by simp[b9]
 | p::c,d=>by rw[List.cons_append,b9,b9,rZ φ c d];omega
theorem tT{c:ak}{k:Int}:(c.any fun p=>decide (p.1=k))=true↔k∈c.map (·.1):=by
 rw[List.any_eq_true,JE]
 constructor
 ·rintro⟨p,hp,e⟩
  exact⟨p,hp,Jy e⟩
 ·rintro⟨p,hp,e⟩
  exact⟨p,hp,JP e⟩
theorem yy{c:ak}{k v:Int}(h:k∉c.map (·.1)):c.map (fun p=>if p.1=k then(p.1,v)else p)=c:=by
 induction c with
 | nil=>rfl
 | cons p c ih =>
  rw[JH]at h ⊢;have h1:¬p.1=k:=fun z=>h (by rw[z];exact Ip);rw[Iq h1,ih fun z=>h (Im _ z)]
theorem sv{c:ak}{k:Int}(h:k∈c.map (·.1)):∃v,gi c k=some v/\(k,v)∈c:=by
 unfold gi
 induction c with
 | nil=>cases h
 | cons p c ih =>
  rw[J5]
  by_cases e:p.1=k
  ·refine⟨p.2,by simp[e],?_⟩
   subst e;exact Ip
  ·have h' :k∈c.map (·.1):=by
    rw[JH]at h
    rcases JD.mp h with z|z
    ·exact absurd z.symm e
    ·exact z
   obtain⟨v,hv,hm⟩:=ih h';refine⟨v,?_,Im _ hm⟩;simp only[e,decide_false];exact hv
theorem pE{c:ak}{k:Int}(h:k∉c.map (·.1)):gi c k=none:=by
 unfold gi;rw[List.find?_eq_none.mpr]
 ·rfl
 ·intro p hp e
  exact h (JE.mpr ⟨p,hp,Jy e⟩)
theorem nj(φ:Int->Int){k v w:Int}:∀{c:ak},(c.map (·.1)).Nodup->gi c k=some v->b9 φ (c.map (fun p=>if p.1=k then(p.1,w)else p))=b9 φ c+(w-v)*φ k
 | [],_,h=>by cases h
 | p::c,nd,h=>by
  rw[JH]at nd ⊢;have nd2:=Jo.mp nd
  by_cases e:p.1=k
  ·subst e
   rw[Ix rfl,yy nd2.1];have hv:v=p.2:=by
    unfold gi at h;rw[J5]at h;simp at h;exact h.symm
   subst hv;rw[b9,b9,Int.sub_mul];dsimp only;omega
  ·have h' :gi c k=some v:=by
    unfold gi at h ⊢;rw[J5]at h;simp only[e,decide_false]at h;exact h
   rw[Iq e,b9,b9,nj φ nd2.2 h'];omega
theorem sE{c:ak}{k v:Int}(h:k∈c.map (·.1)):iD c k v=c.map (fun p=>if p.1=k then(p.1,v)else p):=by
 unfold iD;rw[Ix (tT.mpr h)]
theorem oN{c:ak}{k v:Int}(h:k∉c.map (·.1)):iD c k v=c++[(k,v)]:=by
 unfold iD;rw[Iq fun z=>h (tT.mp z)]
theorem Ay(φ:Int->Int){c:ak}(nd:(c.map (·.1)).Nodup)(k n:Int):b9 φ (u6 c k n)=b9 φ c+n*φ k:=by
 unfold u6
 by_cases h:k∈c.map (·.1)
 ·obtain⟨v,hv,_⟩:=sv h
  rw[sE h,hv,nj φ nd hv]
  congr 2
  simp;omega
 ·rw[oN h,pE h,rZ]
  simp[b9]
theorem uz{c:ak}(h:bG c){m:Nat}(hm:m<256){n:Int}(hn:0<n):bG (u6 c (m:Int) n):=by
 unfold u6
 by_cases hk:((m:Int))∈c.map (·.1)
 ·obtain⟨v,hv,hmem⟩:=sv hk
  rw[sE hk,hv];have e:(c.map (fun p=>if p.1=(m:Int)then(p.1,(some v).getD 0+n)else p)).map (·.1)=c.map (·.1):=by
   rw[Jf];refine Jj fun p _=> ?_;dsimp only[Function.comp]
   split<;>rfl
  refine⟨by rw[e];exact h.1,fun p hp=> ?_⟩;obtain⟨p0,hp0,rfl⟩:=JE.mp hp;obtain⟨h1,h2⟩:=h.2 p0 hp0
  split
  ·refine⟨h1,?_⟩
   have:=(h.2 _ hmem).2;show 0<v+n;omega
  ·exact⟨h1,h2⟩
 ·rw[oN hk,pE hk]
  refine⟨?_,fun p hp=> ?_⟩
  ·rw[JQ,List.nodup_append]
   refine⟨h.1,by simp,fun a ha b hb e=> ?_⟩;have hb:b=(m:Int):=by simpa using hb
   rw[hb]at e;rw[e]at ha;exact hk ha
  ·rcases Jw.mp hp with z|z
   ·exact h.2 p z
   ·have:p=((m:Int),none.getD 0+n):=by simpa using z
    rw[this];exact⟨⟨m,rfl,hm⟩,by show 0<0+n;omega⟩
noncomputable def dH(B:List Int):Prop:=∀b∈B,∃n:Nat,b=((2^n:Nat):Int)/\n<8
theorem Gw{a b:Nat}(ha:a<256)(hb:b<256):a ||| b<256:=Nat.or_lt_two_pow (n:=8) ha hb
theorem jb{c:ak}(h:bG c){t:Nat}(ht:t<256){n:Int}(hn:0<n){j:Nat}(hj:j<8):bG (bU (t:Int) n c ((2^j:Nat):Int)):=by
 unfold bU
 split
 ·rw[tR]
  exact uz h (Gw ht (Nat.pow_lt_pow_right (by decide) (show j<8 from hj))) hn
 ·exact h
theorem fT{t:Nat}(ht:t<256){n:Int}(hn:0<n):∀{B:List Int}{c:ak},dH B->bG c->bG (B.foldl (bU (t:Int) n) c)
 | [],c,_,h=>h
 | b::B,c,hB,h=>by
  obtain⟨j,rfl,hj⟩:=hB b Ip;exact fT (B:=B) ht hn (fun b hb=>hB b (Im _ hb)) (jb h ht hn hj)
theorem nu{B:List Int}(hB:dH B):∀{lev c:ak},bG lev->bG c->bG (yO B c lev)
 | [],c,_,h=>h
 | p::lev,c,hl,h=>by
  obtain⟨⟨t,et,ht⟩,hp⟩:=hl.2 p Ip;have h1:bG (cC B c p):=by
   unfold cC;rw[et];exact fT ht hp hB h
  exact nu (lev:=lev) hB ⟨(Jo.mp (show(p.1::lev.map (·.1)).Nodup from hl.1)).2,fun q hq=>hl.2 q (Im _ hq)⟩ h1
theorem gh:bG []:=⟨by simp,fun p hp=>by cases hp⟩
theorem rW{Ls:List ak}{B:List Int}(hB:dH B)(h:∀c∈Ls,bG c):∀i,∀c∈wl Ls B i,bG c
 | 0,c,hc=>by
  rcases Jw.mp hc with z|z
  ·exact h c z
  ·have:c=[]:=by simpa using z
   rw[this];exact gh
 | i+1,c,hc=>by
  rw[wl]at hc;have ih:=rW hB h i
  rcases List.mem_or_eq_of_mem_set hc with z|z
  ·exact ih c z
  ·rw[z]
   refine nu hB ?_ ?_
   ·rw[JG]
    cases e:Ls[i]? with
    | none=>exact gh
    | some d=>exact h d (JL e)
   ·rw[JG]
    cases e:(wl Ls B i)[i+1]? with
    | none=>exact gh
    | some d=>exact ih d (JL e)
noncomputable def b7(Bs:List (List Int)):List ak:=Bs.foldl (fun Ls B=>wl Ls B Ls.length) [[(0,1)]]
theorem iF(Bs:List (List Int))(B:List Int):b7 (Bs++[B])=wl (b7 Bs) B (b7 Bs).length:=by unfold b7;rw[List.foldl_append];rfl
theorem eP{α:Type}{P:List α->Prop}(h0:P [])(hs:∀l x,P l->P (l++[x])):∀l,P l:=by
 intro l;have:∀r:List α,P r.reverse:=by
  intro r
  induction r with
  | nil=>exact h0
  | cons x r ih=>rw[LB];exact hs _ _ ih
 have:=this l.reverse
 rwa [List.reverse_reverse]at this
theorem eh{Bs:List (List Int)}(h:∀B∈Bs,dH B):(b7 Bs).length=Bs.length+1/\∀c∈b7 Bs,bG c:=by
 revert h
 refine eP (P:=fun Bs=>(∀B∈Bs,dH B)->(b7 Bs).length=Bs.length+1/\∀c∈b7 Bs,bG c) ?_ ?_ Bs
 ·intro _
  refine⟨rfl,fun c hc=> ?_⟩;have:c=[(0,1)]:=by simpa [b7]using hc
  rw[this];refine⟨by simp,fun p hp=> ?_⟩;have:p=(0,1):=by simpa using hp
  rw[this];exact⟨⟨0,rfl,by decide⟩,by decide⟩
 ·intro l B ih h
  obtain⟨h1,h2⟩:=ih fun B hB=>h B (Kc _ hB);rw[iF];refine⟨by rw[mX,h1,JA];simp,rW (h B (by simp)) h2 _⟩
noncomputable def iA(c:ak):Int:=(c.map (·.2)).sum
noncomputable def vv(Ls:List ak):List Int:=(Ls.filter fun c=>decide (0<c.length)).map iA
noncomputable def gT{α:Type}(l:List α)(f:α->Int):Int:=(l.map f).sum
theorem dP{α:Type}(x:α)(l:List α)(f:α->Int):gT (x::l) f=f x+gT l f:=by unfold gT;rw[JH,LS]
theorem gS{α:Type}(f:α->Int):gT ([]:List α) f=0:=rfl
theorem jZ{α:Type}{l:List α}{f g:α->Int}(h:∀x∈l,f x=g x):gT l f=gT l g:=by unfold gT;rw[Jj h]
noncomputable def cnt:List (List Nat)->List Nat->Nat->Int
 | [],_,0=>1
 | [],_,_+1=>0
 | _::rs,T,0=>cnt rs T 0
 | r::rs,T,k+1=>cnt rs T (k+1)+gT (r.filter fun c=> !T.contains c) fun c=>cnt rs (c::T) k
theorem kE:∀(rs:List (List Nat))(T:List Nat),cnt rs T 0=1
 | [],_=>rfl
 | _::rs,T=>by rw[cnt];exact kE rs T
theorem fB:∀(rs:List (List Nat)){T T' :List Nat}(k:Nat),(∀r∈rs,∀c∈r,T.contains c=T'.contains c)->cnt rs T k=cnt rs T' k
 | [],_,_,0,_=>rfl
 | [],_,_,_+1,_=>rfl
 | _::rs,T,T',0,h=>by rw[cnt,cnt];exact fB rs 0 fun r hr=>h r (Im _ hr)
 | r::rs,T,T',k+1,h=>by
  rw[cnt,cnt,fB rs (k+1) fun r hr=>h r (Im _ hr)];have e:(r.filter fun c=> !T.contains c)=r.filter fun c=> !T'.contains c:=Kd fun c hc=>by rw[h r Ip c hc]
  rw[e];refine Je (_+·) (jZ fun c _=>fB rs k fun r' hr' d hd=> ?_);rw[K5,K5,h r' (Im _ hr') d hd]
theorem mY(φ χ:Int->Int):∀c:ak,b9 (fun m=>φ m+χ m) c=b9 φ c+b9 χ c
 | []=>by simp[b9]
 | p::c=>by rw[b9,b9,b9,mY φ χ c,Int.mul_add];omega
theorem gz{φ χ:Int->Int}:∀{c:ak},(∀p∈c,φ p.1=χ p.1)->b9 φ c=b9 χ c
 | [],_=>rfl
 | p::c,h=>by rw[b9,b9,h p Ip,gz fun q hq=>h q (Im _ hq)]
noncomputable def Sb(B:List Int)(φ:Int->Int)(m:Int):Int:=gT B fun b=>if Builtin.bitAnd m b=0 then φ (Builtin.bitOr m b)else 0
theorem mG(φ:Int->Int){t:Nat}(ht:t<256){n:Int}(hn:0<n):∀{B:List Int}{c:ak},dH B->bG c->b9 φ (B.foldl (bU (t:Int) n) c)=b9 φ c+n*Sb B φ (t:Int)
 | [],c,_,_=>by
  rw[List.foldl_nil];unfold Sb;rw[gS];omega
 | b::B,c,hB,h=>by
  obtain⟨j,rfl,hj⟩:=hB b Ip;rw[List.foldl_cons,mG φ ht hn (B:=B) (fun b hb=>hB b (Im _ hb)) (jb h ht hn hj)];have e:b9 φ (bU (t:Int) n c ((2^j:Nat):Int))=b9 φ c+n*(if Builtin.bitAnd (t:Int) ((2^j:Nat):Int)=0 then φ (Builtin.bitOr (t:Int) ((2^j:Nat):Int))else 0):=by
   unfold bU
   split
   ·rw[Ay φ h.1]
   ·simp
  rw[e];unfold Sb;rw[dP,Int.mul_add];omega
theorem mZ(φ:Int->Int){B:List Int}(hB:dH B):∀{lev c:ak},bG lev->bG c->b9 φ (yO B c lev)=b9 φ c+b9 (Sb B φ) lev
 | [],c,_,_=>by simp[yO,b9]
 | p::lev,c,hl,h=>by
  obtain⟨⟨t,et,ht⟩,hp⟩:=hl.2 p Ip;have hl2:bG lev:=⟨(Jo.mp (show(p.1::lev.map (·.1)).Nodup from hl.1)).2,fun q hq=>hl.2 q (Im _ hq)⟩;have h1:bG (cC B c p):=by
   unfold cC;rw[et];exact fT ht hp hB h
  have e:yO B c (p::lev)=yO B (cC B c p) lev:=rfl;rw[e,mZ φ hB hl2 h1,b9];have e2:b9 φ (cC B c p)=b9 φ c+p.2*Sb B φ p.1:=by
   unfold cC;rw[et];exact mG φ ht hp hB h
  rw[e2];omega
noncomputable def yX(B:List Int):ak->List ak->List ak
 | prev,[]=>[yO B [] prev]
 | prev,c::Ls=>yO B c prev::yX B c Ls
theorem rX(B:List Int):∀(prev:ak)(Ls:List ak)(j:Nat),(yX B prev Ls)[j]? =if j<=Ls.length then some (yO B ((Ls++[[]]).getD j []) ((prev::Ls).getD j []))else none
 | prev,[],0=>rfl
 | prev,[],j+1=>by simp[yX]
 | prev,c::Ls,0=>by simp[yX]
 | prev,c::Ls,j+1=>by
  rw[yX,J8,rX B c Ls j];simp
theorem qA(Ls:List ak)(B:List Int):∀(i j:Nat),i<=Ls.length->(wl Ls B i)[j]? =if j=0\/i<j then(Ls++[[]])[j]? else some (yO B ((Ls++[[]]).getD j []) (Ls.getD (j-1) []))
 | 0,j,_=>by
  rw[wl]
  by_cases h:j=0\/0<j
  ·rw[Ix h]
  ·omega
 | i+1,j,hi=>by
  rw[wl,Lk,mX]
  by_cases h:i+1=j
  ·subst h
   rw[Ix rfl,Ix (by omega),Iq (by omega),JG,qA Ls B i (i+1) (by omega),Ix (.inr (by omega)),<-JG];rfl
  ·rw[Iq h,qA Ls B i j (by omega)]
   by_cases h2:j=0\/i<j
   ·rw[Ix h2,Ix (by omega)]
   ·rw[Iq h2,Iq (by omega)]
theorem Bw(c:ak)(r:List ak)(B:List Int):wl (c::r) B (c::r).length=c::yX B c r:=by
 refine Lm fun j=> ?_;rw[qA _ _ _ _ (Io _)];cases j with
 | zero=>simp
 | succ j =>
  rw[J8,rX,JI]
  by_cases h:j<=r.length
  ·rw[Iq (by omega),Ix h]
   simp
  ·rw[Ix (.inr (by omega)),Iq h]
   rw[KG (by simp;omega)]
noncomputable def bo(ψ:Nat->Int->Int):List ak->Int
 | []=>0
 | c::Ls=>b9 (ψ 0) c+bo (fun q=>ψ (q+1)) Ls
theorem fM:∀{ψ χ:Nat->Int->Int}{Ls:List ak},(∀q,∀c∈Ls,∀p∈c,ψ q p.1=χ q p.1)->bo ψ Ls=bo χ Ls
 | _,_,[],_=>rfl
 | ψ,χ,c::Ls,h=>by
  rw[bo,bo,gz fun p hp=>h 0 c Ip p hp,fM fun q d hd p hp=>h (q+1) d (Im _ hd) p hp]
theorem n6{B:List Int}(hB:dH B):∀(r:List ak)(ψ:Nat->Int->Int)(prev:ak),bG prev->(∀c∈r,bG c)->bo ψ (yX B prev r)=b9 (Sb B (ψ 0)) prev+bo (fun q m=>ψ q m+Sb B (ψ (q+1)) m) r
 | [],ψ,prev,hp,_=>by
  rw[yX,bo,bo,bo,mZ _ hB hp gh];simp[b9]
 | c::r,ψ,prev,hp,hr=>by
  have hc:=hr c Ip;rw[yX,bo,bo,mZ _ hB hp hc,n6 hB r (fun q=>ψ (q+1)) c hc fun d hd=>hr d (Im _ hd),mY];omega
theorem yh{B:List Int}(hB:dH B){Ls:List ak}(h0:Ls≠[])(h:∀c∈Ls,bG c)(ψ:Nat->Int->Int):bo ψ (wl Ls B Ls.length)=bo (fun q m=>ψ q m+Sb B (ψ (q+1)) m) Ls:=by
 cases Ls with
 | nil=>exact absurd rfl h0
 | cons c r =>
  rw[Bw,bo,n6 hB r _ c (h c Ip) fun d hd=>h d (Im _ hd),bo,mY];omega
noncomputable def gl(m:Nat):List Nat:=(List.range 8).filter fun c=>m.testBit c
theorem iQ{m c:Nat}(hc:c<8):(gl m).contains c=m.testBit c:=by
 unfold gl;rw[Jb,List.contains_iff_mem,KI,KR];exact⟨fun h=>h.2,fun h=>⟨hc,h⟩⟩
theorem Av(m c:Nat):(m &&& 2^c=0)↔m.testBit c=false:=by
 constructor
 ·intro h
  have:=Je (fun x=>Nat.testBit x c) h
  simpa [Nat.testBit_and,Nat.testBit_two_pow_self]using this
 ·intro h
  refine Nat.eq_of_testBit_eq fun i=> ?_;rw[Nat.testBit_and,Nat.zero_testBit,Nat.testBit_two_pow]
  by_cases e:c=i
  ·subst e
   simp[h]
  ·simp[e]
noncomputable def bn(r:List Nat):List Int:=r.map fun c=>((2^c:Nat):Int)
theorem fX{r:List Nat}(h:∀c∈r,c<8):dH (bn r):=fun b hb=>by
 obtain⟨c,hc,rfl⟩:=JE.mp hb;exact⟨c,rfl,h c hc⟩
noncomputable def u7(aP:List (List Nat))(k q:Nat)(m:Int):Int:=if q<=k then cnt aP (gl m.toNat) (k-q)else 0
theorem CS{r:List Nat}(hr:∀c∈r,c<8){aP:List (List Nat)}(hrest:∀r∈aP,∀c∈r,c<8)(k q:Nat)(m:Nat):Sb (bn r) (u7 aP k (q+1)) (m:Int)=if q+1<=k then gT (r.filter fun c=> !(gl m).contains c) (fun c=>cnt aP (c::gl m) (k-(q+1)))else 0:=by
 induction r with
 | nil =>
  unfold Sb bn;rw[Kl,gS,List.filter_nil,gS]
  split<;>rfl
 | cons c r ih =>
  have hc:=hr c Ip;have ih:=ih fun d hd=>hr d (Im _ hd);have e0:Sb (bn (c::r)) (u7 aP k (q+1)) (m:Int)=(if Builtin.bitAnd (m:Int) ((2^c:Nat):Int)=0 then u7 aP k (q+1) (Builtin.bitOr (m:Int) ((2^c:Nat):Int))else 0)+Sb (bn r) (u7 aP k (q+1)) (m:Int):=by
   unfold Sb bn;rw[JH,dP]
  rw[e0,ih,yD,tR,KQ,iQ hc];have e1:(((m &&& 2^c:Nat):Int)=0)↔m.testBit c=false:=by
   rw[<- Av];omega
  cases hb:m.testBit c with
  | true =>
   rw[Iq (fun z=>by have:=e1.mp z;rw[hb]at this;cases this)];simp
  | false =>
   rw[Ix (e1.mpr hb)];simp only[Le,Kp];unfold u7
   by_cases hk:q+1<=k
   ·rw[Ix hk,Ix hk,Ix hk,dP]
    refine Je (·+_) (fB aP _ fun r' hr' d hd=> ?_);have hd8:=hrest r' hr' d hd;rw[show((m ||| 2^c:Nat):Int).toNat=m ||| 2^c by simp,iQ hd8,K5,iQ hd8,Nat.testBit_or,Nat.testBit_two_pow,Bool.or_comm]
    congr 1
    by_cases e:c=d
    ·subst e;simp
    ·have:¬d=c:=fun z=>e z.symm
     simp[e,this]
   ·rw[Iq hk,Iq hk,Iq hk]
    rfl
theorem v8{r:List Nat}(hr:∀c∈r,c<8){aP:List (List Nat)}(hrest:∀r∈aP,∀c∈r,c<8)(k q:Nat)(m:Nat):u7 aP k q (m:Int)+Sb (bn r) (u7 aP k (q+1)) (m:Int)=u7 (r::aP) k q (m:Int):=by
 rw[CS hr hrest];unfold u7
 by_cases hq:q<=k
 ·rw[Ix hq,Ix hq]
  cases e:k-q with
  | zero =>
   rw[Iq (by omega),cnt];omega
  | succ j =>
   rw[Ix (by omega),show k-(q+1)=j by omega];show _=cnt (r::aP) (gl m) (j+1);rw[cnt];simp
 ·rw[Iq hq,Iq hq,Iq (by omega)]
  rfl
noncomputable def kR(rows:List (List Nat)):Prop:=∀r∈rows,∀c∈r,c<8
theorem wq(k:Nat):∀(rows aP:List (List Nat)),kR rows->kR aP->bo (u7 aP k) (b7 (rows.map bn))=cnt (rows++aP) [] k:=by
 intro rows;refine eP (P:=fun rows=>∀aP,kR rows->kR aP->bo (u7 aP k) (b7 (rows.map bn))=cnt (rows++aP) [] k) ?_ ?_ rows
 ·intro aP _ _
  have e:b7 (([]:List (List Nat)).map bn)=[[(0,1)]]:=rfl;rw[e,bo,bo,b9,b9];unfold u7;rw[Ix (JR _)];have e2:gl (Int.toNat (0,1).1)=[]:=rfl;show(1:Int)*cnt aP (gl (Int.toNat 0)) (k-0)+0+0=_;have e3:gl (Int.toNat 0)=[]:=rfl;rw[e3,Nat.sub_zero,List.nil_append];omega
 ·intro l r ih aP h1 h2
  have hr:∀c∈r,c<8:=h1 r (by simp);have hl:kR l:=fun r' hr' =>h1 r' (Kc _ hr');have hg:∀B∈l.map bn,dH B:=fun B hB=>by
   obtain⟨r',hr',rfl⟩:=JE.mp hB;exact fX (hl r' hr')
  obtain⟨g1,g2⟩:=eh hg;rw[JQ,JH,Kl,iF,yh (fX hr) (fun z=>by rw[z]at g1;simp at g1) g2,LD];have h3:kR (r::aP):=fun r' hr' =>by
   rcases JD.mp hr' with z|z
   ·rw[z];exact hr
   ·exact h2 r' z
  rw[show[r]++aP=r::aP from rfl,<-ih (r::aP) hl h3];refine fM fun q c hc p hp=> ?_;obtain⟨⟨m,em,_⟩,_⟩:=(g2 c hc).2 p hp;rw[em];exact v8 hr h2 k q m
theorem rY:∀c:ak,b9 (fun _=>1) c=iA c
 | []=>rfl
 | p::c=>by rw[b9,rY c];unfold iA;rw[JH,LS];omega
theorem jU:∀c:ak,b9 (fun _=>0) c=0
 | []=>rfl
 | p::c=>by rw[b9,jU c];omega
theorem rh:∀(Ls:List ak)(k:Nat),bo (fun q _=>if q=k then 1 else 0) Ls=iA (Ls.getD k [])
 | [],k=>by simp[bo,iA]
 | c::Ls,0=>by
  rw[bo];have e1:(fun _:Int=>if 0=0 then(1:Int)else 0)=fun _=>1:=rfl;have e2:∀Ls:List ak,bo (fun q _=>if q+1=0 then(1:Int)else 0) Ls=0:=by
   intro Ls;have h:∀(Ls:List ak)(ψ:Nat->Int->Int),(∀q m,ψ q m=0)->bo ψ Ls=0:=by
    intro Ls
    induction Ls with
    | nil=>intro _ _;rfl
    | cons d Ls ih =>
     intro ψ hψ;rw[bo,ih _ fun q m=>hψ (q+1) m,gz (χ:=fun _=>0) fun p _=>hψ 0 p.1,jU];rfl
   exact h Ls _ fun q m=>by simp
  rw[e1,e2 Ls,rY];simp
 | c::Ls,k+1=>by
  rw[bo];have e1:b9 (fun _:Int=>if 0=k+1 then(1:Int)else 0) c=0:=by
   have:(fun _:Int=>if 0=k+1 then(1:Int)else 0)=fun _=>0:=by funext _;simp
   rw[this,jU]
  have e2:(fun(q:Nat) (_:Int)=>if q+1=k+1 then(1:Int)else 0)=fun q _=>if q=k then 1 else 0:=by funext q _;simp
  rw[e1,e2,rh Ls k];simp
theorem wr(rows:List (List Nat))(h:kR rows)(k:Nat):iA ((b7 (rows.map bn)).getD k [])=cnt rows [] k:=by
 have e:=wq k rows [] h (fun r hr=>by cases hr);rw[Jp]at e;rw[<- e,<-rh];refine fM fun q c _ p _=> ?_;unfold u7
 by_cases hq:q=k
 ·subst hq
  rw[Ix rfl,Ix (Io _),Nat.sub_self,cnt]
 ·rw[Iq hq]
  by_cases h2:q<=k
  ·rw[Ix h2]
   cases e:k-q with
   | zero=>omega
   | succ j=>rw[cnt]
  ·rw[Iq h2]
theorem vd{c:ak}(h:bG c):0<c.length↔0<iA c:=by
 cases c with
 | nil=>simp[iA]
 | cons p c =>
  have h1:=(h.2 p Ip).2;have h2:∀c:ak,(∀q∈c,0<q.2)->0<=iA c:=by
   intro c
   induction c with
   | nil=>intro _;exact Lo _
   | cons q c ih =>
    intro hq;have a:=hq q Ip;have b:=ih fun r hr=>hq r (Im _ hr);unfold iA at b ⊢;rw[JH,LS];omega
  have h3:=h2 c fun q hq=>(h.2 q (Im _ hq)).2
  constructor
  ·intro _
   unfold iA at h3 ⊢;rw[JH,LS];omega
  ·intro _
   simp
theorem vt(rows:List (List Nat))(h:kR rows):vv (b7 (rows.map bn))=((List.range (rows.length+1)).map (cnt rows [])).filter fun n=>decide (0<n):=by
 have hg:∀B∈rows.map bn,dH B:=fun B hB=>by
  obtain⟨r',hr',rfl⟩:=JE.mp hB;exact fX (h r' hr')
 obtain⟨g1,g2⟩:=eh hg;have e:(b7 (rows.map bn)).map iA=(List.range (rows.length+1)).map (cnt rows []):=by
  refine Lm fun i=> ?_;rw[Iy,Iy]
  by_cases hi:i<rows.length+1
  ·have hi' :i<(b7 (rows.map bn)).length:=by rw[g1,Ik];exact hi
   rw[Jk hi,Iv hi',J0,J0,<-wr rows h i,JG,Iv hi'];rfl
  ·rw[KG (by rw[g1,Ik];omega),KG (by simpa using hi)]
   rfl
 unfold vv;rw[<- e,List.filter_map]
 congr 1
 refine Kd fun c hc=> ?_;rw[Function.comp_apply,Ky];exact vd (g2 c hc)
noncomputable abbrev aG:=Nat×Nat
noncomputable def Eb(cells:List aG)(k:Nat):List aG:=(cells.drop (k+1)).filter fun c=>decide ((cells.getD k (0,0)).1<c.1)
noncomputable def pl:Nat->List aG->List Int->Nat->Int
 | _,_,_,0=>1
 | 0,_,_,_+1=>0
 | n+1,cells,T,j+1=>gT (List.range cells.length) fun k=>if T.contains ((cells.getD k (0,0)).2:Int)then 0 else pl n (Eb cells k) (T++[((cells.getD k (0,0)).2:Int)]) j
noncomputable def eI(i:Nat)(r:List Nat):List aG:=r.map fun c=>(i,c)
noncomputable def ay:Nat->List (List Nat)->List aG
 | _,[]=>[]
 | i,r::rs=>eI i r++ay (i+1) rs
theorem dr:∀(i:Nat)(rs:List (List Nat)),∀c∈ay i rs,i<=c.1/\c.1<i+rs.length
 | i,[],c,h=>by cases h
 | i,r::rs,c,h=>by
  rcases Jw.mp h with z|z
  ·obtain⟨x,_,rfl⟩:=JE.mp z
   exact⟨Io _,by rw[JI];omega⟩
  ·have:=dr (i+1) rs c z
   rw[JI];omega
theorem eQ{l:List aG}{p:aG->Bool}(h:∀c∈l,p c=false):l.filter p=[]:=List.filter_eq_nil_iff.mpr fun c hc=>by rw[h c hc];exact Ir
theorem oK(a b:Nat):List.range (a+b)=List.range a++(List.range b).map (a+·):=by
 rw[List.range_add]
theorem kF:∀(rs:List (List Nat))(T:List Nat)(k:Nat),rs.length<k->cnt rs T k=0
 | [],_,0,h=>by simp at h
 | [],_,_+1,_=>by rw[cnt]
 | r::rs,T,0,h=>by simp at h
 | r::rs,T,k+1,h=>by
  rw[JI]at h;rw[cnt,kF rs T (k+1) (by omega)];have:∀l:List Nat,(gT l fun c=>cnt rs (c::T) k)=0:=by
   intro l
   induction l with
   | nil=>rfl
   | cons c l ih=>rw[dP,kF rs (c::T) k (by omega),ih];rfl
  rw[this];rfl
noncomputable def kD(z:Str):List Nat:=(List.range z.length).filter fun c=>z.cps.toList.getD c 0==120
noncomputable def aC(rows:List Str):List aG:=ay 0 (rows.map kD)
noncomputable def II(a b:aG):Bool:=a.1==b.1||a.2==b.2
noncomputable def wX(x:aG)(l:List aG):List aG:=l.filter fun y=> !II x y
noncomputable def GK(f:aG->List aG->Int):List aG->Int
 | []=>0
 | x::xs=>f x xs+GK f xs
noncomputable def rk:Nat->List aG->Int
 | 0=>fun _=>1
 | k+1=>GK fun x xs=>rk k (wX x xs)
theorem mr(l:List aG):rk 0 l=1:=rfl
theorem qM(k:Nat):rk (k+1) []=0:=rfl
theorem ee(k:Nat)(x:aG)(xs:List aG):rk (k+1) (x::xs)=rk (k+1) xs+rk k (wX x xs):=by
 show rk k (wX x xs)+rk (k+1) xs=_;omega
theorem vy(k i:Nat)(aP:List aG)(hrest:∀c∈aP,i<c.1):∀r:List Nat,rk (k+1) (eI i r++aP)=rk (k+1) aP+gT r fun c=>rk k (aP.filter fun y=> !(c==y.2))
 | []=>by
  show rk (k+1) aP=_;rw[gS];omega
 | c::r=>by
  show rk (k+1) ((i,c)::(eI i r++aP))=_;rw[ee,vy k i aP hrest r,dP];have e:wX (i,c) (eI i r++aP)=aP.filter fun y=> !(c==y.2):=by
   unfold wX;rw[KU,eQ (l:=eI i r) fun y hy=> ?_,List.nil_append]
   ·refine Kd fun y hy=> ?_
    have:=hrest y hy;unfold II;have h1:(i==y.1)=false:=by simp;omega
    show(!((i==y.1)||(c==y.2)))=_;rw[h1,Lq]
   ·obtain⟨d,_,rfl⟩:=JE.mp hy
    simp[II]
  rw[e];omega
noncomputable def freeC(T:List Nat)(l:List aG):List aG:=l.filter fun c=> !T.contains c.2
theorem qN:∀(rs:List (List Nat))(k i:Nat)(T:List Nat),rk k (freeC T (ay i rs))=cnt rs T k
 | rs,0,i,T=>by rw[mr,kE]
 | [],k+1,i,T=>by rw[cnt];rfl
 | r::rs,k+1,i,T=>by
  have e:freeC T (ay i (r::rs))=eI i (r.filter fun c=> !T.contains c)++freeC T (ay (i+1) rs):=by
   unfold freeC;rw[ay,KU]
   congr 1
   unfold eI;rw[List.filter_map];rfl
  rw[e,vy k i _ (fun c hc=>by have:=(dr (i+1) rs c (KI.mp hc).1).1;omega),qN rs (k+1) (i+1) T,cnt];refine Je (_+·) (jZ fun c _=> ?_);rw[<- qN rs k (i+1) (c::T)]
  congr 1
  unfold freeC;rw[List.filter_filter];refine Kd fun y _=> ?_;rw[K5,Bool.not_or]
  congr 1
  rw[Jb];simp only[Ke,LX,ne_eq];exact⟨fun h z=>h z.symm,fun h z=>h z.symm⟩
theorem uf(l:List aG):freeC [] l=l:=by
 unfold freeC;exact LZ.mpr fun c _=>rfl
noncomputable def vw(l:List aG):List Int:=((List.range 65).map fun k=>rk k l).filter fun n=>decide (0<n)
theorem yv(rows:List (List Nat))(h:kR rows)(h8:rows.length<=64):vv (b7 (rows.map bn))=vw (ay 0 rows):=by
 rw[vt rows h];unfold vw;have e:∀k,rk k (ay 0 rows)=cnt rows [] k:=fun k=>by
  have:=qN rows k 0 [];rw[uf]at this;exact this
 obtain⟨m,hm⟩:∃m,65=(rows.length+1)+m:=⟨64-rows.length,by omega⟩;rw[hm,oK (rows.length+1) m,JQ,KU,Jf];have z:((List.range m).map ((fun k=>rk k (ay 0 rows))∘fun x=>rows.length+1+x)).filter (fun n=>decide (0<n))=[]:=by
  rw[List.filter_eq_nil_iff];intro x hx;obtain⟨k,_,rfl⟩:=JE.mp hx;rw[Function.comp_apply,e,kF _ _ _ (by omega)]
  decide
 rw[z,Jp]
 congr 1
 exact(Jj fun k _=>e k).symm
end IR
namespace IR
open PySem L2
theorem dU:∀(k:Nat)(l:List aG),0<=rk k l
 | 0,l=>by rw[mr];omega
 | k+1,[]=>by rw[qM];omega
 | k+1,x::xs=>by
  rw[ee];have h1:=dU (k+1) xs;have h2:=dU k (wX x xs);omega
theorem mw:∀(k:Nat)(l:List aG),0<rk (k+1) l->0<rk k l
 | 0,l,_=>by rw[mr];omega
 | k+1,[],h=>by rw[qM]at h;omega
 | k+1,x::xs,h=>by
  rw[ee]at h;rw[ee];have h1:=dU (k+1) xs;have h2:=dU k (wX x xs);have h3:=mw (k+1) xs;have h4:=mw k (wX x xs);omega
theorem zY(x:aG)(l:List aG):(wX x l).length<=l.length:=Jc _ _
theorem mv:∀(k:Nat)(l:List aG),l.length<k->rk k l=0
 | 0,l,h=>by omega
 | k+1,[],_=>qM k
 | k+1,x::xs,h=>by
  rw[JI]at h;have:=zY x xs;rw[ee,mv (k+1) xs (by omega),mv k (wX x xs) (by omega)];rfl
theorem xU(f:Nat->Int)(h0:∀k,0<=f k)(hd:∀k,0<f (k+1)->0<f k):∀N,∃m,m<=N/\((List.range N).map f).filter (fun n=>decide (0<n))=(List.range m).map f/\(∀k,k<m->0<f k)/\∀k,m<=k->k<N->f k=0
 | 0=>⟨0,Io _,rfl,fun k h=>by omega,fun k _ h=>by omega⟩
 | N+1=>by
  obtain⟨m,h1,h2,h3,h4⟩:=xU f h0 hd N;rw[K2,JQ,KU,h2]
  by_cases hp:0<f N
  ·have all:∀d k,k+d=N->0<f k:=by
    intro d
    induction d with
    | zero=>intro k e;rw[show k=N by omega];exact hp
    | succ d ih=>intro k e;exact hd k (ih (k+1) (by omega))
   have em:m=N:=by
    by_cases z:m=N
    ·exact z
    ·have:=all (N-m) m (by omega)
     have:=h4 m (Io _) (by omega);omega
   refine⟨N+1,Io _,?_,fun k hk=>all (N-k) k (by omega),fun k a b=>by omega⟩;rw[em,K2,JQ];simp[hp]
  ·refine⟨m,by omega,by simp[hp],h3,fun k a b=> ?_⟩
   by_cases z:k=N
   ·subst z;have:=h0 k;omega
   ·exact h4 k a (by omega)
theorem yw(l:List aG)(hl:l.length<=64):∃m,vw l=(List.range m).map (fun k=>rk k l)/\(∀k,k<m->0<rk k l)/\∀k,m<=k->rk k l=0:=by
 obtain⟨m,_,h2,h3,h4⟩:=xU (fun k=>rk k l) (fun k=>dU k l) (fun k=>mw k l) 65;refine⟨m,h2,h3,fun k hk=> ?_⟩
 by_cases z:k<65
 ·exact h4 k hk z
 ·exact mv k l (by omega)
theorem ge:∀(i:Nat)(rs:List (List Nat)),(∀r∈rs,r.Nodup)->(ay i rs).Nodup
 | _,[],_=>.nil
 | i,r::rs,h=>by
  rw[ay,List.nodup_append];refine⟨?_,ge (i+1) rs fun r' hr' =>h r' (Im _ hr'),fun a ha b hb=> ?_⟩
  ·have:=h r Ip
   unfold eI;exact List.Pairwise.map _ (fun x y n z=>n (by injection z)) this
  ·obtain⟨x,_,rfl⟩:=JE.mp ha
   have:=(dr (i+1) rs b hb).1;intro z;rw[<- z]at this;exact absurd this (by simp)
theorem m9(rows:List Str):(aC rows).Nodup:=ge 0 _ fun r hr=>by
 obtain⟨z,_,rfl⟩:=JE.mp hr;exact List.Pairwise.filter _ List.nodup_range
theorem kJ:∀(i:Nat)(rs:List (List Nat)),(∀r∈rs,r.length<=8)->(ay i rs).length<=8*rs.length
 | _,[],_=>Io _
 | i,r::rs,h=>by
  have h1:=kJ (i+1) rs fun r' hr' =>h r' (Im _ hr');have h2:=h r Ip;rw[ay,JA,JI];unfold eI;rw[Ik];omega
theorem kI(rows:List Str)(h8:rows.length<=8)(w8:∀z∈rows,z.length<=8):(aC rows).length<=64:=by
 have:=kJ 0 (rows.map kD) fun r hr=>by
  obtain⟨z,hz,rfl⟩:=JE.mp hr;unfold kD;refine JO (Jc _ _) ?_;rw[JU];exact w8 z hz
 rw[Ik]at this;unfold aC;omega
noncomputable def bk(w j:Nat):Nat:=if j<w then w-1-j else j
noncomputable def ch:Nat->Nat->Nat
 | _,0=>1
 | 0,_+1=>0
 | n+1,k+1=>ch n (k+1)+ch n k
noncomputable def fl:Nat->Nat->Nat
 | _,0=>1
 | n,k+1=>n*fl (n-1) k
noncomputable def fn(m n k:Nat):Int:=((ch m k*fl n k:Nat):Int)
section
variable(b:Nat->Nat->Bool)
noncomputable def jE:List Nat->List Nat->Nat->Int
 | [],_,j=>if j=0 then 1 else 0
 | i::L,C,j=>gT C fun c=>if b i c then(if j=0 then 0 else jE L (C.erase c) (j-1))else jE L (C.erase c) j
end
theorem gk{α β:Type}(g:α->List β)(n:Nat):∀l:List α,(∀x∈l,(g x).length<=n)->(l.flatMap g).length<=l.length*n
 | [],_=>by simp
 | x::l,h=>by
  have:=gk g n l fun y hy=>h y (Im _ hy);have:=h x Ip;rw[List.flatMap_cons,JA,JI,Nat.add_mul];omega
noncomputable def fx(x:Int):Nat->Int
 | 0=>1
 | m+1=>fx x m*(x-m)
theorem du:∀(i:Nat)(rs:List (List Nat))(c:aG),c∈ay i rs->∃q∈rs,c.2∈q
 | _,[],c,h=>by simp[ay]at h
 | i,r::rs,c,h=>by
  rw[ay,Jw]at h
  rcases h with h|h
  ·obtain⟨d,hd,rfl⟩:=JE.mp h
   exact⟨r,Ip,hd⟩
  ·obtain⟨q,hq,e⟩:=du (i+1) rs c h
   exact⟨q,Im _ hq,e⟩
end IR
namespace IR
end IR
namespace IR
end IR
namespace IR
open PySem L2
end IR
namespace IR
open PySem
section
variable{α:Type}(S:α->α->Bool)
noncomputable def nI:Nat->List α->Nat
 | 0,_=>1
 | _+1,[]=>0
 | k+1,c::l=>nI k (l.filter fun x=> !S c x)+nI (k+1) l
termination_by k l=>(k,l.length)
theorem jC(l:List α):nI S 0 l=1:=by rw[nI]
theorem wg(k:Nat):nI S (k+1) []=0:=by rw[nI]
theorem sU(k:Nat)(c:α)(l:List α):nI S (k+1) (c::l)=nI S k (l.filter fun x=> !S c x)+nI S (k+1) l:=by rw[nI]
noncomputable def ext(p:List α):List α->List (List α×List α)
 | []=>[]
 | c::l=>(p++[c],l.filter fun x=> !S c x)::ext p l
noncomputable def up(lev:List (List α×List α)):List (List α×List α):=lev.flatMap fun x=>ext S x.1 x.2
noncomputable def lv(l:List α):Nat->List (List α×List α)
 | 0=>[([],l)]
 | k+1=>up S (lv l k)
noncomputable def wI(j:Nat)(lev:List (List α×List α)):Nat:=(lev.map fun x=>nI S j x.2).sum
theorem By(j:Nat)(a b:List (List α×List α)):wI S j (a++b)=wI S j a+wI S j b:=by
 unfold wI;rw[JQ,List.sum_append]
theorem vP(j:Nat)(p:List α):∀l:List α,wI S j (ext S p l)=nI S (j+1) l
 | []=>by rw[wg];rfl
 | c::l=>by
  rw[sU,<-vP j p l];rfl
theorem BB(j:Nat):∀lev:List (List α×List α),wI S j (up S lev)=wI S (j+1) lev
 | []=>rfl
 | x::lev=>by
  have e:up S (x::lev)=ext S x.1 x.2++up S lev:=rfl;rw[e,By,vP,BB j lev];rfl
theorem BC(l:List α):∀k j:Nat,wI S j (lv S l k)=nI S (j+k) l
 | 0,j=>by
  show nI S j l+0=_;rfl
 | k+1,j=>by
  show wI S j (up S (lv S l k))=_;rw[BB,BC l k (j+1)]
  congr 1
  omega
theorem yZ(lev:List (List α×List α)):wI S 0 lev=lev.length:=by
 unfold wI
 induction lev with
 | nil=>rfl
 | cons x lev ih=>rw[JH,LS,ih,jC,JI];omega
theorem jv(l:List α)(k:Nat):(lv S l k).length=nI S k l:=by
 rw[<- yZ S,BC]
 congr 1
 omega
theorem pM{p:List α}:∀{l:List α}{x:List α×List α},x∈ext S p l->x.1.length=p.length+1
 | c::l,x,h=>by
  unfold ext at h
  rcases JD.mp h with r|r
  ·rw[r];simp
  ·exact pM r
theorem dm{l:List α}:∀{k:Nat}{x:List α×List α},x∈lv S l k->x.1.length=k
 | 0,x,h=>by
  have h:x∈[([],l)]:=h;rw[Jg.mp h];rfl
 | k+1,x,h=>by
  have h:x∈(lv S l k).flatMap fun x=>ext S x.1 x.2:=h;obtain⟨y,hy,hx⟩:=List.mem_flatMap.mp h;rw[pM S hx,dm hy]
noncomputable def fd(s:Nat):List α->List (List α)
 | []=>[[]]
 | c::l=>fd s l++((fd s l).filter fun p=>decide (p.length<s)&&p.all fun x=> !S c x).map (c::·)
noncomputable def bI(s:Nat)(l:List α):Nat:=((List.range (s+1)).map fun k=>nI S k l).sum
end
noncomputable def aslt(a b c d:Int):Bool:=decide ((if a-c<0 then -(a-c)else a-c)=(if b-d<0 then -(b-d)else b-d))
noncomputable def stk(j:Nat)(a b c d:Int):Bool:=if j=0 then decide (a=c)||decide (b=d)else if j=1 then aslt a b c d else(decide (a=c)||decide (b=d))||aslt a b c d
noncomputable def aN(j:Nat):Str:=if j=0 then "straight" else if j=1 then "aslant" else "all"
noncomputable def SK(j:Nat)(c x:aG):Bool:=stk j (c.1:Nat) (c.2:Nat) (x.1:Nat) (x.2:Nat)
noncomputable def jx(z:Str):Option Nat:=if z=aN 0 then some 0 else if z=aN 1 then some 1 else if z=aN 2 then some 2 else none
end IR
namespace L2
open SQ
end L2
namespace OD
section
variable{α:Type}[DecidableEq α](ok:List α->α->Bool)
noncomputable def cnt:List α->List α->Nat->Nat
 | _,_,0=>1
 | _,[],_+1=>0
 | b,c::L,m+1=>(if ok b c then cnt (b++[c]) L m else 0)+cnt b L (m+1)
inductive Lg:List α->List α->List α->Prop
 | nil {b L}:Lg b L []
 | take {b c L p}:ok b c=true->Lg (b++[c]) L p->Lg b (c::L) (c::p)
 | skip {b c L p}:Lg b L p->Lg b (c::L) p
noncomputable def unr:List α->List α->Nat->Nat->List α
 | _,_,0,_=>[]
 | _,[],_+1,_=>[]
 | b,c::L,m+1,n=>if ok b c then(if n<cnt ok (b++[c]) L m then c::unr (b++[c]) L m n else unr b L (m+1) (n-cnt ok (b++[c]) L m))else unr b L (m+1) n
variable{ok}
theorem kE(b L:List α):cnt ok b L 0=1:=by cases L<;>rfl
variable(lt:α->α->Bool)
noncomputable def lex:List α->List α->Bool
 | [],[]=>false
 | [],_::_=>true
 | _::_,[]=>false
 | x::p,y::q=>if x=y then lex p q else lt x y
variable{lt}
end
end OD
namespace OD
section
variable{α:Type}[DecidableEq α]{ok:List α->α->Bool}{lt:α->α->Bool}
noncomputable def turn(ok:List α->α->Bool)(nb:List α->Int)(s:List α×Int)(c:α):List α×Int :=
 if ok s.1 c then(if s.2<nb (s.1++[c])then(s.1++[c],s.2)else(s.1,s.2-nb (s.1++[c])))else s
end
end OD
namespace IR
open PySem
noncomputable def C7(b:List (Int×Int))(c:Int×Int):Bool:=(b.all fun x=>decide (x.1<c.1))&&(b.all fun x=>decide (x.2≠c.2))
noncomputable def p6(a c:Int×Int):Bool:=if a.1=c.1 then decide (a.2<c.2)else decide (a.1<c.1)
section
variable{rows:List (List Nat)}(hr:∀cs∈rows,cs.Pairwise (·<·))
end
end IR
namespace OD
section
variable{α:Type}[DecidableEq α]{ok:List α->α->Bool}
noncomputable def fs{β:Type}(f:Nat->Option β):Nat->Option β
 | 0=>none
 | n+1=>(f n).or (fs f n)
noncomputable def tr(ok:List α->α->Bool):List α->List α->List α->Nat->Option (List α)
 | _,_,[],_=>none
 | _,[],_::_,_=>none
 | b,c::L,x::p,0=>if x=c then(if 0<cnt ok b L (p.length+1)then some (unr ok b L (p.length+1) 0)else none)else tr ok b L (x::p) 0
 | b,c::L,x::p,i+1=>if x=c then(tr ok (b++[c]) L p i).map (c::·)else tr ok b L (x::p) (i+1)
end
end OD
namespace IR
open PySem
noncomputable def chR(C:List (List Int))(r:Int):List Int:=C.getD r.toNat []
noncomputable def tkL(rec:ak->Int->List Int->Bool×ak×List Int)(row:Int):List Int->ak->List Int->Bool×ak×List Int
 | [],H,T=>(false,H,T)
 | c::cs,H,T=>if T.contains c then tkL rec row cs H T else match gi H c with
  | none=>(true,iD H c row,T++[c])
  | some r=>match rec H r (T++[c])with
   | (true,H',T')=>(true,iD H' c row,T')
   | (false,H',T')=>tkL rec row cs H' T'
noncomputable def tk(C:List (List Int)):Nat->ak->Int->List Int->Bool×ak×List Int
 | 0,H,_,T=>(false,H,T)
 | n+1,H,row,T=>tkL (tk C n) row (chR C row) H T
noncomputable def hd(C:List (List Int)):Nat->ak
 | 0=>[]
 | k+1=>(tk C 9 (hd C k) (k:Nat) []).2.1
section
variable{C:List (List Int)}{H:ak}{n k:Nat}{R Q:List Int}
end
section
variable{rows:List (List Nat)}(hc:kR rows)(hr:∀cs∈rows,cs.Pairwise (·<·))
include hr
end
section
variable{α:Type}{S:α->α->Bool}
noncomputable def fc(S:α->α->Bool)(p b:List α):List α:=b.filter fun c=>p.all fun y=> !S y c
theorem tF{p:List α}:∀{l:List α}{x:List α×List α},x∈ext S p l->∃u c v,l=u++c::v/\x=(p++[c],v.filter fun y=> !S c y)
 | c::l,x,h=>by
  unfold ext at h
  rcases JD.mp h with r|r
  ·exact⟨[],c,l,rfl,r⟩
  ·obtain⟨u,d,v,e,q⟩:=tF r
   exact⟨c::u,d,v,by rw[e];rfl,q⟩
theorem sW{p:List α}:∀(u:List α)(c:α)(v:List α),(p++[c],v.filter fun y=> !S c y)∈ext S p (u++c::v)
 | [],c,v=>by
  show _∈_::_;exact Ip
 | d::u,c,v=>by
  show _∈_::_;exact Im _ (sW u c v)
theorem tG{p:List α}:∀l:List α,(ext S p l).map (·.1)=l.map fun c=>p++[c]
 | []=>rfl
 | c::l=>by
  show(p++[c])::(ext S p l).map (·.1)=_;rw[tG l];rfl
structure LvI(S:α->α->Bool)(l:List α)(x:List α×List α)(a b:List α):Prop where
 cut:l=a++b
 free:x.2=fc S x.1 b
 nil:x.1=[]->a=[]
 last:∀y,x.1.getLast? =some y->a.getLast? =some y
 sub:x.1.Sublist a
 apart:x.1.Pairwise fun u v=>S u v=false
theorem pH(p b:List α)(c:α):(fc S p b).filter (fun y=> !S c y)=fc S (p++[c]) b:=by
 unfold fc;rw[List.filter_filter];refine Kd fun d _=> ?_;rw[List.all_append,Bool.and_comm];simp
theorem lvI{l:List α}:∀{k:Nat}{x:List α×List α},x∈lv S l k->∃a b,LvI S l x a b
 | 0,x,h=>by
  have h:x∈[([],l)]:=h;rw[Jg.mp h];exact⟨[],l,rfl,(LZ.mpr fun _ _=>rfl).symm,fun _=>rfl,fun y hy=>(by cases hy),.slnil,.nil⟩
 | k+1,x,h=>by
  have h:x∈(lv S l k).flatMap fun x=>ext S x.1 x.2:=h;obtain⟨y,hy,hx⟩:=List.mem_flatMap.mp h;obtain⟨a,b,i⟩:=lvI hy;obtain⟨u,c,v,e,rfl⟩:=tF hx;have hf:b.filter (fun d=>y.1.all fun z=> !S z d)=u++c::v:=by rw[<- e,i.free];rfl
  obtain⟨b1,b2,rfl,h1,h2⟩:=List.filter_eq_append_iff.mp hf;obtain⟨b3,b4,rfl,h3,h4,h5⟩:=List.filter_eq_cons_iff.mp h2;rw[JJ]at h4;refine⟨a++b1++b3++[c],b4,by rw[i.cut];simp,?_,fun z=>by simp at z,fun z hz=> ?_,?_,?_⟩
  ·show v.filter (fun y=> !S c y)=fc S (y.1++[c]) b4
   rw[<- pH,<-h5];rfl
  ·have hz:(y.1++[c]).getLast? =some z:=hz
   rw[List.getLast?_append]at hz;rw[List.getLast?_append];exact hz
  ·show(y.1++[c]).Sublist _
   refine List.Sublist.append ?_ (List.Sublist.refl _);rw[LD];exact i.sub.trans (List.sublist_append_left _ _)
  ·show(y.1++[c]).Pairwise _
   rw[List.pairwise_append];refine⟨i.apart,K7 _ _,fun u hu v hv=> ?_⟩;rw[Jg.mp hv]
   simpa using h4 u hu
theorem wu{l:List α}:∀(r q f:List α)(k:Nat),(q,f)∈lv S l k->r.Sublist f->r.Pairwise (fun u v=>S u v=false)->q++r∈(lv S l (k+r.length)).map (·.1)
 | [],q,f,k,h,_,_=>by
  rw[Jp];exact JE.mpr ⟨(q,f),h,rfl⟩
 | c::r,q,f,k,h,hs,hp=>by
  obtain⟨p1,p2⟩:=List.pairwise_cons.mp hp;obtain⟨u,w,rfl,hu,hw⟩:=List.append_sublist_iff.mp (show([c]++r).Sublist f from hs);obtain⟨u1,u2,rfl⟩:=List.append_of_mem (List.singleton_sublist.mp hu);have hm:(q++[c],(u2++w).filter fun y=> !S c y)∈lv S l (k+1):=by
   show _∈(lv S l k).flatMap fun x=>ext S x.1 x.2;refine List.mem_flatMap.mpr ⟨(q,u1++c::u2++w),h,?_⟩;have:=sW (S:=S) (p:=q) u1 c (u2++w);rw[show u1++c::u2++w=u1++c::(u2++w)by simp];exact this
  have hr:r.Sublist ((u2++w).filter fun y=> !S c y):=by
   have e:r.filter (fun y=> !S c y)=r:=LZ.mpr fun y hy=>by rw[p1 y hy];rfl
   rw[<- e];exact(hw.trans (List.sublist_append_right _ _)).filter _
  have ih:=wu r (q++[c]) _ (k+1) hm hr p2;rw[LD]at ih;rw[JI,show k+(r.length+1)=k+1+r.length by omega];exact ih
theorem DE{l p:List α}(hs:p.Sublist l)(hp:p.Pairwise fun u v=>S u v=false):p∈(lv S l p.length).map (·.1):=by
 have:=wu (S:=S) (l:=l) p [] l 0 Ip hs hp;rw[Nat.zero_add]at this;exact this
theorem BX(l:List α)(k:Nat):(lv S l (k+1)).map (·.1)=(lv S l k).flatMap fun x=>x.2.map fun c=>x.1++[c]:=by
 show((lv S l k).flatMap fun x=>ext S x.1 x.2).map (·.1)=_;rw[List.map_flatMap]
 congr 1
 funext x
 exact tG x.2
variable[DecidableEq α]{lt:α->α->Bool}
theorem oo:∀(p q:List α)(c d:α),p.length=q.length->OD.lex lt p q=true->OD.lex lt (p++[c]) (q++[d])=true
 | [],[],c,d,_,h=>by cases h
 | [],_::_,_,_,h,_=>by cases h
 | _::_,[],_,_,h,_=>by cases h
 | x::p,y::q,c,d,hl,h=>by
  have h:(if x=y then OD.lex lt p q else lt x y)=true:=h;show(if x=y then OD.lex lt (p++[c]) (q++[d])else lt x y)=true
  by_cases e:x=y
  ·rw[Ix e]at h ⊢
   exact oo p q c d (La hl) h
  ·rw[Iq e]at h ⊢
   exact h
theorem oq{c d:α}(hn:c≠d)(h:lt c d=true):∀p:List α,OD.lex lt (p++[c]) (p++[d])=true
 | []=>by
  show(if c=d then _ else lt c d)=true;rw[Iq hn];exact h
 | x::p=>by
  show(if x=x then OD.lex lt (p++[c]) (p++[d])else _)=true;rw[Ix rfl];exact oq hn h p
theorem ww{l:List α}(hl:l.Pairwise fun a c=>lt a c=true/\a≠c):∀k,((lv S l k).map (·.1)).Pairwise fun p q=>OD.lex lt p q=true
 | 0=>K7 _ _
 | k+1=>by
  have ih:=ww hl k;rw[Kr]at ih;rw[BX,List.pairwise_flatMap];refine⟨fun x hx=> ?_,ih.imp_of_mem fun{x y} hx hy h u hu v hv=> ?_⟩
  ·obtain⟨a,b,i⟩:=lvI hx
   have hs:x.2.Sublist l:=by
    rw[i.cut,i.free];exact List.filter_sublist.trans (List.sublist_append_right _ _)
   rw[Kr];exact(hl.sublist hs).imp fun z=>oq z.2 z.1 x.1
  ·obtain⟨c,_,rfl⟩:=JE.mp hu
   obtain⟨d,_,rfl⟩:=JE.mp hv;exact oo _ _ _ _ (by rw[dm S hx,dm S hy]) h
theorem qH{lt:α->α->Bool}:∀(l p:List α),l.Pairwise (fun a c=>lt a c=true/\lt c a=false)->p.Pairwise (fun a c=>lt a c=true/\lt c a=false)->(∀x∈p,x∈l)->p.Sublist l
 | l,[],_,_,_=>List.nil_sublist _
 | [],c::p,_,_,h=>by cases h c Ip
 | d::l,c::p,hl,hp,h=>by
  obtain⟨l1,l2⟩:=List.pairwise_cons.mp hl;obtain⟨p1,p2⟩:=List.pairwise_cons.mp hp
  by_cases e:c=d
  ·subst e
   refine(qH l p l2 p2 fun x hx=> ?_).cons_cons _
   rcases JD.mp (h x (Im _ hx))with z|z
   ·have:=p1 x hx
    rw[z]at this;rw[this.1]at this;cases this.2
   ·exact z
  ·have hc:c∈l:=(JD.mp (h c Ip)).resolve_left e
   refine(qH l (c::p) l2 hp fun x hx=> ?_).cons _
   rcases JD.mp hx with z|z
   ·rw[z];exact hc
   ·rcases JD.mp (h x hx)with y|y
    ·have h1:=(p1 x z).1
     rw[y,(l1 c hc).2]at h1;cases h1
    ·exact y
end
theorem nY(j:Nat)(c:aG):SK j c c=true:=by
 unfold SK stk aslt
 split
 ·simp
 ·split<;>simp
theorem uy(a b c d:Int):aslt a b c d=aslt c d a b:=by
 unfold aslt;refine Ky.mpr ?_
 constructor<;>intro h<;>split at h<;>split at h<;>split<;>split<;>omega
theorem A0(j:Nat)(a c:aG):SK j a c=SK j c a:=by
 unfold SK stk;rw[uy];have e:∀x y:Nat,decide ((x:Int)=(y:Int))=decide ((y:Int)=(x:Int)):=fun x y=>Ky.mpr eq_comm;rw[e a.1 c.1,e a.2 c.2]
theorem Ej(a c:aG):SK 0 a c=II a c:=by
 unfold SK stk II;rw[Ix rfl,Jb];simp;omega
theorem wf:∀(n k:Nat)(l:List aG),l.length<=n->((nI (SK 0) k l:Nat):Int)=rk k l
 | n,0,l,_=>by rw[jC];rfl
 | n,k+1,[],_=>by rw[wg];rfl
 | 0,k+1,c::l,h=>by cases h
 | n+1,k+1,c::l,h=>by
  rw[JI]at h;have hf:=Jc (fun x=> !SK 0 c x) l;rw[sU,ee,Int.natCast_add,wf n k _ (by omega),wf n (k+1) l (by omega)];have e:l.filter (fun x=> !SK 0 c x)=wX c l:=Kd fun x _=>by rw[Ej]
  rw[e];omega
noncomputable def ba(p:List aG):PV:=.tup (p.map fun c=>.tup [.int (c.1:Nat),.int (c.2:Nat)])
noncomputable def va:List PV->Option PV
 | [.str kd,.tup zs,.int size]=>(jx kd).bind fun j=>(dF zs).bind fun rows=>match rows with
  | []=>none
  | z::rs=>if(z::rs).length<=8/\z.length<=8/\((z::rs).all fun y=>y.length==z.length)=true/\0<=size/\size<=8/\(aC (z::rs)).length<=64 then
    some (if bI (SK j) size.toNat (aC (z::rs))<=1000 then .lst ((lv (SK j) (aC (z::rs)) size.toNat).map fun x=>ba x.1)else .non)else none
 | _=>none
end IR
namespace XE
open PySem
noncomputable abbrev fr(l:List Env):List Addr:=l.filterMap (·.frame)
noncomputable def vG(h:Heap)(e T:Addr)(cls:Value)(dd:Option Addr)(fl:Value):Prop :=
 ∃oe vs oT ts,h.get? e=some oe/\oe.cls=cls/\oe.dict=dd/\oe.data=.fields vs/\vs[1]? =some (.ref T)/\T≠e/\h.get? T=some oT/\oT.data=.fields ts/\ts[3]? =some fl
structure Up(fs ns:List Addr)(h h' :Heap):Prop where
 keep:∀b o,h.get? b=some o->b∉fs->b∉ns->h'.get? b=some o
 slot:∀b o,h.get? b=some o->b∈fs->∃sl,h'.get? b=some {o with slots:=sl}
theorem xi(o:Obj)(f:Array Value->Array Value):(Obj.mapFields f o).dict=o.dict:=by
 unfold Obj.mapFields
 split<;>rfl
section
variable{M:Model}{A:Around}{E:Value->Shared->Prop}{s:Shared}{base:Heap}{env:Env}{outer:List Env}{L e T:Addr}{cls fl:Value}{dd:Option Addr}{Q:Unit->Shared->Prop}{oe:Obj}{vs:Array Value}
theorem pO{head:Value}{nx:Bool}(hfr:A.frames=some (env::outer))(fl:s.heap.FunFrames base (env::outer))(hf:env.frame=some L)(he:s.heap.get? e=some oe)(hd:oe.data=.fields vs)(hz:1<vs.size)
  (h:∀h' T,Up (fr (env::outer)) [e] s.heap h' ->s.heap.get? T=none->vG h' e T oe.cls oe.dict (rawInt L)->Q () {s with heap:=h'}) :
  wpAny M A (do let a<-frameOf env;let pl<-entryPlaceOf L nx;let b<-EntryCells.newEntry head a .none (rawInt L) .none pl;setField (.ref e) 1 b) Q E s:=by
 have ne:e∉fr (env::outer):=fun m=>by
  obtain⟨_,o,ho,hn⟩:=fl.mem m;rw[he]at ho;cases ho;exact hn vs hd
 refine Ij (wpAny_frameOf_fun hfr fl hf fun k1 sk=> ?_);refine Ij (wpAny_entryPlaceOf fun pl isp=> ?_);unfold EntryCells.newEntry newFields;refine Ij (Jm ?_ (isp.sizeOk5 _ _ _ _ _));have he1:k1.get? e=some oe:=(sk.2.1 e ne).trans he;have ht:k1.objs.size≠e:=KM (Iz he1)
 generalize hob:({cls:=.type "traceback",dict:=none,data:=.fields ([head,.ref L,.none,rawInt L,.none]++(if pl.isEmpty then List.replicate 6 Value.none else pl)).toArray}:Obj)=ob
 have he2:=Il (h:=k1) ob he1;refine Km he2 hd hz ?_;have hd3:=KA hd (·.setIfInBounds 1 (Value.ref k1.objs.size));have kp:∀b o,b≠e->k1.get? b=some o->((k1.push ob).update e (Obj.mapFields (·.setIfInBounds 1 (Value.ref k1.objs.size)))).get? b=some o:=fun b o nb q=>by
  rw[Jh _ _ (KW nb)];exact Il _ q
 refine h _ k1.objs.size ⟨fun b o q n1 n2=>kp b o (fun z=>n2 (by rw[z];exact Jg.mpr rfl)) ((sk.2.1 b n1).trans q),fun b o q m=> ?_⟩ ?_ ?_
 ·obtain⟨sl,q1⟩:=sk.2.2 b o q
  exact⟨sl,kp b _ (fun z=>ne (by rw[<- z];exact m)) q1⟩
 ·cases q:s.heap.get? k1.objs.size with
  | none=>rfl
  | some o =>
   obtain⟨sl,q1⟩:=sk.2.2 _ o q;exact absurd (Iz q1) (KP _)
 ·refine⟨_,_,ob,_,J7 _ he2 (Kg hd3),Obj.cls_mapFields _ _,xi _ _,hd3,by simp[hz],ht,?_,by rw[<- hob],?_⟩
  ·rw[Jh _ _ (KW ht)]
   exact JC k1 (by rw[<- hob];rfl)
  ·rcases isp with rfl|⟨_,_,_,_,_,_,_,rfl⟩<;>simp
theorem land(ht:vG s.heap e T cls dd fl)(h:∀h',(∀b o,s.heap.get? b=some o->b≠T->h'.get? b=some o)->vG h' e T cls dd .none->Q () {s with heap:=h'}):wpAny M A (setFlight (.ref e) none) Q E s:=by
 obtain⟨oe,vs,oT,ts,e1,e2,e3,e4,e5,e6,e7,e8,e9⟩:=ht;unfold setFlight;refine Ij (Jt e1 e4 e5 ?_);rw[Ix (show(Value.ref T !=Value.none)=true by simp)];have h3:3<ts.size:=(KC.mp e9).1;have d3:=KA e8 (·.setIfInBounds 3 ((none:Option Addr).elim Value.none fun f=>rawInt f));refine Km e7 e8 h3 (h _ (fun b o q n=> ?_) ⟨oe,vs,_,_,?_,e2,e3,e4,e5,e6,J7 _ e7 (Kg d3),d3,by simp[h3]⟩)
 ·rw[Jh _ _ (KW n)]
  exact q
 ·rw[Jh _ _ e6]
  exact e1
theorem qY(hfr:A.frames=some (env::outer))(hl:s.heap.FunFrames base (env::outer))(hf:env.frame=some L)(he:s.heap.get? e=some oe)(hd:oe.data=.fields vs)(h1:vs[1]? =some .none)
  (h:∀h' T,Up (fr (env::outer)) [e] s.heap h' ->s.heap.get? T=none->vG h' e T oe.cls oe.dict (rawInt L)->Q () {s with heap:=h'}):wpAny M A (noteFrame (.ref e) env) Q E s:=by
 unfold noteFrame;simp only[hf];refine Ij (Jt he hd h1 ?_);rw[Iq (by decide)];exact pO hfr hl hf he hd (KC.mp h1).1 h
theorem ln(hfr:A.frames=some (env::outer))(hl:s.heap.FunFrames base (env::outer))(hf:env.frame=some L)(ht:vG s.heap e T cls dd .none)
  (h:∀h' T',Up (fr (env::outer)) [e,T] s.heap h' ->s.heap.get? T' =none->vG h' e T' cls dd (rawInt L)->Q () {s with heap:=h'}):wpAny M A (noteFrame (.ref e) env) Q E s:=by
 obtain⟨oe,vs,oT,ts,e1,e2,e3,e4,e5,e6,e7,e8,e9⟩:=ht;unfold noteFrame;simp only[hf];refine Ij (Jt e1 e4 e5 ?_);rw[Ix (show(Value.ref T !=Value.none)=true by simp)];refine Ij (Jt e7 e8 e9 ?_);rw[Iq (show¬((Value.none==rawInt L)=true)by simp[rawInt])];have nf:∀b∈fr (env::outer),b≠T:=fun b m z=>by
  obtain⟨_,o,ho,hn⟩:=hl.mem m;rw[z,e7]at ho;cases ho;exact hn ts e8
 refine Ij (Km e7 e8 (KC.mp e9).1 ?_);have ot:∀b,b≠T->(s.heap.update T (Obj.mapFields (·.setIfInBounds 3 Value.none))).get? b=s.heap.get? b:=fun b n=>Jh _ _ (KW n);refine pO (s:={s with heap:=s.heap.update T (Obj.mapFields (·.setIfInBounds 3 Value.none))}) (base:=base) hfr (hl.of_keeps fun b o q n=>⟨o,?_,rfl⟩) hf ((ot e (KW e6)).trans e1) e4 (KC.mp e5).1 fun h' T' u n f=> ?_
 ·rw[ot b fun z=>by rw[z,e7]at q;cases q;exact n ts e8]
  exact q
 ·have nT:T' ≠T:=fun z=>by
   rw[z]at n;rw[show(Shared.heap {s with heap:=s.heap.update T (Obj.mapFields (·.setIfInBounds 3 Value.none))}).get? T=_ from J7 _ e7 (Kg (KA e8 _))]at n;cases n
  refine h h' T' ⟨fun b o q n1 n2=>u.keep b o ?_ n1 ?_,fun b o q m=>u.slot b o ?_ m⟩ ?_ (by rw[<- e2,<-e3];exact f)
  ·exact(ot b fun z=>n2 (by rw[z];simp)).trans q
  ·exact fun z=>n2 (by rw[Jg.mp z];simp)
  ·exact(ot b (nf b m)).trans q
  ·exact(ot T' nT).symm.trans n
theorem Up.land{fs ns:List Addr}{h h1 h2:Heap}(u:Up fs ns h h1)(n:h.get? T=none)(k:∀b o,h1.get? b=some o->b≠T->h2.get? b=some o):Up fs ns h h2 :=
 ⟨fun b o q n1 n2=>k b o (u.keep b o q n1 n2) (fun z=>by rw[z,n]at q;cases q),fun b o q m=>by
  obtain⟨sl,q1⟩:=u.slot b o q m;exact⟨sl,k b _ q1 (fun z=>by rw[z,n]at q;cases q)⟩⟩
theorem ou(hfr:A.frames=some (env::outer))(hl:s.heap.FunFrames base (env::outer))(hf:env.frame=some L)(he:s.heap.get? e=some oe)(hd:oe.data=.fields vs)(h1:vs[1]? =some .none)
  (h:∀h' T,Up (fr (env::outer)) [e] s.heap h' ->s.heap.get? T=none->vG h' e T oe.cls oe.dict .none->Q () {s with heap:=h'}):wpAny M A (leaving env (.ref e)) Q E s:=by
 unfold leaving;refine Ij (qY hfr hl hf he hd h1 fun k1 T u n f=> ?_);exact land (s:={s with heap:=k1}) f fun k2 k f2=>h k2 T (u.land n k) n f2
theorem wy(hfr:A.frames=some (env::outer))(hl:s.heap.FunFrames base (env::outer))(hf:env.frame=some L)(ht:vG s.heap e T cls dd .none)
  (h:∀h' T',Up (fr (env::outer)) [e,T] s.heap h' ->s.heap.get? T' =none->vG h' e T' cls dd .none->Q () {s with heap:=h'}):wpAny M A (leaving env (.ref e)) Q E s:=by
 unfold leaving;refine Ij (ln hfr hl hf ht fun k1 T' u n f=> ?_);exact land (s:={s with heap:=k1}) f fun k2 k f2=>h k2 T' (u.land n k) n f2
theorem ze(hfr:A.frames=some (env::outer))(hl:s.heap.FunFrames base (env::outer))(hf:env.frame=some L)(ht:vG s.heap e T cls dd .none)
  (h:∀h' T',Up (fr (env::outer)) [e,T] s.heap h' ->s.heap.get? T' =none->vG h' e T' cls dd .none->Q () {s with heap:=h'}) :
  wpAny M A (noteFrame (.ref e) env) (fun _ s2=>wpAny M A (setFlight (.ref e) none) Q E s2) E s:=by
 refine ln hfr hl hf ht fun k1 T' u n f=> ?_;exact land (s:={s with heap:=k1}) f fun k2 k f2=>h k2 T' (u.land n k) n f2
end
end XE
namespace XE
open PySem PySem.W PyProof.Rows
structure XC(K:Frag)(C:Addr):Prop where
 ga:findIn K (.ref C) "__getattribute__"=some (some (.builtin "BaseException.__getattribute__"))
 gn:findIn K (.ref C) "__getattr__"=some none
 ca:findIn K (.ref C) "__class__"=some (some (.builtin "object.__class__"))
 sg:specialIn K (.builtin "object.__class__") "__get__"=some (some (.builtin "getset_descriptor.__get__"))
 tk:takesIn K (.builtin "object.__class__")=some true
 ob:mroIn K C (.type "object")=some true
 be:mroIn K C (.type "BaseException")=some true
 cl:(clsIn K C).isSome=true
section
variable{prog:Program}{w:World}{A:Around}{E:Value->Shared->Prop}{s:Shared}{K:Frag}{e C:Addr}{ox:Obj}
end
end XE
namespace L2.XN
open PySem PySem.Spec PyProof.Rows L2 XE
section
variable{P:Program}{w:World}{H H' :Hp}{h h' h2:Heap}{a:Addr}{o:HO}{fs ns:List Addr}
theorem lm(x:az P w H h a o):∃u,h.get? a=some u:=by
 cases o with
 | lst xs=>obtain⟨_,_,_,_,e⟩:=x;exact⟨_,e⟩
 | tup xs=>obtain⟨_,_,_,ob,e,_⟩:=x;exact⟨_,e⟩
 | dK kvs=>obtain⟨_,_,_,_,ob,_,_,e,_⟩:=x;exact⟨_,e⟩
 | dT kvs=>obtain⟨_,_,_,_,ob,_,_,e,_⟩:=x;exact⟨_,e⟩
 | set S n=>obtain⟨ob,_,_,_,e,_⟩:=x;exact⟨_,e⟩
 | ins C dx fs=>obtain⟨_,_,_,e,_⟩:=x;exact⟨_,e⟩
 | own y=>exact x
 | xd fs=>obtain⟨_,⟨_,_,_,e,_⟩,_⟩:=x;exact⟨_,e⟩
 | rng lo hi=>obtain⟨_,_,_,e⟩:=x;exact⟨_,e⟩
 | frz ob u=>obtain⟨e,_⟩:=x;exact⟨_,e⟩
 | tbl ps=>exact⟨_,(show h.get? a=some _ from x)⟩
 | met f y=>exact⟨_,(show h.get? a=some _ from x)⟩
 | ext φ=>obtain⟨_,e,_⟩:=x;exact e
theorem j2(ok:dw P w H h)(e:h.get? a=none):H a=none:=by
 cases q:H a with
 | none=>rfl
 | some u =>
  obtain⟨v,hv⟩:=lm (ok a u q);rw[e]at hv;cases hv
theorem qj(ok:dw P w H h)(u:Up fs ns h h')(hf:∀b∈fs,H b=none)(hn:∀b∈ns,H b=none):dw P w H h' :=fun a o e =>
 (ok a o e).stay (fun b v hb q=>u.keep b v q (fun z=>by
  rcases hb with r|r
  ·rw[r]at z;rw[hf _ z]at e;cases e
  ·rw[hf _ z]at r;cases r) fun z=>by
  rcases hb with r|r
  ·rw[r]at z;rw[hn _ z]at e;cases e
  ·rw[hn _ z]at r;cases r) (fun _ q=>q) fun _ _ q=>q
theorem BD{H0:Hp}{h0 h1:Heap}{L:Addr}(u:Un fs [] H0 H h0 h1)(p:Up (L::fs) ns h1 h2)(hL:h0.objs.size<=L)(hn:∀b∈ns,h0.get? b=none):Un fs [] H0 H h0 h2:=by
 have nL:∀b o,h0.get? b=some o->b≠L:=fun b o q z=>absurd (Iz q) (by rw[z];exact Nat.not_lt.mpr hL);have nn:∀b o,h0.get? b=some o->b∉ns:=fun b o q z=>by rw[hn b z]at q;cases q
 refine⟨fun b o q n hb hx=>p.keep b o (u.keep b o q n hb hx) (fun z=> ?_) (nn b o q),fun b o q n hb hx=> ?_,u.free,fun b o q hx=> ?_,u.tups,u.frzs,u.tbls⟩
 ·rcases JD.mp z with r|r
  ·exact nL b o q r
  ·exact hb r
 ·obtain⟨sl,e1⟩:=u.slot b o q n hb hx
  obtain⟨sl2,e2⟩:=p.slot b _ e1 (Im _ hb);exact⟨sl2,e2⟩
 ·obtain⟨o1,e1⟩:=u.there b o q hx
  by_cases hb:b∈L::fs
  ·obtain⟨sl,e2⟩:=p.slot b _ e1 hb
   exact⟨_,e2⟩
  ·exact⟨_,p.keep b _ e1 hb (nn b o q)⟩
end
noncomputable def tY(P:Program)(w:World)(C:Addr):p9:=fun outer H s E u s' =>
 ∃e T H' dd,u=.ref e/\s'.os=s.os/\AllBare s'.gens/\Un (p7 outer) [] H H' s.heap s'.heap/\dw P w H' s'.heap/\s.heap.get? e=none/\s.heap.get? T=none/\H' e=none/\H' T=none /\
  vG s'.heap e T (.ref C) dd .none/\E (.ref C) dd H'
section
variable{P:Program}{w:World}{K:W.Frag}{mg:Str->Option Value}{base:Heap}{N:List Str}{qual:Str}{scope:Scope}{f C:Addr}{cd:Value}{A:Around}{outer:List Env}{s s1:Shared}{H H1:Hp}{E:XK}
 {pins:List (Addr×Obj)} {σ:St}
theorem uB{args:List Value}{h' :Heap}{e:Addr}(I:Inv (iP (tY P w C) P w K mg base N qual scope f cd A outer s H E) pins σ H1 s1)(mk:Heap.MadeExcOf s1.heap h' e (.ref C) args)(q:E (.ref C) none H1) :
  (iP (tY P w C) P w K mg base N qual scope f cd A outer s H E).xe (.ref e) {s1 with heap:=h'}:=by
 have J:Inv (iP (tY P w C) P w K mg base N qual scope f cd A outer s H E) pins σ H1 {s1 with heap:=h'} :=
  I.call' (ch:=[]) rfl (Un.kept mk.keeps) (I.hok.kept mk.keeps) I.bare (fun b z=>absurd z (by simp))
 obtain⟨t,he,-,-⟩:=mk.there;have n1:s.heap.get? e=none:=by
  cases q:s.heap.get? e with
  | none=>rfl
  | some o =>
   obtain⟨o',z⟩:=I.base.there e o q (JW);rw[mk.new]at z;cases z
 have n2:H1 e=none:=j2 I.hok mk.new;refine ou (s:={s1 with heap:=h'}) (base:=base) J.ok.frames J.stack rfl he rfl rfl fun h2 T up hT fly=> ?_;refine⟨e,T,H1,none,rfl,J.os,J.bare,BD J.base up J.ok.above (fun b m=>by rw[Jg.mp m];exact n1),qj J.hok up J.stkFree (fun b m=>by rw[Jg.mp m];exact n2),n1,?_,n2,j2 J.hok hT,fly,q⟩;cases q:s.heap.get? T with
 | none=>rfl
 | some o =>
  obtain⟨o',z⟩:=J.base.there T o q (JW);rw[hT]at z;cases z
theorem zO{E2:XK}(hE:∀dd H',E2 (.ref C) dd H' ->E (.ref C) dd H'):kP (tY P w C) (iP (tY P w C) P w K mg base N qual scope f cd A outer s H E) E2:=by
 intro pins σ H1 s1 u s2 I ⟨e,T,H2,dd,hu,ho,hb,un,ok,n1,n2,n3,n4,fly,q⟩;subst hu;have J:Inv (iP (tY P w C) P w K mg base N qual scope f cd A outer s H E) pins σ H2 s2:=I.call' (ch:=[]) ho un ok hb (fun b z=>absurd z (by simp));have m1:∀b,s1.heap.get? b=none->s.heap.get? b=none:=fun b z=>by
  cases q:s.heap.get? b with
  | none=>rfl
  | some o =>
   obtain⟨o',y⟩:=I.base.there b o q (JW);rw[z]at y;cases y
 have ns:∀b∈[e,T],s.heap.get? b=none/\H2 b=none:=fun b m=>by
  rcases JD.mp m with r|r
  ·rw[r];exact⟨m1 _ n1,n3⟩
  ·rw[Jg.mp r];exact⟨m1 _ n2,n4⟩
 refine wy (base:=base) J.ok.frames J.stack rfl fly fun h2 T' up hT fly' => ?_;refine⟨e,T',H2,dd,rfl,J.os,J.bare,BD J.base up J.ok.above (fun b m=>(ns b m).1),qj J.hok up J.stkFree (fun b m=>(ns b m).2),m1 _ n1,?_,n3,?_,fly',hE _ _ q⟩
 ·cases q:s.heap.get? T' with
  | none=>rfl
  | some o =>
   obtain⟨o',z⟩:=J.base.there T' o q (JW);rw[hT]at z;cases z
 ·exact j2 J.hok hT
end
noncomputable def vc(E:XK)(C:Addr):TS:=fun _ _ H=>E (.ref C) none H
theorem uC{X:Cx}{x:Str}{C:Addr}{bm bmN:List Value}{newId nid initId inN B Bn:String}{np cpos pos:Pos}{E:XK}(O:OwnCls x C bm newId X.mg X.base)(Fn:ExcBaseFacts Bn newId inN bmN)(hBn:bm.contains (.type Bn)=true)
  (FB:ExcBaseFacts B nid initId bm) (hc:X.calm=true) (hg:Gl X x)
  (hx:∀pins σ H s h' e,Inv X pins σ H s->Heap.MadeExcOf s.heap h' e (.ref C) []->E (.ref C) none H->X.xe (.ref e) {s with heap:=h'}) (hd:(x==("__debug__":Str))=false:=by decide) :
  PS X (.Raise (some (.Call (.Name x np) [] [] cpos)) none pos) (vc E C):=by
 intro pins s σ H D I q;obtain⟨tl,N,nm,qn,bs,hdct,sn,sub,ab,col,dd,k0,k1,k2,k3,k5,mN,hC,hN,hni,T⟩:=O.obj
 refine wpAny_Raise_call_subU (C:=C) (nm:=nm) (q:=qn) (N:=N) (bs:=bs) (bm:=tl) (hdct:=hdct) (sn:=sn) (sub:=sub) (ab:=ab) (col:=col) (dd:=dd) (k0:=k0) (k1:=k1) (k2:=k2) (k3:=k3) (k5:=k5)
  Fn hBn FB (mN:=mN) (T.hasType FB.hasBase) (I.ok.hd hc) rfl hni (gf I hg O.bound ⟨rfl,?_⟩ hd)
 exact evalArgs_empty ⟨rfl,JR _,I.bk _ _ hC,hN.keeps I.bk,T.keeps I.bk,fun h' e m=>hx pins σ H s h' e I m q⟩
end L2.XN
namespace L2.XN
open PySem PySem.Spec PyProof.Rows L2 XE
section
variable{X:Cx}{pins:List (Addr×Obj)}{σ:St}{H:Hp}{s:Shared}{Wh:Value->Shared->Prop}{A:Around}{cm:Bool}
noncomputable abbrev wF(X:Cx)(pn:List (Addr×Obj))(Wh:Value->Shared->Prop):Cx:={X with pn:=pn,xe:=Wh}
noncomputable abbrev FT(X:Cx)(e:Addr)(pn:List (Addr×Obj)):Cx:={X with A:=X.A.mark (some (.ref e)),calm:=false,pn:=pn,xe:=fun _ _=>False}
theorem pinned(I:Inv X pins σ H s):Inv (wF X (X.pn++pins) Wh) [] σ H s :=
 ⟨⟨I.ok.mod,I.ok.kind,I.ok.glob,I.ok.blt,I.ok.above,I.ok.inj,I.ok.has,I.ok.cab,I.ok.hd,I.ok.frames,I.ok.stk,I.ok.exf,I.ok.bs,I.ok.bsz,I.ok.noex,I.ok.exfs,I.ok.funs,I.ok.frf⟩,I.os,I.bare,I.base,I.loc,I.cell,I.free,I.freeC,
  fun p hp=>I.pin p (by rw[Jp]at hp;exact hp),I.hok,I.len⟩
theorem unpinned{p2:List (Addr×Obj)}(ok:X.Ok)(I:Inv (wF X (X.pn++pins) Wh) p2 σ H s):Inv X pins σ H s :=
 ⟨ok,I.os,I.bare,I.base,I.loc,I.cell,I.free,I.freeC,fun p hp=>I.pin p (Kc _ hp),I.hok,I.len⟩
theorem HJ(I:Inv X pins σ H s){e:Addr}{pn:List (Addr×Obj)}(hp:∀p∈pn,s.heap.get? p.1=some p.2/\H p.1=none/\p.1≠X.env.locals/\p.1∉X.fs/\∀v,p.2.data≠.cell v):Inv (FT X e pn) [] σ H s :=
 ⟨⟨I.ok.mod,I.ok.kind,I.ok.glob,I.ok.blt,I.ok.above,I.ok.inj,I.ok.has,I.ok.cab,(fun z=>by cases z),I.ok.frames,I.ok.stk,I.ok.exf,I.ok.bs,I.ok.bsz,I.ok.noex,I.ok.exfs,I.ok.funs,I.ok.frf⟩,I.os,I.bare,I.base,I.loc,I.cell,I.free,I.freeC,
  fun p m=>hp p (by rw[Jp]at m;exact m),I.hok,I.len⟩
theorem Gv(ok:X.Ok){e:Addr}{pn:List (Addr×Obj)}(I:Inv (FT X e pn) [] σ H s)(hp:∀p∈X.pn++pins,p∈pn):Inv X pins σ H s :=
 ⟨ok,I.os,I.bare,I.base,I.loc,I.cell,I.free,I.freeC,fun p m=>I.pin p (Kc _ (hp p m)),I.hok,I.len⟩
noncomputable def yJ(CX:p9)(X:Cx)(E:St->XK):Prop:=∀(pins:List (Addr×Obj))(σ:St)(H:Hp)(s:Shared)(u:Value)(s' :Shared),Inv X pins σ H s->CX X.stack H s (E σ) u s' ->X.xe u s'
noncomputable def CJ(sp:Sp)(dvs:List V)(E:St->XK)(t:TA):TE:=fun σ H Q=>t σ H fun vs H1=>sp (vs++dvs) H1 Q (E σ)
theorem wR{CX:p9}{k:Nat}{f:Addr}{fd:FuncData}{ps:List Str}{sp:Sp}{dvs:List V}{ds:List Value}{E:St->XK}{x:Str}{p pos:Pos}{e:Expr}{es:List Expr}{t:TA}(F:bi X.prog X.w X.K X.mg X.base CX k f fd ps sp)(hr:eD k X.A)(hg:Gl X x)
  (hm:X.mg x=some (.ref f)) (hk:W.keepIn X.K (.ref f)=true) (hb:Binds X.K fd ps ds) (hd:aQ dvs ds) (hx:yJ CX X E) (ha:PA X (e::es) t) (hdb:(x==("__debug__":Str))=false:=by decide)
  (he:starEach (e::es) X.env=(false,eval e X.env)::starEach es X.env:=by rfl) (hpl:(backTo pos (starEach es X.env)).any (·.1)=false:=by rfl):PE X (.Call (.Name x p) (e::es) [] pos) (CJ sp dvs E t):=by
 intro pins s σ H Q I h;refine LJ (gf I hg hm ?_ hdb);refine W.callWith_K (h₀:=X.base) I.ok.mod.kin hk (bD (ha pos pins s σ H _ I h) fun us s1 ⟨vs,H1,I1,r,q⟩=>⟨I1.kIn,?_⟩) he hpl;have r2:aQ (vs++dvs) (us++ds):=r.append hd;have hl:(us++ds).length=ps.length:=by rw[<- r2.length];exact F.len _ _ _ _ q
 refine wpAny_call (codeAny_mono (F.run X.A X.stack s1 H1 ⟨us,[]⟩ (us++ds) (vs++dvs) Q (E σ) hr I1.env0 (hb s1 us I1.kIn hl) r2 q) fun r s' hq=> ?_);cases r with
 | error u=>exact hx pins σ H1 s1 u s' I1 hq
 | ok fl =>
  cases fl with
  | ret u=>exact I1.after hq
  | next=>exact hq.elim
  | brk=>exact hq.elim
  | cont=>exact hq.elim
theorem B2{fs ns:List Addr}{H0:Hp}{h0 h1 h2:Heap}(u:Un fs [] H0 H h0 h1)(p:Up fs ns h1 h2)(hn:∀b∈ns,h0.get? b=none):Un fs [] H0 H h0 h2:=by
 have nn:∀b o,h0.get? b=some o->b∉ns:=fun b o q z=>by rw[hn b z]at q;cases q
 refine⟨fun b o q n hb hx=>p.keep b o (u.keep b o q n hb hx) hb (nn b o q),fun b o q n hb hx=> ?_,u.free,fun b o q hx=> ?_,u.tups,u.frzs,u.tbls⟩
 ·obtain⟨sl,e1⟩:=u.slot b o q n hb hx
  obtain⟨sl2,e2⟩:=p.slot b _ e1 hb;exact⟨sl2,e2⟩
 ·obtain⟨o1,e1⟩:=u.there b o q hx
  by_cases hb:b∈fs
  ·obtain⟨sl,e2⟩:=p.slot b _ e1 hb
   exact⟨_,e2⟩
  ·exact⟨_,p.keep b _ e1 hb (nn b o q)⟩
noncomputable def IsX(C e:Addr)(dd:Option Addr)(oe:Obj):Prop:=oe.cls=.ref C/\oe.dict=dd/\∃vs,oe.data=.fields vs
end
end L2.XN
namespace L2.XN
open PySem PySem.Spec PyProof.Rows L2 XE
structure IY(K:W.Frag)(mg:Str->Option Value)(x:Str)(C:Addr):Prop where
 nm:mg x=some (.ref C)
 cl:(W.clsIn K C).isSome=true
 ty:W.typeIn K (.ref C)=some (.type "type")
section
variable{K:W.Frag}{mg:Str->Option Value}{x:Str}{C D:Addr}{b:Bool}
theorem IY.kcls(k:IY K mg x D)(h:W.subIn K (.ref C) (.ref D)=some b):W.kitCls K (.ref C) (.ref D)=some b:=by
 show(if((W.clsIn K D).isSome&&W.typeIn K (.ref D)==some (.type "type"))=true then W.subIn K (.ref C) (.ref D)else none)=some b;rw[Ix (by rw[k.cl,k.ty];rfl)];exact h
theorem IY.exm(k:IY K mg x D)(h:W.subIn K (.ref C) (.ref D)=some b)(hB:W.subIn K (.ref D) (.type "BaseException")=some true):W.exmOne K (.ref C) (.ref D)=some b:=by
 unfold W.exmOne;rw[Ix (by rw[hB];rfl)];exact k.kcls h
theorem Cr{h:Heap}{bm:List Value}{newId:String}(X:K.In h)(nm:mg x=some (.ref C))(q:W.excIn K C bm newId=true):OwnCls x C bm newId mg h:=by
 refine⟨nm,?_⟩;unfold W.excIn at q
 split at q
 case h_2=>cases q
 rename_i dd cd sl look
 split at q
 case h_2=>cases q
 rename_i C1 tl k0 k1 k2 k3 n k5 e1 e2;simp only[Iu,beq_iff_eq,Ke]at q;obtain⟨⟨⟨⟨⟨z1,z2⟩,z3⟩,z4⟩,z5⟩,z6⟩:=q;subst z1 z2;obtain⟨c1,c2,c3,c4,c5,c6,c7,c8,c9,c10,c11⟩:=cd;dsimp only at e1 z3 z5 z6;subst e1 z3;obtain⟨l⟩:=sl;dsimp only at e2;subst e2;exact⟨tl,_,_,_,_,_,_,_,_,_,_,_,_,_,_,_,_,X _ _ look,.of_isNs (W.isNs_of_in X z5),W.nsMap_none_of_in X z5 z6,W.tail_of_in X z4⟩
end
theorem Dl{P:Program}{w:World}{K:W.Frag}{mg:Str->Option Value}{base:Heap}{CX:p9}{k:Nat}{f:Addr}{fd:FuncData}{ps:List Str}{sp:Sp}(len:∀vs H Q E,sp vs H Q E->vs.length=ps.length)
  (h:Mod K mg base->bi P w K mg base CX k f fd ps sp):bi P w K mg base CX k f fd ps sp :=
 ⟨len,fun A outer s H args us vs Q E hr he=>(h he.mod).run A outer s H args us vs Q E hr he⟩
section
variable{X:Cx}{e C:Addr}{dd:Option Addr}{oe:Obj}{c:V}{u:Value}{b:Bool}
end
end L2.XN
namespace L2.XN
open PySem PySem.Spec PyProof.Rows L2 XE
section
variable{X:Cx}{pins:List (Addr×Obj)}{σ:St}{H:Hp}{s:Shared}{Wh:Value->Shared->Prop}{A:Around}{cm:Bool}
noncomputable def vb(C:Addr)(tb:(St->XK)->TS)(ts:Addr->Option Addr->TS):TS:=fun D σ H =>
 ∃E:St->XK,tb E D σ H/\∀σ' H' dd,σ'.length=σ.length->E σ' (.ref C) dd H' ->∀e,H' e=none->ts e dd D σ' H'
theorem sI{C D:Addr}{bx:Str}{bp hpos pos:Pos}{body suite:List Stmt}{b0:Stmt}{tb:(St->XK)->TS}{ts:Addr->Option Addr->TS}(hcalm:X.calm=true)(hst:X.stack=X.env::X.outer)(hf:X.env.frame=some X.env.locals)
  (hg:Gl X bx) (hm:X.mg bx=some (.ref D)) (hx:W.exmOne X.K (.ref C) (.ref D)=some true)
  (hb:∀(E:St->XK)(pn:List (Addr×Obj))(Wh:Value->Shared->Prop),yJ (tY X.prog X.w C) (wF X pn Wh) E->pz (wF X pn Wh) body (tb E))
  (hs:∀(e:Addr)(dd:Option Addr)(oe:Obj)(pn:List (Addr×Obj)),IsX C e dd oe->pz (FT X e ((e,oe)::pn)) (b0::suite) (ts e dd)) (hd:(bx==("__debug__":Str))=false:=by decide) :
  PS X (.Try body [.ExceptHandler (some (.Name bx bp)) none (b0::suite) hpos] [] [] pos) (vb C tb ts):=by
 intro pins s σ H D' I ⟨E,hq,hh⟩;refine wpAny_Try_except ?_
 let Wh:Value->Shared->Prop:=fun u s' =>wpAny (model X.prog X.w) X.A (noteFrame u X.env) (fun _ s2=>wpAny (model X.prog X.w) X.A (setFlight u none) (fun _ s3 =>
  wpAny (model X.prog X.w) X.A (handleBy u X.env [.ExceptHandler (some (.Name bx bp)) none (b0::suite) hpos]) (SP X pins D') X.xe s3) X.xe s2) X.xe s'
 have hp:yJ (tY X.prog X.w C) (wF X (X.pn++pins) Wh) E:=by
  intro p2 σ1 H1 s1 u s2 I1 ⟨e,T,H2,dd,hu,ho,hbr,un,ok,n1,n2,n3,n4,fly,q⟩;subst hu;have J1:Inv X pins σ1 H1 s1:=unpinned I.ok I1;have J2:Inv X pins σ1 H2 s2:=J1.call' (ch:=[]) ho un ok hbr (fun b z=>absurd z (by simp));have hfr:X.A.frames=some (X.env::X.outer):=by rw[<- hst];exact I.ok.frames
  have hfs:s2.heap.FunFrames X.base (X.env::X.outer):=by rw[<- hst];exact J2.stack
  have ns:∀b∈[e,T],s1.heap.get? b=none/\H2 b=none:=fun b m=>by
   rcases JD.mp m with r|r
   ·rw[r];exact⟨n1,n3⟩
   ·rw[Jg.mp r];exact⟨n2,n4⟩
  have st:∀{h3:Heap},Up (fr (X.env::X.outer)) [e,T] s2.heap h3->Inv X pins σ1 H2 {s2 with heap:=h3}:=fun{h3} up=>by
   rw[<- hst]at up;exact J1.call' (ch:=[]) (s' :={s2 with heap:=h3}) ho (B2 un up fun b m=>(ns b m).1) (qj ok up J2.stkFree fun b m=>(ns b m).2) hbr (fun b z=>absurd z (by simp))
  show wpAny _ _ (noteFrame (.ref e) X.env) _ _ s2;refine ze (base:=X.base) hfr hfs hf fly fun h3 T' up hT fly3=> ?_;have J3:=st up;refine wpAny_handleBy_cons (codeAny_handlers_test ?_) (by intro z;cases z);have K3:Inv (FT X e []) [] σ1 H2 {s2 with heap:=h3}:=HJ J3 (fun p z=>absurd z (by simp));refine gf K3 hg hm ?_ hd;obtain⟨oe,vs,oT,tts,e1,e2,e3,e4,e5,e6,e7,e8,e9⟩:=id fly3;have lt:W.Looks (model X.prog X.w) h3 (typeOf (.ref e)) (.ref C):=e2▸(W.Looks.ld e1).andThen .now;refine(W.exm_one (M:=model X.prog X.w) K3.kIn lt hx).here ?_;refine codeAny_handlers_suite ?_;refine land (s:={s2 with heap:=h3}) fly3 fun h4 k4 fly4=> ?_;have J4:=st (up.land hT k4);obtain⟨oe4,vs4,oT4,ts4,f1,f2,f3,f4,f5,f6,f7,f8,f9⟩:=id fly4;have K4:Inv (FT X e ((e,oe4)::(X.pn++pins))) [] σ1 H2 {s2 with heap:=h4}:=by
   refine HJ J4 fun p m=> ?_
   rcases JD.mp m with r|r
   ·subst r
    refine⟨f1,n3,fun z=> ?_,fun z=> ?_,fun v z=>by rw[f4]at z;cases z⟩
    ·obtain⟨m1,⟨oL,_,_,hoL,_⟩,_⟩:=J1.loc
     have z:e=X.env.locals:=z;rw[<- z,n1]at hoL;cases hoL
    ·obtain⟨_,o,h1,_⟩:=J1.funs.mem z
     rw[show s1.heap.get? e=none from n1]at h1;cases h1
   ·exact J4.pin p r
  refine Kb (hs e dd oe4 _ ⟨f2,f3,vs4,f4⟩ [] _ _ _ D' K4 (hh σ1 H2 dd ?_ q e n3)) (fun f s6 r=> ?_) fun _ _ z=>z.elim
  ·rw[J1.len,I.len]
  have back:∀{σ6:St}{H6:Hp},Inv (FT X e ((e,oe4)::(X.pn++pins))) [] σ6 H6 s6->Inv X pins σ6 H6 s6:=fun I6=>Gv I.ok I6 fun p m=>Im _ m;cases f with
  | next =>
   obtain⟨σ6,H6,I6,q6⟩:=r;exact⟨_,_,back I6,q6⟩
  | brk =>
   obtain⟨σ6,H6,I6,q6⟩:=r;exact⟨_,_,back I6,q6⟩
  | cont =>
   obtain⟨σ6,H6,I6,q6⟩:=r;exact⟨_,_,back I6,q6⟩
  | ret u =>
   obtain⟨v,σ6,H6,I6,rv,q6⟩:=r;exact⟨v,_,_,back I6,rv,q6⟩
 refine Kb (hb E _ Wh hp [] s σ H D' (pinned I) hq) (fun f s1 r=> ?_) fun _ _ r=>r;cases f with
 | next =>
  obtain⟨σ6,H6,I6,q6⟩:=r;exact Lh ⟨σ6,H6,unpinned I.ok I6,q6⟩
 | brk =>
  obtain⟨σ6,H6,I6,q6⟩:=r;exact⟨σ6,H6,unpinned I.ok I6,q6⟩
 | cont =>
  obtain⟨σ6,H6,I6,q6⟩:=r;exact⟨σ6,H6,unpinned I.ok I6,q6⟩
 | ret u =>
  obtain⟨v,σ6,H6,I6,rv,q6⟩:=r;exact⟨v,σ6,H6,unpinned I.ok I6,rv,q6⟩
end
end L2.XN
namespace IR
open PySem PySem.Spec PyProof.Rows L2 L2.XN
section
variable(cd:Nat->List PV->Option PV)(xd:Nat->List PV->Bool)(fu:Nat)(cn:Str)
noncomputable def forX(set:PV->En->Option En)(bx:En->Bool)(bd:En->Option Fl):List PV->En->Bool
 | [],_=>false
 | x::xs,τ=>match set x τ with
  | some τ1=>bx τ1||(match bd τ1 with
   | some (.nx τ2)=>forX set bx bd xs τ2
   | some (.ct τ2)=>forX set bx bd xs τ2
   | _=>false)
  | none=>false
noncomputable def EV(τ:En):IE->Bool
 | .call f es=>(match bW cd es τ with
  | some rs=>xd f (rs.map RV.val)
  | none=>false)
 | _=>false
noncomputable def mD:IS->Bool
 | .grp .. =>true
 | _=>false
mutual
noncomputable def ie:IS->En->Bool
 | .rais x,_=>x==cn
 | .ife c a b,τ=>(match eA cd c τ with
  | some true=>evXs a τ
  | some false=>evXs b τ
  | none=>false)
 | .forr is one cap src body,τ=>(match lB cd src (av cap τ)with
  | some (xs,n,false)=>forX (eG is one n) (fun τ=>evXs body τ) (fun τ=>bJ cd fu body τ) xs (av cap τ)
  | _=>false)
 | .asg _ _ cap e,τ=>EV cd xd (av cap τ) e
 | .ret cap e,τ=>EV cd xd (av cap τ) e
 | _,_=>false
noncomputable def evXs:ng->En->Bool
 | .nil,_=>false
 | .cons s ss,τ=> !mD s&&(ie s τ||(match cB cd fu s τ with
  | some (.nx τ1)=>evXs ss τ1
  | _=>false))
end
end
noncomputable def xD(P:Nat->Option FD)(cn:Str):Nat->Nat->List PV->Bool
 | 0,_,_=>false
 | k+1,f,vs=>match P f with
  | some d=>decide (vs.length=d.np)&&evXs (aH P k) (xD P cn k) 1000000 cn d.body (entry d vs)
  | none=>false
noncomputable def spX(K:W.Frag)(C:Addr)(m:List PV->Bool):Sp:=fun vs H _ E=>∃pvs,aJ K H false pvs H vs/\m pvs=true/\∀H',aE H H' ->E (.ref C) none H'
structure XX(cd:Nat->List PV->Option PV)(xd:Nat->List PV->Bool)(cn:Str)(C:Addr)(E:XK)(X:Cx)(ct:Ct):Prop where
 ok:bX cd X ct
 fns:∀x f,ct.F.lookup x=some f->∃k a fd ps,bi X.prog X.w X.K X.mg X.base (tY X.prog X.w C) k a fd ps (spX X.K C (xd f))/\eD k X.A/\X.mg x=some (.ref a)/\W.keepIn X.K (.ref a)=true/\Binds X.K fd ps []
 pass:kP (tY X.prog X.w C) X E
 rais:∀np cpos pos,Gl X cn->PS X (.Raise (some (.Call (.Name cn np) [] [] cpos)) none pos) (vc E C)
 fn:X.fn=fun _=>true
section
variable{cd:Nat->List PV->Option PV}{xd:Nat->List PV->Bool}{fu:Nat}{cn:Str}{C:Addr}{E:XK}{X:Cx}{ct:Ct}{Hi:Hp}{τ:En}
variable(X Hi C E τ)in
noncomputable def XSt(st:Stmt):Prop:=∀(O:List Addr)(σ:L2.St)(H:Hp)(D:dN),ao X.K Hi O τ σ H->σ.length=X.N.length->(∀H' O',aE (aX H O) (aX H' O')->E (.ref C) none H')->WS X st D σ H
variable(X Hi C E τ)in
noncomputable def XSs(st:List Stmt):Prop:=∀(O:List Addr)(σ:L2.St)(H:Hp)(D:dN),ao X.K Hi O τ σ H->σ.length=X.N.length->(∀H' O',aE (aX H O) (aX H' O')->E (.ref C) none H')->WSs X st D σ H
theorem nz{n:Nat}{e:Expr}{f:Nat}{ies:rQ}(h:al n ct e=.call f ies):∃m x p a as pos,e=.Call (.Name x p) (a::as) [] pos/\qW x=false/\ct.S.lookup x=some .globalImplicit/\ct.F.lookup x=some f/\ies=eB m ct (a::as):=by
 cases n with
 | zero=>simp[jT,jO,jJ,jS,jG,jP,jR,jM,jL,jH,jN,jI,jQ,jK]at h
 | succ n =>
  cases e with
  | Call fn es ks cp =>
   simp only[jT,jO,jJ,jS,jG,jP,jR,jM,jL,jH,jN,jI,jQ,jK]at h
   split at h
   ·split at h
    ·rename_i x p
     cases n with
     | zero=>simp[z23,z24]at h
     | succ n =>
      simp only[z23,z24]at h
      split at h
      ·cases h
      ·rename_i ho
       split at h
       ·rename_i hg
        split at h
        ·rename_i f' hf
         split at h
         ·cases h
         ·rename_i hne
          cases es with
          | nil=>exact absurd rfl hne
          | cons a as =>
           have h1:f' =f:=by cases h;rfl
           have h2:eB n ct (a::as)=ies:=by cases h;rfl
           subst h1 h2;exact⟨n,x,p,a,as,cp,rfl,Jz.mpr ho,JN hg,hf,rfl⟩
        ·(repeat' split at h)<;>cases h
       ·cases h
    ·split at h
     ·cases n with
      | zero=>simp[z2p,z2q]at h
      | succ n =>
       simp only[z2p,z2q]at h
       (repeat' split at h)<;>cases h
     ·cases h
    ·cases h
   ·cases h
  | Constant c k p=>simp only[jT,jO,jJ,jS,jG,jP,jR,jM,jL,jH,jN,jI,jQ,jK]at h;cases c<;>cases h
  | Name x p =>
   simp only[jT,jO,jJ,jS,jG,jP,jR,jM,jL,jH,jN,jI,jQ,jK,jX]at h
   (repeat' split at h)<;>cases h
  | BoolOp op vs p =>
   simp only[jT,jO,jJ,jS,jG,jP,jR,jM,jL,jH,jN,jI,jQ,jK]at h
   split at h
   ·cases h
   ·match vs with
    | []=>cases h
    | [_]=>rename_i z;exact absurd (by simp) z
    | a::b::r=>cases op<;>cases h
  | _ =>
   (try simp only[jT,jO,jJ,jS,jG,jP,jR,jM,jL,jH,jN,jI,jQ,jK]at h)
   (repeat' split at h)<;>cases h
theorem x4(A:XX cd xd cn C E X ct){n:Nat}{e:Expr}(h:EV cd xd τ (al n ct e)=true){O:List Addr}{σ:L2.St}{H:Hp}{Q:VK}(R:ao X.K Hi O τ σ H)(q:∀H',aE H H' ->E (.ref C) none H'):WE X e σ H Q:=by
 cases ht:al n ct e with
 | call f ies =>
  rw[ht]at h
  have h2:(match bW cd ies τ with
   | some rs=>xd f (rs.map RV.val)
   | none=>false)=true:=h
  clear h
  cases hrs:bW cd ies τ with
  | none=>rw[hrs]at h2;cases h2
  | some rs =>
   rw[hrs]at h2;obtain⟨m,x,p,a,as,pos,rfl,ho,hg,hf,rfl⟩:=nz ht;obtain⟨k,ad,fd,ps,F,hr,hm,kp,bd⟩:=A.fns x f hf;have g:Gl X x:=by
    show X.env.scope.names.lookup x=_;rw[A.ok.S];exact hg
   obtain⟨i1,i2,_⟩:=(de m).es X ct Hi τ (a::as) rs A.ok hrs;refine we (m7 F hr g hm kp bd .nil A.pass oX (bz ho).1 (aO (i2 a Ip)) (ef fun b hb=>i2 b (Im _ hb))) ?_;refine i1 O σ H _ R fun us H1 s1 r1=> ?_;have vs:=r1.vals R s1;rw[Jp];exact⟨_,vs.entry (fun z=>by cases z),h2,fun H' s' =>q H' (s1.trans s')⟩
 | _=>rw[ht]at h;cases h
theorem AF(A:XX cd xd cn C E X ct){tg it:Expr}{is:List Nat}{one:Bool}{cap:List Nat}{n:Nat}{body:List Stmt}{pos:Pos}{xs:List PV}{k:Bool}{bx:En->Bool}{bd:En->Option Fl}(ht:tq ct tg=some (is,one))
  (hi:lB cd (vD n ct (!one) it) (av cap τ)=some (xs,k,false)) (hb:∀τ fl,bd τ=some fl->rO X Hi τ body fl) (hx:∀τ,bx τ=true->XSs C E X Hi τ body) (h:forX (eG is one k) bx bd xs (av cap τ)=true):XSt C E X Hi τ (.For tg it body [] pos):=by
 intro O σ H D R hl q;obtain⟨O1,R1,s1⟩:=fS (cap:=cap) R;obtain⟨htp,g,pg,kg⟩:=BF (Hi:=Hi) A.ok A.fn ht;obtain⟨jE,hset⟩:=(de n).t X ct Hi (av cap τ) (!one) it tg xs k false A.ok (fun z=>htp (by simpa using z)) hi;refine ws (jj A.ok.xe A.ok.calm zI pg dW (jA hset)) ?_;refine jE O1 σ H _ R1 fun J H1 sJ En=> ?_;rw[Iq Ir]at En;have s2:aE (aX H O) (aX H1 O1):=s1.trans (aL sJ);refine⟨fun i m σ' G=>m=xs.length-i/\i<=xs.length/\∃(P:List Addr)(υ:IR.En),ao X.K Hi P υ σ' G/\σ'.length=X.N.length/\aE (aX H1 O1) (aX G P)/\forX (eG is one k) bx bd (xs.drop i) υ=true,⟨xs.length,by simp,JR _,O1,_,R1.ext sJ,hl,aE.refl _,h⟩,?_⟩;rintro i m σ' G ⟨rfl,hi',P,υ,RP,hlP,sP,hrun⟩;have C7:A1 (aX H1 O1) G P:=⟨RP.lsts,sP⟩
 by_cases hlt:i<xs.length
 ·refine .inr ⟨En.go G P i C7 hlt,fun σ2 G2=>∃m',m' <xs.length-i/\(m' =xs.length-(i+1)/\i+1<=xs.length/\∃(P:List Addr)(υ:IR.En),ao X.K Hi P υ σ2 G2/\σ2.length=X.N.length/\aE (aX H1 O1) (aX G2 P)/\forX (eG is one k) bx bd (xs.drop (i+1)) υ=true),
   fun σ2 G2 h=>h,fun u G' y=> ?_⟩
  obtain⟨sG,x,hxx,rx⟩:=En.yld G P i u G' C7 hlt y;have hd:xs.drop i=x::xs.drop (i+1):=by
   rw[Li hlt];rw[Iv hlt]at hxx;rw[JF hxx]
  rw[hd]at hrun;unfold forX at hrun;cases h1:eG is one k x υ with
  | none=>rw[h1]at hrun;cases hrun
  | some υ1 =>
   rw[h1]at hrun
   have hrun:(bx υ1||(match bd υ1 with
    | some (.nx τ2)=>forX (eG is one k) bx bd (xs.drop (i+1)) τ2
    | some (.ct τ2)=>forX (eG is one k) bx bd (xs.drop (i+1)) τ2
    | _=>false))=true:=hrun
   refine kg P υ υ1 σ' G' k x u _ (RP.ext sG) hlP rx h1 fun σ1 R2 hl1=> ?_;have s3:aE (aX H1 O1) (aX G' P):=sP.trans (aL sG)
   rcases Bool.or_eq_true_iff.mp hrun with hr|hr
   ·exact hx υ1 hr P σ1 G' _ R2 hl1 fun H' O' s=>q H' O' (s2.trans (s3.trans s))
   ·cases hf:bd υ1 with
    | none=>rw[hf]at hr;cases hr
    | some f =>
     rw[hf]at hr;refine hb υ1 f hf P σ1 G' _ R2 hl1 ?_;cases f with
     | nx υ2=>exact fun σ3 G3 P3 R3 hl3 s4=>⟨_,by omega,rfl,hlt,P3,υ2,R3,hl3,s3.trans s4,hr⟩
     | ct υ2=>exact fun σ3 G3 P3 R3 hl3 s4=>⟨_,by omega,rfl,hlt,P3,υ2,R3,hl3,s3.trans s4,hr⟩
     | bk υ2=>cases hr
     | rt v=>cases hr
 ·have e:i=xs.length:=by omega
  subst e;rw[List.drop_length]at hrun;cases hrun
structure Ih(cd:Nat->List PV->Option PV)(xd:Nat->List PV->Bool)(fu:Nat)(cn:Str)(C:Addr)(E:XK)(X:Cx)(ct:Ct)(Hi:Hp)(n:Nat):Prop where
 s:∀(τ:En)(st:Stmt),ie cd xd fu cn (kT n ct st) τ=true->XSt C E X Hi τ st
 ss:∀(τ:En)(st:List Stmt),evXs cd xd fu cn (bA n ct st) τ=true->XSs C E X Hi τ st
theorem dj{τ:En}(h:ie cd xd fu cn .never τ=true){P:Prop}:P:=by simp[ie]at h
theorem stX{n:Nat}(A:XX cd xd cn C E X ct)(IH:Ih cd xd fu cn C E X ct Hi n){st:Stmt}(h:ie cd xd fu cn (kT (n+1) ct st) τ=true):XSt C E X Hi τ st:=by
 cases st with
 | Raise e c pos =>
  simp only[lU,lK,lT,lN,lO,lJ,lM,lR,lQ,lP,lL,lS]at h
  split at h
  ·rename_i x hx
   split at h
   ·rename_i hg
    obtain⟨p,p2,rfl,rfl⟩:=qP hx;simp only[ie]at h;have e:=JN h;subst e;rw[Iu]at hg;intro O σ H D R hl q;refine ws (A.rais _ _ _ ?_) (q H O (aE.refl _));show X.env.scope.names.lookup x=_;rw[A.ok.S];exact JN hg.1
   ·exact dj h
  ·exact dj h
 | If c a b pos =>
  simp only[lU,lK,lT,lN,lO,lJ,lM,lR,lQ,lP,lL,lS,ie]at h
  split at h
  ·rename_i hc
   intro O σ H D R hl q;refine ws (sK ir dW dW) ?_;refine(de n).c X ct Hi τ c true A.ok hc O σ H _ R fun H1 s1=>qe ?_;exact IH.ss τ a h O σ H1 _ (R.ext s1) hl fun H' O' s=>q H' O' ((aL s1).trans s)
  ·rename_i hc
   intro O σ H D R hl q;refine ws (sK ir dW dW) ?_;refine(de n).c X ct Hi τ c false A.ok hc O σ H _ R fun H1 s1=>qf ?_;exact IH.ss τ b h O σ H1 _ (R.ext s1) hl fun H' O' s=>q H' O' ((aL s1).trans s)
  ·cases h
 | For tg it body els pos =>
  simp only[lU,lK,lT,lN,lO,lJ,lM,lR,lQ,lP,lL,lS]at h
  split at h
  ·split at h
   ·rename_i is one ht
    simp only[ie]at h
    split at h
    ·rename_i xs k hi
     exact AF A ht hi (fun τ fl hf=>(Aw n).ss X ct Hi τ body fl A.ok A.fn hf) (fun τ hx=>IH.ss τ body hx) h
    ·cases h
   ·exact dj h
  ·exact dj h
 | Return v pos =>
  simp only[lU,lK,lT,lN,lO,lJ,lM,lR,lQ,lP,lL,lS]at h
  split at h
  ·rename_i e
   simp only[ie]at h;intro O σ H D R hl q;obtain⟨O1,R1,s1⟩:=fS (cap:=kL n ct e) R;exact ws (ji af) (x4 A h R1 fun H' s=>q H' O1 (s1.trans (aL s)))
  ·simp[ie]at h
 | Assign ts e pos =>
  simp only[lU,lK,lT,lN,lO,lJ,lM,lR,lQ,lP,lL,lS]at h
  split at h
  ·rename_i x xp
   split at h
   ·rename_i i hx
    simp only[ie]at h;intro O σ H D R hl q;obtain⟨h1,h2,h3,h4⟩:=iG A.ok hx;obtain⟨O1,R1,s1⟩:=fS (cap:=ET ct x e++kM n ct e) R;have hN:X.N.Nodup:=by rw[A.ok.N];exact A.ok.nd
    have hc:qi e=false:=by
     cases ht:al n ct e with
     | call f ies =>
      obtain⟨_,_,_,_,_,_,rfl,_⟩:=nz ht;rfl
     | _=>rw[ht]at h;cases h
    exact ws (cG hN h1 h2 af (wc (.inl hc)) (.inl (by rw[A.fn]))) (x4 A h R1 fun H' s=>q H' O1 (s1.trans (aL s)))
   ·exact dj h
  ·exact dj h
 | _ =>
  (try simp only[lU,lK,lT,lN,lO,lJ,lM,lR,lQ,lP,lL,lS]at h)
  (repeat' split at h)<;>first|exact dj h|(simp[ie]at h)
theorem IM(A:XX cd xd cn C E X ct):∀n:Nat,Ih cd xd fu cn C E X ct Hi n
 | 0=>by
  refine⟨fun τ st h=> ?_,fun τ st h=> ?_⟩
  ·simp[lU,lK,lT,lN,lO,lJ,lM,lR,lQ,lP,lL,lS,ie]at h
  ·simp[FP,FN,FO,evXs,ie,gM,ff,fm,fk,gB,gF,fe,fw,gJ,gH,gO,gA,ft,fq,gI,fj,fh,fg,gG,gN,gL,gK,gE,gC,fo,fz]at h
 | n+1=>by
  have IH:=IM A n;refine⟨fun τ st h=>stX A IH h,fun τ st h=> ?_⟩;cases st with
  | nil=>simp[FP,FN,FO,evXs]at h
  | cons st ss =>
   simp only[FP,FN,FO]at h
   have h:(!mD (kT n ct st)&&(ie cd xd fu cn (kT n ct st) τ||(match cB cd fu (kT n ct st) τ with
    | some (.nx τ1)=>evXs cd xd fu cn (bA n ct ss) τ1
    | _=>false)))=true:=by
    simp only[evXs]at h;exact h
   have h:=(Bool.and_eq_true_iff.mp h).2;intro O σ H D R hl q;refine wss (bZ Gq dW) ?_
   rcases Bool.or_eq_true_iff.mp h with h|h
   ·exact IH.s τ st h O σ H _ R hl q
   ·cases hf:cB cd fu (kT n ct st) τ with
    | none=>rw[hf]at h;cases h
    | some f =>
     rw[hf]at h;cases f with
     | nx τ1 =>
      refine(Aw n).s X ct Hi τ st (.nx τ1) A.ok A.fn hf O σ H _ R hl ?_;exact fun σ1 H1 O1 R1 hl1 s1=>IH.ss τ1 ss h O1 σ1 H1 D R1 hl1 fun H' O' s=>q H' O' (s1.trans s)
     | bk τ1=>cases h
     | ct τ1=>cases h
     | rt v=>cases h
end
section
variable{cd:Nat->List PV->Option PV}{xd:Nat->List PV->Bool}{fu:Nat}{cn:Str}{τ τ1:En}{s:IS}{ss:ng}
theorem iw(hg:mD s=false)(h:cB cd fu s τ=some (.nx τ1))(h2:evXs cd xd fu cn ss τ1=true):evXs cd xd fu cn (.cons s ss) τ=true:=by
 rw[evXs,hg,h];show(_||evXs cd xd fu cn ss τ1)=true;rw[h2,Lb]
theorem gP(hg:mD s=false)(h:ie cd xd fu cn s τ=true):evXs cd xd fu cn (.cons s ss) τ=true:=by
 rw[evXs,hg,h];rfl
theorem Fd{c:IC}{a b:ng}{t:Bool}(hc:eA cd c τ=some t)(h:evXs cd xd fu cn (if t then a else b) τ=true):ie cd xd fu cn (.ife c a b) τ=true:=by
 rw[ie,hc];cases t<;>exact h
theorem Bu:ie cd xd fu cn (.rais cn) τ=true:=by
 rw[ie];exact beq_self_eq_true cn
theorem A9{P:Nat->Option FD}{k f:Nat}{vs:List PV}{d:FD}(hP:P f=some d)(hl:vs.length=d.np)(h:evXs (aH P k) (xD P cn k) 1000000 cn d.body (entry d vs)=true):xD P cn (k+1) f vs=true:=by
 unfold xD;rw[hP];show(decide _&&_)=true;rw[JP hl,h];rfl
end
theorem AA{P:Nat->Option FD}{f n m mm:Nat}{e:IE}{g:List PV->Option PV}(hP:P f=some ⟨n,m,.cons (.drop e) (.cons (.hand mm g) .nil)⟩)(cn:Str):∀(k:Nat)(vs:List PV),xD P cn k f vs=false
 | 0,_=>rfl
 | k+1,vs=>by
  have z:evXs (aH P k) (xD P cn k) 1000000 cn (.cons (.drop e) (.cons (.hand mm g) .nil)) (entry ⟨n,m,.cons (.drop e) (.cons (.hand mm g) .nil)⟩ vs)=false:=by
   simp only[evXs,ie,mD,gM,ff,fm,fk,gB,gF,fe,fw,gJ,gH,gO,gA,ft,fq,gI,fj,fh,fg,gG,gN,gL,gK,gE,gC,fo,fz,Lq,Le,Bool.true_and];cases aW (aH P k) e (entry ⟨n,m,.cons (.drop e) (.cons (.hand mm g) .nil)⟩ vs)with
   | none=>rfl
   | some r =>
    simp only[J0];cases g (((entry ⟨n,m,.cons (.drop e) (.cons (.hand mm g) .nil)⟩ vs).take mm).map TV.valD)<;>rfl
  unfold xD;rw[hP];show(_&&_)=false;rw[z,Bool.and_false]
structure Az(mg:Str->Option Value)(base:Heap)(cn:Str)(C:Addr):Prop where
 ex:∃bm newId nid initId inN B Bn bmN,OwnCls cn C bm newId mg base/\ExcBaseFacts Bn newId inN bmN/\bm.contains (.type Bn)=true/\ExcBaseFacts B nid initId bm
 nd:(cn==("__debug__":Str))=false
section
variable{K:W.Frag}{mg:Str->Option Value}{P:Nat->Option FD}{F:List (Str×Nat)}{G:List (Str×PV)}{B:List Str}{p:Program}{w:World}{base:Heap}{k:Nat}
variable(K mg P F p w base k)in
noncomputable def kS:Prop:=∀y g,F.lookup y=some g->∃b gd qs,mg y=some (.ref b)/\W.keepIn K (.ref b)=true/\Binds K gd qs []/\bi p w K mg base p5 k b gd qs (yQ K (aH P k g)) /\
 ∀cn C,Az mg base cn C->bi p w K mg base (tY p w C) k b gd qs (spX K C (xD P cn k g))
variable(K mg P F G B)in
structure bK(x:Str)(f:Nat)(a:Addr)(fd:FuncData)(ps:List Str):Prop where
 ex:(mg x=some (.ref a)/\W.keepIn K (.ref a)=true/\Binds K fd ps []/\(∀cn k vs,xD P cn k f vs=false)/\∀(p:Program)(w:World)(base:Heap)(k:Nat),kS K mg P F p w base k->bi p w K mg base p5 (k+1) a fd ps (yQ K (aH P (k+1) f))) \/
  ∃st N M n body,fF K mg x st ps a fd/\aT N ps (aA st)/\P f=some ⟨N.length,ps.length,body⟩/\bA n ⟨N,(aA st).names,F,G,B,M⟩ (aF st)=body
theorem bK.def{x:Str}{f:Nat}{a:Addr}{fd:FuncData}{ps:List Str}(d:bK K mg P F G B x f a fd ps):mg x=some (.ref a)/\W.keepIn K (.ref a)=true/\Binds K fd ps []:=by
 rcases d.ex with⟨h1,h2,h3,_⟩|⟨st,N,M,n,body,D,_⟩
 ·exact⟨h1,h2,h3⟩
 ·exact⟨D.nm,D.fn.kp,D.bd⟩
theorem lZ{N ps:List Str}{vs:List V}(S:ps.length<=N.length)(h:vs.length=ps.length):(start N vs).length=N.length:=by
 unfold L2.start;rw[JA,Ik,List.length_replicate];omega
variable(hG:∀x v,G.lookup x=some v->∃u w,mg x=some u/\RelV w u/\∀Hi n H,Rp K Hi n v H w)(hB:∀x,B.contains x=true->mg x=none)
include hG hB
theorem CM(IH:kS K mg P F p w base k){x:Str}{f:Nat}{a:Addr}{fd:FuncData}{ps:List Str}{st:Stmt}{N:List Str}{M:List Nat}{n:Nat}{body:ng}(D:fF K mg x st ps a fd)(S:aT N ps (aA st))(hP:P f=some ⟨N.length,ps.length,body⟩)
  (hb:bA n ⟨N,(aA st).names,F,G,B,M⟩ (aF st)=body):bi p w K mg base p5 (k+1) a fd ps (yQ K (aH P (k+1) f)):=by
 have run:∀{pvs:List PV}{r:PV},aH P (k+1) f pvs=some r->pvs.length=ps.length/\eT (bJ (aH P k) 1000000 body (entry ⟨N.length,ps.length,body⟩ pvs))=some r:=fun{pvs r} h=>by
  unfold aH at h;rw[hP]at h;dsimp only[Option.bind]at h
  split at h
  ·rename_i hl
   exact⟨hl,h⟩
  ·cases h
 refine D.fn.ok S (fun vs H Q E h=> ?_) (fun cdv A outer s H vs Q E hr h=> ?_)
 ·obtain⟨pvs,r,h1,h2,_⟩:=h
  rw[<- h1.len];exact(run h2).1
 ·obtain⟨pvs,r,h1,h2,q⟩:=h
  obtain⟨hl,h2⟩:=run h2;have hps:ps.length<=N.length:=by have:=Je List.length S.pre;rw[JS]at this;omega
  cases he:bJ (aH P k) 1000000 body (entry ⟨N.length,ps.length,body⟩ pvs)with
  | none=>rw[he]at h2;cases h2
  | some fl =>
   rw[he]at h2
   have C:bX (aH P k) (iP p5 p w K mg base N x (aA st) a cdv A outer s H E).nox ⟨N,(aA st).names,F,G,B,M⟩ :=
    ⟨rfl,S.nd,rfl,S.kind,rfl,hG,hB,fun y g hy=>by
     obtain⟨b,gd,qs,z1,z2,z3,z4,_⟩:=IH y g hy;exact⟨k,b,gd,qs,z4,hr,z1,z2,z3⟩,LH,hr.units⟩
   rw[<- hb]at he;have h3:=(Aw n).ss _ _ H _ (aF st) fl C rfl he;refine⟨_,dW,h3 [] (start N vs) H _ (mK rfl h1) (lZ hps (by rw[<- h1.len];exact hl)) ?_⟩;cases fl with
   | nx τ' =>
    cases h2;exact fun σ' H' O' R' _ _=>q _ _ R'.same (Rp.non.mpr rfl)
   | rt v =>
    cases h2;exact q
   | bk τ' =>cases h2
   | ct τ' =>cases h2
theorem CL(IH:kS K mg P F p w base k){x:Str}{f:Nat}{a:Addr}{fd:FuncData}{ps:List Str}{st:Stmt}{N:List Str}{M:List Nat}{n:Nat}{body:ng}(D:fF K mg x st ps a fd)(S:aT N ps (aA st))(hP:P f=some ⟨N.length,ps.length,body⟩)
  (hb:bA n ⟨N,(aA st).names,F,G,B,M⟩ (aF st)=body) {cn:Str} {C:Addr} (XC:Az mg base cn C):bi p w K mg base (tY p w C) (k+1) a fd ps (spX K C (xD P cn (k+1) f)):=by
 have run:∀{pvs:List PV},xD P cn (k+1) f pvs=true->pvs.length=ps.length/\evXs (aH P k) (xD P cn k) 1000000 cn body (entry ⟨N.length,ps.length,body⟩ pvs)=true:=fun{pvs} h=>by
  unfold xD at h;rw[hP]at h;have h:=Bool.and_eq_true_iff.mp h;exact⟨Jy h.1,h.2⟩
 obtain⟨oc,od,kV,doc,pm,an,cdv,ct,osl,rfl,lk,hcd⟩:=D.fn.ex;obtain⟨bm,newId,nid,initId,inN,Bb,Bn,bmN,O,Fn,hBn,FB⟩:=XC.ex;refine Ba lk hcd S (fun vs H Q E h=> ?_) fun A outer s H vs Q E hr h=> ?_
 ·obtain⟨pvs,h1,h2,_⟩:=h
  rw[<- h1.len];exact(run h2).1
 ·obtain⟨pvs,h1,h2,q⟩:=h
  obtain⟨hl,h2⟩:=run h2;have hps:ps.length<=N.length:=by have:=Je List.length S.pre;rw[JS]at this;omega
  have A' :XX (aH P k) (xD P cn k) cn C E (iP (tY p w C) p w K mg base N x (aA st) a cdv A outer s H E) ⟨N,(aA st).names,F,G,B,M⟩ :=
   ⟨⟨rfl,S.nd,rfl,S.kind,rfl,hG,hB,fun y g hy=>by
     obtain⟨b,gd,qs,z1,z2,z3,z4,_⟩:=IH y g hy;exact⟨k,b,gd,qs,z4,hr,z1,z2,z3⟩,PassesOwn.leaving,hr.units⟩,fun y g hy=>by
     obtain⟨b,gd,qs,z1,z2,z3,_,z5⟩:=IH y g hy;exact⟨k,b,gd,qs,z5 cn C XC,hr,z1,z2,z3⟩,zO fun _ _ z=>z,
    fun np cpos pos g=>uC O Fn hBn FB rfl g (fun pins σ H s h' e I mk q=>uB I mk q) XC.nd,rfl⟩
  rw[<- hb]at h2;refine⟨_,dW,(IM A' n).ss _ (aF st) h2 [] (start N vs) H _ (mK rfl h1) (lZ hps (by rw[<- h1.len];exact hl)) fun H' O' s=>q H' fun b o e=>aY b o (s b o (by rw[sq];exact e))⟩
theorem tD(hF:∀x f,F.lookup x=some f->∃a fd ps,bK K mg P F G B x f a fd ps):∀(k:Nat)(x:Str)(f:Nat)(a:Addr)(fd:FuncData)(ps:List Str),bK K mg P F G B x f a fd ps ->
  bi p w K mg base p5 k a fd ps (yQ K (aH P k f))/\∀cn C,Az mg base cn C->bi p w K mg base (tY p w C) k a fd ps (spX K C (xD P cn k f))
 | 0,x,f,a,fd,ps,_=>⟨⟨fun vs H Q E h=>(by obtain⟨_,_,_,z,_⟩:=h;cases z),fun A outer s H args us vs Q E _ _ _ _ h=>(by obtain⟨_,_,_,z,_⟩:=h;cases z)⟩,
  fun cn C _=>⟨fun vs H Q E h=>(by obtain⟨_,_,z,_⟩:=h;cases z),fun A outer s H args us vs Q E _ _ _ _ h=>(by obtain⟨_,_,z,_⟩:=h;cases z)⟩⟩
 | k+1,x,f,a,fd,ps,d=>by
  have IH:kS K mg P F p w base k:=fun y g hy=>by
   obtain⟨b,gd,qs,dy⟩:=hF y g hy;obtain⟨z1,z2,z3⟩:=dy.def;obtain⟨z4,z5⟩:=tD hF k y g b gd qs dy;exact⟨b,gd,qs,z1,z2,z3,z4,z5⟩
  rcases d.ex with⟨_,_,_,nx,hand⟩|⟨st,N,M,n,body,D,S,hP,hb⟩
  ·exact⟨hand p w base k IH,fun cn C _=>⟨fun vs H Q E h=>(by obtain⟨_,_,z,_⟩:=h;rw[nx]at z;cases z),fun A outer s H args us vs Q E _ _ _ _ h=>(by obtain⟨_,_,z,_⟩:=h;rw[nx]at z;cases z)⟩⟩
  ·exact⟨CM hG hB IH D S hP hb,fun cn C XC=>CL hG hB IH D S hP hb XC⟩
end
section
variable{K:W.Frag}{mg:Str->Option Value}{P:Nat->Option FD}{F0:List (Str×Nat)}{G0:List (Str×PV)}{B0:List Str}
theorem HV:∀(x:Str)(f:Nat),([]:List (Str×Nat)).lookup x=some f->∃a fd ps,bK K mg P F0 G0 B0 x f a fd ps:=fun x f h=>by cases h
theorem aj{x0:Str}{f0:Nat}{r:List (Str×Nat)}(h:∃a fd ps,bK K mg P F0 G0 B0 x0 f0 a fd ps)(hr:∀(x:Str) (f:Nat),r.lookup x=some f->∃a fd ps,bK K mg P F0 G0 B0 x f a fd ps) :
  ∀(x:Str)(f:Nat),((x0,f0)::r).lookup x=some f->∃a fd ps,bK K mg P F0 G0 B0 x f a fd ps:=fun x f e=>by
 rw[JY]at e
 split at e
 ·rename_i c
  cases e;rw[JN c];exact h
 ·exact hr x f e
end
end IR
namespace Law
open PySem PySem.Spec PyProof.Rows L2 IR
noncomputable def gw(i:Nat):Stmt:=PySem.Challenge.pw_unstruck_k73_whole_none_lacks.main.body.getD i (.Pass ⟨0,0,0,0⟩)
noncomputable def F:List (Str×Nat):=[("cells_of",3),("is_straight",129),("is_aslant",130),("struck",131),("not_struck",182),("with_one_more",183),("all_placings",184),("bits_of",46),("with_line",47),("row_of",48),("_law_cell",4),("_law_mixed",5),("_law_deep",20),("_law_board",6),("_law_cells",7),("_law_whole",8),("_law_same",9),("_law_all_same",10),("_law_strikes",186),("_law_kind",187),("_law_told",195),("_law_free",196),("_law_is_good",197),("_law_are_good",198),("_law_one_more",199),("_law_placing",200),("_law_drawn",201),("law",202)]
noncomputable def G:List (Str×PV):=[("CELL",(.str "x")),("STRAIGHT",(.str "straight")),("ASLANT",(.str "aslant")),("MOST_PLACINGS",(.int 1000))]
noncomputable def B:List Str:=["len","int","list","tuple","abs","isinstance","str","bool","range","zip","enumerate","sorted","sum","dict"]
noncomputable abbrev s3:Stmt:=gw 2
noncomputable abbrev N3:List Str:=["board","cells","row","line","column","sign"]
noncomputable abbrev ko:Stmt:=gw 10
noncomputable abbrev FF:List Str:=["one","other"]
noncomputable abbrev kn:Stmt:=gw 11
noncomputable abbrev FE:List Str:=["one","other"]
noncomputable abbrev km:Stmt:=gw 12
noncomputable abbrev FC:List Str:=["kind","one","other"]
noncomputable abbrev kl:Stmt:=gw 13
noncomputable abbrev FA:List Str:=["kind","cell","cells"]
noncomputable abbrev kj:Stmt:=gw 14
noncomputable abbrev Ez:List Str:=["kind","level","room","above","placing","free","place","cell"]
noncomputable abbrev ki:Stmt:=gw 15
noncomputable abbrev Ey:List Str:=["kind","board","size","level","room","more"]
noncomputable abbrev yS:Stmt:=gw 17
noncomputable abbrev N46:List Str:=["line","bits","bit","sign"]
noncomputable abbrev BJ:Stmt:=gw 18
noncomputable abbrev N47:List Str:=["levels","bits","after","size","level","above","taken","count","bit"]
noncomputable abbrev yR:Stmt:=gw 19
noncomputable abbrev N48:List Str:=["board","levels","line"]
noncomputable abbrev s4:Stmt:=gw 21
noncomputable abbrev N4:List Str:=["_law_script","_law_k"]
noncomputable abbrev s5:Stmt:=gw 22
noncomputable abbrev N5:List Str:=["_law_cell_here","_law_k","_law_number"]
noncomputable abbrev yT:Stmt:=gw 23
noncomputable abbrev N20:List Str:=["_law_cell_here","_law_number","_law_k"]
noncomputable abbrev s6:Stmt:=gw 24
noncomputable abbrev N6:List Str:=["_law_head","_law_cell_here","_law_most","_law_rows","_law_columns","_law_thick","_law_lines","_law_row","_law_signs","_law_column","_law_place","_law_one"]
noncomputable abbrev s7:Stmt:=gw 25
noncomputable abbrev N7:List Str:=["_law_board_here","_law_found","_law_row","_law_column"]
noncomputable abbrev s8:Stmt:=gw 26
noncomputable abbrev N8:List Str:=["_law_found"]
noncomputable abbrev s9:Stmt:=gw 27
noncomputable abbrev N9:List Str:=["_law_found","_law_due"]
noncomputable abbrev yU:Stmt:=gw 28
noncomputable abbrev N10:List Str:=["_law_found","_law_due","_law_one","_law_other"]
noncomputable abbrev kh:Stmt:=gw 29
noncomputable abbrev Ex:List Str:=["_law_kind_here","_law_one","_law_other","_law_down","_law_along"]
noncomputable abbrev kf:Stmt:=gw 30
noncomputable abbrev Ew:List Str:=["_law_number"]
noncomputable abbrev oE:Stmt:=gw 31
noncomputable abbrev N195:List Str:=["_law_kind_here","_law_board_here","_law_size","_law_found"]
noncomputable abbrev kc:Stmt:=gw 32
noncomputable abbrev Ev:List Str:=["_law_kind_here","_law_placing_here","_law_cells_here","_law_found","_law_cell_here","_law_hit"]
noncomputable abbrev ka:Stmt:=gw 33
noncomputable abbrev Eu:List Str:=["_law_placing_here","_law_kind_here","_law_cells_here","_law_size","_law_j","_law_hit"]
noncomputable abbrev kZ:Stmt:=gw 34
noncomputable abbrev Et:List Str:=["_law_found","_law_kind_here","_law_cells_here","_law_size","_law_k"]
noncomputable abbrev kY:Stmt:=gw 35
noncomputable abbrev Es:List Str:=["_law_found","_law_kind_here","_law_cells_here","_law_longer","_law_placing_here","_law_behind"]
noncomputable abbrev kX:Stmt:=gw 36
noncomputable abbrev Er:List Str:=["_law_kind_here","_law_cells_here","_law_size","_law_number","_law_near","_law_found","_law_left","_law_at"]
noncomputable abbrev kW:Stmt:=gw 37
noncomputable abbrev Ep:List Str:=["_law_script","_law_head","_law_board_here","_law_thin"]
noncomputable abbrev iC:Stmt:=gw 38
noncomputable abbrev Eo:List Str:=["_law_script","_law_board_here","_law_cells_here","_law_third","_law_kind_here","_law_size","_law_found","_law_behind","_law_cell_here","_law_placing_here"]
noncomputable def d3:FD:=⟨6,1,
  (.cons (.asg 1 true [] (.lst .nil))
  (.cons (.forr [2,3] false [0] (.enum (.var 0)) (.cons (.forr [4,5] false [3] (.enum (.var 3)) (.cons (.ife (.val (.cmp .Eq (.var 5) (.con (.str "x")))) (.cons (.app 1 [2,4] (.tup (.cons (.var 2) (.cons (.var 4) .nil))))
  .nil) .nil)
  .nil))
  .nil))
  (.cons (.ret [1] (.var 1))
  .nil)))⟩
noncomputable def EL:FD:=⟨2,2,
  (.cons (.ret [] (.or (.cmp .Eq (.ix (.var 0) (.con (.int 0))) (.ix (.var 1) (.con (.int 0)))) (.cmp .Eq (.ix (.var 0) (.con (.int 1))) (.ix (.var 1) (.con (.int 1))))))
  .nil)⟩
noncomputable def EK:FD:=⟨2,2,
  (.cons (.ret [] (.cmp .Eq (.bf .abs (.cons (.bin .Sub (.ix (.var 0) (.con (.int 0))) (.ix (.var 1) (.con (.int 0)))) .nil)) (.bf .abs (.cons (.bin .Sub (.ix (.var 0) (.con (.int 1))) (.ix (.var 1) (.con (.int 1)))) .nil))))
  .nil)⟩
noncomputable def EJ:FD:=⟨3,3,
  (.cons (.ife (.val (.cmp .Eq (.var 0) (.con (.str "straight")))) (.cons (.ret [] (.call 129 (.cons (.var 1) (.cons (.var 2) .nil))))
  .nil) .nil)
  (.cons (.ife (.val (.cmp .Eq (.var 0) (.con (.str "aslant")))) (.cons (.ret [] (.call 130 (.cons (.var 1) (.cons (.var 2) .nil))))
  .nil) .nil)
  (.cons (.ret [] (.or (.call 129 (.cons (.var 1) (.cons (.var 2) .nil))) (.call 130 (.cons (.var 1) (.cons (.var 2) .nil)))))
  .nil)))⟩
noncomputable def EI:FD:=⟨3,3,
  (.cons (.ret [2] (.lc (.var 0) (.seq (.var 2)) (.yes (.not (.val (.call 131 (.cons (.var 2) (.cons (.var 1) (.cons (.var 0) .nil))))))) [1,0]))
  .nil)⟩
noncomputable def xo:FD:=⟨8,3,
  (.cons (.asg 3 true [] (.lst .nil))
  (.cons (.forr [4,5] false [1] (.seq (.var 1)) (.cons (.forr [6,7] false [5] (.enum (.var 5)) (.cons (.app 3 [] (.tup (.cons (.bin .Add (.var 4) (.tup (.cons (.var 7) .nil))) (.cons (.call 182 (.cons (.var 0) (.cons (.var 7) (.cons (.sl (.var 5) (.yes (.bin .Add (.var 6) (.con (.int 1)))) .no) .nil)))) .nil))))
  .nil))
  (.cons (.ife (.val (.cmp .Gt (.bf .len (.cons (.var 3) .nil)) (.var 2))) (.cons (.rais "TooGreat")
  .nil) .nil)
  .nil)))
  (.cons (.ret [3] (.var 3))
  .nil)))⟩
noncomputable def xm:FD:=⟨6,3,
  (.cons (.asg 3 false [] (.lst (.cons (.tup (.cons (.tup .nil) (.cons (.call 3 (.cons (.var 1) .nil)) .nil))) .nil)))
  (.cons (.asg 4 false [] (.bin .Sub (.con (.int 1000)) (.con (.int 1))))
  (.cons (.forr [5] true [] (.rng (.cons (.var 2) .nil)) (.cons (.asg 3 false [] (.call 183 (.cons (.var 0) (.cons (.var 3) (.cons (.var 4) .nil)))))
  (.cons (.aug 4 .Sub (.bf .len (.cons (.var 3) .nil)))
  .nil)))
  (.cons (.ret [3] (.lc2 (.var 0) (.seq (.var 3)) (.yes (.val (.cmp .Eq (.bf .len (.cons (.var 0) .nil)) (.var 2)))) [2]))
  .nil))))⟩
noncomputable def d46:FD:=⟨4,1,
  (.cons (.asg 1 true [] (.lst .nil))
  (.cons (.asg 2 false [] (.con (.int 1)))
  (.cons (.forr [3] true [0] (.seq (.var 0)) (.cons (.ife (.val (.cmp .Eq (.var 3) (.con (.str "x")))) (.cons (.app 1 [2] (.var 2))
  .nil) .nil)
  (.cons (.asg 2 false [] (.bin .Mult (.var 2) (.con (.int 2))))
  .nil)))
  (.cons (.ret [1] (.var 1))
  .nil))))⟩
noncomputable def FU:FD:=⟨9,2,
  (.cons (.hand 2 bT) .nil)⟩
noncomputable def d48:FD:=⟨3,1,
  (.cons (.asg 1 false [] (.lst (.cons (.dlit (.inl 0) (.con (.int 1))) .nil)))
  (.cons (.forr [2] true [0] (.seq (.var 0)) (.cons (.asg 1 false [] (.call 47 (.cons (.var 1) (.cons (.call 46 (.cons (.var 2) .nil)) .nil))))
  .nil))
  (.cons (.ret [1] (.lc (.bf .sumv (.cons (.var 0) .nil)) (.seq (.var 1)) (.yes (.val (.cmp .Gt (.bf .len (.cons (.var 0) .nil)) (.con (.int 0))))) []))
  .nil)))⟩
noncomputable def d4:FD:=⟨2,2,
  (.cons (.ife (.val (.cmp .Lt (.var 1) (.bf .len (.cons (.var 0) .nil)))) (.cons (.ret [] (.ix (.var 0) (.var 1)))
  .nil) .nil)
  (.cons (.ret [] (.con (.int 0)))
  .nil))⟩
noncomputable def d5:FD:=⟨3,2,
  (.cons (.asg 2 false [] (.bin .Mod (.bin .Add (.bin .Add (.bin .Mult (.bin .Mod (.var 0) (.con (.int 2147483647))) (.con (.int 39373))) (.bin .Mult (.bin .Mult (.con (.int 7877)) (.var 1)) (.var 1))) (.con (.int 60493))) (.con (.int 2147483647))))
  (.cons (.asg 2 false [] (.bin .Mod (.bin .Mult (.var 2) (.var 2)) (.con (.int 2147483629))))
  (.cons (.ret [2,1,2] (.bin .Mod (.bin .Mult (.bin .Add (.bin .Mult (.var 2) (.con (.int 48271))) (.var 1)) (.var 2)) (.con (.int 2147483587))))
  .nil)))⟩
noncomputable def d20:FD:=⟨3,1,
  (.cons (.ife (.val (.cmp .GtE (.var 0) (.bin .LShift (.con (.int 1)) (.con (.int 64))))) (.cons (.ret [0] (.bin .Sub (.var 0) (.bin .LShift (.con (.int 1)) (.con (.int 64)))))
  .nil) .nil)
  (.cons (.asg 1 false [] (.con (.int 0)))
  (.cons (.forr [2] true [] (.rng (.cons (.con (.int 8)) .nil)) (.cons (.asg 1 false [] (.bin .Add (.bin .Mult (.var 1) (.con (.int 2147483587))) (.call 5 (.cons (.var 0) (.cons (.bin .Add (.bin .Mult (.con (.int 7)) (.var 2)) (.con (.int 3))) .nil)))))
  .nil))
  (.cons (.ret [1] (.var 1))
  .nil))))⟩
noncomputable def d6:FD:=⟨12,3,
  (.cons (.asg 3 false [] (.bin .Add (.con (.int 1)) (.bin .Mod (.var 0) (.var 2))))
  (.cons (.asg 4 false [] (.bin .Add (.con (.int 1)) (.bin .Mod (.bin .FloorDiv (.var 0) (.con (.int 8))) (.var 2))))
  (.cons (.asg 5 false [] (.bin .Add (.con (.int 1)) (.bin .Mod (.bin .FloorDiv (.var 0) (.con (.int 64))) (.con (.int 8)))))
  (.cons (.asg 6 true [] (.lst .nil))
  (.cons (.forr [7] true [] (.rng (.cons (.var 3) .nil)) (.cons (.asg 8 false [] (.con (.str "")))
  (.cons (.forr [9] true [] (.rng (.cons (.var 4) .nil)) (.cons (.asg 10 false [] (.bin .Add (.bin .Mult (.var 4) (.var 7)) (.var 9)))
  (.cons (.asg 11 false [] (.cmp .Eq (.bin .Mod (.bin .FloorDiv (.var 1) (.bin .LShift (.con (.int 1)) (.var 10))) (.con (.int 2))) (.con (.int 1))))
  (.cons (.ife (.val (.cmp .Lt (.var 1) (.bin .LShift (.con (.int 1)) (.con (.int 64))))) (.cons (.asg 11 false [] (.cmp .Lt (.bin .Mod (.call 5 (.cons (.var 1) (.cons (.var 10) .nil))) (.con (.int 8))) (.var 5)))
  .nil) .nil)
  (.cons (.asg 8 false [8] (.bin .Add (.var 8) (.ix (.lst (.cons (.con (.str ".")) (.cons (.con (.str "x")) .nil))) (.bf .int (.cons (.var 11) .nil)))))
  .nil)))))
  (.cons (.app 6 [8] (.var 8))
  .nil))))
  (.cons (.ret [6] (.bf .tuple (.cons (.var 6) .nil)))
  .nil))))))⟩
noncomputable def d7:FD:=⟨4,1,
  (.cons (.asg 1 true [] (.lst .nil))
  (.cons (.forr [2] true [] (.rng (.cons (.bf .len (.cons (.var 0) .nil)) .nil)) (.cons (.forr [3] true [] (.rng (.cons (.bf .len (.cons (.ix (.var 0) (.con (.int 0))) .nil)) .nil)) (.cons (.ife (.val (.cmp .Eq (.ix (.ix (.var 0) (.var 2)) (.var 3)) (.con (.str "x")))) (.cons (.app 1 [2,3] (.tup (.cons (.var 2) (.cons (.var 3) .nil))))
  .nil) .nil)
  .nil))
  .nil))
  (.cons (.ret [1] (.var 1))
  .nil)))⟩
noncomputable def d8:FD:=⟨1,1,
  (.cons (.ret [] (.and (.bf (.isin "int") (.cons (.var 0) .nil)) (.not (.bf (.isin "bool") (.cons (.var 0) .nil)))))
  .nil)⟩
noncomputable def d9:FD:=⟨2,2,
  (.cons (.ife (.val (.cmp .Is (.var 1) (.con .non))) (.cons (.ret [] (.cmp .Is (.var 0) (.con .non)))
  .nil) .nil)
  (.cons (.ife (.val (.bf (.isin "tuple") (.cons (.var 1) .nil))) (.cons (.ret [] (.and (.bf (.isin "tuple") (.cons (.var 0) .nil)) (.and (.cmp .Eq (.bf .len (.cons (.var 0) .nil)) (.bf .len (.cons (.var 1) .nil))) (.call 10 (.cons (.bf .list (.cons (.var 0) .nil)) (.cons (.bf .list (.cons (.var 1) .nil)) .nil))))))
  .nil) .nil)
  (.cons (.ife (.val (.bf (.isin "list") (.cons (.var 1) .nil))) (.cons (.ret [] (.and (.bf (.isin "list") (.cons (.var 0) .nil)) (.and (.cmp .Eq (.bf .len (.cons (.var 0) .nil)) (.bf .len (.cons (.var 1) .nil))) (.call 10 (.cons (.var 0) (.cons (.var 1) .nil))))))
  .nil) .nil)
  (.cons (.ife (.val (.bf (.isin "str") (.cons (.var 1) .nil))) (.cons (.ret [] (.and (.bf (.isin "str") (.cons (.var 0) .nil)) (.cmp .Eq (.var 0) (.var 1))))
  .nil) .nil)
  (.cons (.ret [] (.and (.call 8 (.cons (.var 0) .nil)) (.cmp .Eq (.var 0) (.var 1))))
  .nil)))))⟩
noncomputable def d10:FD:=⟨4,2,
  (.cons (.forr [2,3] false [0,1] (.zip (.var 0) (.var 1)) (.cons (.ife (.not (.val (.call 9 (.cons (.var 2) (.cons (.var 3) .nil))))) (.cons (.ret [] (.con (.bl false)))
  .nil) .nil)
  .nil))
  (.cons (.ret [] (.con (.bl true)))
  .nil))⟩
noncomputable def EH:FD:=⟨5,3,
  (.cons (.asg 3 false [] (.bin .Sub (.ix (.var 2) (.con (.int 0))) (.ix (.var 1) (.con (.int 0)))))
  (.cons (.asg 4 false [] (.bin .Sub (.ix (.var 2) (.con (.int 1))) (.ix (.var 1) (.con (.int 1)))))
  (.cons (.ife (.and (.val (.cmp .NotEq (.var 0) (.con (.str "aslant")))) (.or (.val (.cmp .Eq (.var 3) (.con (.int 0)))) (.val (.cmp .Eq (.var 4) (.con (.int 0)))))) (.cons (.ret [] (.con (.bl true)))
  .nil) .nil)
  (.cons (.ret [] (.and (.cmp .NotEq (.var 0) (.con (.str "straight"))) (.or (.cmp .Eq (.var 3) (.var 4)) (.cmp .Eq (.var 3) (.bin .Sub (.con (.int 0)) (.var 4))))))
  .nil))))⟩
noncomputable def xl:FD:=⟨1,1,
  (.cons (.ret [] (.ix (.lst (.cons (.con (.str "straight")) (.cons (.con (.str "aslant")) (.cons (.con (.str "all")) .nil)))) (.bin .Mod (.var 0) (.con (.int 3)))))
  .nil)⟩
noncomputable def AT:FD:=⟨4,3,
  (.cons (.drop (.call 20008 (.cons (.con .non) .nil))) (.cons (.hand 3 va) .nil))⟩
noncomputable def EG:FD:=⟨6,3,
  (.cons (.asg 3 true [] (.lst .nil))
  (.cons (.forr [4] true [2] (.seq (.var 2)) (.cons (.asg 5 false [] (.lc (.var 0) (.seq (.var 1)) (.yes (.val (.call 186 (.cons (.var 2) (.cons (.var 0) (.cons (.var 1) .nil)))))) [4,0]))
  (.cons (.ife (.and (.val (.cmp .Eq (.var 5) (.lst .nil))) (.val (.cmp .NotIn (.var 4) (.var 1)))) (.cons (.app 3 [4] (.var 4))
  .nil) .nil)
  .nil)))
  (.cons (.ret [3] (.var 3))
  .nil)))⟩
noncomputable def EF:FD:=⟨6,4,
  (.cons (.ife (.or (.not (.val (.bf (.isin "tuple") (.cons (.var 0) .nil)))) (.val (.cmp .NotEq (.bf .len (.cons (.var 0) .nil)) (.var 3)))) (.cons (.ret [] (.con (.bl false)))
  .nil) .nil)
  (.cons (.forr [4] true [] (.rng (.cons (.var 3) .nil)) (.cons (.ife (.or (.val (.cmp .NotIn (.ix (.var 0) (.var 4)) (.var 2))) (.and (.val (.cmp .Gt (.var 4) (.con (.int 0)))) (.val (.cmp .GtE (.ix (.var 0) (.bin .Sub (.var 4) (.con (.int 1)))) (.ix (.var 0) (.var 4)))))) (.cons (.ret [] (.con (.bl false)))
  .nil) .nil)
  (.cons (.asg 5 false [] (.lc (.var 0) (.seq (.sl (.var 0) .no (.yes (.var 4)))) (.yes (.val (.call 186 (.cons (.var 2) (.cons (.var 0) (.cons (.ix (.var 3) (.var 1)) .nil)))))) [4,1,0]))
  (.cons (.ife (.val (.cmp .NotEq (.var 5) (.lst .nil))) (.cons (.ret [] (.con (.bl false)))
  .nil) .nil)
  .nil))))
  (.cons (.ret [] (.con (.bl true)))
  .nil)))⟩
noncomputable def EE:FD:=⟨5,4,
  (.cons (.ife (.not (.val (.bf (.isin "list") (.cons (.var 0) .nil)))) (.cons (.ret [] (.con (.bl false)))
  .nil) .nil)
  (.cons (.forr [4] true [] (.rng (.cons (.bf .len (.cons (.var 0) .nil)) .nil)) (.cons (.ife (.not (.val (.call 197 (.cons (.ix (.var 0) (.var 4)) (.cons (.var 1) (.cons (.var 2) (.cons (.var 3) .nil))))))) (.cons (.ret [] (.con (.bl false)))
  .nil) .nil)
  (.cons (.ife (.and (.val (.cmp .Gt (.var 4) (.con (.int 0)))) (.val (.cmp .GtE (.ix (.var 0) (.bin .Sub (.var 4) (.con (.int 1)))) (.ix (.var 0) (.var 4))))) (.cons (.ret [] (.con (.bl false)))
  .nil) .nil)
  .nil)))
  (.cons (.ret [] (.con (.bl true)))
  .nil)))⟩
noncomputable def ED:FD:=⟨6,3,
  (.cons (.asg 3 false [] (.lst .nil))
  (.cons (.forr [4] true [0] (.seq (.var 0)) (.cons (.asg 5 false [2] (.var 2))
  (.cons (.ife (.val (.cmp .NotEq (.var 4) (.tup .nil))) (.cons (.asg 5 false [] (.sl (.var 2) (.yes (.bin .Add (.mth .index (.var 2) (.cons (.ix (.var 4) (.neg (.con (.int 1)))) .nil)) (.con (.int 1)))) .no))
  .nil) .nil)
  (.cons (.asg 3 false [3] (.bin .Add (.var 3) (.lc (.bin .Add (.var 1) (.tup (.cons (.var 0) .nil))) (.seq (.call 196 (.cons (.var 1) (.cons (.var 4) (.cons (.var 5) .nil))))) .no [4])))
  .nil))))
  (.cons (.ret [3] (.var 3))
  .nil)))⟩
noncomputable def EC:FD:=⟨8,4,
  (.cons (.asg 4 false [] (.bin .Mod (.var 3) (.con (.int 2))))
  (.cons (.asg 3 false [] (.bin .FloorDiv (.var 3) (.con (.int 2))))
  (.cons (.asg 5 true [] (.lst .nil))
  (.cons (.asg 6 false [1] (.var 1))
  (.cons (.whil (.and (.val (.cmp .NotEq (.var 6) (.lst .nil))) (.val (.cmp .Lt (.bf .len (.cons (.var 5) .nil)) (.var 2)))) (.cons (.asg 7 false [] (.bin .Mod (.var 3) (.bf .len (.cons (.var 6) .nil))))
  (.cons (.ife (.val (.cmp .Eq (.var 4) (.con (.int 1)))) (.cons (.asg 7 false [] (.ix (.lst (.cons (.con (.int 0)) (.cons (.bin .Sub (.bf .len (.cons (.var 6) .nil)) (.con (.int 1))) .nil))) (.bin .Mod (.var 3) (.con (.int 2)))))
  .nil) .nil)
  (.cons (.app 5 [] (.ix (.var 6) (.var 7)))
  (.cons (.asg 6 false [] (.call 196 (.cons (.var 0) (.cons (.var 5) (.cons (.var 6) .nil)))))
  (.cons (.asg 3 false [] (.bin .FloorDiv (.var 3) (.con (.int 64))))
  .nil))))))
  (.cons (.ret [5] (.bf .tuple (.cons (.bf .sorted (.cons (.var 5) .nil)) .nil)))
  .nil))))))⟩
noncomputable def EB:FD:=⟨4,1,
  (.cons (.asg 1 false [] (.call 4 (.cons (.var 0) (.cons (.con (.int 0)) .nil))))
  (.cons (.asg 2 false [] (.call 6 (.cons (.bin .FloorDiv (.var 1) (.con (.int 3))) (.cons (.call 4 (.cons (.var 0) (.cons (.con (.int 1)) .nil))) (.cons (.con (.int 8)) .nil)))))
  (.cons (.ife (.val (.cmp .Gt (.bin .Mod (.var 1) (.con (.int 3))) (.con (.int 0)))) (.cons (.asg 3 false [] (.lc (.sl (.var 0) .no (.yes (.bin .Add (.con (.int 1)) (.bin .FloorDiv (.bin .Mult (.bf .len (.cons (.var 0) .nil)) (.con (.int 2))) (.con (.int 3)))))) (.seq (.var 2)) .no []))
  (.cons (.asg 2 false [] (.bf .tuple (.cons (.sl (.var 3) .no (.yes (.bin .Add (.con (.int 1)) (.bin .FloorDiv (.bin .Mult (.bf .len (.cons (.var 3) .nil)) (.con (.int 2))) (.con (.int 3)))))) .nil)))
  .nil)) .nil)
  (.cons (.ret [2] (.var 2))
  .nil))))⟩
noncomputable def EA:FD:=⟨10,1,
  (.cons (.asg 1 false [] (.call 201 (.cons (.var 0) .nil)))
  (.cons (.asg 2 false [] (.call 7 (.cons (.var 1) .nil)))
  (.cons (.asg 3 false [] (.call 4 (.cons (.var 0) (.cons (.con (.int 2)) .nil))))
  (.cons (.asg 4 false [] (.call 187 (.cons (.var 3) .nil)))
  (.cons (.asg 5 false [] (.bin .Mod (.bin .FloorDiv (.var 3) (.con (.int 3))) (.con (.int 8))))
  (.cons (.asg 6 false [] (.call 195 (.cons (.var 4) (.cons (.var 1) (.cons (.var 5) .nil)))))
  (.cons (.asg 7 false [] (.call 195 (.cons (.var 4) (.cons (.var 1) (.cons (.bin .Add (.var 5) (.con (.int 1))) .nil)))))
  (.cons (.ife (.val (.cmp .Is (.var 6) (.con .non))) (.cons (.ret [] (.cmp .Is (.var 7) (.con .non)))
  .nil) .nil)
  (.cons (.ife (.not (.val (.call 198 (.cons (.var 6) (.cons (.var 4) (.cons (.var 2) (.cons (.var 5) .nil))))))) (.cons (.ret [] (.con (.bl false)))
  .nil) .nil)
  (.cons (.ife (.and (.val (.cmp .IsNot (.var 7) (.con .non))) (.not (.val (.call 9 (.cons (.var 7) (.cons (.call 199 (.cons (.var 6) (.cons (.var 4) (.cons (.var 2) .nil)))) .nil)))))) (.cons (.ret [] (.con (.bl false)))
  .nil) .nil)
  (.cons (.ife (.and (.val (.cmp .Eq (.var 4) (.con (.str "straight")))) (.val (.cmp .NotEq (.bf .len (.cons (.var 6) .nil)) (.ix (.bin .Add (.call 48 (.cons (.var 1) .nil)) (.bin .Mult (.lst (.cons (.con (.int 0)) .nil)) (.con (.int 9)))) (.var 5))))) (.cons (.ret [] (.con (.bl false)))
  .nil) .nil)
  (.cons (.forr [8] true [] (.seq (.sl (.var 0) (.yes (.con (.int 3))) (.yes (.con (.int 63))))) (.cons (.asg 9 false [] (.call 200 (.cons (.var 4) (.cons (.var 2) (.cons (.var 5) (.cons (.call 20 (.cons (.var 8) .nil)) .nil))))))
  (.cons (.ife (.and (.val (.cmp .Eq (.bf .len (.cons (.var 9) .nil)) (.var 5))) (.val (.cmp .NotIn (.var 9) (.var 6)))) (.cons (.ret [] (.con (.bl false)))
  .nil) .nil)
  .nil)))
  (.cons (.ret [] (.con (.bl true)))
  .nil)))))))))))))⟩
noncomputable def P:Nat->Option FD:=fun n=>match n with
 | 3=>some d3
 | 4=>some d4
 | 5=>some d5
 | 6=>some d6
 | 7=>some d7
 | 8=>some d8
 | 9=>some d9
 | 10=>some d10
 | 20=>some d20
 | 46=>some d46
 | 47=>some FU
 | 48=>some d48
 | 129=>some EL
 | 130=>some EK
 | 131=>some EJ
 | 182=>some EI
 | 183=>some xo
 | 184=>some xm
 | 186=>some EH
 | 187=>some xl
 | 195=>some AT
 | 196=>some EG
 | 197=>some EF
 | 198=>some EE
 | 199=>some ED
 | 200=>some EC
 | 201=>some EB
 | 202=>some EA
 | 20000=>some ⟨1,1,.cons (.ret [] (.con .non)) .nil⟩
 | 20001=>some ⟨1,1,.cons (.ret [] (.call 20000 (.cons (.con .non) .nil))) .nil⟩
 | 20002=>some ⟨1,1,.cons (.ret [] (.call 20001 (.cons (.con .non) .nil))) .nil⟩
 | 20003=>some ⟨1,1,.cons (.ret [] (.call 20002 (.cons (.con .non) .nil))) .nil⟩
 | 20004=>some ⟨1,1,.cons (.ret [] (.call 20003 (.cons (.con .non) .nil))) .nil⟩
 | 20005=>some ⟨1,1,.cons (.ret [] (.call 20004 (.cons (.con .non) .nil))) .nil⟩
 | 20006=>some ⟨1,1,.cons (.ret [] (.call 20005 (.cons (.con .non) .nil))) .nil⟩
 | 20007=>some ⟨1,1,.cons (.ret [] (.call 20006 (.cons (.con .non) .nil))) .nil⟩
 | 20008=>some ⟨1,1,.cons (.ret [] (.call 20007 (.cons (.con .non) .nil))) .nil⟩
 | _=>none
end Law
namespace Law
open PySem IR L2
local macro_rules | `(tactic| walk_at "ev") => do
  let ids <- ("sc Option.bind_some Option.map_some Option.bind_none List.length_cons List.length_nil if_true if_false Nat.reduceAdd Nat.reduceSub List.map_cons List.map_nil List.replicate List.append_nil List.cons_append List.nil_append imm imms iM xX Dq Dm Do Dr Dp x8 Dw DH Ao List.getD_cons_zero List.getD_cons_succ at_0 at_1 yj cc cO ci cT cf cq cR cS cg ck cU cV cP cZ cY cQ cX cW vB vC z0z z14 vI vK vL vJ Br Bq A5 A6 A4 A7 br yb ya xE xC zr zp zn AL Dd Dg De iJ ly j3 mE AD tB xQ An Ah Aj Al Ak Ai Am EQ ER ES Ad Ab AZ AX List.set_cons_zero List.set_cons_succ Gp Ce Cg me yk vZ x5 xI yq yt yp yr EX Aq Ap yB yC uw ux uv mV DW DV vk mq EY yA CO ix_L ix_T ix_O ix_S eG dJ CA B7 CB CC B8 B9 qt qv qr qu lC qp eq_self decide_true decide_false o5 nG o4 o0 nF nD nE kz kx ky kw reduceCtorEq bne_self_eq_false beq_self_eq_true Bool.true_bne Bool.bne_true Bool.false_bne Bool.bne_false LN Nat.reduceLeDiff Nat.reduceLT Nat.reducePow Int.reduceLT Int.reduceLE Int.reducePow Int.reduceNeg Int.natAbs_one and_self true_and and_true or_true true_or reduceIte Bool.not_true Bool.not_false Bool.and_true Bool.or_true Bool.or_false Bool.true_or Bool.false_or Bool.true_and Bool.and_false Bool.false_and Bool.false_eq_true keeps kq nA List.getElem?_cons_zero List.getElem?_cons_succ".splitOn " ").toArray.mapM fun s => do
   let i := Lean.mkIdent s.toName
   `(Lean.Parser.Tactic.simpLemma| $i:ident)
  `(tactic| (try simp -implicitDefEqProofs only [$ids,*]))
local macro_rules | `(tactic| walk_at "go") => `(tactic| (walk_at "ev"; repeat (rw [Ix (by first | omega | assumption | decide)]; walk_at "ev")))
theorem c4(k:Nat)(ns:List Int)(j:Nat):aH P (k+1) 4 [.lst (ns.map .int),.int j]=some (.int (ns.getD j 0)):=by
 refine run rfl rfl ?_;simp only[d4,entry];walk_at "ev"
 by_cases h:j<ns.length
 ·have h1:(j:Int)<((ns.map PV.int).length:Nat):=by rw[Ik];omega
  have h2:dC (ns.map PV.int) (j:Int)=some (.int ns[j]):=bh (by rw[Iy,Iv h];rfl);simp only[h1,decide_true,Kp,h2];walk_at "ev";simp[h]
 ·have h1:¬(j:Int)<((ns.map PV.int).length:Nat):=by rw[Ik];omega
  simp only[h1,decide_false];walk_at "ev";simp[h]
theorem c5(k:Nat)(c j:Int)(h0:0<=j)(h1:j<=1000000):∃r:Int,0<=r/\r<2147483587/\aH P (k+1) 5 [.int c,.int j]=some (.int r):=by
 obtain⟨v,h,r,h2,h3,rfl⟩:∃v,aH P (k+1) 5 [.int c,.int j]=some v/\∃r:Int,0<=r/\r<2147483587/\v=.int r:=by
  refine oF rfl rfl ?_;simp only[d5,entry];walk_at "go";exact⟨_,rfl,_,Int.emod_nonneg _ (by decide),Ld _ (by decide),rfl⟩
 exact⟨r,h2,h3,h⟩
noncomputable def py(z:Str)(n:Nat):Prop:=z.length=n/\∀c∈z.cps.toList,c=120\/c=46
theorem py.more{z:Str}{n:Nat}(h:py z n){y:Str}(hy:y=("x":Str)\/y=(".":Str)):py (z++y) (n+1):=by
 refine⟨?_,fun c hc=> ?_⟩
 ·rw[PySem.Str.length_append,h.1]
  rcases hy with rfl|rfl<;>rfl
 ·rw[PySem.Str.cps_append,Array.toList_append,Jw]at hc
  rcases hc with hc|hc
  ·exact h.2 c hc
  ·rcases hy with rfl|rfl
   ·have:c∈[120]:=hc
    simp at this;exact .inl this
   ·have:c∈[46]:=hc
    simp at this;exact .inr this
noncomputable def pick(b:Bool):Str:=if b then "x" else "."
theorem zH(b:Bool):dC [PV.str ".",PV.str "x"] (if b then 1 else 0)=some (.str (pick b)):=by cases b<;>rfl
theorem wG(b:Bool):(pick b).length=1:=by cases b<;>rfl
theorem uE(b:Bool):pick b=("x":Str)\/pick b=(".":Str):=by cases b;exact .inr rfl;exact .inl rfl
theorem Cj{j:Int}(h0:0<=j)(h1:j<=100):(0:Int)<1*2^j.toNat/\(1:Int)*2^j.toNat<2^200:=by
 have hp:(0:Int)<2^j.toNat:=Int.pow_pos (by decide);refine⟨by omega,?_⟩;have h2:(2:Nat)^j.toNat<2^200:=Nat.pow_lt_pow_right (by decide) (by omega);rw[Int.one_mul]
 exact_mod_cast h2
noncomputable abbrev bI1(x c R C TH:Int)(m i:Nat)(τ:En):Prop:=∃(rs:List Str)(a b d e g:TV),τ=[.frz (.int x) true,.frz (.int c) true,.frz (.int m) true,.frz (.int R) true,.frz (.int C) true,.frz (.int TH) true,.own (rs.map .str) true,a,b,d,e,g]/\rs.length=i/\∀r∈rs,py r C.toNat
noncomputable abbrev bI2(x c R C TH:Int)(m:Nat)(rs:List Str)(i:Int)(j:Nat)(τ:En):Prop:=∃(z:Str)(d e g:TV),τ=[.frz (.int x) true,.frz (.int c) true,.frz (.int m) true,.frz (.int R) true,.frz (.int C) true,.frz (.int TH) true,.own (rs.map .str) true,.frz (.int i) true,.frz (.str z) true,d,e,g]/\py z j
theorem c6(k:Nat)(x c:Int)(m:Nat)(m1:1<=m)(m8:m<=8):∃v,aH P (k+2) 6 [.int x,.int c,.int m]=some v/\∃rows:List Str,UM.Ig m rows/\v=.tup (rows.map .str):=by
 have r1:0<=x%(m:Int):=Int.emod_nonneg _ (by omega);have r2:x%(m:Int)<m:=Ld _ (by omega);have q1:0<=x/8%(m:Int):=Int.emod_nonneg _ (by omega);have q2:x/8%(m:Int)<m:=Ld _ (by omega);have hm:(0:Int)<m:=by omega
 refine oF rfl rfl ?_;simp only[d6,entry];walk_at "go";obtain⟨R,hR⟩:∃R,R=1+x%(m:Int):=⟨_,rfl⟩;obtain⟨C,hC⟩:∃C,C=1+x/8%(m:Int):=⟨_,rfl⟩;obtain⟨TH,hT⟩:∃TH,TH=1+x/64%8:=⟨_,rfl⟩;rw[<- hR,<-hC,<-hT];refine bj (xs:=(List.range R.toNat).map fun i=>.int (0+(i:Nat))) (n:=true) ?_ (bI1 x c R C TH m) ?_ ?_ ?_
 ·walk_at "ev"
  simp only[io,br];rw[Ix ⟨by omega,by omega⟩];rfl
 ·exact⟨[],.un,.un,.un,.un,.un,rfl,rfl,fun r hr=>by cases hr⟩
 ·rintro i y τ hy ⟨rs,a,b,d,e,g,rfl,hl,hsg⟩
  obtain⟨hi,rfl⟩:=cE hy;refine⟨_,rfl,?_⟩;walk_at "ev";refine bj (xs:=(List.range C.toNat).map fun i=>.int (0+(i:Nat))) (n:=true) ?_ (bI2 x c R C TH m rs i) ?_ ?_ ?_
  ·walk_at "ev"
   simp only[io,br];rw[Ix ⟨by omega,by omega⟩];rfl
  ·exact⟨_,d,e,g,rfl,rfl,fun c hc=>by cases hc⟩
  ·rintro j y τ hy ⟨z,d,e,g,rfl,hz⟩
   obtain⟨hj,rfl⟩:=cE hy;refine⟨_,rfl,?_⟩;have hp:0<=C*(i:Int)+(j:Int)/\C*(i:Int)+(j:Int)<=100:=by
    have e1:(0:Int)<=C*(i:Int):=Int.mul_nonneg (by omega) (by omega);have e2:C*(i:Int)<=8*8:=Int.mul_le_mul (by omega) (by omega) (by omega) (by omega);omega
   have hz1:=hz.1;have hzL:∀b,z.length+(pick b).length<=LN:=fun b=>by rw[wG];show z.length+1<=16777216;omega
   have hp2:=Cj hp.1 hp.2;walk_at "go"
   have fin:∀(b:Bool)(τ:En),τ=[.frz (.int x) true,.frz (.int c) true,.frz (.int m) true,.frz (.int R) true,.frz (.int C) true,.frz (.int TH) true,.own (rs.map .str) true,.frz (.int i) true,.frz (.str z) true,.frz (.int j) true,.frz (.int (C*(i:Int)+(j:Int))) true,.frz (.bl b) true] ->
     To (bJ (aH P (k+1)) 1000000 (.cons (.asg 8 false [] (.bin .Add (.var 8) (.ix (.lst (.cons (.con (.str ".")) (.cons (.con (.str "x")) .nil))) (.bf .int (.cons (.var 11) .nil))))) .nil) τ) fun f=>match f with
      | .nx τ2=>bI2 x c R C TH m rs i (j+1) τ2
      | _=>False:=by
    rintro b τ rfl;have:=hzL b;walk_at "go";rw[zH];walk_at "go";exact⟨_,_,_,_,rfl,hz.more (uE b)⟩
   split
   ·obtain⟨q,b1,b2,e5⟩:=c5 k c (C*(i:Int)+(j:Int)) hp.1 (by omega)
    walk_at "ev";rw[e5];walk_at "go";refine(fin _ _ rfl).imp fun f h=> ?_;cases f<;>first|exact h|exact h.elim
   ·walk_at "ev"
    refine(fin _ _ rfl).imp fun f h=> ?_;cases f<;>first|exact h|exact h.elim
  ·rintro τ ⟨z,d,e,g,rfl,hz⟩
   rw[i6]at hz;walk_at "ev";rw[cF rfl (by rw[Ik];show rs.length<16777216;omega)];walk_at "ev";refine⟨rs++[z],_,_,_,_,_,by rw[JQ];rfl,by rw[JA,hl];rfl,fun r hr=> ?_⟩
   rcases Jw.mp hr with h|h
   ·exact hsg r h
   ·have e' :r=z:=by simpa using h
    rw[e'];exact hz
 ·rintro τ ⟨rs,a,b,d,e,g,rfl,hl,hsg⟩
  rw[i6]at hl;walk_at "ev";refine⟨_,rfl,rs,⟨?_,by omega,⟨C.toNat,by omega,by omega,fun r hr=>(hsg r hr).1⟩,fun r hr=>(hsg r hr).2⟩,rfl⟩;intro z;rw[z]at hl;simp at hl;omega
theorem c8(k:Nat)(i:Int):aH P (k+1) 8 [.int i]=some (.bl true):=by
 refine run rfl rfl ?_;simp only[d8,entry];walk_at "ev"
noncomputable def plain:PV->Bool
 | .non=>true| .int _=>true| .str _=>true
 | .lst xs=>plains xs
 | .tup xs=>plains xs
 | _=>false
where plains:List PV->Bool
 | []=>true
 | x::xs=>plain x&&plains xs
noncomputable def depth:PV->Nat
 | .lst xs=>depths xs+1
 | .tup xs=>depths xs+1
 | _=>1
where depths:List PV->Nat
 | []=>0
 | x::xs=>max (depth x) (depths xs)
theorem jk:∀{xs:List PV}{x:PV},plain.plains xs=true->x∈xs->plain x=true
 | [],_,_,h=>by cases h
 | y::ys,x,h,hx=>by
  rw[plain.plains,Iu]at h
  rcases JD.mp hx with rfl|hx
  ·exact h.1
  ·exact jk h.2 hx
theorem kA:∀{xs:List PV}{x:PV},x∈xs->depth x<=depth.depths xs
 | [],_,h=>by cases h
 | y::ys,x,hx=>by
  rw[depth.depths]
  rcases JD.mp hx with rfl|hx
  ·exact Nat.le_max_left _ _
  ·exact JO (kA hx) (Nat.le_max_right _ _)
theorem c10(k:Nat)(xs:List PV)(h:∀x∈xs,aH P k 9 [x,x]=some (.bl true)):aH P (k+1) 10 [.lst xs,.lst xs]=some (.bl true):=by
 refine bV rfl rfl ?_;simp only[d10,entry];walk_at "ev";refine bj (xs:=List.zipWith sM xs xs) (n:=false) ?_ (fun i τ=>∃a b,τ=[.frz (.lst xs) false,.frz (.lst xs) false,a,b]) ⟨_,_,rfl⟩ ?_ ?_
 ·walk_at "ev"
  simp only[vH,uT,Kp,J0];rfl
 ·rintro i y τ hy ⟨a,b,rfl⟩
  rw[KF]at hy;cases e:xs[i]? with
  | none=>rw[e]at hy;cases hy
  | some x =>
   rw[e]at hy;cases hy;refine⟨_,rfl,?_⟩;walk_at "ev";rw[h x (JL e)];walk_at "ev";exact⟨_,_,rfl⟩
 ·rintro τ ⟨a,b,rfl⟩
  walk_at "ev"
theorem c9(n k:Nat)(v:PV)(hd:depth v<=n)(hp:plain v=true):aH P (2*n+k) 9 [v,v]=some (.bl true):=by
 induction n generalizing v with
 | zero =>
  cases v with
  | non=>(simp[depth]at hd)
  | bl b=>cases hp
  | int i=>(simp[depth]at hd)
  | str z=>(simp[depth]at hd)
  | lst xs=>(simp[depth]at hd)
  | tup xs=>(simp[depth]at hd)
  | dK _ _=>cases hp
  | dT _ _=>cases hp
 | succ n ih =>
  have e:2*(n+1)+k=(2*n+k+1)+1:=by omega
  rw[e];have inner:∀xs:List PV,depth.depths xs<=n->plain.plains xs=true->aH P (2*n+k+1) 10 [.lst xs,.lst xs]=some (.bl true):=fun xs h1 h2=>c10 _ xs fun x hx=>ih x (JO (kA hx) h1) (jk h2 hx);refine run rfl rfl ?_;cases v with
  | non =>
   simp only[d9,entry];walk_at "ev"
  | bl b=>cases hp
  | int i =>
   simp only[d9,entry];walk_at "ev";rw[c8];walk_at "ev"
  | str z =>
   simp only[d9,entry];walk_at "ev"
  | lst xs =>
   simp only[d9,entry];walk_at "ev";rw[inner xs (by simpa [depth]using hd) (by simpa [plain]using hp)];walk_at "ev"
  | tup xs =>
   simp only[d9,entry];walk_at "ev";rw[inner xs (by simpa [depth]using hd) (by simpa [plain]using hp)];walk_at "ev"
  | dK _ _=>cases hp
  | dT _ _=>cases hp
noncomputable def aV(i j:Nat):PV:=.tup [.int (i:Nat),.int (j:Nat)]
noncomputable def fP(rows:List Str)(i j:Nat):List PV:=((List.range j).filter fun c=>cd rows i c==120).map fun c=>aV i c
noncomputable def fZ(rows:List Str)(w i:Nat):List PV:=(List.range i).flatMap fun r=>fP rows r w
theorem lb(rows:List Str)(i j:Nat):fP rows i (j+1)=fP rows i j++(if cd rows i j==120 then[aV i j]else[]):=by
 unfold fP;rw[K2,KU,JQ];cases h:cd rows i j==120<;>simp[h]
theorem iX(rows:List Str)(w i:Nat):fZ rows w (i+1)=fZ rows w i++fP rows i w:=by
 unfold fZ;rw[K2,LY];simp
theorem jg(rows:List Str)(i j:Nat):(fP rows i j).length<=j:=by
 unfold fP;rw[Ik];exact JO (Jc _ _) (by rw[JU];exact Io _)
theorem kO(rows:List Str)(w:Nat):∀i,(fZ rows w i).length<=i*w
 | 0=>by simp[fZ]
 | i+1=>by
  rw[iX,JA,Nat.succ_mul];have:=kO rows w i;have:=jg rows i w;omega
theorem vX{rows:List Str}{i:Nat}{z:Str}(h:rows[i]? =some z):dC (rows.map PV.str) (i:Int)=some (.str z):=bh (by rw[Iy,h];rfl)
theorem c7(k:Nat)(rows:List Str)(w:Nat)(hw:Wd rows w)(h0:rows≠[])(h8:rows.length<=8)(w8:w<=8):aH P (k+1) 7 [.tup (rows.map .str)]=some (.lst (fZ rows w rows.length)):=by
 refine bV rfl rfl ?_;have im:=xL rows;have ims:=cK rows;simp only[d7,entry];walk_at "go";obtain⟨z0,hz0⟩:∃z,rows[0]? =some z:=by
  cases rows with
  | nil=>exact absurd rfl h0
  | cons z r=>exact⟨z,rfl⟩
 have l0:z0.length=w:=hw z0 (JL hz0);have a0:dC (rows.map PV.str) 0=some (.str z0):=vX (i:=0) hz0;rw[ims];refine bj (xs:=(List.range rows.length).map fun i=>.int (0+(i:Nat))) (n:=true) ?_ (fun i τ=>∃a b,τ=[.frz (.tup (rows.map .str)) true,.own (fZ rows w i) true,a,b]) ⟨_,_,rfl⟩ ?_ ?_
 ·walk_at "ev"
  simp only[io,br,Ik];rw[Ix ⟨by omega,by omega⟩];rfl
 ·rintro i y τ hy ⟨a,b,rfl⟩
  obtain⟨hi,rfl⟩:=cE hy;refine⟨_,rfl,?_⟩;walk_at "ev";refine bj (xs:=(List.range w).map fun i=>.int (0+(i:Nat))) (n:=true) ?_ (fun j τ=>∃b,τ=[.frz (.tup (rows.map .str)) true,.own (fZ rows w i++fP rows i j) true,.frz (.int i) true,b]) ⟨b,by simp[fP,j3]⟩ ?_ ?_
  ·walk_at "ev"
   rw[a0];walk_at "ev";rw[len_str,Ix (by rw[l0];show w<=16777216;omega)];walk_at "ev";simp only[io,br,l0];rw[Ix ⟨by omega,by omega⟩];rfl
  ·rintro j y τ hy ⟨b,rfl⟩
   obtain⟨hj,rfl⟩:=cE hy;refine⟨_,rfl,?_⟩;obtain⟨z,g1,g2,g3⟩:=Bh hw hi hj;walk_at "ev";rw[vX g1];walk_at "ev";rw[Ix (by rw[g3];show w<=16777216;omega),bh g2];walk_at "ev";rw[rA];have hlen:(fZ rows w i++fP rows i j).length<LN:=by
    rw[JA];have e1:=kO rows w i;have e2:=jg rows i j;have e3:i*w<=8*8:=Nat.mul_le_mul (by omega) w8;show _<16777216;omega
   have rs:=lb rows i j;cases hc:cd rows i j==120 with
   | true =>
    rw[hc]at rs;walk_at "go";rw[cF rfl hlen];walk_at "ev";exact⟨.frz (.int j) true,by rw[rs];simp[aV]⟩
   | false =>
    rw[hc]at rs;walk_at "ev";exact⟨.frz (.int j) true,by rw[rs];simp⟩
  ·rintro τ ⟨b,rfl⟩
   rw[i6];walk_at "ev";exact⟨_,_,by rw[iX]⟩
 ·rintro τ ⟨a,b,rfl⟩
  rw[i6];walk_at "ev"
theorem fY(rows:List Str)(w:Nat)(hw:Wd rows w):fZ rows w rows.length=(aC rows).map fun c=>aV c.1 c.2:=by
 have key:∀(l:List Str)(i:Nat)(pre:List Str),pre.length=i->rows=pre++l->((List.range l.length).map (i+·)).flatMap (fun r=>fP rows r w)=(ay i (l.map kD)).map fun c=>aV c.1 c.2:=by
  intro l
  induction l with
  | nil=>intro i pre _ _;rfl
  | cons z l ih =>
   intro i pre hp hr;have hz:rows[i]? =some z:=by rw[hr,Jv (by omega),hp,Nat.sub_self];rfl
   have hzl:z.length=w:=hw z (JL hz);rw[JI,List.range_succ_eq_map,JH,List.flatMap_cons,Jf,JH,ay,JQ]
   congr 1
   ·unfold fP eI kD
    rw[Jf,Nat.add_zero,hzl];have e:∀c,cd rows i c=z.cps.toList.getD c 0:=fun c=>by
     have g:rows.getD i ⟨#[]⟩=z:=by rw[JG,hz];rfl
     unfold cd;rw[g]
    have e2:(fun c=>cd rows i c==120)=fun c=>z.cps.toList.getD c 0==120:=by funext c;rw[e]
    rw[e2];rfl
   ·have:=ih (i+1) (pre++[z]) (by simp[hp]) (by rw[hr];simp)
    rw[<- this]
    congr 1
    refine Jj fun x _=> ?_;show i+(x+1)=i+1+x;omega
 have:=key rows 0 [] rfl rfl;unfold aC;rw[<- this];unfold fZ;simp
theorem CW{rows:List Str}{i:Nat}{x:PV}(hx:(rows.map PV.str)[i]? =some x):∃z,rows[i]? =some z/\z∈rows/\x=.str z:=by
 rw[Iy]at hx;cases e:rows[i]? with
 | none=>rw[e]at hx;cases hx
 | some z =>
  rw[e]at hx;exact⟨z,rfl,JL e,(JF hx).symm⟩
theorem c3(k:Nat)(rows:List Str)(w:Nat)(hw:Wd rows w)(h8:rows.length<=8)(w8:w<=8):aH P (k+1) 3 [.tup (rows.map .str)]=some (.lst (fZ rows w rows.length)):=by
 refine bV rfl rfl ?_;have ims:=cK rows;simp only[d3,entry];walk_at "go";rw[ims];refine bj (xs:=List.zipWith eC (List.range (rows.map PV.str).length) (rows.map PV.str)) (n:=true) ?_ (fun i τ=>∃a b c d,τ=[.frz (.tup (rows.map .str)) true,.own (fZ rows w i) true,a,b,c,d]) ⟨_,_,_,_,rfl⟩ ?_ ?_
 ·walk_at "ev"
  rfl
 ·rintro i y τ hy ⟨a,b,c,d,rfl⟩
  obtain⟨y,hy2,rfl⟩:=tH hy;obtain⟨z,hz,hm,rfl⟩:=CW hy2;refine⟨_,rfl,?_⟩;have hi:i<rows.length:=(Iw.mp hz).1;have hzl:z.length=w:=hw z hm;walk_at "ev";have hsl:(signs z).length=w:=by rw[cA];exact hzl
  refine bj (xs:=List.zipWith eC (List.range (signs z).length) (signs z)) (n:=true) ?_ (fun j τ=>∃c d,τ=[.frz (.tup (rows.map .str)) true,.own (fZ rows w i++fP rows i j) true,.frz (.int i) true,.frz (.str z) true,c,d]) ⟨c,d,by simp[fP,j3,mE,xQ,tB]⟩ ?_ ?_
  ·walk_at "ev"
   simp only[mJ,J0];rw[hsl,hzl]
  ·rintro j y τ hy ⟨c,d,rfl⟩
   obtain⟨y,hy1,rfl⟩:=tH hy;have hj:j<w:=by
    have:=(Iw.mp hy1).1;omega
   obtain⟨z',g1,g2,g3⟩:=Bh hw hi hj;rw[hz]at g1;cases g1;have hy2:(signs z)[j]? =some (.str ⟨#[cd rows i j]⟩):=by
    unfold signs;rw[Iy,g2];rfl
   rw[hy2]at hy1;cases hy1;refine⟨_,rfl,?_⟩;walk_at "ev";rw[rA];have hlen:(fZ rows w i++fP rows i j).length<LN:=by
    rw[JA];have e1:=kO rows w i;have e2:=jg rows i j;have e3:i*w<=8*8:=Nat.mul_le_mul (by omega) w8;show _<16777216;omega
   have rs:=lb rows i j;cases hc:cd rows i j==120 with
   | true =>
    rw[hc]at rs;walk_at "go";rw[cF rfl hlen];walk_at "ev";exact⟨.frz (.int j) true,.frz (.str ⟨#[cd rows i j]⟩) true,by rw[rs];simp[aV]⟩
   | false =>
    rw[hc]at rs;walk_at "ev";exact⟨.frz (.int j) true,.frz (.str ⟨#[cd rows i j]⟩) true,by rw[rs];simp⟩
  ·rintro τ ⟨c,d,rfl⟩
   rw[pN,hsl];walk_at "ev";exact⟨_,_,_,_,by rw[iX]⟩
 ·rintro τ ⟨a,b,c,d,rfl⟩
  rw[pN,Ik];walk_at "ev"
noncomputable def y4(a b:Int):PV:=.tup [.int a,.int b]
theorem Hn(k:Nat)(a b c d:Int):aH P (k+1) 129 [y4 a b,y4 c d]=some (.bl (decide (a=c)||decide (b=d))):=by
 refine bV rfl rfl ?_;simp only[EL,entry,y4];walk_at "ev"
 by_cases h:a=c
 ·rw[JP h]
  walk_at "ev"
 ·rw[JK h]
  walk_at "ev"
theorem Hm(k:Nat)(a b c d:Int):aH P (k+1) 130 [y4 a b,y4 c d]=some (.bl (aslt a b c d)):=by
 refine bV rfl rfl ?_;simp only[EK,entry,y4];walk_at "ev";rfl
theorem c131(k j:Nat)(a b c d:Int):aH P (k+2) 131 [.str (aN j),y4 a b,y4 c d]=some (.bl (stk j a b c d)):=by
 refine bV rfl rfl ?_;simp only[EJ,entry];unfold aN stk
 by_cases h0:j=0
 ·subst h0
  simp only[Kp];walk_at "ev";rw[Hn];walk_at "ev"
 ·rw[Iq h0,Iq h0]
  by_cases h1:j=1
  ·subst h1
   simp only[Kp];walk_at "ev";rw[show decide ((Str.ofString "aslant")=(Str.ofString "straight"))=false from by decide];walk_at "ev";rw[Hm];walk_at "ev"
  ·rw[Iq h1,Iq h1]
   walk_at "ev";rw[show decide ((Str.ofString "all")=(Str.ofString "straight"))=false from by decide];walk_at "ev";rw[show decide ((Str.ofString "all")=(Str.ofString "aslant"))=false from by decide];walk_at "ev";rw[Hn];walk_at "ev";cases h:(decide (a=c)||decide (b=d))
   ·walk_at "ev"
    rw[Hm];walk_at "ev"
   ·walk_at "ev"
noncomputable def aB(l:List aG):List PV:=l.map fun c=>aV c.1 c.2
theorem aw(l:List aG):imms (aB l)=true:=pB (fun _=>rfl) l
theorem c182(k j:Nat)(c:aG)(l:List aG)(hl:l.length<=1000):aH P (k+3) 182 [.str (aN j),aV c.1 c.2,.lst (aB l)]=some (.lst (aB (l.filter fun x=> !SK j c x))):=by
 refine bV rfl rfl ?_;simp only[EI,entry];walk_at "ev";unfold aB;rw[Ix (by rw[Ik];omega)];rw[cL (p:=fun y=> !SK j c y) (g:=fun c:aG=>aV c.1 c.2) (fun y hy=>by
  have e:=c131 k j (c.1:Nat) (c.2:Nat) (y.1:Nat) (y.2:Nat);unfold y4 at e;unfold aV;walk_at "ev";rw[e];walk_at "ev";unfold SK;cases stk j (c.1:Nat) (c.2:Nat) (y.1:Nat) (y.2:Nat)
  ·walk_at "ev"
  ·walk_at "ev")]
 walk_at "ev"
noncomputable def gx(p:List aG):PV:=.tup (aB p)
noncomputable def dz(x:List aG×List aG):PV:=.tup [gx x.1,.lst (aB x.2)]
noncomputable def sY(lev:List (List aG×List aG)):PV:=.lst (lev.map dz)
theorem jF(j:Nat)(p:List aG):∀l:List aG,(ext (SK j) p l).length=l.length
 | []=>rfl
 | c::l=>by
  show(ext (SK j) p l).length+1=_;rw[jF j p l];rfl
theorem xW(j:Nat)(p:List aG):∀(l:List aG)(m:Nat)(c:aG),l[m]? =some c->(ext (SK j) p l)[m]? =some (p++[c],(l.drop (m+1)).filter fun x=> !SK j c x)
 | a::l,0,c,h=>by
  have h:some a=some c:=by simpa using h
  cases h;rfl
 | a::l,m+1,c,h=>by
  have h:l[m]? =some c:=by simpa using h
  show(ext (SK j) p l)[m]? =_;rw[xW j p l m c h];rfl
theorem iz{α:Type}{l:List α}{m:Nat}{x:α}(h:l[m]? =some x):l.take (m+1)=l.take m++[x]:=by
 rw[Kq,h];rfl
theorem re(j:Nat)(lev:List (List aG×List aG))(i:Nat)(x:List aG×List aG)(h:lev[i]? =some x):up (SK j) (lev.take (i+1))=up (SK j) (lev.take i)++ext (SK j) x.1 x.2:=by
 rw[iz h];unfold up;rw[LY];simp
theorem wo{lev:List (List aG×List aG)}{i:Nat}{y:PV}(h:(lev.map dz)[i]? =some y):∃x,lev[i]? =some x/\y=dz x:=by
 rw[Iy]at h;obtain⟨x,hx,rfl⟩:=map_some h;exact⟨x,hx,rfl⟩
theorem zd{l:List aG}{m:Nat}{y:PV}(h:(List.zipWith eC (List.range (aB l).length) (aB l))[m]? =some y):∃c,l[m]? =some c/\y=.tup [.int (m:Nat),aV c.1 c.2]:=by
 rw[KF]at h;cases hm:l[m]? with
 | none =>
  have:(aB l)[m]? =none:=by unfold aB;rw[Iy,hm];rfl
  rw[this]at h
  generalize (List.range (aB l).length)[m]? =o at h
  cases o<;>cases h
 | some c =>
  have e:(aB l)[m]? =some (aV c.1 c.2):=by unfold aB;rw[Iy,hm];rfl
  have hl:m<(aB l).length:=(Iw.mp e).1;rw[e,Jk hl]at h;exact⟨c,rfl,(JF h).symm⟩
theorem G9{o:Option Fl}{τ:En}(h:To (o.bind fun f=>dE f fun τ=>some (.nx τ)) (fun f=>f=.nx τ)):o=some (.nx τ):=by
 obtain⟨f,h1,h2⟩:=h;subst h2;cases o with
 | none=>cases h1
 | some g =>
  cases g with
  | nx τ2=>exact h1
  | bk τ2=>cases h1
  | ct τ2=>cases h1
  | rt v=>cases h1
theorem pT{α:Type}(xs:List α)(m:Nat):cut xs (some ((m:Nat):Int)) none=xs.drop m:=by
 unfold cut;rw[HT.jf,HT.i5]
 by_cases h:m<=xs.length
 ·rw[Nat.min_eq_left h,KN (by rw[LQ];omega)]
 ·rw[Nat.min_eq_right (by omega),LC (Io _),LC (by omega),List.take_nil]
theorem sL(p:List aG)(c:aG):aB p++[aV c.1 c.2]=aB (p++[c]):=by
 unfold aB;rw[JQ];rfl
theorem x9(p:List aG)(c:aG)(hp:p.length<=1000):cN .Add (.frz (gx p) true) (.frz (.tup [aV c.1 c.2]) true)=some (.frz (gx (p++[c])) true):=by
 show nA (aB p++[aV c.1 c.2]) (true&&true)=_;rw[sL];unfold nA;rw[Ix (by unfold aB;rw[Ik,JA];show _+1<=16777216;omega)];rfl
theorem o8(k j:Nat)(fu:Nat)(p l:List aG)(base:List PV)(lev rm:PV)(a6 a7:TV)(hl:l.length<=64)(hp:p.length<=1000)(hb:base.length<=100000) :
  ∃a b,cB (aH P (k+3)) fu (.forr [6,7] false [5] (.enum (.var 5)) (.cons (.app 3 [] (.tup (.cons (.bin .Add (.var 4) (.tup (.cons (.var 7) .nil))) (.cons (.call 182 (.cons (.var 0) (.cons (.var 7) (.cons (.sl (.var 5) (.yes (.bin .Add (.var 6) (.con (.int 1)))) .no) .nil)))) .nil)))) .nil))
   [.frz (.str (aN j)) true,.frz lev false,.frz rm true,.own base true,.frz (gx p) true,.frz (.lst (aB l)) false,a6,a7] =
   some (.nx [.frz (.str (aN j)) true,.frz lev false,.frz rm true,.own (base++(ext (SK j) p l).map dz) true,.frz (gx p) true,.frz (.lst (aB l)) false,a,b]):=by
 have key:To ((cB (aH P (k+3)) fu (.forr [6,7] false [5] (.enum (.var 5)) (.cons (.app 3 [] (.tup (.cons (.bin .Add (.var 4) (.tup (.cons (.var 7) .nil))) (.cons (.call 182 (.cons (.var 0) (.cons (.var 7) (.cons (.sl (.var 5) (.yes (.bin .Add (.var 6) (.con (.int 1)))) .no) .nil)))) .nil)))) .nil))
   [.frz (.str (aN j)) true,.frz lev false,.frz rm true,.own base true,.frz (gx p) true,.frz (.lst (aB l)) false,a6,a7]).bind fun f=>dE f fun τ=>some (.nx τ))
   (fun f=>∃a b,f=.nx [.frz (.str (aN j)) true,.frz lev false,.frz rm true,.own (base++(ext (SK j) p l).map dz) true,.frz (gx p) true,.frz (.lst (aB l)) false,a,b]):=by
  have len:(List.zipWith eC (List.range (aB l).length) (aB l)).length=l.length:=by
   rw[Kj,JU,Kz];unfold aB;rw[Ik]
  refine bj (xs:=List.zipWith eC (List.range (aB l).length) (aB l)) (n:=false) ?_
   (fun m τ=>∃a b,τ=[.frz (.str (aN j)) true,.frz lev false,.frz rm true,.own (base++((ext (SK j) p l).take m).map dz) true,.frz (gx p) true,.frz (.lst (aB l)) false,a,b]) ⟨a6,a7,?_⟩ ?_ ?_
  ·walk_at "ev"
  ·walk_at "ev"
   simp
  ·rintro m y τ hy ⟨a,b,rfl⟩
   obtain⟨c,hc,rfl⟩:=zd hy;have hm:m<l.length:=(Iw.mp hc).1;have e182:=c182 k j c (l.drop (m+1)) (by rw[LQ];omega);refine⟨_,rfl,?_⟩;have ic:imm (aV c.1 c.2)=true:=rfl;have im:imms (aB l)=true:=aw l;walk_at "ev";rw[ic,x9 p c hp,df,show((m:Nat):Int)+1=((m+1:Nat):Int)from rfl,pT,im];walk_at "ev";rw[show(aB l).drop (m+1)=aB (l.drop (m+1))by unfold aB;rw[List.map_drop],e182];walk_at "go"
   rw[cF (xs:=base++((ext (SK j) p l).take m).map dz) (n:=true) rfl (by
    have z:((ext (SK j) p l).take m).length<=64:=by rw[JS,jF];omega
    rw[JA,Ik];show _<16777216;omega)]
   walk_at "ev";refine⟨.frz (.int (m:Nat)) true,.frz (aV c.1 c.2) true,?_⟩;rw[iz (xW j p l m c hc),JQ,LD];rfl
  ·rintro τ ⟨a,b,rfl⟩
   rw[len,<-jF j p l,Jq];exact⟨_,rfl,a,b,rfl⟩
 obtain⟨f,h1,a,b,h2⟩:=key;exact⟨a,b,G9 ⟨f,h1,h2⟩⟩
theorem vS(j:Nat)(lev:List (List aG×List aG))(h:∀x∈lev,x.2.length<=64):(up (SK j) lev).length<=lev.length*64:=by
 induction lev with
 | nil=>exact JR _
 | cons x lev ih =>
  have e:up (SK j) (x::lev)=ext (SK j) x.1 x.2++up (SK j) lev:=rfl;have:=ih fun y hy=>h y (Im _ hy);have:=h x Ip;rw[e,JA,jF,JI];omega
structure FH(lev:List (List aG×List aG)):Prop where
 fr:∀x∈lev,x.2.length<=64
 pl:∀x∈lev,x.1.length<=100
 few:lev.length<=1000
theorem yf(j:Nat)(lev:List (List aG×List aG))(i:Nat):(up (SK j) (lev.take i)).length<=(up (SK j) lev).length:=by
 have e:up (SK j) lev=up (SK j) (lev.take i)++up (SK j) (lev.drop i):=by
  unfold up;rw[<- LY,List.take_append_drop]
 rw[e,JA];omega
theorem Hl(k j:Nat)(lev:List (List aG×List aG))(room:Nat)(ok:FH lev)(h:(up (SK j) lev).length<=room):aH P (k+4) 183 [.str (aN j),sY lev,.int (room:Nat)]=some (sY (up (SK j) lev)):=by
 refine bV rfl rfl ?_;simp only[xo,entry,sY];have iml:imm (PV.lst (lev.map dz))=false:=rfl;walk_at "ev";refine bj (xs:=lev.map dz) (n:=false) ?_ (fun i τ=>∃a b c d,τ=[.frz (.str (aN j)) true,.frz (.lst (lev.map dz)) false,.frz (.int (room:Nat)) true,.own ((up (SK j) (lev.take i)).map dz) true,a,b,c,d]) ⟨_,_,_,_,rfl⟩ ?_ ?_
 ·walk_at "ev"
 ·rintro i y τ hy ⟨a,b,c,d,rfl⟩
  obtain⟨x,hx,rfl⟩:=wo hy;have hm:=JL hx;refine⟨_,rfl,?_⟩
  obtain⟨a6,a7,e⟩:=o8 k j 1000000 x.1 x.2 ((up (SK j) (lev.take i)).map dz) (.lst (lev.map dz)) (.int (room:Nat)) c d (ok.fr x hm) (JO (ok.pl x hm) (by decide)) (by
   have:=vS j (lev.take i) fun y hy=>ok.fr y (Kw hy);have:=ok.few;have:(lev.take i).length<=1000:=by rw[JS];omega
   rw[Ik];omega)
  have ip:imm (gx x.1)=true:=aw x.1;show To (bJ _ _ _ [.frz (.str (aN j)) true,.frz (.lst (lev.map dz)) false,.frz (.int (room:Nat)) true,.own ((up (SK j) (lev.take i)).map dz) true,.frz (gx x.1) (false||imm (gx x.1)),.frz (.lst (aB x.2)) false,c,d]) _;rw[ip,Lq,iM,e,<-JQ,<-re j lev i x hx];walk_at "ev";have:=yf j lev (i+1);rw[Ik,JK (show¬(room:Int)<((up (SK j) (lev.take (i+1))).length:Nat)by omega)];walk_at "ev";exact⟨_,_,_,_,rfl⟩
 ·rintro τ ⟨a,b,c,d,rfl⟩
  rw[Ik,Jq];walk_at "ev"
theorem j8(f:Nat->Nat)(r:Nat)(h0:f 0<=r):∀n:Nat,(∀i,i<=n->f i<=r)\/∃j,j<n/\(∀i,i<=j->f i<=r)/\r<f (j+1)
 | 0=>.inl fun i hi=>by rw[show i=0 by omega];exact h0
 | n+1=>by
  rcases j8 f r h0 n with a|⟨j,h1,h2,h3⟩
  ·by_cases q:f (n+1)<=r
   ·exact .inl fun i hi=>by
     by_cases e:i=n+1
     ·rw[e];exact q
     ·exact a i (by omega)
   ·exact .inr ⟨n,by omega,a,by omega⟩
  ·exact .inr ⟨j,by omega,h2,h3⟩
theorem nN{set:PV->En->Option En}{bx:En->Bool}{bd:En->Option Fl}(I:Nat->En->Prop):∀(n:Nat)(xs:List PV)(τ:En),n<xs.length->I 0 τ ->
  (∀i y τ,i<n->xs[i]? =some y->I i τ->∃τ1 τ2,set y τ=some τ1/\bd τ1=some (.nx τ2)/\I (i+1) τ2)->(∀y τ,xs[n]? =some y->I n τ->∃τ1,set y τ=some τ1/\bx τ1=true)->forX set bx bd xs τ=true
 | n,[],τ,h,_,_,_=>absurd h (Nat.not_lt_zero _)
 | 0,x::xs,τ,h,i0,_,last=>by
  obtain⟨τ1,h1,h2⟩:=last x τ rfl i0;unfold forX;rw[h1];show(bx τ1||_)=true;rw[h2];rfl
 | n+1,x::xs,τ,h,i0,st,last=>by
  obtain⟨τ1,τ2,h1,h2,h3⟩:=st 0 x τ (by omega) rfl i0;unfold forX;rw[h1];show(bx τ1||_)=true;rw[h2];show(bx τ1||forX set bx bd xs τ2)=true;rw[nN (fun i τ=>I (i+1) τ) n xs τ2 (by simpa using h) h3 (fun i y τ hi hy hI=>st (i+1) y τ (by omega) (by simpa using hy) hI) (fun y τ hy hI=>last y τ (by simpa using hy) hI),Lb]
theorem A8{cd:Nat->List PV->Option PV}{xd:Nat->List PV->Bool}{fu:Nat}{cn:Str}{τ:En}{is cap:List Nat}{one n:Bool}{src:IT}{body:ng}{xs:List PV}(ht:lB cd src (av cap τ)=some (xs,n,false))
  (h:forX (eG is one n) (fun τ=>evXs cd xd fu cn body τ) (fun τ=>bJ cd fu body τ) xs (av cap τ)=true):ie cd xd fu cn (.forr is one cap src body) τ=true:=by
 rw[ie,ht];exact h
theorem x183(k j:Nat)(lev:List (List aG×List aG))(room:Nat)(ok:FH lev)(h:room<(up (SK j) lev).length):xD P "TooGreat" (k+4) 183 [.str (aN j),sY lev,.int (room:Nat)]=true:=by
 refine A9 (d:=xo) rfl rfl ?_;simp only[xo,entry,sY];obtain⟨m,m1,m2,m3⟩:∃m,m<lev.length/\(∀i,i<=m->(up (SK j) (lev.take i)).length<=room)/\room<(up (SK j) (lev.take (m+1))).length:=by
  rcases j8 (fun i=>(up (SK j) (lev.take i)).length) room (by simp[up]) lev.length with a|b
  ·have:=a lev.length (Io _)
   simp only[Jq]at this;omega
  ·exact b
 have inn:∀(i:Nat)(x:List aG×List aG)(c d:TV),lev[i]? =some x->∃a b,cB (aH P (k+3)) 1000000 (.forr [6,7] false [5] (.enum (.var 5)) (.cons (.app 3 [] (.tup (.cons (.bin .Add (.var 4) (.tup (.cons (.var 7) .nil))) (.cons (.call 182 (.cons (.var 0) (.cons (.var 7) (.cons (.sl (.var 5) (.yes (.bin .Add (.var 6) (.con (.int 1)))) .no) .nil)))) .nil)))) .nil))
   [.frz (.str (aN j)) true,.frz (.lst (lev.map dz)) false,.frz (.int (room:Nat)) true,.own ((up (SK j) (lev.take i)).map dz) true,.frz (gx x.1) true,.frz (.lst (aB x.2)) false,c,d] =
   some (.nx [.frz (.str (aN j)) true,.frz (.lst (lev.map dz)) false,.frz (.int (room:Nat)) true,.own ((up (SK j) (lev.take (i+1))).map dz) true,.frz (gx x.1) true,.frz (.lst (aB x.2)) false,a,b]):=fun i x c d hx=>by
  have hm:=JL hx
  obtain⟨a6,a7,e⟩:=o8 k j 1000000 x.1 x.2 ((up (SK j) (lev.take i)).map dz) (.lst (lev.map dz)) (.int (room:Nat)) c d (ok.fr x hm) (JO (ok.pl x hm) (by decide)) (by
   have:=vS j (lev.take i) fun y hy=>ok.fr y (Kw hy);have:=ok.few;have:(lev.take i).length<=1000:=by rw[JS];omega
   rw[Ik];omega)
  rw[<- JQ,<-re j lev i x hx]at e;exact⟨a6,a7,e⟩
 refine iw (τ1:=[.frz (.str (aN j)) true,.frz (.lst (lev.map dz)) false,.frz (.int (room:Nat)) true,.own [] true,.un,.un,.un,.un]) rfl (by walk_at "ev") ?_;refine gP rfl (A8 (xs:=lev.map dz) (n:=false) (by walk_at "ev") ?_);refine nN (fun i τ=>∃a b c d,τ=[.frz (.str (aN j)) true,.frz (.lst (lev.map dz)) false,.frz (.int (room:Nat)) true,.own ((up (SK j) (lev.take i)).map dz) true,a,b,c,d]) m _ _ (by rw[Ik];exact m1) ⟨_,_,_,_,rfl⟩ ?_ ?_
 ·rintro i y τ hi hy ⟨a,b,c,d,rfl⟩
  obtain⟨x,hx,rfl⟩:=wo hy;have ip:imm (gx x.1)=true:=aw x.1;obtain⟨a6,a7,e⟩:=inn i x c d hx
  refine⟨[.frz (.str (aN j)) true,.frz (.lst (lev.map dz)) false,.frz (.int (room:Nat)) true,.own ((up (SK j) (lev.take i)).map dz) true,.frz (gx x.1) true,.frz (.lst (aB x.2)) false,c,d],
   [.frz (.str (aN j)) true,.frz (.lst (lev.map dz)) false,.frz (.int (room:Nat)) true,.own ((up (SK j) (lev.take (i+1))).map dz) true,.frz (gx x.1) true,.frz (.lst (aB x.2)) false,a6,a7],?_,?_,⟨_,_,_,_,rfl⟩⟩
  ·show some [.frz (.str (aN j)) true,.frz (.lst (lev.map dz)) false,.frz (.int (room:Nat)) true,.own ((up (SK j) (lev.take i)).map dz) true,.frz (gx x.1) (false||imm (gx x.1)),.frz (.lst (aB x.2)) false,c,d]=_
   rw[ip];rfl
  ·rw[iM,e]
   walk_at "ev";have:=m2 (i+1) (by omega);rw[Ik,JK (show¬(room:Int)<((up (SK j) (lev.take (i+1))).length:Nat)by omega)];walk_at "ev"
 ·rintro y τ hy ⟨a,b,c,d,rfl⟩
  obtain⟨x,hx,rfl⟩:=wo hy;have ip:imm (gx x.1)=true:=aw x.1;obtain⟨a6,a7,e⟩:=inn m x c d hx;refine⟨[.frz (.str (aN j)) true,.frz (.lst (lev.map dz)) false,.frz (.int (room:Nat)) true,.own ((up (SK j) (lev.take m)).map dz) true,.frz (gx x.1) true,.frz (.lst (aB x.2)) false,c,d],?_,?_⟩
  ·show some [.frz (.str (aN j)) true,.frz (.lst (lev.map dz)) false,.frz (.int (room:Nat)) true,.own ((up (SK j) (lev.take m)).map dz) true,.frz (gx x.1) (false||imm (gx x.1)),.frz (.lst (aB x.2)) false,c,d]=_
   rw[ip];rfl
  ·refine iw rfl e (gP rfl (Fd (t:=true) ?_ (gP rfl Bu)))
   walk_at "ev";rw[Ik,JP (show(room:Int)<((up (SK j) (lev.take (m+1))).length:Nat)by omega)]
theorem dO(j s:Nat)(l:List aG):bI (SK j) (s+1) l=bI (SK j) s l+nI (SK j) (s+1) l:=by
 unfold bI;rw[K2 (n:=s+1),JQ,List.sum_append];simp
theorem hU(j:Nat)(l:List aG):bI (SK j) 0 l=1:=by
 unfold bI;simp[jC]
theorem eZ(j:Nat)(l:List aG)(a:Nat):∀b,a<=b->bI (SK j) a l<=bI (SK j) b l
 | 0,h=>by rw[show a=0 by omega];exact Io _
 | b+1,h=>by
  by_cases e:a=b+1
  ·rw[e];exact Io _
  ·have:=eZ j l a b (by omega)
   rw[dO];omega
theorem xV(j:Nat)(p:List aG):∀(l:List aG)(x:List aG×List aG),x∈ext (SK j) p l->x.2.length<=l.length
 | [],x,h=>by cases h
 | c::l,x,h=>by
  unfold ext at h
  rcases JD.mp h with r|r
  ·rw[r]
   have:=Jc (fun x=> !SK j c x) l;simp only[JI];omega
  ·have:=xV j p l x r
   rw[JI];omega
theorem BY(j:Nat)(l:List aG):∀(k:Nat)(x:List aG×List aG),x∈lv (SK j) l k->x.2.length<=l.length
 | 0,x,h=>by
  have h:x∈[([],l)]:=h;rw[Jg.mp h];exact Io _
 | k+1,x,h=>by
  have h:x∈(lv (SK j) l k).flatMap fun x=>ext (SK j) x.1 x.2:=h;obtain⟨y,hy,hx⟩:=List.mem_flatMap.mp h;exact JO (xV j _ _ _ hx) (BY j l k y hy)
theorem ol(j:Nat)(l:List aG)(hl:l.length<=64)(k:Nat)(hk:k<=8)(h:bI (SK j) k l<=1000):FH (lv (SK j) l k):=by
 refine⟨fun x hx=>JO (BY j l k x hx) hl,fun x hx=>by rw[dm (SK j) hx];omega,?_⟩;rw[jv];cases k with
 | zero=>rw[jC];decide
 | succ k=>rw[dO]at h;omega
theorem oI(j i:Nat)(l:List aG)(h:bI (SK j) (i+1) l<=1000):((1000-bI (SK j) i l:Nat):Int)-((lv (SK j) l (i+1)).length:Nat)=((1000-bI (SK j) (i+1) l:Nat):Int):=by
 rw[jv];rw[dO]at h ⊢;omega
theorem sX(j i:Nat)(l:List aG)(h:bI (SK j) (i+1) l<=1000):(up (SK j) (lv (SK j) l i)).length<=1000-bI (SK j) i l:=by
 have e:up (SK j) (lv (SK j) l i)=lv (SK j) l (i+1):=rfl;rw[e,jv];rw[dO]at h;omega
theorem qL{n i:Nat}{y:PV}(h:((List.range n).map fun i=>PV.int (0+(i:Nat)))[i]? =some y):y=.int (i:Nat)/\i<n:=by
 rw[Iy]at h
 by_cases hi:i<n
 ·rw[Jk hi]at h
  refine⟨?_,hi⟩;rw[<- JF h];show PV.int (0+(i:Int))=_;rw[Int.zero_add]
 ·rw[KG (by simpa using hi)]at h
  cases h
theorem oJ(n:Nat)(hn:n<=100):io [sc (.int (n:Nat))]=some ((List.range n).map fun i=>.int (0+(i:Nat))):=by
 simp only[io,sc,br];rw[Ix ⟨by omega,by omega⟩,Ln]
theorem c184(k j size:Nat)(rows:List Str)(w:Nat)(hw:Wd rows w)(h8:rows.length<=8)(w8:w<=8)(h64:(aC rows).length<=64)(s8:size<=8)(few:bI (SK j) size (aC rows)<=1000) :
  aH P (k+5) 184 [.str (aN j),.tup (rows.map .str),.int (size:Nat)]=some (.lst ((lv (SK j) (aC rows) size).map fun x=>gx x.1)):=by
 refine bV rfl rfl ?_;have im:=cK rows;have e3:=c3 (k+3) rows w hw h8 w8;rw[fY rows w hw]at e3;simp only[xm,entry];walk_at "ev";rw[e3];walk_at "go";refine bj (xs:=(List.range size).map fun i=>.int (0+(i:Nat))) (n:=true) ?_ (fun i τ=>∃a,τ=[.frz (.str (aN j)) true,.frz (.tup (rows.map .str)) true,.frz (.int (size:Nat)) true,.frz (sY (lv (SK j) (aC rows) i)) true,.frz (.int ((1000-bI (SK j) i (aC rows):Nat):Int)) true,a]) ⟨.un,?_⟩ ?_ ?_
 ·walk_at "ev"
  rw[oJ size (by omega)];walk_at "ev"
 ·walk_at "ev"
  rw[im,hU];rfl
 ·rintro i y τ hy ⟨a,rfl⟩
  obtain⟨rfl,hi⟩:=qL hy;have t1:=eZ j (aC rows) (i+1) size (by omega);have t0:=eZ j (aC rows) i size (by omega);have e183:=Hl k j (lv (SK j) (aC rows) i) (1000-bI (SK j) i (aC rows)) (ol j _ h64 i (by omega) (by omega)) (sX j i _ (by omega));refine⟨_,rfl,?_⟩;walk_at "ev";rw[e183,show up (SK j) (lv (SK j) (aC rows) i)=lv (SK j) (aC rows) (i+1)from rfl,J0,show hZ (sY (lv (SK j) (aC rows) (i+1)))=.own ((lv (SK j) (aC rows) (i+1)).map dz) true from rfl];walk_at "ev";rw[Ik,tS (x:=((1000-bI (SK j) i (aC rows):Nat):Int)) (n:=true) rfl,oI j i _ (by omega)];walk_at "ev";exact⟨_,rfl⟩
 ·rintro τ ⟨a,rfl⟩
  walk_at "ev";rw[Ik,JU,show sY (lv (SK j) (aC rows) size)=.lst ((lv (SK j) (aC rows) size).map dz)from rfl];walk_at "ev";have lf:=(ol j _ h64 size s8 few).few;rw[Ix (by rw[Ik];omega)];rw[dq (g:=fun x:List aG×List aG=>gx x.1) fun x hx=> ?_]
  ·walk_at "ev"
  ·have hs:=dm (SK j) hx
   show((((d0 (gx x.1)).map fun n=>RV.frz (PV.int (n:Nat)) true).bind fun y=>(ah .Eq y.val (.int (size:Nat))).map fun r=>RV.frz (.bl r) true).bind fun y=>lV y.val).bind (fun t=>if t=true then some (some (gx x.1,true||imm (gx x.1)))else some none)=_;rw[show d0 (gx x.1)=some (aB x.1).length from rfl,show(aB x.1).length=size by unfold aB;rw[Ik];exact hs];walk_at "ev"
theorem Fe{cd:Nat->List PV->Option PV}{xd:Nat->List PV->Bool}{fu:Nat}{cn:Str}{τ:En}{i f:Nat}{o:Bool}{cap:List Nat}{es:rQ}{rs:List RV}(h:bW cd es (av cap τ)=some rs)(hx:xd f (rs.map RV.val)=true):ie cd xd fu cn (.asg i o cap (.call f es)) τ=true:=by
 rw[ie]
 show(match bW cd es (av cap τ)with
  | some rs=>xd f (rs.map RV.val)
  | none=>false)=true
 rw[h];exact hx
theorem x184(k j size:Nat)(rows:List Str)(w:Nat)(hw:Wd rows w)(h8:rows.length<=8)(w8:w<=8)(h64:(aC rows).length<=64)(s8:size<=8)(many:¬bI (SK j) size (aC rows)<=1000) :
  xD P "TooGreat" (k+5) 184 [.str (aN j),.tup (rows.map .str),.int (size:Nat)]=true:=by
 refine A9 (d:=xm) rfl rfl ?_;have im:=cK rows;have e3:=c3 (k+3) rows w hw h8 w8;rw[fY rows w hw]at e3;simp only[xm,entry];obtain⟨m,m1,m2,m3⟩:∃m,m<size/\(∀i,i<=m->bI (SK j) i (aC rows)<=1000)/\1000<bI (SK j) (m+1) (aC rows):=by
  rcases j8 (fun i=>bI (SK j) i (aC rows)) 1000 (by rw[hU];decide) size with a|b
  ·exact absurd (a size (Io _)) many
  ·exact b
 refine iw (τ1:=[.frz (.str (aN j)) true,.frz (.tup (rows.map .str)) true,.frz (.int (size:Nat)) true,.frz (sY (lv (SK j) (aC rows) 0)) true,.un,.un]) rfl ?_ ?_
 ·walk_at "ev"
  rw[e3];walk_at "go";rw[im];rfl
 refine iw (τ1:=[.frz (.str (aN j)) true,.frz (.tup (rows.map .str)) true,.frz (.int (size:Nat)) true,.frz (sY (lv (SK j) (aC rows) 0)) true,.frz (.int ((1000-bI (SK j) 0 (aC rows):Nat):Int)) true,.un]) rfl ?_ ?_
 ·walk_at "ev"
  rw[hU];rfl
 refine gP rfl (A8 (xs:=(List.range size).map fun i=>.int (0+(i:Nat))) (n:=true) (by walk_at "ev";rw[oJ size (by omega)];walk_at "ev") ?_);refine nN (fun i τ=>∃a,τ=[.frz (.str (aN j)) true,.frz (.tup (rows.map .str)) true,.frz (.int (size:Nat)) true,.frz (sY (lv (SK j) (aC rows) i)) true,.frz (.int ((1000-bI (SK j) i (aC rows):Nat):Int)) true,a]) m _ _ (by rw[Ik,JU];exact m1) ⟨.un,rfl⟩ ?_ ?_
 ·rintro i y τ hi hy ⟨a,rfl⟩
  obtain⟨rfl,_⟩:=qL hy;have t1:=m2 (i+1) (by omega);have t0:=m2 i (by omega);have e183:=Hl k j (lv (SK j) (aC rows) i) (1000-bI (SK j) i (aC rows)) (ol j _ h64 i (by omega) t0) (sX j i _ t1);refine⟨_,_,rfl,?_,⟨.frz (.int (i:Nat)) true,rfl⟩⟩;show bJ _ _ _ [.frz (.str (aN j)) true,.frz (.tup (rows.map .str)) true,.frz (.int (size:Nat)) true,.frz (sY (lv (SK j) (aC rows) i)) true,.frz (.int ((1000-bI (SK j) i (aC rows):Nat):Int)) true,.frz (.int (i:Nat)) true]=_;walk_at "ev";rw[e183,show up (SK j) (lv (SK j) (aC rows) i)=lv (SK j) (aC rows) (i+1)from rfl,J0,show hZ (sY (lv (SK j) (aC rows) (i+1)))=.own ((lv (SK j) (aC rows) (i+1)).map dz) true from rfl];walk_at "ev";rw[Ik,tS (x:=((1000-bI (SK j) i (aC rows):Nat):Int)) (n:=true) rfl,oI j i _ t1];walk_at "ev";rfl
 ·rintro y τ hy ⟨a,rfl⟩
  obtain⟨rfl,_⟩:=qL hy;have t0:=m2 m (Io _)
  have x183' :=x183 k j (lv (SK j) (aC rows) m) (1000-bI (SK j) m (aC rows)) (ol j _ h64 m (by omega) t0) (by
   rw[show up (SK j) (lv (SK j) (aC rows) m)=lv (SK j) (aC rows) (m+1)from rfl,jv];rw[dO]at m3;omega)
  refine⟨_,rfl,gP rfl (Fe (rs:=[.frz (.str (aN j)) true,.frz (sY (lv (SK j) (aC rows) m)) true,.frz (.int ((1000-bI (SK j) m (aC rows):Nat):Int)) true]) ?_ x183')⟩;rfl
theorem Hk(k j:Nat)(hj:j<3)(c x:aG):aH P (k+1) 186 [.str (aN j),aV c.1 c.2,aV x.1 x.2]=some (.bl (SK j c x)):=by
 refine bV rfl rfl ?_;simp only[EH,entry,aV];have a1:decide ((Str.ofString "straight")=(Str.ofString "aslant"))=false:=by decide
 have a2:decide ((Str.ofString "all")=(Str.ofString "aslant"))=false:=by decide
 have a3:decide ((Str.ofString "all")=(Str.ofString "straight"))=false:=by decide
 have a4:decide ((Str.ofString "aslant")=(Str.ofString "straight"))=false:=by decide
 have hj:j=0\/j=1\/j=2:=by omega
 rcases hj with rfl|rfl|rfl
 ·rw[show aN 0=Str.ofString "straight" from rfl]
  walk_at "ev";rw[a1];walk_at "ev";have e:SK 0 c x=(decide (((x.1:Nat):Int)-((c.1:Nat):Int)=0)||decide (((x.2:Nat):Int)-((c.2:Nat):Int)=0)):=by
   show(decide (((c.1:Nat):Int)=((x.1:Nat):Int))||decide (((c.2:Nat):Int)=((x.2:Nat):Int)))=_;rw[Jb];simp only[KD,JX];omega
  rw[e];cases decide (((x.1:Nat):Int)-((c.1:Nat):Int)=0)<;>walk_at "ev"<;>cases decide (((x.2:Nat):Int)-((c.2:Nat):Int)=0)<;>walk_at "ev"
 ·rw[show aN 1=Str.ofString "aslant" from rfl]
  walk_at "ev";have e:SK 1 c x=(decide (((x.1:Nat):Int)-((c.1:Nat):Int)=((x.2:Nat):Int)-((c.2:Nat):Int))||decide (((x.1:Nat):Int)-((c.1:Nat):Int)=0-(((x.2:Nat):Int)-((c.2:Nat):Int)))):=by
   show aslt _ _ _ _=_;unfold aslt;rw[Jb];simp only[KD,JX]
   split<;>split<;>omega
  rw[e];walk_at "ev";rw[a4];walk_at "ev"
  generalize decide (((x.1:Nat):Int)-((c.1:Nat):Int)=((x.2:Nat):Int)-((c.2:Nat):Int))=q3
  generalize decide (((x.1:Nat):Int)-((c.1:Nat):Int)=0-(((x.2:Nat):Int)-((c.2:Nat):Int)))=q4
  cases q3<;>walk_at "ev"
  all_goals simp
 ·rw[show aN 2=Str.ofString "all" from rfl]
  walk_at "ev";rw[a2];walk_at "ev";have e:SK 2 c x=((decide (((x.1:Nat):Int)-((c.1:Nat):Int)=0)||decide (((x.2:Nat):Int)-((c.2:Nat):Int)=0))||(decide (((x.1:Nat):Int)-((c.1:Nat):Int)=((x.2:Nat):Int)-((c.2:Nat):Int))||decide (((x.1:Nat):Int)-((c.1:Nat):Int)=0-(((x.2:Nat):Int)-((c.2:Nat):Int))))):=by
   show((decide (((c.1:Nat):Int)=((x.1:Nat):Int))||decide (((c.2:Nat):Int)=((x.2:Nat):Int)))||aslt _ _ _ _)=_;unfold aslt;rw[Jb];simp only[KD,JX]
   split<;>split<;>omega
  rw[e]
  generalize decide (((x.1:Nat):Int)-((c.1:Nat):Int)=0)=q1
  generalize decide (((x.2:Nat):Int)-((c.2:Nat):Int)=0)=q2
  cases q1<;>walk_at "ev"
  ·cases q2<;>walk_at "ev"
   ·rw[a3]
    walk_at "ev";cases h3:decide (((x.1:Nat):Int)-((c.1:Nat):Int)=((x.2:Nat):Int)-((c.2:Nat):Int))<;>walk_at "ev"
theorem mH(l:List aG):bv 12 (.lst (aB l))=true:=by
 show(aB l).all (bv 11)=true;rw[JJ];intro y hy;obtain⟨c,_,rfl⟩:=JE.mp hy;rfl
theorem Du(l:List aG):ah .Eq (.lst (aB l)) (.lst [])=some l.isEmpty:=by
 rw[Ac,mH,show bv 12 (.lst [])=true from rfl];cases l<;>rfl
theorem eQ(j:Nat)(c:aG):∀p:List aG,(p.filter fun x=>SK j c x).isEmpty=p.all fun x=> !SK j c x
 | []=>rfl
 | x::p=>by
  rw[KQ,Kh,<-eQ j c p];cases SK j c x<;>rfl
theorem at_2{α:Type}{x y z:α}{xs:List α}:L2.dC (x::y::z::xs) 2=some z:=by
 have:=bh (xs:=x::y::z::xs) (j:=2) (v:=z) (by simp);exact this
theorem c187(k:Nat)(x:Int):∃j,j<3/\aH P (k+1) 187 [.int x]=some (.str (aN j)):=by
 have h:x%3=0\/x%3=1\/x%3=2:=by omega
 rcases h with h|h|h
 ·refine⟨0,by decide,bV rfl rfl ?_⟩
  simp only[xl,entry];walk_at "go";rw[h];walk_at "ev";rfl
 ·refine⟨1,by decide,bV rfl rfl ?_⟩
  simp only[xl,entry];walk_at "go";rw[h];walk_at "ev";rfl
 ·refine⟨2,by decide,bV rfl rfl ?_⟩
  simp only[xl,entry];walk_at "go";rw[h,at_2];walk_at "ev";rfl
theorem xA(j:Nat)(hj:j<3):jx (aN j)=some j:=by
 have:j=0\/j=1\/j=2:=by omega
 rcases this with rfl|rfl|rfl
 ·rfl
 ·unfold jx
  rw[Iq (by decide),Ix rfl]
 ·unfold jx
  rw[Iq (by decide),Iq (by decide),Ix rfl]
section
open PySem.Spec PyProof.Rows L2.XN XE
theorem n9:∀{ls:List PV}{rows:List Str},dF ls=some rows->ls=rows.map .str
 | [],_,h=>by cases h;rfl
 | x::ls,rows,h=>by
  cases x with
  | str z =>
   have h:(dF ls).map (z::·)=some rows:=h;obtain⟨r,hr,h⟩:=map_some h;subst h;rw[n9 hr];rfl
  | _=>cases h
structure tX(K:W.Frag)(mg:Str->Option Value)(C:Addr):Prop where
 kC:IY K mg "TooGreat" C
 q:W.excIn K C [.type "ValueError",.type "Exception",.type "BaseException",.type "object"] "ValueError.__new__"=true
 sC:W.subIn K (.ref C) (.ref C)=some true
 sB:W.subIn K (.ref C) (.type "BaseException")=some true
theorem tX.xcls{K:W.Frag}{mg:Str->Option Value}{C:Addr}{base:Heap}(c:tX K mg C)(md:Mod K mg base):Az mg base "TooGreat" C :=
 ⟨⟨_,_,_,_,_,_,_,_,Cr md.kin c.kC.nm c.q,PySem.F.excBase_ValueError,rfl,PySem.F.excBase_ValueError⟩,by decide⟩
theorem xO{P:Nat->Option FD}{f n m mm:Nat}{g:List PV->Option PV}(hP:P f=some ⟨n,m,.cons (.hand mm g) .nil⟩)(cn:Str):∀(k:Nat)(vs:List PV),xD P cn k f vs=false
 | 0,_=>rfl
 | k+1,vs=>by
  have z:evXs (aH P k) (xD P cn k) 1000000 cn (.cons (.hand mm g) .nil) (entry ⟨n,m,.cons (.hand mm g) .nil⟩ vs)=false:=by
   simp only[evXs,ie,mD,gM,ff,fm,fk,gB,gF,fe,fw,gJ,gH,gO,gA,ft,fq,gI,fj,fh,fg,gG,gN,gL,gK,gE,gC,fo,fz,Lq,Le,Bool.true_and];cases g (((entry ⟨n,m,.cons (.hand mm g) .nil⟩ vs).take mm).map TV.valD)<;>rfl
  unfold xD;rw[hP];show(_&&_)=false;rw[z,Bool.and_false]
end
section
open PySem.Spec PyProof.Rows L2.XN XE
theorem vp:aT N195 ["_law_kind_here","_law_board_here","_law_size"] (aA oE):=⟨rfl,rfl,rfl,by decide +kernel,rfl,by decide +kernel,by decide +kernel⟩
theorem lv8{k:Nat}{v:PV}(h:aH P k 20008 [.non]=some v):9<=k:=by
 by_cases hk:9<=k
 ·exact hk
 ·have z:∀j,j<9->(aH P j 20008 [.non]).isNone=true:=by decide +kernel
  have:=z k (by omega);rw[h]at this;cases this
theorem uW{z:Str}{j:Nat}(h:jx z=some j):j<3/\z=aN j:=by
 unfold jx at h
 split at h
 ·cases h;rename_i e;exact⟨by decide,e⟩
 ·split at h
  ·cases h;rename_i e;exact⟨by decide,e⟩
  ·split at h
   ·cases h;rename_i e;exact⟨by decide,e⟩
   ·cases h
theorem rq{k:Nat}{vs:List PV}{r:PV}(h:aH P (k+1) 195 vs=some r):9<=k/\∃(j:Nat)(z:Str)(rs:List Str)(n:Nat),j<3/\vs=[.str (aN j),.tup ((z::rs).map .str),.int (n:Nat)]/\(z::rs).length<=8/\z.length<=8/\(∀y∈z::rs,y.length=z.length)/\n<=8 /\
  (aC (z::rs)).length<=64/\r=(if bI (SK j) n (aC (z::rs))<=1000 then .lst ((lv (SK j) (aC (z::rs)) n).map fun x=>ba x.1)else .non):=by
 rw[rE]at h;have hP:P 195=some AT:=rfl;rw[hP,Jl]at h
 split at h
 case isFalse=>cases h
 rename_i hl;have hl:vs.length=3:=hl
 match vs,hl with
 | [u,v,w],_ =>
  simp only[AT,yV,yW,gM,ff,fm,fk,gB,gF,fe,fw,gJ,gH,gO,gA,ft,fq,gI,fj,fh,fg,gG,gN,gL,gK,gE,gC,fo,fz,cc,cO,ci,cT,cf,dB,cq,cR,cS,cy,cg,ck,cU,cV,cP,dA,cZ,cz,cx,cY,cQ,cr,cX,cW,cw,cv,cu,vB,vC,entry,Jl,J0,JH,Kl,br]at h;cases h9:aH P k 20008 [.non]with
  | none=>rw[h9]at h;cases h
  | some x =>
   rw[h9]at h;refine⟨lv8 h9,?_⟩;simp only[J0,Jl,me]at h;have e:(([TV.frz u (imm u),TV.frz v (imm v),TV.frz w (imm w)]++List.replicate (4-[u,v,w].length) TV.un).take 3).map TV.valD=[u,v,w]:=rfl;rw[e]at h;cases hg:va [u,v,w]with
   | none=>rw[hg]at h;cases h
   | some r' =>
    rw[hg]at h;have h:some r' =some r:=h;cases h;unfold va at hg
    split at hg
    case h_2=>cases hg
    rename_i kd zs size heq;cases heq;cases ek:jx kd with
    | none=>rw[ek]at hg;cases hg
    | some j =>
     rw[ek,Jl]at hg;cases et:dF zs with
     | none=>rw[et]at hg;cases hg
     | some rows =>
      rw[et]at hg;cases rows with
      | nil=>cases hg
      | cons z rs =>
       simp only[Jl]at hg
       split at hg
       ·rename_i hc
        obtain⟨g1,g2,g3,g4,g5,g6⟩:=hc;obtain⟨k1,k2⟩:=uW ek;obtain⟨n,rfl⟩:∃n:Nat,size=(n:Nat):=⟨size.toNat,by omega⟩;refine⟨j,z,rs,n,k1,?_,g1,g2,fun y hy=>by simpa using JJ.mp g3 y hy,by omega,g6,(JF hg).symm⟩;rw[n9 et,k2]
       ·cases hg
theorem AB{K:PySem.W.Frag}{mg:Str->Option Value}{f C:Addr}{fd:FuncData}(cl:tX K mg C)(Df:fF K mg "_law_told" oE ["_law_kind_here","_law_board_here","_law_size"] f fd)(p:Program)(w:World)(base:Heap)(k:Nat)
  (IH:kS K mg P F p w base k):bi p w K mg base p5 (k+1) f fd ["_law_kind_here","_law_board_here","_law_size"] (yQ K (aH P (k+1) 195)):=by
 have len:∀vs H Q E,yQ K (aH P (k+1) 195) vs H Q E->vs.length=["_law_kind_here","_law_board_here","_law_size"].length:=fun vs H Q E h=>by
  obtain⟨pvs,r,h1,h2,_⟩:=h;obtain⟨_,j,z,rs,n,_,e,_⟩:=rq h2;rw[<- h1.len,e];rfl
 refine Dl len fun md=> ?_;refine Df.fn.ok vp len fun cdv A outer s H vs Q E hr h=> ?_;obtain⟨pvs,r,h1,h2,q⟩:=h;obtain⟨hk,j,z,rs,n,hj,rfl,g1,g2,g3,g4,g5,er⟩:=rq h2;obtain⟨b,gd,qs,m1,m2,m3,F0,FX⟩:=IH "all_placings" 184 rfl;have FX:=FX "TooGreat" C (cl.xcls md);have hw:Wd (z::rs) z.length:=g3;have nd:=vp.nd;obtain⟨u1,u2,u3,rfl⟩:∃u1 u2 u3,vs=[u1,u2,u3]:=by
  unfold aJ at h1;obtain⟨u1,us,rfl,_,h1⟩:=h1;unfold aJ at h1;obtain⟨u2,us,rfl,_,h1⟩:=h1;unfold aJ at h1;obtain⟨u3,us,rfl,_,h1⟩:=h1;unfold aJ at h1;exact⟨u1,u2,u3,by rw[h1]⟩
 by_cases few:bI (SK j) n (aC (z::rs))<=1000
 ·rw[Ix few]at er
  subst er;have hc:=c184 (k-5) j n (z::rs) z.length hw g1 g2 g5 g4 few;rw[show k-5+5=k by omega]at hc
  refine⟨_,bZ (cG (i:=3) nd rfl (Or.inl rfl) jo) (bZ (sI (C:=C) (D:=C) rfl rfl rfl rfl cl.kC.nm (cl.kC.exm cl.sC cl.sB)
   (fun E pn W hp=>bY (cG (i:=3) nd rfl (Or.inl rfl) (m7 F0 hr rfl m1 m2 m3 .nil BQ (aZ (pv 0) (aZ (pv 1) (aZ (pv 2) bC))))))
   (fun e dd oe pn hx=>bY (cG (i:=3) nd rfl (Or.inl rfl) jo)))
   (bY (ji (pv 3)))),?_⟩
  show vb C _ _ _ [some u1,some u2,some u3,some .non] H;refine⟨fun _ _ _ _=>False,?_,fun σ' H' dd _ z=>z.elim⟩;refine⟨u1,rfl,u2,rfl,u3,rfl,_,_,h1,hc,fun u H' s' ru=> ?_⟩;exact⟨_,rfl,q _ _ s' ru⟩
 ·rw[Iq few]at er
  subst er;have hc:=x184 (k-5) j n (z::rs) z.length hw g1 g2 g5 g4 few;rw[show k-5+5=k by omega]at hc
  refine⟨_,bZ (cG (i:=3) nd rfl (Or.inl rfl) jo) (bZ (sI (C:=C) (D:=C) rfl rfl rfl rfl cl.kC.nm (cl.kC.exm cl.sC cl.sB)
   (fun E pn W hp=>bY (cG (i:=3) nd rfl (Or.inl rfl) (wR FX hr rfl m1 m2 m3 .nil hp (aZ (pv 0) (aZ (pv 1) (aZ (pv 2) bC))))))
   (fun e dd oe pn hx=>bY (cG (i:=3) nd rfl (Or.inl rfl) jo)))
   (bY (ji (pv 3)))),?_⟩
  show vb C _ _ _ [some u1,some u2,some u3,some .non] H;refine⟨fun σ' cls dd H' =>σ' =[some u1,some u2,some u3,some .non]/\dd=none/\aE H H',?_,fun σ' H' dd _ z e he=> ?_⟩
  ·exact⟨u1,rfl,u2,rfl,u3,rfl,_,h1,hc,fun H' s' =>⟨rfl,rfl,s'⟩⟩
  ·obtain⟨rfl,rfl,s'⟩:=z
   exact⟨_,rfl,q _ _ s' (Rp.non.mpr rfl)⟩
end
section
open PySem.Spec PyProof.Rows
theorem GM:aT N47 ["levels","bits"] (aA BJ):=⟨rfl,rfl,rfl,by decide +kernel,rfl,by decide +kernel,by decide +kernel⟩
theorem vM{P' :Nat->Option FD}{k:Nat}{vs:List PV}{r:PV}(hP:P' 47=some FU)(h:aH P' (k+1) 47 vs=some r):bT vs=some r:=by
 unfold aH at h;rw[hP]at h;simp only[Jl]at h
 split at h
 ·rename_i hl
  have hl:vs.length=2:=hl;obtain⟨a,b,rfl⟩:=nC hl
  ·simp only[FU,yV,yW,gM,ff,fm,fk,gB,gF,fe,fw,gJ,gH,gO,gA,ft,fq,gI,fj,fh,fg,gG,gN,gL,gK,gE,gC,fo,fz,entry]at h
   have e:((List.map (fun v=>TV.frz v (imm v)) [a,b]++List.replicate (9-[a,b].length) TV.un).take 2).map TV.valD=[a,b]:=rfl;rw[e]at h;cases hg:bT [a,b]with
   | none=>rw[hg]at h;cases h
   | some v=>rw[hg]at h;cases h;rfl
 ·cases h
theorem Bv{vs:List PV}{r:PV}(h:bT vs=some r):vs.length=2:=by
 unfold bT at h
 split at h
 ·rfl
 ·cases h
noncomputable abbrev jW1(H:Hp)(D0:Addr)(Ls:List ak)(i m:Nat)(ys:List V)(H' :Hp):Prop:=m=Ls.length-i/\i<=Ls.length/\∃ds,ys=ds.map V.ref/\p8 H D0 ds (Ls.take i) H'
noncomputable abbrev jW2(H:Hp)(Lv Bt Aa:Addr)(dp:List Addr)(Ls:List ak)(B:List Int)(i:Nat)(σ:L2.St)(G:Hp):Prop:=∃a b c d e g,σ=[some (.ref Lv),some (.ref Bt),some (.ref Aa),a,b,c,d,e,g]/\p8 H Aa dp (wl Ls B i) G
noncomputable abbrev jW3(H:Hp)(Lv Bt Aa:Addr)(dp:List Addr)(Ls:List ak)(B:List Int)(i:Nat)(lev ab:Addr)(o:Obj)(ct c0:ak)(j:Nat)(σ:L2.St)(G:Hp):Prop:=∃d e g,σ=[some (.ref Lv),some (.ref Bt),some (.ref Aa),some (.int (i:Nat)),some (.ref lev),some (.ref ab),d,e,g]/\G lev=some (.frz o (.dK (bL ct)))/\p8 H Aa dp ((wl Ls B i).set (i+1) ((ct.take j).foldl (cC B) c0)) (L2.upd G lev (.dK (bL ct)))
noncomputable abbrev jW4(H:Hp)(Lv Bt Aa:Addr)(dp:List Addr)(Ls:List ak)(B:List Int)(i:Nat)(lev ab:Addr)(o:Obj)(ct:ak)(tk cn:Int)(cj:ak)(l:Nat)(σ:L2.St)(G:Hp):Prop:=∃g,σ=[some (.ref Lv),some (.ref Bt),some (.ref Aa),some (.int (i:Nat)),some (.ref lev),some (.ref ab),some (.int tk),some (.int cn),g]/\G lev=some (.frz o (.dK (bL ct)))/\p8 H Aa dp ((wl Ls B i).set (i+1) ((B.take l).foldl (bU tk cn) cj)) (L2.upd G lev (.dK (bL ct)))
theorem Dc{K:W.Frag}{mg:Str->Option Value}{f:Addr}{fd:FuncData}(hdi:mg "dict"=none)(hen:mg "enumerate"=none)(D:fF K mg "with_line" BJ ["levels","bits"] f fd)(p:Program)(w:World)(base:Heap)(k:Nat)(_:∀y g,F.lookup y=some g->∃b gd qs,mg y=some (.ref b)/\W.keepIn K (.ref b)=true/\Binds K gd qs []/\bi p w K mg base p5 k b gd qs (yQ K (aH P k g))):bi p w K mg base p5 (k+1) f fd ["levels","bits"] (yQ K (aH P (k+1) 47)):=by
 refine D.fn.ok GM (fun vs H Q E h=> ?_) (fun cdv A outer s H vs Q E hr h=> ?_)
 ·obtain⟨pvs,r,h1,h2,_⟩:=h
  rw[<- h1.len];exact Bv (vM rfl h2)
 obtain⟨pvs,r,h1,h2,q⟩:=h
 replace h2:=vM rfl h2
 unfold bT at h2
 split at h2
 case h_2=>cases h2
 rename_i ls bs;cases e1:ny ls with
 | none=>rw[e1]at h2;cases h2
 | some Ls =>
 cases e2:ag bs with
 | none=>rw[e1,e2]at h2;cases h2
 | some B =>
 rw[e1,e2]at h2;dsimp only[Option.bind]at h2
 split at h2
 case isFalse=>cases h2
 rename_i hz;cases h2;obtain⟨z1,z2,z3⟩:=hz;have z3:∀c∈Ls,c.length<=1000:=fun c hc=>by simpa using JJ.mp z3 c hc
 have hls:=nw e1;subst hls;unfold aJ at h1;obtain⟨u1,_,rfl,r1,h1⟩:=h1;unfold aJ at h1;obtain⟨u2,_,rfl,r2,h1⟩:=h1;unfold aJ at h1;subst h1;obtain⟨Lv,us,rfl,_,sqL,rl⟩:=Rp.lst.mp r1;obtain⟨Bt,bu,rfl,_,sqB,rb⟩:=Rp.lst.mp r2;rw[j1 e2]at rb;have eb:=aJ.ints.mp rb;subst eb;have lv:∀(i:Nat)(c:ak),Ls[i]? =some c->∃a,us[i]? =some (.ref a)/\H a=some (.dK (bL c)):=fun i c hc=>by
  obtain⟨u,hu,ru⟩:=rl.at (i:=i) (x:=i7 c) (by rw[Iy,hc];rfl);obtain⟨a,rfl,ha⟩:=CV ru;exact⟨a,hu,bM _ _ ha⟩
 have ulen:us.length=Ls.length:=by have:=rl.len;simpa using this.symm
 have nd:=GM.nd;have hu:=HR hr;have hs:sizeLine=16777216:=J6
 refine⟨_,bZ (cG (i:=2) nd rfl (Or.inl rfl) (jn C3 (BN (N' :=["level"]) (src:=[none]) rfl (gZ (pv 0)) True.intro rfl (by decide +kernel) (by decide +kernel) rfl) (wO (aZ oU bC))))
  (bZ (jj LH rfl (oS rfl hen (aZ (pv 0) bC)) (m6 rfl (cH (bc (i:=3) nd rfl (Or.inl rfl)) (cH (bc (i:=4) nd rfl (Or.inl rfl)) i8)))
   (bZ (cG (i:=5) nd rfl (Or.inl rfl) (BO jD (pv 2) (jn qT (pv 3) jp) (fun _ _=>rfl)))
   (bY (y6 (jj LH rfl (wj (pv 4)) (m6 rfl (cH (bc (i:=6) nd rfl (Or.inl rfl)) (cH (bc (i:=7) nd rfl (Or.inl rfl)) i8)))
    (bY (jj LH rfl (gZ (pv 1)) (bc (i:=8) nd rfl (Or.inl rfl))
     (bY (sK (sF BU (jn C4 (pv 6) (pv 8)) jp (DB _))
      (bY (zA hu (pv 5) (jn BS (pv 6) (pv 8)) (jn qT (wQ hu (pv 5) (jn BS (pv 6) (pv 8)) jp ⟨rfl,rfl,rfl,rfl⟩) (pv 7)) rfl)) sH)))))))))
  (bY (ji (pv 2)))),?_⟩
 refine⟨_,rfl,Lv,rfl,⟨_,sqL⟩,fun D0 hD0=> ?_⟩;refine⟨jW1 H D0 Ls,⟨Ls.length,by simp,JR _,[],rfl,⟨aU hD0 _,hD0,aK,by simp,by simp,by simp,fun q d c e=>by simp at e⟩⟩,?_⟩;rintro i m ys H' ⟨rfl,hi,ds,rfl,st⟩
 by_cases hlt:i<Ls.length
 ·right
  have ec:Ls[i]? =some Ls[i]:=by simp[hlt]
  obtain⟨a,ua,ha⟩:=lv i _ ec;refine⟨⟨us,.ref a,st.1.seq sqL,ua⟩,fun x H1 y=> ?_⟩;obtain⟨rfl,y⟩:=y;have ex:=y us (st.1.seq sqL);rw[ua]at ex;cases ex;intro C s2 H2 fp cl;refine⟨pG 0,BG,_,bc (by simp) rfl (.inl rfl) (.inr rfl),jm,lj pY rfl hdi boot_dict (aZ (pv 0) bC),?_⟩;refine⟨pe rfl,?_⟩;refine⟨_,rfl,a,_,rfl,.inl (st.1 _ _ ha),fun pn hpn=> ?_⟩;have dl:ds.length=i:=by rw[st.2.2.2.2.2.1,JS];omega
  refine⟨by rw[aD (aM st.2.2.1 hpn)];exact st.2.2.1,by rw[Ik];omega,Ls.length-(i+1),by omega,rfl,hlt,ds++[pn],by rw[JQ];rfl,?_⟩;have e:Ls.take (i+1)=Ls.take i++[Ls[i]]:=by rw[Kq,ec];rfl
  rw[e];exact st.push hpn
 ·left
  have ei:i=Ls.length:=by omega
  subst ei;rw[Jq]at st;refine⟨⟨us,st.1.seq sqL,by omega⟩,?_⟩;intro p0 hp0;refine⟨by show 1<=sizeLine;decide,fun l hl=> ?_⟩;have dl:ds.length=Ls.length:=st.2.2.2.2.2.1;have s1:=aU hp0 (.dK []);have s2:=aU hl (.lst [.ref p0]);refine⟨D0,l,ds.map V.ref,[.ref p0],rfl,rfl,s2 _ _ (s1 _ _ st.2.2.1),aK,by rw[Ik,dl,hs];simp;omega,fun Aa hAa=> ?_⟩;have stA:p8 H Aa (ds++[p0]) (wl Ls B 0) (L2.upd (L2.upd (L2.upd H' p0 (.dK [])) l (.lst [.ref p0])) Aa (.lst (ds.map V.ref++[.ref p0]))):=by
   have hDp:D0≠p0:=aM st.2.2.1 hp0;have hAl:Aa≠l:=fun z=>by rw[z,aK]at hAa;cases hAa
   have hA1:L2.upd H' p0 (.dK []) Aa=none:=by rw[aD hAl]at hAa;exact hAa
   have hAp:Aa≠p0:=fun z=>by rw[z,aK]at hA1;cases hA1
   have hA0:H' Aa=none:=by rw[aD hAp]at hA1;exact hA1
   have hDA:D0≠Aa:=aM st.2.2.1 hA0;obtain⟨g1,g2,g3,g4,g5,g6,g7⟩:=st.push (p:=p0) (c:=[]) hp0;have hlD:l≠D0:=fun z=>by rw[z,aD hDp,st.2.2.1]at hl;cases hl
   have hlp:l≠p0:=fun z=>by rw[z,aK]at hl;cases hl
   have inn:∀(qq:Nat)(d:Addr)(c:ak),(ds++[p0])[qq]? =some d->(Ls++[[]])[qq]? =some c->H d=none/\d≠Aa/\d≠l/\L2.upd H' p0 (.dK []) d=some (.dK (bL c)):=fun qq d c w1 w2=>by
    obtain⟨m0,m1⟩:=g7 qq d c w1 w2;have dD:d≠D0:=fun z=>g4 (z▸JL w1);rw[aD dD]at m1;have m1:L2.upd H' p0 (.dK []) d=some (.dK (bL c)):=m1;exact⟨m0,(fun z=>by rw[z,hA1]at m1;cases m1),(fun z=>by rw[z,hl]at m1;cases m1),m1⟩
   refine⟨((st.1.trans s1).trans s2).trans (aU hAa _),st.1.free hA0,by rw[aK,JQ];rfl,fun z=> ?_,g5,g6,fun qq d c w1 w2=> ?_⟩
   ·obtain⟨qq,hqq,e⟩:=Kx.mp z
    exact(inn qq Aa ((Ls++[[]])[qq]'(by rw[<- g6];exact hqq)) (by rw[Iv hqq,e]) (by simp[show qq<(Ls++[[]]).length by rw[<- g6];exact hqq])).2.1 rfl
   ·obtain⟨m0,m1,m2,m3⟩:=inn qq d c w1 w2
    exact⟨m0,by rw[aD m1,aD m2];exact m3⟩
  have sqB' :∀{G:Hp},aE H G->bN K G Bt (B.map V.int):=fun s=>s.seq sqB;refine⟨_,rfl,Lv,us,rfl,(stA.1).seq sqL,xT (src:=fun H xs=>bN K H Lv xs) (jW2 H Lv Bt Aa (ds++[p0]) Ls B) ⟨_,_,_,_,_,_,rfl,stA⟩ (fun i σ G _ ⟨_,_,_,_,_,_,_,st⟩=>st.1.seq sqL) ?_ ?_⟩
  ·rintro i x pt σ G ex hpt ⟨a,b,c,d,e,g,rfl,st⟩
   have hi:i<us.length:=(Iw.mp ex).1;have ec:Ls[i]? =some (Ls[i]'(by omega)):=by simp[show i<Ls.length by omega]
   obtain⟨lev,ua,hlev⟩:=lv i _ ec;rw[ex]at ua;cases ua;obtain⟨ct,hct⟩:∃ct,ct=Ls[i]'(by omega):=⟨_,rfl⟩;rw[<- hct]at ec hlev;have ctl:ct.length<=1000:=z3 ct (JL ec);have wlen:=mX Ls B i;obtain⟨ab,hab⟩:∃ab,(ds++[p0])[i+1]? =some ab:=⟨(ds++[p0])[i+1]'(by rw[st.2.2.2.2.2.1,wlen];omega),by simp[show i+1<(ds++[p0]).length by rw[st.2.2.2.2.2.1,wlen];omega]⟩;obtain⟨c0,hc0⟩:∃c0,(wl Ls B i)[i+1]? =some c0:=⟨(wl Ls B i)[i+1]'(by rw[wlen];omega),by simp[show i+1<(wl Ls B i).length by rw[wlen];omega]⟩;have st:=st.ext (aU hpt (.tup [.int (i:Nat),.ref lev]));refine⟨pt,_,rfl,bw.of aK,rfl,_,_,rfl,_,_,rfl,rfl,?_⟩;refine⟨_,rfl,_,rfl,_,_,rfl,rfl,Aa,_,_,.ref ab,rfl,rfl,bN.of st.2.2.1,?_,?_⟩
   ·have:=bh (xs:=(ds++[p0]).map V.ref) (j:=i+1) (v:=.ref ab) (by rw[Iy,hab];rfl)
    exact this
   refine⟨_,rfl,lev,bL ct,rfl,st.1 _ _ hlev,fun o nf=> ?_⟩;have abn:H ab=none:=(st.at hab hc0).1;have abl:ab≠lev:=fun z=>by rw[z,hlev]at abn;cases abn
   obtain⟨G1,hG1⟩:∃G1,G1=L2.upd G pt (.tup [.int (i:Nat),.ref lev]):=⟨_,rfl⟩;rw[<- hG1]at st ⊢;have g1lev:G1 lev=some (.dK (bL ct)):=st.1 _ _ hlev;have ini:L2.upd (L2.upd G1 lev (.frz o (.dK (bL ct)))) lev (.dK (bL ct))=G1:=by
    rw[yd]
    funext bb
    by_cases hb:bb=lev
    ·subst hb
     rw[aK,g1lev]
    ·rw[aD hb]
   refine ug (jW3 H Lv Bt Aa (ds++[p0]) Ls B i lev ab o ct c0) ⟨_,_,_,rfl,aK,?_⟩ (fun j σ G _ ⟨_,_,_,_,hf,_⟩=>hf) ?_ ?_
   ·rw[ini]
    have e0:(wl Ls B i).set (i+1) c0=wl Ls B i:=by
     refine Lm fun n=> ?_;rw[Lk]
     split
     ·rename_i en
      subst en;rw[hc0,Ix (by rw[wlen];omega)]
     ·rfl
    rw[List.take_zero,List.foldl_nil,e0];exact st
   ·rintro j kk xx pp σ G2 ekv hpp ⟨d,e,g,rfl,hf,st2⟩
    obtain⟨tk,cn,etc,rfl,rfl⟩:=AO ekv;have hj:j<ct.length:=(Iw.mp etc).1;have ppl:pp≠lev:=fun z=>by rw[z,hf]at hpp;cases hpp
    refine⟨pp,_,rfl,bw.of aK,rfl,_,_,rfl,_,_,rfl,rfl,?_⟩;have st3:=st2.ext (t8 (o:=.tup [kV (Sum.inl tk),.int cn]) (u:=.dK (bL ct)) hpp ppl);obtain⟨cj,hcj⟩:∃cj,cj=(ct.take j).foldl (cC B) c0:=⟨_,rfl⟩;rw[<- hcj]at st3;have cjl:cj.length<=1000+1000*100+1000*100:=by
     have h0:c0.length<=1000:=by
      have:=BA Ls B i (i+1) (by omega);rw[hc0]at this
      rcases Jw.mp (JL this.symm)with hm|hm
      ·exact z3 c0 hm
      ·have:c0=[]:=by simpa using hm
       rw[this];simp
     have h1:=mF B (ct.take j) c0;have h2:(ct.take j).length*B.length<=1000*100:=Nat.mul_le_mul (by rw[JS];omega) z2;rw[hcj];omega
    refine⟨_,rfl,Bt,rfl,⟨_,r9 (sqB' st3.1)⟩,xS (xs:=B.map V.int) (jW4 H Lv Bt Aa (ds++[p0]) Ls B i lev ab o ct tk cn cj) ⟨_,rfl,by rw[aD (KW ppl)];exact hf,by rw[List.take_zero,List.foldl_nil];exact st3⟩ (fun l σ G _ ⟨_,_,_,st⟩=>r9 (sqB' st.1)) ?_ ?_⟩
    ·rintro l xb σ G3 exb ⟨g,rfl,hf3,st4⟩
     obtain⟨b,eb,rfl⟩:∃b,B[l]? =some b/\xb=.int b:=by
      rw[Iy]at exb;cases e:B[l]? with
      | none=>rw[e]at exb;cases exb
      | some b=>rw[e]at exb;exact⟨b,rfl,(JF exb).symm⟩
     have hl:l<B.length:=(Iw.mp eb).1;obtain⟨cur,hcur⟩:∃cur,cur=(B.take l).foldl (bU tk cn) cj:=⟨_,rfl⟩;have e7:(B.take (l+1)).foldl (bU tk cn) cj=bU tk cn cur b:=by
      rw[Kq,eb,List.foldl_append,<-hcur];rfl
     rw[<- hcur]at st4;have curl:cur.length<sizeLine:=by
      have:=iL tk cn (B.take l) cj;rw[<- hcur,JS]at this;rw[hs];omega
     have hcs:((wl Ls B i).set (i+1) cur)[i+1]? =some cur:=by rw[KB (by rw[wlen];omega)]
     obtain⟨_,hab1⟩:=st4.at hab hcs;rw[aD abl]at hab1;refine⟨_,rfl,_,rfl,_,_,rfl,rfl,rfl,_,rfl,ite2 (fun hc=> ?_) (fun hc=> ?_)⟩
     ·have hc:Builtin.bitAnd tk b=0:=V.int.inj (Jy hc)
      obtain⟨old,hold⟩:∃old,old=(gi cur (Builtin.bitOr tk b)).getD 0:=⟨_,rfl⟩;refine⟨_,rfl,ab,rfl,.inl ⟨_,.inl hab1⟩,_,rfl,_,rfl,_,_,rfl,rfl,_,rT.k (k:=Sum.inl (Builtin.bitOr tk b)) hab1,_,rfl,old,cn,?_,rfl,?_⟩
      ·rw[AN,hold]
       cases gi cur (Builtin.bitOr tk b)<;>rfl
      refine⟨_,rfl,_,rfl,_,rfl,_,_,rfl,rfl,ab,_,rfl,rS.k (k:=Sum.inl (Builtin.bitOr tk b)) hab1 (by rw[pP];exact curl),_,rfl,?_,?_⟩
      ·rw[aD (KW abl)]
       exact hf3
      ·have e8:bU tk cn cur b=iD cur (Builtin.bitOr tk b) (old+cn):=by
        unfold bU u6;rw[Ix hc,hold]
       rw[e7,e8,AM,vR abl];have:=st4.put (c' :=iD cur (Builtin.bitOr tk b) (old+cn)) hab;rw[List.set_set]at this;exact this
     ·have hc:¬Builtin.bitAnd tk b=0:=fun z=>hc (JP (Je V.int z))
      refine⟨_,rfl,hf3,?_⟩;have e8:bU tk cn cur b=cur:=by
       unfold bU;rw[Iq hc]
      rw[e7,e8];exact st4
    ·rintro σ G3 ⟨g,rfl,hf3,st4⟩
     refine⟨_,_,_,rfl,hf3,?_⟩;have e5:(ct.take (j+1)).foldl (cC B) c0=((B.take (B.map V.int).length).foldl (bU tk cn) cj):=by
      rw[Kq,etc,List.foldl_append,<-hcj,Ik,Jq];rfl
     rw[e5];exact st4
   ·rintro σ G2 ⟨d,e,g,rfl,hf,st2⟩
    refine⟨lev,o,bL ct,hf,nf,_,_,_,_,_,_,rfl,?_⟩;have e6:(wl Ls B i).set (i+1) ((ct.take (bL ct).length).foldl (cC B) c0)=wl Ls B (i+1):=by
     rw[pP,Jq,wl,JG,hc0,JG,ec];rfl
    rw[<- e6];exact st2
  ·rintro σ G ⟨a,b,c,d,e,g,rfl,st⟩
   refine⟨_,rfl,?_⟩;refine q _ _ st.1 (Rp.lst.mpr ⟨Aa,_,rfl,fun _=>⟨st.2.1,st.2.2.1⟩,bN.of st.2.2.1,?_⟩);have eL:us.length=Ls.length:=ulen;rw[eL]at st;refine oG st.2.2.2.2.2.1 fun qq d' c' w1 w2=> ?_;obtain⟨m0,m1⟩:=st.at w1 w2;refine⟨m0,?_⟩;unfold del;rw[Iq (fun z:d' =Aa=>st.2.2.2.1 (z▸JL w1))];exact m1
end
noncomputable def fK(cs:List Nat)(i:Nat):List Int:=((List.range i).filter fun c=>cs.getD c 0==120).map fun c=>((2^c:Nat):Int)
noncomputable def bg(z:Str):List Int:=fK z.cps.toList z.length
theorem rF(cs:List Nat)(i:Nat):fK cs (i+1)=fK cs i++(if cs.getD i 0==120 then[((2^i:Nat):Int)]else[]):=by
 unfold fK;rw[K2,KU,JQ];cases h:cs.getD i 0==120
 ·simp only[KQ,List.filter_nil,h]
  rfl
 ·simp only[KQ,List.filter_nil,h]
  rfl
theorem mQ(cs:List Nat)(i:Nat):(fK cs i).length<=i:=by
 unfold fK;rw[Ik];exact JO (Jc _ _) (by rw[JU];exact Io _)
theorem rG{cs:List Nat}{i:Nat}(h:i<=8):dH (fK cs i):=fun b hb=>by
 unfold fK at hb;obtain⟨c,hc,rfl⟩:=JE.mp hb;have:=KR.mp (KI.mp hc).1;exact⟨c,rfl,by omega⟩
theorem c46(k:Nat)(z:Str)(hz:z.length<=8):aH P (k+1) 46 [.str z]=some (.lst ((bg z).map .int)):=by
 refine bV rfl rfl ?_;simp only[d46,entry];walk_at "go";refine bj (xs:=signs z) (n:=true) ?_ (fun i τ=>∃a,τ=[.frz (.str z) true,.own ((fK z.cps.toList i).map .int) true,.frz (.int ((2^i:Nat):Int)) true,a]) ⟨_,rfl⟩ ?_ ?_
 ·walk_at "ev"
 ·rintro i y τ hy ⟨a,rfl⟩
  have hi:i<z.length:=by
   have:=(Iw.mp hy).1;rw[cA]at this;exact this
  obtain⟨c,hc,rfl⟩:∃c,z.cps.toList[i]? =some c/\y=.str ⟨#[c]⟩:=by
   unfold signs at hy;rw[Iy]at hy;cases e:z.cps.toList[i]? with
   | none=>rw[e]at hy;cases hy
   | some c=>rw[e]at hy;exact⟨c,rfl,(JF hy).symm⟩
  have hg:z.cps.toList.getD i 0=c:=by rw[JG,hc];rfl
  refine⟨_,rfl,?_⟩;have rs:=rF z.cps.toList i;rw[hg]at rs;have hlen:((fK z.cps.toList i).map PV.int).length<LN:=by
   rw[Ik];have:=mQ z.cps.toList i;show _<16777216;omega
  have e2:((2^i:Nat):Int)*2=((2^(i+1):Nat):Int):=by rw[Nat.pow_succ];push_cast;rfl
  walk_at "ev";rw[rA];cases hx:c==120 with
  | true =>
   rw[hx]at rs;walk_at "ev";rw[cF rfl hlen];walk_at "ev";exact⟨_,by rw[rs,e2,JQ];rfl⟩
  | false =>
   rw[hx]at rs;walk_at "ev";exact⟨.frz (.str ⟨#[c]⟩) true,by rw[rs,e2];simp⟩
 ·rintro τ ⟨a,rfl⟩
  rw[cA];walk_at "ev";rfl
theorem c47(k:Nat)(Ls:List ak)(B:List Int)(h1:Ls.length<=100)(h2:B.length<=100)(h3:∀c∈Ls,c.length<=1000):aH P (k+1) 47 [.lst (Ls.map i7),.lst (B.map .int)]=some (.lst ((wl Ls B Ls.length).map i7)):=by
 refine run rfl rfl ?_;have e:bT [.lst (Ls.map i7),.lst (B.map .int)]=some (.lst ((wl Ls B Ls.length).map i7)):=by
  unfold bT;dsimp only;rw[rf,fR];simp only[Jl];rw[Ix ⟨h1,h2,by rw[JJ];intro c hc;exact JP (h3 c hc)⟩]
 show eT (bJ (aH P k) 1000000 FU.body (entry FU [.lst (Ls.map i7),.lst (B.map .int)]))=_;simp only[FU,yV,yW,gM,ff,fm,fk,gB,gF,fe,fw,gJ,gH,gO,gA,ft,fq,gI,fj,fh,fg,gG,gN,gL,gK,gE,gC,fo,fz,entry];have e2:((List.map (fun v=>TV.frz v (imm v)) [PV.lst (Ls.map i7),.lst (B.map .int)]++List.replicate (9-[PV.lst (Ls.map i7),.lst (B.map .int)].length) TV.un).take 2).map TV.valD=[.lst (Ls.map i7),.lst (B.map .int)]:=rfl;rw[e2,e];rfl
noncomputable def qK(rows:List Str):List Int:=vv (b7 (rows.map bg))
theorem c48(k:Nat)(rows:List Str)(h8:rows.length<=8)(w8:∀z∈rows,z.length<=8):aH P (k+2) 48 [.tup (rows.map .str)]=some (.lst ((qK rows).map .int)):=by
 refine bV rfl rfl ?_;have im:=cK rows;have good:∀i,(∀B∈(rows.take i).map bg,dH B):=fun i B hB=>by
  obtain⟨z,hz,rfl⟩:=JE.mp hB;exact rG (w8 z (Kw hz))
 simp only[d48,entry];walk_at "ev";rw[im];refine bj (xs:=rows.map PV.str) (n:=true) ?_ (fun i τ=>∃a,τ=[.frz (.tup (rows.map .str)) true,.frz (.lst ((b7 ((rows.take i).map bg)).map i7)) true,a]) ⟨_,rfl⟩ ?_ ?_
 ·walk_at "ev"
 ·rintro i y τ hy ⟨a,rfl⟩
  obtain⟨z,hz,hm,rfl⟩:∃z,rows[i]? =some z/\z∈rows/\y=.str z:=by
   rw[Iy]at hy;cases e:rows[i]? with
   | none=>rw[e]at hy;cases hy
   | some z=>rw[e]at hy;exact⟨z,rfl,JL e,(JF hy).symm⟩
  have hi:i<rows.length:=(Iw.mp hz).1;obtain⟨g1,g2⟩:=eh (good i);have g1' :(b7 ((rows.take i).map bg)).length<=9:=by rw[g1,Ik,JS];omega
  have hb:(bg z).length<=100:=by
   have:=mQ z.cps.toList z.length;have:=w8 z hm;unfold bg;omega
  refine⟨_,rfl,?_⟩;walk_at "ev";rw[c46 k z (w8 z hm)];walk_at "ev";rw[c47 k _ _ (by omega) hb (fun c hc=>JO (g2 c hc).len (by decide))];walk_at "ev";refine⟨.frz (.str z) true,?_⟩;rw[Kq,hz,JQ];show[TV.frz (.tup (rows.map .str)) true,.frz (.lst ((wl (b7 ((rows.take i).map bg)) (bg z) (b7 ((rows.take i).map bg)).length).map i7)) true,TV.frz (.str z) true]=[_,TV.frz (.lst ((b7 ((rows.take i).map bg++[bg z])).map i7)) true,_];rw[iF]
 ·rintro τ ⟨a,rfl⟩
  rw[Ik,Jq];obtain⟨g1,g2⟩:=eh (good rows.length);rw[Jq]at g1 g2;have hl:((b7 (rows.map bg)).map i7).length<=16777216:=by rw[Ik,g1,Ik];omega
  walk_at "ev";rw[Ix hl];rw[cL (p:=fun c=>decide (0<List.length c)) (g:=fun c=>PV.int (iA c)) (fun c hc=> ?h)]
  case h =>
   have e1:ag (c.map fun p=>PV.int p.2)=some (c.map (·.2)):=by
    have:=fR (c.map (·.2));rw[Jf]at this;exact this
   unfold i7;walk_at "ev";rw[Ik]
   by_cases h0:0<c.length
   ·have h0' :(0:Int)<(c.length:Int):=by omega
    simp only[h0,h0',decide_true,Kp];rw[e1];rfl
   ·have h0' :¬(0:Int)<(c.length:Int):=by omega
    simp only[h0,h0',decide_false];rfl
  walk_at "ev";unfold qK vv;rw[Jf];rfl
theorem c20(k:Nat)(c:Int):∃v,aH P (k+2) 20 [.int c]=some v/\∃d:Int,0<=d/\v=.int d:=by
 refine oF rfl rfl ?_;simp only[d20,entry];walk_at "go"
 split
 ·rename_i h
  walk_at "ev";refine⟨_,rfl,_,?_,rfl⟩;have h:=Jy h;omega
 ·walk_at "ev"
  refine bj (xs:=(List.range 8).map fun i=>.int (0+(i:Nat))) (n:=true) ?_ (fun i τ=>∃(d:Int)(b:TV),τ=[.frz (.int c) true,.frz (.int d) true,b]/\0<=d) ?_ ?_ ?_
  ·rfl
  ·exact⟨0,.un,rfl,by omega⟩
  ·rintro i y τ hy ⟨d,b,rfl,hd⟩
   obtain⟨hi,rfl⟩:=cE hy;refine⟨_,rfl,?_⟩;obtain⟨q,b1,b2,e5⟩:=c5 k c (7*(i:Int)+3) (by omega) (by omega);walk_at "go";rw[e5];walk_at "go";exact⟨_,_,rfl,by omega⟩
  ·rintro τ ⟨d,b,rfl,hd⟩
   walk_at "ev";exact⟨_,rfl,d,hd,rfl⟩
theorem lh:∀ps:List (Int×Int),gY (ps.map eE)=some ps
 | []=>rfl
 | p::ps=>by
  show((wD (eE p)).bind fun q=>(gY (ps.map eE)).map (q::·))=_;rw[lh ps];rfl
theorem tw{ps:List (Int×Int)}(h0:ps≠[])(hl:ps.length<64)(hb:∀q∈ps,0<=q.2/\q.2<1000):la (ps.map eE)=some (.own ((b5 ps).map eE) true):=by
 unfold la;have e:ag (ps.map eE)=none:=by
  cases ps with
  | nil=>exact absurd rfl h0
  | cons p ps=>rfl
 rw[e];show oA _=_;unfold oA;rw[lh];have ha:ps.all (fun q=>decide (0<=q.2)&&decide (q.2<1000))=true:=by
  rw[JJ];intro q hq
  simpa using hb q hq
 show(if ps.length<64/\ps.all (fun q=>decide (0<=q.2)&&decide (q.2<1000))=true then some (RV.own ((b5 ps).map eE) true)else none)=_;rw[Ix ⟨hl,ha⟩]
theorem jh(rows:List Str)(h8:rows.length<=8)(w8:∀z∈rows,z.length<=8):qK rows=vw (aC rows):=by
 have hc:kR (rows.map kD):=fun r hr c hcc=>by
  obtain⟨z,hz,rfl⟩:=JE.mp hr;have:=KR.mp (KI.mp hcc).1;have:=w8 z hz;omega
 have e:rows.map bg=(rows.map kD).map bn:=by rw[Jf];rfl
 unfold qK aC;rw[e];exact yv _ hc (by rw[Ik];omega)
theorem vx(rows:List Str)(h8:rows.length<=8)(w8:∀z∈rows,z.length<=8):(qK rows).length<=65:=by
 rw[jh rows h8 w8];unfold vw;refine JO (Jc _ _) ?_;simp
noncomputable def dI(c:aG):Int×Int:=(((c.1:Nat):Int),((c.2:Nat):Int))
theorem fC(l:List aG):aB l=(l.map dI).map eE:=by
 unfold aB;rw[Jf];rfl
theorem ri{a c:aG}(h:dI a=dI c):a=c:=by
 unfold dI at h;have h1:=Je Prod.fst h;have h2:=Je Prod.snd h;simp only at h1 h2;exact Prod.ext (by omega) (by omega)
theorem eR(a c:aG):eS (aV a.1 a.2) (aV c.1 c.2)=decide (a=c):=by
 show(decide (((a.1:Nat):Int)=((c.1:Nat):Int))&&(decide (((a.2:Nat):Int)=((c.2:Nat):Int))&&true))=_;rw[LV,Jb,Iu,JX,JX,JX];exact⟨fun h=>Prod.ext (by omega) (by omega),fun h=>by rw[h];exact⟨rfl,rfl⟩⟩
theorem o7(c:aG)(p:List aG):si (aV c.1 c.2) (aB p)=some (decide (c∈p)):=by
 have f:∀q:aG,bv 12 (aV q.1 q.2)=true:=fun q=>rfl;unfold si;rw[Iq (fun z=>by cases z.1),Ix]
 ·refine Je some ?_
  rw[Jb,List.any_eq_true,JX]
  constructor
  ·rintro⟨y,hy,e⟩
   obtain⟨q,hq,rfl⟩:=JE.mp hy;rw[eR]at e;rw[<- Jy e];exact hq
  ·intro h
   exact⟨_,JE.mpr ⟨c,h,rfl⟩,by rw[eR];exact JP rfl⟩
 ·rw[f,Bool.true_and,JJ]
  intro y hy;obtain⟨q,_,rfl⟩:=JE.mp hy;exact f q
theorem uN(c:aG)(p:List aG):ah .NotIn (aV c.1 c.2) (.tup (aB p))=some (!decide (c∈p)):=by
 show(si (aV c.1 c.2) (aB p)).map (!·)=_;rw[o7];rfl
theorem lq(c:aG)(p:List aG):ah .NotIn (aV c.1 c.2) (.lst (aB p))=some (!decide (c∈p)):=by
 show(si (aV c.1 c.2) (aB p)).map (!·)=_;rw[o7];rfl
theorem xM(j:Nat)(c:aG)(p:List aG):((p.filter fun y=>SK j y c).isEmpty&& !decide (c∈p))=p.all fun y=> !SK j y c:=by
 have e:(p.filter fun y=>SK j y c).isEmpty=p.all fun y=> !SK j y c:=by
  induction p with
  | nil=>rfl
  | cons x p ih =>
   rw[KQ,Kh,<-ih];cases SK j x c<;>rfl
 rw[e]
 by_cases h:c∈p
 ·have:(p.all fun y=> !SK j y c)=false:=by
   rw[List.all_eq_false];exact⟨c,h,by rw[nY];exact Ir⟩
  rw[this];rfl
 ·rw[JK h,Le,LV]
theorem Hc{l:List aG}{i:Nat}{y:PV}(h:(aB l)[i]? =some y):∃c,l[i]? =some c/\y=aV c.1 c.2:=by
 unfold aB at h;rw[Iy]at h;obtain⟨c,hc,rfl⟩:=map_some h;exact⟨c,hc,rfl⟩
theorem au(l:List aG):(aB l).length=l.length:=by
 unfold aB;rw[Ik]
theorem Hh(k j:Nat)(hj:j<3)(p l:List aG)(hp:p.length<=1000)(hl:l.length<=1000)(v:PV)(hv:v=.tup (aB p)\/v=.lst (aB p)):aH P (k+2) 196 [.str (aN j),v,.lst (aB l)]=some (.lst (aB (fc (SK j) p l))):=by
 have ip:imms (aB p)=true:=aw p;have il:imms (aB l)=true:=aw l;have iv:∃b,imm v=b:=⟨_,rfl⟩;obtain⟨b,iv⟩:=iv;obtain⟨m,e0,hs⟩:∃m e0,ia (.frz v b)=some (aB p,m,e0):=by
  rcases hv with rfl|rfl
  ·exact⟨_,_,rfl⟩
  ·exact⟨_,_,rfl⟩
 have hn:∀c:aG,ah .NotIn (aV c.1 c.2) v=some (!decide (c∈p)):=fun c=>by
  rcases hv with rfl|rfl
  ·exact uN c p
  ·exact lq c p
 refine bV rfl rfl ?_;simp only[EG,entry];walk_at "ev";rw[iv];refine bj (xs:=aB l) (n:=false) ?_ (fun i τ=>∃a c,τ=[.frz (.str (aN j)) true,.frz v b,.frz (.lst (aB l)) false,.own (aB (fc (SK j) p (l.take i))) true,a,c]) ⟨_,_,rfl⟩ ?_ ?_
 ·walk_at "ev"
 ·rintro i y τ hy ⟨a,d,rfl⟩
  obtain⟨c,hc,rfl⟩:=Hc hy;have ic:imm (aV c.1 c.2)=true:=rfl;refine⟨_,rfl,?_⟩;have key:∀r,r=p.all (fun y=> !SK j y c)->fc (SK j) p (l.take (i+1))=fc (SK j) p (l.take i)++if r=true then[c]else[]:=fun r hr=>by
   unfold fc;rw[iz hc,KU,KQ,<-hr];cases r<;>rfl
  walk_at "ev";rw[hs];walk_at "ev";rw[Ix (by rw[au];omega)];unfold aB at hs ⊢;rw[cL (p:=fun y=>SK j y c) (g:=fun c:aG=>aV c.1 c.2) (fun y hy=>by
   rw[Hk k j hj y c];walk_at "ev";rw[show imm (aV y.1 y.2)=true from rfl,Lb];cases SK j y c
   ·walk_at "ev"
   ·walk_at "ev")]
  rw[ic];walk_at "ev";rw[show ah .Eq (PV.lst ((p.filter fun y=>SK j y c).map fun c:aG=>aV c.1 c.2)) (.lst [])=some (p.filter fun y=>SK j y c).isEmpty from Du _];walk_at "ev";rw[hn c];have hk:=key _ rfl;rw[<- xM]at hk;unfold fc at hk ⊢;cases h1:(p.filter fun y=>SK j y c).isEmpty with
  | false =>
   rw[h1]at hk;walk_at "ev";rw[hk];exact⟨_,_,by rw[LF,Iq Ir,Jp]⟩
  | true =>
   rw[h1]at hk;cases h2:decide (c∈p)with
   | true =>
    rw[h2]at hk;walk_at "ev";rw[hk];exact⟨_,_,by rw[Bool.not_true,Bool.and_false,Iq Ir,Jp]⟩
   | false =>
    rw[h2]at hk;walk_at "ev"
    rw[cF rfl (by
     have z:=Jc (fun c=>p.all fun y=> !SK j y c) (l.take i);rw[JS]at z;rw[Ik];show _<16777216;omega)]
    walk_at "ev";rw[hk];exact⟨_,_,by rw[Le,LV,Ix rfl,JQ];rfl⟩
 ·rintro τ ⟨a,d,rfl⟩
  rw[au,Jq];walk_at "ev"
theorem AI(a c:Int×Int):eS (eE a) (eE c)=decide (a=c):=by
 show(decide (a.1=c.1)&&(decide (a.2=c.2)&&true))=_;rw[LV,Jb,Iu,JX,JX,JX];exact⟨fun h=>Prod.ext h.1 h.2,fun h=>by rw[h];exact⟨rfl,rfl⟩⟩
theorem AU{α:Type}(xs:List α)(m:Nat):cut xs none (some ((m:Nat):Int))=xs.take m:=by
 unfold cut;rw[HT.jf,HT.i5,List.drop_zero,Nat.sub_zero,<-List.take_eq_take_min]
theorem vi{xs:List PV}{n:Bool}{m:Nat}:slice (.frz (.tup xs) n) none (some ((m:Nat):Int))=some (.frz (.tup (xs.take m)) n):=by
 rw[mq,AU]
 split
 ·rename_i h
  obtain⟨_,h2⟩:=h;rw[HT.i5]at h2;rw[KN (by omega)]
 ·rfl
theorem zx{o:Option Fl}{k:En->Option Fl}{Q:Fl->Prop}{τ:En}(h:o=some (.nx τ))(hk:To (k τ) Q):To (o.bind fun f=>dE f k) Q:=by
 rw[h];exact hk
theorem sx(a c:Int×Int)(h:¬a=c):Dh (eE a) (eE c)=some (!p6 a c):=by
 show(if decide (a.1=c.1)=true then(if decide (a.2=c.2)=true then some true else some (decide (c.2<=a.2)))else some (decide (c.1<=a.1)))=_;unfold p6
 by_cases h1:a.1=c.1
 ·have h2:¬a.2=c.2:=fun z=>h (Prod.ext h1 z)
  rw[Ix (JP h1),Iq (by simpa using h2),Ix h1]
  congr 1
  rw[Jb,Ke,JX,K6];omega
 ·rw[Iq (by simpa using h1),Iq h1]
  congr 1
  rw[Jb,Ke,JX,K6];omega
theorem pF:∀(q p:List (Int×Int)),q.length=p.length->ud (q.map eE) (p.map eE)=some (!OD.lex p6 q p)
 | [],[],_=>rfl
 | [],_::_,h=>by cases h
 | _::_,[],h=>by cases h
 | a::q,c::p,h=>by
  show(if eS (eE a) (eE c)=true then ud (q.map eE) (p.map eE)else Dh (eE a) (eE c))=_;rw[AI]
  by_cases e:a=c
  ·subst e
   rw[Ix (JP rfl),pF q p (La h)];show _=some (!(if a=a then OD.lex p6 q p else p6 a a));rw[Ix rfl]
  ·rw[Iq (by simpa using e),sx a c e]
   show _=some (!(if a=c then OD.lex p6 q p else p6 a c));rw[Iq e]
theorem Di{q p:List (Int×Int)}(h:q.length=p.length):ah .GtE (.tup (q.map eE)) (.tup (p.map eE))=some (!OD.lex p6 q p):=by
 have f:∀l:List (Int×Int),bv 12 (.tup (l.map eE))=true:=fun l=>by
  show(l.map eE).all (bv 11)=true;rw[List.all_map,JJ];exact fun x _=>rfl
 show geT (.tup (q.map eE)) (.tup (p.map eE))=_;unfold geT;rw[f,f,Bool.and_self,Ix rfl];exact pF q p h
noncomputable def ltN(a c:aG):Bool:=p6 (dI a) (dI c)
theorem AC{a c:aG}(h:ltN a c=true)(hn:a≠c):ah .GtE (aV a.1 a.2) (aV c.1 c.2)=some false:=by
 have e:=sx (dI a) (dI c) (fun z=>hn (ri z));rw[show p6 (dI a) (dI c)=true from h]at e;exact e
theorem tP{p:List aG}{i:Nat}{x:aG}(h:p[i]? =some x):dC (aB p) (i:Int)=some (aV x.1 x.2):=by
 refine bh ?_;unfold aB;rw[Iy,h];rfl
theorem c197(k j:Nat)(hj:j<3)(p l:List aG)(hs:p.Sublist l)(hl:l.Pairwise fun a c=>ltN a c=true/\a≠c)(ha:p.Pairwise fun u v=>SK j u v=false)(ll:l.length<=64):aH P (k+2) 197 [.tup (aB p),.str (aN j),.lst (aB l),.int (p.length:Nat)]=some (.bl true):=by
 have ip:imms (aB p)=true:=aw p;have hpl:=hs.length_le;have hp:=hl.sublist hs;refine bV rfl rfl ?_;simp only[EF,entry];walk_at "ev";rw[ip,au,JP (show((p.length:Nat):Int)=(p.length:Int)from rfl)];walk_at "ev";refine bj (xs:=(List.range p.length).map fun i=>.int (0+(i:Nat))) (n:=true) ?_ (fun i τ=>∃a c,τ=[.frz (.tup (aB p)) true,.frz (.str (aN j)) true,.frz (.lst (aB l)) false,.frz (.int (p.length:Nat)) true,a,c]) ⟨_,_,rfl⟩ ?_ ?_
 ·walk_at "ev"
  simp only[io,br];rw[Ix ⟨by omega,by omega⟩];rfl
 ·rintro i y τ hy ⟨a,c,rfl⟩
  obtain⟨hi,rfl⟩:=cE hy;obtain⟨x,hx⟩:∃x,p[i]? =some x:=⟨_,Iv hi⟩;have ax:=tP hx;have hxl:x∈l:=hs.subset (JL hx);refine⟨_,rfl,?_⟩;walk_at "ev";rw[ax];walk_at "ev";rw[lq,JP hxl];walk_at "ev";have hge:0<i->∃x' :aG,dC (aB p) ((i:Int)-1)=some (aV x'.1 x'.2)/\ah .GtE (aV x'.1 x'.2) (aV x.1 x.2)=some false:=fun h0=>by
   obtain⟨x',hx'⟩:∃x' :aG,p[i-1]? =some x' :=⟨_,Iv (by omega)⟩;have:=tP hx';rw[show((i-1:Nat):Int)=(i:Int)-1 by omega]at this;have r:=KZ.mp hp (i-1) i (by omega) hi (by omega);rw[Iv (by omega)]at hx hx';rw[JF hx,JF hx']at r;exact⟨x',this,AC r.1 r.2⟩
  refine zx (τ:=[.frz (.tup (aB p)) true,.frz (.str (aN j)) true,.frz (.lst (aB l)) false,.frz (.int (p.length:Nat)) true,.frz (.int (i:Nat)) true,c]) ?_ ?_
  ·by_cases h0:0<i
   ·obtain⟨x',g1,g2⟩:=hge h0
    rw[JP (show(0:Int)<(i:Int)by omega),g1];walk_at "ev";rw[g2];rfl
   ·rw[JK (show¬(0:Int)<(i:Int)by omega)]
    rfl
  walk_at "ev";rw[<- mq,vi,show(aB p).take i=aB (p.take i)by unfold aB;rw[List.map_take]];walk_at "ev";rw[Ix (by rw[au,JS];omega)];rw[show aB (p.take i)=(p.take i).map fun c:aG=>aV c.1 c.2 from rfl,cL (p:=fun y=>SK j y x) (g:=fun c:aG=>aV c.1 c.2) (fun y hy=>by
   rw[ax];walk_at "ev";rw[Hk k j hj y x];walk_at "ev";cases SK j y x
   ·walk_at "ev"
   ·walk_at "ev")]
  have hnone:(p.take i).filter (fun y=>SK j y x)=[]:=by
   refine List.filter_eq_nil_iff.mpr fun y hy=> ?_;obtain⟨m,hm,rfl⟩:=Kx.mp hy;rw[JS]at hm;rw[List.getElem_take];have r:=KZ.mp ha m i (by omega) hi (by omega);rw[Iv (by omega)]at hx;rw[JF hx]at r;rw[r];exact Ir
  rw[hnone];walk_at "ev";exact⟨_,rfl,_,_,rfl⟩
 ·rintro τ ⟨a,c,rfl⟩
  walk_at "ev"
theorem HL{o:Option Fl}{k:En->Option Fl}{Q:Fl->Prop}(τ:Bool->En)(h:∃f,o=some (.nx (τ f)))(hk:∀f,To (k (τ f)) Q):To (o.bind fun f=>dE f k) Q:=by
 obtain⟨f,h⟩:=h;rw[h];exact hk f
theorem sd:∀p q:List aG,OD.lex p6 (p.map dI) (q.map dI)=OD.lex ltN p q
 | [],[]=>rfl
 | [],_::_=>rfl
 | _::_,[]=>rfl
 | x::p,y::q=>by
  show(if dI x=dI y then OD.lex p6 (p.map dI) (q.map dI)else p6 (dI x) (dI y))=(if x=y then OD.lex ltN p q else ltN x y)
  by_cases e:x=y
  ·rw[Ix e,Ix (by rw[e]),sd p q]
  ·rw[Iq e,Iq (fun z=>e (ri z))]
   rfl
theorem HS{p q:List aG}(hl:p.length=q.length)(h:OD.lex ltN p q=true):ah .GtE (ba p) (ba q)=some false:=by
 have e:=Di (q:=p.map dI) (p:=q.map dI) (by rw[Ik,Ik,hl]);rw[sd,h,<-fC,<-fC]at e;exact e
theorem BP{L:List (List aG)}{i:Nat}{p:List aG}(h:L[i]? =some p):dC (L.map ba) (i:Int)=some (ba p):=by
 refine bh ?_;rw[Iy,h];rfl
theorem pq(xs:List PV)(v:PV):dC (xs++[v]) (-1)=some v:=by
 have e:L2.oz (xs++[v]).length (-1)=some xs.length:=by
  unfold L2.oz;rw[Iq (by omega),JA,LO];rw[Ix (by omega)]
  congr 1
  omega
 unfold L2.dC;rw[e];show(xs++[v])[xs.length]? =_;rw[Jv (Io _),Nat.sub_self];rfl
theorem c198(k j n:Nat)(hj:j<3)(L:List (List aG))(l:List aG)(hL:L.length<=1000)(good:∀p∈L,p.Sublist l/\p.length=n/\p.Pairwise fun u v=>SK j u v=false)(IJ:L.Pairwise fun p q=>OD.lex ltN p q=true)(hl:l.Pairwise fun a c=>ltN a c=true/\a≠c)(ll:l.length<=64) :
  aH P (k+3) 198 [.lst (L.map ba),.str (aN j),.lst (aB l),.int (n:Nat)]=some (.bl true):=by
 refine bV rfl rfl ?_;simp only[EE,entry];walk_at "ev";refine bj (xs:=(List.range L.length).map fun i=>.int (0+(i:Nat))) (n:=true) ?_ (fun i τ=>∃a,τ=[.frz (.lst (L.map ba)) false,.frz (.str (aN j)) true,.frz (.lst (aB l)) false,.frz (.int (n:Nat)) true,a]) ⟨_,rfl⟩ ?_ ?_
 ·walk_at "ev"
  simp only[io,br,Ik];rw[Ix ⟨by omega,by omega⟩];rfl
 ·rintro i y τ hy ⟨a,rfl⟩
  obtain⟨hi,rfl⟩:=cE hy;obtain⟨p,hp⟩:∃p,L[i]? =some p:=⟨_,Iv hi⟩;obtain⟨g1,g2,g3⟩:=good p (JL hp);have ap:=BP hp;have e197:aH P (k+2) 197 [ba p,.str (aN j),.lst (aB l),.int (n:Nat)]=some (.bl true):=by
   have:=c197 k j hj p l g1 hl g3 ll;rw[g2]at this;exact this
  refine⟨_,rfl,?_⟩;walk_at "ev";rw[ap];walk_at "ev";rw[e197];walk_at "ev"
  by_cases h0:0<i
  ·obtain⟨q,hq⟩:∃q,L[i-1]? =some q:=⟨_,Iv (by omega)⟩
   have aq:=BP hq;rw[show((i-1:Nat):Int)=(i:Int)-1 by omega]at aq;have r:=KZ.mp IJ (i-1) i (by omega) hi (by omega);obtain⟨_,q2,_⟩:=good q (JL hq);rw[Iv (by omega)]at hp hq;rw[JF hp,JF hq]at r;rw[JP (show(0:Int)<(i:Int)by omega)];walk_at "ev";rw[aq];walk_at "ev";rw[ap];walk_at "ev";rw[HS (by omega) r];walk_at "ev";exact⟨_,rfl⟩
  ·rw[JK (show¬(0:Int)<(i:Int)by omega)]
   walk_at "ev";exact⟨_,rfl⟩
 ·rintro τ ⟨a,rfl⟩
  walk_at "ev"
theorem xK{l a b:List aG}{y:aG}(hl:l=a++b)(nd:l.Nodup)(ha:a.getLast? =some y):nH (aV y.1 y.2) (aB l)=some (sc (.int (((a.length-1:Nat):Nat):Int))):=by
 have f:∀q:aG,bv 12 (aV q.1 q.2)=true:=fun q=>rfl;have ane:a≠[]:=fun z=>by rw[z]at ha;cases ha
 have a0:0<a.length:=List.length_pos_iff.mpr ane;have hlen:a.length<=l.length:=by rw[hl,JA];omega
 have hy:l[a.length-1]? =some y:=by
  rw[hl,Jx (by omega),<-List.getLast?_eq_getElem?];exact ha
 unfold nH;rw[Ix]
 ·have e:(aB l).findIdx? (fun z=>eS z (aV y.1 y.2))=some (a.length-1):=by
   rw[K9];have at' :∀i (hi:i<(aB l).length),(aB l)[i]=aV (l[i]'(by rw[au]at hi;exact hi)).1 (l[i]'(by rw[au]at hi;exact hi)).2:=fun i hi=>by
    exact List.getElem_map ..
   have hy' :l[a.length-1]'(by omega)=y:=by
    rw[Iv (by omega)]at hy;exact JF hy
   refine⟨by rw[au];omega,?_,fun i hi=> ?_⟩
   ·rw[at',eR,hy']
    exact JP rfl
   ·rw[at',eR]
    intro z;have z:=Jy z;rw[<- hy']at z;exact KZ.mp nd i (a.length-1) (by omega) (by omega) hi z
  rw[e];rfl
 ·rw[f,LV,JJ]
  intro z hz;obtain⟨q,_,rfl⟩:=JE.mp hz;exact f q
theorem zg(y:aG)(ys:List aG):ah .NotEq (ba (y::ys)) (.tup [])=some true:=by
 have f:bv 12 (ba (y::ys))=true:=by
  show(aB (y::ys)).all (bv 11)=true;rw[JJ];intro z hz;obtain⟨c,_,rfl⟩:=JE.mp hz;rfl
 show((if bv 12 (ba (y::ys))&&bv 12 (.tup [])then some (eS (ba (y::ys)) (.tup []))else none).map (!·))=_;rw[f];rfl
theorem gk:∀X:List (List aG×List aG),(∀x∈X,x.2.length<=64)->(X.flatMap fun x=>x.2.map fun c=>x.1++[c]).length<=X.length*64
 | [],_=>JR _
 | x::X,h=>by
  have h1:=gk X fun y hy=>h y (Im _ hy);have h2:=h x Ip;rw[List.flatMap_cons,JA,Ik,JI];omega
theorem c199(k j:Nat)(hj:j<3)(X:List (List aG×List aG))(l:List aG)(hI:∀x∈X,(∃a b,LvI (SK j) l x a b)/\x.1.length<=8)(nd:l.Nodup)(ll:l.length<=64)(hX:X.length<=1000) :
  aH P (k+3) 199 [.lst (X.map fun x=>ba x.1),.str (aN j),.lst (aB l)]=some (.lst ((X.flatMap fun x=>x.2.map fun c=>x.1++[c]).map ba)):=by
 have il:imms (aB l)=true:=aw l;refine bV rfl rfl ?_;simp only[ED,entry];walk_at "ev";refine bj (xs:=X.map fun x=>ba x.1) (n:=false) ?_ (fun i τ=>∃a b,τ=[.frz (.lst (X.map fun x=>ba x.1)) false,.frz (.str (aN j)) true,.frz (.lst (aB l)) false,.frz (.lst (((X.take i).flatMap fun x=>x.2.map fun c=>x.1++[c]).map ba)) true,a,b]) ⟨_,_,rfl⟩ ?_ ?_
 ·walk_at "ev"
 ·rintro i y τ hy ⟨a,d,rfl⟩
  rw[Iy]at hy;obtain⟨x,hx,rfl⟩:=map_some hy;obtain⟨⟨a1,b1,iv⟩,h8⟩:=hI x (JL hx);have hi:i<X.length:=(Iw.mp hx).1;have ip:imm (ba x.1)=true:=aw x.1;have hbl:b1.length<=64:=by have:=iv.cut;rw[this,JA]at ll;omega
  have hfl:x.2.length<=64:=by rw[iv.free];exact JO (Jc _ _) hbl
  refine⟨_,rfl,?_⟩;walk_at "ev";rw[ip];refine HL (fun f=>[.frz (.lst (X.map fun x=>ba x.1)) false,.frz (.str (aN j)) true,.frz (.lst (aB l)) false,.frz (.lst (((X.take i).flatMap fun x=>x.2.map fun c=>x.1++[c]).map ba)) true,.frz (ba x.1) true,.frz (.lst (aB b1)) f]) ?_ fun f=> ?_
  ·cases e:x.1 with
   | nil =>
    have:=iv.nil e;subst this;have hb:l=b1:=iv.cut;subst hb;exact⟨_,rfl⟩
   | cons y0 ys =>
    have ne:x.1≠[]:=by rw[e];exact List.cons_ne_nil _ _
    obtain⟨y,hy⟩:∃y,x.1.getLast? =some y:=⟨_,List.getLast?_eq_some_getLast ne⟩;have ix:=xK iv.cut nd (iv.last y hy);have at1:index (.frz (ba x.1) true) (.frz (.int (-1)) true)=some (.frz (aV y.1 y.2) true):=by
     obtain⟨ws,hw⟩:=List.getLast?_eq_some_iff.mp hy;show((dC (aB x.1) (-1)).map fun e=>RV.frz e (true||imm e))=_;rw[hw,show aB (ws++[y])=aB ws++[aV y.1 y.2]by unfold aB;rw[JQ];rfl,pq];rfl
    have a0:0<a1.length:=by
     have:=iv.last y hy;cases a1 with
     | nil=>cases this
     | cons _ _=>rw[JI];omega
    rw[<- e,show ah .NotEq (ba x.1) (.tup [])=some true by rw[e];exact zg y0 ys,at1];walk_at "ev";rw[show jt .index (.frz (.lst (aB l)) false) [.frz (aV y.1 y.2) true]=some (sc (.int (((a1.length-1:Nat):Nat):Int)))from ix];walk_at "ev";rw[show(((a1.length-1:Nat):Nat):Int)+1=((a1.length:Nat):Int)by omega,df,pT,show(aB l).drop a1.length=aB b1 by unfold aB;rw[<- List.map_drop,iv.cut,List.drop_left]];walk_at "ev";exact⟨_,rfl⟩
  ·walk_at "ev"
   rw[Hh k j hj x.1 b1 (by omega) (by omega) (ba x.1) (.inl rfl),<-iv.free];walk_at "ev";rw[Ix (by rw[au];omega),show aB x.2=x.2.map fun c:aG=>aV c.1 c.2 from rfl,dq (g:=fun c:aG=>ba (x.1++[c])) (fun c hc=>by
    rw[show cN .Add (.frz (ba x.1) true) (.frz (.tup [aV c.1 c.2]) true)=some (.frz (ba (x.1++[c])) true)from x9 x.1 c (by omega)];rfl)]
   walk_at "ev";have e2:(X.take (i+1)).flatMap (fun x=>x.2.map fun c=>x.1++[c])=(X.take i).flatMap (fun x=>x.2.map fun c=>x.1++[c])++x.2.map fun c=>x.1++[c]:=by
    rw[iz hx,LY,List.flatMap_singleton]
   have hfl2:=gk (X.take i) (fun x hx=>by
    obtain⟨⟨a3,b3,iv3⟩,_⟩:=hI x (Kw hx);have:=iv3.cut;rw[this,JA]at ll;rw[iv3.free];exact JO (Jc _ _) (by omega))
   have htk:(X.take i).length<=1000:=by rw[JS];omega
   rw[Ix (by rw[JA,Ik,Ik];omega)];walk_at "ev";rw[e2,JQ,Jf];exact⟨_,_,rfl⟩
 ·rintro τ ⟨a,d,rfl⟩
  rw[Ik,Jq];walk_at "ev"
theorem HK{α:Type}{o:Option Fl}{k:En->Option Fl}{Q:Fl->Prop}(τ:α->En)(C:α->Prop)(h:∃t,C t/\o=some (.nx (τ t)))(hk:∀t,C t->To (k (τ t)) Q):To (o.bind fun f=>dE f k) Q:=by
 obtain⟨t,c,h⟩:=h;rw[h];exact hk t c
theorem AE(j:Nat)(p l:List aG)(q:aG):fc (SK j) (p++[q]) (fc (SK j) p l)=fc (SK j) (p++[q]) l:=by
 unfold fc;rw[List.filter_filter];refine Kd fun c _=> ?_;rw[List.all_append];cases p.all fun y=> !SK j y c
 ·rfl
 ·rw[LV]
theorem Dj(j:Nat)(p l:List aG)(q:aG)(h:q∈fc (SK j) p l):(fc (SK j) (p++[q]) l).length<(fc (SK j) p l).length:=by
 rw[<- pH];refine List.length_filter_lt_length_iff_exists.mpr ⟨q,h,?_⟩;rw[nY];exact Ir
theorem zh(l:List aG):ah .NotEq (.lst (aB l)) (.lst [])=some (!l.isEmpty):=by
 rw[AY,mH,show bv 12 (.lst [])=true from rfl];cases l<;>rfl
theorem EM{l:List aG}{t:Int}(h0:0<=t)(h1:t<l.length):∃q,dC (aB l) t=some (aV q.1 q.2)/\q∈l:=by
 obtain⟨e,h2,h3⟩:=As (l:=aB l) h0 (by rw[au];exact h1);obtain⟨q,hq,rfl⟩:=JE.mp h3;exact⟨q,h2,hq⟩
noncomputable def yP(q:Int×Int):aG:=(q.1.toNat,q.2.toNat)
theorem rj(c:aG):yP (dI c)=c:=by
 unfold yP dI;rfl
theorem xh{j:Nat}{l fs:List aG}(hl:l.Pairwise fun a c=>ltN a c=true/\ltN c a=false)(hc:∀c∈l,c.2<1000)(hs:∀c∈fs,c∈l)(ha:fs.Pairwise fun u v=>SK j u v=false):∃p:List aG,(b5 (fs.map dI))=p.map dI/\p.length=fs.length/\p.Sublist l/\p.Pairwise fun u v=>SK j u v=false:=by
 have pm:=fO (fs.map dI);have pm2:((b5 (fs.map dI)).map yP).Perm fs:=by
  have:=pm.map yP;rw[Jf]at this;rw[show(yP∘dI)=id from funext rj,List.map_id]at this;exact this
 have back:((b5 (fs.map dI)).map yP).map dI=b5 (fs.map dI):=by
  rw[Jf];refine(Jj fun q hq=> ?_).trans (List.map_id _);obtain⟨c,_,rfl⟩:=JE.mp (pm.mem_iff.mp hq);show dI (yP (dI c))=dI c;rw[rj]
 have hap:((b5 (fs.map dI)).map yP).Pairwise fun u v=>SK j u v=false:=(pm2.pairwise_iff (fun{a b} h=>by rw[A0];exact h)).mpr ha;refine⟨(b5 (fs.map dI)).map yP,back.symm,by rw[pm2.length_eq],qH (lt:=ltN) l _ hl ?_ fun x hx=>hs x (pm2.mem_iff.mp hx),hap⟩;have hle:((b5 (fs.map dI)).map yP).Pairwise fun a b=>SW.cJ (dI a)<=SW.cJ (dI b):=by
  have:=oB (fs.map dI);rw[<- back,Kr]at this;exact this
 refine(List.Pairwise.and hle hap).imp_of_mem fun{a b} ha hb h=> ?_;have a1:=hc a (hs a (pm2.mem_iff.mp ha));have b1:=hc b (hs b (pm2.mem_iff.mp hb));obtain⟨k1,k2⟩:=h;have hne:a≠b:=fun z=>by rw[z,nY]at k2;cases k2
 have hne2:a.1=b.1->a.2≠b.2:=fun z1 z2=>hne (Prod.ext z1 z2);unfold SW.cJ dI at k1;simp only at k1;unfold ltN p6 dI;simp only
 by_cases e:((a.1:Nat):Int)=((b.1:Nat):Int)
 ·have:=hne2 (by omega)
  rw[Ix e,Ix e.symm];exact⟨JP (by omega),JK (by omega)⟩
 ·rw[Iq e,Iq (fun z=>e z.symm)]
  exact⟨JP (by omega),JK (by omega)⟩
noncomputable abbrev xf(j:Nat)(l:List aG)(s:Nat)(D N:Int)(fs:List aG)(f:Bool)(a:TV):En:=[.frz (.str (aN j)) true,.frz (.lst (aB l)) false,.frz (.int (s:Nat)) true,.frz (.int D) true,.frz (.int N) true,.own (aB fs) true,.frz (.lst (aB (fc (SK j) fs l))) f,a]
theorem c200(k j s:Nat)(D:Int)(hj:j<3)(l:List aG)(ll:l.length<=63+1)(hl:l.Pairwise fun a c=>ltN a c=true/\ltN c a=false)(hc:∀c∈l,c.2<1000)(s8:s<=8):∃v,aH P (k+3) 200 [.str (aN j),.lst (aB l),.int (s:Nat),.int D]=some v/\∃p,v=ba p/\p.Sublist l/\p.Pairwise fun u v=>SK j u v=false:=by
 refine oF rfl rfl ?_;simp only[EC,entry];have im:=aw l;have hl0:fc (SK j) [] l=l:=LZ.mpr fun _ _=>rfl;walk_at "ev";obtain⟨N,hN⟩:∃N,N=D%2:=⟨_,rfl⟩;refine whTo (fun m τ=>∃fs D f a,τ=xf j l s D N fs f a/\(∀c∈fs,c∈l)/\fs.Pairwise (fun u v=>SK j u v=false)/\fs.length<=8/\(fc (SK j) fs l).length<=m) l.length (by omega) ⟨[],D/2,false,.un,by rw[hN];unfold xf;rw[hl0];rfl,fun q hq=>(by cases hq),.nil,by decide,by rw[hl0];exact Io _⟩ ?_;rintro m τ ⟨fs,D,f,a,rfl,h1,h2,h3,h4⟩;have hll:(fc (SK j) fs l).length<=l.length:=Jc _ _;refine⟨!(fc (SK j) fs l).isEmpty&&decide ((fs.length:Int)<(s:Int)),?_,fun hb=> ?_,fun hb=> ?_⟩
 ·walk_at "ev"
  rw[zh];cases(fc (SK j) fs l).isEmpty with
  | true=>rfl
  | false =>
   walk_at "ev";rw[au]
 ·rw[Iu]at hb
  have hs:=Jy hb.2;have hne:0<(fc (SK j) fs l).length:=by
   have:=hb.1;cases e:fc (SK j) fs l with
   | nil=>rw[e]at this;cases this
   | cons x l=>rw[JI];omega
  refine⟨by omega,?_⟩;have hlz:(0:Int)<((fc (SK j) fs l).length:Int):=by omega
  walk_at "ev";rw[au,Ix hlz];walk_at "ev";refine HK (fun t:Int=>xf j l s D N fs f (.frz (.int t) true)) (fun t=>0<=t/\t<((fc (SK j) fs l).length:Int)) ?_ fun t ht=> ?_
  ·by_cases hn:N=1
   ·rw[JP hn,au]
    have h2:D%2=0\/D%2=1:=by omega
    rcases h2 with h2|h2
    ·rw[h2]
     exact⟨0,⟨by omega,hlz⟩,rfl⟩
    ·rw[h2]
     exact⟨((fc (SK j) fs l).length:Int)-1,⟨by omega,by omega⟩,rfl⟩
   ·rw[JK hn]
    exact⟨_,⟨Int.emod_nonneg _ (by omega),Ld _ hlz⟩,rfl⟩
  ·obtain⟨q,hq1,hq2⟩:=EM ht.1 ht.2
   have iq:imm (aV q.1 q.2)=true:=rfl;walk_at "ev";rw[hq1];walk_at "ev";rw[cF rfl (by rw[au];show fs.length<16777216;omega)];walk_at "ev";have hq3:q∈l/\∀y∈fs,SK j y q=false:=by
    obtain⟨z1,z2⟩:=KI.mp hq2;rw[JJ]at z2;exact⟨z1,fun y hy=>by simpa using z2 y hy⟩
   rw[iq,Lb,sL,Hh k j hj (fs++[q]) (fc (SK j) fs l) (by rw[JA,LO];omega) (by omega) _ (.inr rfl),AE];walk_at "ev";have lt:=Dj j fs l q hq2;refine⟨_,rfl,fs++[q],D/64,true,_,rfl,fun c hc=> ?_,?_,by rw[JA,LO];omega,by omega⟩
   ·rcases Jw.mp hc with z|z
    ·exact h1 c z
    ·rw[Jg.mp z];exact hq3.1
   ·rw[List.pairwise_append]
    exact⟨h2,K7 _ _,fun u hu v hv=>by rw[Jg.mp hv];exact hq3.2 u hu⟩
 ·walk_at "ev"
  by_cases hf:fs=[]
  ·subst hf
   exact⟨_,rfl,_,rfl,[],by rw[show sortI []=[]from List.mergeSort_nil];rfl,List.nil_sublist _,.nil⟩
  ·obtain⟨p,e1,e2,e3,e4⟩:=xh (j:=j) hl hc h1 h2
   rw[fC,tw (fun z=>hf (List.map_eq_nil_iff.mp z)) (by rw[Ik];omega) (fun q hq=>by
    obtain⟨c,hcf,rfl⟩:=JE.mp hq;have:=hc c (h1 c hcf);exact⟨by show(0:Int)<=((c.2:Nat):Int);omega,by show((c.2:Nat):Int)<1000;omega⟩),e1]
   walk_at "ev";exact⟨_,rfl,p,by rw[<- fC];rfl,e3,e4⟩
theorem mM:∀(rs:List (List Nat))(i:Nat),(∀r∈rs,r.Pairwise (·<·))->(ay i rs).Pairwise fun a c=>ltN a c=true/\ltN c a=false
 | [],i,_=>.nil
 | r::rs,i,h=>by
  rw[ay,List.pairwise_append];refine⟨?_,mM rs (i+1) fun y hy=>h y (Im _ hy),fun a ha c hc=> ?_⟩
  ·unfold eI
   rw[Kr];refine(h r Ip).imp fun{x y} z=> ?_;unfold ltN p6 dI;simp only[Kp];exact⟨JP (by omega),JK (by omega)⟩
  ·obtain⟨x,_,rfl⟩:=JE.mp ha
   have:=(dr (i+1) rs c hc).1;unfold ltN p6 dI;simp only;rw[Iq (by omega),Iq (by omega)];exact⟨JP (by omega),JK (by omega)⟩
theorem uo(rows:List Str):(aC rows).Pairwise fun a c=>ltN a c=true/\ltN c a=false:=mM _ 0 fun r hr=>by
 obtain⟨z,_,rfl⟩:=JE.mp hr;exact List.Pairwise.filter _ List.pairwise_lt_range
theorem du:∀(rs:List (List Nat))(i:Nat)(c:aG),c∈ay i rs->∃r∈rs,c.2∈r
 | [],i,c,h=>by cases h
 | r::rs,i,c,h=>by
  rw[ay]at h
  rcases Jw.mp h with z|z
  ·obtain⟨x,hx,rfl⟩:=JE.mp z
   exact⟨r,Ip,hx⟩
  ·obtain⟨y,hy,h2⟩:=du rs (i+1) c z
   exact⟨y,Im _ hy,h2⟩
theorem qz{rows:List Str}{w:Nat}(hw:Wd rows w):∀c∈aC rows,c.2<w:=fun c hc=>by
 obtain⟨r,hr,h⟩:=du _ _ _ hc;obtain⟨z,hz,rfl⟩:=JE.mp hr;have:=KR.mp (KI.mp h).1;rw[hw z hz]at this;exact this
noncomputable def zB(n:Nat)(z:Str):Str:=⟨(z.cps.toList.take n).toArray⟩
theorem wC(n:Nat)(z:Str):(zB n z).length=min n z.length:=by
 unfold zB;show(z.cps.toList.take n).toArray.size=_;rw[I0,JS];rfl
theorem c201(ns:List Int):∃v,aH P 39 201 [.lst (ns.map PV.int)]=some v/\∃rows w,v=.tup (rows.map .str)/\rows≠[]/\rows.length<=8/\w<=8/\Wd rows w:=by
 obtain⟨v6,e6,rows,bd,rfl⟩:=c6 36 (ns.getD 0 0/3) (ns.getD 1 0) 8 (by decide) (by decide);obtain⟨w,w1,w2,hw⟩:=bd.wide;have h0:=bd.some;have h8:=bd.few;have e6:aH P 38 6 [.int (ns.getD 0 0/3),.int (ns.getD 1 0),.int 8]=some (.tup (rows.map PV.str)):=e6;have a0:aH P 38 4 [.lst (ns.map PV.int),.int 0]=some (.int (ns.getD 0 0)):=c4 37 ns 0;have a1:aH P 38 4 [.lst (ns.map PV.int),.int 1]=some (.int (ns.getD 1 0)):=c4 37 ns 1;refine oF rfl rfl ?_;simp only[EB,entry];walk_at "ev";rw[a0];walk_at "ev";rw[a1];walk_at "ev";rw[e6];walk_at "ev";cases decide (0<ns.getD 0 0%3)with
 | false =>
  walk_at "ev";exact⟨_,rfl,rows,w,rfl,h0,h8,w2,hw⟩
 | true =>
  walk_at "ev";obtain⟨K,hK,hK2⟩:∃K:Nat,(1:Int)+((w:Nat):Int)*2/3=(K:Nat)/\1<=K:=⟨1+w*2/3,by omega,by omega⟩;obtain⟨M,hM,hM2⟩:∃M:Nat,(1:Int)+((rows.length:Nat):Int)*2/3=(M:Nat)/\1<=M:=⟨1+rows.length*2/3,by omega,by omega⟩;rw[Ix (by rw[Ik];omega),dq (g:=fun z:Str=>PV.str (zB K z)) (fun z hz=>by
   have lz:=hw z hz;rw[len_str,Ix (by show z.length<=16777216;omega),lz];walk_at "ev";rw[Ix (by show z.length<=16777216;omega),hK,Ix (by omega)];rfl)]
  walk_at "ev";rw[Ik,hM,df,AV,<-List.map_take];walk_at "ev";refine⟨_,rfl,(rows.take M).map (zB K),min K w,by rw[Jf];rfl,?_,?_,by omega,fun z hz=> ?_⟩
  ·intro e
   have e:=Je List.length e;have:1<=rows.length:=List.length_pos_iff.mpr h0;rw[Ik,JS,List.length_nil]at e;omega
  ·rw[Ik,JS]
   omega
  ·obtain⟨y,hy,rfl⟩:=JE.mp hz
   rw[wC,hw y (Kw hy)]
theorem c195(j n:Nat)(hj:j<3)(z:Str)(rs:List Str)(h1:(z::rs).length<=8)(h2:z.length<=8)(h3:∀y∈z::rs,y.length=z.length)(n8:n<=8)(h64:(aC (z::rs)).length<=64) :
  aH P 39 195 [.str (aN j),.tup ((z::rs).map .str),.int (n:Nat)]=some (if bI (SK j) n (aC (z::rs))<=1000 then .lst ((lv (SK j) (aC (z::rs)) n).map fun x=>ba x.1)else .non):=by
 refine run rfl rfl ?_;have e9:aH P 38 20008 [.non]=some .non:=rfl;have et:∀l:List Str,dF (l.map .str)=some l:=by
  intro l
  induction l with
  | nil=>rfl
  | cons x l ih=>rw[JH,dF,ih];rfl
 have eg:va [.str (aN j),.tup ((z::rs).map .str),.int (n:Nat)]=some (if bI (SK j) n (aC (z::rs))<=1000 then .lst ((lv (SK j) (aC (z::rs)) n).map fun x=>ba x.1)else .non):=by
  unfold va;dsimp only;rw[xA j hj,Jl,et];simp only[Jl];rw[Ix ⟨h1,h2,by rw[JJ];intro y hy;rw[h3 y hy];simp,by omega,by omega,h64⟩];rfl
 simp only[AT,yV,yW,gM,ff,fm,fk,gB,gF,fe,fw,gJ,gH,gO,gA,ft,fq,gI,fj,fh,fg,gG,gN,gL,gK,gE,gC,fo,fz,cc,cO,ci,cT,cf,dB,cq,cR,cS,cy,cg,ck,cU,cV,cP,dA,cZ,cz,cx,cY,cQ,cr,cX,cW,cw,cv,cu,vB,vC,entry,Jl,J0,JH,Kl,br,sc];rw[e9];simp only[J0,Jl,me];have e:(([TV.frz (PV.str (aN j)) (imm (PV.str (aN j))),TV.frz (PV.tup (.str z::rs.map .str)) (imm (PV.tup (.str z::rs.map .str))),TV.frz (PV.int (n:Nat)) (imm (PV.int (n:Nat)))]++List.replicate (4-[PV.str (aN j),PV.tup (.str z::rs.map .str),PV.int (n:Nat)].length) TV.un).take 3).map TV.valD=[.str (aN j),.tup ((z::rs).map .str),.int (n:Nat)]:=rfl;rw[e,eg];rfl
theorem mI:∀p:List aG,nP (aB p) (aB p)=true
 | []=>rfl
 | c::p=>by
  show(eS (aV c.1 c.2) (aV c.1 c.2)&&nP (aB p) (aB p))=true;rw[eR,mI p,JP rfl];rfl
theorem tE(p:List aG):bv 12 (ba p)=true:=by
 show(aB p).all (bv 11)=true;rw[JJ];intro y hy;obtain⟨c,_,rfl⟩:=JE.mp hy;rfl
theorem DC{p:List aG}{L:List (List aG)}(h:p∈L):ah .NotIn (ba p) (.lst (L.map ba))=some false:=by
 show(si (ba p) (L.map ba)).map (!·)=_;unfold si;rw[Iq (fun z=>by cases z.1),Ix]
 ·show some (!((L.map ba).any fun y=>eS y (ba p)))=_
  congr 1
  rw[Bool.not_eq_false',List.any_eq_true];exact⟨ba p,JE.mpr ⟨p,h,rfl⟩,mI p⟩
 ·rw[tE,Bool.true_and,JJ]
  intro y hy;obtain⟨q,_,rfl⟩:=JE.mp hy;exact tE q
theorem li:∀L:List (List aG),plain.plains (L.map ba)=true
 | []=>rfl
 | p::L=>by
  have e:∀p:List aG,plain.plains (aB p)=true:=fun p=>by
   induction p with
   | nil=>rfl
   | cons c p ih=>exact ih
  show(plain (ba p)&&plain.plains (L.map ba))=true;rw[li L,show plain (ba p)=true from e p];rfl
theorem mL:∀L:List (List aG),depth.depths (L.map ba)<=3
 | []=>JR _
 | p::L=>by
  have e:∀p:List aG,depth.depths (aB p)<=2:=fun p=>by
   induction p with
   | nil=>exact JR _
   | cons c p ih =>
    show max 2 (depth.depths (aB p))<=2;omega
  have e1:depth (ba p)<=3:=Nat.succ_le_succ (e p);have:=mL L;show max (depth (ba p)) (depth.depths (L.map ba))<=3;omega
theorem xq(ns:List Int)(lo hi:Option Int):∃ms:List Int,cut (ns.map PV.int) lo hi=ms.map PV.int:=by
 unfold cut;rw[<- List.map_drop,<-List.map_take];exact⟨_,rfl⟩
theorem yu(rows:List Str)(h8:rows.length<=8)(w8:∀z∈rows,z.length<=8)(n:Nat)(hn:n<=8):dC ((qK rows).map PV.int++List.replicate 9 (.int 0)) (n:Int)=some (.int (rk n (aC rows))):=by
 obtain⟨m,e,h1,h2⟩:=yw (aC rows) (kI rows h8 w8);refine bh ?_;rw[jh rows h8 w8,e]
 by_cases q:n<m
 ·rw[Jx (by rw[Ik,Ik,JU];exact q),Iy,Iy,Jk q]
  rfl
 ·rw[Jv (by rw[Ik,Ik,JU];omega),Ik,Ik,JU,List.getElem?_replicate,Ix (by omega),h2 n (by omega)]
noncomputable abbrev AQ(ns:List Int)(rows:List Str)(T:Int)(j n:Nat)(L:List (List aG))(V:PV)(f:Bool)(a b:TV):En:=[.frz (.lst (ns.map PV.int)) false,.frz (.tup (rows.map .str)) true,.frz (.lst (aB (aC rows))) true,.frz (.int T) true,.frz (.str (aN j)) true,.frz (.int (n:Nat)) true,.frz (.lst (L.map ba)) true,.frz V f,a,b]
theorem w6:∀ns:List Int,ns.length<=63->aH P 40 202 [.lst (ns.map PV.int)]=some (.bl true):=by
 intro ns h63;obtain⟨v1,e201,rows,w,rfl,h0,h8,w8,hw⟩:=c201 ns;obtain⟨z,rs,hzr⟩:∃z rs,rows=z::rs:=by
  cases rows with
  | nil=>exact absurd rfl h0
  | cons z rs=>exact⟨z,rs,rfl⟩
 have hz:z.length=w:=hw z (by rw[hzr];exact Ip);have w8' :∀y∈rows,y.length<=8:=fun y hy=>by rw[hw y hy];exact w8
 have h64:=kI rows h8 w8';have e7:aH P 39 7 [.tup (rows.map .str)]=some (.lst (aB (aC rows))):=by
  have:=c7 38 rows w hw h0 h8 w8;rw[fY rows w hw]at this;exact this
 have a2:aH P 39 4 [.lst (ns.map PV.int),.int 2]=some (.int (ns.getD 2 0)):=c4 38 ns 2;obtain⟨j,hj,e187⟩:=c187 38 (ns.getD 2 0);obtain⟨n,hn,n7⟩:∃n:Nat,ns.getD 2 0/3%8=(n:Nat)/\n<=7:=⟨(ns.getD 2 0/3%8).toNat,by omega,by omega⟩;have e195:∀m:Nat,m<=8->aH P 39 195 [.str (aN j),.tup (rows.map .str),.int (m:Nat)]=some (if bI (SK j) m (aC rows)<=1000 then .lst (((lv (SK j) (aC rows) m).map (·.1)).map ba)else .non):=fun m hm=>by
  subst hzr;rw[Jf];exact c195 j m hj z rs h8 (by omega) (fun y hy=>by rw[hw y hy,hz]) hm h64
 have e1:=e195 n (by omega);have e2:=e195 (n+1) (by omega);have mono:=eZ j (aC rows) n (n+1) (by omega);have hlt:=uo rows;have hlt2:(aC rows).Pairwise fun a c=>ltN a c=true/\a≠c:=hlt.imp fun{a c} h=>⟨h.1,fun e=>by rw[e]at h;rw[h.1]at h;cases h.2⟩;have nd:=m9 rows;have hcol:∀c∈aC rows,c.2<1000:=fun c hc=>by have:=qz hw c hc;omega
 obtain⟨l,hl⟩:∃l,l=aC rows:=⟨_,rfl⟩;refine bV rfl rfl ?_;simp only[EA,entry];walk_at "ev";rw[e201];walk_at "ev";rw[e7];walk_at "ev";rw[a2];walk_at "ev";rw[e187];walk_at "ev";rw[hn];walk_at "ev";rw[e1]
 by_cases few:bI (SK j) n (aC rows)<=1000
 ·rw[Ix few]
  have lok:=ol j (aC rows) h64 n (by omega) few;obtain⟨L,hL⟩:∃L,L=(lv (SK j) (aC rows) n).map (·.1):=⟨_,rfl⟩;have Ll:L.length<=1000:=by rw[hL,Ik];exact lok.few
  have Lg:∀p∈L,p.Sublist (aC rows)/\p.length=n/\p.Pairwise fun u v=>SK j u v=false:=fun p hp=>by
   rw[hL]at hp;obtain⟨x,hx,rfl⟩:=JE.mp hp;obtain⟨a,b,iv⟩:=lvI hx;exact⟨by rw[iv.cut];exact iv.sub.trans (List.sublist_append_left _ _),dm _ hx,iv.apart⟩
  have e198:aH P 39 198 _=_:=c198 36 j n hj L (aC rows) Ll Lg (by rw[hL];exact ww hlt2 n) hlt2 h64;have e199:aH P 39 199 [.lst (L.map ba),.str (aN j),.lst (aB (aC rows))]=some (.lst (((lv (SK j) (aC rows) (n+1)).map (·.1)).map ba)):=by
   have:=c199 36 j hj (lv (SK j) (aC rows) n) (aC rows) (fun x hx=>⟨lvI hx,by rw[dm _ hx];omega⟩) nd h64 lok.few;rw[<- BX]at this;rw[hL,Jf];exact this
  obtain⟨V,hV⟩:∃V:PV,V=(if bI (SK j) (n+1) (aC rows)<=1000 then .lst (((lv (SK j) (aC rows) (n+1)).map (·.1)).map ba)else .non):=⟨_,rfl⟩;rw[<- hV]at e2;rw[<- hL];walk_at "ev";rw[show((n:Nat):Int)+1=((n+1:Nat):Int)from rfl,e2];refine zx (τ:=AQ ns rows (ns.getD 2 0) j n L V true .un .un) ?_ ?_
  ·rw[hV]
   split<;>rfl
  walk_at "ev";rw[e198];walk_at "ev";refine zx (τ:=AQ ns rows (ns.getD 2 0) j n L V true .un .un) ?_ ?_
  ·by_cases few2:bI (SK j) (n+1) (aC rows)<=1000
   ·rw[Ix few2]at hV
    subst hV;walk_at "ev";rw[e199];walk_at "ev";rw[show aH P 39 9 [.lst (((lv (SK j) (aC rows) (n+1)).map (·.1)).map ba),.lst (((lv (SK j) (aC rows) (n+1)).map (·.1)).map ba)]=some (.bl true)from c9 4 31 _ (Nat.succ_le_succ (mL _)) (li _)];rfl
   ·rw[Iq few2]at hV
    subst hV;rfl
  walk_at "ev";refine zx (τ:=AQ ns rows (ns.getD 2 0) j n L V true .un .un) ?_ ?_
  ·by_cases j0:j=0
   ·subst j0
    have eLen:((L.length:Nat):Int)=rk n (aC rows):=by
     rw[hL,Ik,jv];exact wf _ n (aC rows) (Io _)
    rw[JP (show aN 0=Str.ofString "straight" from rfl),show aH P 39 48 [.tup (rows.map .str)]=some (.lst ((qK rows).map .int))from c48 37 rows h8 w8',Ik,eLen];walk_at "ev";rw[Ix (by decide),Jl,mV,show(List.replicate (Int.toNat 9) [PV.int 0]).flatten=List.replicate 9 (PV.int 0)from rfl];unfold kq
    rw[Ix (by
     have:=vx rows h8 w8';rw[JA,Ik,List.length_replicate];show _<=16777216;omega)]
    walk_at "ev";have rz:=yu rows h8 w8' n (by omega);rw[show List.replicate 9 (PV.int 0)=[.int 0,.int 0,.int 0,.int 0,.int 0,.int 0,.int 0,.int 0,.int 0]from rfl]at rz;rw[rz];walk_at "ev"
   ·rw[JK (show¬aN j=Str.ofString "straight" by
     have:j=1\/j=2:=by omega
     rcases this with rfl|rfl<;>decide)]
    rfl
  walk_at "ev";obtain⟨ms,hms⟩:=xq ns (some 3) (some 63);refine bj (xs:=ms.map PV.int) (n:=true) ?_ (fun i τ=>∃a b,τ=AQ ns rows (ns.getD 2 0) j n L V true a b) ⟨_,_,rfl⟩ ?_ ?_
  ·walk_at "ev"
   rw[df,hms,pA];rfl
  ·rintro i y τ hy ⟨a,b,rfl⟩
   rw[Iy]at hy;obtain⟨x,hx,rfl⟩:=map_some hy;obtain⟨v20,e20,D,_,rfl⟩:=c20 37 x;have e20:aH P 39 20 [.int x]=some (.int D):=e20;obtain⟨v2,e200,p,rfl,p1,p2⟩:=c200 36 j n D hj (aC rows) h64 hlt hcol (by omega);have e200:aH P 39 200 [.str (aN j),.lst (aB (aC rows)),.int (n:Nat),.int D]=some (ba p):=e200;have ip:imm (ba p)=true:=aw p;refine⟨_,rfl,?_⟩;walk_at "ev";rw[e20];walk_at "ev";rw[e200];walk_at "ev";rw[show hZ (ba p)=.frz (ba p) true from rfl];walk_at "ev";rw[show d0 (ba p)=some p.length by show some (aB p).length=_;rw[au]];walk_at "ev"
   by_cases hpn:p.length=n
   ·rw[JP (show((p.length:Nat):Int)=(n:Int)by omega)]
    walk_at "ev";rw[DC (show p∈L by rw[hL,<-hpn];exact DE p1 p2)];walk_at "ev";exact⟨_,_,rfl⟩
   ·rw[JK (show¬((p.length:Nat):Int)=(n:Int)by omega)]
    walk_at "ev";exact⟨_,_,rfl⟩
  ·rintro τ ⟨a,b,rfl⟩
   walk_at "ev"
 ·rw[Iq few]
  rw[Iq (by omega)]at e2;walk_at "ev";rw[show((n:Nat):Int)+1=((n+1:Nat):Int)from rfl,e2];walk_at "ev"
end Law
namespace Law
open PySem PySem.Spec PyProof.Rows L2 IR
noncomputable abbrev gy(nm:Str)(ps:List Str)(st:Stmt):Prop:=∀(kV doc pm:Value)(an:Option Addr)(cdv ct:Value)(us:List Value),us.length=ps.length->bindArgs (W.fnOf nm nm (aS st) (aF st) (aA st) .none kV doc pm an cdv ct) ⟨us,[]⟩=pure (ps.zip us)
theorem sc3:aT N3 ["board"] (aA s3):=⟨rfl,rfl,rfl,by decide +kernel,rfl,by decide +kernel,by decide +kernel⟩
theorem bd3:gy "cells_of" ["board"] s3 :=
 fun _ _ _ _ _ _ us hl=>by
  obtain⟨_,rfl⟩:=ku hl;rfl
theorem tr3:bA 80 ⟨N3,(aA s3).names,F,G,B,[1]⟩ (aF s3)=d3.body:=by kernel_rfl
theorem Gb:aT FF ["one","other"] (aA ko):=⟨rfl,rfl,rfl,by decide +kernel,rfl,by decide +kernel,by decide +kernel⟩
theorem IG:gy "is_straight" ["one","other"] ko :=
 fun _ _ _ _ _ _ us hl=>by
  obtain⟨_,_,rfl⟩:=nC hl;rfl
theorem Fw:bA 80 ⟨FF,(aA ko).names,F,G,B,[]⟩ (aF ko)=EL.body:=by kernel_rfl
theorem Ga:aT FE ["one","other"] (aA kn):=⟨rfl,rfl,rfl,by decide +kernel,rfl,by decide +kernel,by decide +kernel⟩
theorem IF:gy "is_aslant" ["one","other"] kn :=
 fun _ _ _ _ _ _ us hl=>by
  obtain⟨_,_,rfl⟩:=nC hl;rfl
theorem Fv:bA 80 ⟨FE,(aA kn).names,F,G,B,[]⟩ (aF kn)=EK.body:=by kernel_rfl
theorem GZ:aT FC ["kind","one","other"] (aA km):=⟨rfl,rfl,rfl,by decide +kernel,rfl,by decide +kernel,by decide +kernel⟩
theorem ID:gy "struck" ["kind","one","other"] km :=
 fun _ _ _ _ _ _ us hl=>by
  obtain⟨_,_,_,rfl⟩:=kr hl;rfl
theorem Fu:bA 80 ⟨FC,(aA km).names,F,G,B,[]⟩ (aF km)=EJ.body:=by kernel_rfl
theorem GY:aT FA ["kind","cell","cells"] (aA kl):=⟨rfl,rfl,rfl,by decide +kernel,rfl,by decide +kernel,by decide +kernel⟩
theorem IB:gy "not_struck" ["kind","cell","cells"] kl :=
 fun _ _ _ _ _ _ us hl=>by
  obtain⟨_,_,_,rfl⟩:=kr hl;rfl
theorem Ft:bA 80 ⟨FA,(aA kl).names,F,G,B,[]⟩ (aF kl)=EI.body:=by kernel_rfl
theorem GX:aT Ez ["kind","level","room"] (aA kj):=⟨rfl,rfl,rfl,by decide +kernel,rfl,by decide +kernel,by decide +kernel⟩
theorem IA:gy "with_one_more" ["kind","level","room"] kj :=
 fun _ _ _ _ _ _ us hl=>by
  obtain⟨_,_,_,rfl⟩:=kr hl;rfl
theorem Fs:bA 80 ⟨Ez,(aA kj).names,F,G,B,[3]⟩ (aF kj)=xo.body:=by kernel_rfl
theorem GW:aT Ey ["kind","board","size"] (aA ki):=⟨rfl,rfl,rfl,by decide +kernel,rfl,by decide +kernel,by decide +kernel⟩
theorem Hz:gy "all_placings" ["kind","board","size"] ki :=
 fun _ _ _ _ _ _ us hl=>by
  obtain⟨_,_,_,rfl⟩:=kr hl;rfl
theorem Fq:bA 80 ⟨Ey,(aA ki).names,F,G,B,[]⟩ (aF ki)=xm.body:=by kernel_rfl
theorem sc46:aT N46 ["line"] (aA yS):=⟨rfl,rfl,rfl,by decide +kernel,rfl,by decide +kernel,by decide +kernel⟩
theorem bd46:gy "bits_of" ["line"] yS :=
 fun _ _ _ _ _ _ us hl=>by
  obtain⟨_,rfl⟩:=ku hl;rfl
theorem tr46:bA 80 ⟨N46,(aA yS).names,F,G,B,[1]⟩ (aF yS)=d46.body:=by kernel_rfl
theorem bd47:gy "with_line" ["levels","bits"] BJ :=
 fun _ _ _ _ _ _ us hl=>by
  obtain⟨_,_,rfl⟩:=nC hl;rfl
theorem sc48:aT N48 ["board"] (aA yR):=⟨rfl,rfl,rfl,by decide +kernel,rfl,by decide +kernel,by decide +kernel⟩
theorem bd48:gy "row_of" ["board"] yR :=
 fun _ _ _ _ _ _ us hl=>by
  obtain⟨_,rfl⟩:=ku hl;rfl
theorem tr48:bA 80 ⟨N48,(aA yR).names,F,G,B,[]⟩ (aF yR)=d48.body:=by kernel_rfl
theorem sc4:aT N4 ["_law_script","_law_k"] (aA s4):=⟨rfl,rfl,rfl,by decide +kernel,rfl,by decide +kernel,by decide +kernel⟩
theorem bd4:gy "_law_cell" ["_law_script","_law_k"] s4 :=
 fun _ _ _ _ _ _ us hl=>by
  obtain⟨_,_,rfl⟩:=nC hl;rfl
theorem tr4:bA 80 ⟨N4,(aA s4).names,F,G,B,[]⟩ (aF s4)=d4.body:=by kernel_rfl
theorem sc5:aT N5 ["_law_cell_here","_law_k"] (aA s5):=⟨rfl,rfl,rfl,by decide +kernel,rfl,by decide +kernel,by decide +kernel⟩
theorem bd5:gy "_law_mixed" ["_law_cell_here","_law_k"] s5 :=
 fun _ _ _ _ _ _ us hl=>by
  obtain⟨_,_,rfl⟩:=nC hl;rfl
theorem tr5:bA 80 ⟨N5,(aA s5).names,F,G,B,[]⟩ (aF s5)=d5.body:=by kernel_rfl
theorem sc20:aT N20 ["_law_cell_here"] (aA yT):=⟨rfl,rfl,rfl,by decide +kernel,rfl,by decide +kernel,by decide +kernel⟩
theorem bd20:gy "_law_deep" ["_law_cell_here"] yT :=
 fun _ _ _ _ _ _ us hl=>by
  obtain⟨_,rfl⟩:=ku hl;rfl
theorem tr20:bA 80 ⟨N20,(aA yT).names,F,G,B,[]⟩ (aF yT)=d20.body:=by kernel_rfl
theorem sc6:aT N6 ["_law_head","_law_cell_here","_law_most"] (aA s6):=⟨rfl,rfl,rfl,by decide +kernel,rfl,by decide +kernel,by decide +kernel⟩
theorem bd6:gy "_law_board" ["_law_head","_law_cell_here","_law_most"] s6 :=
 fun _ _ _ _ _ _ us hl=>by
  obtain⟨_,_,_,rfl⟩:=kr hl;rfl
theorem tr6:bA 80 ⟨N6,(aA s6).names,F,G,B,[6]⟩ (aF s6)=d6.body:=by kernel_rfl
theorem sc7:aT N7 ["_law_board_here"] (aA s7):=⟨rfl,rfl,rfl,by decide +kernel,rfl,by decide +kernel,by decide +kernel⟩
theorem bd7:gy "_law_cells" ["_law_board_here"] s7 :=
 fun _ _ _ _ _ _ us hl=>by
  obtain⟨_,rfl⟩:=ku hl;rfl
theorem tr7:bA 80 ⟨N7,(aA s7).names,F,G,B,[1]⟩ (aF s7)=d7.body:=by kernel_rfl
theorem sc8:aT N8 ["_law_found"] (aA s8):=⟨rfl,rfl,rfl,by decide +kernel,rfl,by decide +kernel,by decide +kernel⟩
theorem bd8:gy "_law_whole" ["_law_found"] s8 :=
 fun _ _ _ _ _ _ us hl=>by
  obtain⟨_,rfl⟩:=ku hl;rfl
theorem tr8:bA 80 ⟨N8,(aA s8).names,F,G,B,[]⟩ (aF s8)=d8.body:=by kernel_rfl
theorem sc9:aT N9 ["_law_found","_law_due"] (aA s9):=⟨rfl,rfl,rfl,by decide +kernel,rfl,by decide +kernel,by decide +kernel⟩
theorem bd9:gy "_law_same" ["_law_found","_law_due"] s9 :=
 fun _ _ _ _ _ _ us hl=>by
  obtain⟨_,_,rfl⟩:=nC hl;rfl
theorem tr9:bA 80 ⟨N9,(aA s9).names,F,G,B,[]⟩ (aF s9)=d9.body:=by kernel_rfl
theorem sc10:aT N10 ["_law_found","_law_due"] (aA yU):=⟨rfl,rfl,rfl,by decide +kernel,rfl,by decide +kernel,by decide +kernel⟩
theorem bd10:gy "_law_all_same" ["_law_found","_law_due"] yU :=
 fun _ _ _ _ _ _ us hl=>by
  obtain⟨_,_,rfl⟩:=nC hl;rfl
theorem tr10:bA 80 ⟨N10,(aA yU).names,F,G,B,[]⟩ (aF yU)=d10.body:=by kernel_rfl
theorem GV:aT Ex ["_law_kind_here","_law_one","_law_other"] (aA kh):=⟨rfl,rfl,rfl,by decide +kernel,rfl,by decide +kernel,by decide +kernel⟩
theorem Hy:gy "_law_strikes" ["_law_kind_here","_law_one","_law_other"] kh :=
 fun _ _ _ _ _ _ us hl=>by
  obtain⟨_,_,_,rfl⟩:=kr hl;rfl
theorem Fp:bA 80 ⟨Ex,(aA kh).names,F,G,B,[]⟩ (aF kh)=EH.body:=by kernel_rfl
theorem GU:aT Ew ["_law_number"] (aA kf):=⟨rfl,rfl,rfl,by decide +kernel,rfl,by decide +kernel,by decide +kernel⟩
theorem Hx:gy "_law_kind" ["_law_number"] kf :=
 fun _ _ _ _ _ _ us hl=>by
  obtain⟨_,rfl⟩:=ku hl;rfl
theorem Fo:bA 80 ⟨Ew,(aA kf).names,F,G,B,[]⟩ (aF kf)=xl.body:=by kernel_rfl
theorem Hw:gy "_law_told" ["_law_kind_here","_law_board_here","_law_size"] oE :=
 fun _ _ _ _ _ _ us hl=>by
  obtain⟨_,_,_,rfl⟩:=kr hl;rfl
theorem GT:aT Ev ["_law_kind_here","_law_placing_here","_law_cells_here"] (aA kc):=⟨rfl,rfl,rfl,by decide +kernel,rfl,by decide +kernel,by decide +kernel⟩
theorem Hv:gy "_law_free" ["_law_kind_here","_law_placing_here","_law_cells_here"] kc :=
 fun _ _ _ _ _ _ us hl=>by
  obtain⟨_,_,_,rfl⟩:=kr hl;rfl
theorem Fm:bA 80 ⟨Ev,(aA kc).names,F,G,B,[3]⟩ (aF kc)=EG.body:=by kernel_rfl
theorem GS:aT Eu ["_law_placing_here","_law_kind_here","_law_cells_here","_law_size"] (aA ka):=⟨rfl,rfl,rfl,by decide +kernel,rfl,by decide +kernel,by decide +kernel⟩
theorem Hu:gy "_law_is_good" ["_law_placing_here","_law_kind_here","_law_cells_here","_law_size"] ka :=
 fun _ _ _ _ _ _ us hl=>by
  obtain⟨_,_,_,_,rfl⟩:=DI hl;rfl
theorem Fk:bA 80 ⟨Eu,(aA ka).names,F,G,B,[]⟩ (aF ka)=EF.body:=by kernel_rfl
theorem GR:aT Et ["_law_found","_law_kind_here","_law_cells_here","_law_size"] (aA kZ):=⟨rfl,rfl,rfl,by decide +kernel,rfl,by decide +kernel,by decide +kernel⟩
theorem Ht:gy "_law_are_good" ["_law_found","_law_kind_here","_law_cells_here","_law_size"] kZ :=
 fun _ _ _ _ _ _ us hl=>by
  obtain⟨_,_,_,_,rfl⟩:=DI hl;rfl
theorem Fj:bA 80 ⟨Et,(aA kZ).names,F,G,B,[]⟩ (aF kZ)=EE.body:=by kernel_rfl
theorem GQ:aT Es ["_law_found","_law_kind_here","_law_cells_here"] (aA kY):=⟨rfl,rfl,rfl,by decide +kernel,rfl,by decide +kernel,by decide +kernel⟩
theorem Hs:gy "_law_one_more" ["_law_found","_law_kind_here","_law_cells_here"] kY :=
 fun _ _ _ _ _ _ us hl=>by
  obtain⟨_,_,_,rfl⟩:=kr hl;rfl
theorem Fi:bA 80 ⟨Es,(aA kY).names,F,G,B,[]⟩ (aF kY)=ED.body:=by kernel_rfl
theorem GP:aT Er ["_law_kind_here","_law_cells_here","_law_size","_law_number"] (aA kX):=⟨rfl,rfl,rfl,by decide +kernel,rfl,by decide +kernel,by decide +kernel⟩
theorem Hr:gy "_law_placing" ["_law_kind_here","_law_cells_here","_law_size","_law_number"] kX :=
 fun _ _ _ _ _ _ us hl=>by
  obtain⟨_,_,_,_,rfl⟩:=DI hl;rfl
theorem Fh:bA 80 ⟨Er,(aA kX).names,F,G,B,[5]⟩ (aF kX)=EC.body:=by kernel_rfl
theorem GO:aT Ep ["_law_script"] (aA kW):=⟨rfl,rfl,rfl,by decide +kernel,rfl,by decide +kernel,by decide +kernel⟩
theorem Hq:gy "_law_drawn" ["_law_script"] kW :=
 fun _ _ _ _ _ _ us hl=>by
  obtain⟨_,rfl⟩:=ku hl;rfl
theorem Fg:bA 80 ⟨Ep,(aA kW).names,F,G,B,[]⟩ (aF kW)=EB.body:=by kernel_rfl
theorem GN:aT Eo ["_law_script"] (aA iC):=⟨rfl,rfl,rfl,by decide +kernel,rfl,by decide +kernel,by decide +kernel⟩
theorem Ho:gy "law" ["_law_script"] iC :=
 fun _ _ _ _ _ _ us hl=>by
  obtain⟨_,rfl⟩:=ku hl;rfl
theorem Ff:bA 80 ⟨Eo,(aA iC).names,F,G,B,[]⟩ (aF iC)=EA.body:=by kernel_rfl
theorem Eg{l:W.OpenLaw}{w:World}{K:W.Frag}{h:Heap}{mg:Str->Option Value}{fa f0 f1 f2 f3 f4 f5 f6 f7 f8 f9 f10 f11 f12 f13 f14 f15 f16 f17 f18 f19 f20 f21 f22 f23 f24 f25 f26 f27:Addr}(X:K.In h)(Gh:h.Ns mainGlobals mg)(hfa:mg "law"=some (.ref fa))
  {od0 an0 od1 an1 od2 an2 od3 an3 od4 an4 od5 an5 od6 an6 od7 an7 od8 an8 od9 an9 od10 an10 od11 an11 od12 an12 od13 an13 od14 an14 od15 an15 od16 an16 od17 an17 od18 an18 od19 an19 od20 an20 od21 an21 od22 an22 od23 an23 od24 an24 od25 an25 od26 an26 od27 an27:Option Addr} {sl0 sl1 sl2 sl3 sl4 sl5 sl6 sl7 sl8 sl9 sl10 sl11 sl12 sl13 sl14 sl15 sl16 sl17 sl18 sl19 sl20 sl21 sl22 sl23 sl24 sl25 sl26 sl27:Array (Option Value)} {oc0 kV0 dc0 pm0 cd0 ct0 oc1 kV1 dc1 pm1 cd1 ct1 oc2 kV2 dc2 pm2 cd2 ct2 oc3 kV3 dc3 pm3 cd3 ct3 oc4 kV4 dc4 pm4 cd4 ct4 oc5 kV5 dc5 pm5 cd5 ct5 oc6 kV6 dc6 pm6 cd6 ct6 oc7 kV7 dc7 pm7 cd7 ct7 oc8 kV8 dc8 pm8 cd8 ct8 oc9 kV9 dc9 pm9 cd9 ct9 oc10 kV10 dc10 pm10 cd10 ct10 oc11 kV11 dc11 pm11 cd11 ct11 oc12 kV12 dc12 pm12 cd12 ct12 oc13 kV13 dc13 pm13 cd13 ct13 oc14 kV14 dc14 pm14 cd14 ct14 oc15 kV15 dc15 pm15 cd15 ct15 oc16 kV16 dc16 pm16 cd16 ct16 oc17 kV17 dc17 pm17 cd17 ct17 oc18 kV18 dc18 pm18 cd18 ct18 oc19 kV19 dc19 pm19 cd19 ct19 oc20 kV20 dc20 pm20 cd20 ct20 oc21 kV21 dc21 pm21 cd21 ct21 oc22 kV22 dc22 pm22 cd22 ct22 oc23 kV23 dc23 pm23 cd23 ct23 oc24 kV24 dc24 pm24 cd24 ct24 oc25 kV25 dc25 pm25 cd25 ct25 oc26 kV26 dc26 pm26 cd26 ct26 oc27 kV27 dc27 pm27 cd27 ct27:Value}
  {tk0 tk1 tk2 tk3:Tok}
  (a0:W.nsIn K mainGlobals "cells_of"=some (some (.ref f0))) (l0:K.lookup f0=some ⟨oc0,od0,.func (W.fnOf "cells_of" "cells_of" (aS s3) (aF s3) (aA s3) .none kV0 dc0 pm0 an0 cd0 ct0),sl0⟩) (c0:W.codeIn K cd0 "cells_of"=true) (k0:W.keepIn K (.ref f0)=true)
  (a1:W.nsIn K mainGlobals "is_straight"=some (some (.ref f1))) (l1:K.lookup f1=some ⟨oc1,od1,.func (W.fnOf "is_straight" "is_straight" (aS ko) (aF ko) (aA ko) .none kV1 dc1 pm1 an1 cd1 ct1),sl1⟩) (c1:W.codeIn K cd1 "is_straight"=true) (k1:W.keepIn K (.ref f1)=true)
  (a2:W.nsIn K mainGlobals "is_aslant"=some (some (.ref f2))) (l2:K.lookup f2=some ⟨oc2,od2,.func (W.fnOf "is_aslant" "is_aslant" (aS kn) (aF kn) (aA kn) .none kV2 dc2 pm2 an2 cd2 ct2),sl2⟩) (c2:W.codeIn K cd2 "is_aslant"=true) (k2:W.keepIn K (.ref f2)=true)
  (a3:W.nsIn K mainGlobals "struck"=some (some (.ref f3))) (l3:K.lookup f3=some ⟨oc3,od3,.func (W.fnOf "struck" "struck" (aS km) (aF km) (aA km) .none kV3 dc3 pm3 an3 cd3 ct3),sl3⟩) (c3:W.codeIn K cd3 "struck"=true) (k3:W.keepIn K (.ref f3)=true)
  (a4:W.nsIn K mainGlobals "not_struck"=some (some (.ref f4))) (l4:K.lookup f4=some ⟨oc4,od4,.func (W.fnOf "not_struck" "not_struck" (aS kl) (aF kl) (aA kl) .none kV4 dc4 pm4 an4 cd4 ct4),sl4⟩) (c4:W.codeIn K cd4 "not_struck"=true) (k4:W.keepIn K (.ref f4)=true)
  (a5:W.nsIn K mainGlobals "with_one_more"=some (some (.ref f5))) (l5:K.lookup f5=some ⟨oc5,od5,.func (W.fnOf "with_one_more" "with_one_more" (aS kj) (aF kj) (aA kj) .none kV5 dc5 pm5 an5 cd5 ct5),sl5⟩) (c5:W.codeIn K cd5 "with_one_more"=true) (k5:W.keepIn K (.ref f5)=true)
  (a6:W.nsIn K mainGlobals "all_placings"=some (some (.ref f6))) (l6:K.lookup f6=some ⟨oc6,od6,.func (W.fnOf "all_placings" "all_placings" (aS ki) (aF ki) (aA ki) .none kV6 dc6 pm6 an6 cd6 ct6),sl6⟩) (c6:W.codeIn K cd6 "all_placings"=true) (k6:W.keepIn K (.ref f6)=true)
  (a7:W.nsIn K mainGlobals "bits_of"=some (some (.ref f7))) (l7:K.lookup f7=some ⟨oc7,od7,.func (W.fnOf "bits_of" "bits_of" (aS yS) (aF yS) (aA yS) .none kV7 dc7 pm7 an7 cd7 ct7),sl7⟩) (c7:W.codeIn K cd7 "bits_of"=true) (k7:W.keepIn K (.ref f7)=true)
  (a8:W.nsIn K mainGlobals "with_line"=some (some (.ref f8))) (l8:K.lookup f8=some ⟨oc8,od8,.func (W.fnOf "with_line" "with_line" (aS BJ) (aF BJ) (aA BJ) .none kV8 dc8 pm8 an8 cd8 ct8),sl8⟩) (c8:W.codeIn K cd8 "with_line"=true) (k8:W.keepIn K (.ref f8)=true)
  (a9:W.nsIn K mainGlobals "row_of"=some (some (.ref f9))) (l9:K.lookup f9=some ⟨oc9,od9,.func (W.fnOf "row_of" "row_of" (aS yR) (aF yR) (aA yR) .none kV9 dc9 pm9 an9 cd9 ct9),sl9⟩) (c9:W.codeIn K cd9 "row_of"=true) (k9:W.keepIn K (.ref f9)=true)
  (a10:W.nsIn K mainGlobals "_law_cell"=some (some (.ref f10))) (l10:K.lookup f10=some ⟨oc10,od10,.func (W.fnOf "_law_cell" "_law_cell" (aS s4) (aF s4) (aA s4) .none kV10 dc10 pm10 an10 cd10 ct10),sl10⟩) (c10:W.codeIn K cd10 "_law_cell"=true) (k10:W.keepIn K (.ref f10)=true)
  (a11:W.nsIn K mainGlobals "_law_mixed"=some (some (.ref f11))) (l11:K.lookup f11=some ⟨oc11,od11,.func (W.fnOf "_law_mixed" "_law_mixed" (aS s5) (aF s5) (aA s5) .none kV11 dc11 pm11 an11 cd11 ct11),sl11⟩) (c11:W.codeIn K cd11 "_law_mixed"=true) (k11:W.keepIn K (.ref f11)=true)
  (a12:W.nsIn K mainGlobals "_law_deep"=some (some (.ref f12))) (l12:K.lookup f12=some ⟨oc12,od12,.func (W.fnOf "_law_deep" "_law_deep" (aS yT) (aF yT) (aA yT) .none kV12 dc12 pm12 an12 cd12 ct12),sl12⟩) (c12:W.codeIn K cd12 "_law_deep"=true) (k12:W.keepIn K (.ref f12)=true)
  (a13:W.nsIn K mainGlobals "_law_board"=some (some (.ref f13))) (l13:K.lookup f13=some ⟨oc13,od13,.func (W.fnOf "_law_board" "_law_board" (aS s6) (aF s6) (aA s6) .none kV13 dc13 pm13 an13 cd13 ct13),sl13⟩) (c13:W.codeIn K cd13 "_law_board"=true) (k13:W.keepIn K (.ref f13)=true)
  (a14:W.nsIn K mainGlobals "_law_cells"=some (some (.ref f14))) (l14:K.lookup f14=some ⟨oc14,od14,.func (W.fnOf "_law_cells" "_law_cells" (aS s7) (aF s7) (aA s7) .none kV14 dc14 pm14 an14 cd14 ct14),sl14⟩) (c14:W.codeIn K cd14 "_law_cells"=true) (k14:W.keepIn K (.ref f14)=true)
  (a15:W.nsIn K mainGlobals "_law_whole"=some (some (.ref f15))) (l15:K.lookup f15=some ⟨oc15,od15,.func (W.fnOf "_law_whole" "_law_whole" (aS s8) (aF s8) (aA s8) .none kV15 dc15 pm15 an15 cd15 ct15),sl15⟩) (c15:W.codeIn K cd15 "_law_whole"=true) (k15:W.keepIn K (.ref f15)=true)
  (a16:W.nsIn K mainGlobals "_law_same"=some (some (.ref f16))) (l16:K.lookup f16=some ⟨oc16,od16,.func (W.fnOf "_law_same" "_law_same" (aS s9) (aF s9) (aA s9) .none kV16 dc16 pm16 an16 cd16 ct16),sl16⟩) (c16:W.codeIn K cd16 "_law_same"=true) (k16:W.keepIn K (.ref f16)=true)
  (a17:W.nsIn K mainGlobals "_law_all_same"=some (some (.ref f17))) (l17:K.lookup f17=some ⟨oc17,od17,.func (W.fnOf "_law_all_same" "_law_all_same" (aS yU) (aF yU) (aA yU) .none kV17 dc17 pm17 an17 cd17 ct17),sl17⟩) (c17:W.codeIn K cd17 "_law_all_same"=true) (k17:W.keepIn K (.ref f17)=true)
  (a18:W.nsIn K mainGlobals "_law_strikes"=some (some (.ref f18))) (l18:K.lookup f18=some ⟨oc18,od18,.func (W.fnOf "_law_strikes" "_law_strikes" (aS kh) (aF kh) (aA kh) .none kV18 dc18 pm18 an18 cd18 ct18),sl18⟩) (c18:W.codeIn K cd18 "_law_strikes"=true) (k18:W.keepIn K (.ref f18)=true)
  (a19:W.nsIn K mainGlobals "_law_kind"=some (some (.ref f19))) (l19:K.lookup f19=some ⟨oc19,od19,.func (W.fnOf "_law_kind" "_law_kind" (aS kf) (aF kf) (aA kf) .none kV19 dc19 pm19 an19 cd19 ct19),sl19⟩) (c19:W.codeIn K cd19 "_law_kind"=true) (k19:W.keepIn K (.ref f19)=true)
  (a20:W.nsIn K mainGlobals "_law_told"=some (some (.ref f20))) (l20:K.lookup f20=some ⟨oc20,od20,.func (W.fnOf "_law_told" "_law_told" (aS oE) (aF oE) (aA oE) .none kV20 dc20 pm20 an20 cd20 ct20),sl20⟩) (c20:W.codeIn K cd20 "_law_told"=true) (k20:W.keepIn K (.ref f20)=true)
  (a21:W.nsIn K mainGlobals "_law_free"=some (some (.ref f21))) (l21:K.lookup f21=some ⟨oc21,od21,.func (W.fnOf "_law_free" "_law_free" (aS kc) (aF kc) (aA kc) .none kV21 dc21 pm21 an21 cd21 ct21),sl21⟩) (c21:W.codeIn K cd21 "_law_free"=true) (k21:W.keepIn K (.ref f21)=true)
  (a22:W.nsIn K mainGlobals "_law_is_good"=some (some (.ref f22))) (l22:K.lookup f22=some ⟨oc22,od22,.func (W.fnOf "_law_is_good" "_law_is_good" (aS ka) (aF ka) (aA ka) .none kV22 dc22 pm22 an22 cd22 ct22),sl22⟩) (c22:W.codeIn K cd22 "_law_is_good"=true) (k22:W.keepIn K (.ref f22)=true)
  (a23:W.nsIn K mainGlobals "_law_are_good"=some (some (.ref f23))) (l23:K.lookup f23=some ⟨oc23,od23,.func (W.fnOf "_law_are_good" "_law_are_good" (aS kZ) (aF kZ) (aA kZ) .none kV23 dc23 pm23 an23 cd23 ct23),sl23⟩) (c23:W.codeIn K cd23 "_law_are_good"=true) (k23:W.keepIn K (.ref f23)=true)
  (a24:W.nsIn K mainGlobals "_law_one_more"=some (some (.ref f24))) (l24:K.lookup f24=some ⟨oc24,od24,.func (W.fnOf "_law_one_more" "_law_one_more" (aS kY) (aF kY) (aA kY) .none kV24 dc24 pm24 an24 cd24 ct24),sl24⟩) (c24:W.codeIn K cd24 "_law_one_more"=true) (k24:W.keepIn K (.ref f24)=true)
  (a25:W.nsIn K mainGlobals "_law_placing"=some (some (.ref f25))) (l25:K.lookup f25=some ⟨oc25,od25,.func (W.fnOf "_law_placing" "_law_placing" (aS kX) (aF kX) (aA kX) .none kV25 dc25 pm25 an25 cd25 ct25),sl25⟩) (c25:W.codeIn K cd25 "_law_placing"=true) (k25:W.keepIn K (.ref f25)=true)
  (a26:W.nsIn K mainGlobals "_law_drawn"=some (some (.ref f26))) (l26:K.lookup f26=some ⟨oc26,od26,.func (W.fnOf "_law_drawn" "_law_drawn" (aS kW) (aF kW) (aA kW) .none kV26 dc26 pm26 an26 cd26 ct26),sl26⟩) (c26:W.codeIn K cd26 "_law_drawn"=true) (k26:W.keepIn K (.ref f26)=true)
  (a27:W.nsIn K mainGlobals "law"=some (some (.ref f27))) (l27:K.lookup f27=some ⟨oc27,od27,.func (W.fnOf "law" "law" (aS iC) (aF iC) (aA iC) .none kV27 dc27 pm27 an27 cd27 ct27),sl27⟩) (c27:W.codeIn K cd27 "law"=true) (k27:W.keepIn K (.ref f27)=true)
  (z0:W.nsIn K mainGlobals "len"=some none)
  (z1:W.nsIn K mainGlobals "int"=some none)
  (z2:W.nsIn K mainGlobals "list"=some none)
  (z3:W.nsIn K mainGlobals "tuple"=some none)
  (z4:W.nsIn K mainGlobals "abs"=some none)
  (z5:W.nsIn K mainGlobals "isinstance"=some none)
  (z6:W.nsIn K mainGlobals "str"=some none)
  (z7:W.nsIn K mainGlobals "bool"=some none)
  (z8:W.nsIn K mainGlobals "range"=some none)
  (z9:W.nsIn K mainGlobals "zip"=some none)
  (z10:W.nsIn K mainGlobals "enumerate"=some none)
  (z11:W.nsIn K mainGlobals "sorted"=some none)
  (z12:W.nsIn K mainGlobals "sum"=some none)
  (z13:W.nsIn K mainGlobals "dict"=some none)
  (v0:W.nsIn K mainGlobals "CELL"=some (some (.str "x" tk0)))
  (v1:W.nsIn K mainGlobals "STRAIGHT"=some (some (.str "straight" tk1)))
  (v2:W.nsIn K mainGlobals "ASLANT"=some (some (.str "aslant" tk2)))
  (v3:W.nsIn K mainGlobals "MOST_PLACINGS"=some (some (.int 1000 tk3)))
  {g0:Addr} {cd0_:ClassData}
  (y0:W.nsIn K mainGlobals "TooGreat"=some (some (.ref g0))) (yc0:W.clsIn K g0=some cd0_) (yt0:W.typeIn K (.ref g0)=some (.type "type"))
  (q0:W.excIn K g0 [.type "ValueError",.type "Exception",.type "BaseException",.type "object"] "ValueError.__new__"=true)
  (u0:W.subIn K (.ref g0) (.ref g0)=some true) (u1:W.subIn K (.ref g0) (.type "BaseException")=some true)
  :
  ∃fd:FuncData,(∀(s:Shared)(v:Value),BindsTo s fd ⟨[v],[]⟩ [("_law_script",v)])/\∀base:Heap,K.In base->base.Ns mainGlobals mg->bi l.prog w K mg base p5 40 fa fd ["_law_script"] (sA K):=by
 have hB:∀x,B.contains x=true->mg x=none:=dG (J9 X Gh z0) (dG (J9 X Gh z1) (dG (J9 X Gh z2) (dG (J9 X Gh z3) (dG (J9 X Gh z4) (dG (J9 X Gh z5) (dG (J9 X Gh z6) (dG (J9 X Gh z7) (dG (J9 X Gh z8) (dG (J9 X Gh z9) (dG (J9 X Gh z10) (dG (J9 X Gh z11) (dG (J9 X Gh z12) (dG (J9 X Gh z13) (bnil))))))))))))));have e:=hfa.symm.trans (Jn X Gh a27);cases e;have cls:tX K mg g0:=⟨⟨Jn X Gh y0,by rw[yc0];rfl,yt0⟩,q0,u0,u1⟩;have F0:=ai (st:=s3) l0 c0 k0;have D0:fF K mg "cells_of" s3 ["board"] f0 _:=⟨F0,Jn X Gh a0,F0.binds bd3⟩;have E0:bK K mg P F G B "cells_of" 3 f0 _ ["board"]:=⟨.inr ⟨s3,N3,[1],80,_,D0,sc3,rfl,tr3⟩⟩;have F1:=ai (st:=ko) l1 c1 k1;have D1:fF K mg "is_straight" ko ["one","other"] f1 _:=⟨F1,Jn X Gh a1,F1.binds IG⟩;have E1:bK K mg P F G B "is_straight" 129 f1 _ ["one","other"]:=⟨.inr ⟨ko,FF,[],80,_,D1,Gb,rfl,Fw⟩⟩;have F2:=ai (st:=kn) l2 c2 k2;have D2:fF K mg "is_aslant" kn ["one","other"] f2 _:=⟨F2,Jn X Gh a2,F2.binds IF⟩;have E2:bK K mg P F G B "is_aslant" 130 f2 _ ["one","other"]:=⟨.inr ⟨kn,FE,[],80,_,D2,Ga,rfl,Fv⟩⟩;have F3:=ai (st:=km) l3 c3 k3;have D3:fF K mg "struck" km ["kind","one","other"] f3 _:=⟨F3,Jn X Gh a3,F3.binds ID⟩;have E3:bK K mg P F G B "struck" 131 f3 _ ["kind","one","other"]:=⟨.inr ⟨km,FC,[],80,_,D3,GZ,rfl,Fu⟩⟩;have F4:=ai (st:=kl) l4 c4 k4;have D4:fF K mg "not_struck" kl ["kind","cell","cells"] f4 _:=⟨F4,Jn X Gh a4,F4.binds IB⟩;have E4:bK K mg P F G B "not_struck" 182 f4 _ ["kind","cell","cells"]:=⟨.inr ⟨kl,FA,[],80,_,D4,GY,rfl,Ft⟩⟩;have F5:=ai (st:=kj) l5 c5 k5;have D5:fF K mg "with_one_more" kj ["kind","level","room"] f5 _:=⟨F5,Jn X Gh a5,F5.binds IA⟩;have E5:bK K mg P F G B "with_one_more" 183 f5 _ ["kind","level","room"]:=⟨.inr ⟨kj,Ez,[3],80,_,D5,GX,rfl,Fs⟩⟩;have F6:=ai (st:=ki) l6 c6 k6;have D6:fF K mg "all_placings" ki ["kind","board","size"] f6 _:=⟨F6,Jn X Gh a6,F6.binds Hz⟩;have E6:bK K mg P F G B "all_placings" 184 f6 _ ["kind","board","size"]:=⟨.inr ⟨ki,Ey,[],80,_,D6,GW,rfl,Fq⟩⟩;have F7:=ai (st:=yS) l7 c7 k7;have D7:fF K mg "bits_of" yS ["line"] f7 _:=⟨F7,Jn X Gh a7,F7.binds bd46⟩;have E7:bK K mg P F G B "bits_of" 46 f7 _ ["line"]:=⟨.inr ⟨yS,N46,[1],80,_,D7,sc46,rfl,tr46⟩⟩;have F8:=ai (st:=BJ) l8 c8 k8;have D8:fF K mg "with_line" BJ ["levels","bits"] f8 _:=⟨F8,Jn X Gh a8,F8.binds bd47⟩;have E8:bK K mg P F G B "with_line" 47 f8 _ ["levels","bits"]:=⟨.inl ⟨D8.nm,D8.fn.kp,D8.bd,xO rfl,fun p w base k IH=>Dc (hB "dict" rfl) (hB "enumerate" rfl) D8 p w base k fun y g h=>(IH y g h).imp fun b h=>h.imp fun gd h=>h.imp fun qs h=>⟨h.1,h.2.1,h.2.2.1,h.2.2.2.1⟩⟩⟩;have F9:=ai (st:=yR) l9 c9 k9;have D9:fF K mg "row_of" yR ["board"] f9 _:=⟨F9,Jn X Gh a9,F9.binds bd48⟩;have E9:bK K mg P F G B "row_of" 48 f9 _ ["board"]:=⟨.inr ⟨yR,N48,[],80,_,D9,sc48,rfl,tr48⟩⟩;have F10:=ai (st:=s4) l10 c10 k10;have D10:fF K mg "_law_cell" s4 ["_law_script","_law_k"] f10 _:=⟨F10,Jn X Gh a10,F10.binds bd4⟩;have E10:bK K mg P F G B "_law_cell" 4 f10 _ ["_law_script","_law_k"]:=⟨.inr ⟨s4,N4,[],80,_,D10,sc4,rfl,tr4⟩⟩;have F11:=ai (st:=s5) l11 c11 k11;have D11:fF K mg "_law_mixed" s5 ["_law_cell_here","_law_k"] f11 _:=⟨F11,Jn X Gh a11,F11.binds bd5⟩;have E11:bK K mg P F G B "_law_mixed" 5 f11 _ ["_law_cell_here","_law_k"]:=⟨.inr ⟨s5,N5,[],80,_,D11,sc5,rfl,tr5⟩⟩;have F12:=ai (st:=yT) l12 c12 k12;have D12:fF K mg "_law_deep" yT ["_law_cell_here"] f12 _:=⟨F12,Jn X Gh a12,F12.binds bd20⟩;have E12:bK K mg P F G B "_law_deep" 20 f12 _ ["_law_cell_here"]:=⟨.inr ⟨yT,N20,[],80,_,D12,sc20,rfl,tr20⟩⟩;have F13:=ai (st:=s6) l13 c13 k13;have D13:fF K mg "_law_board" s6 ["_law_head","_law_cell_here","_law_most"] f13 _:=⟨F13,Jn X Gh a13,F13.binds bd6⟩;have E13:bK K mg P F G B "_law_board" 6 f13 _ ["_law_head","_law_cell_here","_law_most"]:=⟨.inr ⟨s6,N6,[6],80,_,D13,sc6,rfl,tr6⟩⟩;have F14:=ai (st:=s7) l14 c14 k14;have D14:fF K mg "_law_cells" s7 ["_law_board_here"] f14 _:=⟨F14,Jn X Gh a14,F14.binds bd7⟩;have E14:bK K mg P F G B "_law_cells" 7 f14 _ ["_law_board_here"]:=⟨.inr ⟨s7,N7,[1],80,_,D14,sc7,rfl,tr7⟩⟩;have F15:=ai (st:=s8) l15 c15 k15;have D15:fF K mg "_law_whole" s8 ["_law_found"] f15 _:=⟨F15,Jn X Gh a15,F15.binds bd8⟩;have E15:bK K mg P F G B "_law_whole" 8 f15 _ ["_law_found"]:=⟨.inr ⟨s8,N8,[],80,_,D15,sc8,rfl,tr8⟩⟩;have F16:=ai (st:=s9) l16 c16 k16;have D16:fF K mg "_law_same" s9 ["_law_found","_law_due"] f16 _:=⟨F16,Jn X Gh a16,F16.binds bd9⟩;have E16:bK K mg P F G B "_law_same" 9 f16 _ ["_law_found","_law_due"]:=⟨.inr ⟨s9,N9,[],80,_,D16,sc9,rfl,tr9⟩⟩;have F17:=ai (st:=yU) l17 c17 k17;have D17:fF K mg "_law_all_same" yU ["_law_found","_law_due"] f17 _:=⟨F17,Jn X Gh a17,F17.binds bd10⟩;have E17:bK K mg P F G B "_law_all_same" 10 f17 _ ["_law_found","_law_due"]:=⟨.inr ⟨yU,N10,[],80,_,D17,sc10,rfl,tr10⟩⟩;have F18:=ai (st:=kh) l18 c18 k18;have D18:fF K mg "_law_strikes" kh ["_law_kind_here","_law_one","_law_other"] f18 _:=⟨F18,Jn X Gh a18,F18.binds Hy⟩;have E18:bK K mg P F G B "_law_strikes" 186 f18 _ ["_law_kind_here","_law_one","_law_other"]:=⟨.inr ⟨kh,Ex,[],80,_,D18,GV,rfl,Fp⟩⟩;have F19:=ai (st:=kf) l19 c19 k19;have D19:fF K mg "_law_kind" kf ["_law_number"] f19 _:=⟨F19,Jn X Gh a19,F19.binds Hx⟩;have E19:bK K mg P F G B "_law_kind" 187 f19 _ ["_law_number"]:=⟨.inr ⟨kf,Ew,[],80,_,D19,GU,rfl,Fo⟩⟩;have F20:=ai (st:=oE) l20 c20 k20;have D20:fF K mg "_law_told" oE ["_law_kind_here","_law_board_here","_law_size"] f20 _:=⟨F20,Jn X Gh a20,F20.binds Hw⟩;have E20:bK K mg P F G B "_law_told" 195 f20 _ ["_law_kind_here","_law_board_here","_law_size"]:=⟨.inl ⟨D20.nm,D20.fn.kp,D20.bd,AA rfl,AB  cls D20⟩⟩;have F21:=ai (st:=kc) l21 c21 k21;have D21:fF K mg "_law_free" kc ["_law_kind_here","_law_placing_here","_law_cells_here"] f21 _:=⟨F21,Jn X Gh a21,F21.binds Hv⟩;have E21:bK K mg P F G B "_law_free" 196 f21 _ ["_law_kind_here","_law_placing_here","_law_cells_here"]:=⟨.inr ⟨kc,Ev,[3],80,_,D21,GT,rfl,Fm⟩⟩;have F22:=ai (st:=ka) l22 c22 k22;have D22:fF K mg "_law_is_good" ka ["_law_placing_here","_law_kind_here","_law_cells_here","_law_size"] f22 _:=⟨F22,Jn X Gh a22,F22.binds Hu⟩;have E22:bK K mg P F G B "_law_is_good" 197 f22 _ ["_law_placing_here","_law_kind_here","_law_cells_here","_law_size"]:=⟨.inr ⟨ka,Eu,[],80,_,D22,GS,rfl,Fk⟩⟩;have F23:=ai (st:=kZ) l23 c23 k23;have D23:fF K mg "_law_are_good" kZ ["_law_found","_law_kind_here","_law_cells_here","_law_size"] f23 _:=⟨F23,Jn X Gh a23,F23.binds Ht⟩;have E23:bK K mg P F G B "_law_are_good" 198 f23 _ ["_law_found","_law_kind_here","_law_cells_here","_law_size"]:=⟨.inr ⟨kZ,Et,[],80,_,D23,GR,rfl,Fj⟩⟩;have F24:=ai (st:=kY) l24 c24 k24;have D24:fF K mg "_law_one_more" kY ["_law_found","_law_kind_here","_law_cells_here"] f24 _:=⟨F24,Jn X Gh a24,F24.binds Hs⟩;have E24:bK K mg P F G B "_law_one_more" 199 f24 _ ["_law_found","_law_kind_here","_law_cells_here"]:=⟨.inr ⟨kY,Es,[],80,_,D24,GQ,rfl,Fi⟩⟩;have F25:=ai (st:=kX) l25 c25 k25;have D25:fF K mg "_law_placing" kX ["_law_kind_here","_law_cells_here","_law_size","_law_number"] f25 _:=⟨F25,Jn X Gh a25,F25.binds Hr⟩;have E25:bK K mg P F G B "_law_placing" 200 f25 _ ["_law_kind_here","_law_cells_here","_law_size","_law_number"]:=⟨.inr ⟨kX,Er,[5],80,_,D25,GP,rfl,Fh⟩⟩;have F26:=ai (st:=kW) l26 c26 k26;have D26:fF K mg "_law_drawn" kW ["_law_script"] f26 _:=⟨F26,Jn X Gh a26,F26.binds Hq⟩;have E26:bK K mg P F G B "_law_drawn" 201 f26 _ ["_law_script"]:=⟨.inr ⟨kW,Ep,[],80,_,D26,GO,rfl,Fg⟩⟩;have F27:=ai (st:=iC) l27 c27 k27;have D27:fF K mg "law" iC ["_law_script"] fa _:=⟨F27,Jn X Gh a27,F27.binds Ho⟩;have E27:bK K mg P F G B "law" 202 fa _ ["_law_script"]:=⟨.inr ⟨iC,Eo,[],80,_,D27,GN,rfl,Ff⟩⟩;have hF:∀x f,F.lookup x=some f->∃a fd ps,bK K mg P F G B x f a fd ps:=aj ⟨_,_,_,E0⟩ (aj ⟨_,_,_,E1⟩ (aj ⟨_,_,_,E2⟩ (aj ⟨_,_,_,E3⟩ (aj ⟨_,_,_,E4⟩ (aj ⟨_,_,_,E5⟩ (aj ⟨_,_,_,E6⟩ (aj ⟨_,_,_,E7⟩ (aj ⟨_,_,_,E8⟩ (aj ⟨_,_,_,E9⟩ (aj ⟨_,_,_,E10⟩ (aj ⟨_,_,_,E11⟩ (aj ⟨_,_,_,E12⟩ (aj ⟨_,_,_,E13⟩ (aj ⟨_,_,_,E14⟩ (aj ⟨_,_,_,E15⟩ (aj ⟨_,_,_,E16⟩ (aj ⟨_,_,_,E17⟩ (aj ⟨_,_,_,E18⟩ (aj ⟨_,_,_,E19⟩ (aj ⟨_,_,_,E20⟩ (aj ⟨_,_,_,E21⟩ (aj ⟨_,_,_,E22⟩ (aj ⟨_,_,_,E23⟩ (aj ⟨_,_,_,E24⟩ (aj ⟨_,_,_,E25⟩ (aj ⟨_,_,_,E26⟩ (aj ⟨_,_,_,E27⟩ (HV))))))))))))))))))))))))))));have hG:∀x v,G.lookup x=some v->∃u w,mg x=some u/\RelV w u/\∀Hi n H,Rp K Hi n v H w:=sy ⟨_,(.str "x"),Jn X Gh v0,⟨_,rfl⟩,fun _ _ _=>Rp.str.mpr rfl⟩ (sy ⟨_,(.str "straight"),Jn X Gh v1,⟨_,rfl⟩,fun _ _ _=>Rp.str.mpr rfl⟩ (sy ⟨_,(.str "aslant"),Jn X Gh v2,⟨_,rfl⟩,fun _ _ _=>Rp.str.mpr rfl⟩ (sy ⟨_,(.int 1000),Jn X Gh v3,⟨_,rfl⟩,fun _ _ _=>Rp.int.mpr rfl⟩ (gnil))));exact⟨W.fnOf "law" "law" (aS iC) (aF iC) (aA iC) .none kV27 dc27 pm27 an27 cd27 ct27,fun s v=>.of_eq rfl,fun base _ _=>DJ (tD hG hB hF 40 "law" 202 fa _ _ E27).1 w6⟩
theorem walk{l:W.OpenLaw}{q:Program}{loose:List Str}{XP:(Str->Option Value)->Heap->Prop}{YP:World->Heap->Prop}{d:DefRec}{K:Params->W.Frag}(hn:l.most=some 63)(hdf:d.params.defaults=[])
  (hY:∀(w:World)(h:Heap),YP w h->(K w.params).In h)
  (F:∀(w:World)(mg:Str->Option Value)(fa:Addr)(h:Heap),(K w.params).In h->h.Ns mainGlobals mg->mg d.name=some (.ref fa) ->
   ∃fd:FuncData,(∀(s:Shared)(u:Value),BindsTo s fd ⟨[u],[]⟩ [("_law_script",u)])/\∀base:Heap,(K w.params).In base->base.Ns mainGlobals mg->bi l.prog w (K w.params) mg base p5 40 fa fd ["_law_script"] (sA (K w.params))) :
  W.WalkO q loose XP YP l.row.toRowW d [] (fun f vs=>PySem.call f vs) :=
 L2.yY (n:=63) (k:=40) (x:="_law_script") (CX:=fun _=>p5) (sp:=fun w=>sA (K w.params)) hn (by decide) hdf ⟨rfl,by decide,by decide⟩ hY F (fun _ _ a ns hl _ hS=>⟨a,ns,rfl,hS,hl,fun _=>rfl⟩) fun _ _ _ _ _ z=>z
end Law
open PySem PySem.W PyProof.Rows
noncomputable def LH.vw:Program:={ PySem.Challenge.pw_unstruck_k73_whole_none_lacks with main:={ PySem.Challenge.pw_unstruck_k73_whole_none_lacks.main with body:=((PySem.Challenge.pw_unstruck_k73_whole_none_lacks.main.body.drop 1).take 2)++((PySem.Challenge.pw_unstruck_k73_whole_none_lacks.main.body.drop 4).take 2)++((PySem.Challenge.pw_unstruck_k73_whole_none_lacks.main.body.drop 7).take 9)++((PySem.Challenge.pw_unstruck_k73_whole_none_lacks.main.body.drop 17).take 3)++((PySem.Challenge.pw_unstruck_k73_whole_none_lacks.main.body.drop 21).take 18) } }
theorem LH.two {A B C:Type} {o:Option A} {f:A→B} {g:A→C} {a:B} {b:C} (h:o.map f=some a) (k:o.map g=some b):o.map (fun s=>(f s, g s))=some (a, b):=by
  cases o with
  | none => cases h
  | some x => cases h; cases k; rfl
noncomputable abbrev LH.xt (s:Shared):Bool:=xlAt LH.vw [] s&&recOk [] s
theorem LH.h1 (w:World):(openEnds treeTable PySem.Challenge.pw_unstruck_k73_whole_none_lacks w 9999).map (fun s=>openSeen LH.vw [] (importedModules PySem.Challenge.pw_unstruck_k73_whole_none_lacks.main.body) LH.xt true s)=some (openGood LH.vw []):=by kernel_rfl
local macro_rules|`(tactic|o_head $H)=>do
  let hw:=Lean.mkIdent `hw
  let hc:=Lean.mkIdent `hc
  `(tactic|(refine holds_open (q:=LH.vw) (loose:=[]) (Xt:=LH.xt) (XP:=XL LH.vw []) (Yf:=Hook.obs $H) (Ya:=Hook.val $H) (YP:=Hook.says $H) (N:=9999) (fun w=>LH.two (LH.h1 w) (by kernel_rfl)) (Hook.of $H) (Hook.keeps $H) (fun s e=>xl_of s (Bool.and_eq_true_iff.mp e).1) XL.keeps rfl rfl rfl (fun s e=>recFacts_of (Bool.and_eq_true_iff.mp e).2) rfl (by first|assumption|decide +kernel) (by decide +kernel) ⟨rfl, rfl, rfl, rfl, rfl, by decide +kernel⟩ ?$hw ?$hc))
set_option maxRecDepth 100000 in
set_option maxHeartbeats 0 in
theorem PySem.Challenge.cw_unstruck_k73_whole_none_lacks_holds : PySem.Challenge.rw_unstruck_k73_whole_none_lacks.Holds := by
 w_on;o_law;k_head;(case hw=>w_witness2)
 k_fill
 refine Law.walk (l:=PySem.Challenge.rw_unstruck_k73_whole_none_lacks) rfl rfl (fun w h Y=>PySem.W.kIn_of Y) ?F
 case F =>
  intro w mg fa h KX G hmg;refine' Law.Eg KX G hmg ?a0 ?l0 ?c0 ?k0 ?a1 ?l1 ?c1 ?k1 ?a2 ?l2 ?c2 ?k2 ?a3 ?l3 ?c3 ?k3 ?a4 ?l4 ?c4 ?k4 ?a5 ?l5 ?c5 ?k5 ?a6 ?l6 ?c6 ?k6 ?a7 ?l7 ?c7 ?k7 ?a8 ?l8 ?c8 ?k8 ?a9 ?l9 ?c9 ?k9 ?a10 ?l10 ?c10 ?k10 ?a11 ?l11 ?c11 ?k11 ?a12 ?l12 ?c12 ?k12 ?a13 ?l13 ?c13 ?k13 ?a14 ?l14 ?c14 ?k14 ?a15 ?l15 ?c15 ?k15 ?a16 ?l16 ?c16 ?k16 ?a17 ?l17 ?c17 ?k17 ?a18 ?l18 ?c18 ?k18 ?a19 ?l19 ?c19 ?k19 ?a20 ?l20 ?c20 ?k20 ?a21 ?l21 ?c21 ?k21 ?a22 ?l22 ?c22 ?k22 ?a23 ?l23 ?c23 ?k23 ?a24 ?l24 ?c24 ?k24 ?a25 ?l25 ?c25 ?k25 ?a26 ?l26 ?c26 ?k26 ?a27 ?l27 ?c27 ?k27 ?z0 ?z1 ?z2 ?z3 ?z4 ?z5 ?z6 ?z7 ?z8 ?z9 ?z10 ?z11 ?z12 ?z13 ?v0 ?v1 ?v2 ?v3 ?y0 ?yc0 ?yt0 ?q0 ?u0 ?u1
  (case a0=>k_is)
  (case l0=>k_is)
  (case c0=>k_is)
  (case k0=>k_is)
  (case a1=>k_is)
  (case l1=>k_is)
  (case c1=>k_is)
  (case k1=>k_is)
  (case a2=>k_is)
  (case l2=>k_is)
  (case c2=>k_is)
  (case k2=>k_is)
  (case a3=>k_is)
  (case l3=>k_is)
  (case c3=>k_is)
  (case k3=>k_is)
  (case a4=>k_is)
  (case l4=>k_is)
  (case c4=>k_is)
  (case k4=>k_is)
  (case a5=>k_is)
  (case l5=>k_is)
  (case c5=>k_is)
  (case k5=>k_is)
  (case a6=>k_is)
  (case l6=>k_is)
  (case c6=>k_is)
  (case k6=>k_is)
  (case a7=>k_is)
  (case l7=>k_is)
  (case c7=>k_is)
  (case k7=>k_is)
  (case a8=>k_is)
  (case l8=>k_is)
  (case c8=>k_is)
  (case k8=>k_is)
  (case a9=>k_is)
  (case l9=>k_is)
  (case c9=>k_is)
  (case k9=>k_is)
  (case a10=>k_is)
  (case l10=>k_is)
  (case c10=>k_is)
  (case k10=>k_is)
  (case a11=>k_is)
  (case l11=>k_is)
  (case c11=>k_is)
  (case k11=>k_is)
  (case a12=>k_is)
  (case l12=>k_is)
  (case c12=>k_is)
  (case k12=>k_is)
  (case a13=>k_is)
  (case l13=>k_is)
  (case c13=>k_is)
  (case k13=>k_is)
  (case a14=>k_is)
  (case l14=>k_is)
  (case c14=>k_is)
  (case k14=>k_is)
  (case a15=>k_is)
  (case l15=>k_is)
  (case c15=>k_is)
  (case k15=>k_is)
  (case a16=>k_is)
  (case l16=>k_is)
  (case c16=>k_is)
  (case k16=>k_is)
  (case a17=>k_is)
  (case l17=>k_is)
  (case c17=>k_is)
  (case k17=>k_is)
  (case a18=>k_is)
  (case l18=>k_is)
  (case c18=>k_is)
  (case k18=>k_is)
  (case a19=>k_is)
  (case l19=>k_is)
  (case c19=>k_is)
  (case k19=>k_is)
  (case a20=>k_is)
  (case l20=>k_is)
  (case c20=>k_is)
  (case k20=>k_is)
  (case a21=>k_is)
  (case l21=>k_is)
  (case c21=>k_is)
  (case k21=>k_is)
  (case a22=>k_is)
  (case l22=>k_is)
  (case c22=>k_is)
  (case k22=>k_is)
  (case a23=>k_is)
  (case l23=>k_is)
  (case c23=>k_is)
  (case k23=>k_is)
  (case a24=>k_is)
  (case l24=>k_is)
  (case c24=>k_is)
  (case k24=>k_is)
  (case a25=>k_is)
  (case l25=>k_is)
  (case c25=>k_is)
  (case k25=>k_is)
  (case a26=>k_is)
  (case l26=>k_is)
  (case c26=>k_is)
  (case k26=>k_is)
  (case a27=>k_is)
  (case l27=>k_is)
  (case c27=>k_is)
  (case k27=>k_is)
  (case z0=>k_is)
  (case z1=>k_is)
  (case z2=>k_is)
  (case z3=>k_is)
  (case z4=>k_is)
  (case z5=>k_is)
  (case z6=>k_is)
  (case z7=>k_is)
  (case z8=>k_is)
  (case z9=>k_is)
  (case z10=>k_is)
  (case z11=>k_is)
  (case z12=>k_is)
  (case z13=>k_is)
  (case v0=>k_is)
  (case v1=>k_is)
  (case v2=>k_is)
  (case v3=>k_is)
  (case y0=>k_is)
  (case yc0=>k_is)
  (case yt0=>k_is)
  (case q0=>k_exc)
  (case u0=>k_is)
  (case u1=>k_is)
#print axioms PySem.Challenge.cw_unstruck_k73_whole_none_lacks_holds
