import PyProof.Rows.All
import Wide.All
import OpenK.AllK
import Wide.FinOn
import Lean
import PyProof.EqAt
import PyProof.EqKinds
import PyProof.TupleCall
import PyProof.StrLawsTight
import PyProof.StrLawsChain
import PyProof.StrLawsOcc
import PyProof.Cells
import OpenK.KLine
import PyProof.SumAny
import PyProof.Rows.SortShell
import PyProof.DictItems
import PyProof.DictWalks
import KE.KRevIter
import PyProof.JoinWalk
import PyProof.CollectIter
import PyProof.StrLawsIn
import PyProof.Rows.SetFrom
import PyProof.CollectWalk
import PyProof.Rows.SortWalk
import KE.KSortTup
import KE.KxPercent
import PyProof.TupleOfGen
import KE.KDictList
import PyProof.P3In
import PyProof.NeData
import PyProof.FactsAll.tuple_2
import KE.KTryMore
import PyProof.ExcArgsOwn
import PyProof.ExcAttrAll.ValueError
import PyProof.ExcBaseAll.ValueError
import PyProof.InstStoreFacts
import PySem.Challenge.RW_unstruck_k23_row_by_parts
set_option bootstrap.genMatcherCode false
noncomputable section
set_option genSizeOf false
set_option genSizeOfSpec false
local macro_rules | `(tactic| omega) => `(tactic| first | lia | omega (config := {}))
set_option Elab.async false
set_option linter.all false
set_option maxRecDepth 100000
def JC:=@List.length_map
def JD:=@PySem.wpAny_bind
def JE:=@if_neg
def JF:=@List.mem_cons_of_mem
def JG:=@PySem.Heap.get?_push_of_some
def JH:=@Nat.le_refl
def JI:=@if_pos
def JJ:=@Bool.and_eq_true
def JK:=@List.getElem?_eq_some_iff
def JL:=@List.mem_cons_self
def JM:=@List.length_append
def JN:=@List.getElem?_eq_getElem
def JO:=@List.size_toArray
def JP:=@List.getElem?_map
def JQ:=@List.getD_eq_getElem?_getD
def JR:=@List.map_cons
def JS:=@Bool.false_ne_true
def JT:=@PyProof.Rows.wpS_bind
def JU:=@List.mem_cons
def JV:=@PySem.Heap.lt_size
def JW:=@PyProof.Rows.wpS_pure
def JX:=@List.mem_map
def JY:=@List.length_cons
def JZ:=@Array.length_toList
def Ja:=@PySem.wpAny_pure
def Jb:=@Option.some.inj
def Jc:=@PySem.Heap.get?_push_size
def Jd:=@List.mem_of_getElem?
def Je:=@List.length_range
def Jf:=@PySem.AutoSeq1.wpAny_loadPart'
def Jg:=@Nat.ne_of_lt
def Jh:=@List.all_eq_true
def Ji:=@bind_congr
def Jj:=@List.getElem?_set_ne
def Jk:=@List.take_append_drop
def Jl:=@Option.bind_some
def Jm:=@List.append_assoc
def Jn:=@List.mem_append
def Jo:=@List.map_append
def Jp:=@List.flatten_cons
def Jq:=@LawfulBEq.eq_of_beq
def Jr:=@List.mem_singleton
def Js:=@List.mem_range
def Jt:=@Array.getElem?_toList
def Ju:=@Nat.lt_of_lt_of_le
def Jv:=@List.map_congr_left
def Jw:=@Nat.le_trans
def Jx:=@PySem.mem_of_lookup
def Jy:=@List.mem_append_right
def Jz:=@List.getElem?_eq_none
def J0:=@Nat.zero_le
def J1:=@congrArg
def J2:=@decide_eq_false
def J3:=@Array.toList_append
def J4:=@List.map_map
def J5:=@List.lookup_cons
def J6:=@List.length_take
def J7:=@List.mem_filter
def J8:=@PySem.wpAny_loadPart'
def J9:=@List.nodup_cons
def KA:=@List.length_replicate
def KB:=@ite_congr
def KC:=@List.replicate_succ
def KD:=@List.getElem?_range
def KF:=@Option.map_some
def KG:=@List.append_nil
def KH:=@PyProof.Rows.callWith_type1
def KI:=@List.length_set
def KJ:=@List.not_mem_nil
def KL:=@List.pairwise_append
def KM:=@List.getElem?_append_left
def KN:=@List.drop_eq_getElem_cons
def KO:=@List.map_nil
def KP:=@PyProof.Rows.wpS_forRange
def KQ:=@PyProof.Rows.slot_tuple_getitem
def KR:=@List.getElem?_append_right
def KS:=@Bool.or_eq_true
def KU:=@Bool.eq_iff_iff
def KW:=@List.take_length
def KY:=@List.getElem_mem
def KZ:=@List.getElem?_set_self
def Ka:=@PySem.sizeLine_eq
def Kb:=@List.extract_eq_take_drop
def Kc:=@Bool.eq_false_iff
def Kd:=@List.find?_cons
def Ke:=@List.mem_of_mem_take
def Kf:=@List.mem_append_left
def Kg:=@List.getElem?_cons_succ
def Kh:=@Nat.lt_succ_of_lt
def Ki:=@List.take_of_length_le
def Kj:=@List.take_add_one
def Kk:=@Int.le_trans
def Kl:=@Int.le_of_lt
def Km:=@Array.toList_push
def Kn:=@Nat.min_eq_left
def Ko:=@List.length_filter_le
def Kp:=@List.zip_cons_cons
def Kq:=@List.mem_flatten
def Kr:=@List.Perm.refl
def Ks:=@Int.le_refl
def Kt:=@Array.toList_extract
def Ku:=@decide_eq_true_eq
def Kv:=@List.nodup_append
def Kw:=@Int.toNat_natCast
def Ky:=@PySem.wpAny_truthy_bool
def Kz:=@List.sum_cons
def K0:=@PySem.wpAny_mono
def K1:=@List.mem_reverse
def K2:=@decide_eq_true
def K3:=@beq_iff_eq
def K4:=@List.lookup_append
def K5:=@List.filter_append
def K6:=@PyProof.Rows.wpS_mono
def K7:=@List.getElem?_zipWith
def K8:=@List.Perm.append_left
def K9:=@PySem.wpAny_call_entry
def LA:=@Classical.byContradiction
def LB:=@List.foldl_cons
def LC:=@Prod.mk.inj
def LF:=@List.mem_of_mem_drop
def LG:=@List.getElem?_set
def LH:=@List.filter_congr
def LI:=@List.ext_getElem?
def LJ:=@Nat.lt_irrefl
def LK:=@List.getElem?_take_of_lt
def LL:=@List.all_cons
def LM:=@List.reverse_append
def LO:=@List.length_pos_iff
def LP:=@PySem.wpAny_newObj_type
def LS:=@List.length_eq_zero_iff
def LU:=@List.length_drop
def LV:=@PyProof.Rows.wpS_modify
def LW:=@PySem.wpAny_holding
def LX:=@if_true
def LY:=@Nat.min_self
def LZ:=@Nat.lt_trans
def La:=@List.drop_of_length_le
def Lb:=@Bool.false_eq_true
def Lc:=@PySem.W.kia_one
def Ld:=@PySem.AutoSeq1.idx_int
def Le:=@List.range_succ
def Lf:=@List.nil_append
def Lg:=@List.perm_append_comm
def Lh:=@of_decide_eq_true
def Li:=@List.pairwise_map
def Lj:=@Array.getD_eq_getD_getElem?
def Lk:=@or_false
def Ll:=@PySem.wpAny_passesOwn
def Lm:=@PySem.PassesOwn.never
def Ln:=@List.map_eq_cons_iff
def Lo:=@Array.toList_reverse
def Lp:=@Nat.ne_of_gt
def Lq:=@Nat.le_of_lt
def Lr:=@List.filter_cons
def Lu:=@List.any_eq_true
def Lw:=@List.length_zipWith
def Lx:=@List.flatten_append
def Ly:=@if_false
def Lz:=@PySem.wpAny_field
def L0:=@List.any_cons
def L1:=@Ne.symm
def L3:=@List.contains_cons
def L4:=@Nat.add_sub_cancel_left
def L5:=@List.getElem?_replicate
def L6:=@List.Pairwise.map
def L7:=@Bool.not_eq_true'
def L8:=@PySem.wpAny_rule
def L9:=@PySem.wpAny_getItem_str_slice
def MA:=@PySem.wpAny_callSpecial?_slot
def MB:=@PySem.MeetsSeq3.plain_eq_loop
def MC:=@List.Pairwise.sublist
def MD:=@Bool.beq_eq_decide_eq
def ME:=@decide_eq_decide
def MF:=@PySem.Str.cps_append
def MG:=@PySem.Heap.get?_update_other
def MH:=@PySem.Calls.callWith_builtin
def MI:=@List.length_nil
def MJ:=@beq_eq_false_iff_ne
def MK:=@List.getElem_of_mem
def ML:=@PySem.call_meets
def MM:=@Prod.ext
def MN:=@Nat.lt_of_le_of_lt
def MO:=@List.take_take
def MP:=@List.perm_ext_iff_of_nodup
def MQ:=@Int.emod_lt_of_pos
def MR:=@Bool.false_and
def MS:=@List.pairwise_iff_getElem
def MT:=@List.mem_or_eq_of_mem_set
def MU:=@List.take_sublist
def MV:=@List.reverse_perm
def MW:=@List.foldl_append
def MX:=@PySem.F.args_tuple_add_2
def MY:=@List.Perm.eq_of_pairwise
def MZ:=@PySem.wpAny_pyIter_tuple
def Ma:=@PySem.tupleKind_room_in1
def Mb:=@PyProof.Rows.wpS_get
def Mc:=@PySem.wpAny_pyIter_list
def Md:=@PySem.wpAny_pyIter_enum
namespace L2
open PySem PySem.Spec PyProof.Rows
noncomputable abbrev ag:=Sum Int Str
noncomputable def l9:ag->Value->Bool
 | .inl k,v=>Value.isInt k v| .inr x,v=>Value.isStrOf x v
noncomputable def keyH(w:World):ag->Int
 | .inl k=>hashInt k| .inr x=>hashStr w x
theorem aq:∀{k:ag}{v:Value},l9 k v=true->(∃i t,k=Sum.inl i/\v=Value.int i t)\/(∃x t,k=Sum.inr x/\v=Value.str x t)
 | .inl i,v,h=>by obtain⟨t,e⟩:=Value.isInt_shape (k:=i) (v:=v) h;exact .inl ⟨i,t,rfl,e⟩
 | .inr x,v,h=>by obtain⟨t,e⟩:=Value.isStrOf_shape (x:=x) (v:=v) h;exact .inr ⟨x,t,rfl,e⟩
theorem vd(i:Int)(t:Tok):l9 (.inl i) (.int i t)=true:=by simp[l9,Value.isInt]
theorem vc(x:Str)(t:Tok):l9 (.inr x) (.str x t)=true:=by simp[l9,Value.isStrOf]
theorem Es(a b:Int):decide ((Sum.inl a:ag)=Sum.inl b)=(a==b):=by
 by_cases e:a=b;subst e;simp
 ·have h:¬(Sum.inl a:ag)=Sum.inl b:=λq=>e (Sum.inl.inj q)
  rw[J2 h];exact(MJ.mpr e).symm
theorem Eo(a b:Str):decide ((Sum.inr a:ag)=Sum.inr b)=decide (a=b):=by
 by_cases e:a=b;subst e;simp
 ·have h:¬(Sum.inr a:ag)=Sum.inr b:=λq=>e (Sum.inr.inj q)
  rw[J2 h,J2 e]
theorem Er(a:Int)(b:Str):decide ((Sum.inl a:ag)=Sum.inr b)=false:=J2 (λq=>nomatch q)
theorem Ep(a:Str)(b:Int):decide ((Sum.inr a:ag)=Sum.inl b)=false:=J2 (λq=>nomatch q)
noncomputable def aU(c:Program)(w:World):PySem.KeyKind c w ag where
 is:=l9
 hash:=keyH w
 inj:=λv a b ha hb=>by
  rcases aq ha with⟨i,t,rfl,rfl⟩|⟨x,t,rfl,rfl⟩
  ·rcases aq hb with⟨j,u,rfl,e⟩|⟨y,u,rfl,e⟩
   ·injection e with e1 _;rw[e1]
   ·exact nomatch e
  ·rcases aq hb with⟨j,u,rfl,e⟩|⟨y,u,rfl,e⟩
   ·exact nomatch e
   ·injection e with e1 _;rw[e1]
 byValue:=λk v h=>by
  rcases aq h with⟨i,t,rfl,rfl⟩|⟨x,t,rfl,rfl⟩<;>rfl
 pyHash:=λhv h=>by
  rcases aq hv with⟨i,t,rfl,rfl⟩|⟨x,t,rfl,rfl⟩
  ·exact wpAny_pyHash_int h
  ·exact wpAny_pyHash_str h
 eqBool:=λhu hv h=>by
  rcases aq hu with⟨i,t,rfl,rfl⟩|⟨x,t,rfl,rfl⟩
  ·rcases aq hv with⟨j,u,rfl,rfl⟩|⟨y,u,rfl,rfl⟩
   ·rw[Es]at h;exact wpAny_eqBool_int h
   ·rw[Er]at h;exact SeqAt.EqAt.int_str i t y u _ _ _ _ h
  ·rcases aq hv with⟨j,u,rfl,rfl⟩|⟨y,u,rfl,rfl⟩
   ·rw[Ep]at h;exact SeqAt.EqAt.str_int x t j u _ _ _ _ h
   ·rw[Eo]at h;exact wpAny_eqBool_str h
 «strs»:=λk x t v h=>by
  rcases aq h with⟨i,u,rfl,e⟩|⟨y,u,rfl,e⟩
  ·exact nomatch e
  ·injection e with e1 _
   subst e1;cases v<;>rfl
theorem pQ(a:Program)(w:World)(i:Int)(t:Tok):(aU a w).is (.inl i) (.int i t)=true:=vd i t
theorem pP(a:Program)(w:World)(x:Str)(t:Tok):(aU a w).is (.inr x) (.str x t)=true:=vc x t
inductive V where
 | non|bl (b:Bool)|int (i:Int)|str (x:Str)|byt (b:Array UInt8)|flt (b:UInt64)|ref (a:Addr)|ty (n:String)
 deriving DecidableEq
noncomputable def RelV:V->Value->Prop
 | .non,u=>u=Value.none| .bl b,u=>u=Value.bool b| .int i,u=>∃t,u=Value.int i t| .str x,u=>∃t,u=Value.str x t| .byt b,u=>∃t,u=Value.bytes b t| .flt b,u=>∃t,u=Value.float b t| .ref a,u=>u=Value.ref a| .ty n,u=>u=Value.type n
noncomputable abbrev aN:List V->List Value->Prop:=Paired RelV
theorem aN.length(r:aN a us):a.length=us.length:=Paired.length r
theorem aN.get:∀{a:List V}{us:List Value}{i:Nat}{x:V},aN a us->a[i]? =some x->∃u,us[i]? =some u/\RelV x u
 |_,_,_,_,.nil,e=>by simp at e|_,_,0,_,.cons r _,e=>by simp at e;subst e;exact⟨_,rfl,r⟩|_,_,i+1,x,.cons _ t,e=>by obtain⟨u,b,c⟩:=aN.get (i:=i) (x:=x) t (by simpa using e);exact⟨u,by simpa using b,c⟩
theorem aN.set{x:V}{u:Value}(r:RelV x u):∀{a:List V}{us:List Value}(i:Nat),aN a us->aN (a.set i x) (us.set i u)
 |_,_,_,.nil=>.nil|_,_,0,.cons _ t=>.cons r t|_,_,i+1,.cons q t=>.cons q (aN.set r i t)
theorem aN.append(h:aN a us)(k:aN b c):aN (a++b) (us++c):=by
 induction h with
 |nil=>exact k|cons r t d=>exact .cons r d
theorem aN.take:∀{a:List V}{us:List Value}(n:Nat),aN a us->aN (a.take n) (us.take n)
 |_,_,0,_=>.nil|_,_,_+1,.nil=>.nil|_,_,n+1,.cons r t=>.cons r (aN.take n t)
theorem aN.drop:∀{a:List V}{us:List Value}(n:Nat),aN a us->aN (a.drop n) (us.drop n)
 |_,_,0,r=>r|_,_,_+1,.nil=>.nil|_,_,n+1,.cons _ t=>aN.drop n t
noncomputable def jV:Option V->Option Value->Prop
 |some v,some u=>RelV v u|none,none=>True|_,_=>False
noncomputable def KV{a:Type}:List (a×V)->List (a×Value)->Prop:=Paired λ(p:a×V)(q:a×Value)=>p.1=q.1/\RelV p.2 q.2
noncomputable def kV:ag->V
 | .inl i=>.int i| .inr x=>.str x
inductive HO where
 | lst (xs:List V)
 | tup (xs:List V)
 | dK (kvs:List (ag×V))|dT (kvs:List (List ag×V))
 | set (S:Int->Bool) (n:Nat)
 | ins (C dx:Addr) (fs:List (Str×V))
 | own (x:Addr)
 | xd (fs:List (Str×V))
 | met (f x:Addr)
 | rng (lo hi:Int)
 | frz (o:Obj) (u:HO)
 | tbl (ps:Array Value)
 | ext (φ:Heap->Prop)
noncomputable abbrev Hp:=Addr->Option HO
noncomputable def upd(H:Hp)(a:Addr)(o:HO):Hp:=λb=>if b=a then some o else H b
theorem aF:upd H a o a=some o:=by unfold upd;rw[JI rfl]
theorem aA(h:b≠a):upd H a o b=H b:=by unfold upd;rw[JE h]
theorem Ak:upd (upd H a o) a u=upd H a u:=by funext b;unfold upd;split<;>rfl
theorem He{H:Hp}(h:H a=some o)(c :H b=some u)(d:o≠u):a≠b:=by intro e;subst e;rw[h]at c;exact d (Jb c)
theorem aI{H:Hp}(h:H a=some o)(c :H b=none):a≠b:=by intro e;subst e;rw[h]at c;cases c
noncomputable def ed(h:Heap)(a:Addr)(b:Array Value):Prop:=∃o,h.get? a=some o/\o.cls=.type "tuple"/\∃n,o.data=.seq b n/\o.dict=none
theorem ed.tup{h:Heap}{a:Addr}{b:Array Value}(x:ed h a b):IsTup h a b:=let⟨o,e,c,n,d,_⟩:=x;⟨o,e,c,n,d⟩
theorem ed.new(h:Heap)(a:Array Value):ed (h.push {cls:=.type "tuple",data:=.seq a}) h.objs.size a:=⟨_,Jc _ rfl,rfl,_,rfl,rfl⟩
section
variable(P:Program)(w:World)
noncomputable def am(H:Hp)(h:Heap)(a:Addr):HO->Prop
 | .lst d=>d.length<=sizeLine/\∃(c:List Value)(n:Nat),aN d c/\h.get? a=some {cls:=.type "list",data:=.seq c.toArray n}| .tup d=>d.length<=sizeLine/\∃c:List Value,aN d c/\ed h a c.toArray| .dK b=>b.length<=sizeLine/\(a==sysModules)=false/\∃m,KV b m/\h.DictOf (aU P w) a m| .dT b=>b.length<=sizeLine/\(a==sysModules)=false/\∃d:List (List ag×Addr×Value),Paired (λ(p:List ag×V) (q:List ag×Addr×Value)=>p.1=q.1/\H q.2.1=some (.tup (p.1.map kV))/\RelV p.2 q.2.2) b d /\ ∃o l z,h.get? a=some o/\o.ExactDict/\o.data=.dict l z/\l.toList=d.map (entryOfKey (tupleKind (aU P w)))/\(d.map (·.1)).Nodup| .set S n=>h.SetOf (intKind P w) a S n| .ins C i g=>H i=some (.own a)/\g.length<=1000/\i≠a/\h.get? a=some (W.instObj C i) /\ ∃e,h.Ns1 i e/\(∀f,jV (g.lookup f) (e f))/\PySem.Within e (g.map (·.1))| .own _=>∃o,h.get? a=some o| .xd g=>∃e,h.Ns1 a e/\∀f,jV (g.lookup f) (e f)| .rng A s=>∃t u v,h.get? a=some {cls:=.type "range",data:=.fields #[.int A t,.int s u,.int 1 v]}| .frz o u=>h.get? a=some o/\am H h a u| .tbl y=>h.get? a=some {cls:=.none,data:=.fields y}| .met f x=>h.get? a=some (W.methodObj (.ref f) (.ref x))| .ext j=>j h/\(∃o,h.get? a=some o)/\∀r k:Heap,j r->(∀o,r.get? a=some o->k.get? a=some o)->j k
noncomputable def fR(H:Hp)(h:Heap):Prop:=∀a o,H a=some o->am P w H h a o
end
section
variable{P:Program}{w:World}{H H' :Hp}{h h' :Heap}{a:Addr}{o:HO}
theorem am.lt(x:am P w H h a o):a<h.objs.size:=by
 cases o with
 |lst d=>obtain⟨_,_,_,_,e⟩:=x;exact JV e
 |tup d=>obtain⟨_,_,_,p⟩:=x;exact p.tup.lt
 |dK b=>obtain⟨_,_,_,_,o,_,_,e,_⟩:=x;exact JV e
 |dT b=>obtain⟨_,_,_,_,o,_,_,e,_⟩:=x;exact JV e
 |set S n=>obtain⟨o,_,_,_,e,_⟩:=x;exact JV e
 |ins C j c=>obtain⟨_,_,_,e,_⟩:=x;exact JV e
 |own y=>obtain⟨_,e⟩:=x;exact JV e
 |xd c=>obtain⟨_,⟨_,_,_,e,_⟩,_⟩:=x;exact JV e
 |rng m g=>obtain⟨_,_,_,e⟩:=x;exact JV e
 |frz l u=>obtain⟨e,_⟩:=x;exact JV e
 |tbl i=>exact JV (show h.get? a=some _ from x)|met f y=>exact JV (show h.get? a=some _ from x)|ext k=>obtain⟨_,⟨_,e⟩,_⟩:=x;exact JV e
theorem Paired.mapP{g e:Type}{F G:g->e->Prop}{d:List g}{c:List e}(h:Paired F d c)(f:∀a b,F a b->G a b):Paired G d c:=by
 induction h with
 |nil=>exact .nil|cons r t i=>exact .cons (f _ _ r) i
theorem am.stay(x:am P w H h a o)(k:∀b u,(b=a\/H b=some (.own a))->h.get? b=some u->h'.get? b=some u)
  (K:∀b,H b=some (.own a)->H' b=some (.own a)) (G:∀b m,H b=some (.tup m)->H' b=some (.tup m)):am P w H' h' a o:=by
 induction o with
 |lst m=>obtain⟨z,l,n,r,e⟩:=x;exact⟨z,l,n,r,k _ _ (.inl rfl) e⟩
 |tup m=>obtain⟨z,l,r,g,e,c⟩:=x;exact⟨z,l,r,g,k _ _ (.inl rfl) e,c⟩
 |dK A=>obtain⟨z,y,I,r,g,i,j,e,c⟩:=x;exact⟨z,y,I,r,g,i,j,k _ _ (.inl rfl) e,c⟩
 |dT A =>obtain⟨z,y,m,r,g,i,j,e,c⟩:=x;exact⟨z,y,m,Paired.mapP r λp q z=>⟨z.1,G _ _ z.2.1,z.2.2⟩,g,i,j,k _ _ (.inl rfl) e,c⟩
 |set S n=>obtain⟨g,i,j,t,e,c⟩:=x;exact⟨g,i,j,t,k _ _ (.inl rfl) e,c⟩
 |ins C O J =>obtain⟨d,z,F,e,B,⟨s,i,j,M,c⟩,r⟩:=x;exact⟨K _ d,z,F,k _ _ (.inl rfl) e,B,⟨s,i,j,k _ _ (.inr d) M,c⟩,r⟩
 |own y=>obtain⟨g,e⟩:=x;exact⟨g,k _ _ (.inl rfl) e⟩
 |xd J=>obtain⟨B,⟨s,i,j,e,c⟩,r⟩:=x;exact⟨B,⟨s,i,j,k _ _ (.inl rfl) e,c⟩,r⟩
 |rng R N=>obtain⟨t,u,v,e⟩:=x;exact⟨t,u,v,k _ _ (.inl rfl) e⟩
 |frz g u L=>obtain⟨e,q⟩:=x;exact⟨k _ _ (.inl rfl) e,L q⟩
 |tbl D =>have e:h.get? a=some {cls:=.none,data:=.fields D}:=x;show h'.get? a=some {cls:=.none,data:=.fields D};exact k a _ (.inl rfl) e
 |met f y =>have e:h.get? a=some (W.methodObj (.ref f) (.ref y)):=x;show h'.get? a=some (W.methodObj (.ref f) (.ref y));exact k a _ (.inl rfl) e
 |ext Q=>obtain⟨p,⟨o,e⟩,E⟩:=x;exact⟨E _ _ p λo q=>k _ _ (.inl rfl) q,⟨o,k _ _ (.inl rfl) e⟩,E⟩
theorem fR.lt(x:fR P w H h)(e:H a=some o):a<h.objs.size:=(x a o e).lt
theorem fR.fresh(x:fR P w H h)(e:h.objs.size<=a):H a=none:=by
 cases q:H a with
 |none=>rfl|some u=>exact absurd (Ju (x.lt q) e) (LJ _)
theorem fR.kept(x:fR P w H h)(k:∀b u,h.get? b=some u->h'.get? b=some u):fR P w H h' :=λa o e =>
 (x a o e).stay (λb u _ q=>k b u q) (λ_ q=>q) λ_ _ q=>q
theorem fR.laid(x:fR P w H h)(k:∀b u,h.get? b=some u->h'.get? b=some u)(i:h.objs.size<=a)(d:am P w (upd H a o) h' a o):fR P w (upd H a o) h' :=λb u e=>by
 have f:=x.fresh i
 by_cases g:b=a;subst g;rw[aF]at e;cases e;exact d
 ·rw[aA g]at e
  exact(x b u e).stay (λc v _ q=>k c v q) (λc q=>by rw[aA (aI q f)];exact q) λc xs q=>by rw[aA (aI q f)];exact q
end
noncomputable def Rd(H:Hp)(a:Addr)(u:HO):Prop:=H a=some u\/∃o,H a=some (.frz o u)
theorem Rd.ok{P:Program}{w:World}{H:Hp}{h:Heap}{a:Addr}{u:HO}(r:Rd H a u)(x:fR P w H h):am P w H h a u:=by
 rcases r with r|⟨o,r⟩
 ·exact x a u r
 ·obtain⟨_,q⟩:=x a _ r
  exact q
noncomputable def Iw:Option HO->Prop
 |some (.lst _)=>True|some (.dK _)=>True|some (.dT _)=>True|some (.set _ _)=>True|some (.ins _ _ _)=>True|some (.ext _)=>True|_=>False
section
variable{P:Program}{w:World}{H:Hp}{h h' :Heap}{x e:Addr}{o' :HO}
theorem fR.write(t:fR P w H h)(g:Iw (H x))(p:e=x\/H e=some (.own x))(k:∀b u,b≠e->h.get? b=some u->h'.get? b=some u)(m:∃u,h'.get? e=some u)
  (n:am P w (upd H x o') h' x o'):fR P w (upd H x o') h' :=λb u q=>by
 have d:∀c y,H c=some (.own y)->c≠x:=λc y r z=>by subst z;rw[r]at g;exact g
 have f:∀c j,H c=some (.tup j)->c≠x:=λc j r z=>by subst z;rw[r]at g;exact g
 by_cases l:b=x;subst l;rw[aF]at q;cases q;exact n
 ·rw[aA l]at q
  by_cases a:b=e
  ·have o :H b=some (.own x):=by
    rcases p with z|z
    ·exact absurd (a.trans z) l
    ·rw[a];exact z
   rw[q]at o;cases o;obtain⟨v,s⟩:=m;exact⟨v,by rw[a];exact s⟩
  ·refine(t b u q).stay (λc v i r=>k c v ?_ r) (λc r=>by rw[aA (d c b r)];exact r) λc j r=>by rw[aA (f c j r)];exact r
   rcases i with rfl|i
   ·exact a
   ·rintro rfl
    rcases p with z|z
    ·exact d c b i z
    ·rw[i]at z;cases z;exact l rfl
end
structure Un(fs ex:List Addr)(H H' :Hp)(h h' :Heap):Prop where
 keep:∀b o,h.get? b=some o->H b=none->b∉fs->b∉ex->h'.get? b=some o
 slot:∀b o,h.get? b=some o->H b=none->b∈fs->b∉ex->∃sl,h'.get? b=some {o with slots:=sl}
 free:∀b o,h.get? b=some o->H b=none->b∉ex->H' b=none
 there:∀b o,h.get? b=some o->b∉ex->∃o',h'.get? b=some o'
 tups:∀b xs,H b=some (.tup xs)->H' b=some (.tup xs)
 frzs:∀b o u,H b=some (.frz o u)->H' b=some (.frz o u)
 tbls:∀b ps,H b=some (.tbl ps)->∃more,H' b=some (.tbl (ps++more))
section
variable{fs fs' ex ex' :List Addr}{H H1 H2:Hp}{h h1 h2 h' :Heap}{a x e:Addr}{o:HO}
theorem Un.any(u:Un fs ex H H1 h h1)(q:h.get? b=some c)(n:H b=none)(d:b∉ex):∃g,h1.get? b=some {c with slots:=g}:=by by_cases f:b∈fs;exact u.slot b c q n f d;exact⟨c.slots,u.keep b c q n f d⟩
theorem Un.kept(k:∀b u,h.get? b=some u->h'.get? b=some u):Un fs ex H H h h' := ⟨λb ob q _ _ _=>k b ob q,λb ob q _ _ _=>⟨ob.slots,k b ob q⟩,λ_ _ _ n _=>n,λb ob q _=>⟨ob,k b ob q⟩,λ_ _ q=>q,λ_ _ _ q=>q,λ_ ps q=>⟨#[],by rw[q];simp⟩⟩
theorem Un.refl:Un fs ex H H h h:=Un.kept λ_ _ q=>q
theorem Un.laid(k:∀b u,h.get? b=some u->h'.get? b=some u)(d:h.objs.size<=a)(c:H a=none):Un fs ex H (upd H a o) h h' where
 keep:=λb u q _ _ _=>k b u q
 slot:=λb u q _ _ _=>⟨u.slots,k b u q⟩
 free:=λb u q n _=>by rw[aA (Jg (Ju (JV q) d))];exact n
 there:=λb u q _=>⟨u,k b u q⟩
 tups:=λb xs q=>by rw[aA (aI q c)];exact q
 frzs:=λb u xs q=>by rw[aA (aI q c)];exact q
 tbls:=λb ps q=>⟨#[],by rw[aA (aI q c),q];simp⟩
theorem Un.write(d:Iw (H x))(l:e=x\/H e=some (.own x))(k:∀b u,b≠e->h.get? b=some u->h'.get? b=some u)(f:∃u,h'.get? e=some u):Un fs ex H (upd H x o) h h' :=by
 have j:∀b,H b=none->b≠x:=λb n z=>by subst z;rw[n]at d;exact d
 have i:∀b,H b=none->b≠e:=λb n z=>by
  subst z
  rcases l with r|r
  ·exact j b n r
  ·rw[n]at r;cases r
 have g:∀b u,H b=some u->¬Iw (some u)->b≠x:=λb u q nm z=>by subst z;rw[q]at d;exact nm d
 refine⟨λb u q n _ _=>k b u (i b n) q,λb u q n _ _=>⟨u.slots,k b u (i b n) q⟩,λb u q n _=>by rw[aA (j b n)];exact n,λb u q _=> ?_,λb xs q=>by rw[aA (g b _ q λz=>z)];exact q,λb u xs q=>by rw[aA (g b _ q λz=>z)];exact q,λb ps q=>⟨#[],by rw[aA (g b _ q λz=>z),q];simp⟩⟩
 by_cases c:b=e;subst c;exact f;exact⟨u,k b u c q⟩
end
noncomputable def trk(h:Heap)(H:Hp):List Addr:=(List.range h.objs.size).filter λa=>(H a).isSome
noncomputable def nM(h:Heap)(H:Hp):Heap:=W.hideAll h (trk h H)
theorem vg(h:Heap)(H:Hp):(nM h H).objs.size=h.objs.size:=W.hideAll_size _ _
theorem yw(e:h.get? b=some o)(n:H b=none):(nM h H).get? b=some o := W.hideAll_get _ e λhm=>by have q:(H b).isSome=true:=(J7.mp hm).2;rw[n]at q;simp at q
theorem Ba(e:(nM h H).get? b=some o):h.get? b=some o/\H b=none:=by
 have a :h.get? b=some o:=W.of_hideAll (trk h H) e;refine⟨a,?_⟩;cases q:H b with
 |none=>rfl|some x =>have c:b∈trk h H:=J7.mpr ⟨Js.mpr (JV a),by simp[q]⟩;have z:(nM h H).get? b=none:=W.hideAll_none (trk h H) c;rw[z]at e;cases e
noncomputable def Cs(g h:Heap)(L:Addr):List (Addr×Obj):=(List.range h.objs.size).filterMap λa=>if a=L\/(g.get? a).isSome=true then none else(h.get? a).map λo=>(a,o)
noncomputable def aE(g h:Heap)(L d:Addr):List (Addr×Obj):=(Cs g h L).filter λp=>decide (p.1≠d)
structure Mod(K:W.Frag)(mg:Str->Option Value)(base:Heap):Prop where
 kin:K.In base
 glob:base.Ns mainGlobals mg
 blt:∃mb,base.Ns builtinsNs mb/\∀x:Str,x≠"__name__"->mb x=bootBuiltins x
 nolimit:base.NoLimit
structure Cx where
 prog:Program
 w:World
 K:W.Frag
 mg:Str->Option Value
 base:Heap
 A:Around
 N:List Str
 s₀:Shared
 H₀:Hp
 env:Env
 outer:List Env
 stack:List Env
 ex:List Addr
 fn:Str->Bool
 calm:Bool
 pn:List (Addr×Obj)
 xe:Value->Shared->Prop
noncomputable def rq(l:List Env):List Addr:=l.filterMap (·.frame)
noncomputable abbrev Cx.fs(X:Cx):List Addr:=rq X.outer
noncomputable def Iq(a:Scope)(x:Str):Prop:=a.names.lookup x=some .local\/a.names.lookup x=some .cell\/a.names.lookup x=some .free
noncomputable def Loc(a:Scope)(x:Str):Prop:=a.names.lookup x=some .local\/a.names.lookup x=some .cell
noncomputable def Look(a:Env)(h:Heap)(m:Str->Option Value)(x:Str)(u:Value):Prop :=
 (a.kindOf x=some .local/\m x=some u)\/((a.kindOf x=some .cell\/a.kindOf x=some .free)/\∃c,a.cells.lookup x=some c/\h.IsCell c (some u))
structure Cx.Ok(X:Cx):Prop where
 mod:Mod X.K X.mg X.base
 kind:X.env.scope.kind=.function
 glob:X.env.globals=mainGlobals
 blt:X.env.builtins=builtinsNs
 above:X.s₀.heap.objs.size<=X.env.locals
 inj:∀x y c,X.env.cells.lookup x=some c->X.env.cells.lookup y=some c->x=y
 has:∀x,(X.env.kindOf x=some .cell\/X.env.kindOf x=some .free)->∃c,X.env.cells.lookup x=some c
 cab:∀x c,X.fn x=true->X.env.cells.lookup x=some c->X.s₀.heap.objs.size<=c
 hd:X.calm=true->X.A.handled=none
 frames:X.A.frames=some X.stack
 stk:X.stack=X.outer\/(X.stack=X.env::X.outer/\X.env.frame=some X.env.locals)
 exf:∀b∈X.ex,b≠X.env.locals/\∀x c,X.env.cells.lookup x=some c->c≠b
 bs:∀b o,X.base.get? b=some o->X.s₀.heap.get? b=some o/\X.H₀ b=none
 bsz:X.base.objs.size<=X.s₀.heap.objs.size
 noex:∀b o,X.base.get? b=some o->b∉X.ex
 exfs:∀b∈X.ex,b∉X.fs
 funs:X.s₀.heap.FunFrames X.base X.outer
 frf:∀b∈X.fs,X.H₀ b=none
structure Inv(X:Cx)(pins:List (Addr×Obj))(σ:List (Option V))(H:Hp)(s:Shared):Prop where
 ok:X.Ok
 os:s.os=X.s₀.os
 bare:AllBare s.gens
 base:Un X.fs X.ex X.H₀ H X.s₀.heap s.heap
 loc:∃m,s.heap.Ns X.env.locals m/\∀(i:Nat)(x:Str)(v:V),X.N[i]? =some x->σ[i]? =some (some v)->Iq X.env.scope x->∃u,RelV v u/\Look X.env s.heap m x u
 cell:∀x c,X.env.cells.lookup x=some c->∃v,s.heap.IsCell c v
 free:H X.env.locals=none
 freeC:∀x c,X.env.cells.lookup x=some c->H c=none
 pin:∀p∈X.pn++pins,s.heap.get? p.1=some p.2/\H p.1=none/\p.1≠X.env.locals/\p.1∉X.fs/\∀v,p.2.data≠.cell v
 hok:fR X.prog X.w H s.heap
 len:σ.length=X.N.length
section
variable{X:Cx}{pins:List (Addr×Obj)}{σ:List (Option V)}{H H' :Hp}{s:Shared}{h' :Heap}
theorem Cx.Ok.nofr(a:X.Ok)(e:X.base.get? b=some o):b∉X.fs:=λhb=>by have:=(a.funs.mem hb).1;rw[e]at this;cases this
theorem Inv.bs(I:Inv X pins σ H s):∀b o,X.base.get? b=some o->s.heap.get? b=some o/\H b=none:=λb o e =>
 ⟨I.base.keep b o (I.ok.bs b o e).1 (I.ok.bs b o e).2 (I.ok.nofr e) (I.ok.noex b o e),I.base.free b o (I.ok.bs b o e).1 (I.ok.bs b o e).2 (I.ok.noex b o e)⟩
theorem Inv.bk(I:Inv X pins σ H s):∀b o,X.base.get? b=some o->s.heap.get? b=some o:=λb o e=>(I.bs b o e).1
theorem Inv.mod(I:Inv X pins σ H s):Mod X.K X.mg X.base:=I.ok.mod
theorem Inv.kIn(I:Inv X pins σ H s):X.K.In s.heap:=I.ok.mod.kin.keeps I.bk
theorem Inv.lt(I:Inv X pins σ H s):X.env.locals<s.heap.objs.size:=let⟨_,hn,_⟩:=I.loc;hn.lt
theorem Inv.sz(I:Inv X pins σ H s):X.s₀.heap.objs.size<=s.heap.objs.size:=Jw I.ok.above (Lq I.lt)
theorem Inv.nofs(I:Inv X pins σ H s)(h:s.heap.objs.size<=a):a∉X.fs:=λhb=>by obtain⟨_,o,b,_⟩:=I.ok.funs.mem hb;exact absurd (Ju (JV b) (Jw I.sz h)) (LJ _)
theorem Inv.cne(I:Inv X pins σ H s):∀x c,X.env.cells.lookup x=some c->c≠X.env.locals:=λx c e z=>by obtain⟨v,o,d,f⟩:=I.cell x c e;obtain⟨m,⟨i,h,g,b,a,_⟩,_⟩:=I.loc;rw[z,b]at d;cases d;rw[a]at f;cases f
theorem Inv.funs(I:Inv X pins σ H s):s.heap.FunFrames X.base X.outer:=by
 have c:∀(l:List Env),(∀b∈rq l,b∈X.fs)->X.s₀.heap.FunFrames X.base l->s.heap.FunFrames X.base l:=by
  intro l
  induction l with
  |nil=>intro _ _;trivial|cons h r j =>intro f k;obtain⟨p,⟨L,o,d,n,i,g⟩,m⟩:=k;have a:L∈X.fs:=f L (by unfold rq;rw[List.filterMap_cons,d];exact JL);obtain⟨q,e⟩:=I.base.slot L o i (I.ok.frf L a) a λz=>I.ok.exfs L z a;exact⟨p,⟨L,_,d,n,e,g⟩,j (λb hb=>f b (by unfold rq;rw[List.filterMap_cons,d];exact JF _ hb)) m⟩
 exact c X.outer (λ_ hb=>hb) I.ok.funs
theorem Inv.stack(I:Inv X pins σ H s):s.heap.FunFrames X.base X.stack:=by
 rcases I.ok.stk with e|⟨e,b⟩
 ·rw[e];exact I.funs
 ·rw[e]
  obtain⟨m,a,_⟩:=I.loc;refine .cons (by rw[I.ok.kind];decide) b a ?_ I.funs;exact Heap.get?_none_of_le (Jw I.ok.bsz I.ok.above)
theorem Inv.stkSub(I:Inv X pins σ H s):∀b∈rq X.stack,b∈X.env.locals::X.fs:=λb hb=>by
 rcases I.ok.stk with e|⟨e,a⟩
 ·rw[e]at hb;exact JF _ hb
 ·rw[e]at hb
  unfold rq at hb;rw[List.filterMap_cons,a]at hb;exact hb
theorem Inv.stkFree(I:Inv X pins σ H s):∀b∈rq X.stack,H b=none:=λb hb=>by
 rcases JU.mp (I.stkSub b hb)with e|hb
 ·rw[e];exact I.free
 ·obtain⟨_,o,a,_⟩:=I.ok.funs.mem hb
  exact I.base.free b o a (I.ok.frf b hb) λz=>I.ok.exfs b z hb
theorem Inv.step{g' :Array GenState}{V :Nat}{d' :Drawn}{ch:List Addr}(I:Inv X pins σ H s)
  (g:∀b∈ch,(b∈X.ex\/X.s₀.heap.objs.size<=b)/\b≠X.env.locals/\(∀x c,X.env.cells.lookup x=some c->c≠b)/\∀p∈X.pn++pins,p.1≠b)
  (f:∀b o,b≠X.env.locals->b∉X.fs->b∉ch->s.heap.get? b=some o->H b=none->h'.get? b=some o)
  (A:∀b o,b≠X.env.locals->b∈X.fs->b∉ch->s.heap.get? b=some o->H b=none->∃R,h'.get? b=some {o with slots:=R}) (a:∀b o,b∉ch->s.heap.get? b=some o->H b=none->H' b=none)
  (C:∀b o,b∉ch->s.heap.get? b=some o->∃J,h'.get? b=some J)
  (E:∀b B,H b=some (.tup B)->H' b=some (.tup B)) (F:∀b o u,H b=some (.frz o u)->H' b=some (.frz o u)) (L:∀b N,H b=some (.tbl N)->∃M,H' b=some (.tbl (N++M)))
  (ns:∀m,s.heap.Ns X.env.locals m->h'.Ns X.env.locals m) (P:fR X.prog X.w H' h') (Y:AllBare g') :
  Inv X pins σ H' {s with heap:=h',gens:=g',drawn:=d',toks:=V}:=by
 have G:∀b o,X.s₀.heap.get? b=some o->b≠X.env.locals:=λb o e=>Jg (Ju (JV e) I.ok.above);have y:∀b o,X.s₀.heap.get? b=some o->b∉X.ex->b∉ch:=λb o e hx hb=>by
  rcases(g b hb).1 with z|z
  ·exact hx z
  ·exact absurd (Ju (JV e) z) (LJ _)
 have j:∀x c,X.env.cells.lookup x=some c->∀v,s.heap.IsCell c v->h'.IsCell c v:=λx c e v ⟨o,D,O⟩=>by
  have h:c∉ch:=λz=>(g c z).2.2.1 x c e rfl
  by_cases U:c∈X.fs
  ·obtain⟨R,q⟩:=A c o (I.cne x c e) U h D (I.freeC x c e)
   exact⟨_,q,O⟩
  ·exact⟨o,f c o (I.cne x c e) U h D (I.freeC x c e),O⟩
 refine⟨I.ok,I.os,Y,⟨λb o e n hb hx=> ?_,λb o e n hb hx=> ?_,λb o e n hx=> ?_,λb o e hx=> ?_,λb B e=>E b B (I.base.tups b B e),λb o B e=>F b o B (I.base.frzs b o B e),λb N e=> ?_⟩,?_,λx c e=> ?_,?_,λx c e=> ?_,λp hp=> ?_,P,I.len⟩
 ·exact f b o (G b o e) hb (y b o e hx) (I.base.keep b o e n hb hx) (I.base.free b o e n hx)
 ·obtain⟨R,t⟩:=I.base.slot b o e n hb hx
  obtain⟨Q,K⟩:=A b _ (G b o e) hb (y b o e hx) t (I.base.free b o e n hx);exact⟨Q,K⟩
 ·obtain⟨J,t⟩:=I.base.there b o e hx
  exact a b J (y b o e hx) t (I.base.free b o e n hx)
 ·obtain⟨J,t⟩:=I.base.there b o e hx
  exact C b J (y b o e hx) t
 ·obtain⟨Z,t⟩:=I.base.tbls b N e
  obtain⟨W,K⟩:=L b _ t;exact⟨Z++W,by rw[K,Array.append_assoc]⟩
 ·obtain⟨m,hn,hl⟩:=I.loc
  refine⟨m,ns m hn,λi x v t K e3=> ?_⟩;obtain⟨u,r,l⟩:=hl i x v t K e3;refine⟨u,r,?_⟩
  rcases l with l|⟨k,c,e,z⟩
  ·exact .inl l
  ·exact .inr ⟨k,c,e,j x c e _ z⟩
 ·obtain⟨v,z⟩:=I.cell x c e
  exact⟨v,j x c e v z⟩
 ·obtain⟨m,⟨o,_,_,D,_⟩,_⟩:=I.loc
  exact a _ o (λz=>(g _ z).2.1 rfl) D I.free
 ·obtain⟨v,o,D,O⟩:=I.cell x c e
  exact a c o (λz=>(g c z).2.2.1 x c e rfl) D (I.freeC x c e)
 ·obtain⟨e,n,S,T,d⟩:=I.pin p hp
  have h:p.1∉ch:=λz=>(g p.1 z).2.2.2 p hp rfl;exact⟨f p.1 p.2 S T h e n,a p.1 p.2 h e n,S,T,d⟩
theorem Inv.un(I:Inv X pins σ H s)(u:Un X.fs [] H H' s.heap h')(f:fR X.prog X.w H' h'):Inv X pins σ H' {s with heap:=h',toks:=t'}:=by obtain⟨m,⟨o,l,j,g,r⟩,_⟩:=id I.loc;obtain⟨k,h⟩:=u.any g I.free (by simp);exact I.step (g' :=s.gens) (d' :=s.drawn) (ch:=[]) (λ_ z=>nomatch z) (λb o _ hb _ e n=>u.keep b o e n hb (by simp)) (λb o _ hb _ e n=>u.slot b o e n hb (by simp)) (λb o _ e n=>u.free b o e n (by simp)) (λb o _ e=>u.there b o e (by simp)) u.tups u.frzs u.tbls (λm' hm=>by obtain⟨p,d,c,a,i⟩:=hm;rw[g]at a;cases a;exact⟨_,d,c,h,i⟩) f I.bare
theorem Inv.call{g' :Array GenState}{t' :Nat}{d' :Drawn}{ch:List Addr}(I:Inv X pins σ H s)(u:Un (rq X.stack) ch H H' s.heap h')(hok:fR X.prog X.w H' h')(hg:AllBare g')
  (hch:∀b∈ch,(b∈X.ex\/X.s₀.heap.objs.size<=b)/\b≠X.env.locals/\(∀x c,X.env.cells.lookup x=some c->c≠b)/\∀p∈X.pn++pins,p.1≠b) :
  Inv X pins σ H' {s with heap:=h',gens:=g',drawn:=d',toks:=t'}:=by
 obtain⟨m,⟨o,es,ep,ho,r⟩,_⟩:=id I.loc;obtain⟨sl,hL⟩:=u.any ho I.free fun z=>(hch _ z).2.1 rfl;exact I.step (ch:=ch) hch (fun b o hL hb hc e n=>u.keep b o e n (fun z=>(JU.mp (I.stkSub b z)).elim hL hb) hc) (fun b o _ _ hc e n=>u.any e n hc) (fun b o hc e n=>u.free b o e n hc) (fun b o hc e=>u.there b o e hc) u.tups u.frzs u.tbls (fun m' hm=>by
  obtain⟨o',es',ep',ho',r'⟩:=hm;rw[ho]at ho';cases ho';exact⟨_,es',ep',hL,r'⟩) hok hg
theorem Inv.turned(I:Inv X pins σ H s)(k:∀b o,b≠it->s.heap.get? b=some o->h'.get? b=some o)(l:H it=none)(d:it≠X.env.locals)
  (j:it∈X.ex\/X.s₀.heap.objs.size<=it) (f:∀x c,X.env.cells.lookup x=some c->c≠it) (i:∀p∈X.pn++pins,p.1≠it):Inv X pins σ H {s with heap:=h',toks:=t'}:=by
 have a:∀b u,H b=some u->b≠it:=λb u e z=>by rw[z,l]at e;cases e
 refine I.step (g' :=s.gens) (d' :=s.drawn) (ch:=[it]) (λb hb=> ?_) (λb o _ _ hc e _=>k b o (λz=>hc (by simp[z])) e) (λb o _ _ hc e _=>⟨o.slots,k b o (λz=>hc (by simp[z])) e⟩) (λ_ _ _ _ n=>n)
  (λb o hc e=>⟨o,k b o (λz=>hc (by simp[z])) e⟩) (λ_ _ e=>e) (λ_ _ _ e=>e) (λb ps e=>⟨#[],by rw[e];simp⟩) (λm hm=> ?_) (λb u e=> ?_) I.bare
 ·have e:b=it:=by simpa using hb
  subst e;exact⟨j,d,f,i⟩
 ·obtain⟨o,g,m,h,r⟩:=hm
  exact⟨o,g,m,k _ o (L1 d) h,r⟩
 ·refine(I.hok b u e).stay (λc v hc q=>k c v ?_ q) (λ_ q=>q) λ_ _ q=>q
  rcases hc with z|z
  ·rw[z];exact a b u e
  ·exact a c _ z
theorem Inv.tok(I:Inv X pins σ H s)(t:Nat):Inv X pins σ H {s with toks:=t}:=I.un (h' :=s.heap) (t' :=t) Un.refl I.hok
theorem Inv.kept(I:Inv X pins σ H s)(k:∀b u,s.heap.get? b=some u->h'.get? b=some u):Inv X pins σ H {s with heap:=h',toks:=t'}:=I.un (Un.kept k) (I.hok.kept k)
theorem Inv.laid(I:Inv X pins σ H s)(k:∀b u,s.heap.get? b=some u->h'.get? b=some u)(c:s.heap.objs.size<=a)(d:am X.prog X.w (upd H a o) h' a o) :
  Inv X pins σ (upd H a o) {s with heap:=h',toks:=t'}:=I.un (Un.laid k c (I.hok.fresh c)) (I.hok.laid k c d)
theorem Inv.write(I:Inv X pins σ H s)(d:Iw (H x))(f:e=x\/H e=some (.own x))(k:∀b u,b≠e->s.heap.get? b=some u->h'.get? b=some u)(a:∃u,h'.get? e=some u)
  (c:am X.prog X.w (upd H x o) h' x o):Inv X pins σ (upd H x o) {s with heap:=h',toks:=g}:=I.un (Un.write d f k a) (I.hok.write d f k a c)
theorem Inv.weak(I:Inv X pins σ H s)(b:a.length=σ.length)(w:∀(i:Nat) v,a[i]? =some (some v)->σ[i]? =some (some v)):Inv X pins a H s := ⟨I.ok,I.os,I.bare,I.base,let⟨m,hn,hl'⟩:=I.loc;⟨m,hn,λi x v e1 e2 e3=>hl' i x v e1 (w i v e2) e3⟩,I.cell,I.free,I.freeC,I.pin,I.hok,b.trans I.len⟩
theorem Inv.pins_of(I:Inv X pins σ H s)(h:∀p∈a,s.heap.get? p.1=some p.2/\H p.1=none/\p.1≠X.env.locals/\p.1∉X.fs/\∀v,p.2.data≠.cell v):Inv X a σ H s := ⟨I.ok,I.os,I.bare,I.base,I.loc,I.cell,I.free,I.freeC,λp hp=>(Jn.mp hp).elim (λz=>I.pin p (Kf _ z)) (h p),I.hok,I.len⟩
theorem gw{N:List Str}(d:N.Nodup){i j:Nat}(a:N[i]? =some x)(b:N[j]? =some x):i=j:=by obtain⟨f,c⟩:=JK.mp a;obtain⟨g,e⟩:=JK.mp b;exact(List.getElem_inj d).mp (c.trans e.symm)
theorem lq(I:Inv X pins σ H s)(hN:X.N.Nodup)(hi:X.N[i]? =some x)(hx:Loc X.env.scope x)(r:RelV v u)
  (h:∀s',Inv X pins (σ.set i (some v)) H s' ->(∃a,Heap.SameBut a s.heap s'.heap/\(a=X.env.locals\/X.env.cells.lookup x=some a))->Q () s') (hf:X.fn x=true\/X.env.scope.names.lookup x=some .local:=by first|exact .inl rfl|exact .inr rfl|assumption):wpAny M A (storeName X.env x u) Q E s:=by
 obtain⟨m,hn,hl⟩:=id I.loc;have hcls:(X.env.scope.kind== .class||(X.env.scope.kind== .module&&X.env.locals !=X.env.globals))=false:=by rw[I.ok.kind];rfl
 have hiσ:i<σ.length:=by rw[I.len];exact(JK.mp hi).1
 have cne:=I.cne;have tracked:∀{a:Addr}{h' :Heap},(∃o,s.heap.get? a=some o/\H a=none)->Heap.SameBut a s.heap h' ->fR X.prog X.w H h' :=λ{a h'} ha hs b ob e=>by
  obtain⟨_,_,hfree⟩:=ha;refine(I.hok b ob e).stay (λc w' hc q=>(hs.2 c ?_).trans q) (λ_ q=>q) λ_ _ q=>q;rintro rfl
  rcases hc with rfl|hc
  ·rw[hfree]at e;cases e
  ·rw[hfree]at hc;cases hc
 rcases hx with hk|hk
 ·refine wpAny_storeName_local hk hn (λh' hn' hs=> ?_) hcls
  obtain⟨oL,_,_,hoL,_⟩:=id hn;refine h _ ⟨I.ok,I.os,I.bare,⟨λb o e n hb hx=> ?_,λb o e n hb hx=> ?_,I.base.free,λb o e hx=> ?_,I.base.tups,I.base.frzs,I.base.tbls⟩,⟨_,hn',λj y v' e1 e2 e3=> ?_⟩,λy c e=> ?_,I.free,I.freeC,λp hp=> ?_,tracked ⟨oL,hoL,I.free⟩ hs,by simpa using I.len⟩ ⟨_,hs,.inl rfl⟩
  ·exact(hs.2 b (Jg (Ju (JV e) I.ok.above))).trans (I.base.keep b o e n hb hx)
  ·obtain⟨sl,e1⟩:=I.base.slot b o e n hb hx
   exact⟨sl,(hs.2 b (Jg (Ju (JV e) I.ok.above))).trans e1⟩
  ·obtain⟨o',e1⟩:=I.base.there b o e hx
   exact⟨o',(hs.2 b (Jg (Ju (JV e) I.ok.above))).trans e1⟩
  ·by_cases hj:j=i
   ·subst hj
    rw[hi]at e1;cases e1;rw[KZ hiσ]at e2;cases e2;exact⟨u,r,.inl ⟨hk,by simp⟩⟩
   ·rw[Jj (L1 hj)]at e2
    obtain⟨u',r',q⟩:=hl j y v' e1 e2 e3;refine⟨u',r',?_⟩
    rcases q with⟨k,e⟩|⟨k,c,e,z⟩
    ·refine .inl ⟨k,?_⟩
     have:y≠x:=λe=>hj (gw hN e1 (e▸hi));simp[this,e]
    ·exact .inr ⟨k,c,e,z.sameBut hs (cne y c e)⟩
  ·obtain⟨w',z⟩:=I.cell y c e
   exact⟨w',z.sameBut hs (cne y c e)⟩
  ·obtain⟨e,n,ne,nf,d⟩:=I.pin p hp
   exact⟨(hs.2 p.1 ne).trans e,n,ne,nf,d⟩
 ·have hfn:X.fn x=true:=by
   rcases hf with z|z
   ·exact z
   ·rw[z]at hk;cases hk
  obtain⟨c,hc⟩:=I.ok.has x (.inl hk);obtain⟨w',z⟩:=I.cell x c hc;refine wpAny_storeName_cell I.ok.kind hk hc z (λh' hc' hs=> ?_);obtain⟨oc,hoc,hocd⟩:=id z;refine h {s with heap:=h'} ⟨I.ok,I.os,I.bare,⟨λb o e n hb hx=> ?_,λb o e n hb hx=> ?_,I.base.free,λb o e hx=> ?_,I.base.tups,I.base.frzs,I.base.tbls⟩,⟨m,hn.sameBut hs (L1 (cne x c hc)),λj y v' e1 e2 e3=> ?_⟩,λy c' e=> ?_,I.free,I.freeC,λp hp=> ?_,tracked ⟨oc,hoc,I.freeC x c hc⟩ hs,by simpa using I.len⟩ ⟨c,hs,.inr hc⟩
  ·exact(hs.2 b (Jg (Ju (JV e) (I.ok.cab x c hfn hc)))).trans (I.base.keep b o e n hb hx)
  ·obtain⟨sl,e1⟩:=I.base.slot b o e n hb hx
   exact⟨sl,(hs.2 b (Jg (Ju (JV e) (I.ok.cab x c hfn hc)))).trans e1⟩
  ·obtain⟨o',e1⟩:=I.base.there b o e hx
   exact⟨o',(hs.2 b (Jg (Ju (JV e) (I.ok.cab x c hfn hc)))).trans e1⟩
  ·by_cases hj:j=i
   ·subst hj
    rw[hi]at e1;cases e1;rw[KZ hiσ]at e2;cases e2;exact⟨u,r,.inr ⟨.inl hk,c,hc,hc'⟩⟩
   ·rw[Jj (L1 hj)]at e2
    obtain⟨u',r',q⟩:=hl j y v' e1 e2 e3;refine⟨u',r',?_⟩
    rcases q with q|⟨k,c',e,z'⟩
    ·exact .inl q
    ·refine .inr ⟨k,c',e,z'.sameBut hs ?_⟩
     rintro rfl;exact hj (gw hN e1 (I.ok.inj _ _ _ e hc▸hi))
  ·by_cases hcc:c' =c
   ·subst hcc;exact⟨_,hc'⟩
   ·obtain⟨w2,z2⟩:=I.cell y c' e
    exact⟨w2,z2.sameBut hs hcc⟩
  ·obtain⟨e,n,ne,nf,d⟩:=I.pin p hp
   refine⟨(hs.2 p.1 ?_).trans e,n,ne,nf,d⟩;intro q;rw[q,hoc]at e;have q' :oc=p.2:=Jb e;exact d w' (by rw[<- q'];exact hocd)
theorem ou(I:Inv X pins σ H s)(hN:X.N.Nodup)(hi:X.N[i]? =some x)(hx:Loc X.env.scope x)(r:RelV v u)
  (h:∀s',Inv X pins (σ.set i (some v)) H s' ->Q () s') (hf:X.fn x=true\/X.env.scope.names.lookup x=some .local:=by first|exact .inl rfl|exact .inr rfl|assumption):wpAny M A (storeName X.env x u) Q E s :=
 lq I hN hi hx r (λs' I' _=>h s' I') hf
theorem Inv.call'{s' :Shared}{ch:List Addr}(I:Inv X pins σ H s)(ho:s'.os=s.os)(u:Un (rq X.stack) ch H H' s.heap s'.heap)(hok:fR X.prog X.w H' s'.heap)(hg:AllBare s'.gens)
  (hch:∀b∈ch,(b∈X.ex\/X.s₀.heap.objs.size<=b)/\b≠X.env.locals/\(∀x c,X.env.cells.lookup x=some c->c≠b)/\∀p∈X.pn++pins,p.1≠b):Inv X pins σ H' s' :=by
 obtain⟨h',g',d',t',o'⟩:=s';have e:o' =s.os:=ho;subst e;exact I.call (g' :=g') (t' :=t') (d' :=d') u hok hg hch
end
noncomputable abbrev XK:=Value->Option Addr->Hp->Prop
noncomputable abbrev St:=List (Option V)
noncomputable abbrev VK:=V->Hp->Prop
noncomputable abbrev TE:=St->Hp->VK->Prop
noncomputable abbrev TT:=St->Hp->(Bool->Hp->Prop)->Prop
noncomputable abbrev TA:=St->Hp->(List V->Hp->Prop)->Prop
structure dz where
 nx:St->Hp->Prop
 rt:VK
 bk:St->Hp->Prop:=fun _ _=>False
 ct:St->Hp->Prop:=fun _ _=>False
noncomputable abbrev TS:=dz->St->Hp->Prop
noncomputable def EP(X:Cx)(a:List (Addr×Obj))(d:St)(Q:VK)(u:Value)(c :Shared):Prop:=∃v b,Inv X a d b c /\RelV v u/\Q v b
noncomputable def TP(X:Cx)(a:List (Addr×Obj))(e:St)(Q:Bool->Hp->Prop)(b:Bool)(d :Shared):Prop:=∃c,Inv X a e c d /\Q b c
noncomputable def AP(X:Cx)(a:List (Addr×Obj))(e:St)(Q:List V->Hp->Prop)(us:List Value)(d :Shared):Prop:=∃c b,Inv X a e b d /\aN c us/\Q c b
noncomputable def SP(X:Cx)(b:List (Addr×Obj))(D:dz)(f:Flow)(d :Shared):Prop :=
 match f with
 | .next=>∃a c,Inv X b a c d /\D.nx a c| .brk=>∃a c,Inv X b a c d /\D.bk a c| .cont=>∃a c,Inv X b a c d /\D.ct a c| .ret u=>∃v a c,Inv X b a c d /\RelV v u/\D.rt v c
noncomputable def PE(X:Cx)(e:Expr)(t:TE):Prop :=
 ∀(a:List (Addr×Obj))(s:Shared)(b:St)(H:Hp)(Q:VK),Inv X a b H s->t b H Q->wpAny (model X.prog X.w) X.A (eval e X.env) (EP X a b Q) X.xe s
noncomputable def PT(X:Cx)(e:Expr)(t:TT):Prop :=
 ∀(a:List (Addr×Obj))(s:Shared)(b:St)(H:Hp)(Q:Bool->Hp->Prop),Inv X a b H s->t b H Q->wpAny (model X.prog X.w) X.A (isTrue e X.env (eval e X.env)) (TP X a b Q) X.xe s
noncomputable def PW(X:Cx)(e:Expr)(t:TT):Prop :=
 ∀(b:Sem Value)(a:List (Addr×Obj))(s:Shared)(c:St)(H:Hp)(Q:Bool->Hp->Prop),Inv X a c H s->t c H Q->wpAny (model X.prog X.w) X.A (isTrue e X.env b) (TP X a c Q) X.xe s
noncomputable def PA(X:Cx)(c:List Expr)(t:TA):Prop :=
 ∀(pos:Pos)(a:List (Addr×Obj))(s:Shared)(b:St)(H:Hp)(Q:List V->Hp->Prop),Inv X a b H s->t b H Q->wpAny (model X.prog X.w) X.A (spliced (backTo pos (starEach c X.env))) (AP X a b Q) X.xe s
noncomputable def PS(X:Cx)(c:Stmt)(t:TS):Prop :=
 ∀(a:List (Addr×Obj))(s:Shared)(b:St)(H:Hp)(D:dz),Inv X a b H s->t D b H->wpAny (model X.prog X.w) X.A (exec c X.env) (SP X a D) X.xe s
noncomputable def sj(X:Cx)(c:List Stmt)(t:TS):Prop :=
 ∀(a:List (Addr×Obj))(s:Shared)(b:St)(H:Hp)(D:dz),Inv X a b H s->t D b H->wpAny (model X.prog X.w) X.A (execs c X.env) (SP X a D) X.xe s
theorem ak{b:Type}{t:Sem b}{Q c :b->Shared->Prop}{M:Model}{A:Around}{E:Value->Shared->Prop}{s:Shared}(h:wpAny M A t Q E s)(d:∀a s,Q a s->c a s):wpAny M A t c E s:=K0 h d λ_ _ x=>x
section
variable{X:Cx}
theorem bin{a b:Expr}{l k:TE}(q:PE X a l)(B:PE X b k){c:List (Addr×Obj)}{s:Shared}{d:St}{H:Hp}{R:V->V->Hp->Prop}(I:Inv X c d H s)(h:l d H λx i=>k d i λy e=>R x y e)
  {j:Type} {Q:j->Shared->Prop} {f:Value->Value->Sem j}
  (o:∀v u g x y e,Inv X c d e g->RelV x v->RelV y u->R x y e->wpAny (model X.prog X.w) X.A (f v u) Q X.xe g) :
  wpAny (model X.prog X.w) X.A (eval a X.env) (λv s₁=>wpAny (model X.prog X.w) X.A (eval b X.env) (λu s₂=>wpAny (model X.prog X.w) X.A (f v u) Q X.xe s₂) X.xe s₁) X.xe s:=by
 refine ak (q c s d H _ I h) λv s1 hpq=> ?_;obtain⟨x,i,t,n,z⟩:=hpq;refine ak (B c s1 d i _ t z) λu g hpq=> ?_;obtain⟨y,e,m,p,r⟩:=hpq;exact o v u g x y e m n p r
noncomputable def Gj(i:Nat):TE:=λσ H Q=>∃v,σ[i]? =some (some v)/\Q v H
noncomputable def tC(v:V):TE:=λ_ H Q=>Q v H
theorem eP(t:X.N[i]? =some x)(o:Iq X.env.scope x)(j:(x==("__debug__":Str))=false:=by decide)(g:(x==("__classdict__":Str))=false:=by decide):PE X (.Name x pos) (Gj i):=by
 intro f s n H Q I h;obtain⟨v,e,h⟩:=h;obtain⟨m,q,p⟩:=I.loc;obtain⟨u,r,l⟩:=p i x v t e o;have b:EP X f n Q u s:=⟨v,H,I,r,h⟩
 rcases l with⟨d,w⟩|⟨d,c,k,a⟩
 ·exact wpAny_Name (wpAny_loadName_local I.ok.kind d q w b) j
 ·rcases d with d|d
  ·exact wpAny_Name (wpAny_loadName_cell I.ok.kind d k a b) j
  ·exact wpAny_Name (wpAny_loadName_free I.ok.kind d k a b g) j
theorem kR{i j pos}:PE X (.Constant (.int i) j pos) (tC (.int i)):=λ_ _ _ H _ I h=>wpAny_Constant_int ⟨.int i,H,I.tok _,⟨_,rfl⟩,h⟩
theorem HS{b j pos}:PE X (.Constant (.bool b) j pos) (tC (.bl b)):=λ_ _ _ H _ I h=>Constant_bool ⟨.bl b,H,I,rfl,h⟩
theorem EL{j pos}:PE X (.Constant .none j pos) (tC .non):=λ_ _ _ H _ I h=>Constant_none ⟨.non,H,I,rfl,h⟩
theorem yB{x j pos}:PE X (.Constant (.str x) j pos) (tC (.str x)):=λ_ _ _ H _ I h=>Calls.Constant_str ⟨.str x,H,I.tok _,⟨_,rfl⟩,h⟩
noncomputable def Gl(X:Cx)(x:Str):Prop:=X.env.kindOf x=some .globalImplicit
theorem uC(I:Inv X a c H s)(b:Gl X x)(d:X.mg x=some u)(h:Q u s)
  (e:(x==("__debug__":Str))=false:=by decide):wpAny (model X.prog X.w) X.A (eval (.Name x pos) X.env) Q E s :=
 Calls.Name_function_global I.ok.kind b (Calls.loadGlobal_global (by rw[I.ok.glob];exact I.mod.glob.keeps I.bk) d h) e
theorem du(I:Inv X a g H s)(f:Gl X x)(i:X.mg x=none)(b:bootBuiltins x=some u)(h:Q u s)
  (d:x≠"__name__":=by decide) (j:(x==("__debug__":Str))=false:=by decide):wpAny (model X.prog X.w) X.A (eval (.Name x pos) X.env) Q E s:=by
 obtain⟨k,c,e⟩:=I.mod.blt;exact Calls.Name_function_global I.ok.kind f (Calls.loadGlobal_builtin (by rw[I.ok.glob];exact I.mod.glob.keeps I.bk) i (by rw[I.ok.blt];exact c.keeps I.bk) ((e x d).trans b) h) j
theorem BL(a:Gl X x)(c:X.mg x=some u)(r:RelV v u)(b:(x==("__debug__":Str))=false:=by decide):PE X (.Name x pos) (tC v) := λ_ _ _ H _ I h=>uC I a c ⟨v,H,I,r,h⟩ b
theorem BP(b:Gl X x)(e:X.mg x=none)(a:bootBuiltins x=some u)(r:RelV v u)(c:x≠"__name__":=by decide)(d:(x==("__debug__":Str))=false:=by decide):PE X (.Name x pos) (tC v) := λ_ _ _ H _ I h=>du I b e a ⟨v,H,I,r,h⟩ c d
variable{a b:Expr}{ta tb:TE}{pos:Pos}
variable{tA tB' :TT}{aE:List Expr}
noncomputable def tAnd(t u:TT):TT:=λσ H Q=>t σ H λc H1=>if c=true then u σ H1 Q else Q false H1
noncomputable def tOr(t u:TT):TT:=λσ H Q=>t σ H λc H1=>if c=true then Q true H1 else u σ H1 Q
noncomputable def tNot(t:TT):TT:=λσ H Q=>t σ H λc H1=>Q (!c) H1
theorem BA(f:PT X a tA):PW X (.BoolOp .And [a] pos) tA:=by
 intro i d s g H Q I h;refine isTrue_and (ak (f d s g H Q I h) λc s1 e=> ?_);cases c with
 |true=>exact isTrue_and_nil e|false=>exact e
theorem D7(f:PT X a tA):PW X (.BoolOp .Or [a] pos) tA:=by
 intro i d s g H Q I h;refine isTrue_or (ak (f d s g H Q I h) λc s1 e=> ?_);cases c with
 |false=>exact isTrue_or_nil e|true=>exact e
theorem D8(k:PT X a tA)(j:PW X (.BoolOp .And (b::aE) pos) tB'):PW X (.BoolOp .And (a::b::aE) pos) (tAnd tA tB'):=by
 intro l d s g H Q I h;refine isTrue_and (ak (k d s g H _ I h) λc s1 hpq=> ?_);obtain⟨i,f,e⟩:=hpq;cases c with
 |true=>exact j l d s1 g i Q f e|false=>exact⟨i,f,e⟩
theorem HK(k:PT X a tA)(j:PW X (.BoolOp .Or (b::aE) pos) tB'):PW X (.BoolOp .Or (a::b::aE) pos) (tOr tA tB'):=by
 intro l d s g H Q I h;refine isTrue_or (ak (k d s g H _ I h) λc s1 hpq=> ?_);obtain⟨i,f,e⟩:=hpq;cases c with
 |true=>exact⟨i,f,e⟩|false=>exact j l d s1 g i Q f e
theorem EE(e:PT X a tA):PT X (.UnaryOp .Not a pos) (tNot tA):=by intro d s f H Q I h;exact isTrue_not (e d s f H (λc H1=>Q (!c) H1) I h)
noncomputable def Gy(e d:TE):TE:=λσ H Q=>e σ H λx H1=>∃c,x=.bl c/\if c=true then d σ H1 Q else Q (.bl false) H1
noncomputable def tOrV(e d:TE):TE:=λσ H Q=>e σ H λx H1=>∃c,x=.bl c/\if c=true then Q (.bl true) H1 else d σ H1 Q
noncomputable def Go(d:TE):TE:=λσ H Q=>d σ H λx H1=>∃c,x=.bl c/\Q (.bl (!c)) H1
theorem EJ{op}(h:PE X a t):PE X (.BoolOp op [a] pos) t:=λpins s σ H Q I hw=>BoolOp_one (h pins s σ H Q I hw)
theorem yH(k:PE X a ta)(j:PE X (.BoolOp .And (b::aE) pos) tb):PE X (.BoolOp .And (a::b::aE) pos) (Gy ta tb):=by
 intro d s i H Q I h;refine BoolOp_and (ak (k d s i H _ I h) λv s1 hpq=> ?_);obtain⟨x,f,g,l,e⟩:=hpq;obtain⟨c,rfl,e⟩:=e;cases l;refine Ky ?_;cases c with
 |true=>exact j d s1 i f Q g e|false=>exact⟨.bl false,f,g,rfl,e⟩
theorem DC(k:PE X a ta)(j:PE X (.BoolOp .Or (b::aE) pos) tb):PE X (.BoolOp .Or (a::b::aE) pos) (tOrV ta tb):=by
 intro d s i H Q I h;refine BoolOp_or (ak (k d s i H _ I h) λv s1 hpq=> ?_);obtain⟨x,f,g,l,e⟩:=hpq;obtain⟨c,rfl,e⟩:=e;cases l;refine Ky ?_;cases c with
 |false=>exact j d s1 i f Q g e|true=>exact⟨.bl true,f,g,rfl,e⟩
theorem EK(i:PE X a ta):PE X (.UnaryOp .Not a pos) (Go ta):=by intro d s j H Q I h;refine UnaryOp_ (ak (i d s j H _ I h) λv s1 hpq=> ?_);obtain⟨x,f,g,k,e⟩:=hpq;obtain⟨c,rfl,e⟩:=e;cases k;exact not_of (Ky ⟨.bl (!c),f,g,rfl,e⟩)
noncomputable def tIf(t:TT)(e d:TE):TE:=λσ H Q=>t σ H λc H1=>if c=true then e σ H1 Q else d σ H1 Q
theorem yF(k:PT X c tA)(m:PE X a ta)(l:PE X b tb):PE X (.IfExp c a b pos) (tIf tA ta tb):=by
 intro e s f H Q I h;refine wpAny_IfExp (ak (k e s f H _ I h) λd s1 hpq=> ?_);obtain⟨j,g,i⟩:=hpq;cases d with
 |true=>exact m e s1 f j Q g i|false=>exact l e s1 f j Q g i
end
noncomputable def bJ(K:W.Frag)(H:Hp)(a:Addr)(c:List V):Prop :=
 Rd H a (.lst c) \/ ∃(o:Obj)(b:Array Value)(n:Nat),K.lookup a=some o/\o.cls=.type "list"/\o.dict=none/\o.data=.seq b n/\b.size<=sizeLine/\aN c b.toList
noncomputable def cA(K:W.Frag)(H:Hp)(a:Addr)(c:List V):Prop :=
 Rd H a (.tup c) \/ ∃(o:Obj)(b:Array Value)(n:Nat),K.lookup a=some o/\o.cls=.type "tuple"/\o.dict=none/\o.data=.seq b n/\b.size<=sizeLine/\aN c b.toList
noncomputable def absV:Value->Option V
 | .none=>some .non| .bool b=>some (.bl b)| .int i _=>some (.int i)| .str x _=>some (.str x)| .bytes b _=>some (.byt b)| .float b _=>some (.flt b)| .ref a=>some (.ref a)| .type n=>some (.ty n)|_=>none
theorem RelV.abs(r:RelV x u):absV u=some x:=by
 cases x with
 |non=>cases r;rfl|bl _=>cases r;rfl|int _=>obtain⟨t,rfl⟩:=r;rfl
 |str _=>obtain⟨t,rfl⟩:=r;rfl
 |byt _=>obtain⟨t,rfl⟩:=r;rfl
 |flt _=>obtain⟨t,rfl⟩:=r;rfl
 |ref _=>cases r;rfl|ty _=>cases r;rfl
theorem RelV.inj(r:RelV x u)(q:RelV y u):x=y:=Jb (r.abs.symm.trans q.abs)
theorem aN.inj(h:aN b us)(k:aN a us):b=a:=by
 induction h generalizing a with
 |nil=>cases k;rfl|cons r t c =>
  cases k with
  |cons e d =>rw[r.inj e,c d]
section
variable{X:Cx}{pins:List (Addr×Obj)}{σ:St}{H:Hp}{s:Shared}{a:Addr}{xs ys:List V}
theorem bJ.of{K:W.Frag}(h:H a=some (.lst xs)):bJ K H a xs:=.inl (.inl h)
theorem cA.of{K:W.Frag}(h:H a=some (.tup xs)):cA K H a xs:=.inl (.inl h)
theorem Inv.list(I:Inv X pins σ H s)(h:bJ X.K H a xs):∃b:List Value,aN xs b/\PlainL s.heap a b.toArray/\xs.length<=sizeLine:=by
 rcases h with h|⟨o,b,n,d,c,g,f,i,r⟩
 ·obtain⟨z,b,n,r,e⟩:=h.ok I.hok
  exact⟨b,r,⟨_,n,e,rfl,rfl,rfl⟩,z⟩
 ·refine⟨b.toList,r,⟨o,n,I.kIn a o d,c,g,by simpa using f⟩,?_⟩
  have e:=r.length;simp only[JZ]at e;omega
theorem Inv.tuple(I:Inv X pins σ H s)(h:cA X.K H a xs):∃b:List Value,aN xs b/\IsTup s.heap a b.toArray/\xs.length<=sizeLine:=by
 rcases h with h|⟨o,b,n,d,c,_,f,g,r⟩
 ·obtain⟨z,b,r,p⟩:=h.ok I.hok
  exact⟨b,r,p.tup,z⟩
 ·refine⟨b.toList,r,⟨o,I.kIn a o d,c,n,by simpa using f⟩,?_⟩
  have e:=r.length;simp only[JZ]at e;omega
theorem Inv.tupleD(I:Inv X pins σ H s)(h:cA X.K H a xs):∃o,s.heap.get? a=some o/\o.cls=.type "tuple"/\o.dict=none:=by
 rcases h with h|⟨o,b,n,g,f,i,_⟩
 ·obtain⟨z,b,r,o,e,c,n,_,d⟩:=h.ok I.hok
  exact⟨o,e,c,d⟩
 ·exact⟨o,I.kIn a o g,f,i⟩
theorem Inv.list_inj(I:Inv X pins σ H s)(h:bJ X.K H a xs)(i :bJ X.K H a ys):xs=ys:=by
 obtain⟨c,r,⟨o,n,e,_,_,d⟩,_⟩:=I.list h;obtain⟨b,j,⟨k,l,f,_,_,g⟩,_⟩:=I.list i;rw[e]at f;cases f;rw[d]at g
 injection g with d1 _
 have:c=b :=by simpa using J1 Array.toList d1
 subst this;exact r.inj j
theorem Inv.tuple_inj(I:Inv X pins σ H s)(h:cA X.K H a xs)(i :cA X.K H a ys):xs=ys:=by
 obtain⟨c,r,⟨o,e,_,n,d⟩,_⟩:=I.tuple h;obtain⟨b,j,⟨k,f,_,l,g⟩,_⟩:=I.tuple i;rw[e]at f;cases f;rw[d]at g
 injection g with d1 _
 have:c=b :=by simpa using J1 Array.toList d1
 subst this;exact r.inj j
end
noncomputable abbrev Cx.wish(X:Cx)(E:Value->Shared->Prop):Cx:={X with xe:=E}
noncomputable abbrev Cx.nox(X:Cx):Cx:=X.wish λ_ _=>False
theorem Cx.Ok.wish{X:Cx}(a:X.Ok)(E:Value->Shared->Prop):(X.wish E).Ok := ⟨a.mod,a.kind,a.glob,a.blt,a.above,a.inj,a.has,a.cab,a.hd,a.frames,a.stk,a.exf,a.bs,a.bsz,a.noex,a.exfs,a.funs,a.frf⟩
theorem Cx.Ok.unwish{X:Cx}(a:(X.wish E).Ok):X.Ok := ⟨a.mod,a.kind,a.glob,a.blt,a.above,a.inj,a.has,a.cab,a.hd,a.frames,a.stk,a.exf,a.bs,a.bsz,a.noex,a.exfs,a.funs,a.frf⟩
section
variable{X:Cx}{pins:List (Addr×Obj)}{σ:St}{H:Hp}{s:Shared}{E:Value->Shared->Prop}
theorem Inv.wish(I:Inv X pins σ H s)(E:Value->Shared->Prop):Inv (X.wish E) pins σ H s:=⟨I.ok.wish E,I.os,I.bare,I.base,I.loc,I.cell,I.free,I.freeC,I.pin,I.hok,I.len⟩
theorem Inv.unwish(I:Inv (X.wish E) pins σ H s):Inv X pins σ H s:=⟨I.ok.unwish,I.os,I.bare,I.base,I.loc,I.cell,I.free,I.freeC,I.pin,I.hok,I.len⟩
theorem SP.unwish(h:SP (X.wish E) pins D f c):SP X pins D f c :=by
 cases f with
 |next=>obtain⟨a,b,I,q⟩:=h;exact⟨a,b,I.unwish,q⟩
 |brk=>obtain⟨a,b,I,q⟩:=h;exact⟨a,b,I.unwish,q⟩
 |cont=>obtain⟨a,b,I,q⟩:=h;exact⟨a,b,I.unwish,q⟩
 |ret u=>obtain⟨v,a,b,I,r,q⟩:=h;exact⟨v,a,b,I.unwish,r,q⟩
theorem sj.nox(h:sj X.nox a t):sj X a t:=λpins s σ H D I hw =>
 K0 (h pins s σ H D (I.wish _) hw) (λ_ _ q=>q.unwish) λ_ _ z=>False.elim z
end
section
variable{X:Cx}{st:Stmt}{aE:List Stmt}{t u:TS}{e:Expr}{te:TE}{pos:Pos}
noncomputable def C8:TS:=λD σ H=>D.nx σ H
noncomputable def tSeq(t u:TS):TS:=λD σ H=>t {D with nx:=u D} σ H
theorem mx:sj X [] C8:=λ_ _ σ H _ I h=>wpAny_execs_nil ⟨σ,H,I,h⟩
theorem bZ(c:PS X j t)(i:sj X aE u):sj X (j::aE) (tSeq t u):=by
 intro a s k H D I h;refine wpAny_execs_cons (ak (c a s k H {D with nx:=u D} I h) λf s1 q=> ?_);cases f with
 |next =>obtain⟨b,d,g,q⟩:=q;exact i a s1 b d D g q
 |ret v=>exact q|brk=>exact q|cont=>exact q
theorem cF(b:PS X st t):sj X [st] t:=by
 intro a s c H D I h;refine wpAny_execs_cons (ak (b a s c H D I h) λf s1 q=> ?_);cases f with
 |next=>exact wpAny_execs_nil q|ret v=>exact q|brk=>exact q|cont=>exact q
noncomputable def Dk:TS:=λD σ H=>D.bk σ H
noncomputable def Gu:TS:=λD σ H=>D.ct σ H
theorem BE:PS X (.Pass pos) C8:=λ_ _ σ H _ I h=>wpAny_Pass ⟨σ,H,I,h⟩
theorem xj:PS X (.Break pos) Dk:=λ_ _ σ H _ I h=>wpAny_Break ⟨σ,H,I,h⟩
theorem pF:PS X (.Continue pos) Gu:=λ_ _ σ H _ I h=>wpAny_Continue ⟨σ,H,I,h⟩
theorem Inv.quiet(I:Inv X a b H s):interactive X.env=false:=by simp[interactive,I.ok.kind]
noncomputable def Gp(a:TE):TS:=λD σ H=>a σ H λ_ H1=>D.nx σ H1
theorem mz(c:PE X e te)(d:swapsWith e none pos.line X.env=pure false:=by rfl):PS X (.Expr e pos) (Gp te):=by intro a s b H D I h;exact wpAny_Expr_any (ak (c a s b H _ I h) λv s1 ⟨x,H1,I1,r1,q1⟩=>⟨b,H1,I1,q1⟩) I.quiet d
noncomputable def tRet(a:TE):TS:=λD σ H=>a σ H D.rt
theorem xg(c:PE X e te):PS X (.Return (some e) pos) (tRet te):=by intro a s b H D I h;exact wpAny_Return_some (ak (c a s b H _ I h) λv s1 ⟨x,H1,I1,r1,q1⟩=>⟨x,b,H1,I1,r1,q1⟩)
noncomputable def Gm:TS:=λD _ H=>D.rt .non H
theorem BD:PS X (.Return none pos) Gm:=λ_ _ σ H _ I h=>wpAny_Return_none ⟨.non,σ,H,I,rfl,h⟩
noncomputable def tIfS(c:TT)(t u:TS):TS:=λD σ H=>c σ H λb H1=>if b=true then t D σ H1 else u D σ H1
theorem xi(m:PT X c k)(n:sj X a t)(o:sj X b u):PS X (.If c a b pos) (tIfS k t u):=by
 intro f s g H D I h;refine wpAny_If (ak (m f s g H _ I h) λd s1 hpq=> ?_);obtain⟨l,i,j⟩:=hpq;cases d with
 |true=>exact n f s1 g l D i j|false=>exact o f s1 g l D i j
end
noncomputable abbrev TG:=V->St->Hp->(St->Hp->Prop)->Prop
noncomputable abbrev GB:=List V->St->Hp->(St->Hp->Prop)->Prop
noncomputable def PG(X:Cx)(a:Expr)(t:TG):Prop :=
 ∀(b:List (Addr×Obj))(s:Shared)(e:St)(H:Hp)(v:V)(u:Value)(Q:St->Hp->Prop),Inv X b e H s->RelV v u->t v e H Q -> wpAny (model X.prog X.w) X.A (assign a X.env u) (λ_ s' =>∃c d,Inv X b c d s' /\Q c d) X.xe s
noncomputable def Iu(X:Cx)(f:List Expr)(t:GB):Prop :=
 ∀(a:List (Addr×Obj))(s:Shared)(e:St)(H:Hp)(d:List V)(us:List Value)(Q:St->Hp->Prop),Inv X a e H s->aN d us->t d e H Q -> wpAny (model X.prog X.w) X.A (assignInOrder ((assignEach f X.env).map (·.2)) us) (λ_ s' =>∃b c,Inv X a b c s' /\Q b c) X.xe s
noncomputable abbrev AI:=V->V->V->Hp->(Hp->Prop)->Prop
noncomputable def GG(X:Cx)(t:AI):Prop :=
 ∀(a:List (Addr×Obj))(s:Shared)(e:St)(H:Hp)(o i v:V)(d b u:Value)(Q:Hp->Prop),Inv X a e H s->RelV o d->RelV i b->RelV v u->t o i v H Q -> wpAny (model X.prog X.w) X.A (setItem d b u) (λ_ s' =>∃c,Inv X a e c s' /\Q c) X.xe s
noncomputable abbrev TIp:=V->V->Hp->VK->Prop
noncomputable def PIp(X:Cx)(c:Operator)(t:TIp):Prop :=
 ∀(a:List (Addr×Obj))(s:Shared)(b:St)(H:Hp)(x y:V)(v u:Value)(Q:VK),Inv X a b H s->RelV x v->RelV y u->t x y H Q -> wpAny (model X.prog X.w) X.A (inplaceOp c v u) (EP X a b Q) X.xe s
section
variable{X:Cx}{pos:Pos}
noncomputable def mE(i:Nat):TG:=λv σ H Q=>Q (σ.set i (some v)) H
theorem bW(b:X.N.Nodup)(c:X.N[i]? =some x)(d:Loc X.env.scope x)(e:X.fn x=true\/X.env.scope.names.lookup x=some .local:=by first|exact .inl rfl|exact .inr rfl|assumption):PG X (.Name x pos) (mE i):=by intro a s f H v u Q I r h;exact wpAny_assign_Name (ou I b c d r (λs' I' =>⟨_,H,I',h⟩) e)
noncomputable def gNil:GB:=λvs σ H Q=>vs=[]/\Q σ H
noncomputable def IB(t:TG)(u:GB):GB:=λvs σ H Q=>∃v r,vs=v::r/\t v σ H λσ' H' =>u r σ' H' Q
theorem jr:Iu X [] gNil:=by intro a s b H c us Q I r h;obtain⟨e,h⟩:=h;subst e;cases r;exact assignInOrder_nil ⟨b,H,I,h⟩
theorem dP(j:PG X e t)(f:Iu X b u)
  (m:(assignEach (e::b) X.env).map (·.2)=assign e X.env::(assignEach b X.env).map (·.2):=by rfl):Iu X (e::b) (IB t u):=by
 intro a s g H o us Q I r h;obtain⟨v,p,d,h⟩:=h;subst d;cases r with
 |cons r i =>rw[m];refine assignInOrder_cons (ak (j a s g H _ _ _ I r h) λ_ s1 hpq=> ?_);obtain⟨c,n,k,l⟩:=hpq;exact f a s1 c n _ _ Q k i l
noncomputable def gTup(K:W.Frag)(n:Nat)(t:GB):TG:=λv σ H Q=>∃a b,v=.ref a/\cA K H a b/\b.length=n/\t b σ H Q
theorem nA(y:X.calm=true)(h:Iu X d t)
  (x:(assignEach d X.env).length=n:=by rfl) (g:(assignEach d X.env).findIdx? (·.1)=none:=by rfl):PG X (.Tuple d k pos) (gTup X.K n t):=by
 intro c s j H v u Q I r f;obtain⟨a,z,l,p,q,f⟩:=f;subst l;cases r;obtain⟨w,i,m,B⟩:=I.tuple p;refine assign_Tuple_tuple (I.ok.hd y) m (by simp[x,<-q,i.length]) g λh' hx=> ?_;have A:Inv X c j H {s with heap:=h'}:=I.kept (t' :=s.toks) λb o e=>hx b o (Jg (JV e)) e;exact h c _ j H z _ Q A (by simpa using i) f
noncomputable def gSub(b a:TE)(t:AI):TG:=λv σ H Q=>b σ H λo H1=>a σ H1 λi H2=>t o i v H2 λH3=>Q σ H3
theorem xz(g:PE X o d)(e:PE X i c)(B:GG X t)
  (m:∀v,assign (.Subscript o i pos) X.env v=(do
   let ov<-holding [v] (eval o X.env)
   let iv<-holding [v,ov] (eval i X.env)
   standAt pos
   holding [v,ov,iv] (setItem ov iv v)
   release [v,ov,iv] []):=by intro _;rfl):PG X (.Subscript o i pos) (gSub d c t):=by
 intro a s b H v u Q I r h;rw[m];refine JD (LW (ak (g a s b H _ I h) λov s1 hpq=> ?_));obtain⟨x,n,q,C,w⟩:=hpq;refine JD (LW (ak (e a s1 b n _ q w) λiv s2 hpq=> ?_));obtain⟨y,z,j,l,p⟩:=hpq;refine JD (wpAny_standAt (JD (LW (ak (B a s2 b z x y v ov iv u _ j C l r p) λ_ s3 hpq=> ?_))));obtain⟨A,k,f⟩:=hpq;exact wpAny_release ⟨b,A,k,f⟩
noncomputable def Dl(a:TE)(g:TG):TS:=λD σ H=>a σ H λx H1=>g x σ H1 D.nx
theorem xk(j:PE X e c)(k:PG X b g)(l:swapsWithSole [b] e pos.line X.env=pure false:=by rfl)(f:swappedStores [b] e X.env=pure none:=by rfl)
  (i:(assignEach [b] X.env).map (·.2)=[assign b X.env]:=by rfl):PS X (.Assign [b] e pos) (Dl c g):=by
 intro a s d H D I h;refine wpAny_Assign_stores (ak (j a s d H _ I h) λv s1 ⟨x,H1,I1,r1,q1⟩=> ?_) l f;rw[i];exact ak (k a s1 d H1 x v _ I1 r1 q1) λ_ s2 q=>q
theorem jA(d:X.N.Nodup)(f:X.N[i]? =some x)(g:Loc X.env.scope x)(j:PE X e c)(k:swapsWith e (some (.Name x a)) pos.line X.env=pure false:=by rfl)(m:X.fn x=true\/X.env.scope.names.lookup x=some .local:=by first|exact .inl rfl|exact .inr rfl|assumption) :
  PS X (.Assign [.Name x a] e pos) (Dl c (mE i)):=by
 intro b s l H D I h;refine wpAny_Assign_Name (ak (j b s l H _ I h) λv s1 ⟨y,H1,I1,r1,q1⟩=> ?_) k;exact ou I1 d f g r1 (λs2 I2=>⟨_,H1,I2,q1⟩) m
noncomputable def Gx(f d e:TE)(a:V->V->Hp->VK->Prop)(c:TIp)(b:AI):TS:=λD σ H=>f σ H λo H1=>d σ H1 λi H2=>a o i H2 λx H3=>e σ H3 λy H4=>c x y H4 λz H5=>b o i z H5 λH6=>D.nx σ H6
noncomputable def Iv(X:Cx)(t:V->V->Hp->VK->Prop):Prop :=
 ∀(a:List (Addr×Obj))(s:Shared)(d:St)(H:Hp)(o i:V)(c b:Value)(Q:VK),Inv X a d H s->RelV o c->RelV i b->t o i H Q -> wpAny (model X.prog X.w) X.A (getItem c b) (EP X a d Q) X.xe s
theorem BF(ho:PE X o to)(hi:PE X i ti)(hg:Iv X tget)(he:PE X e te)(hp:PIp X op tip)(hs:GG X tset)
  (ha:∀ov iv new,augStore i ov iv new=(do holding [new,ov,iv] (setItem ov iv new);release [new,ov,iv] [];pure .next):=by intros;rfl):PS X (.AugAssign (.Subscript o i tpos) op e pos) (Gx to ti te tget tip tset):=by
 intro pins s σ H D I h;refine wpAny_AugAssign_SubscriptAny (ak (ho pins s σ H _ I h) λov s1 ⟨x1,H1,I1,r1,q1⟩=> ?_) ha;refine ak (hi pins s1 σ H1 _ I1 q1) λiv s2 hpq=> ?_;obtain⟨x2,H2,I2,r2,q2⟩:=hpq;refine ak (hg pins s2 σ H2 x1 x2 ov iv _ I2 r1 r2 q2) λold s3 hpq=> ?_;obtain⟨x3,H3,I3,r3,q3⟩:=hpq;refine ak (he pins s3 σ H3 _ I3 q3) λv s4 hpq=> ?_;obtain⟨x4,H4,I4,r4,q4⟩:=hpq;refine ak (hp pins s4 σ H4 x3 x4 old v _ I4 r3 r4 q4) λnew s5 hpq=> ?_;obtain⟨x5,H5,I5,r5,q5⟩:=hpq;exact ak (hs pins s5 σ H5 x1 x2 x5 ov iv new _ I5 r1 r2 r5 q5) λ_ s6 ⟨H6,I6,q6⟩=>⟨σ,H6,I6,q6⟩
noncomputable def ipI(f:Int->Int->Int):TIp:=λx y H Q=>∃i j,x=.int i/\y=.int j/\Q (.int (f i j)) H
theorem Ez:PIp X .Add (ipI λi j=>i+j):=by intro a s f H x y v u Q I e d h;obtain⟨i,j,b,c,q⟩:=h;subst b;subst c;obtain⟨t,rfl⟩:=e;obtain⟨g,rfl⟩:=d;exact iadd_int ⟨.int _,H,I.tok _,⟨_,rfl⟩,q⟩
theorem Ey:PIp X .Sub (ipI λi j=>i-j):=by intro a s f H x y v u Q I e d h;obtain⟨i,j,b,c,q⟩:=h;subst b;subst c;obtain⟨t,rfl⟩:=e;obtain⟨g,rfl⟩:=d;exact isub_int ⟨.int _,H,I.tok _,⟨_,rfl⟩,q⟩
noncomputable def Dh(c:TT)(g:TS):TS:=λD a H=>∃W:Nat->St->Hp->Prop,(∃m,W m a H)/\∀m a H,W m a H -> c a H λb H1=>if b=true then∃N:St->Hp->Prop,(∀d e,N d e ->∃f,f <m/\W f d e)/\g {D with nx:=N,ct:=N,bk:=D.nx} a H1 else D.nx a H1
theorem xf(z:PassesOwn (model X.prog X.w) X.A X.env X.xe)(M:PT X c C)(O:sj X g x):PS X (.While c g [] pos) (Dh C x):=by
 intro a s J H D I h;obtain⟨W,⟨K,L⟩,i⟩:=h;refine wpAny_While (codeAny_whileLoop (λn s' =>∃k t,Inv X a k t s' /\W n k t) ?_ K ⟨J,H,I,L⟩);rintro n F ⟨e,E,P,G⟩;refine Ll z (ak (M a F e E _ P (i n e E G)) λb s2 hpq=> ?_);obtain⟨B,u,l⟩:=hpq;cases b with
 |true =>
  obtain⟨N,y,l⟩:=l;rw[JI rfl];refine Ll z (ak (O a s2 e B _ u l) λf s3 q3=> ?_);cases f with
  |next =>obtain⟨d,j,o,p⟩:=q3;obtain⟨m,r,q⟩:=y d j p;exact⟨m,r,d,j,o,q⟩
  |cont =>obtain⟨d,j,o,p⟩:=q3;obtain⟨m,r,q⟩:=y d j p;exact⟨m,r,d,j,o,q⟩
  |brk=>exact q3|ret v=>exact q3
 |false =>rw[JE JS];exact wpAny_execs_nil ⟨e,B,u,l⟩
end
structure It where
 go:Nat->Hp->Prop
 yld:Nat->Hp->V->Hp->Prop
 stop:Nat->Hp->Prop
noncomputable def jW(X:Cx)(a:List (Addr×Obj))(H:Hp)(b:Addr):Prop :=
 H b=none/\b≠X.env.locals/\b∉X.fs/\(b∈X.ex\/X.s₀.heap.objs.size<=b)/\(∀x c,X.env.cells.lookup x=some c->c≠b)/\∀p∈X.pn++a,p.1≠b
theorem Inv.fpOk(I:Inv X a h H s)(d:s.heap.objs.size<=b)(g:f b=none):jW X a f b:=by
 refine⟨g,Lp (Ju I.lt d),I.nofs d,.inr (Jw I.sz d),λx c e z=> ?_,λp hp z=> ?_⟩
 ·obtain⟨v,q⟩:=I.cell x c e
  exact absurd (Ju q.lt (by rw[z];exact d)) (LJ _)
 ·exact absurd (Ju (JV (I.pin p hp).1) (by rw[z];exact d)) (LJ _)
structure qZ(P:Program)(w:World)(K:W.Frag)(tg:Expr)(J:It)(fp:List Addr)(it:Addr)(tn:Nat->Heap->Prop):Prop where
 mem:it∈fp
 obj:∀i h,tn i h->∀b∈fp,∃o,h.get? b=some o/\∀v,o.data≠.cell v
 keep:∀i h h',tn i h->(∀b∈fp,∀o,h.get? b=some o->h'.get? b=some o)->tn i h'
 item:∀(X:Cx),X.prog=P->X.w=w->X.K=K->X.calm=true->∀(i:Nat)(pins:List (Addr×Obj))(s:Shared)(σ:St)(H:Hp)(E:Value->Shared->Prop),Inv X pins σ H s->(∀b∈fp,jW X pins H b)->tn i s.heap->J.go i H ->
  wpAny (model P w) X.A (pyNext (.ref it)) (fun r s1=>∃u,r=some u /\
   wpAny (model P w) X.A (letOwnedTupleGo tg (.ref it) u) (fun _ s2=>∃x H',Inv X pins σ H' s2/\RelV x u/\J.yld i H x H' /\tn (i+1) s2.heap/\∀b∈fp,H' b=none) E s1) E s
 done:∀(X:Cx),X.prog=P->X.w=w->X.K=K->X.calm=true->∀(i:Nat)(pins:List (Addr×Obj))(s:Shared)(σ:St)(H:Hp)(E:Value->Shared->Prop),Inv X pins σ H s->(∀b∈fp,jW X pins H b)->tn i s.heap->J.stop i H ->
  wpAny (model P w) X.A (pyNext (.ref it)) (fun r s1=>r=none/\Inv X pins σ H s1) E s
 self:∀(A:Around)(i:Nat)(s:Shared)(Q:Value->Shared->Prop)(E:Value->Shared->Prop),tn i s.heap->Q (.ref it) s->wpAny (model P w) A (pyIter (.ref it)) Q E s
noncomputable abbrev TI:=St->Hp->(It->Hp->Prop)->Prop
noncomputable def PIE(X:Cx)(a:List (Addr×Obj))(j:St)(i:Expr)(R:It->Hp->Prop)(d:Value)(f:Shared):Prop :=
 ∃(g:Addr)(h:List Addr)(e:Nat->Heap->Prop)(J:It)(c :Hp),d=.ref g/\Inv X a j c f/\qZ X.prog X.w X.K i J h g e/\e 0 f.heap/\(∀b∈h,jW X a c b)/\R J c
noncomputable def PI(X:Cx)(e b:Expr)(d:TI):Prop :=
 ∀(a:List (Addr×Obj))(s:Shared)(c:St)(H:Hp)(R:It->Hp->Prop),Inv X a c H s->d c H R -> wpAny (model X.prog X.w) X.A (eval b X.env) (λv s1=>wpAny (model X.prog X.w) X.A (pyIter v) (PIE X a c e R) X.xe s1) X.xe s
theorem uK(ho:s.heap.get? it=some o)(hc:o.cls=.type n)(hd:o.data=.fields vs)
    (hn:["enumerate","zip","dict_itemiterator","dict_reverseitemiterator","odict_iterator","itertools.zip_longest","itertools.pairwise"].contains n=false) (hQ:Q () s):wpAny M A (letOwnedTupleGo tg (.ref it) u) Q E s:=by
  unfold letOwnedTupleGo
  cases tg<;>first
    | exact Ja hQ
    | (cases u<;>first
        | exact Ja hQ
        | (refine JD (wpAny_load ho ?_)
           rw[hc,hd];show wpAny M A (if(["enumerate","zip","dict_itemiterator","dict_reverseitemiterator","odict_iterator","itertools.zip_longest","itertools.pairwise"].contains n&&vs[0]? ==some (rawInt _))=true then _ else _) Q E s;rw[JE (by intro h;rw[hn,MR]at h;cases h)];exact Ja hQ))
noncomputable def GL(K:W.Frag)(a:Addr):It :=
 ⟨λi H=>∃b x,bJ K H a b/\b[i]? =some x,λi H x H' =>H' =H/\∀b,bJ K H a b->b[i]? =some x,λi H=>∃b,bJ K H a b/\b.length<=i⟩
noncomputable def Itt(K:W.Frag)(a:Addr):It :=
 ⟨λi H=>∃b x,cA K H a b/\b[i]? =some x,λi H x H' =>H' =H/\∀b,cA K H a b->b[i]? =some x,λi H=>∃b,cA K H a b/\b.length<=i⟩
noncomputable def Iz(a:Int)(n:Nat):It:=⟨λi _=>i<n,λi H x H' =>H' =H/\x=.int (a+i),λi _=>n<=i⟩
theorem uq{P:Program}{w:World}{K:W.Frag}{O:Expr}(a j:Addr):qZ P w K O (GL K a) [j] j (λi h=>h.IsListIter j a i) where
 mem:=by simp
 obj:=λi h f b hb=>by
  have e:b=j:=by simpa using hb
  subst e;obtain⟨o,e,c,d⟩:=f;exact⟨o,e,λv z=>by rw[d]at z;cases z⟩
 keep:=λi h h' f k=>f.at λo e=>k j (by simp) o e
 item:=by intro X y r F L i g s J H E I m f v;subst y r F;obtain⟨S,x,l,D⟩:=v;obtain⟨A,q,p,N⟩:=I.list l;obtain⟨u,R,Q⟩:=q.get D;obtain⟨C,t,M,G,B,n⟩:=m j (by simp);refine wpAny_pyNext_list_item f p.isList (x:=u) (by simpa using R) λh' st' sb=> ?_;have T:Inv X g J H {s with heap:=h'}:=I.turned (t' :=s.toks) (λb o hb e=>(sb.2 b hb).trans e) C t G B n;obtain⟨o,e,c,d⟩:=id st';exact⟨u,rfl,uK (s:={s with heap:=h'}) e c d (by decide) ⟨x,H,T,Q,⟨rfl,λys hy=>by rw[I.list_inj hy l];exact D⟩,st',λb hb=>(m b hb).1⟩⟩
 done:=by intro X y r F L i g s J H E I m f v;subst y r F;obtain⟨S,l,D⟩:=v;obtain⟨A,q,p,N⟩:=I.list l;obtain⟨C,t,M,G,B,n⟩:=m j (by simp);have U:=q.length;exact wpAny_pyNext_list_end (I.ok.hd L) f p.isList (by simp;omega) λh' eb=>⟨rfl,I.turned (t' :=s.toks) (λb o hb e=>eb b o hb e) C t G B n⟩
 self:=λ_ _ _ _ _ f h=>wpAny_pyIter_listiter f h
theorem qm{P:Program}{w:World}{K:W.Frag}{O:Expr}(a j:Addr):qZ P w K O (Itt K a) [j] j (λi h=>h.IsTupleIter j a i) where
 mem:=by simp
 obj:=λi h f b hb=>by
  have e:b=j:=by simpa using hb
  subst e;obtain⟨o,e,c,d⟩:=f;exact⟨o,e,λv z=>by rw[d]at z;cases z⟩
 keep:=λi h h' f k=>f.at λo e=>k j (by simp) o e
 item:=by intro X A t F L i g s J H E I n f y;subst A t F;obtain⟨S,x,m,D⟩:=y;obtain⟨l,r,p,N⟩:=I.tuple m;obtain⟨u,R,Q⟩:=r.get D;obtain⟨C,v,M,G,B,q⟩:=n j (by simp);refine wpAny_pyNext_tuple_item f (show s.heap.IsTuple a l.toArray from p) (x:=u) (by simpa using R) λh' st' sb=> ?_;have T:Inv X g J H {s with heap:=h'}:=I.turned (t' :=s.toks) (λb o hb e=>(sb.2 b hb).trans e) C v G B q;obtain⟨o,e,c,d⟩:=id st';exact⟨u,rfl,uK (s:={s with heap:=h'}) e c d (by decide) ⟨x,H,T,Q,⟨rfl,λys hy=>by rw[I.tuple_inj hy m];exact D⟩,st',λb hb=>(n b hb).1⟩⟩
 done:=by intro X A t F L i g s J H E I n f y;subst A t F;obtain⟨S,m,D⟩:=y;obtain⟨l,r,p,N⟩:=I.tuple m;obtain⟨C,v,M,G,B,q⟩:=n j (by simp);have U:=r.length;exact wpAny_pyNext_tuple_end (I.ok.hd L) f (show s.heap.IsTuple a l.toArray from p) (by simp;omega) λh' eb=>⟨rfl,I.turned (t' :=s.toks) (λb o hb e=>eb b o hb e) C v G B q⟩
 self:=λ_ _ _ _ _ f h=>wpAny_pyIter_tupleiter f h
theorem qo{P:Program}{w:World}{K:PySem.W.Frag}{D:Expr}(c:Addr)(f:Int)(n:Nat):qZ P w K D (Iz f n) [c] c (λi h=>IsRangeIter h c (f+(i:Nat)*1) ((n:Int)-(i:Nat)) 1) where
 mem:=by simp
 obj:=λi h a b hb=>by
  have e:b=c:=by simpa using hb
  subst e;exact⟨_,a,λv z=>by have F :Data.fields _=Data.cell v:=z;cases F⟩
 keep:=λi h h' a k=>k c (by simp) _ a
 item:=by intro X q l y x i d s B H E I g a p;subst q l y;obtain⟨u,m,C,A,r,j⟩:=g c (by simp);have W:=Walks.range (prog:=X.prog) (w:=X.w) (I.ok.hd x) c f 1 n;refine W.item i s _ _ p a λv h' tk hv st' kk=> ?_;obtain⟨t,rfl⟩:=hv;have G:Inv X d B H {s with heap:=h',toks:=tk}:=I.turned (λb o hb e=>kk b o (by simpa using hb) e) u m A r j;refine⟨_,rfl,uK (s:={s with heap:=h',toks:=tk}) (n:="range_iterator") st' rfl rfl (by decide) ⟨.int (f+i),H,G,⟨t,?_⟩,⟨rfl,rfl⟩,st',λb hb=>(g b hb).1⟩⟩;rw[Int.mul_one]
 done:=by intro X q l y x i d s B H E I g a p;subst q l y;obtain⟨u,m,C,A,r,j⟩:=g c (by simp);exact wpAny_pyNext_range_end (I.ok.hd x) a (by have:n<=i:=p;omega) λh' eb=>⟨rfl,I.turned (t' :=s.toks) (λb o hb e=>eb b o hb e) u m A r j⟩
 self:=λ_ _ _ _ _ a h=>wpAny_pyIter_rangeiter a h
section
variable{X:Cx}{tg:Expr}
noncomputable def Hu(K:W.Frag)(b:TE):TI:=λσ H R=>b σ H λx H1=>∃a,x=.ref a/\(∃c,bJ K H1 a c)/\R (GL K a) H1
noncomputable def iTup(K:W.Frag)(b:TE):TI:=λσ H R=>b σ H λx H1=>∃a,x=.ref a/\(∃c,cA K H1 a c)/\R (Itt K a) H1
theorem gr(k:PE X l f):PI X tg l (Hu X.K f):=by
 intro c s g H R I h;refine ak (k c s g H _ I h) λv s1 hpq=> ?_;obtain⟨x,r,d,j,n⟩:=hpq;obtain⟨a,e,⟨v,i⟩,q⟩:=n;subst e;cases j;obtain⟨m,t,p,u⟩:=d.list i;refine Mc p.isList ?_;refine⟨s1.heap.objs.size,[s1.heap.objs.size],_,_,r,rfl,d.kept (t' :=s1.toks) λb o e=>JG _ e,uq a _,⟨_,Jc _ rfl,rfl,rfl⟩,λb hb=> ?_,q⟩;have e:b=s1.heap.objs.size:=by simpa using hb
 subst e;exact d.fpOk (JH _) (d.hok.fresh (JH _))
theorem xt(m:PE X l g):PI X tg l (iTup X.K g):=by
 intro c s i H R I h;refine ak (m c s i H _ I h) λv s1 hpq=> ?_;obtain⟨x,r,d,k,n⟩:=hpq;obtain⟨a,e,⟨v,j⟩,q⟩:=n;subst e;cases k;obtain⟨f,t,p,u⟩:=d.tuple j;refine MZ (show s1.heap.IsTuple a f.toArray from p) ?_;refine⟨s1.heap.objs.size,[s1.heap.objs.size],_,_,r,rfl,d.kept (t' :=s1.toks) λb o e=>JG _ e,qm a _,⟨_,Jc _ rfl,rfl,rfl⟩,λb hb=> ?_,q⟩;have e:b=s1.heap.objs.size:=by simpa using hb
 subst e;exact d.fpOk (JH _) (d.hok.fresh (JH _))
theorem pB(I:Inv X d f H s)(m: -(2^62)<=a)(j:a<2^62)(l: -(2^62)<=c)(k:c<2^62)
  (q:R (Iz a (c-a).toNat) H):wpAny (model X.prog X.w) X.A (pyIter (.ref s.heap.objs.size)) (PIE X d f tg R) E {s with heap:=s.heap.push {cls:=.type "range",data:=.fields #[.int a t,.int c u,.int 1 v]},toks:=g}:=by
 refine wpAny_pyIter_range (IsRange.new ..) (small_one m j l k) ?_;have h:Inv X d f H {s with heap:=s.heap.push {cls:=.type "range",data:=.fields #[.int a t,.int c u,.int 1 v]},toks:=g}:=I.kept λb o e=>JG _ e
 refine⟨(s.heap.push {cls:=.type "range",data:=.fields #[.int a t,.int c u,.int 1 v]}).objs.size,[(s.heap.push {cls:=.type "range",data:=.fields #[.int a t,.int c u,.int 1 v]}).objs.size],_,_,H,rfl,h.kept (t' :=g) λb o e=>JG _ e,qo _ a (c-a).toNat,?_,λb hb=> ?_,q⟩
 ·have i:a+((0:Nat):Int)*1=a:=by simp
  have n:(((c-a).toNat:Nat):Int)-((0:Nat):Int)=Builtin.Range.rangeSize a c 1:=by rw[rangeSize_one];split<;>omega
  show IsRangeIter _ _ (a+((0:Nat):Int)*1) ((((c-a).toNat:Nat):Int)-((0:Nat):Int)) 1;rw[i,n];exact Jc _ rfl
 ·have e:b=(s.heap.push {cls:=.type "range",data:=.fields #[.int a t,.int c u,.int 1 v]}).objs.size:=by simpa using hb
  subst e;exact h.fpOk (JH _) (h.hok.fresh (JH _))
noncomputable def Ht(a:TA):TI:=λσ H R=>a σ H λvs H1=>∃j:Int,vs=[.int j]/\ -(2^62)<=j/\j<2^62/\R (Iz 0 j.toNat) H1
noncomputable def Hs(a:TA):TI:=λσ H R=>a σ H λvs H1=>∃i j:Int,vs=[.int i,.int j]/\(-(2^62)<=i/\i<2^62/\ -(2^62)<=j/\j<2^62)/\R (Iz i (j-i).toNat) H1
theorem vO(i:Gl X "range")(n:X.mg "range"=none)(k:PA X [a] d)(m:starEach [a] X.env=[(false,eval a X.env)]:=by rfl):PI X tg (.Call (.Name "range" p) [a] [] pos) (Ht d):=by
 intro b s f H R I h;refine Call_ (du I i n boot_range (KH (ak (k pos b s f H _ I h) λus s1 ⟨vs,H1,I1,r1,c⟩=> ?_) m rfl));obtain⟨j,e,c,l,q⟩:=c;subst e;cases r1 with
 |cons r g =>cases g;obtain⟨t,rfl⟩:=r;exact call_range_1 (pB I1 (by omega) (by omega) c l (by simpa using q))
theorem vN(n:Gl X "range")(y:X.mg "range"=none)(u:PA X [a,b] k)(x:starEach [a,b] X.env=[(false,eval a X.env),(false,eval b X.env)]:=by rfl)(d:starEach [b] X.env=[(false,eval b X.env)]:=by rfl) :
  PI X tg (.Call (.Name "range" p) [a,b] [] pos) (Hs k):=by
 intro c s l H R I h;refine Call_ (du I n y boot_range (KH (ak (u pos c s l H _ I h) λus s1 ⟨vs,H1,I1,r1,g⟩=> ?_) (by rw[x,d]) (by rw[d];rfl)));obtain⟨i,j,e,⟨g,w,m,v⟩,q⟩:=g;subst e;cases r1 with
 |cons r f =>
  cases f with
  |cons o f =>cases f;obtain⟨t,rfl⟩:=r;obtain⟨z,rfl⟩:=o;exact call_range_2 (pB I1 g w m v q)
noncomputable def tFor(e:TI)(g:TG)(f:TS):TS:=λD a H=>e a H λJ H1=>∃W:Nat->Nat->St->Hp->Prop,(∃m,W 0 m a H1)/\∀i m a H,W i m a H -> (J.stop i H/\D.nx a H)\/(J.go i H/\∃N:St->Hp->Prop,(∀c b,N c b ->∃d,d <m/\W (i+1) d c b)/\∀x b,J.yld i H x b ->g x a b λσ2 H2=>f {D with nx:=N,ct:=N,bk:=D.nx} σ2 H2)
noncomputable def kP(a:List Addr)(h:Heap):List (Addr×Obj):=a.filterMap λb=>(h.get? b).map λo=>(b,o)
theorem eR(c:b∈a)(e:h.get? b=some o):(b,o)∈kP a h:=List.mem_filterMap.mpr ⟨b,c,by rw[e];rfl⟩
theorem vP(c:p∈kP a h):p.1∈a/\h.get? p.1=some p.2:=by
 obtain⟨b,f,e⟩:=List.mem_filterMap.mp c;cases q:h.get? b with
 |none=>rw[q]at e;cases e|some o =>rw[q]at e;have d :(b,o)=p:=Jb e;subst d;exact⟨f,q⟩
theorem Inv.pinned(I:Inv X a g H s)(m:∀b∈c,jW X a H b)(j:∀b∈c,∃o,s.heap.get? b=some o/\∀v,o.data≠.cell v):Inv X (a++kP c s.heap) g H s := I.pins_of λp hp=>(Jn.mp hp).elim (λz=>I.pin p (Jy _ z)) λz=>by obtain⟨h,e⟩:=vP z;obtain⟨i,k,l,_⟩:=m p.1 h;obtain⟨o,f,d⟩:=j p.1 h;rw[e]at f;cases f;exact⟨e,i,k,l,d⟩
theorem Inv.unpinned(I:Inv X (a++c) b H s):Inv X a b H s:=I.pins_of λp hp=>I.pin p (Jy _ (Kf _ hp))
theorem kL{iter:Expr}{body:List Stmt}{wi:TI}{g:TG}{tb:TS}{pos:Pos}(hp:PassesOwn (model X.prog X.w) X.A X.env X.xe)(hc:X.calm=true)(hi:PI X tg iter wi)(hg:PG X tg g)(hb:sj X body tb)
  (hs:∀x,foldedSetIterable iter X.env x=pure x:=by intro _;rfl):PS X (.For tg iter body [] pos) (tFor wi g tb):=by
 intro pins s σ H D I h;refine wpAny_For (ak (hi pins s σ H _ I h) fun v s1 h1=>ak h1 fun itv s2 h2=> ?_) hs;obtain⟨it,fp,tn,J,H2,e,I2,T,st2,f2,W,⟨m0,w0⟩,turn⟩:=h2;subst e;have stat:∀{H' :Hp},(∀b∈fp,H' b=none)->∀b∈fp,jW X pins H' b:=fun hn b hb=>⟨hn b hb,(f2 b hb).2⟩;refine codeAny_forLoop_any (fun n s' =>∃i σ' H',Inv X pins σ' H' s' /\tn i s'.heap/\(∀b∈fp,H' b=none)/\W i n σ' H') ?_ m0 ⟨0,σ,H2,I2,st2,fun b hb=>(f2 b hb).1,w0⟩;rintro n s3 ⟨i,σ3,H3,I3,st3,fr3,w3⟩
 rcases turn i n σ3 H3 w3 with⟨stop,qn⟩|⟨go,N,hN,step⟩
 ·refine Ll hp (ak (T.done X rfl rfl rfl hc i pins s3 σ3 H3 X.xe I3 (stat fr3) st3 stop) fun r s4 hpq=> ?_)
  obtain⟨hr,I4⟩:=hpq;subst hr;exact wpAny_execs_nil ⟨σ3,H3,I4,qn⟩
 ·refine Ll hp (ak (T.item X rfl rfl rfl hc i pins s3 σ3 H3 X.xe I3 (stat fr3) st3 go) fun r s4 hpq=> ?_)
  obtain⟨u,hr,h4⟩:=hpq;subst hr;refine Ll hp (ak h4 fun _ s5 hpq=> ?_);obtain⟨x,H5,I5,r5,y5,st5,fr5⟩:=hpq;have I5' :=I5.pinned (stat fr5) (T.obj _ _ st5);refine Ll hp (ak (hg _ s5 σ3 H5 x u _ I5' r5 (step x H5 y5)) fun _ s6 hpq=> ?_);obtain⟨σ6,H6,I6,q6⟩:=hpq;refine Ll hp (ak (hb _ s6 σ6 H6 _ I6 q6) fun f s7 q7=> ?_);have again:∀{σ7:St}{H7:Hp},Inv X (pins++kP fp s5.heap) σ7 H7 s7->N σ7 H7->∃m,m<n/\∃i σ' H',Inv X pins σ' H' s7/\tn i s7.heap/\(∀b∈fp,H' b=none)/\W i m σ' H' :=fun{σ7 H7} I7 n7=>by
   obtain⟨m',hm,w7⟩:=hN σ7 H7 n7;refine⟨m',hm,i+1,σ7,H7,I7.unpinned,T.keep _ _ _ st5 fun b hb o e=>(I7.pin (b,o) (Jy _ (Jy _ (eR hb e)))).1,fun b hb=> ?_,w7⟩;obtain⟨o,e,d⟩:=T.obj _ _ st5 b hb;exact(I7.pin (b,o) (Jy _ (Jy _ (eR hb e)))).2.1
  cases f with
  | next=>obtain⟨σ7,H7,I7,n7⟩:=q7;exact again I7 n7
  | cont=>obtain⟨σ7,H7,I7,n7⟩:=q7;exact again I7 n7
  | brk=>obtain⟨σ7,H7,I7,q7⟩:=q7;exact⟨σ7,H7,I7.unpinned,q7⟩
  | ret v=>obtain⟨x7,σ7,H7,I7,r7,q7⟩:=q7;exact⟨x7,σ7,H7,I7.unpinned,r7,q7⟩
end
theorem zD{K:PySem.W.Frag}{a:Addr}{xs:List V}{g:TG}{k:TS}{D:dz}{b:St}{H:Hp}(c:Nat->St->Hp->Prop)(o:c 0 b H)(r:∀i b H,i<=xs.length->c i b H->bJ K H a xs)
  (s:∀i x b H,xs[i]? =some x->c i b H->g x b H λσ2 H2=>k {D with nx:=c (i+1),ct:=c (i+1),bk:=D.nx} σ2 H2) (n:∀b H,c xs.length b H->D.nx b H) :
  ∃W:Nat->Nat->St->Hp->Prop,(∃m,W 0 m b H)/\∀i m b H,W i m b H -> ((GL K a).stop i H/\D.nx b H)\/((GL K a).go i H/\∃N:St->Hp->Prop,(∀h d,N h d ->∃j,j <m/\W (i+1) j h d)/\∀x d,(GL K a).yld i H x d ->g x b d λσ2 H2=>k {D with nx:=N,ct:=N,bk:=D.nx} σ2 H2):=by
 refine⟨λi m b H=>m=xs.length-i/\i<=xs.length/\c i b H,⟨xs.length,by simp,J0 _,o⟩,?_⟩;rintro i m b H ⟨rfl,l,p⟩;have q:=r i b H l p
 by_cases f:i<xs.length
 ·refine .inr ⟨⟨xs,xs[i],q,by simp[f]⟩,c (i+1),λσ' d p' =>⟨xs.length-(i+1),by omega,rfl,f,p'⟩,λx d y=> ?_⟩
  obtain⟨e,y⟩:=y;subst e;exact s i x b _ (y xs q) p
 ·have e:i=xs.length:=by omega
  subst e;exact .inl ⟨⟨xs,q,JH _⟩,n b H p⟩
noncomputable abbrev R2:=V->V->Hp->VK->Prop
noncomputable def d7(X:Cx)(f:Value->Value->Sem Value)(r:R2):Prop :=
 ∀(a:List (Addr×Obj))(s:Shared)(b:St)(H:Hp)(x y:V)(v u:Value)(Q:VK),Inv X a b H s->RelV x v->RelV y u->r x y H Q -> wpAny (model X.prog X.w) X.A (f v u) (EP X a b Q) X.xe s
noncomputable def UnR(X:Cx)(f:Value->Sem Value)(r:V->Hp->VK->Prop):Prop :=
 ∀(a:List (Addr×Obj))(s:Shared)(b:St)(H:Hp)(x:V)(v:Value)(Q:VK),Inv X a b H s->RelV x v->r x H Q -> wpAny (model X.prog X.w) X.A (f v) (EP X a b Q) X.xe s
noncomputable def ba(X:Cx)(f:Value)(r:List V->Hp->VK->Prop):Prop :=
 ∀(a:List (Addr×Obj))(s:Shared)(c:St)(H:Hp)(b:List V)(us:List Value)(Q:VK),Inv X a c H s->aN b us->r b H Q -> wpAny (model X.prog X.w) X.A (call f us) (EP X a c Q) X.xe s
noncomputable def TruR(X:Cx)(r:V->Hp->(Bool->Hp->Prop)->Prop):Prop :=
 ∀(a:List (Addr×Obj))(s:Shared)(b:St)(H:Hp)(x:V)(v:Value)(Q:Bool->Hp->Prop),Inv X a b H s->RelV x v->r x H Q -> wpAny (model X.prog X.w) X.A (truthy v) (TP X a b Q) X.xe s
noncomputable def tOp(r:R2)(b a:TE):TE:=λσ H Q=>b σ H λx H1=>a σ H1 λy H2=>r x y H2 Q
noncomputable def tUn(r:V->Hp->VK->Prop)(a:TE):TE:=λσ H Q=>a σ H λx H1=>r x H1 Q
noncomputable def rI(C:Int->Int->Prop)(g:Int->Int->V):R2:=λx y H Q=>∃i j,x=.int i/\y=.int j/\C i j/\Q (g i j) H
noncomputable def xX(g:Int->Int->V):R2:=λx y H Q=>∃i j,x=.int i/\y=.int j/\Q (g i j) H
noncomputable def rU(g:Int->V):V->Hp->VK->Prop:=λx H Q=>∃i,x=.int i/\Q (g i) H
section
variable{X:Cx}{a b c:Expr}{ta tb tc:TE}{pos:Pos}
theorem Fw(o:PE X a ta)(t:PE X b tb){d:List (Addr×Obj)}{s:Shared}{e:St}{H:Hp}{R:V->V->Hp->Prop}(I:Inv X d e H s)
  (h:ta e H λx j=>tb e j λy g=>R x y g) {Q:Value->Shared->Prop} {f:Value->Value->Sem Value}
  (m:∀v u i x y g,Inv X d e g i->RelV x v->RelV y u->R x y g->wpAny (model X.prog X.w) X.A (f v u) Q X.xe i) :
  wpAny (model X.prog X.w) X.A (eval a X.env) (λv s₁=>wpAny (model X.prog X.w) X.A (eval b X.env) (λu s₂=>wpAny (model X.prog X.w) X.A (f v u) Q X.xe s₂) X.xe s₁) X.xe s:=by
 refine ak (o d s e H _ I h) λv s1 hpq=> ?_;obtain⟨x,j,q,l,r⟩:=hpq;refine ak (t d s1 e j _ q r) λu i hpq=> ?_;obtain⟨y,g,k,n,p⟩:=hpq;exact m v u i x y g k l n p
theorem kQ(g:d7 X (binaryOp e) r)(i:PE X a ta)(f:PE X b tb):PE X (.BinOp a e b pos) (tOp r ta tb):=by intro d s j H Q I h;exact wpAny_BinOp (Fw i f I h λv u s2 x y H2 I2 rx ry q=>g d s2 j H2 x y v u Q I2 rx ry q)
theorem HN(g:UnR X (unaryOp f) r)(i:PE X a ta):PE X (.UnaryOp f a pos) (tUn r ta):=by intro d s e H Q I h;exact UnaryOp_ (ak (i d s e H _ I h) λv s1 ⟨x,H1,I1,r1,q1⟩=>g d s1 e H1 x v Q I1 r1 q1)
theorem Hb{f:Value->Value->Sem Value}{C:Int->Int->Prop}{g:Int->Int->Int}
  (d:∀(i j:Int)(t u:Tok)(s:Shared)(Q:Value->Shared->Prop)(E:Value->Shared->Prop),C i j->Q (.int (g i j) s.toks) {s with toks:=s.toks+1}->wpAny (model X.prog X.w) X.A (f (.int i t) (.int j u)) Q E s) :
  d7 X f (rI C λi j=>.int (g i j)):=by
 intro e s o H x y v u Q I k m h;obtain⟨i,j,rfl,rfl,n,q⟩:=h;obtain⟨t,rfl⟩:=k;obtain⟨l,rfl⟩:=m;exact d i j t l s _ _ n ⟨.int (g i j),H,I.tok _,⟨_,rfl⟩,q⟩
theorem BV{g:Int->Int->Int}
  (d:∀(i j:Int)(t u:Tok)(s:Shared)(Q:Value->Shared->Prop)(E:Value->Shared->Prop),Q (.int (g i j) s.toks) {s with toks:=s.toks+1}->wpAny (model X.prog X.w) X.A (f (.int i t) (.int j u)) Q E s) :
  d7 X f (xX λi j=>.int (g i j)):=by
 intro e s n H x y v u Q I k m h;obtain⟨i,j,rfl,rfl,q⟩:=h;obtain⟨t,rfl⟩:=k;obtain⟨l,rfl⟩:=m;exact d i j t l s _ _ ⟨.int (g i j),H,I.tok _,⟨_,rfl⟩,q⟩
theorem BW{g:Int->Int->Bool}
  (d:∀(i j:Int)(t u:Tok)(s:Shared)(Q:Value->Shared->Prop)(E:Value->Shared->Prop),Q (.bool (g i j)) s->wpAny (model X.prog X.w) X.A (f (.int i t) (.int j u)) Q E s) :
  d7 X f (xX λi j=>.bl (g i j)):=by
 intro e s n H x y v u Q I k m h;obtain⟨i,j,rfl,rfl,q⟩:=h;obtain⟨t,rfl⟩:=k;obtain⟨l,rfl⟩:=m;exact d i j t l s _ _ ⟨.bl (g i j),H,I,rfl,q⟩
noncomputable def CPow(i j:Int):Prop:=0<=j/\j<=1000000/\i.natAbs<2^64
noncomputable def GO(i j:Int):Prop:=(-(2^64)<i/\i<2^64)\/(-(2^64)<j/\j<2^64)
theorem GO.ok(h:GO i j):IntMulOk i j:=by
 rcases h with⟨d,e⟩|⟨d,e⟩
 ·exact .of_left (intBits_le_64 d e)
 ·exact .of_right (intBits_le_64 d e)
theorem rS:d7 X (binaryOp .Add) (xX λi j=>.int (i+j)):=BV λ_ _ _ _ _ _ _ q=>add_int q
theorem EN:d7 X (binaryOp .Sub) (xX λi j=>.int (i-j)):=BV λ_ _ _ _ _ _ _ q=>sub_int q
theorem ES:d7 X (binaryOp .Mult) (rI GO λi j=>.int (i*j)):=Hb λ_ _ _ _ _ _ _ hc q=>mul_int q hc.ok
theorem ET:d7 X (binaryOp .Mod) (rI (λ_ j=>0<j) λi j=>.int (i%j)):=Hb λi j _ _ _ _ _ hc q=>by have d:(0:Int)<j:=hc;exact mod_int' (by omega) (by rw[Int.fmod_eq_emod_of_nonneg i (by omega)];exact q)
theorem EO:d7 X (binaryOp .LShift) (rI CPow λi j=>.int (i*2^j.toNat)):=Hb λ_ _ _ _ _ _ _ hc q=>lshift_int_small hc.1 hc.2.1 hc.2.2 q
theorem EZ:d7 X (binaryOp .BitAnd) (xX λi j=>.int (Builtin.bitAnd i j)):=BV λ_ _ _ _ _ _ _ q=>and_int q
theorem DE:d7 X (binaryOp .BitOr) (xX λi j=>.int (Builtin.bitOr i j)):=BV λ_ _ _ _ _ _ _ q=>or_int q
theorem unI{g:Int->Int}
  (d:∀(i:Int)(t:Tok)(s:Shared)(Q:Value->Shared->Prop)(E:Value->Shared->Prop),Q (.int (g i) s.toks) {s with toks:=s.toks+1}->wpAny (model X.prog X.w) X.A (f (.int i t)) Q E s) :
  UnR X f (rU λi=>.int (g i)):=by
 intro e s k H x v Q I j h;obtain⟨i,rfl,q⟩:=h;obtain⟨t,rfl⟩:=j;exact d i t s _ _ ⟨.int (g i),H,I.tok _,⟨_,rfl⟩,q⟩
theorem DZ:UnR X (unaryOp .USub) (rU λi=>.int (-i)):=unI λ_ _ _ _ _ q=>neg_int q
end
noncomputable def Ds:V->V->Bool
 | .non,.non=>true| .non,.int _=>true| .int _,.non=>true| .non,.bl _=>true| .bl _,.non=>true| .non,.str _=>true| .str _,.non=>true
 | .int _,.int _=>true| .bl _,.bl _=>true| .str _,.str _=>true| .byt _,.byt _=>true
 | .int _,.str _=>true| .str _,.int _=>true| .bl _,.str _=>true| .str _,.bl _=>true
 |_,_=>false
noncomputable def rEq:R2:=λx y H Q=>Ds x y=true/\Q (.bl (decide (x=y))) H
noncomputable def rNe:R2:=λx y H Q=>Ds x y=true/\Q (.bl (!decide (x=y))) H
theorem uS:decide (V.int i=V.int j)=(i==j):=by rw[KU];simp
theorem zR:decide (V.bl i=V.bl j)=(i==j):=by rw[KU];simp
theorem uR:decide (V.str i=V.str j)=(i==j):=by rw[KU];simp
theorem uT:decide (V.byt i=V.byt j)=(i.toList==j.toList):=by rw[KU];cases i;cases j;simp
section
variable{X:Cx}{a b c:Expr}{ta tb tc:TE}{pos:Pos}
theorem aV(I:Inv X d g H s)(q:Q (.bl k) H)(e:k=f):EP X d g Q (.bool f) s:=by subst e;exact⟨.bl k,H,I,rfl,q⟩
theorem DF:d7 X (compareOp .Eq) rEq:=by
 intro k s l H x y v u Q I g d h;obtain⟨f,q⟩:=h;cases x with
 |non =>
  cases g;cases y with
  |non=>cases d;exact PySem.EqNone.eq_none_none (aV I q (by simp))|bl j=>cases d;exact PySem.EqNone.eq_none_bool (aV I q (by simp))|int j=>obtain⟨e,rfl⟩:=d;exact PySem.EqNone.eq_none_int (aV I q (by simp))
  |str j=>obtain⟨e,rfl⟩:=d;exact PySem.EqNone.eq_none_str (aV I q (by simp))
  |_=>exact absurd (show false=true from f) JS
 |bl i =>
  cases g;cases y with
  |non=>cases d;exact PySem.EqNone.eq_bool_none (aV I q (by simp))|bl j=>cases d;exact eq_bool (aV I q zR)|str j=>obtain⟨e,rfl⟩:=d;exact PySem.EqMixed.eq_bool_str (aV I q (by simp))
  |_=>exact absurd (show false=true from f) JS
 |int i =>
  obtain⟨t,rfl⟩:=g;cases y with
  |non=>cases d;exact PySem.EqNone.eq_int_none (aV I q (by simp))|int j=>obtain⟨e,rfl⟩:=d;exact eq_int (aV I q uS)
  |str j=>obtain⟨e,rfl⟩:=d;exact PySem.EqMixed.eq_int_str (aV I q (by simp))
  |_=>exact absurd (show false=true from f) JS
 |str i =>
  obtain⟨t,rfl⟩:=g;cases y with
  |non=>cases d;exact PySem.EqNone.eq_str_none (aV I q (by simp))|bl j=>cases d;exact PySem.EqMixed.eq_str_bool (aV I q (by simp))|int j=>obtain⟨e,rfl⟩:=d;exact PySem.EqMixed.eq_str_int (aV I q (by simp))
  |str j=>obtain⟨e,rfl⟩:=d;exact eq_str (aV I q uR)
  |_=>exact absurd (show false=true from f) JS
 |byt i =>
  obtain⟨t,rfl⟩:=g;cases y with
  |byt j=>obtain⟨e,rfl⟩:=d;exact W.eq_bytes (aV I q uT)
  |_=>exact absurd (show false=true from f) JS
 |_=>cases y<;>exact absurd (show false=true from f) JS
theorem HW:d7 X (compareOp .NotEq) rNe:=by
 intro k s l H x y v u Q I g d h;obtain⟨f,q⟩:=h;cases x with
 |non =>
  cases g;cases y with
  |non=>cases d;exact PySem.EqNone.ne_none_none (aV I q (by simp))|bl j=>cases d;exact PySem.EqNone.ne_none_bool (aV I q (by simp))|int j=>obtain⟨e,rfl⟩:=d;exact PySem.EqNone.ne_none_int (aV I q (by simp))
  |str j=>obtain⟨e,rfl⟩:=d;exact PySem.EqNone.ne_none_str (aV I q (by simp))
  |_=>exact absurd (show false=true from f) JS
 |bl i =>
  cases g;cases y with
  |non=>cases d;exact PySem.EqNone.ne_bool_none (aV I q (by simp))|bl j=>cases d;exact ne_bool (aV I q (J1 not zR))|str j=>obtain⟨e,rfl⟩:=d;exact PySem.EqMixed.ne_bool_str (aV I q (by simp))
  |_=>exact absurd (show false=true from f) JS
 |int i =>
  obtain⟨t,rfl⟩:=g;cases y with
  |non=>cases d;exact PySem.EqNone.ne_int_none (aV I q (by simp))|int j=>obtain⟨e,rfl⟩:=d;exact ne_int (aV I q (J1 not uS))
  |str j=>obtain⟨e,rfl⟩:=d;exact PySem.EqMixed.ne_int_str (aV I q (by simp))
  |_=>exact absurd (show false=true from f) JS
 |str i =>
  obtain⟨t,rfl⟩:=g;cases y with
  |non=>cases d;exact PySem.EqNone.ne_str_none (aV I q (by simp))|bl j=>cases d;exact PySem.EqMixed.ne_str_bool (aV I q (by simp))|int j=>obtain⟨e,rfl⟩:=d;exact PySem.EqMixed.ne_str_int (aV I q (by simp))
  |str j=>obtain⟨e,rfl⟩:=d;exact ne_str (aV I q (J1 not uR))
  |_=>exact absurd (show false=true from f) JS
 |byt i =>
  obtain⟨t,rfl⟩:=g;cases y with
  |byt j=>obtain⟨e,rfl⟩:=d;exact W.ne_bytes (aV I q (J1 not uT))
  |_=>exact absurd (show false=true from f) JS
 |_=>cases y<;>exact absurd (show false=true from f) JS
theorem HX:d7 X (compareOp .Lt) (xX λi j=>.bl (decide (i<j))):=BW λ_ _ _ _ _ _ _ q=>lt_int q
theorem HY:d7 X (compareOp .LtE) (xX λi j=>.bl (decide (i<=j))):=BW λ_ _ _ _ _ _ _ q=>le_int q
theorem HZ:d7 X (compareOp .Gt) (xX λi j=>.bl (decide (j<i))):=BW λ_ _ _ _ _ _ _ q=>gt_int q
theorem Ha:d7 X (compareOp .GtE) (xX λi j=>.bl (decide (j<=i))):=BW λ_ _ _ _ _ _ _ q=>ge_int q
theorem yL:d7 X (compareOp .Is) (λx y H Q=>y=.non/\Q (.bl (decide (x=.non))) H):=by
 intro e s g H x y v u Q I d f h;obtain⟨rfl,q⟩:=h;cases f;refine is_none_gen (aV I q ?_)
 cases x<;>first
  |(cases d;rfl)
  |(obtain⟨t,rfl⟩:=d;rfl)
theorem Eg(b:Expr)(h:d≠.In:=by decide)(f:d≠.NotIn:=by decide):behindInMarks d b=false:=by
 have e:(d==CmpOp.In)=false:=by cases d<;>first|rfl|exact absurd rfl h
 have g:(d==CmpOp.NotIn)=false:=by cases d<;>first|rfl|exact absurd rfl f
 cases b<;>simp[behindInMarks,e,g]
theorem BN(g:d7 X (compareOp e) r)(i:PE X a ta)(f:PE X b tb)(k:behindInMarks e b=false):PE X (.Compare a [e] [b] pos) (tOp r ta tb):=by intro d s j H Q I h;exact wpAny_Compare1 (Fw i f I h λv u s2 x y H2 I2 rx ry q=>g d s2 j H2 x y v u Q I2 rx ry q) k
noncomputable def Gk(t:TE):TT:=λσ H Q=>t σ H λx H' =>∃k,x=.bl k/\Q k H'
theorem tX(j:d7 X (compareOp g) r)(l:PE X a ta)(i:PE X b tb)(m:behindInMarks g b=false):PT X (.Compare a [g] [b] pos) (Gk (tOp r ta tb)):=by
 intro d s f H Q I h
 refine wpAny_isTrue_Compare1 (ak (l d s f H _ I h) λv s1 ⟨x,H1,I1,r1,q1⟩=>ak (i d s1 f H1 _ I1 q1) λu s2 ⟨y,H2,I2,r2,q2⟩ =>ak (j d s2 f H2 x y v u _ I2 r1 r2 q2) λc s3 ⟨z,H3,I3,r3,k,e,q3⟩=> ?_) m
 subst e;cases r3;exact Ky ⟨H3,I3,q3⟩
noncomputable def GA(K:W.Frag)(x:V)(H:Hp)(k:Bool):Prop :=
 match x with
 | .non=>k=false| .bl b=>k=b| .int i=>k=(i !=0)| .str y=>y.length<=sizeLine/\k=((y.length:Int) !=0)| .byt y=>y.size<=sizeLine/\k=((y.size:Int) !=0)| .ref p=>(∃d,bJ K H p d/\k= !d.isEmpty)\/(∃d,cA K H p d/\k= !d.isEmpty)\/∃e,H p=some (.dK e)/\k= !e.isEmpty|_=>False
theorem rm{f:Type}{d:List (f×V)}{e:List (f×Value)}(r:KV d e):(!e.isEmpty)= !d.isEmpty:=by cases r<;>rfl
theorem kh(r:aN e d):(!d.toArray.isEmpty)= !e.isEmpty:=by cases r<;>simp
theorem fF:(sizeLine:Nat)<2^63:=by rw[Ka];decide
theorem Dc:TruR X (λx H Q=>∃k,GA X.K x H k/\Q k H):=by
 intro A s E H x v Q I l h;obtain⟨k,e,q⟩:=h;have F:=fF;have G:sizeLine=16777216:=Ka;cases x with
 |non =>cases l;have d :k=false:=e;subst d;exact truthy_none ⟨H,I,q⟩
 |bl b =>cases l;have d :k=b:=e;subst d;exact Ky ⟨H,I,q⟩
 |int i =>obtain⟨t,rfl⟩:=l;have d :k=(i !=0):=e;subst d;exact PySem.P.truthy_int ⟨H,I,q⟩
 |str y =>obtain⟨t,rfl⟩:=l;obtain⟨C,d⟩:y.length<=sizeLine/\k=((y.length:Int) !=0):=e;subst d;exact PySem.P.truthy_str (by omega) ⟨H,I.tok _,q⟩
 |byt y =>obtain⟨t,rfl⟩:=l;obtain⟨C,d⟩:y.size<=sizeLine/\k=((y.size:Int) !=0):=e;subst d;exact W.truthy_bytes (by omega) ⟨H,I.tok _,q⟩
 |ref p =>
  cases l;have d :(∃j,bJ X.K H p j/\k= !j.isEmpty)\/(∃j,cA X.K H p j/\k= !j.isEmpty)\/∃f,H p=some (.dK f)/\k= !f.isEmpty:=e
  rcases d with⟨j,n,d⟩|⟨j,n,d⟩|⟨f,n,d⟩
  ·subst d
   obtain⟨z,r,u,B⟩:=I.list n;have g:=r.length;exact wpAny_truthy_list u.isList (by simp only[JO];omega) ⟨H,I.tok _,by rw[kh r];exact q⟩
  ·subst d
   obtain⟨z,r,u,B⟩:=I.tuple n;have g:=r.length;exact truthy_tuple u (by simp only[JO];omega) ⟨H,I.tok _,by rw[kh r];exact q⟩
  ·subst d
   obtain⟨B,D,o,r,m⟩:f.length<=sizeLine/\(p==sysModules)=false/\∃o,KV f o/\s.heap.DictOf (aU X.prog X.w) p o:=I.hok p _ n;have g:f.length=o.length:=Paired.length r;exact wpAny_truthy_dict D m (by omega) ⟨H,I.tok _,by rw[rm r];exact q⟩
 |_=>exact(show False from e).elim
theorem xa(ha:PE X a ta)(he:∀whole,isTrue a X.env whole=(do let v<-whole;standAt a.pos;holding [v] (truthy v))) :
  PT X a (λσ H Q=>ta σ H λx H' =>∃k,GA X.K x H' k/\Q k H'):=by
 intro pins s σ H Q I h;exact isTrue_plain (ak (ha pins s σ H _ I h) λv s1 ⟨x,H1,I1,r1,q1⟩=>Dc pins s1 σ H1 x v Q I1 r1 q1) (he _)
theorem rR:d7 X (binaryOp .Add) (λx y H Q=>∃i j,x=.str i/\y=.str j/\i.length+j.length<=sizeLine/\Q (.str (i++j)) H):=by intro d s k H x y v u Q I e f h;obtain⟨i,j,rfl,rfl,g,q⟩:=h;obtain⟨t,rfl⟩:=e;obtain⟨l,rfl⟩:=f;exact add_str (λt' tk=>⟨.str (i++j),H,I.tok _,⟨_,rfl⟩,q⟩) g
theorem vals1(r:aN [x] us):∃u,us=[u]/\RelV x u:=by
 cases r with
 |cons d e=>cases e;exact⟨_,rfl,d⟩
theorem vals2(r:aN [x,y] us):∃u d,us=[u,d]/\RelV x u/\RelV y d :=by
 cases r with
 |cons g h =>
  cases h with
  |cons f e=>cases e;exact⟨_,_,rfl,g,f⟩
theorem vy(hc:X.calm=true):ba X (.builtin "max") (λxs H Q=>∃i j,xs=[.int i,.int j]/\Q (.int (if j>i then j else i)) H):=by
 intro pins s σ H xs us Q I r h;obtain⟨i,j,rfl,q⟩:=h;obtain⟨u,w',rfl,⟨t,rfl⟩,⟨t',rfl⟩⟩:=vals2 r;refine max_two_ints (I.ok.hd hc) λh' tk k=>⟨_,H,I.kept k,?_,q⟩
 by_cases hj:j>i;rw[JI hj,JI hj];exact⟨_,rfl⟩;rw[JE hj,JE hj];exact⟨_,rfl⟩
theorem vx(hc:X.calm=true):ba X (.builtin "min") (λxs H Q=>∃i j,xs=[.int i,.int j]/\Q (.int (if j<i then j else i)) H):=by
 intro pins s σ H xs us Q I r h;obtain⟨i,j,rfl,q⟩:=h;obtain⟨u,w',rfl,⟨t,rfl⟩,⟨t',rfl⟩⟩:=vals2 r;refine min_two_ints (I.ok.hd hc) λh' tk k=>⟨_,H,I.kept k,?_,q⟩
 by_cases hj:j<i;rw[JI hj,JI hj];exact⟨_,rfl⟩;rw[JE hj,JE hj];exact⟨_,rfl⟩
theorem mK:ba X (.type "int") (λxs H Q=>(∃i,xs=[.int i]/\Q (.int i) H)\/∃k,xs=[.bl k]/\Q (.int (if k then 1 else 0)) H):=by
 intro pins s σ H xs us Q I r h
 rcases h with⟨i,rfl,q⟩|⟨k,rfl,q⟩
 ·obtain⟨u,rfl,t,rfl⟩:=vals1 r
  exact call_int_int ⟨.int i,H,I,⟨_,rfl⟩,q⟩
 ·obtain⟨u,rfl,r1⟩:=vals1 r
  cases r1;exact call_int_bool ⟨.int (if k then 1 else 0),H,I.tok _,⟨_,rfl⟩,q⟩
end
structure GI(h:Heap)(x dx C:Addr)(mA:Str->Option Value):Prop where
 obj:h.get? x=some (W.instObj C dx)
 ns:h.Ns1 dx mA
 ne:dx≠x
theorem vY{h:Heap}(n:h.Ns1 dx mA):∃od,h.get? dx=some od/\∀name,W.lookIn name od=some (mA name):=by
 obtain⟨o,es,ep,ho,hd,hk,_,hm⟩:=n;refine⟨o,ho,λname=> ?_⟩;have e:=hm name;unfold nsFind findBy at e;rw[<- Array.find?_toList]at e;unfold W.lookIn;rw[hd];dsimp only
 split
 ·rename_i y q
  rw[q]at e;exact J1 some e
 ·rename_i q
  rw[q]at e;have a:es.toList.any (·.refKey)=false:=by rw[List.any_eq_false];intro y hy;obtain⟨z,t,hkey⟩:=hk y (Array.mem_toList_iff.mp hy);simp[DictEntry.refKey,hkey]
  have a' :¬es.toList.any (·.refKey)=true:=by rw[a];exact JS
  rw[JE a'];exact J1 some e
theorem GI.look(I:GI h x c C d):∃b,W.InstAt h x (W.instObj C c) C (some b)/\∀a,W.lookIn a b=some (d a) :=
 let⟨b,ho,hl⟩:=vY I.ns
 ⟨b,⟨I.obj,rfl,rfl,ho⟩,hl⟩
theorem jV.some_of(r:jV (some v) o):∃u,o=some u/\RelV v u:=by
 cases o with
 |none=>exact(show False from r).elim|some u=>exact⟨u,rfl,r⟩
section
variable{P:Program}{w:World}{H H' :Hp}{h h' :Heap}{a C dx:Addr}{fs fs' :List (Str×V)}
theorem B1(c:fR P w H h)(e:H a=some (.ins C dx fs)):∃b,GI h a dx C b/\(∀f,jV (fs.lookup f) (b f))/\PySem.Within b (fs.map (·.1))/\fs.length<=1000/\H dx=some (.own a):=by obtain⟨d,z,g,i,b,n,r,q⟩:=(show am P w H h a (.ins C dx fs)from c a _ e);exact⟨b,⟨i,n,g⟩,r,q,z,d⟩
end
structure Cls(K:W.Frag)(C:Addr):Prop where
 pg:W.plainGet K C Str.empty=true
 hd:W.hasDictIn K C=true
 po:W.plainOver K C=true
 sa:W.findIn K (.ref C) "__setattr__"=some (some (.builtin "object.__setattr__"))
theorem Cls.get{K:W.Frag}(c:Cls K C)(f:Str):W.plainGet K C f=true:=c.pg
section
variable{X:Cx}{pins:List (Addr×Obj)}{σ:St}{H:Hp}{s:Shared}{A:Around}{E:Value->Shared->Prop}{Q:Value->Shared->Prop}{c:Value}{b:Bool}
inductive jU(K:W.Frag)(H:Hp):V->Value->Prop where
 | non:jU K H .non (.type "NoneType")
 | bl (x:Bool):jU K H (.bl x) (.type "bool")
 | int (i:Int):jU K H (.int i) (.type "int")
 | str (x:Str):jU K H (.str x) (.type "str")
 | flt (x:UInt64):jU K H (.flt x) (.type "float")
 | lst {a:Addr} {xs:List V} (e:H a=some (.lst xs)):jU K H (.ref a) (.type "list")
 | frz {a:Addr} {o:Obj} {xs:List V} (e:H a=some (.frz o (.lst xs))):jU K H (.ref a) (.type "list")
 | tup {a:Addr} {xs:List V} (e:H a=some (.tup xs)):jU K H (.ref a) (.type "tuple")
 | dK {a:Addr} {kvs:List (ag×V)} (e:H a=some (.dK kvs)):jU K H (.ref a) (.type "dict")
 | dT {a:Addr} {kvs:List (List ag×V)} (e:H a=some (.dT kvs)):jU K H (.ref a) (.type "dict")
 | ins {a C dx:Addr} {fs:List (Str×V)} (e:H a=some (.ins C dx fs)) (cl:Cls K C) (ha:W.findIn K (.ref C) "__class__"=some (some (.builtin "object.__class__")))
   (hn:W.specialIn K (.builtin "object.__class__") "__get__"=some (some (.builtin "getset_descriptor.__get__"))) (htk:W.takesIn K (.builtin "object.__class__")=some true)
   (hm:W.mroIn K C (.type "object")=some true):jU K H (.ref a) (.ref C)
theorem ve(I:Inv X pins σ H s)(d:RelV x u)(v:jU X.K H x t)(e:W.kitOne X.K t c=some b)(h:∀D,Q (.bool b) {s with toks:=D}) :
  wpAny (model X.prog X.w) A (call (.builtin "isinstance") [u,c]) Q E s:=by
 cases v with
 |non=>cases(show u=Value.none from d);exact Lc W.kitx_none I.kIn True.intro e (λz=>nomatch z) h|bl y=>cases(show u=Value.bool y from d);exact Lc W.kitx_bool I.kIn True.intro e (λz=>nomatch z) h|int i=>obtain⟨t,q⟩:=(show∃t,u=Value.int i t from d);cases q;exact Lc W.kitx_int I.kIn True.intro e (λz=>nomatch z) h
 |str y=>obtain⟨t,q⟩:=(show∃t,u=Value.str y t from d);cases q;exact Lc W.kitx_str I.kIn True.intro e (λz=>nomatch z) h
 |flt y=>obtain⟨t,q⟩:=(show∃t,u=Value.float y t from d);cases q;exact Lc W.kitx_float I.kIn True.intro e (λz=>nomatch z) h
 | @lst a k f =>cases(show u=Value.ref a from d);obtain⟨_,_,n,_,g⟩:=(show am X.prog X.w H s.heap a (.lst k)from I.hok a _ f);exact Lc W.kitx_list I.kIn ⟨_,g,rfl⟩ e (λz=>nomatch z) h
 | @frz a G k f =>cases(show u=Value.ref a from d);obtain⟨_,_,_,n,_,g⟩:=(show am X.prog X.w H s.heap a (.frz G (.lst k))from I.hok a _ f);exact Lc W.kitx_list I.kIn ⟨_,g,rfl⟩ e (λz=>nomatch z) h
 | @tup a k f =>cases(show u=Value.ref a from d);obtain⟨_,_,_,p⟩:=(show am X.prog X.w H s.heap a (.tup k)from I.hok a _ f);obtain⟨o,g,l,_⟩:=p;exact Lc W.kitx_tuple I.kIn ⟨o,g,l⟩ e (λz=>nomatch z) h
 | @dK a j f =>cases(show u=Value.ref a from d);obtain⟨_,_,P,_,p⟩:=(show am X.prog X.w H s.heap a (.dK j)from I.hok a _ f);obtain⟨o,B,M,g,l,_⟩:=p;exact Lc W.kitx_dict I.kIn ⟨o,g,l.1⟩ e (λz=>nomatch z) h
 | @dT a j f =>cases(show u=Value.ref a from d);obtain⟨_,_,k,_,o,B,M,g,l,_⟩:=(show am X.prog X.w H s.heap a (.dT j)from I.hok a _ f);exact Lc W.kitx_dict I.kIn ⟨o,g,l.1⟩ e (λz=>nomatch z) h
 | @ins a C T R f r L F m N =>cases(show u=Value.ref a from d);obtain⟨U,O,_⟩:=B1 I.hok f;obtain⟨S,J,_⟩:=O.look;exact Lc (W.kitx_own (r.get _) r.hd L F m N) I.kIn J e (λz=>nomatch z) h
end
structure fo(k:Nat)(A:Around):Prop where
 hd:A.handled=none
 dp:A.depth+3*k+5<recursionLimit
 un:A.units+16*k+200<cLine
theorem fo.deeper(r:fo (k+1) A)(a:Env):fo k (A.deeper a) := ⟨r.hd,by have:=r.dp;show A.depth+1+3*k+5<_;omega,by have:=r.un;show A.units+3+16*k+200<_;omega⟩
theorem fo.depth(r:fo k A):A.depth<recursionLimit:=by have:=r.dp;omega
theorem fo.units(r:fo k A):A.units+64<cLine:=by have:=r.un;omega
noncomputable def tNil:TA:=λ_ H Q=>Q [] H
noncomputable def Gv(b:TE)(a:TA):TA:=λσ H Q=>b σ H λx H1=>a σ H1 λxs H2=>Q (x::xs) H2
section
variable{X:Cx}{e:Expr}{es:List Expr}{te:TE}{t:TA}{pos:Pos}
theorem bP:PA X [] tNil:=λ_ _ _ _ H Q I h=>Calls.spliced_nil ⟨[],H,I,.nil,h⟩
theorem ae(i:PE X e te)(g:PA X es t)(j:starEach (e::es) X.env=(false,eval e X.env)::starEach es X.env:=by rfl):PA X (e::es) (Gv te t):=by intro pos a s b H Q I h;rw[j];show wpAny _ _ (spliced ((false,eval e X.env)::backTo pos (starEach es X.env))) _ _ s;refine Calls.spliced_cons (ak (i a s b H _ I h) λu s1 hpq=> ?_);obtain⟨x,c,d,k,f⟩:=hpq;exact ak (g pos a s1 b c _ d f) λus s2 ⟨xs,H2,I2,r2,q2⟩=>⟨x::xs,H2,I2,.cons k r2,q2⟩
noncomputable def tTup(t:TA):TE:=λσ H Q=>t σ H λxs H1=>xs.length<=sizeLine/\∀p,H1 p=none->Q (.ref p) (upd H1 p (.tup xs))
noncomputable def tLst(t:TA):TE:=λσ H Q=>t σ H λxs H1=>xs.length<=sizeLine/\∀p,H1 p=none->Q (.ref p) (upd H1 p (.lst xs))
theorem EI{x1}(h:PA X es t):PE X (.Tuple es x1 pos) (tTup t):=by intro a s c H Q I b;refine wpAny_Tuple_spliced (ak (h pos a s c H _ I b) λus s1 ⟨xs,H1,I1,r,z,q⟩=>⟨by rw[<- r.length];exact z,?_⟩);have d:H1 s1.heap.objs.size=none:=I1.hok.fresh (JH _);refine⟨.ref s1.heap.objs.size,upd H1 s1.heap.objs.size (.tup xs),I1.laid (t' :=s1.toks) (λb u e=>JG _ e) (JH _) ?_,rfl,q _ d⟩;exact⟨z,us,r,⟨_,Jc _ rfl,rfl,_,rfl,rfl⟩⟩
theorem yD(h:PA X es t):PE X (.List es pos) (tLst t):=by intro a s c H Q I b;refine wpAny_List_spliced (ak (h pos a s c H _ I b) λus s1 ⟨xs,H1,I1,r,z,q⟩=>⟨by rw[<- r.length];exact z,?_⟩);have d:H1 s1.heap.objs.size=none:=I1.hok.fresh (JH _);refine⟨.ref s1.heap.objs.size,upd H1 s1.heap.objs.size (.lst xs),I1.laid (t' :=s1.toks) (λb u e=>JG _ e) (JH _) ?_,rfl,q _ d⟩;exact⟨z,us,0,r,Jc _ rfl⟩
end
noncomputable abbrev Sp:=List V->Hp->VK->XK->Prop
noncomputable abbrev wY:=List Env->Hp->Shared->XK->Value->Shared->Prop
structure Cz(P:Program)(w:World)(K:W.Frag)(mg:Str->Option Value)(base:Heap)(A:Around)(outer:List Env)(s:Shared)(H:Hp):Prop where
 frames:A.frames=some outer
 mod:Mod K mg base
 bs:∀b o,base.get? b=some o->s.heap.get? b=some o/\H b=none
 bsz:base.objs.size<=s.heap.objs.size
 funs:s.heap.FunFrames base outer
 frf:∀b∈rq outer,H b=none
 hok:fR P w H s.heap
 bare:AllBare s.gens
noncomputable def CE(a:List Env)(P:Program)(w:World)(H:Hp)(s:Shared)(Q:VK)(u:Value)(b :Shared):Prop :=
 ∃v c,b.os=s.os/\AllBare b.gens/\Un (rq a) [] H c s.heap b.heap/\fR P w c b.heap/\RelV v u/\Q v c
noncomputable def CR(c:wY)(a:List Env)(P:Program)(w:World)(H:Hp)(s:Shared)(Q:VK)(E:XK)(r:Result)(b :Shared):Prop :=
 match r with
 | .ok (.ret u)=>CE a P w H s Q u b| .ok _=>False| .error e=>c a H s E e b
structure dZ(P:Program)(w:World)(K:W.Frag)(mg:Str->Option Value)(base:Heap)(CX:wY)(k:Nat)(f:Addr)(fd:FuncData)(ps:List Str)(sp:Sp):Prop where
 len:∀vs H Q E,sp vs H Q E->vs.length=ps.length
 run:∀(A:Around)(outer:List Env)(s:Shared)(H:Hp)(args:Args)(us:List Value)(vs:List V)(Q:VK)(E:XK),fo k A->Cz P w K mg base A outer s H->BindsTo s fd args (ps.zip us)->aN vs us->sp vs H Q E ->
  codeAny (model P w) A (.call (.ref f) args) (CR CX outer P w H s Q E) s
theorem dZ.imp{P:Program}{w:World}{K:W.Frag}{mg:Str->Option Value}{base:Heap}{CX:wY}{k:Nat}{f:Addr}{fd:FuncData}{ps:List Str}{sp sp' :Sp}(F:dZ P w K mg base CX k f fd ps sp)
  (h:∀vs H Q E,sp' vs H Q E->sp vs H Q E):dZ P w K mg base CX k f fd ps sp' :=
 ⟨λvs H Q E q=>F.len vs H Q E (h _ _ _ _ q),λA outer s H args us vs Q E hr he hb hv hs=>F.run A outer s H args us vs Q E hr he hb hv (h _ _ _ _ hs)⟩
section
variable{X:Cx}{pins:List (Addr×Obj)}{σ:St}{H:Hp}{s s' :Shared}
theorem Inv.env0(I:Inv X pins σ H s):Cz X.prog X.w X.K X.mg X.base X.A X.stack s H := ⟨I.ok.frames,I.ok.mod,I.bs,Jw I.ok.bsz I.sz,I.stack,I.stkFree,I.hok,I.bare⟩
theorem Inv.after(I:Inv X pins σ H s)(h:CE X.stack X.prog X.w H s Q u s'):EP X pins σ Q u s' :=by obtain⟨v,f,i,a,e,c,r,q⟩:=h;obtain⟨j,g,d,t,b⟩:=s';obtain rfl:b =s.os:=i;exact⟨v,f,I.call (h' :=j) (g' :=g) (d' :=d) (t' :=t) (ch:=[]) e c a (λb z=>absurd z (by simp)),r,q⟩
end
noncomputable def Gw(b:Sp)(a:List V)(E:XK)(t:TA):TE:=λσ H Q=>t σ H λvs H1=>b (vs++a) H1 Q E
noncomputable def Binds(K:W.Frag)(c:FuncData)(b:List Str)(a:List Value):Prop :=
 ∀(s:Shared)(us:List Value),K.In s.heap->(us++a).length=b.length->BindsTo s c ⟨us,[]⟩ (b.zip (us++a))
theorem Binds.all{K:W.Frag}(h:∀us:List Value,us.length=a.length->bindArgs b ⟨us,[]⟩=pure (a.zip us)):Binds K b a []:=λs us _ hl=>by rw[KG]at hl ⊢;exact .of_eq (h us hl)
noncomputable def si(c:wY)(X:Cx)(E:XK):Prop:=∀(a:List (Addr×Obj))(d:St)(H:Hp)(s:Shared)(e:Value)(b :Shared),Inv X a d H s->c X.stack H s E e b ->X.xe e b
section
variable{X:Cx}{CX:wY}{k:Nat}{f C:Addr}{fd:FuncData}{ps:List Str}{sp:Sp}{dvs:List V}{ds:List Value}{E:XK}{x m:Str}{p pos apos:Pos}{e o:Expr}{es:List Expr}{ta:TE}{t:TA}
theorem Dz(F:dZ X.prog X.w X.K X.mg X.base CX k f fd ps sp)(l:fo k X.A)(q:Binds X.K fd ps ds)(g:aN dvs ds)(n:si CX X E)
  (I:Inv X a c H s) (r:aN b us) (h:sp (b++dvs) H Q E):wpAny (model X.prog X.w) X.A (call (.ref f) us) (EP X a c Q) X.xe s:=by
 have d:aN (b++dvs) (us++ds):=r.append g;have j:(us++ds).length=ps.length:=by rw[<- d.length];exact F.len _ _ _ _ h
 refine wpAny_call (codeAny_mono (F.run X.A X.stack s H ⟨us,[]⟩ (us++ds) (b++dvs) Q E l I.env0 (q s us I.kIn j) d h) λr s' hq=> ?_);cases r with
 |error e=>exact n a c H s e s' I hq|ok i =>
  cases i with
  |ret u=>exact I.after hq|next=>exact False.elim hq|brk=>exact False.elim hq|cont=>exact False.elim hq
theorem BO(F:dZ X.prog X.w X.K X.mg X.base CX k f fd ps sp)(j:fo k X.A)(i:Gl X x)(z:X.mg x=some (.ref f))(y:W.keepIn X.K (.ref f)=true)(u:Binds X.K fd ps ds)(g:aN dvs ds)(v:si CX X E)
  (n:PA X (e::es) t) (b:(x==("__debug__":Str))=false:=by decide) (l:starEach (e::es) X.env=(false,eval e X.env)::starEach es X.env:=by rfl) (c:(backTo pos (starEach es X.env)).any (·.1)=false:=by rfl) :
  PE X (.Call (.Name x p) (e::es) [] pos) (Gw sp dvs E t):=by
 intro a s d H Q I h;refine wpAny_Call_Name_kw (uC I i z ?_ b);refine W.callWith_K (h₀:=X.base) I.ok.mod.kin y (ak (n pos a s d H _ I h) λus s1 ⟨vs,H1,I1,r,q⟩=>⟨I1.kIn,?_⟩) l c;exact Dz F j u g v I1 r q
end
structure ee(N P:List Str)(sc:Scope):Prop where
 kind:sc.kind=.function
 co:sc.isCoroutine=false
 gen:sc.isGenerator=false
 nd:N.Nodup
 pre:N.take P.length=P
 par:∀x∈P,sc.names.lookup x=some .local\/sc.names.lookup x=some .cell
 nofree:∀y∈sc.names,y.2≠.free
theorem mM{b:Str->Option NameKind}{x:Str}:∀{a:List (Str×Value)}{m:Str->Option Value},(∀v,(x,v)∉a)->bindL b a m x=m x
 |[],_,_=>rfl|(n,v)::r,m,h=>by
  unfold bindL;rw[mM λw hw=>h w (JF _ hw)]
  split
  ·have:x≠n:=by rintro rfl;exact h v JL
   simp[this]
  ·rfl
theorem mO{b:Str->Option NameKind}{x:Str}:∀{a:List (Str×Value)}{m:Str->Option Value},(∀v,(x,v)∉a)->bindC b a m x=m x
 |[],_,_=>rfl|(n,v)::r,m,h=>by
  unfold bindC;rw[mO λw hw=>h w (JF _ hw)]
  split;rfl
  ·have:x≠n:=by rintro rfl;exact h v JL
   simp[this]
theorem mN{a:Str->Option NameKind}{x:Str}{v:Value}:∀{P:List Str}{b:List Value}{i:Nat}{m:Str->Option Value},P.Nodup->P[i]? =some x->b[i]? =some v->a x=some .local -> bindL a (P.zip b) m x=some v
 |[],_,_,_,_,h,_,_=>by simp at h|_::_,[],_,_,_,_,h,_=>by simp at h|p::P,w::b,0,m,nd,h1,h2,hk=>by simp at h1 h2;subst h1;subst h2;show bindL a ((p,w)::P.zip b) m p=_;unfold bindL;rw[mM λv hv=>(J9.mp nd).1 (List.of_mem_zip hv).1,JI hk];simp
 |p::P,w::b,i+1,m,nd,h1,h2,hk=>by show bindL a ((p,w)::P.zip b) m x=_;unfold bindL;exact mN (i:=i) (J9.mp nd).2 (by simpa using h1) (by simpa using h2) hk
theorem mP{a:Str->Option NameKind}{x:Str}{v:Value}:∀{P:List Str}{b:List Value}{i:Nat}{m:Str->Option Value},P.Nodup->P[i]? =some x->b[i]? =some v->a x≠some .local -> bindC a (P.zip b) m x=some v
 |[],_,_,_,_,h,_,_=>by simp at h|_::_,[],_,_,_,_,h,_=>by simp at h|p::P,w::b,0,m,nd,h1,h2,hk=>by simp at h1 h2;subst h1;subst h2;show bindC a ((p,w)::P.zip b) m p=_;unfold bindC;rw[mO λv hv=>(J9.mp nd).1 (List.of_mem_zip hv).1,JE hk];simp
 |p::P,w::b,i+1,m,nd,h1,h2,hk=>by show bindC a ((p,w)::P.zip b) m x=_;unfold bindC;exact mP (i:=i) (J9.mp nd).2 (by simpa using h1) (by simpa using h2) hk
noncomputable def start(N:List Str)(a:List V):St:=a.map some++List.replicate (N.length-a.length) none
noncomputable def qK(CX:wY)(P:Program)(w:World)(K:W.Frag)(mg:Str->Option Value)(base:Heap)(N:List Str)(qual:Str)(scope:Scope)(f:Addr)(cd:Value)(A:Around)(outer:List Env)(s:Shared)(H:Hp)(E:XK):Cx where
 prog:=P
 w:=w
 K:=K
 mg:=mg
 base:=base
 A:=A.deeper (envOfC qual scope s.heap.objs.size f cd)
 N:=N
 s₀:=s
 H₀:=H
 env:=envOfC qual scope s.heap.objs.size f cd
 outer:=outer
 stack:=envOfC qual scope s.heap.objs.size f cd::outer
 ex:=[]
 calm:=true
 fn:=λ_=>true
 pn:=[]
 xe:=λe s' =>wpAny (model P w) (A.deeper (envOfC qual scope s.heap.objs.size f cd)) (leaving (envOfC qual scope s.heap.objs.size f cd) e) (λ_ s'' =>CX outer H s E e s'') (λe' s'' =>CX outer H s E e' s'') s'
theorem qN{a:Scope}(h:a.names.lookup x=some .cell):∃c,(cellsFrom n a.names []).lookup x=some c:=by have q:=W.cellsFrom_some a.names n [] (.inl h);exact Option.isSome_iff_exists.mp q
theorem vf{CX:wY}{P:Program}{w:World}{K:W.Frag}{mg:Str->Option Value}{base:Heap}{N ps:List Str}{qual:Str}{scope:Scope}{f:Addr}{cd:Value}{A:Around}{outer:List Env}{s s1:Shared}{H:Hp}{E:XK}{us:List Value}{vs:List V}
  (S:ee N ps scope) (hd:A.handled=none) (e0:Cz P w K mg base A outer s H) (hl:vs.length=ps.length) (r:aN vs us)
  (x:InCallC s s.heap.objs.size (bindL (envOfC qual scope s.heap.objs.size f cd).kindOf (ps.zip us) λ_=>none) (cellsFrom (s.heap.objs.size+1) scope.names []) (bindC (envOfC qual scope s.heap.objs.size f cd).kindOf (ps.zip us) λ_=>none) s1) :
  Inv (qK CX P w K mg base N qual scope f cd A outer s H E) [] (start N vs) H s1:=by
 have hpl:ps.length<=N.length:=by have:=J1 List.length S.pre;rw[J6]at this;omega
 obtain⟨h1,tk,rfl,hk⟩:=x.done;have noA:∀b:Addr,b∉(qK CX P w K mg base N qual scope f cd A outer s H E).ex:=λb z=>absurd (show b∈([]:List Addr)from z) (by simp)
 refine⟨⟨e0.mod,S.kind,rfl,rfl,JH _,λy z c h1 h2=> ?_,λy hy=> ?_,λy c _ h=> ?_,λ_=>hd,Around.frames_deeper e0.frames,.inr ⟨rfl,rfl⟩,λb z=>absurd z (noA b),e0.bs,e0.bsz,λb _ _=>noA b,λb z=>absurd z (noA b),e0.funs,e0.frf⟩,rfl,e0.bare,Un.kept hk,⟨_,x.toInCall.ns,λi y v h1 h2 h3=> ?_⟩,λy c h=>⟨_,x.cell y c h⟩,e0.hok.fresh (JH _),λy c h=> ?_,λp hp=>absurd (show p∈([]:List (Addr×Obj))from hp) (by simp),e0.hok.kept hk,?_⟩
 ·exact name_of_addr x.apart (Jx h1) (Jx h2)
 ·have hy:scope.names.lookup y=some .cell\/scope.names.lookup y=some .free:=hy
  rcases hy with hy|hy
  ·exact qN hy
  ·exact absurd rfl (S.nofree _ (Jx hy))
 ·exact Lq (x.above y c (Jx h))
 ·have hi:i<vs.length:=by
   unfold start at h2
   by_cases hi:i<vs.length;exact hi
   ·rw[KR (by simpa using hi)]at h2
    rw[L5]at h2
    split at h2<;>cases h2
  have ha:vs[i]? =some v:=by
   unfold start at h2;rw[KM (by simpa using hi),JP]at h2;cases e:vs[i]? with
   |none=>rw[e]at h2;cases h2|some a=>rw[e]at h2;cases h2;rfl
  obtain⟨u,hu,rv⟩:=r.get ha;have hp:ps[i]? =some y:=by rw[<- S.pre,LK (by omega)];exact h1
  have ndP:ps.Nodup:=by rw[<- S.pre];exact S.nd.sublist (MU _ _)
  refine⟨u,rv,?_⟩
  rcases S.par y (Jd hp)with k|k
  ·exact .inl ⟨k,mN ndP hp hu k⟩
  ·obtain⟨c,e⟩:=qN (n:=s.heap.objs.size+1) k
   refine .inr ⟨.inl k,c,e,?_⟩;have q:=x.cell y c e;rw[mP ndP hp hu (by show scope.names.lookup y≠_;rw[k];decide)]at q;exact q
 ·exact e0.hok.fresh (Lq (x.above y c (Jx h)))
 ·unfold start
  show _=N.length;rw[JM,JC,KA];omega
theorem ID{L:wY}{P:Program}{w:World}{K:W.Frag}{G:Str->Option Value}{d:Heap}{k:Nat}{f:Addr}{l qual:Str}{g:Arguments}{h:List Stmt}{scope:Scope}{dV kV B Y c ct oc:Value}{X od:Option Addr}
  {O:Array (Option Value)} {N F:List Str} {U:Sp} (lk:K.lookup f=some ⟨oc,od,.func (W.fnOf l qual g h scope dV kV B Y X c ct),O⟩) (R:W.codeIn K c qual=true) (S:ee N F scope)
  (C:∀i H Q E,U i H Q E->i.length=F.length)
  (p:∀(A:Around)(a:List Env)(s:Shared)(H:Hp)(i:List V)(Q:VK)(E:XK),fo k (A.deeper (envOfC qual scope s.heap.objs.size f c))->U i H Q E -> ∃t,sj (qK L P w K G d N qual scope f c A a s H E) h t/\t {nx:=λ_ m =>Q .non m,rt:=Q} (start N i) H) :
  dZ P w K G d L (k+1) f (W.fnOf l qual g h scope dV kV B Y X c ct) F U:=by
 refine⟨C,λA a s H args us i Q E hr e0 hb r hsp=> ?_⟩;have hl:=C _ _ _ _ hsp;have Z:K.In s.heap:=e0.mod.kin.keeps λb o e=>(e0.bs b o e).1;have T:s.heap.NoLimit:=e0.mod.nolimit.keeps λb o e=>(e0.bs b o e).1;have z:∀y∈F.zip us,scope.names.lookup y.1=some .local\/(scope.names.lookup y.1=some .cell/\((cellsFrom (s.heap.objs.size+1) scope.names []).lookup y.1).isSome=true):=λ⟨n,v⟩ hy=>by
  rcases S.par n (List.of_mem_zip hy).1 with q|q
  ·exact .inl q
  ·exact .inr ⟨q,W.cellsFrom_some _ _ _ (.inl q)⟩
 refine codeAny_call_function hr.depth (Z _ _ lk) rfl S.co S.gen rfl (W.codeRec_of Z R) (hb _ _ _ _ ?_);refine wpAny_newFunctionEnv_cells S.kind z λenv he s1 x=> ?_;subst he;refine⟨T.keeps x.toInCall.keep,codeAny_func ?_⟩;obtain⟨t,ht,hq⟩:=p A a s H i Q E (hr.deeper _) hsp;have I:Inv (qK L P w K G d N qual scope f c A a s H E) [] (start N i) H s1:=vf S hr.hd e0 hl r x;refine K0 (ht [] s1 (start N i) H _ I hq) (λfl s' hs=> ?_) λe s' hs=>hs
 have D:∀{j :St}{m :Hp}{v:V}{u:Value},Inv (qK L P w K G d N qual scope f c A a s H E) [] j m s' ->RelV v u->Q v m ->CE a P w H s Q u s' :=
  λ{j m v u} J M q=>⟨v,m,J.os,J.bare,J.base,J.hok,M,q⟩
 cases fl with
 |ret u =>obtain⟨v,j,m,J,M,q⟩:=hs;exact D J M q
 |next =>obtain⟨j,m,J,q⟩:=hs;exact D (v:=V.non) (u:=Value.none) J rfl q
 |brk =>obtain⟨_,_,_,q⟩:=hs;exact False.elim q
 |cont =>obtain⟨_,_,_,q⟩:=hs;exact False.elim q
section
variable{X:Cx}{x:Str}{p pos:Pos}{e:Expr}{es:List Expr}{t:TA}{id T:String}{r:List V->Hp->VK->Prop}
noncomputable def tCB(r:List V->Hp->VK->Prop)(t:TA):TE:=λσ H Q=>t σ H λvs H1=>r vs H1 Q
theorem gt(g:ba X (.builtin id) r)(i:Gl X x)(m:X.mg x=none)(f:bootBuiltins x=some (.builtin id))(k:PA X (e::es) t)(l:x≠"__name__":=by decide)(c:(x==("__debug__":Str))=false:=by decide)
  (j:starEach (e::es) X.env=(false,eval e X.env)::starEach es X.env:=by rfl) (b:(backTo pos (starEach es X.env)).any (·.1)=false:=by rfl):PE X (.Call (.Name x p) (e::es) [] pos) (tCB r t):=by
 intro a s d H Q I h;refine wpAny_Call_Name_kw (du I i m f ?_ l c);exact PyProof.Rows.callWith_builtin1 (ak (k pos a s d H _ I h) λus s1 ⟨vs,H1,I1,r1,q1⟩=>g a s1 d H1 vs us Q I1 r1 q1) j b
theorem lw(g:ba X (.type T) r)(i:Gl X x)(m:X.mg x=none)(f:bootBuiltins x=some (.type T))(k:PA X (e::es) t)(l:x≠"__name__":=by decide)(c:(x==("__debug__":Str))=false:=by decide)
  (j:starEach (e::es) X.env=(false,eval e X.env)::starEach es X.env:=by rfl) (b:(backTo pos (starEach es X.env)).any (·.1)=false:=by rfl):PE X (.Call (.Name x p) (e::es) [] pos) (tCB r t):=by
 intro a s d H Q I h;refine wpAny_Call_Name_kw (du I i m f ?_ l c);exact KH (ak (k pos a s d H _ I h) λus s1 ⟨vs,H1,I1,r1,q1⟩=>g a s1 d H1 vs us Q I1 r1 q1) j b
end
end L2
namespace HT
open PySem PyProof.Rows
noncomputable def lexLt:List Int->List Int->Bool
 |[],[]=>false|[],_::_=>true|_::_,[]=>false|x::xs,y::ys=>if x=y then lexLt xs ys else decide (x<y)
theorem rZ(x y:Int)(b a:List Int):lexLt (x::b) (y::a)=if x=y then lexLt b a else decide (x<y):=rfl
theorem lV:lexLt [] []=false:=rfl
theorem kY(y:Int)(a:List Int):lexLt [] (y::a)=true:=rfl
theorem kZ(x:Int)(a:List Int):lexLt (x::a) []=false:=rfl
theorem zN(A:Around)(s:Shared)(a:Int)(t:Tok)(c:Int)(u:Tok):∃e,SeqAt.EqAt A s (.int a t) (.int c u) e/\(e=true↔a=c) := ⟨(a==c),SeqAt.EqAt.int_int a t c u,by simp⟩
theorem xW(A:Around)(s:Shared)(a:Int)(t:Tok)(c:Int)(u:Tok)(b:Program)(w:World)(E:Value->Shared->Prop)(Q:Value->Shared->Prop)(h:Q (.bool (decide (a<c))) s) :
  wpAny (model b w) A (richCompare .Lt (.int a t) (.int c u)) Q E s :=
 (PyProof.Rows.lt_int h:wpAny (model b w) A (compareOp .Lt (.int a t) (.int c u)) Q E s)
section
open PySem.SeqAt
open PySem.AutoSeq1 (wpAny_loadPart')
open PySem.MeetsSeq PySem.MeetsSeq2 PySem.MeetsSeq3
theorem lP(l b:Addr)(items items2:Array Value)(n n2:Nat)(dd dd2:Option Addr)(sl sl2:Array (Option Value))(ns ms:List Int)(hi:IntsAre items.toList ns)(hj:IntsAre items2.toList ms) :
  Meets (Builtin.«tuple.__lt__» ⟨[.ref l,.ref b],[]⟩)
   (λ_ R s=>s.heap.get? l=some {cls:=.type "tuple",dict:=dd,data:=.seq items n,slots:=sl}/\s.heap.get? b=some {cls:=.type "tuple",dict:=dd2,data:=.seq items2 n2,slots:=sl2} /\ R (.ok (.ret (.bool (lexLt ns ms)))) s) :=
 .of_wp λprog w A R s h=>by
  obtain⟨hp,g,d,tk,os⟩:=s;obtain⟨hl,hb,h⟩:=h;have f2:=AutoSeq1.sub_tuple_tuple;have z1:items.size=ns.length:=by rw[<- hi.length];simp
  have z2:items2.size=ms.length:=by rw[<- hj.length];simp
  wp_walk using J8 hl,J8 hb,wpAny_forIn_list _ (λaE b s' =>b.1=none/\s' =⟨hp,g,d,tk,os⟩/\∃(vs ws:List Value)(ns' ms' :List Int),aE=vs.zip ws /\ IntsAre vs ns' /\IntsAre ws ms' /\ns'.length+items2.size=ms'.length+items.size/\R (.ok (.ret (.bool (lexLt ns' ms')))) ⟨hp,g,d,tk,os⟩) _
  case turn =>
   rintro⟨y,x⟩ aE b s' ⟨hb',rfl,vs,ws,ns',ms',hz,hvi,hwi,hlen,hR⟩;cases hvi with
   |nil=>rw[List.zip_nil_left]at hz;cases hz|cons a t hvi' =>
    cases hwi with
    |nil=>rw[List.zip_nil_right]at hz;cases hz|cons c u hwi' =>
     rw[Kp]at hz
     injection hz with hyx hrest
     injection hyx with hy hx
     subst hy hx;rw[rZ]at hR;simp only[JY]at hlen;obtain⟨e,he,hiff⟩:=zN A.in1 ⟨hp,g,d,tk,os⟩ a t c u;refine JD (he prog w _ _ ?_);cases e with
     |true =>
      rw[JI (hiff.mp rfl)]at hR
      wp_walk
      exact⟨rfl,rfl,_,_,_,_,hrest,hvi',hwi',by omega,hR⟩
     |false =>
      rw[JE (λq=>absurd (hiff.mpr q) JS)]at hR;have hri:=xW A.in1 ⟨hp,g,d,tk,os⟩ a t c u prog w
      wp_walk using hri
      exact⟨_,rfl,by simpa using hR⟩
  case fin =>
   rintro⟨b1,b2⟩ s' ⟨hb',rfl,vs,ws,ns',ms',hz,hvi,hwi,hlen,hR⟩;simp only at hb';subst hb';have hv:lexLt ns' ms' =decide (items.size<items2.size):=by
    cases hvi with
    |nil =>
     cases hwi with
     |nil =>simp only[MI]at hlen;rw[lV];exact(J2 (by omega)).symm
     |cons c u hw =>simp only[MI,JY]at hlen;rw[kY];exact(K2 (by omega)).symm
    |cons a t hv =>
     cases hwi with
     |nil =>simp only[MI,JY]at hlen;rw[kZ];exact(J2 (by omega)).symm
     |cons c u hw =>rw[Kp]at hz;cases hz
   rw[hv]at hR
   wp_walk
   exact⟨_,rfl,by simpa [Builtin.Tuple.tupleCompareSizes]using hR⟩
  case h =>exact⟨rfl,rfl,items.toList,items2.toList,ns,ms,rfl,hi,hj,by omega,h⟩
end
section
variable{prog:Program}{w:World}{A:Around}{E:Value->Shared->Prop}{s:Shared}
theorem rY(y:IsTup s.heap l c)(D:IsTup s.heap b a)(t:IntsAre c.toList i)(u:IntsAre a.toList e)
  (z:A.units<cLine) (h:Q (.bool (lexLt i e)) s):wpAny (model prog w) A (compareOp .Lt (.ref l) (.ref b)) Q E s:=by
 obtain⟨⟨cls,C,data,B⟩,p,r,n,o⟩:=id y;obtain⟨⟨q,m,k,j⟩,g,d,v,f⟩:=id D;simp only at r o d f;subst r o d f
 exact richCompare_meets_room (op:=.Lt) ⟨_,p,rfl⟩ ⟨_,g,rfl⟩ PySem.F.slot_tuple_lt PySem.F.entry_tuple_lt (PySem.F.args_tuple_lt_2 _ _) (lP l b c a n v C m B j i e t u)
  ⟨p,g,show Value.bool (lexLt i e)≠Value.notImplemented/\Q (.bool (lexLt i e)) s from⟨(λx=>nomatch x),h⟩⟩ z
theorem CZ(z:IsTup s.heap t d.toArray)(C:IsTup s.heap b a.toArray)(p:d≠[])
  (B:a=[]->Q (.ref t) s) (y:a≠[]->Q (.ref s.heap.objs.size) {s with heap:=s.heap.push {cls:=.type "tuple",data:=.seq (d++a).toArray}})
  (l:d.length+a.length<=sizeLine):wpAny (model prog w) A (binaryOp .Add (.ref t) (.ref b)) Q E s:=by
 obtain⟨⟨cls,x,data,v⟩,k,u,n,o⟩:=id z;obtain⟨⟨q,i,m,g⟩,c,f,r,h⟩:=id C;simp only at u o f h;subst u o f h;have e:d.toArray++a.toArray=(d++a).toArray:=by simp
 by_cases j:a=[]
 ·exact concat_meets ⟨_,k,rfl⟩ ⟨_,c,rfl⟩ noFill_tuple_add seq_tuple_add PySem.F.slot_tuple_add PySem.F.entry_tuple_add (MX _ _)
   (tuple_addW1 t b d.toArray a.toArray n r x i v g (by simpa using p) (by simp[j])) ⟨k,c,B j⟩
 ·refine concat_meets ⟨_,k,rfl⟩ ⟨_,c,rfl⟩ noFill_tuple_add seq_tuple_add PySem.F.slot_tuple_add PySem.F.entry_tuple_add (MX _ _)
   (tuple_addW2 t b d.toArray a.toArray n r x i v g (by simpa using p) (by simpa using j) (by rw[JO,JO];exact l)) ⟨k,c,?_⟩
  rw[e];exact y j
noncomputable def bi(n d:Nat):Option Int->Nat
 |none=>d|some v=>if v<0 then(v+(n:Int)).toNat else min v.toNat n
theorem xO(n d:Nat):bi n d none=d:=rfl
theorem A1(n d k:Nat):bi n d (some (k:Int))=min k n:=by show(if(k:Int)<0 then((k:Int)+(n:Int)).toNat else min (k:Int).toNat n)=min k n;rw[JE (by omega),Kw]
theorem Dx(n d:Nat)(b:d<=n)(o:Option Int):bi n d o<=n:=by
 cases o with
 |none=>exact b|some v =>
  show(if v<0 then(v+(n:Int)).toNat else min v.toNat n)<=n
  by_cases a:v<0;rw[JI a];omega;rw[JE a];exact Nat.min_le_right _ _
theorem uV(v:Int)(n d:Nat):(if v<0 then max (v+(n:Int)) 0 else min v (n:Int))=((bi n d (some v):Nat):Int):=by
 show(if v<0 then max (v+(n:Int)) 0 else min v (n:Int))=(((if v<0 then(v+(n:Int)).toNat else min v.toNat n):Nat):Int)
 by_cases a:v<0;simp only[JI a];omega;simp only[JE a];omega
theorem sf(lo hi:Option Int)(n:Nat):Builtin.Slice.sliceAdjust lo hi 1 (n:Int)=(((bi n 0 lo:Nat):Int),((bi n n hi:Nat):Int)):=by
 have h1:¬((1:Int)<0):=by omega
 unfold Builtin.Slice.sliceAdjust;simp only[h1,Ly];refine MM ?_ ?_
 ·cases lo with
  |none=>rfl|some v=>exact uV v n 0
 ·cases hi with
  |none=>rfl|some v=>exact uV v n n
theorem rO(i j:Nat):Builtin.Slice.slicePlaces (i:Int) (j:Int) 1=j-i:=by
 unfold Builtin.Slice.slicePlaces;have a:(1:Int)>0:=by omega
 simp only[a,LX,Int.ediv_one]
 split<;>omega
theorem kA(p:IsPart v o)(h:Q o s):wpAny (model prog w) A (Builtin.Slice.slicePartIndex v) Q E s:=by
 cases p with
 |none=>exact slicePart_none h|int i t=>exact slicePart_int h
theorem eD{sl:Addr}{vl vu:Value}{lo hi:Option Int}{n:Nat}{Q:Int×Int×Nat->Shared->Prop}(hs:s.heap.IsSliceOf sl vl vu .none)(pl:IsPart vl lo)(pu:IsPart vu hi)
  (h:Q (((bi n 0 lo:Nat):Int),1,bi n n hi-bi n 0 lo) s):wpAny (model prog w) A (Builtin.Slice.sliceApplied (.ref sl) (pure (n:Int))) Q E s:=by
 obtain⟨os,hos,hcs,hds⟩:=id hs;unfold Builtin.Slice.sliceApplied Builtin.Slice.sliceFields;refine JD (JD (Lz hos hds (x:=vl) rfl (JD (Lz hos hds (x:=vu) rfl (JD (Lz hos hds (x:=.none) rfl (Ja ?_)))))));refine JD (slicePart_none ?_);show wpAny _ _ (if((1:Int)==0)=true then _ else _) _ _ s;rw[JE (by decide)];refine JD (kA pl (JD (kA pu (JD (Ja ?_)))));show wpAny _ _ (match Builtin.Slice.sliceAdjust lo hi 1 (n:Int)with|(lo,hi)=>pure (lo,(1:Int),Builtin.Slice.slicePlaces lo hi 1)) _ _ s;rw[sf lo hi n];show wpAny _ _ (pure (((bi n 0 lo:Nat):Int),(1:Int),Builtin.Slice.slicePlaces ((bi n 0 lo:Nat):Int) ((bi n n hi:Nat):Int) 1)) _ _ s;rw[rO];exact Ja h
theorem xr(a:Array Value)(i k:Nat):((List.range k).filterMap λ(m:Nat)=>a[((i:Int)+(m:Int)*1).toNat]?).toArray=((a.toList.drop i).take k).toArray:=by
 have e:(λ(m:Nat)=>a[((i:Int)+(m:Int)*1).toNat]?)=λm=>a[i+m]? :=by
  funext m
  have:((i:Int)+(m:Int)*1).toNat=i+m:=by omega
  rw[this]
 rw[e];have:=pick_run a i k;rw[List.filterMap_map]at this;have b:((λx=>a[x]?)∘λx=>i+x)=λm=>a[i+m]? :=rfl;rw[b]at this;rw[this]
theorem iC(e:IsTup s.heap t a)(n:s.heap.IsSliceOf j l o .none)(x:IsPart l c)(u:IsPart o d)
  (p:¬(bi a.size 0 c=0/\bi a.size a.size d=a.size))
  (h:Q (.ref s.heap.objs.size) {s with heap:=s.heap.push {cls:=.type "tuple",data:=.seq ((a.toList.drop (bi a.size 0 c)).take (bi a.size a.size d-bi a.size 0 c)).toArray}})
  (v:a.size<=sizeLine):wpAny (model prog w) A (getItem (.ref t) (.ref j)) Q E s:=by
 have b:sizeOk (.seq ((a.toList.drop (bi a.size 0 c)).take (bi a.size a.size d-bi a.size 0 c)).toArray):=by show((a.toList.drop (bi a.size 0 c)).take (bi a.size a.size d-bi a.size 0 c)).toArray.size<=sizeLine;rw[JO,J6,LU,JZ];omega
 have z:bi a.size a.size d<=a.size:=Dx _ _ (JH _) d;obtain⟨y,i,f,r⟩:=id n;have k:s.TypeIs (.ref j) "slice":=⟨y,i,f⟩;unfold getItem
 try with_reducible refine LW ?_
 first|refine JD (Ja ?_)|skip
 refine JD (wpAny_sequenceKey e.typeIs (by decide) ?_)
 refine JD (MA (name:=Str.ofString "__getitem__") e.typeIs KQ (K9 KQ e.typeIs entry_tuple_getitem ?_ (args_tuple_getitem _ _)))
 show wpAny _ _ (Builtin.Tuple.tupleItemsOf (.ref t) >>= _) _ _ s;refine JD (tupleItemsOf_ e ?_);refine JD (wpAny_typeOf k ?_);rw[JI (by decide)];refine JD (eD n x u ?_);have g:¬((((bi a.size 0 c:Nat):Int)==0&&(1:Int)==1&&(bi a.size a.size d-bi a.size 0 c)==a.size)=true):=by intro q;rw[JJ,JJ]at q;have C:((bi a.size 0 c:Nat):Int)=0:=Jq q.1.1;have B:bi a.size a.size d-bi a.size 0 c=a.size:=Jq q.2;exact p ⟨by omega,by omega⟩
 show wpAny _ _ (if(((bi a.size 0 c:Nat):Int)==0&&(1:Int)==1&&(bi a.size a.size d-bi a.size 0 c)==a.size)=true then _ else _) _ _ s;rw[JE g,xr]
 first
  |exact JD (m:=Builtin.Tuple.tupleExact _) (LP (Ja ⟨_,rfl,Ja h⟩) b)
  |exact JD (m:=Builtin.Tuple.tupleExact _) (LP (JD (Ja (Ja ⟨_,rfl,Ja h⟩))) b)
  |exact JD (JD (m:=Builtin.Tuple.tupleExact _) (LP (Ja (Ja ⟨_,rfl,Ja h⟩)) b))
  |exact JD (JD (m:=Builtin.Tuple.tupleExact _) (LP (Ja ⟨_,rfl,Ja h⟩) b))
end
end HT
namespace L2
open PySem PySem.Spec PyProof.Rows
noncomputable abbrev TO:=St->Hp->(Option Int->Hp->Prop)->Prop
noncomputable def PO(X:Cx)(e:Option Expr)(t:TO):Prop :=
 ∀(a:List (Addr×Obj))(s:Shared)(b:St)(H:Hp)(Q:Option Int->Hp->Prop),Inv X a b H s->t b H Q -> wpAny (model X.prog X.w) X.A (evalPart e X.env) (λu s' =>∃o c,Inv X a b c s' /\IsPart u o/\Q o c) X.xe s
noncomputable def Aq:TO:=λ_ H Q=>Q none H
noncomputable def Gn(t:TE):TO:=λσ H Q=>t σ H λx H1=>∃i,x=.int i/\Q (some i) H1
theorem intsAre_of:∀{us:List Value},aN (a.map V.int) us->IntsAre us a:=by
 induction a with
 |nil=>intro us r;rw[KO]at r;cases r;exact .nil|cons n a b =>
  intro us r;rw[JR]at r;cases r with
  |cons c d =>obtain⟨t,e⟩:=c;subst e;exact .cons n t (b d)
section
variable{X:Cx}{e:Expr}{te:TE}{lo hi:Option Expr}{tl th:TO}{pos p2:Pos}
theorem BJ:PO X none Aq:=by intro a s b H Q I h;rw[evalPart_none];exact Ja ⟨none,H,I,.none,h⟩
theorem BI(h:PE X e te):PO X (some e) (Gn te):=by intro a s b H Q I f;rw[evalPart_some];refine ak (h a s b H _ I f) λu s1 hpq=> ?_;obtain⟨x,j,d,g,c⟩:=hpq;obtain⟨i,rfl,q⟩:=c;obtain⟨t,rfl⟩:=g;exact⟨some i,j,d,.int i t,q⟩
noncomputable def GX(X:Cx)(r:V->Option Int->Option Int->Hp->VK->Prop):Prop :=
 ∀(a:List (Addr×Obj))(s:Shared)(h:St)(H:Hp)(x:V)(v b g:Value)(c d:Option Int)(f:Addr)(Q:VK),Inv X a h H s->RelV x v->s.heap.IsSliceOf f b g .none->IsPart b c->IsPart g d->r x c d H Q -> ∃T i,typeLookup (.type T) "__getitem__"=pure (some (.builtin i))/\s.TypeIs v T/\wpAny (model X.prog X.w) X.A (getItem v (.ref f)) (EP X a h Q) X.xe s
noncomputable def tSl(r:V->Option Int->Option Int->Hp->VK->Prop)(b:TE)(a c:TO):TE:=λσ H Q=>b σ H λx H1=>a σ H1 λl H2=>c σ H2 λu H3=>r x l u H3 Q
theorem yC(p:GX X r)(t:PE X e te)(o:PO X lo tl)(y:PO X hi th):PE X (.Subscript e (.Slice lo hi none p2) pos) (tSl r te tl th):=by intro a s b H Q I h;refine Subscript_ (ak (t a s b H _ I h) λv s1 hpq=> ?_);obtain⟨x,C,B,m,z⟩:=hpq;refine wpAny_Slice (ak (o a s1 b C _ B z) λvl s2 ⟨l,H2,I2,pl,q2⟩=>ak (y a s2 b H2 _ I2 q2) λvu s3 hpq=> ?_);obtain⟨u,c,k,i,g⟩:=hpq;rw[evalPart_none];refine Ja ?_;have n:Inv X a b c {s3 with heap:=s3.heap.push {cls:=.type "slice",data:=.fields #[vl,vu,.none]}}:=k.kept (t' :=s3.toks) λb ob q=>JG _ q;obtain⟨T,D,f,d,j⟩:=p a {s3 with heap:=s3.heap.push {cls:=.type "slice",data:=.fields #[vl,vu,.none]}} b c x v vl vu l u s3.heap.objs.size Q n m (Heap.IsSliceOf.new ..) pl i g;show wpAny (model X.prog X.w) X.A (subscriptTail e (.Slice lo hi none p2) v (.ref s3.heap.objs.size)) (EP X a b Q) X.xe {s3 with heap:=s3.heap.push {cls:=.type "slice",data:=.fields #[vl,vu,.none]}};exact tail_any (ops:=[.ref s3.heap.objs.size,v]) d f j (by with_unfolding_all rfl)
noncomputable def qL(a:List V)(b c:Option Int):List V:=(a.drop (HT.bi a.length 0 b)).take (HT.bi a.length a.length c-HT.bi a.length 0 b)
theorem ja(a:List V)(b c:Option Int):(qL a b c).length<=a.length:=by unfold qL;rw[J6,LU];omega
noncomputable def rSlT(K:W.Frag):V->Option Int->Option Int->Hp->VK->Prop:=λx lo hi H Q=>∃a b,x=.ref a/\cA K H a b /\ ¬(HT.bi b.length 0 lo=0/\HT.bi b.length b.length hi=b.length)/\∀p,H p=none->Q (.ref p) (upd H p (.tup (qL b lo hi)))
theorem Dp:GX X (rSlT X.K):=by
 intro j s w H x v y A d f z Q I l u p n h;obtain⟨a,c,rfl,t,m,q⟩:=h;cases l;obtain⟨g,r,i,k⟩:=I.tuple t;have b:g.toArray.size=c.length:=by rw[JO];exact r.length.symm
 refine⟨"tuple",_,KQ.lookup,i.typeIs,?_⟩;refine HT.iC i u p n (by rw[b];exact m) ?_ (by rw[b];exact k);rw[b];refine⟨.ref s.heap.objs.size,_,I.laid (t' :=s.toks) (o:=.tup (qL c d f)) (λb ob q=>JG _ q) (JH _) ?_,rfl,q _ (I.hok.fresh (JH _))⟩;exact⟨Jw (ja c d f) k,_,(r.drop (HT.bi c.length 0 d)).take (HT.bi c.length c.length f-HT.bi c.length 0 d),ed.new _ _⟩
noncomputable def rLtT(K:W.Frag):R2:=λx y H Q=>∃a b d c,x=.ref a/\y=.ref b/\cA K H a (d.map V.int)/\cA K H b (c.map V.int)/\Q (.bl (HT.lexLt d c)) H
theorem yK(n:X.A.units<cLine):d7 X (compareOp .Lt) (rLtT X.K):=by intro f s B H x y v u Q I j l h;obtain⟨a,b,i,g,rfl,rfl,p,z,q⟩:=h;cases j;cases l;obtain⟨d,w,k,_⟩:=I.tuple p;obtain⟨c,r,m,_⟩:=I.tuple z;have t:IntsAre d.toArray.toList i:=intsAre_of w;have o:IntsAre c.toArray.toList g:=intsAre_of r;exact HT.rY k m t o n ⟨.bl (HT.lexLt i g),H,I,rfl,q⟩
noncomputable def HI(K:W.Frag):R2:=λx y H Q=>∃a b d c,x=.ref a/\y=.ref b/\cA K H a d/\cA K H b c/\d≠[]/\d.length+c.length<=sizeLine /\ (c=[]->Q (.ref a) H)/\(c≠[]->∀p,H p=none->Q (.ref p) (upd H p (.tup (d++c))))
theorem aN.nil_iff(r:aN a us):us=[]↔a=[]:=by
 cases r with
 |nil=>simp|cons _ _=>simp
theorem BS:d7 X (binaryOp .Add) (HI X.K):=by intro g s E H x y v u Q I j m h;obtain⟨a,b,t,l,rfl,rfl,r,D,C,i,B,A⟩:=h;cases j;cases m;obtain⟨p,d,k,_⟩:=I.tuple r;obtain⟨f,c,n,_⟩:=I.tuple D;refine HT.CZ k n (λz=>C (d.nil_iff.mp z)) (λz=>⟨.ref a,H,I,rfl,B (c.nil_iff.mp z)⟩) (λz=> ?_) (by rw[<- d.length,<-c.length];exact i);refine⟨.ref s.heap.objs.size,_,I.laid (t' :=s.toks) (o:=.tup (t++l)) (λb ob q=>JG _ q) (JH _) ?_,rfl,A (λw=>z (c.nil_iff.mpr w)) _ (I.hok.fresh (JH _))⟩;exact⟨by rw[JM];exact i,_,d.append c,ed.new _ _⟩
end
noncomputable def lN(n:Nat)(i:Int):Option Nat:=if 0<=i then(if i<n then some i.toNat else none)else if -(n:Int)<=i then some (i+n).toNat else none
noncomputable def eo{a:Type}(b:List a)(i:Int):Option a:=(lN b.length i).bind λj=>b[j]?
theorem uE(h:lN n i=some j):seqIndex? i n=some j/\j<n/\ -(n:Int)<=i/\i<n:=by
 unfold lN at h
 by_cases b:0<=i
 ·rw[JI b]at h
  by_cases a:i<n
  ·rw[JI a]at h
   have e:i.toNat=j:=Jb h;exact⟨by rw[seqIndex_of b a,e],by omega,by omega,a⟩
  ·rw[JE a]at h;cases h
 ·rw[JE b]at h
  by_cases a: -(n:Int)<=i
  ·rw[JI a]at h
   have e:(i+n).toNat=j:=Jb h;exact⟨by rw[seqIndex_neg (by omega) a,e],by omega,a,by omega⟩
  ·rw[JE a]at h;cases h
theorem jy{b:Type}{a:List b}{i:Int}{v:b}(h:eo a i=some v):∃j,seqIndex? i a.length=some j/\a[j]? =some v/\j<a.length/\ -(a.length:Int)<=i/\i<a.length:=by
 unfold eo at h;cases e:lN a.length i with
 |none=>rw[e]at h;cases h|some j =>rw[e]at h;obtain⟨d,f,c,g⟩:=uE e;exact⟨j,d,h,f,c,g⟩
theorem cH{a:Type}{xs:List a}{j:Nat}{v:a}(h:xs[j]? =some v):eo xs (j:Int)=some v:=by
 have b:j<xs.length:=(JK.mp h).1;have e:lN xs.length (j:Int)=some j:=by unfold lN;rw[JI (by omega),JI (by omega)];simp
 unfold eo;rw[e];exact h
noncomputable def ug(b:Expr):Prop:=∀o i,subscripted b false o i=operate [o,i] (getItem o i)
noncomputable def Ix(X:Cx)(r:R2):Prop :=
 ∀(c a:Expr)(b:List (Addr×Obj))(s:Shared)(d:St)(H:Hp)(x y:V)(v u:Value)(Q:VK),Inv X b d H s->RelV x v->RelV y u->r x y H Q -> subscripted a false v u=operate [v,u] (getItem v u)->wpAny (model X.prog X.w) X.A (subscriptTail c a v u) (EP X b d Q) X.xe s
noncomputable def MtR(X:Cx)(d:String)(r:V->List V->Hp->VK->Prop):Prop :=
 ∀(a:List (Addr×Obj))(s:Shared)(c:St)(H:Hp)(x:V)(b:List V)(v:Value)(us:List Value)(Q:VK),Inv X a c H s->RelV x v->aN b us->r x b H Q -> wpAny (model X.prog X.w) X.A (call (.builtin d) (v::us)) (EP X a c Q) X.xe s
section
variable{X:Cx}{a b:Expr}{ta tb:TE}{pos:Pos}
theorem yE(e:Ix X r)(f:PE X a ta)(d:PE X b tb)(g:ug b):PE X (.Subscript a b pos) (tOp r ta tb):=by intro c s i H Q I h;exact Subscript_ (Fw f d I h λv u s2 x y H2 I2 rx ry q=>e a b c s2 i H2 x y v u Q I2 rx ry q (g _ _))
noncomputable def HF(K:W.Frag):R2:=λx y H Q=>∃p c i v,x=.ref p/\y=.int i/\bJ K H p c/\eo c i=some v/\Q v H
noncomputable def rIxT(K:W.Frag):R2:=λx y H Q=>∃p c i v,x=.ref p/\y=.int i/\cA K H p c/\eo c i=some v/\Q v H
noncomputable def rIxS:R2:=λx y H Q=>∃z i c,x=.str z/\y=.int i/\z.length<=sizeLine/\eo z.cps.toList i=some c/\Q (.str ⟨#[c]⟩) H
theorem hE:Ix X (HF X.K):=by
 intro k n c s o H x y v u Q I D G h C;obtain⟨p,S,i,z,rfl,rfl,L,N,q⟩:=h;cases D;obtain⟨t,rfl⟩:=G;obtain⟨m,r,l,O⟩:=I.list L;obtain⟨j,e,E,P,J,F⟩:=jy N;obtain⟨w,B,g⟩:=r.get E;have M:=r.length;have R:=fF;have d:EP X c o Q w s:=⟨z,H,I,g,q⟩
 by_cases A:0<=i
 ·have f:i.toNat=j:=by
   rw[seqIndex_of A F]at e;exact Jb e
  exact item_listR l.isList A (by omega) (by rw[f];simpa using B) d C
 ·have f:(i+(m.toArray.size:Int)).toNat=j:=by
   rw[seqIndex_neg (by omega) J]at e;rw[JO,<-M];exact Jb e
  exact subscriptTail_builtinR (x:=w) l.isList.typeIs slot_list_getitem.lookup
   (wpAny_getItem_list_neg (Q:=λr s' =>r=w/\EP X c o Q r s') l.isList (by omega) (by rw[JO]<;>omega) (by omega) (by rw[f];simpa using B) ⟨rfl,d⟩) C
theorem yq:Ix X (rIxT X.K):=by
 intro f g c s k H x y v u Q I m o h G;obtain⟨p,P,i,z,rfl,rfl,A,E,q⟩:=h;cases m;obtain⟨t,rfl⟩:=o;obtain⟨D,r,l,L⟩:=I.tuple A;obtain⟨j,B,n,N,M,J⟩:=jy E;obtain⟨w,F,e⟩:=r.get n;have C:=r.length;have O:=fF;have d:EP X c k Q w s:=⟨z,H,I,e,q⟩
 exact subscriptTail_builtinR (x:=w) l.typeIs slot_tuple_getitem.lookup
  (getItem_tuple (j:=j) (Q:=λr s' =>r=w/\EP X c k Q r s') l (by omega) (by omega) (by rw[JO,<-C];exact B) (by simpa using F) ⟨rfl,d⟩) G
theorem Eu:Ix X rIxS:=by
 intro d e f s C H x y v u Q I l p h B;obtain⟨z,i,c,rfl,rfl,E,w,q⟩:=h;obtain⟨t,rfl⟩:=l;obtain⟨D,rfl⟩:=p;obtain⟨j,g,m,F,o,n⟩:=jy w;have r:z.cps.toList.length=z.length:=by simp[Str.length]
 rw[r]at g o n;have G:=fF
 exact tail_any (typeIs_str s z t) slot_str_getitem.lookup (getItem_str (c:=c) (by have k:decide (i< -(2^63:Int))=false:=J2 (by omega);have A:decide (i ≥ 2^63)=false:=J2 (by omega);rw[k,A,Bool.or_false]) (by rw[g];simpa using m) ⟨.str ⟨#[c]⟩,H,I.tok _,⟨_,rfl⟩,q⟩) B
theorem rX(c:List Value)(n j:Nat)(u:Value):Obj.mapSeq (·.setIfInBounds j u) {cls:=.type "list",data:=.seq c.toArray n}={cls:=.type "list",data:=.seq (c.set j u).toArray n}:=by simp[Obj.mapSeq]
theorem Inv.lst{d:List (Addr×Obj)}{g:St}{H:Hp}{s:Shared}{p:Addr}{f:List V}(I:Inv X d g H s)(h:H p=some (.lst f)) :
  ∃(c:List Value)(n:Nat),aN f c/\s.heap.get? p=some {cls:=.type "list",data:=.seq c.toArray n}/\f.length<=sizeLine:=by
 obtain⟨z,c,n,r,e⟩:=I.hok p _ h;exact⟨c,n,r,e,z⟩
theorem Inv.lstUpd{s:Shared}{i:List V}{g c:List Value}(I:Inv X d k H s)(h:H p=some (.lst v))
  (m:s.heap.get? p=some {cls:=.type "list",data:=.seq g.toArray n}) (l:f {cls:=.type "list",data:=.seq g.toArray n}={cls:=.type "list",data:=.seq c.toArray j}) (r:aN i c) (o:i.length<=sizeLine) (t:Nat) :
  Inv X d k (upd H p (.lst i)) {s with heap:=s.heap.update p f,toks:=t}:=by
 have e:(s.heap.update p f).get? p=some {cls:=.type "list",data:=.seq c.toArray j}:=by rw[Heap.get?_update_self f m (by rw[l]<;>rfl),l]
 refine I.write (x:=p) (e:=p) (by rw[h];trivial) (.inl rfl) (λb u hb q=>(MG _ _ (L1 hb)).trans q) ⟨_,e⟩ ?_;exact⟨o,c,j,r,e⟩
noncomputable def HC:V->V->V->Hp->(Hp->Prop)->Prop:=λo i v H Q=>∃p c k j,o=.ref p/\i=.int k/\H p=some (.lst c)/\lN c.length k=some j/\Q (upd H p (.lst (c.set j v)))
theorem kC:GG X HC:=by
 intro c s D H o i v M L u Q I F A C h;obtain⟨p,G,k,j,rfl,rfl,z,B,q⟩:=h;cases F;obtain⟨t,rfl⟩:=A;obtain⟨d,n,r,f,E⟩:=I.lst z;obtain⟨e,J,w,m⟩:=uE B;have g:=r.length;have K:=fF
 have y :Inv X c D (upd H p (.lst (G.set j v))) {s with heap:=s.heap.update p (Obj.mapSeq (·.setIfInBounds j u))} :=
  I.lstUpd z f (rX d n j u) (r.set C j) (by rw[KI];exact E) s.toks
 by_cases x:0<=k
 ·have l:k.toNat=j:=by
   rw[seqIndex_of x m]at e;exact Jb e
  exact W.ki_setAt f x (by omega) (by rw[JO,<-g];exact m) (by rw[l];exact⟨_,y,q⟩)
 ·have l:(k+(d.toArray.size:Int)).toNat=j:=by
   rw[seqIndex_neg (by omega) w]at e;rw[JO,<-g];exact Jb e
  exact W.ki_setBack f (by omega) (by rw[JO,<-g];exact w) (by omega) (by rw[l];exact⟨_,y,q⟩)
theorem me(c d:Option Int)(n:Nat):(sliceBounds c d none n).1=((HT.bi n 0 c:Nat):Int)/\(sliceBounds c d none n).2.1=((HT.bi n n d:Nat):Int)/\(sliceBounds c d none n).2.2=1:=by
 refine⟨?_,?_,rfl⟩
 ·cases c with
  |none=>simp[sliceBounds,HT.bi]|some i =>
   simp only[sliceBounds,HT.bi,Option.getD_none,show(1:Int)>0 by decide,LX]
   by_cases h:i<0;simp only[h,LX]<;>omega;simp only[h,Ly]<;>omega
 ·cases d with
  |none=>simp[sliceBounds,HT.bi]|some i =>
   simp only[sliceBounds,HT.bi,Option.getD_none,show(1:Int)>0 by decide,LX]
   by_cases h:i<0;simp only[h,LX]<;>omega;simp only[h,Ly]<;>omega
theorem lS(c:List Value)(d e:Option Int):slicePick c.toArray d e none=((c.drop (HT.bi c.length 0 d)).take (HT.bi c.length c.length e-HT.bi c.length 0 d)).toArray:=by obtain⟨g,h,f⟩:=me d e c.toArray.size;unfold slicePick;rw[g,h,f];simp only[sliceRange_one,pick_run,JO]<;>rfl
noncomputable def rSlL(K:W.Frag):V->Option Int->Option Int->Hp->VK->Prop:=λx lo hi H Q=>∃a c,x=.ref a/\bJ K H a c/\∀p,H p=none->Q (.ref p) (upd H p (.lst (qL c lo hi)))
theorem Av:GX X (rSlL X.K):=by intro i s u H x v w z e f y Q I j t m k h;obtain⟨a,c,rfl,p,q⟩:=h;cases j;obtain⟨n,r,g,l⟩:=I.list p;have d:=r.length;refine⟨"list",_,slot_list_getitem.lookup,g.isList.typeIs,?_⟩;refine wpAny_getItem_list_slice g.isList t m k .none (by simp) ?_ (by rw[JO]<;>omega);rw[lS,<-d];refine⟨.ref s.heap.objs.size,_,I.laid (t' :=s.toks) (o:=.lst (qL c e f)) (λb ob q=>JG _ q) (JH _) ?_,rfl,q _ (I.hok.fresh (JH _))⟩;exact⟨Jw (ja c e f) l,_,0,(r.drop (HT.bi c.length 0 e)).take (HT.bi c.length c.length f-HT.bi c.length 0 e),Jc _ rfl⟩
noncomputable def gC:V->Bool
 | .non=>true| .bl _=>true| .int _=>true| .str _=>true|_=>false
noncomputable def wV:V->V->Bool
 | .non,.non=>true| .bl a,.bl b=>a==b| .bl a,.int b=>(if a then 1 else 0)==b| .int a,.bl b=>a==(if b then 1 else 0)| .int a,.int b=>a==b| .str a,.str b=>a==b|_,_=>false
theorem FW(f:RelV y u)(c:RelV x v)(g:gC y=true)(e:gC x=true):SeqAt.EqAt A s u v (wV y x):=by
 cases y with
 |non =>
  cases f;cases x with
  |non=>cases c;exact SeqAt.EqAt.same _|bl b=>cases c;exact SeqAt.EqAt.none_bool b|int b=>obtain⟨t,rfl⟩:=c;exact SeqAt.EqAt.none_int b t
  |str b=>obtain⟨t,rfl⟩:=c;exact SeqAt.EqAt.none_str b t
  |_=>exact absurd (show false=true from e) JS
 |bl a =>
  cases f;cases x with
  |non=>cases c;exact SeqAt.EqAt.bool_none a|bl b=>cases c;exact SeqAt.EqAt.bool_bool a b|int b=>obtain⟨t,rfl⟩:=c;exact SeqAt.EqAt.bool_int a b t
  |str b=>obtain⟨t,rfl⟩:=c;exact SeqAt.EqAt.bool_str a b t
  |_=>exact absurd (show false=true from e) JS
 |int a =>
  obtain⟨d,rfl⟩:=f;cases x with
  |non=>cases c;exact SeqAt.EqAt.int_none a d|bl b=>cases c;exact SeqAt.EqAt.int_bool a d b|int b=>obtain⟨t,rfl⟩:=c;exact SeqAt.EqAt.int_int a d b t
  |str b=>obtain⟨t,rfl⟩:=c;exact SeqAt.EqAt.int_str a d b t
  |_=>exact absurd (show false=true from e) JS
 |str a =>
  obtain⟨d,rfl⟩:=f;cases x with
  |non=>cases c;exact SeqAt.EqAt.str_none a d|bl b=>cases c;exact SeqAt.EqAt.str_bool a d b|int b=>obtain⟨t,rfl⟩:=c;exact SeqAt.EqAt.str_int a d b t
  |str b=>obtain⟨t,rfl⟩:=c;exact SeqAt.EqAt.str_str a d b t
  |_=>exact absurd (show false=true from e) JS
 |_=>exact absurd (show false=true from g) JS
noncomputable def CK(x:V)(u:Value):Bool:=match u with
 | .none=>wV .non x| .bool b=>wV (.bl b) x| .int i _=>wV (.int i) x| .str z _=>wV (.str z) x|_=>false
theorem zM(r:RelV y u)(f:gC y=true):CK x u=wV y x:=by
 cases y with
 |non=>cases r;rfl|bl b=>cases r;rfl|int i=>obtain⟨t,rfl⟩:=r;rfl
 |str z=>obtain⟨t,rfl⟩:=r;rfl
 |_=>exact absurd (show false=true from f) JS
theorem nl{x:V}:∀{c:List V}{us:List Value},aN c us->c.all gC=true->us.any (CK x)=c.any λy=>wV y x
 |_,_,.nil,_=>rfl|y::c,u::us,.cons r t,f=>by rw[LL,JJ]at f;rw[L0,L0,zM r f.1,nl t f.2]
theorem kT{A:Around}{s:Shared}{x:V}{v:Value}(e:RelV x v)(g:gC x=true):∀{d:List V}{us:List Value},aN d us->d.all gC=true->∀u∈us,SeqAt.EqAt A s u v (CK x u)
 |_,_,.nil,_=>λu c=>by cases c|y::d,u::us,.cons r t,f=>λu' c=>by
  rw[LL,JJ]at f
  rcases JU.mp c with rfl|c
  ·rw[zM r f.1];exact FW r e f.1 g
  ·exact kT e g t f.2 u' c
noncomputable def inV(x:V)(c:List V):Bool:=c.any λy=>wV y x
noncomputable def rIn(K:W.Frag)(neg:Bool):R2:=λx y H Q=>∃p c,y=.ref p/\(bJ K H p c\/cA K H p c)/\gC x=true/\c.all gC=true/\Q (.bl (if neg then !inV x c else inV x c)) H
theorem l6:d7 X (compareOp .In) (rIn X.K false):=by
 intro i s m H x y v u Q I g l h;obtain⟨p,n,rfl,d,j,e,q⟩:=h;cases l
 rcases d with d|d
 ·obtain⟨c,r,f,k⟩:=I.list d
  refine SeqAt.in_listAt (CK x) f.isList (λw hw=>kT g j r e w (by simpa using hw)) ⟨.bl _,H,I,rfl,?_⟩;rw[show c.toArray.any (CK x)=c.any (CK x)by simp,nl r e];exact q
 ·obtain⟨c,r,f,k⟩:=I.tuple d
  refine SeqAt.in_tupleAt (CK x) f (λw hw=>kT g j r e w (by simpa using hw)) ⟨.bl _,H,I,rfl,?_⟩;rw[show c.toArray.any (CK x)=c.any (CK x)by simp,nl r e];exact q
theorem iL:ba X (.builtin "len") (λxs H Q=>∃p ys,xs=[.ref p]/\(bJ X.K H p ys\/cA X.K H p ys)/\Q (.int ys.length) H):=by
 intro pins s σ H xs us Q I r h;obtain⟨p,ys,rfl,hq,q⟩:=h;obtain⟨u,rfl,rx⟩:=vals1 r;cases rx;have hn:=fF
 rcases hq with hq|hq
 ·obtain⟨its,r',pl,hz⟩:=I.list hq
  have hlen:=r'.length;exact Calls.call_len_list pl.isList (by simp only[JO]<;>omega) ⟨.int ys.length,H,I.tok _,⟨s.toks+1,by rw[JO,hlen]⟩,q⟩
 ·obtain⟨its,r',pl,hz⟩:=I.tuple hq
  have hlen:=r'.length;exact len_tuple pl (by simp only[JO]<;>omega) ⟨.int ys.length,H,I.tok _,⟨s.toks+1,by rw[JO,hlen]⟩,q⟩
theorem nZ:ba X (.builtin "len") (λxs H Q=>∃z,xs=[.str z]/\z.length<=sizeLine/\Q (.int z.length) H):=by intro pins s σ H xs us Q I r h;obtain⟨z,rfl,hz,q⟩:=h;obtain⟨u,rfl,t,rfl⟩:=vals1 r;have hn:=fF;exact len_str (by omega) ⟨.int z.length,H,I.tok _,⟨_,rfl⟩,q⟩
theorem nY:ba X (.type "list") (λxs H Q=>∃p ys,xs=[.ref p]/\(bJ X.K H p ys\/cA X.K H p ys)/\∀l,H l=none->Q (.ref l) (upd H l (.lst ys))):=by
 intro pins s σ H xs us Q I r h;obtain⟨p,ys,rfl,hq,q⟩:=h;obtain⟨u,rfl,rx⟩:=vals1 r;cases rx
 have fin:∀(its:List Value),aN ys its->ys.length<=sizeLine->∀(h' :Heap)(c' :Nat),(∀b o',s.heap.get? b=some o' ->h'.get? b=some o') -> h'.get? s.heap.objs.size=some {cls:=.type "list",dict:=none,data:=.seq its.toArray c',slots:= #[]}->EP X pins σ Q (.ref s.heap.objs.size) {s with heap:=h'}:=λits r' hz h' c' kp e =>⟨.ref s.heap.objs.size,_,I.laid (t' :=s.toks) kp (JH _) (show am X.prog X.w _ h' _ (.lst ys)from⟨hz,its,c',r',e⟩),rfl,q _ (I.hok.fresh (JH _))⟩
 rcases hq with hq|hq
 ·obtain⟨its,r',pl,hz⟩:=I.list hq
  have hlen:=r'.length;obtain⟨o,ho,hc,n,hd⟩:=pl.isList;exact call_list_seq p (.inl rfl) ho hc hd (λh' c' kp e=>fin its r' hz h' c' kp e) (by simp only[JO]<;>omega)
 ·obtain⟨its,r',pl,hz⟩:=I.tuple hq
  have hlen:=r'.length;obtain⟨o,ho,hc,n,hd⟩:=pl;exact call_list_seq p (.inr rfl) ho hc hd (λh' c' kp e=>fin its r' hz h' c' kp e) (by simp only[JO]<;>omega)
theorem lg:ba X (.type "tuple") (λxs H Q=>∃p ys,xs=[.ref p]/\((bJ X.K H p ys/\∀l,H l=none->Q (.ref l) (upd H l (.tup ys)))\/(cA X.K H p ys/\Q (.ref p) H))):=by
 intro pins s σ H xs us Q I r h;obtain⟨p,ys,rfl,h⟩:=h;obtain⟨u,rfl,rx⟩:=vals1 r;cases rx
 rcases h with⟨hq,q⟩|⟨hq,q⟩
 ·obtain⟨its,r',pl,hz⟩:=I.list hq
  have hlen:=r'.length;refine call_tuple_list pl.isList (λh' kp=> ?_) (by simp only[JO]<;>omega);have I1:Inv X pins σ H {s with heap:=h'}:=I.kept (t' :=s.toks) kp
  have I2:Inv X pins σ (upd H h'.objs.size (.tup ys)) {s with heap:=h'.push {cls:=.type "tuple",data:=.seq its.toArray}} :=
   I1.laid (t' :=s.toks) (λb o e=>JG _ e) (JH _) (show am X.prog X.w _ _ _ (.tup ys)from⟨hz,its,r',ed.new _ _⟩)
  exact⟨.ref h'.objs.size,_,I2,rfl,q _ (I1.hok.fresh (JH _))⟩
 ·obtain⟨its,r',pl,hz⟩:=I.tuple hq
  exact call_tuple_same pl ⟨.ref p,H,I,rfl,q⟩
noncomputable def tyV(K:W.Frag)(T:String)(x:V)(H:Hp):Prop:=match x with
 | .str _=>T="str"| .int _=>T="int"| .ref p=>(T="list"/\∃d,bJ K H p d)\/(T="tuple"/\∃d,cA K H p d) \/ (T="dict"/\((∃c,H p=some (.dK c))\/∃c,H p=some (.dT c)))\/(T="set"/\∃S n,H p=some (.set S n))|_=>False
theorem wo(I:Inv X g w H s)(r:RelV x v)(j:tyV X.K T x H) :
  s.TypeIs v T/\∀a,v=.ref a->∃u,s.heap.get? a=some u/\u.dict=none:=by
 cases x with
 |str z =>obtain⟨t,rfl⟩:=r;cases(show T="str" from j);exact⟨typeIs_str s z t,λ_ e=>nomatch e⟩
 |int i =>obtain⟨t,rfl⟩:=r;cases(show T="int" from j);exact⟨typeIs_int s i t,λ_ e=>nomatch e⟩
 |ref p =>
  cases r
  rcases j with⟨rfl,B,k⟩|⟨rfl,B,k⟩|⟨rfl,f⟩|⟨rfl,S,n,f⟩
  ·obtain⟨A,_,q,_⟩:=I.list k
   refine⟨q.isList.typeIs,λa e=> ?_⟩;cases e;obtain⟨o,n,e,c,y,_⟩:=q;exact⟨o,e,y⟩
  ·obtain⟨o,m,h,C⟩:=I.tupleD k
   refine⟨⟨o,m,h⟩,λa e=> ?_⟩;cases e;exact⟨o,m,C⟩
  ·have z:∃o,s.heap.get? p=some o/\o.ExactDict:=by
    rcases f with⟨l,f⟩|⟨l,f⟩
    ·obtain⟨_,_,_,_,o,_,_,e,d,_⟩:=I.hok p _ f
     exact⟨o,e,d⟩
    ·obtain⟨_,_,_,_,o,_,_,e,d,_⟩:=I.hok p _ f
     exact⟨o,e,d⟩
   obtain⟨o,e,d⟩:=z;refine⟨⟨o,e,d.1⟩,λa h=> ?_⟩;cases h;exact⟨o,e,d.2.1⟩
  ·obtain⟨o,_,_,_,e,d,_⟩:=I.hok p _ f
   refine⟨⟨o,e,d.1⟩,λa h=> ?_⟩;cases h;exact⟨o,e,d.2.1⟩
 |_=>exact False.elim j
noncomputable def tBM0(K:W.Frag)(T:String)(r:V->List V->Hp->VK->Prop)(c:TE):TE:=λσ H Q=>c σ H λx H1=>tyV K T x H1/\r x [] H1 Q
noncomputable def tBM(K:W.Frag)(T:String)(r:V->List V->Hp->VK->Prop)(c:TE)(t:TA):TE:=λσ H Q=>c σ H λx H1=>tyV K T x H1/\t σ H1 λxs H2=>r x xs H2 Q
variable{o e:Expr}{es:List Expr}{to:TE}{t:TA}{name:Str}{apos cpos:Pos}{T id:String}{r:V->List V->Hp->VK->Prop}
theorem EM(n:PlainAttrs T)(g:Slot T name id)(i:typeOf (.builtin id)=pure (.type "method_descriptor"))(z:MtR X id r)(q:PE X o to)
  (d:attributeBase o name X.env (eval o X.env)=eval o X.env:=by rfl) (f:(apos.endLine==cpos.line)=true:=by rfl):PE X (.Call (.Attribute o name apos) [] [] cpos) (tBM0 X.K T r to):=by
 intro c s j H Q I h;refine wpAny_Call_method0_late d f (ak (q c s j H _ I h) λv s1 hpq=> ?_);obtain⟨x,y,l,k,m,w⟩:=hpq;obtain⟨u,p⟩:=wo l k m;exact⟨T,id,n,g,i,u,p,MH rfl (PySem.evalArgs_none (z c s1 j y x [] v [] Q l k .nil w))⟩
theorem tm(u:PlainAttrs T)(i:Slot T name id)(l:typeOf (.builtin id)=pure (.type "method_descriptor"))(E:MtR X id r)(y:PE X o to)(A:PA X (e::es) t)
  (f:attributeBase o name X.env (eval o X.env)=eval o X.env:=by rfl)
  (j:((backTo cpos (starEach (e::es) X.env)).all (λx=> !x.1)&&(backToKw cpos (keywordEach [] X.env)).all (λx=>x.1.isSome) && decide ((e::es).length+([]:List Keyword).length+(if([]:List Keyword).isEmpty then 0 else 1)<30))=true:=by rfl)
  (g:(apos.endLine==cpos.line)=true:=by rfl) (D:starEach (e::es) X.env=(false,eval e X.env)::starEach es X.env:=by rfl) (d:(backTo cpos (starEach es X.env)).any (·.1)=false:=by rfl) :
  PE X (.Call (.Attribute o name apos) (e::es) [] cpos) (tBM X.K T r to t):=by
 intro c s k H Q I h;refine wpAny_Call_method_late f j g rfl (ak (y c s k H _ I h) λv s1 hpq=> ?_);obtain⟨x,B,n,p,q,C⟩:=hpq;obtain⟨z,w⟩:=wo n p q;refine⟨T,id,u,i,l,z,w,?_⟩;have m:=A cpos c s1 k B _ n C;rw[D]at m ⊢;refine MH (by show(false||(backTo cpos (starEach es X.env)).any (·.1))=false;rw[d]<;>rfl) (Calls.evalArgs_plain ?_);exact ak m λus s2 ⟨vs,H2,I2,r2,q2⟩=>E c s2 k H2 x vs v us Q I2 p r2 q2
end
noncomputable def MtM(X:Cx)(d:String)(r:V->List V->Hp->VK->Prop):Prop :=
 ∀(a:List (Addr×Obj))(s:Shared)(c:St)(H:Hp)(x:V)(b:List V)(v:Value)(us:List Value)(Q:VK),Inv X a c H s->RelV x v->aN b us->r x b H Q -> wpAny (model X.prog X.w) X.A (call (.builtin d) (v::us)) (EP X a c Q) X.xe s
theorem aN.one(h:aN [x] us):∃u,us=[u]/\RelV x u:=vals1 h
theorem aN.two(h:aN [x,y] us):∃u v,us=[u,v]/\RelV x u/\RelV y v:=vals2 h
theorem aN.zero:∀{us:List Value},aN [] us->us=[]
 |_,.nil=>rfl
theorem aN.reverse(h:aN a us):aN a.reverse us.reverse:=by
 induction h with
 |nil=>exact .nil|cons r t b=>rw[List.reverse_cons,List.reverse_cons];exact aN.append b (.cons r .nil)
theorem aN.rep{a:List V}{us:List Value}(h:aN a us):∀k:Nat,aN (List.replicate k a).flatten (List.replicate k us).flatten
 |0=>.nil|k+1=>by rw[KC,KC,Jp,Jp];exact aN.append h (aN.rep h k)
theorem foldl_rep(b:List Value):∀(k:Nat)(a:List Value),List.foldl (λx1 x2=>x1++x2) a.toArray (List.replicate k b.toArray)=(a++(List.replicate k b).flatten).toArray
 |0,a=>by simp|k+1,a=>by
  have e:a.toArray++b.toArray=(a++b).toArray:=by simp
  have c:(a++b)++(List.replicate k b).flatten=a++(List.replicate (k+1) b).flatten:=by rw[KC,Jp,Jm]
  rw[<- c,<-foldl_rep b k (a++b),<-e,KC,LB]
section
variable{X:Cx}{pins:List (Addr×Obj)}{σ:St}{H:Hp}{s:Shared}{l b:Addr}{xs ys zs:List V}
theorem Inv.lset{a its':List Value}(I:Inv X pins σ H s)(g:H l=some (.lst xs))
  (e:s.heap.get? l=some {cls:=.type "list",data:=.seq a.toArray n}) (h:f a.toArray=its'.toArray) (c:aN ys its') (i:ys.length<=sizeLine) :
  Inv X pins σ (upd H l (.lst ys)) {s with heap:=s.heap.update l (Obj.mapSeq f),toks:=d}:=by
 have q:=PySem.IsL.update e f;rw[h]at q;refine I.write (x:=l) (e:=l) (by rw[g];exact trivial) (.inl rfl) (λb' u hb hu=>(MG s.heap (Obj.mapSeq f) (L1 hb)).trans hu) ⟨_,q⟩ ?_;exact⟨i,its',_,c,q⟩
theorem Inv.lnew(I:Inv X pins σ H s)(c:aN ys a)(d:ys.length<=sizeLine) :
  Inv X pins σ (upd H s.heap.objs.size (.lst ys)) {s with heap:=s.heap.push {cls:=.type "list",data:=.seq a.toArray},toks:=t'} :=
 I.laid (λ_ _ q=>JG _ q) (JH _) ⟨d,a,0,c,Jc _ rfl⟩
theorem Inv.fresh(I:Inv X pins σ H s):H s.heap.objs.size=none:=I.hok.fresh (JH _)
theorem Inv.lstM(I:Inv X pins σ H s)(c:H l=some (.lst xs)):xs.length<=sizeLine/\∃(a:List Value)(n:Nat),aN xs a/\xs.length=a.length/\s.heap.get? l=some {cls:=.type "list",data:=.seq a.toArray n}:=by obtain⟨z,a,n,r,e⟩:=I.hok l _ c;exact⟨z,a,n,r,r.length,e⟩
theorem pJ(h:n<=sizeLine):Builtin.List.listTooLong n=false:=by unfold Builtin.List.listTooLong;exact J2 (by omega)
end
section
variable{X:Cx}
noncomputable def A9:V->List V->Hp->VK->Prop:=λx vs H Q=>∃l a y,x=.ref l/\vs=[y]/\H l=some (.lst a)/\a.length<sizeLine/\Q .non (upd H l (.lst (a++[y])))
theorem l7:MtM X "list.append" A9:=by intro c s j H x i v us Q I d f h;obtain⟨l,o,y,rfl,rfl,b,k,q⟩:=h;cases d;obtain⟨u,rfl,g⟩:=f.one;obtain⟨z,a,n,r,m,e⟩:=I.lstM b;refine ML F.slot_list_append ⟨_,e,rfl⟩ F.entry_list_append (F.args_list_append_2 _ _) (PySem.list_append l a.toArray n u (by rw[JO];omega)) ⟨e,?_⟩;refine⟨.non,_,I.lset (its' :=a++[u]) b e (by simp) (r.append (.cons g .nil)) ?_,rfl,q⟩;rw[JM,List.length_singleton];omega
noncomputable def rCat:R2:=λx y H Q=>∃l b c a,x=.ref l/\y=.ref b/\H l=some (.lst c)/\H b=some (.lst a)/\c.length+a.length<=sizeLine/\∀p,H p=none->Q (.ref p) (upd H p (.lst (c++a)))
theorem EY:d7 X (binaryOp .Add) rCat:=by
 intro d s A H x y v u Q I f j h;obtain⟨l,b,E,t,rfl,rfl,g,i,C,q⟩:=h;cases f;cases j;obtain⟨z,c,n,r,D,e⟩:=I.lstM g;obtain⟨w,a,B,o,k,m⟩:=I.lstM i;refine PySem.P.add_list e m ?_ (by rw[JO,JO];omega);have p:c.toArray++a.toArray=(c++a).toArray:=by simp
 rw[p];exact⟨.ref _,_,I.lnew (t' :=s.toks) (r.append o) (by rw[JM];omega),rfl,q _ I.fresh⟩
noncomputable def rRep:R2:=λx y H Q=>∃l k a,x=.ref l/\y=.int k/\H l=some (.lst a)/\ -(2^63)<=k/\k<2^63/\a.length*k.toNat<=sizeLine /\ ∀p,H p=none->Q (.ref p) (upd H p (.lst (List.replicate k.toNat a).flatten))
theorem Bv{b:Type}(a:List b)(k:Nat):(List.replicate k a).flatten.length=k*a.length:=by
 induction k with
 |zero=>simp|succ k c=>rw[KC,Jp,JM,c,Nat.succ_mul,Nat.add_comm]
theorem EQ:d7 X (binaryOp .Mult) rRep:=by
 intro pins s σ H x y v u Q I rx ry h;obtain⟨l,k,xs,rfl,rfl,hH,h1,h2,hz,q⟩:=h;cases rx;obtain⟨t,rfl⟩:=ry;obtain⟨z,its,n,r,hl,e⟩:=I.lstM hH;have hlen:its.toArray.size*k.toNat<=sizeLine:=by rw[JO,<-hl];exact hz
 have hcap:¬its.toArray.size*k.toNat>(2^63-1)/8:=by
  have:(sizeLine:Nat)<=(2^63-1)/8:=by decide
  omega
 have hfit:¬(!Builtin.List.listFitsIndex k)=true:=by rw[fitsIndex_both h1 h2];exact JS
 have hlong:¬Builtin.List.listTooLong (its.toArray.size*k.toNat)=true:=by rw[pJ hlen];exact JS
 have hnew:List.foldl (λx1 x2=>x1++x2) #[] (List.replicate (if its.toArray.isEmpty=true then 0 else k.toNat) its.toArray)=(List.replicate k.toNat its).flatten.toArray:=by
  have f0:∀m:Nat,List.foldl (λx1 x2=>x1++x2) #[] (List.replicate m its.toArray)=(List.replicate m its).flatten.toArray:=λm=>by have:=foldl_rep its m [];rw[Lf]at this;exact this
  rw[f0];cases its with
  |nil=>simp|cons a r' =>rw[JE (by simp)]
 refine wpAny_binaryOp_repeat_ref (T:="list") (U:="int") (by decide) ⟨_,e,rfl⟩ (λs' =>typeIs_int s' k t) noFill_list_mul F.fills_int_mul F.slot_int_rmul repeat_list F.slot_int_index.lookup
  (ML F.slot_int_rmul (typeIs_int s k t) F.entry_int_rmul (F.args_int_rmul_2 _ _) (int___rmul___int_list k t l its.toArray n) ⟨e,rfl,⟨_,e,rfl⟩,ML F.slot_list_mul ⟨_,e,rfl⟩ F.entry_list_mul (F.args_list_mul_2 _ _) (AutoListH.list___mul___list_int_3 l its.toArray n k t hfit hcap hlong) ⟨e,?_⟩⟩)
 rw[hnew];exact⟨.ref _,_,I.lnew (t' :=s.toks) (r.rep k.toNat) (by rw[Bv,Nat.mul_comm];exact hz),rfl,q _ I.fresh⟩
end
end L2
namespace Att
open PySem PySem.W PySem.Calls PyProof.Rows
theorem jg{P:Params}{h:Heap}:∀(ns:List Int)(vs:List Value),WellAll P h vs (ns.map WData.int)->IntsAre vs ns:=by
 intro ns
 induction ns with
 | nil =>
  intro vs w;rw[KO]at w;cases w;exact .nil
 | cons n ns ih =>
  intro vs w;rw[JR]at w;cases w with
  | cons a b =>
   cases a;exact .cons _ _ (ih _ b)
theorem vF{l:OpenLaw}{n:Nat}(hn:l.most=some n){P:Params}{h:Heap}{args:List WData}{vals:List Value}
  (hpre:l.row.toRowW.claim.pre args=true) (hwl:WellAll P h vals args) :
  ∃a vs ns,vals=[Value.ref a]/\args=[WData.list (ns.map WData.int)]/\h.get? a=some {cls:=.type "list",data:=.seq vs.toArray}/\IntsAre vs ns/\ns.length<=n:=by
 have hsh:WShape.hasAll [] args [.list .int]=true:=(pre_splitW hpre).1;have hc:l.pre.holds [] {args:=args}=true:=(pre_splitW hpre).2;obtain⟨d,r,rfl,h1,h2⟩:=hasAllW_cons hsh;obtain rfl:=hasAllW_nil h2;obtain⟨xs,rfl,h3⟩:=hasW_list h1;obtain⟨ns,rfl⟩:=items_int h3;have hlen:ns.length<=n:=by
  unfold OpenLaw.pre at hc;have h4:(WTm.not (.lt (.lit (.int (n:Int))) (.len (.arg 0)))).holds [] {args:=[.list (ns.map .int)]}=true:=by
   have h4:=(holds_andW hc).1;rw[hn]at h4;exact h4
  have h5:=condW_of h4 (w_not (w_lt w_lit (w_len_list (w_arg rfl))));rw[JC]at h5;refine Nat.le_of_not_lt fun q=> ?_;have q' :(n:Int)<((ns.length:Nat):Int):=by omega
  first
   | (rw[K2 q']at h5;exact absurd h5 (by decide))
   | (simp at h5;omega)
 cases hwl with
 | cons w1 w2 =>
  cases w2;cases w1 with
  | list ho hall=>exact⟨_,_,ns,rfl,rfl,ho,jg ns _ hall,hlen⟩
theorem vK(l:OpenLaw)(args:List WData):l.row.toRowW.claim.post args (.bool true) args=true :=
 postW_of (r:=l.row.toRowW) (X:=(true==true))
  (show WShape.has [] (.bool true) .bool=true by first|rfl|decide|simp[WShape.has,WShape.arms,WShape.armsAll])
  (show(WTm.eq .res (.lit (.bool true))).value [] {args:=args,res:=some (.bool true),after:=args}=some (.bool (true==true))from w_eq_bool (w_res rfl) w_lit) rfl
theorem qY{l:OpenLaw}{d:DefRec}
  (Q:l.most=some n) (A:d.params.defaults=[])
  (s:∀(w:World)(e b:Shared)(t x:Str->Option Value)(m:Addr)(o:Obj)(z u g:Value)(a:Addr)(i:List Value)(v:List Int),Ground q c [] D w e t x b.heap->H w b.heap -> b.heap.get? m=some o->o.data=.func (docDef d.name d.params d.body d.scope z u g)->b.heap.CodeRec u d.name->t d.name=some (.ref m) -> b.heap.get? a=some {cls:=.type "list",data:=.seq i.toArray}->IntsAre i v->v.length<=n->b.gens= #[] -> codeAny (model l.prog w) callerA (.call (.ref m) ⟨[.ref a],[]⟩) (λr s' =>r=.ok (.ret (.bool true))/\OldK b.heap s'.heap/\s'.os=b.os/\AllBare s'.gens) b) :
  WalkO q c D H l.row.toRowW d [] (λf i=>PySem.call f i):=by
 intro w e b t x G Y m o z u g R T M L y I B N args E U p F S C J;obtain rfl:R=.none:=Dflts.none I A;obtain rfl:T=.none:=Dflts.noKw I;obtain⟨a,i,v,rfl,rfl,k,h,j⟩:=vF Q p C;refine enter_call (codeAny_mono (s w e b t x m o z u g a i v G Y M (fd_plain L) y B k h j N) λr s' hq=> ?_);obtain⟨rfl,K,P,O⟩:=hq;exact⟨.inl ⟨.bool true,.bool true,[],rfl,λ_=>rfl,.bool true,vK l _,λ_=>⟨List.Pairwise.nil,λ_ hm=>(nomatch hm)⟩⟩,K,P,O⟩
end Att
namespace L2
open PySem PySem.Spec PyProof.Rows
theorem um(h:IntsAre b a):aN (a.map V.int) b:=by
 induction h with
 |nil=>exact .nil|cons n t h c=>exact .cons ⟨t,rfl⟩ c
noncomputable def GH(H:Hp):Prop:=∀b,H b=none\/∃o a,H b=some (.frz o (.lst a))
theorem yk{K:W.Frag}{c:Shared}{t:List Value}{N:List Int}
  (KX:K.In c.heap) (J:c.heap.Ns mainGlobals E) (g:c.heap.Ns builtinsNs S) (R:∀x:Str,x≠"__name__"->S x=bootBuiltins x) (I:c.heap.NoLimit) (hg:c.gens= #[])
  (O:c.heap.get? a=some {cls:=.type "list",data:=.seq t.toArray}) (hi:IntsAre t N) (hl:N.length<=sizeLine) (hr:fo k callerA)
  (F:∀i:Heap,K.In i->i.Ns mainGlobals E->dZ P w K E i CX k X fd [x] sp) (y:∀(s:Shared)(u:Value),BindsTo s fd ⟨[u],[]⟩ [(x,u)])
  (Q:∀H:Hp,GH H->bJ K H a (N.map V.int)->sp [.ref a] H (λv _=>v=.bl true) λ_ _ _=>False)
  (Y:∀H e j,CX [] H c (λ_ _ _=>False) e j ->False) :
  codeAny (model P w) callerA (.call (.ref X) ⟨[.ref a],[]⟩) (λr j =>r=.ok (.ret (.bool true))/\OldK c.heap j.heap/\j.os=c.os/\AllBare j.gens) c:=by
 have rv:=um hi;have Hn:=hi.length
 have p:∀H:Hp,GH H->bJ K H a (N.map V.int)->fR P w H c.heap->(∀b,H b≠none->b=a)->(H a≠none->K.lookup a=none) -> codeAny (model P w) callerA (.call (.ref X) ⟨[.ref a],[]⟩) (λr j =>r=.ok (.ret (.bool true))/\OldK c.heap j.heap/\j.os=c.os/\AllBare j.gens) c:=by
  intro H hO hS D hA hK;have f:∀{b:Addr}{o:Obj},c.heap.get? b=some o->H b=none->(nM c.heap H).get? b=some o:=λe n=>yw e n;have T:∀{b:Addr}{o:Obj}{A:Array DictEntry}{L:Nat},c.heap.get? b=some o->o.data=.dict A L->H b=none:=λ{b o A L} e d=>by
   cases q:H b with
   |none=>rfl|some u =>have U :b=a:=hA b (by rw[q];simp);subst U;rw[O]at e;cases e;have d' :Data.seq t.toArray _=Data.dict A L:=d;cases d'
  have l:∀{b:Addr}{m:Str->Option Value},c.heap.Ns b m->(nM c.heap H).Ns b m:=λ{b m} ⟨o,A,L,e,d,r⟩=>⟨o,A,L,f e (T e d),d,r⟩
  have C:K.In (nM c.heap H):=λb o e=>f (KX b o e) (by
   cases q:H b with
   |none=>rfl|some u =>have U :b=a:=hA b (by rw[q];simp);subst U;rw[hK (by rw[q];simp)]at e;cases e)
  have hM:Mod K E (nM c.heap H):=⟨C,l J,⟨S,l g,R⟩,let⟨mc,h1,h2⟩:=I;⟨mc,l h1,h2⟩⟩;have e0:Cz P w K E (nM c.heap H) callerA [] c H:=⟨rfl,hM,λb o e=>Ba e,Nat.le_of_eq (vg _ _),trivial,λb g=>absurd (show b∈([]:List Addr)from g) (by simp),D,.of_eq hg⟩;refine codeAny_mono ((F _ C (l J)).run callerA [] c H ⟨[.ref a],[]⟩ [.ref a] [.ref a] _ _ hr e0 (y c (.ref a)) (.cons rfl .nil) (Q H hO hS)) λr j h=> ?_;cases r with
  |error e=>exact(Y H e j h).elim|ok fl =>
   cases fl with
   |next=>exact False.elim h|brk=>exact False.elim h|cont=>exact False.elim h|ret u =>
    obtain⟨v,H',os,G,un,B,r',q⟩:=h;have q' :v=.bl true:=q;subst q';obtain rfl:u=Value.bool true:=r';refine⟨rfl,OldK.of_keep λb o e=> ?_,os,G⟩;cases q:H b with
    |none=>exact un.keep b o e q (by intro z;exact absurd (show b∈([]:List Addr)from z) (by simp)) (by simp)|some u =>
     rcases hO b with z|⟨ob,xs,z⟩
     ·rw[q]at z;cases z
     ·have z2:=un.frzs b ob _ z
      obtain⟨e1,_⟩:=D b _ z;obtain⟨e2,_⟩:=B b _ z2;rw[e]at e1;cases e1;exact e2
 cases Z:K.lookup a with
 |some o =>have e:=KX a o Z;rw[O]at e;cases e;refine p (λ_=>none) (λ_=>.inl rfl) (.inr ⟨_,t.toArray,_,Z,rfl,rfl,rfl,by rw[JO,Hn];exact hl,by simpa using rv⟩) (λb u z=>by have M :(none:Option HO)=some u:=z;cases M) (λb z=>absurd rfl z) λz=>absurd rfl z
 |none =>
  refine p (λb=>if b=a then some (.frz {cls:=.type "list",data:=.seq t.toArray} (.lst (N.map V.int)))else none) (λb=> ?_) (.inl (.inr ⟨{cls:=.type "list",data:=.seq t.toArray},JI rfl⟩)) (λb u z=> ?_) (λb z=> ?_) λ_=>Z
  ·by_cases g:b=a
   ·exact .inr ⟨_,_,JI g⟩
   ·exact .inl (JE g)
  ·by_cases g:b=a
   ·have M :=(JI g).symm.trans z
    cases M;subst g;exact⟨O,by rw[JC];exact hl,t,_,rv,O⟩
   ·have M :=(JE g).symm.trans z
    cases M
  ·by_cases g:b=a
   ·exact g
   ·exact absurd (JE g) z
theorem Ah{l:W.OpenLaw}{n k:Nat}{q:Program}{i:List Str}{I:(Str->Option Value)->Heap->Prop}{D:World->Heap->Prop}{d:DefRec}{K:Params->W.Frag}{CX:World->wY}{sp:World->Sp}{x:Str}
  (M:l.most=some n) (A:n<=sizeLine) (t:d.params.defaults=[]) (L:fo k callerA)
  (E:∀(w:World)(h:Heap),D w h->(K w.params).In h)
  (F:∀(w:World)(j:Str->Option Value)(m:Addr)(h:Heap),(K w.params).In h->h.Ns mainGlobals j->j d.name=some (.ref m) -> ∃y:FuncData,(∀(s:Shared)(u:Value),BindsTo s y ⟨[u],[]⟩ [(x,u)]) /\ ∀c:Heap,(K w.params).In c->c.Ns mainGlobals j->dZ l.prog w (K w.params) j c (CX w) k m y [x] (sp w))
  (r:∀(w:World)(H:Hp)(a:Addr)(p:List Int),p.length<=n->GH H->bJ (K w.params) H a (p.map V.int)->sp w [.ref a] H (λv _=>v=.bl true) λ_ _ _=>False)
  (B:∀(w:World)(H:Hp)(s:Shared)(e:Value)(z :Shared),CX w [] H s (λ_ _ _=>False) e z ->False) :
  W.WalkO q i I D l.row.toRowW d [] (λf vs=>PySem.call f vs):=by
 refine Att.qY M t λw s₀ s₁ j mb m o pm cd doc a vs p G Y ho hd hcd hmg hobj hints hlen hg=> ?_;have C:=E w _ Y;obtain⟨y,N,J⟩:=F w j m _ C G.T.g hmg;exact yk C G.T.g G.T.b G.T.builtins G.T.nolimit hg hobj hints (Jw hlen A) L J N (λH hO hS=>r w H a p hlen hO hS) λH e z =>B w H s₁ e z
noncomputable def cW(s:Stmt):Arguments:=match s with
 | .FunctionDef _ a _ _ _ _ _ _ _ _=>a|_=>{posonlyargs:=[],args:=[],vararg:=none,kwonlyargs:=[],kw_defaults:=[],kwarg:=none,defaults:=[]}
noncomputable def bM(s:Stmt):List Stmt:=match s with
 | .FunctionDef _ _ b _ _ _ _ _ _ _=>b|_=>[]
noncomputable def aR(s:Stmt):Scope:=match s with
 | .FunctionDef _ _ _ _ _ _ a _ _ _=>a|_=>{kind:=.function,names:=[],isGenerator:=false,isCoroutine:=false}
noncomputable abbrev n6:wY:=λ_ _ _ _ _ _=>False
noncomputable abbrev E0:XK:=λ_ _ _=>False
theorem HU:si n6 X E0:=λ_ _ _ _ _ _ _ h=>h.elim
structure GZ(K:W.Frag)(x qual:Str)(st:Stmt)(f:Addr)(fd:FuncData):Prop where
 ex:∃(oc:Value)(od:Option Addr)(kV doc pm:Value)(an:Option Addr)(cdv ct:Value)(osl:Array (Option Value)),
  fd=W.fnOf x qual (cW st) (bM st) (aR st) .none kV doc pm an cdv ct/\K.lookup f=some ⟨oc,od,.func fd,osl⟩/\W.codeIn K cdv qual=true
 kp:W.keepIn K (.ref f)=true
section
variable{P:Program}{w:World}{K:W.Frag}{mg:Str->Option Value}{base:Heap}
theorem GZ.ok(F:GZ K x qual e f m)(S:ee N g (aR e))(i:∀c H Q E,l c H Q E->c.length=g.length)
  (d:∀(b:Value)(A:Around)(a:List Env)(s:Shared)(H:Hp)(c:List V)(Q:VK)(E:XK),fo k (A.deeper (envOfC qual (aR e) s.heap.objs.size f b))->l c H Q E -> ∃t,sj (qK n6 P w K mg base N qual (aR e) f b A a s H E).nox (bM e) t/\t {nx:=λ_ H' =>Q .non H',rt:=Q} (start N c) H):dZ P w K mg base n6 (k+1) f m g l:=by
 obtain⟨v,y,z,n,u,r,b,ct,o,rfl,p,j⟩:=F.ex;refine ID p j S i λA a s H c Q E hr hsp=> ?_;obtain⟨t,h,q⟩:=d b A a s H c Q E hr hsp;exact⟨t,h.nox,q⟩
theorem GZ.binds(F:GZ K x qual c f j)
  (h:∀(i a g:Value)(e:Option Addr)(b ct:Value)(us:List Value),us.length=d.length->bindArgs (W.fnOf x qual (cW c) (bM c) (aR c) .none i a g e b ct) ⟨us,[]⟩=pure (d.zip us)):Binds K j d []:=by
 obtain⟨n,o,i,a,g,e,b,ct,k,rfl,m,l⟩:=F.ex;exact .all (h i a g e b ct)
theorem zB(l:K.lookup f=some ⟨j,m,.func (W.fnOf x qual (cW b) (bM b) (aR b) .none g d i h a ct),e⟩)
  (c:W.codeIn K a qual=true) (k:W.keepIn K (.ref f)=true):GZ K x qual b f (W.fnOf x qual (cW b) (bM b) (aR b) .none g d i h a ct):=⟨⟨j,m,g,d,i,h,a,ct,e,rfl,l,c⟩,k⟩
end
theorem Hv(a:fo k A):A.units+1<cLine:=MN (Nat.add_le_add_left (by decide:1<=64) _) a.units
section
variable{X:Cx}
theorem pv(i:Nat)(c:X.N[i]? =some x:=by rfl)(b:Iq X.env.scope x:=by first|exact Or.inl rfl|exact Or.inr (Or.inl rfl)|exact Or.inr (Or.inr rfl))(d:(x==("__debug__":Str))=false:=by decide)
  (a:(x==("__classdict__":Str))=false:=by decide):PE X (.Name x pos) (Gj i):=eP c b d a
end
theorem rj{A B:Prop}(h:B):if false=true then A else B:=by rw[JE JS];exact h
theorem rh{A B:Prop}(h:A):if true=true then A else B:=by rw[JI rfl];exact h
theorem ite2{c A B:Prop}[Decidable c](a:c->A)(b:¬c->B):if c then A else B:=by
 by_cases h:c
 ·rw[JI h]
  exact a h
 ·rw[JE h]
  exact b h
noncomputable def aB(H a :Hp):Prop:=∀b o,H b=some o->a b=some o
theorem aB.refl(H:Hp):aB H H:=λ_ _ h=>h
theorem aB.trans(a:aB H e)(b:aB e d):aB H d:=λc o h=>b c o (a c o h)
theorem aB.free(e:aB H a)(h:a l=Option.none):H l=Option.none:=by
 cases q:H l with
 |none=>rfl|some o =>rw[e l o q]at h;cases h
theorem aB.seq{K:W.Frag}(e:aB H c)(h:bJ K H a b):bJ K c a b:=by
 rcases h with(h|⟨o,h⟩)|h
 ·exact .inl (.inl (e _ _ h))
 ·exact .inl (.inr ⟨o,e _ _ h⟩)
 ·exact .inr h
end L2
set_option maxHeartbeats 4000000
namespace UM
open PySem PySem.Builtin PySem.Builtin.Str
theorem jo{x:Str}(h:x.cps.toList=y.cps.toList):x=y:=PySem.Str.ext' (Array.toList_inj.mp h)
structure JA(m:Nat)(rows:List Str):Prop where
 some:rows≠[]
 few:rows.length<=m
 wide:∃k,1<=k/\k<=m/\∀r∈rows,r.length=k
 signs:∀r∈rows,∀c∈r.cps.toList,c=120\/c=46
end UM
namespace L2
open PySem PySem.Spec PyProof.Rows
noncomputable def iK(a:Env):List (Str×NameKind)->List (Str×Addr)->List (Str×Addr)
 |[],acc=>acc|(n,k)::r,acc=>if(k==NameKind.free)=true then iK a r ((n,(a.cells.lookup n).getD 0)::acc)else iK a r acc
theorem jP(h:(k==NameKind.free)=true) :
  iK a ((n,k)::r) b=iK a r ((n,(a.cells.lookup n).getD 0)::b):=by
 show(if(k==NameKind.free)=true then _ else _)=_;rw[JI h]
theorem gP(h:¬(k==NameKind.free)=true) :
  iK a ((n,k)::r) b=iK a r b:=by
 show(if(k==NameKind.free)=true then _ else _)=_;rw[JE h]
theorem qO(h:a.cells.lookup n=some c):cellOf a n=pure c:=by unfold cellOf;rw[h]
theorem sN(h:∀x∈scope.names,x.2=.free->∃c,b.cells.lookup x.1=some c):closureFor scope b=pure (iK b scope.names []):=by
 unfold closureFor
 suffices q:∀(l:List (Str×NameKind))(d:List (Str×Addr)),(∀x∈l,x.2=.free->∃c,b.cells.lookup x.1=some c) -> (forIn l d (λ(x:Str×NameKind) (r:List (Str×Addr))=>if(x.2==NameKind.free)=true then(do let a<-cellOf b x.1;pure (ForInStep.yield ((x.1,a)::r)))else pure (ForInStep.yield r)):Sem (List (Str×Addr)))=pure (iK b l d)by
  exact(J1 (λm=>m >>= pure) (q scope.names [] h)).trans (by rfl)
 intro l
 induction l with
 |nil=>intro d _;rfl|cons x l j =>
  intro d g;obtain⟨n,k⟩:=x;rw[List.forIn_cons]
  by_cases f:(k==NameKind.free)=true
  ·obtain⟨c,i⟩:=g (n,k) JL (by simpa using f)
   rw[jP f];simp only[f,LX];rw[qO i];have e:(b.cells.lookup n).getD 0=c:=by rw[show b.cells.lookup n=some c from i];rfl
   rw[e];exact j _ λy hy=>g y (JF _ hy)
  ·rw[gP f]
   simp only[f,Ly];exact j _ λy hy=>g y (JF _ hy)
theorem eM{a:Env}:∀{l:List (Str×NameKind)}{b:List (Str×Addr)}{x:Str}{c:Addr},(∀y∈l,y.2=.free->∃c,a.cells.lookup y.1=some c) -> (iK a l b).lookup x=some c->b.lookup x=some c\/a.cells.lookup x=some c
 |[],b,x,c,_,h=>.inl h|(n,k)::l,b,x,c,hl,h=>by
  have e :∀y∈l,y.2=.free->∃c,a.cells.lookup y.1=some c:=λy hy=>hl y (JF _ hy)
  by_cases i:(k==NameKind.free)=true
  ·rw[jP i]at h
   rcases eM e h with q|q
   ·rw[J5]at q
    cases f:(x==n)with
    |true =>
     rw[f]at q;have j:x=n:=by simpa using f
     subst j;obtain⟨m,g⟩:=hl (x,k) JL (by simpa using i);have d:a.cells.lookup x=some m :=g;rw[d]at q
     right
     rw[d]
     simpa using q
    |false =>rw[f]at q;exact .inl q
   ·exact .inr q
  ·rw[gP i]at h
   exact eM e h
theorem iJ{env:Env}:∀{l:List (Str×NameKind)}{acc:List (Str×Addr)}{x:Str},((x,NameKind.free)∈l\/∃c,acc.lookup x=some c)->∃c,(iK env l acc).lookup x=some c
 |[],acc,x,h=>by
  rcases h with h|h
  ·cases h
  ·exact h
 |(n,k)::l,acc,x,h=>by
  by_cases a:(k==NameKind.free)=true
  ·rw[jP a]
   refine iJ ?_
   rcases h with h|⟨c,h⟩
   ·rcases JU.mp h with e|e
    ·right
     injection e with e1 e2
     subst e1;exact⟨(env.cells.lookup x).getD 0,by rw[J5];simp⟩
    ·exact .inl e
   ·right
    rw[J5];cases b:(x==n)with
    |true=>exact⟨_,rfl⟩|false=>exact⟨c,h⟩
  ·rw[gP a]
   refine iJ ?_
   rcases h with h|h
   ·rcases JU.mp h with e|e
    ·injection e with e1 e2
     subst e2;exact absurd rfl a
    ·exact .inl e
   ·exact .inr h
section
variable{prog:Program}{w:World}{A:Around}{R:Result->Shared->Prop}{s:Shared}
theorem nX(I:Nat->Shared->Prop)
  (j:∀n s,I n s->wpAny (model prog w) A (pyNext k) (λr s₁=>match r with
   |none=>R (.ok .next) s₁|some v=>wpAny (model prog w) A (letOwnedTupleGo b k v) (λ_ s₁' =>wpAny (model prog w) A (assign b a v) (λ_ s₂ =>
     wpAny (model prog w) A (forIn f true λc r=>if r=true then do let ok<-isTrue c a (eval c a);pure (ForInStep.yield ok)else pure (ForInStep.yield r)) (λok s₃ =>
      if ok=true then wpAny (model prog w) A (eval i a) (λx s₄ =>
       wpAny (model prog w) A (call (.builtin "list.append") [g,x]) (λ_ s₅=>∃m,m<n/\I m s₅) (notedBy (model prog w) A a λe s' =>R (.error e) s') s₄) (notedBy (model prog w) A a λe s' =>R (.error e) s') s₃ else∃m,m<n/\I m s₃) (notedBy (model prog w) A a λe s' =>R (.error e) s') s₂) (notedBy (model prog w) A a λe s' =>R (.error e) s') s₁')
       (notedBy (model prog w) A a λe s' =>R (.error e) s') s₁) (notedBy (model prog w) A a λe s' =>R (.error e) s') s)
  (n:Nat) (h:I n s) :
  codeAny (model prog w) A (.compLoop (.ListComp i [⟨b,d,f,0⟩] scope pos) 0 k g a) R s:=by
 refine codeAny_loop rfl I (λn s hI=> ?_) n h;show wpAny _ A ((compTurn (.ListComp i [⟨b,d,f,0⟩] scope pos) 0 k g a).onRaise (λx=>do noteFrame x a;theTreesLotGoes x)) _ _ s;refine wpAny_noted ?_;rw[compTurn_list];refine JD (wpAny_standAt (JD (K0 (j n s hI) (λr s₁ h₁=> ?_) λ_ _ h' =>h')));cases r with
 |none=>exact Ja h₁|some v =>
  refine JD (K0 h₁ (λ_ s₁' h₁' => ?_) λ_ _ h' =>h');refine JD (K0 h₁' (λ_ s₂ h₂=>JD (K0 h₂ (λok s₃ h₃=> ?_) λ_ _ h' =>h')) λ_ _ h' =>h');cases ok with
  |false=>exact Ja ⟨rfl,h₃⟩|true =>exact JD (JD (K0 h₃ (λx s₄ h₄=>JD (K0 h₄ (λ_ s₅ h₅=>Ja (Ja ⟨rfl,h₅⟩)) λ_ _ h' =>h')) λ_ _ h' =>h'))
end
noncomputable abbrev bG(X:Cx)(b :List Str)(scope:Scope)(C:Addr)(c:Shared)(d:Hp)(e:List Addr)(a:List (Str×Addr)):Cx where
 prog:=X.prog
 w:=X.w
 K:=X.K
 mg:=X.mg
 base:=X.base
 A:=X.A
 N:=b
 s₀:=c
 H₀:=d
 env:=compEnvC scope a C X.env
 outer:=X.stack
 stack:=X.stack
 ex:=e
 fn:=λx=>scope.names.lookup x==some .cell
 calm:=X.calm
 pn:=[]
 xe:=λ_ _=>False
noncomputable def bY(X:Cx)(scope:Scope):List Str->List (Option Nat)->Prop
 |[],[]=>True|_::ns,none::r=>bY X scope ns r|x::ns,some i::r=>(X.N[i]? =some x/\scope.names.lookup x=some .free/\(X.env.scope.names.lookup x=some .cell\/X.env.scope.names.lookup x=some .free))/\bY X scope ns r|_,_=>False
noncomputable def bX(a:List (Option Nat))(b:St):St:=a.map λo=>match o with
 |none=>none|some i=>(b[i]?).join
theorem bY.len{X:Cx}{scope:Scope}:∀{b :List Str}{a:List (Option Nat)},bY X scope b a->a.length=b.length
 |[],[],_=>rfl|_::_,none::_,h=>J1 (·+1) (bY.len (show bY X scope _ _ from h))|_::_,some _::_,h=>J1 (·+1) (bY.len h.2)|[],_::_,h=>by cases h|_::_,[],h=>by cases h
theorem bY.at{X:Cx}{scope:Scope}{a:St}:∀{N' :List Str}{src:List (Option Nat)}{j:Nat}{x:Str}{v:V},bY X scope N' src->N'[j]? =some x->(bX src a)[j]? =some (some v) -> ∃i:Nat,X.N[i]? =some x/\a[i]? =some (some v)/\scope.names.lookup x=some .free/\(X.env.scope.names.lookup x=some .cell\/X.env.scope.names.lookup x=some .free)
 |[],[],j,x,v,_,h,_=>by simp at h|y::ns,none::r,0,x,v,_,_,h=>by simp[bX]at h|y::ns,none::r,j+1,x,v,s,h,h' =>bY.at (N' :=ns) (src:=r) (j:=j) s (by simpa using h) (by simpa [bX]using h')|y::ns,some i::r,0,x,v,s,h,h' =>by
  have e:y=x:=by simpa using h
  subst e;have q:(a[i]?).join=some v:=by simpa [bX]using h'
  refine⟨i,s.1.1,?_,s.1.2.1,s.1.2.2⟩;cases z:a[i]? with
  |none=>rw[z]at q;cases q|some o=>rw[z]at q;exact J1 some q
 |y::ns,some i::r,j+1,x,v,s,h,h' =>bY.at (N' :=ns) (src:=r) (j:=j) s.2 (by simpa using h) (by simpa [bX]using h')|[],_::_,_,_,_,s,_,_=>by cases s|_::_,[],_,_,_,s,_,_=>by cases s
noncomputable def wD(X:Cx)(b:List Expr)(t:TT):Prop :=
 ∀(a:List (Addr×Obj))(s:Shared)(d:St)(H:Hp)(Q:Bool->Hp->Prop),Inv X a d H s->t d H Q -> wpAny (model X.prog X.w) X.A (forIn b true λc r=>if r=true then do let ok<-isTrue c X.env (eval c X.env);pure (ForInStep.yield ok)else pure (ForInStep.yield r)) (TP X a d Q) X.xe s
noncomputable def wy:TT:=λ_ H Q=>Q true H
theorem gq:wD X [] wy:=λ_ _ _ H _ I h=>wpAny_tests_nil ⟨H,I,h⟩
theorem pG(h:PT X c t):wD X [c] t:=λpins s σ H Q I hw=>wpAny_tests_one (h pins s σ H Q I hw)
noncomputable def GK(X:Cx)(e :List Str)(c:List (Option Nat))(scope:Scope)(a:Expr)(f:List Expr)(k:Expr)(D:Addr)(p:St)(x:V)(d:List V)(q :Hp)(N:List V->Hp->Prop):Prop :=
 ∀(C:Addr)(l:Shared)(m:Hp)(i:List Addr)(h:List (Str×Addr)),∃(g:TG)(n:TT)(o:TE),PG (bG X e scope C l m i h) a g/\wD (bG X e scope C l m i h) f n/\PE (bG X e scope C l m i h) k o /\ g x (bX c p) q λσ2 H3=>(σ2.length=e.length/\∀(j:Nat)(v:V),(bX c p)[j]? =some (some v)->σ2[j]? =some (some v)) /\ n σ2 H3 λb H4=>if b=true then o σ2 H4 λv H5=>H5 D=some (.lst d)/\d.length<sizeLine/\N (d++[v]) (upd H5 D (.lst (d++[v])))else N d H4
noncomputable def C9(X:Cx)(j :List Str)(d:List (Option Nat))(scope:Scope)(a:Expr)(b:List Expr)(c:Expr)(h:TI):TE:=λσ H Q=>h σ H λJ H1=>∀D,H1 D=none -> ∃W:Nat->Nat->List V->Hp->Prop,(∃m,W 0 m [] (upd H1 D (.lst [])))/\∀i m f H,W i m f H -> (J.stop i H/\Q (.ref D) H)\/(J.go i H/\∀x e,J.yld i H x e ->GK X j d scope a b c D σ x f e λys' H'' =>∃g,g <m/\W (i+1) g ys' H'')
section
variable{X:Cx}{pins:List (Addr×Obj)}{σ:St}{H:Hp}{s:Shared}
structure wG(X:Cx)(scope:Scope)(C:Addr)(cl:List (Str×Addr)):Prop where
 ex:∃own,cl=own++iK X.env scope.names []/\(∀n c,(n,c)∈own->C<c/\scope.names.lookup n=some .cell)/\(∀x,(x,NameKind.cell)∈scope.names->∃c,own.lookup x=some c)/\own.Pairwise fun x y=>x.2≠y.2
theorem wG.sub(k:wG X scope C d)(a:∀y∈scope.names,y.2=.free->∃c,X.env.cells.lookup y.1=some c)(e:d.lookup x=some c) :
  (C<c/\scope.names.lookup x=some .cell)\/(scope.names.lookup x≠some .cell\/True)/\X.env.cells.lookup x=some c:=by
 obtain⟨b,rfl,f,h,g⟩:=k.ex;rw[K4]at e;cases z:b.lookup x with
 |some i =>rw[z]at e;cases e;exact .inl (f x c (Jx z))
 |none =>
  rw[z]at e
  rcases eM a e with q|q
  ·cases q
  ·exact .inr ⟨.inr trivial,q⟩
theorem CU(I:Inv X pins σ H s)(p:scope.kind=.function)(k:wG X scope C t)
  (j:∀y∈scope.names,y.2=.free->∃c,X.env.cells.lookup y.1=some c) (r:s.heap.objs.size<=C) (J:∀b∈L,jW X pins H b) (v:∀b∈L,b<s.heap.objs.size):(bG X N' scope C s H L t).Ok:=by
 have A:∀x c,X.env.cells.lookup x=some c->c<s.heap.objs.size:=λx c e=>let⟨_,q⟩:=I.cell x c e;q.lt
 obtain⟨g,i,G,Q,U⟩:=k.ex;have d:∀x c,t.lookup x=some c->(x,c)∈g\/X.env.cells.lookup x=some c:=λx c e=>by
  rw[i,K4]at e;cases z:g.lookup x with
  |some O =>rw[z]at e;cases e;exact .inl (Jx z)|none =>
   rw[z]at e
   rcases eM j e with q|q
   ·cases q
   ·exact .inr q
 refine⟨I.ok.mod,p,I.ok.glob,I.ok.blt,r,λx y c e1 e2=> ?_,λx hx=> ?_,λx c h e=> ?_,I.ok.hd,I.ok.frames,.inl rfl,λb hb=>⟨?_,λx c e=> ?_⟩,I.bs,Jw I.ok.bsz I.sz,λb o e hb=> ?_,λb hb hs=> ?_,I.stack,I.stkFree⟩
 ·rcases d x c e1 with E|E<;>rcases d y c e2 with D|D
  ·exact PySem.name_of_addr U E D
  ·exact absurd (LZ (A y c D) (MN r (G x c E).1)) (LJ _)
  ·exact absurd (LZ (A x c E) (MN r (G y c D).1)) (LJ _)
  ·exact I.ok.inj x y c E D
 ·-- a name of the block's that is no local of it is one that it closes over,or has a cell of its g
  have M :(relabel scope X.env).names.lookup x=some .cell\/(relabel scope X.env).names.lookup x=some .free:=hx;have R:∀k,(k=NameKind.cell\/k=NameKind.free)->(relabel scope X.env).names.lookup x=some k->(x,NameKind.free)∈scope.names\/(x,NameKind.cell)∈scope.names:=λk hk e=>by
   have m:=Jx e;obtain⟨⟨n,F⟩,P,S⟩:=JX.mp m
   by_cases B:F =NameKind.free
   ·subst B
    have f :(if(NameKind.free==NameKind.free&&X.env.scope.kind== .function&&X.env.kindOf n==some .cell)=true then(n,NameKind.cell)else(n,NameKind.free))=(x,k):=S;have W:n=x:=by split at f <;>exact(LC f).1
    rw[<- W];exact .inl P
   ·have f :(if(F ==NameKind.free&&X.env.scope.kind== .function&&X.env.kindOf n==some .cell)=true then(n,NameKind.cell)else(n,F))=(x,k):=S
    have K:(F ==NameKind.free)=false:=by simpa using B
    rw[K,MR,MR,JE JS]at f;obtain⟨V,T⟩:=LC f;subst V T
    rcases hk with rfl|rfl
    ·exact .inr P
    ·exact .inl P
  have u:(x,NameKind.free)∈scope.names\/(x,NameKind.cell)∈scope.names->∃c,t.lookup x=some c:=by
   intro z;rw[i]
   rcases z with z|z
   ·obtain⟨c,N⟩:=iJ (env:=X.env) (l:=scope.names) (acc:=[]) (x:=x) (.inl z)
    rw[K4];cases g.lookup x with
    |some O =>exact⟨O,rfl⟩|none=>exact⟨c,N⟩
   ·obtain⟨c,N⟩:=Q x z
    exact⟨c,by rw[K4,N];rfl⟩
  rcases M with e|e
  ·exact u (R _ (.inl rfl) e)
  ·exact u (R _ (.inr rfl) e)
 ·have h:scope.names.lookup x=some .cell:=by simpa using h
  obtain⟨O,w⟩:=Q x (Jx h);have e:t.lookup x=some c:=e;rw[i,K4,w]at e;cases e;exact Jw r (Lq (G x c (Jx w)).1)
 ·exact λe=>absurd (v b hb) (by show¬b<_;rw[e];exact Nat.not_lt.mpr r)
 ·rcases d x c e with q|q
  ·exact λz=>absurd (LZ (v b hb) (MN r (G x c q).1)) (by rw[z];exact LJ _)
  ·exact(J b hb).2.2.2.2.1 x c q
 ·rcases(J b hb).2.2.2.1 with q|q
  ·exact I.ok.noex b o e q
  ·exact absurd (JV e) (Nat.not_lt.mpr (Jw I.ok.bsz q))
 ·rcases JU.mp (I.stkSub b hs)with q|q
  ·exact(J b hb).2.1 q
  ·exact(J b hb).2.2.1 q
theorem cG:∀(names:List (Str×NameKind))(n:Nat)(a b:List (Str×Addr)),cellsFrom n names (a++b)=cellsFrom n names a++b
 |[],_,_,_=>rfl|(x,k)::r,n,a,b=>by
  unfold cellsFrom
  split;exact cG r (n+1) ((x,n)::a) b;exact cG r n a b
theorem dw:∀(names:List (Str×NameKind))(n:Nat)(a:List (Str×Addr))(x:Str)(c:Addr),(x,c)∈cellsFrom n names a->(x,c)∈a\/(x,NameKind.cell)∈names
 |[],_,_,_,_,h=>.inl h|(y,k)::r,n,a,x,c,h=>by
  unfold cellsFrom at h
  split at h
  ·rename_i b
   have b:k=.cell:=by simpa using b
   rcases dw r (n+1) ((y,n)::a) x c h with q|q
   ·rcases JU.mp q with e|e
    ·cases e
     rw[b];exact .inr JL
    ·exact .inl e
   ·exact .inr (JF _ q)
  ·rcases dw r n a x c h with q|q
   ·exact .inl q
   ·exact .inr (JF _ q)
theorem CY(a:∀y∈scope.names,y.2=.cell->scope.names.lookup y.1=some .cell)(h:Heap)(d:h.objs.size=C+1):wG X scope C (cellsFrom (C+1) scope.names (iK X.env scope.names [])):=by
 have b:=cellsFrom_ok scope.names h (C+1) [] ⟨λ_ _ hm=>(nomatch hm),List.Pairwise.nil⟩ (by rw[d];exact JH _);rw[d]at b;refine⟨cellsFrom (C+1) scope.names [],by rw[<- cG];rfl,λn c hm=>⟨(b.empty n c hm).2,?_⟩,λx hx=> ?_,b.apart⟩
 ·rcases dw _ _ _ _ _ hm with q|q
  ·cases q
  ·exact a _ q rfl
 ·have:=W.cellsFrom_some (x:=x) scope.names (C+1) [] (.inl (a _ hx rfl))
  exact Option.isSome_iff_exists.mp this
theorem zO
  (h:Q {scope:=scope,locals:=s.heap.objs.size,globals:=globals,cells:=cellsFrom (s.heap.objs.size+1) scope.names c,qual:=qual,func:=none,code:=a.code,frame:=a.frame,builtins:=a.builtins} {s with heap:=pushCells (s.heap.push {cls:=.type "dict",data:=.dict #[]}) scope.names}) :
  wpAny M A (newFunctionEnv scope globals c [] qual none .none (some a)) Q E s:=by
 simp only[newFunctionEnv,Option.isSome_some,LX];refine JD (wpAny_alloc ?_);refine JD (wpAny_layCells _ (λname kind cells=>by cases b:kind==NameKind.cell<;>simp[b]) _ _ _ _ ?_);rw[show({s with heap:=s.heap.push {cls:=.type "dict",data:=.dict #[]}}:Shared).heap.objs.size=s.heap.objs.size+1 from Heap.size_push ..];rw[List.forIn_nil];exact JD (Ja (Ja h))
end
theorem gj{a:Env}:∀{names:List (Str×NameKind)}{x:Str},names.lookup x=some .free -> (names.map λ(n,k)=>if(k==NameKind.free&&a.scope.kind== .function&&a.kindOf n==some .cell)then(n,NameKind.cell)else(n,k)).lookup x=some .cell \/ (names.map λ(n,k)=>if(k==NameKind.free&&a.scope.kind== .function&&a.kindOf n==some .cell)then(n,NameKind.cell)else(n,k)).lookup x=some .free
 |[],_,h=>by simp at h|(n,k)::r,x,h=>by
  have d:= @gj a r x;show List.lookup x ((if(k==NameKind.free&&a.scope.kind== .function&&a.kindOf n==some .cell)=true then(n,NameKind.cell)else(n,k))::_)=_\/List.lookup x ((if(k==NameKind.free&&a.scope.kind== .function&&a.kindOf n==some .cell)=true then(n,NameKind.cell)else(n,k))::_)=_;cases b:x==n with
  |true =>
   simp only[J5,b]at h;cases h
   by_cases c:(NameKind.free==NameKind.free&&a.scope.kind== .function&&a.kindOf n==some .cell)=true;left;rw[JI c];simp only[J5,b];right;rw[JE c];simp only[J5,b]
  |false =>
   simp only[J5,b]at h
   by_cases c:(k==NameKind.free&&a.scope.kind== .function&&a.kindOf n==some .cell)=true;rw[JI c];simp only[J5,b];exact d h;rw[JE c];simp only[J5,b];exact d h
section
variable{X:Cx}{pins:List (Addr×Obj)}{σ:St}{H:Hp}{s:Shared}
theorem sD{N' :List Str}{src:List (Option Nat)}{scope:Scope}{D C:Addr}{fp:List Addr}{cl:List (Str×Addr)}{h₁:Heap}{m:Str->Option Value}{tk:Nat}(I:Inv X pins σ H s)(hkind:scope.kind=.function)(k:wG X scope C cl)
  (hfree:∀y∈scope.names,y.2=.free->∃c,X.env.cells.lookup y.1=some c) (hsrc:bY X scope N' src) (hf:∀b∈fp,jW X pins H b) (hlt:∀b∈fp,b<s.heap.objs.size)
  (hD:D=s.heap.objs.size) (hC:s.heap.objs.size<C) (hns:h₁.Ns C m) (old:∀b o,s.heap.get? b=some o->h₁.get? b=some o) (hacc:h₁.get? D=some {cls:=.type "list",data:=.seq #[]})
  (hce:∀x c,cl.lookup x=some c->C<c->∃v,h₁.IsCell c v) :
  Inv (bG X N' scope C s H fp cl) [] (bX src σ) (upd H D (.lst [])) {s with heap:=h₁,toks:=tk}:=by
 have hn:H D=none:=by rw[hD];exact I.hok.fresh (JH _)
 have ok:=CU (N' :=N') I hkind k hfree (Lq hC) hf hlt;have hDC:D≠C:=by rw[hD];exact Jg hC
 refine⟨ok,rfl,I.bare,Un.laid old (by rw[hD];exact JH _) hn,⟨m,hns,fun j x v h1 h2 h3=> ?_⟩,fun x c e=> ?_,?_,fun x c e=> ?_,fun p hp=>(by cases hp),I.hok.laid old (by rw[hD];exact JH _) ?_,?_⟩
 ·obtain⟨i,e1,e2,e3,e4⟩:=hsrc.at h1 h2
  obtain⟨m0,_,hl⟩:=I.loc;obtain⟨u,r,l⟩:=hl i x v e1 e2 (.inr e4);refine⟨u,r,?_⟩;obtain⟨own,hcl,o1,o2,o3⟩:=k.ex;have hown:own.lookup x=none:=by
   cases z:own.lookup x with
   | none=>rfl
   | some c =>
    have:=(o1 x c (Jx z)).2;rw[e3]at this;cases this
  obtain⟨c',hc'⟩:=iJ (env:=X.env) (l:=scope.names) (acc:=[]) (x:=x) (.inl (Jx e3));have hcX:X.env.cells.lookup x=some c' :=by
   rcases eM hfree hc' with q|q
   ·cases q
   ·exact q
  have hcl' :cl.lookup x=some c' :=by rw[hcl,K4,hown];exact hc'
  rcases l with⟨hk,_⟩|⟨hk,c,hc,hcl2⟩
  ·have hk' :X.env.scope.names.lookup x=some .local:=hk
   rcases e4 with e4|e4
   ·rw[hk']at e4;cases e4
   ·rw[hk']at e4;cases e4
  ·have ec:c' =c:=Jb (hcX.symm.trans hc)
   subst ec
   right
   exact⟨gj e3,c',hcl',hcl2.keeps old⟩
 ·rcases k.sub hfree (show cl.lookup x=some c from e)with q|q
  ·exact hce x c e q.1
  ·obtain⟨v,z⟩:=I.cell x c q.2
   exact⟨v,z.keeps old⟩
 ·show upd H D (.lst []) C=none
  rw[aA (L1 hDC)];exact I.hok.fresh (Lq hC)
 ·show upd H D (.lst []) c=none
  rcases k.sub hfree (show cl.lookup x=some c from e)with q|q
  ·have:s.heap.objs.size<c:=LZ hC q.1
   rw[aA (by rw[hD];exact Lp this)];exact I.hok.fresh (Lq this)
  ·obtain⟨v,z⟩:=I.cell x c q.2
   rw[aA (by rw[hD];exact Jg z.lt)];exact I.freeC x c q.2
 ·exact⟨J0 _,[],0,.nil,hacc⟩
 ·show(src.map _).length=N'.length
  rw[JC];exact hsrc.len
theorem fR.but{P:Program}{w:World}{H:Hp}{h h' :Heap}(x:fR P w H h)(k:∀b u,H b≠none->h.get? b=some u->h'.get? b=some u):fR P w H h' :=fun a o e =>
 (x a o e).stay (fun b u hb q=>k b u (by rcases hb with rfl|hb;(rw[e];simp);(rw[hb];simp)) q) (fun _ q=>q) fun _ _ q=>q
noncomputable def eG(a scope:Scope):Bool:=scope.names.all λy=> !(y.2==NameKind.free)||(a.names.lookup y.1==some .cell||a.names.lookup y.1==some .free)
theorem zC(h:eG a scope=true):∀y∈scope.names,y.2=.free->(a.names.lookup y.1=some .cell\/a.names.lookup y.1=some .free):=λy hy hf=>by
 have z:=Jh.mp h y hy;rw[hf]at z
 simpa using z
theorem uD{use:Option (Value->Sem Unit)}{P:Value->Shared->Prop}{Q:VK}{elt target iter:Expr}{ifs:List Expr}{scope:Scope}{pos:Pos}{N' :List Str}{src:List (Option Nat)}{wi:TI}(hc:X.calm=true)(hi:PI X target iter wi)(hsrc:bY X scope N' src)
  (hkind:scope.kind=.function) (hcell:∀y∈scope.names,y.2=.cell->scope.names.lookup y.1=some .cell) (hnames:∀y∈scope.names,y.2=.local->scope.names.lookup y.1=some .local)
  (hfr:eG X.env.scope scope=true)
  (hs:∀x,foldedSetIterable iter X.env x=pure x) (I:Inv X pins σ H s) (h:C9 X N' src scope target ifs elt wi σ H Q)
  (fin:∀(C a:Addr)(s2 s4:Shared)(H2 H3:Hp)(fp:List Addr)(cl:List (Str×Addr))(m:Str->Option Value),Inv X pins σ H2 s2->(∀b∈fp,jW X pins H2 b)->(∀b,b<s2.heap.objs.size->b≠C)->s2.heap.objs.size<=C->Inv (bG X N' scope C s2 H2 fp cl) [] (bX src σ) H3 s4->s4.heap.Ns C m->Q (.ref a) H3->∀v,compPost (model X.prog X.w) X.A X.xe use P (.ref a) C (.ok v) s4) :
  wpAny (model X.prog X.w) X.A (comprehension (.ListComp elt [⟨target,iter,ifs,0⟩] scope pos) scope X.env (firstIterPos [⟨target,iter,ifs,0⟩] pos) (newList []) (firstAsync [⟨target,iter,ifs,0⟩]) (firstIter [⟨target,iter,ifs,0⟩] X.env) use) P X.xe s:=by
 have hfree:∀y∈scope.names,y.2=.free->∃c,X.env.cells.lookup y.1=some c:=fun y hy hf=>I.ok.has y.1 (zC hfr y hy hf);refine wpAny_comprehension_free (use:=use) rfl hs (sN hfree) hkind hnames ?_;refine ak (hi pins s σ H _ I h) fun xv s1 h1=>ak h1 fun itv s2 h2=> ?_;obtain⟨it,fp,tn,J,H2,e,I2,T,st2,f2,q⟩:=h2;subst e;have hlt:∀b∈fp,b<s2.heap.objs.size:=fun b hb=>by
  obtain⟨o,e,_⟩:=T.obj _ _ st2 b hb;exact JV e
 refine LP (zO ?_);dsimp only
 generalize hH2:s2.heap.push {cls:=.type "list",dict:=none,data:=.seq ([]:List Value).toArray}=G2
 have hC:G2.objs.size=s2.heap.objs.size+1:=by rw[<- hH2,Heap.size_push]
 have hCle:s2.heap.objs.size<=G2.objs.size:=by rw[hC];exact Nat.le_succ _
 have hClt:s2.heap.objs.size<G2.objs.size:=by rw[hC];exact Nat.lt_succ_self _
 have below:∀b,b<s2.heap.objs.size->b≠G2.objs.size:=fun b hb=>by rw[hC];exact Jg (Kh hb)
 obtain⟨cl,hcl0⟩:∃cl,cl=cellsFrom (G2.objs.size+1) scope.names (iK X.env scope.names []):=⟨_,rfl⟩;obtain⟨h₁,hh₁⟩:∃h₁,h₁=pushCells (G2.push {cls:=.type "dict",data:=.dict #[]}) scope.names:=⟨_,rfl⟩;rw[<- hcl0,<-hh₁];have hfr2:(G2.push {cls:=.type "dict",data:=.dict #[]}).objs.size=G2.objs.size+1:=Heap.size_push ..;have kcl:wG X scope G2.objs.size cl:=by rw[hcl0];exact CY hcell _ hfr2
 have hns₁:h₁.Ns G2.objs.size (fun _=>none):=by rw[hh₁];exact(Heap.Ns.new G2 (.type "dict")).keeps (pushCells_keeps _ _)
 have old:∀b o,s2.heap.get? b=some o->h₁.get? b=some o:=fun b o e=>by rw[hh₁];exact pushCells_keeps _ _ b o (JG _ (hH2▸JG _ e))
 have hacc:h₁.get? s2.heap.objs.size=some {cls:=.type "list",data:=.seq #[]}:=by rw[hh₁];exact pushCells_keeps _ _ _ _ (JG _ (hH2▸Jc _ rfl))
 have hce:∀x c,cl.lookup x=some c->G2.objs.size<c->∃v,h₁.IsCell c v:=fun x c e hlt' =>by
  have okc:=cellsFrom_ok scope.names (G2.push {cls:=.type "dict",data:=.dict #[]}) (G2.objs.size+1) [] ⟨fun _ _ hm=>(nomatch hm),List.Pairwise.nil⟩ (by rw[hfr2];exact JH _);rw[hfr2]at okc;have e1:cl=cellsFrom (G2.objs.size+1) scope.names []++iK X.env scope.names []:=by rw[hcl0,<-cG];rfl
  rw[e1,K4]at e;cases z:(cellsFrom (G2.objs.size+1) scope.names []).lookup x with
  | some c' =>
   rw[z]at e;cases e;exact⟨none,by rw[hh₁];exact(okc.empty x c (Jx z)).1⟩
  | none =>
   rw[z]at e
   rcases eM hfree e with q|q
   ·cases q
   ·obtain⟨v,zc⟩:=I2.cell x c q
    exact absurd (LZ zc.lt hClt) (Nat.not_lt.mpr (Lq hlt'))
 have hDn:H2 s2.heap.objs.size=none:=I2.hok.fresh (JH _);obtain⟨W,⟨m0,w0⟩,turn⟩:=q s2.heap.objs.size hDn;have st1:tn 0 h₁:=T.keep _ _ _ st2 fun b hb o e=>old b o e;have hsub:∀b∈fp,b∉rq X.stack:=fun b hb hz=>by
  rcases JU.mp (I2.stkSub b hz)with z|z
  ·exact(f2 b hb).2.1 z
  ·exact(f2 b hb).2.2.1 z
 have hcl:∀x c,cl.lookup x=some c->G2.objs.size<c\/X.env.cells.lookup x=some c:=fun x c e=>by
  rcases kcl.sub hfree e with q|q
  ·exact .inl q.1
  ·exact .inr q.2
 have stat:∀{H' :Hp},(∀b∈fp,H' b=none)->∀b∈fp,jW (bG X N' scope G2.objs.size s2 H2 fp cl) [] H' b:=fun hn b hb =>
  ⟨hn b hb,below b (hlt b hb),hsub b hb,.inl hb,fun x c e=>(by rcases hcl x c e with q|q;(exact fun z=>absurd (LZ (hlt b hb) (LZ hClt q)) (by rw[z];exact LJ _));exact(f2 b hb).2.2.2.2.1 x c q),fun p hp=>by cases hp⟩
 have loop:∀s3:Shared,s3={s2 with heap:=h₁} ->
   codeAny (model X.prog X.w) X.A (.compLoop (.ListComp elt [⟨target,iter,ifs,0⟩] scope pos) 0 (.ref it) (.ref s2.heap.objs.size) (compEnvC scope cl G2.objs.size X.env))
    (compPost (model X.prog X.w) X.A X.xe use P (.ref s2.heap.objs.size) G2.objs.size) s3:=by
  rintro s3 rfl
  refine nX (fun n s' =>∃i ys H',Inv (bG X N' scope G2.objs.size s2 H2 fp cl) [] (bX src σ) H' s' /\tn i s'.heap/\(∀b∈fp,H' b=none)/\W i n ys H') ?_ m0
   ⟨0,[],_,sD I2 hkind kcl hfree hsrc f2 hlt rfl hClt hns₁ old hacc hce,st1,fun b hb=>by rw[aA (Jg (hlt b hb))];exact(f2 b hb).1,w0⟩
  rintro n s' ⟨i,ys,H3,I3,st3,fr3,w3⟩
  rcases turn i n ys H3 w3 with⟨stop,qn⟩|⟨go,step⟩
  ·refine ak (T.done (bG X N' scope G2.objs.size s2 H2 fp cl) rfl rfl rfl hc i [] s' _ H3 _ I3 (stat fr3) st3 stop) fun r s4 hpq=> ?_
   obtain⟨hr,I4⟩:=hpq;subst hr;obtain⟨m,hn,_⟩:=I4.loc;exact fin _ _ s2 s4 H2 H3 fp cl m I2 f2 below hCle I4 hn qn _
  ·refine ak (T.item (bG X N' scope G2.objs.size s2 H2 fp cl) rfl rfl rfl hc i [] s' _ H3 _ I3 (stat fr3) st3 go) fun r s4 hpq=> ?_
   obtain⟨u,hr,h4⟩:=hpq;subst hr;refine ak h4 fun _ s5 hpq=> ?_;obtain⟨x,H5,I5,r5,y5,st5,fr5⟩:=hpq;obtain⟨g,tt,te,hg,ht,he,rd⟩:=step x H5 y5 G2.objs.size s2 H2 fp cl;have I5' :=I5.pinned (stat fr5) (T.obj _ _ st5);have noE:∀{α:Type}{t:Sem α}{Q' :α->Shared->Prop}{s' :Shared}{E:Value->Shared->Prop},wpAny (model X.prog X.w) X.A t Q' (fun _ _=>False) s' ->wpAny (model X.prog X.w) X.A t Q' E s' :=fun z=>K0 z (fun _ _ y=>y) fun _ _ y=>y.elim
   have again:∀{σ7:St}{H7:Hp}{s7:Shared}{ys' :List V},Inv (bG X N' scope G2.objs.size s2 H2 fp cl) ([]++kP fp s5.heap) σ7 H7 s7->(σ7.length=N'.length/\∀(j:Nat)(v:V),(bX src σ)[j]? =some (some v)->σ7[j]? =some (some v)) ->
     (∃m',m' <n/\W (i+1) m' ys' H7)->∃m,m<n/\∃i ys H',Inv (bG X N' scope G2.objs.size s2 H2 fp cl) [] (bX src σ) H' s7/\tn i s7.heap/\(∀b∈fp,H' b=none)/\W i m ys H' :=fun{σ7 H7 s7 ys'} I7 hσ ⟨m',hm,w7⟩=>by
    refine⟨m',hm,i+1,ys',H7,(I7.unpinned).weak (by rw[show(bX src σ).length=N'.length by(show(src.map _).length=_;rw[JC];exact hsrc.len)];exact hσ.1.symm) hσ.2,T.keep _ _ _ st5 fun b hb o e=>(I7.pin (b,o) (Jy _ (Jy _ (eR hb e)))).1,fun b hb=> ?_,w7⟩;obtain⟨o,e,d⟩:=T.obj _ _ st5 b hb;exact(I7.pin (b,o) (Jy _ (Jy _ (eR hb e)))).2.1
   refine noE (ak (hg _ s5 _ H5 x u _ I5' r5 rd) fun _ s6 hpq=> ?_);obtain⟨σ6,H6,I6,hσ,q6⟩:=hpq;refine noE (ak (ht _ s6 σ6 H6 _ I6 q6) fun b s7 hpq=> ?_);obtain⟨H7,I7,q7⟩:=hpq;cases b with
   | false=>exact again I7 hσ q7
   | true =>
    rw[JI rfl]at q7 ⊢;refine noE (ak (he _ s7 σ6 H7 _ I7 q7) fun y s8 hpq=> ?_);obtain⟨v,H8,I8,r8,hl8,hz8,q8⟩:=hpq;refine noE (ak (l7 _ s8 σ6 H8 (.ref s2.heap.objs.size) [v] (.ref s2.heap.objs.size) [y] (fun _ H9=>∃m',m' <n/\W (i+1) m' (ys++[v]) H9) I8 rfl (.cons r8 .nil) ⟨_,_,_,rfl,rfl,hl8,hz8,q8⟩) fun _ s9 hpq=> ?_);obtain⟨_,H9,I9,_,q9⟩:=hpq;exact again I9 hσ q9
 exact codeAny_compStart_list (loop _ rfl) (T.self X.A 0 _ _ _ st1 (loop _ rfl))
theorem tf{elt target iter:Expr}{ifs:List Expr}{scope:Scope}{pos:Pos}{N' :List Str}{src:List (Option Nat)}{wi:TI}(hc:X.calm=true)(hi:PI X target iter wi)(hsrc:bY X scope N' src)
  (hkind:scope.kind=.function) (hcell:∀y∈scope.names,y.2=.cell->scope.names.lookup y.1=some .cell) (hnames:∀y∈scope.names,y.2=.local->scope.names.lookup y.1=some .local)
  (hfr:eG X.env.scope scope=true)
  (hs:∀x,foldedSetIterable iter X.env x=pure x:=by intro _;rfl) :
  PE X (.ListComp elt [⟨target,iter,ifs,0⟩] scope pos) (C9 X N' src scope target ifs elt wi):=by
 intro pins s σ H Q I h;rw[eval_ListComp];refine uD hc hi hsrc hkind hcell hnames hfr hs I h fun C a s2 s4 H2 H3 fp cl m I2 f2 below hCle I4 hn qn _=> ?_;refine⟨m,hn,fun h' hs' => ?_⟩;have ne:∀b o,s2.heap.get? b=some o->b≠C:=fun b o e=>below b (JV e);have hfree4:H3 C=none:=I4.free;have u4:Un (rq X.stack) fp H2 H3 s2.heap s4.heap:=I4.base
 have u5:Un (rq X.stack) fp H2 H3 s2.heap h' :=⟨fun b o e n z1 z2=>(hs'.2 b (ne b o e)).trans (u4.keep b o e n z1 z2),fun b o e n z1 z2=>let⟨sl,z⟩:=u4.slot b o e n z1 z2;⟨sl,(hs'.2 b (ne b o e)).trans z⟩,u4.free,
  fun b o e z=>let⟨o',z'⟩:=u4.there b o e z;⟨o',(hs'.2 b (ne b o e)).trans z'⟩,u4.tups,u4.frzs,u4.tbls⟩
 have hok:fR X.prog X.w H3 h' :=fR.but (h:=s4.heap) I4.hok fun b u hb z=>(hs'.2 b (fun w=>hb (by rw[w];exact hfree4))).trans z;exact⟨.ref a,H3,I2.call' (s' :={s4 with heap:=h'}) (ch:=fp) I4.os u5 hok I4.bare fun b hb=>⟨(f2 b hb).2.2.2.1,(f2 b hb).2.1,(f2 b hb).2.2.2.2.1,(f2 b hb).2.2.2.2.2⟩,rfl,qn⟩
end
section
variable{X:Cx}
theorem all_range(d:List Bool):(List.range d.length).all (λi=>d.getD i true)=d.all id:=by
 rw[KU,Jh,Jh]
 constructor
 ·intro h b f
  obtain⟨i,c,e⟩:=List.mem_iff_getElem.mp f;have z:=h i (Js.mpr c);rw[JQ,JN c,e]at z;exact z
 ·intro h i c
  have a :=Js.mp c;rw[JQ,JN a];exact h _ (KY a)
theorem qk{a:List Bool}(r:aN (a.map V.bl) us){i:Nat}(e:us[i]? =some v):v=.bool (a.getD i true):=by
 have c:=r.length;rw[JC]at c;have g:i<us.length:=(JK.mp e).1;have f:(a.map V.bl)[i]? =some (.bl (a.getD i true)):=by rw[JP,JQ,JN (by omega)];rfl
 obtain⟨u,b,d⟩:=r.get f;rw[e]at b;cases b;exact d
theorem qS(hc:X.calm=true):ba X (.builtin "all") (λxs H Q=>∃(p:Addr)(bs:List Bool),xs=[.ref p]/\bJ X.K H p (bs.map V.bl)/\Q (.bl (bs.all id)) H):=by
 intro pins s σ H xs us Q I r h;obtain⟨p,bs,rfl,hq,q⟩:=h;obtain⟨u,rfl,rx⟩:=vals1 r;cases rx;obtain⟨its,r',pl,hz⟩:=I.list hq;have hlen:=r'.length;rw[JC]at hlen;have hp:p<s.heap.objs.size:=by obtain⟨o,e,_⟩:=pl.isList;exact JV e
 refine call_all_walk (Mc pl.isList ?_);refine⟨s.heap.objs.size,_,_,its.toArray.size,_,_,(λi=>bs.getD i true),rfl,Walks.list (A:=X.A.in1) (I.ok.hd hc) s.heap.objs.size p (Jg hp) its.toArray,⟨⟨_,Jc _ rfl,rfl,rfl⟩,pl.isList.push _⟩,?_,?_⟩
 ·intro i v s' Q' E' hv hQ
  have e:=qk r' (i:=i) (v:=v) (by simpa using hv);subst e;exact Ky hQ
 ·intro h' tk hk
  refine⟨.bl (bs.all id),H,I.kept (t' :=tk) (λb o e=>hk b o (by simpa using Jg (JV e)) (JG _ e)),?_,q⟩;rw[JO,<-hlen,all_range];rfl
theorem gL:∀{a:List Str}{us:List Value},aN (a.map V.str) us->StrsAre us a
 |[],_,r=>by rw[KO]at r;cases r;exact .nil
 |y::a,_,r=>by
  rw[JR]at r;cases r with
  |cons b c =>obtain⟨t,e⟩:=b;subst e;exact .cons y t (gL c)
noncomputable def HE(K:W.Frag):V->List V->Hp->VK->Prop:=λx vs H Q=>∃a p b,x=.str a/\vs=[.ref p]/\(bJ K H p (b.map V.str)\/cA K H p (b.map V.str))/\(b.map (·.length)).sum+b.length*a.length<=16777216/\Q (.str (Txt.join a b)) H
theorem Bh:MtR X "str.join" (HE X.K):=by
 intro e s m H x n v us Q I i j h;obtain⟨a,p,f,rfl,rfl,b,g,q⟩:=h;obtain⟨t,rfl⟩:=i;obtain⟨u,rfl,l⟩:=vals1 j;cases l
 rcases b with b|b
 ·obtain⟨d,r,c,_⟩:=I.list b
  exact join_list c.isList (gL (by simpa using r)) g λt' k=>⟨.str (Txt.join a f),H,I.tok _,⟨_,rfl⟩,q⟩
 ·obtain⟨d,r,c,_⟩:=I.tuple b
  exact join_tuple c (gL (by simpa using r)) g λt' k=>⟨.str (Txt.join a f),H,I.tok _,⟨_,rfl⟩,q⟩
noncomputable def Iy(x:Str):It:=⟨λi _=>i<x.cps.size,λi H v H' =>H' =H/\∃c,x.cps[i]? =some c/\v=.str ⟨#[c]⟩,λi _=>i=x.cps.size⟩
noncomputable def iStr(a:TE):TI:=λσ H R=>a σ H λx H1=>∃z,x=.str z/\R (Iy z) H1
theorem gJ{P:Program}{w:World}{K:W.Frag}{tg:Expr}{a:Addr}{n:Nat}{U:Nat->Value->Prop}{p:Nat->Heap->Prop}{J:It}(G:∀A:Around,A.handled=none->Walks P w A a [a] [a] n U p)
  (l:∀i h,p i h->∃(o:Obj)(m:String)(t:Array Value),h.get? a=some o/\o.cls=.type m/\o.data=.fields t/\["enumerate","zip","dict_itemiterator","dict_reverseitemiterator","odict_iterator","itertools.zip_longest","itertools.pairwise"].contains m=false)
  (D:∀i H,J.go i H->i<n) (N:∀i H,J.stop i H->i=n) (Y:∀i H v,U i v->∃x,RelV x v/\J.yld i H x H)
  (g:∀(A:Around)(i:Nat)(s:Shared)(Q:Value->Shared->Prop)(E:Value->Shared->Prop),p i s.heap->Q (.ref a) s->wpAny (model P w) A (pyIter (.ref a)) Q E s):qZ P w K tg J [a] a p where
 mem:=by simp
 obj:=λi h j b hb=>by
  have e:b=a:=by simpa using hb
  subst e;obtain⟨o,m,t,e,_,d,_⟩:=l i h j;exact⟨o,e,λv z=>by rw[d]at z;cases z⟩
 keep:=λi h h' j k=>(G {callerA with handled:=none} rfl).frame i h h' j k
 item:=by intro X F u R O i f s T H E I q j C;subst F u R;obtain⟨M,B,Z,S,L,r⟩:=q a (by simp);refine(G X.A (I.ok.hd O)).item i s _ _ (D i H C) j λv h' tk hv st' kk=> ?_;obtain⟨x,V,y⟩:=Y i H v hv;have I1:Inv X f T H {s with heap:=h',toks:=tk}:=I.turned (λb o hb e=>kk b o (by simpa using hb) e) M B S L r;obtain⟨o,m,t,e,c,d,nc⟩:=l (i+1) h' st';exact⟨_,rfl,uK (s:={s with heap:=h',toks:=tk}) e c d nc ⟨x,H,I1,V,y,st',λb hb=>(q b hb).1⟩⟩
 done:=by intro X F u R O i f s T H E I q j C;subst F u R;obtain⟨M,B,Z,S,L,r⟩:=q a (by simp);have e:=N i H C;subst e;exact(G X.A (I.ok.hd O)).done s _ _ j λh' tk kk=>⟨rfl,I.turned (λb o hb e=>kk b o (by simpa using hb) e) M B S L r⟩
 self:=g
theorem EH(A:PE X l p):PI X y l (iStr p):=by
 intro a s r H R I h;refine ak (A a s r H _ I h) λv s1 hpq=> ?_;obtain⟨x,j,f,w,B⟩:=hpq;obtain⟨z,rfl,q⟩:=B;obtain⟨t,rfl⟩:=w;have k:∀b∈[s1.heap.objs.size],jW X a j b:=λb hb=>by
  have e:b=s1.heap.objs.size:=by simpa using hb
  subst e;exact f.fpOk (JH _) (f.hok.fresh (JH _))
 have m:∀(i:Nat)(H:Hp)(v:Value),SignAt z i v->∃x,RelV x v/\(Iy z).yld i H x H:=λi H v hv=>by obtain⟨c,u,e,rfl⟩:=hv;exact⟨.str ⟨#[c]⟩,⟨_,rfl⟩,rfl,c,e,rfl⟩
 cases n:z.cps.all (·<128)with
 |false =>
  refine wpAny_pyIter_wide n ?_
  refine⟨s1.heap.objs.size,[s1.heap.objs.size],λi h=>h.IsStrIter s1.heap.objs.size "str_iterator" z t i,Iy z,j,rfl,f.kept (t' :=s1.toks) λb o e=>JG _ e,gJ (λA hA=>Walks.strWide hA _ z t) (λi h st=> ?_) (λi H g=>g) (λi H g=>g) m (λA i s Q E st h=>wpAny_pyIter_striter_wide st h),⟨_,Jc _ rfl,rfl,rfl⟩,k,q⟩
  obtain⟨o,e,c,d⟩:=st;exact⟨o,_,_,e,c,d,by decide⟩
 |true =>
  refine wpAny_pyIter_ascii n ?_
  refine⟨s1.heap.objs.size,[s1.heap.objs.size],λi h=>h.IsStrIter s1.heap.objs.size "str_ascii_iterator" z t i,Iy z,j,rfl,f.kept (t' :=s1.toks) λb o e=>JG _ e,gJ (λA hA=>Walks.strAscii hA _ z t) (λi h st=> ?_) (λi H g=>g) (λi H g=>g) m (λA i s Q E st h=>wpAny_pyIter_striter_ascii st h),⟨_,Jc _ rfl,rfl,rfl⟩,k,q⟩
  obtain⟨o,e,c,d⟩:=st;exact⟨o,_,_,e,c,d,by decide⟩
noncomputable def Itc(a c:Int)(n:Nat):It:=⟨λi _=>i<n,λi H x H' =>H' =H/\x=.int (a+i*c),λi _=>i=n⟩
noncomputable def Hr(a:TA):TI:=λσ H R=>a σ H λvs H1=>∃i j c:Int,vs=[.int i,.int j,.int c]/\c≠0/\c.natAbs<1073741824/\Builtin.Range.small i j c=true/\R (Itc i c (Builtin.Range.rangeSize i j c).toNat) H1
theorem mq(i j c:Int):0<=Builtin.Range.rangeSize i j c:=by
 unfold Builtin.Range.rangeSize
 split
 ·split
  ·have:=Int.ediv_nonneg (a:=j-i-1) (b:=c) (by omega) (by omega)
   omega
  ·exact Ks _
 ·split
  ·by_cases d:c=0
   ·subst d
    simp
   ·have:=Int.ediv_nonneg (a:=i-j-1) (b:= -c) (by omega) (by omega)
    omega
  ·exact Ks _
theorem vM(F:Gl X "range")(O:X.mg "range"=none)(L:PA X [a,b,c] C)(N:starEach [a,b,c] X.env=(false,eval a X.env)::starEach [b,c] X.env:=by rfl)
  (y:(backTo pos (starEach [b,c] X.env)).any (·.1)=false:=by rfl):PI X G (.Call (.Name "range" p) [a,b,c] [] pos) (Hr C):=by
 intro d s B H R I h;refine Call_ (du I F O boot_range (KH (ak (L pos d s B H _ I h) λus s1 ⟨vs,H1,I1,r1,q1⟩=> ?_) N y));obtain⟨i,j,k,e,M,z,w,q⟩:=q1;subst e;cases r1 with
 |cons r f =>
  cases f with
  |cons J f =>
   cases f with
   |cons A f =>
    cases f;obtain⟨t,rfl⟩:=r;obtain⟨n,rfl⟩:=J;obtain⟨l,rfl⟩:=A;refine call_range_3 M ?_ (.inl (PyProof.noPylong_small z));refine wpAny_pyIter_range (IsRange.new ..) w ?_;have x:Inv X d B H1 {s1 with heap:=s1.heap.push {cls:=.type "range",data:=.fields #[.int i t,.int j n,.int k l]}}:=I1.kept (t' :=s1.toks) λb o e=>JG _ e
    refine⟨_,[_],_,_,H1,rfl,x.kept (t' :=s1.toks) λb o e=>JG _ e,gJ (λA hA=>Walks.range hA _ i k (Builtin.Range.rangeSize i j k).toNat) (λm h st=>⟨_,_,_,st,rfl,rfl,by decide⟩) (λm H g=>g) (λm H g=>g) (λm H v hv=> ?_) (λA m s Q E st h=>wpAny_pyIter_rangeiter st h),?_,λb hb=> ?_,q⟩
    ·obtain⟨u,rfl⟩:=hv
     exact⟨.int (i+m*k),⟨_,rfl⟩,rfl,rfl⟩
    ·have D:i+((0:Nat):Int)*k=i:=by simp
     have K:(((Builtin.Range.rangeSize i j k).toNat:Nat):Int)-((0:Nat):Int)=Builtin.Range.rangeSize i j k:=by have:=mq i j k;omega
     show IsRangeIter _ _ (i+((0:Nat):Int)*k) ((((Builtin.Range.rangeSize i j k).toNat:Nat):Int)-((0:Nat):Int)) k;rw[D,K];exact Jc _ rfl
    ·have e:b=(s1.heap.push {cls:=.type "range",data:=.fields #[.int i t,.int j n,.int k l]}).objs.size:=by simpa using hb
     subst e;exact x.fpOk (JH _) (x.hok.fresh (JH _))
theorem Inv.drew{pins:List (Addr×Obj)}{σ:St}{H:Hp}{s:Shared}{h' :Heap}{fp:List Addr}{p:Addr}{o:HO}{t' :Nat}(I:Inv X pins σ H s)(hf:∀b∈fp,jW X pins H b)(k:∀b ob,b∉fp->s.heap.get? b=some ob->h'.get? b=some ob)
  (hp:s.heap.objs.size<=p) (new:am X.prog X.w (upd H p o) h' p o):Inv X pins σ (upd H p o) {s with heap:=h',toks:=t'}:=by
 have ne:∀b u,H b=some u->b≠p:=λb u e=>Jg (Ju (I.hok.lt e) hp);have nf:∀b u,H b=some u->b∉fp:=λb u e hb=>by rw[(hf b hb).1]at e;cases e
 refine I.step (g' :=s.gens) (d' :=s.drawn) (ch:=fp) (λb hb=>⟨(hf b hb).2.2.2.1,(hf b hb).2.1,(hf b hb).2.2.2.2.1,(hf b hb).2.2.2.2.2⟩) (λb ob _ _ hc e _=>k b ob hc e) (λb ob _ _ hc e _=>⟨ob.slots,k b ob hc e⟩)
  (λb ob hc e n=>by rw[aA (Jg (Ju (JV e) hp))];exact n) (λb ob hc e=>⟨ob,k b ob hc e⟩) (λb xs e=>by rw[aA (ne b _ e)];exact e) (λb ob u e=>by rw[aA (ne b _ e)];exact e)
  (λb ps e=>⟨#[],by rw[aA (ne b _ e),e];simp⟩) (λm hm=> ?_) (λb u e=> ?_) I.bare
 ·obtain⟨ob,es,ep,ho,r⟩:=hm
  exact⟨ob,es,ep,k _ _ (λhb=>(hf _ hb).2.1 rfl) ho,r⟩
 ·by_cases hb:b=p
  ·subst hb
   rw[aF]at e;cases e;exact new
  ·rw[aA hb]at e
   refine(I.hok b u e).stay (λc v hc q=>k c v ?_ q) (λc q=>by rw[aA (ne c _ q)];exact q) (λc xs q=>by rw[aA (ne c _ q)];exact q)
   rcases hc with rfl|hc
   ·exact nf _ _ e
   ·exact nf _ _ hc
theorem Inv.drew0{d:List (Addr×Obj)}{i:St}{H:Hp}{s:Shared}{l :Heap}{h:List Addr}{t' :Nat}(I:Inv X d i H s)(g:∀b∈h,jW X d H b)(k:∀b a,b∉h->s.heap.get? b=some a->l.get? b=some a) :
  Inv X d i H {s with heap:=l,toks:=t'}:=by
 have j:∀b u,H b=some u->b∉h:=λb u e hb=>by rw[(g b hb).1]at e;cases e
 refine I.step (g' :=s.gens) (d' :=s.drawn) (ch:=h) (λb hb=>⟨(g b hb).2.2.2.1,(g b hb).2.1,(g b hb).2.2.2.2.1,(g b hb).2.2.2.2.2⟩) (λb a _ _ f e _=>k b a f e) (λb a _ _ f e _=>⟨a.slots,k b a f e⟩)
  (λb a f e n=>n) (λb a f e=>⟨a,k b a f e⟩) (λb xs e=>e) (λb a u e=>e) (λb ps e=>⟨#[],by rw[e];simp⟩) (λm hm=> ?_) (λb u e=> ?_) I.bare
 ·obtain⟨a,m,p,o,r⟩:=hm
  exact⟨a,m,p,k _ _ (λhb=>(g _ hb).2.1 rfl) o,r⟩
 ·refine(I.hok b u e).stay (λc v f q=>k c v ?_ q) (λc q=>q) (λc xs q=>q)
  rcases f with rfl|f
  ·exact j _ _ e
  ·exact j _ _ f
noncomputable def Itz(K:W.Frag)(a b:Addr):It :=
  ⟨λi H=>∃c d x y,bJ K H a c/\bJ K H b d/\c[i]? =some x/\d[i]? =some y,λi H v H' =>∃p,H p=none/\v=.ref p/\∀c d x y,bJ K H a c->bJ K H b d->c[i]? =some x->d[i]? =some y->H' =upd H p (.tup [x,y]),λi H=>∃c d,bJ K H a c/\bJ K H b d/\(c.length<=i\/d.length<=i)⟩
noncomputable def Ip(z d c f e a b:Addr)(i:Nat)(h:Heap):Prop:=IsZip h z d c .none/\IsPair h d (.ref f) (.ref e)/\(∃u v,IsPair h c u v)/\h.IsListIter f a i/\h.IsListIter e b i
theorem wr{P:Program}{w:World}{K:W.Frag}{es:List Expr}{kt:Nat}{G:Pos}{z m t B r a b:Addr}(D:ZipApart z m t B r a b) :
  qZ P w K (.Tuple es kt G) (Itz K a b) [z,m,t,B,r] z (Ip z m t B r a b) where
 mem:=by simp
 obj:=λi h j c f=>by
  obtain⟨n,d,⟨u,v,g⟩,⟨o1,O,_,d1⟩,⟨o2,e2,_,d2⟩⟩:=j;simp only[JU,KJ,Lk]at f
  rcases f with rfl|rfl|rfl|rfl|rfl
  ·exact⟨_,n,λv z=>by cases z⟩
  ·exact⟨_,d,λv z=>by cases z⟩
  ·exact⟨_,g,λv z=>by cases z⟩
  ·exact⟨_,O,λv z=>by rw[d1]at z;cases z⟩
  ·exact⟨_,e2,λv z=>by rw[d2]at z;cases z⟩
 keep:=λi h h' j k=>by obtain⟨n,d,⟨u,v,g⟩,A,p⟩:=j;exact⟨k z (by simp) _ n,k m (by simp) _ d,⟨u,v,k t (by simp) _ g⟩,A.at λo e=>k B (by simp) o e,p.at λo e=>k r (by simp) o e⟩
 item:=by
  intro X hP T S f i l s σ H E I L j V;subst hP T S;obtain⟨xs,ys,x,y,M,N,ex,ey⟩:=V;obtain⟨R,ra,Z,_⟩:=I.list M;obtain⟨F,U,Q,_⟩:=I.list N;obtain⟨u,eu,ru⟩:=ra.get ex;obtain⟨v,ev,rv⟩:=U.get ey;obtain⟨n,d,⟨u0,v0,g⟩,A,p⟩:=j;refine wpAny_pyNext_zip_item D n d g A p Z.isList Q.isList (x:=u) (y:=v) (by simpa using eu) (by simpa using ev) λh' a1 a2 a3 a4 a5 a6 hk=> ?_;refine⟨_,rfl,wpAny_letOwnedTupleGo_zip a1 λh'' hz' hs' => ?_⟩;have J:z<s.heap.objs.size:=JV n;have kk:∀c o,c∉[z,m,t,B,r]->s.heap.get? c=some o->h''.get? c=some o:=λc o f e=>by simp only[JU,KJ,Lk,not_or]at f;obtain⟨c1,c2,c3,c4,c5⟩:=f;exact(hs'.2 c c1).trans (hk c o c1 c3 c4 c5 e)
  have tI:h''.get? m=some _:=(hs'.2 m D.TIz).trans (hk m _ D.TIz D.TITO D.TIi1 D.TIi2 d);have Y:h''.get? s.heap.objs.size=some {cls:=.type "tuple",data:=.seq #[u,v]}:=(hs'.2 _ (Lp J)).trans a5;have I1:Inv X l σ (upd H s.heap.objs.size (.tup [x,y])) {s with heap:=h''}:=I.drew (t' :=s.toks) L kk (JH _) ⟨by show 2<=sizeLine;decide,[u,v],.cons ru (.cons rv .nil),⟨_,Y,rfl,_,rfl,rfl⟩⟩;refine⟨.ref s.heap.objs.size,upd H s.heap.objs.size (.tup [x,y]),I1,rfl,⟨s.heap.objs.size,I.hok.fresh (JH _),rfl,λxs' ys' x' y' sa' sb' ex' ey' => ?_⟩,⟨hz',tI,⟨_,_,(hs'.2 t D.TOz).trans a2⟩,a3.at λo e=>(hs'.2 B D.i1z).trans e,a4.at λo e=>(hs'.2 r D.i2z).trans e⟩,λc f=> ?_⟩
  ·have q1:=I.list_inj M sa'
   have q2:=I.list_inj N sb';subst q1 q2;rw[ex]at ex';rw[ey]at ey';cases ex';cases ey';rfl
  ·rw[aA ?_]
   ·exact(L c f).1
   ·intro e
    have lt:c<s.heap.objs.size:=by
     simp only[JU,KJ,Lk]at f;obtain⟨o1,O,_⟩:=id A;obtain⟨o2,e2,_⟩:=id p
     rcases f with rfl|rfl|rfl|rfl|rfl
     ·exact J
     ·exact JV d
     ·exact JV g
     ·exact JV O
     ·exact JV e2
    exact absurd e (Jg lt)
 done:=by
  intro X hP T S f i l s σ H E I L j V;subst hP T S;obtain⟨xs,ys,M,N,C⟩:=V;obtain⟨R,ra,Z,_⟩:=I.list M;obtain⟨F,U,Q,_⟩:=I.list N;obtain⟨n,d,⟨u0,v0,g⟩,A,p⟩:=j;have l1:=ra.length;have l2:=U.length;refine wpAny_pyNext_zip_end (I.ok.hd f) D n d g A p Z.isList Q.isList ?_ λh' hk=>⟨rfl,I.drew0 (t' :=s.toks) L λc o f e=> ?_⟩
  ·rcases C with q|q
   ·exact .inl (by simp;omega)
   ·exact .inr (by simp;omega)
  ·simp only[JU,KJ,Lk,not_or]at f
   exact hk c o f.1 f.2.2.1 f.2.2.2.1 f.2.2.2.2 e
 self:=λ_ _ _ _ _ j h=>wpAny_pyIter_zip j.1 h
noncomputable def iZip(K:W.Frag)(e:TA):TI:=λσ H R=>e σ H λvs H1=>∃a b c d,vs=[.ref a,.ref b]/\bJ K H1 a c/\bJ K H1 b d/\R (Itz K a b) H1
theorem EG(C:Gl X "zip")(L:X.mg "zip"=none)(G:PA X [a,b] t)(M:starEach [a,b] X.env=(false,eval a X.env)::starEach [b] X.env:=by rfl)
  (i:(backTo pos (starEach [b] X.env)).any (·.1)=false:=by rfl):PI X (.Tuple x A f) (.Call (.Name "zip" p) [a,b] [] pos) (iZip X.K t):=by
 intro d s l H R I h;refine Call_ (du I C L boot_zip (KH (ak (G pos d s l H _ I h) λus s1 ⟨vs,H1,I1,r1,q1⟩=> ?_) M i));obtain⟨z,w,Q,N,e,J,F,q⟩:=q1;subst e;obtain⟨u,v,rfl,E,y⟩:=vals2 r1;cases E;cases y;obtain⟨D,P,k,_⟩:=I1.list J;obtain⟨n,O,m,_⟩:=I1.list F;have g:z<s1.heap.objs.size:=by obtain⟨o,e,_⟩:=k.isList;exact JV e
 have j:w<s1.heap.objs.size:=by obtain⟨o,e,_⟩:=m.isList;exact JV e
 refine call_zip_2 k.isList m.isList λh' hz hTI hTO hit1 hit2 hsz hk=> ?_;refine wpAny_pyIter_zip hz ?_;have B:Inv X d l H1 {s1 with heap:=h'}:=I1.kept (t' :=s1.toks) hk;refine⟨s1.heap.objs.size+4,[s1.heap.objs.size+4,s1.heap.objs.size+2,s1.heap.objs.size+3,s1.heap.objs.size,s1.heap.objs.size+1],_,_,H1,rfl,B,wr (zipApart_new g j),⟨hz,hTI,⟨_,_,hTO⟩,hit1,hit2⟩,λc hc=> ?_,q⟩;have r:s1.heap.objs.size<=c:=by
  simp only[JU,KJ,Lk]at hc
  rcases hc with rfl|rfl|rfl|rfl|rfl<;>omega
 exact I1.fpOk r (I1.hok.fresh r)
theorem yN:d7 X (binaryOp .FloorDiv) (rI (λ_ j=>0<j/\j.natAbs.log2<9000) λi j=>.int (i/j)):=Hb λi j _ _ _ _ _ hc q=>by have a:(0:Int)<j:=hc.1;exact floordiv_int (by omega) (by rw[Int.fdiv_eq_ediv_of_nonneg i (by omega)];exact q) (.inl (PyProof.noPylong_of_log2 hc.2))
end
theorem aB.tup{K:W.Frag}{H c :Hp}{a:Addr}{b:List V}(e:aB H c)(h:cA K H a b):cA K c a b:=by
 rcases h with(h|⟨o,h⟩)|h
 ·exact .inl (.inl (e _ _ h))
 ·exact .inl (.inr ⟨o,e _ _ h⟩)
 ·exact .inr h
theorem aJ(h:H p=none)(o:HO):aB H (upd H p o):=λb u q=>by rw[aA (aI q h)];exact q
theorem aB.upd{H H' :Hp}{D:Addr}{o:HO}(e:aB H H')(h:H D=none):aB H (upd H' D o):=fun b u q=>by rw[aA (aI q h)];exact e b u q
noncomputable def dN(z:Str):List V:=z.cps.toList.map λc=>V.str ⟨#[c]⟩
theorem kB(z:Str):(dN z).length=z.length:=by unfold dN;rw[JC,JZ];rfl
noncomputable def DL(n:Nat):List V:=(List.range n).map λi=>V.int (i:Nat)
section
variable{X:Cx}{N' :List Str}{scope:Scope}{elt:Expr}{σ:St}{H1:Hp}{J:It}{xs:List V}
theorem lG(h:r.length+1=N'.length) :
  ((bX (none::r) a).set 0 (some x)).length=N'.length/\∀(j:Nat)(v:V),(bX (none::r) a)[j]? =some (some v)->((bX (none::r) a).set 0 (some x))[j]? =some (some v):=by
 refine⟨by rw[KI];simp[bX,h],λj v e=> ?_⟩;cases j with
 |zero=>simp[bX]at e|succ j=>simpa [bX]using e
end
structure Def(K:W.Frag)(mg:Str->Option Value)(x:Str)(st:Stmt)(ps:List Str)(f:Addr)(fd:FuncData):Prop where
 fn:GZ K x x st f fd
 nm:mg x=some (.ref f)
 bd:Binds K fd ps []
theorem HP(b:Gl X x)(e:X.mg x=none)(a:bootBuiltins x=some (.type n))(c:x≠"__name__":=by decide)(d:(x==("__debug__":Str))=false:=by decide):PE X (.Name x pos) (tC (.ty n)) := BP (v:=.ty n) b e a rfl c d
section
variable{K:W.Frag}
theorem fI(n:String):W.kitOne K (.type n) (.type n)=some true:=by unfold W.kitOne;rw[JI (by simp)]
end
noncomputable def Hn:V->Nat
 | .str z=>z.length|_=>0
noncomputable def tQ(K:W.Frag):Sp:=λvs H Q _=>∃(a:Addr)(b:List Int),vs=[.ref a]/\bJ K H a (b.map V.int)/\b.length<=63/\∀c,Q (.bl true) c
section
variable{X:Cx}{e st:Expr}{te ts:TE}{pos p2:Pos}
noncomputable def A8:V->List V->Hp->VK->Prop:=λx vs H Q=>∃(l:Addr)(a:List V)(i:Int)(y:V),x=.ref l/\vs=[.int i,y]/\H l=some (.lst a)/\0<=i/\i<=a.length/\a.length<sizeLine/\Q .non (upd H l (.lst (a.take i.toNat++y::a.drop i.toNat)))
theorem vU:MtM X "list.insert" A8:=by
 intro d s o H x m v us Q I f g h;obtain⟨l,C,i,y,rfl,rfl,b,w,A,p,q⟩:=h;cases f;obtain⟨u,c,rfl,⟨t,rfl⟩,j⟩:=g.two;obtain⟨z,a,n,r,B,e⟩:=I.lstM b;have D:sizeLine=16777216:=Ka;refine ML F.slot_list_insert ⟨_,e,rfl⟩ F.entry_list_insert (F.args_list_insert_3 _ _ _) (AutoListH.list_insert_list_int_val_1 l a.toArray n i t c ?_ (by rw[JO];omega)) ⟨e,?_⟩
 ·unfold Builtin.List.listFitsIndex
  simp;omega
 ·refine⟨.non,_,I.lset (its' :=a.take i.toNat++c ::a.drop i.toNat) b e ?_ ((r.take i.toNat).append (.cons j (r.drop i.toNat))) ?_,rfl,q⟩
  ·have k:(if i<0 then(i+((a.toArray.size:Nat):Int)).toNat else min i.toNat a.toArray.size)=i.toNat:=by
    rw[JE (by omega),JO];omega
   simp only[k];simp;rw[Ki (by simp)]
  ·simp only[JM,J6,JY,LU]
   omega
end
section
variable{κ:Type}[DecidableEq κ]
noncomputable def fB(a:List (κ×V))(k:κ):Option V:=(a.find? λkv=>decide (kv.1=k)).map (·.2)
noncomputable def dS(a:List (κ×V))(k:κ)(v:V):List (κ×V) :=
 if(a.any λkv=>decide (kv.1=k))=true then a.map (λkv=>if kv.1=k then(kv.1,v)else kv)else a++[(k,v)]
theorem gW{p:κ×V}(e:p.1=k):fB (p::r) k=some p.2:=by simp[fB,Kd,e]
theorem gX{p:κ×V}(e:¬p.1=k):fB (p::r) k=fB r k:=by simp[fB,Kd,e]
theorem oW(k:κ):∀a:List (κ×V),(a.any λkv=>decide (kv.1=k))=(fB a k).isSome
 |[]=>rfl|p::r=>by
  rw[L0]
  by_cases e:p.1=k;simp only[gW e,K2 e,Bool.true_or,Option.isSome_some];rw[gX e,J2 e,Bool.false_or];exact oW k r
theorem fG(a:List (κ×V))(k:κ)(v:V):(dS a k v).length<=a.length+1:=by
 unfold dS
 split;rw[JC];omega;rw[JM,JY,MI];omega
theorem jV.isSome_eq(r:jV o u):o.isSome=u.isSome:=by
 cases o with
 |none=>cases u with
  |none=>rfl|some _=>exact(show False from r).elim
 |some _=>cases u with
  |none=>exact(show False from r).elim|some _=>rfl
theorem jV.getD(r:jV o u)(b:RelV d a):RelV (o.getD d) (u.getD a):=by
 cases o with
 |none=>cases u with
  |none=>exact b|some _=>exact(show False from r).elim
 |some _=>cases u with
  |none=>exact(show False from r).elim|some _=>exact r
theorem KV.val(r:KV a g)(k:κ):jV (fB a k) (valueAt g k):=by
 unfold KV at r
 induction r with
 |nil=>exact True.intro| @cons p q l d h t i =>
  obtain⟨f,j⟩:=h
  by_cases e:p.1=k
  ·have c :q.1=k:=f.symm.trans e
   have b:valueAt (q::d) k=some q.2:=by simp[valueAt,Kd,c]
   rw[gW e,b];exact j
  ·have c :¬q.1=k:=λz=>e (f.trans z)
   have b:valueAt (q::d) k=valueAt d k:=by simp[valueAt,Kd,c]
   rw[gX e,b];exact i
theorem KV.any(r:KV a b)(k:κ):(a.any λkv=>decide (kv.1=k))=b.any λkv=>decide (kv.1=k):=by
 unfold KV at r
 induction r with
 |nil=>rfl|cons h t c=>rw[L0,L0,c,h.1]
theorem KV.repl(r:KV a c)(k:κ)(g:RelV y u) :
  KV (a.map λkv=>if kv.1=k then(kv.1,y)else kv) (c.map λkv=>if kv.1=k then(kv.1,u)else kv):=by
 unfold KV at r ⊢
 induction r with
 |nil=>exact .nil| @cons p q i j h t d =>
  rw[JR,JR];refine .cons ?_ d;obtain⟨b,f⟩:=h
  by_cases e:p.1=k;rw[JI e,JI (b.symm.trans e)];exact⟨b,g⟩;rw[JE e,JE (λz=>e (b.trans z))];exact⟨b,f⟩
theorem KV.put(r:KV a b)(k:κ)(c:RelV y u):KV (dS a k y) (stored b k u):=by
 unfold dS stored;rw[r.any k]
 by_cases e:(b.any λkv=>decide (kv.1=k))=true
 ·rw[JI e,JI e];exact r.repl k c
 ·rw[JE e,JE e];exact Paired.snoc r ⟨rfl,c⟩
theorem KV.length{a:List (κ×V)}(r:KV a b):a.length=b.length:=Paired.length r
end
theorem mB{P:Program}{w:World}{k:ag}{u:Value}(r:RelV (kV k) u):(aU P w).is k u=true:=by
 cases k with
 | inl i=>obtain⟨t,e⟩:=(show∃t,u=Value.int i t from r);subst e;exact pQ P w i t
 | inr x=>obtain⟨t,e⟩:=(show∃t,u=Value.str x t from r);subst e;exact pP P w x t
theorem mC{P:Program}{w:World}:∀{a:List ag}{us:List Value},aN (a.map kV) us->ItemsAre (aU P w) a us
 |[],_,r=>by rw[KO]at r;cases r;exact .nil|k::a,_,r=>by
  rw[JR]at r;cases r with
  |cons h t=>exact .cons (mB h) (mC t)
noncomputable abbrev KT(H:Hp):List (List ag×V)->List (List ag×Addr×Value)->Prop:=Paired λp q=>p.1=q.1/\H q.2.1=some (.tup (p.1.map kV))/\RelV p.2 q.2.2
theorem KT.val(r:KT H a f)(k:List ag):jV (fB a k) ((atKey f k).map (·.2)):=by
 induction r with
 |nil=>exact True.intro| @cons p q l d h t i =>
  obtain⟨g,_,j⟩:=h
  by_cases e:p.1=k
  ·have c :q.1=k:=g.symm.trans e
   have b:atKey (q::d) k=some q.2:=by simp[atKey,Kd,c]
   rw[gW e,b];exact j
  ·have c :¬q.1=k:=λz=>e (g.trans z)
   have b:atKey (q::d) k=atKey d k:=by simp[atKey,Kd,c]
   rw[gX e,b];exact i
theorem KT.repl(r:KT H a d)(k:List ag)(f:RelV y u) :
  KT H (a.map λkv=>if kv.1=k then(kv.1,y)else kv) (d.map (putAt k u)):=by
 induction r with
 |nil=>exact .nil| @cons p q j l h t i =>
  rw[JR,JR];refine .cons ?_ i;obtain⟨b,c,g⟩:=h;unfold putAt
  by_cases e:p.1=k;rw[JI e,JI (b.symm.trans e)];exact⟨b,c,f⟩;rw[JE e,JE (λz=>e (b.trans z))];exact⟨b,c,g⟩
theorem KT.put(r:KT H a c)(k:List ag)(f:H b=some (.tup (k.map kV)))(d:RelV y u) :
  KT H (dS a k y) (storedH c k b u):=by
 have e:(a.any λkv=>decide (kv.1=k))=(atKey c k).isSome:=by rw[oW,(r.val k).isSome_eq,Option.isSome_map]
 unfold dS storedH;rw[e]
 by_cases q:(atKey c k).isSome=true;rw[JI q,JI q];exact r.repl k d;rw[JE q,JE q];exact Paired.snoc r ⟨rfl,f,d⟩
theorem KT.keeps(r:KT H a c)(f:∀b e,H b=some (.tup e)->d b=some (.tup e)):KT d a c := Paired.mapP r λ_ _ z=>⟨z.1,f _ _ z.2.1,z.2.2⟩
section
variable{P:Program}{w:World}{H:Hp}{h:Heap}{a:Addr}
theorem DB(b:fR P w H h)(e:Rd H a u):am P w H h a u:=e.ok b
theorem jZ(d:fR P w H h)(e:Rd H a (.dK b)):b.length<=sizeLine/\(a==sysModules)=false/\∃c,KV b c/\h.DictOf (aU P w) a c := show am P w H h a (.dK b)from DB d e
theorem qH(d:fR P w H h)(e:H a=some (.dK b)):b.length<=sizeLine/\(a==sysModules)=false/\∃c,KV b c/\h.DictOf (aU P w) a c:=jZ d (.inl e)
theorem kc(f:fR P w H h)(e:H a=some (.tup (b.map kV))):(tupleKind (aU P w)).is h b a:=by obtain⟨_,c,r,o,g,i,n,d,_⟩:=(show am P w H h a (.tup (b.map kV))from f a _ e);exact⟨o,c.toArray,n,g,i,d,by simpa using mC r⟩
theorem mI(g:fR P w H h)(e:Rd H a (.dT b)):b.length<=sizeLine/\(a==sysModules)=false /\ ∃d,KT H b d/\h.DictOfH (tupleKind (aU P w)) a d:=by
 obtain⟨z,y,d,r,o,k,B,A,j,u,s,n⟩:=(show am P w H h a (.dT b)from DB g e);refine⟨z,y,d,r,o,k,B,A,j,u,s,λx c=> ?_,n⟩;have f:∀{l:List (List ag×V)}{m:List (List ag×Addr×Value)},KT H l m->∀x∈m,(tupleKind (aU P w)).is h x.1 x.2.1:=by
  intro l m q
  induction q with
  |nil=>intro x c;exact nomatch c| @cons p q C D i t v =>
   intro x c
   rcases JU.mp c with e|c
   ·subst e
    exact kc g (by rw[<- i.1];exact i.2.1)
   ·exact v x c
 exact f r x c
theorem IK(d:fR P w H h)(e:H a=some (.dT b)):b.length<=sizeLine/\(a==sysModules)=false /\ ∃c,KT H b c/\h.DictOfH (tupleKind (aU P w)) a c:=mI d (.inl e)
end
noncomputable def iQ(H:Hp)(a:Addr)(y:V)(r:Option V):Prop :=
 (∃c k,Rd H a (.dK c)/\y=kV k/\r=fB c k)\/∃c k b,Rd H a (.dT c)/\y=.ref b/\H b=some (.tup (k.map kV))/\r=fB c k
noncomputable def qe(H:Hp)(a:Addr)(y v:V)(d :Hp):Prop :=
 (∃c k,H a=some (.dK c)/\y=kV k/\c.length<sizeLine/\d =upd H a (.dK (dS c k v))) \/ ∃c k b,H a=some (.dT c)/\y=.ref b/\H b=some (.tup (k.map kV))/\c.length<sizeLine/\d =upd H a (.dT (dS c k v))
theorem iQ.k{H:Hp}{a:Addr}{b:List (ag×V)}{k:ag}(e:H a=some (.dK b)):iQ H a (kV k) (fB b k):=.inl ⟨b,k,.inl e,rfl,rfl⟩
theorem iQ.t{k:List ag}(e:H a=some (.dT c))(d:H b=some (.tup (k.map kV))):iQ H a (.ref b) (fB c k):=.inr ⟨c,k,b,.inl e,rfl,d,rfl⟩
theorem qe.k{H:Hp}{a:Addr}{b:List (ag×V)}{k:ag}{v:V}(e:H a=some (.dK b))(c:b.length<sizeLine):qe H a (kV k) v (upd H a (.dK (dS b k v))):=.inl ⟨b,k,e,rfl,c,rfl⟩
theorem qe.t{c:List (List ag×V)}{k:List ag}(e:H a=some (.dT c))(f:H b=some (.tup (k.map kV)))(d:c.length<sizeLine) :
  qe H a (.ref b) v (upd H a (.dT (dS c k v))):=.inr ⟨c,k,b,e,rfl,f,d,rfl⟩
section
variable{X:Cx}{pins:List (Addr×Obj)}{σ:St}{H:Hp}{s:Shared}{a:Addr}{y v:V}{u r:Value}{o:Option V}{A:Around}{E:Value->Shared->Prop}
theorem Inv.big(I:Inv X pins σ H s):sysModules<s.heap.objs.size:=by have h:mainGlobals<s.heap.objs.size:=(I.mod.glob.keeps I.bk).lt;exact LZ (by decide) h
theorem vt(F:A.units+1<cLine)(I:Inv X pins σ H s)(g:iQ H a y (some v))(t:RelV y u)(h:∀f x,Inv X pins σ H x ->RelV v f ->Q f x) :
  wpAny (model X.prog X.w) A (getItem (.ref a) u) Q E s:=by
 rcases g with⟨m,k,e,n,l⟩|⟨m,k,b,e,n,B,l⟩
 ·subst n
  obtain⟨z,D,C,d,q⟩:=jZ I.hok e;obtain⟨f,i,c⟩:=jV.some_of (v:=v) (o:=valueAt C k) (by rw[l];exact d.val k);exact wpAny_getItem_of (mB t) q.mapOf i (h f _ (I.tok _) c)
 ·subst n
  cases(show u=Value.ref b from t);obtain⟨z,D,G,d,q⟩:=mI I.hok e;obtain⟨f,i,c⟩:=jV.some_of (v:=v) (o:=(atKey G k).map (·.2)) (by rw[l];exact d.val k);obtain⟨p,J,j⟩:=Option.map_eq_some_iff.mp i;refine wpAny_getItem_heap (Ma F) (kc I.hok B) q J ?_;rw[j];exact h f _ (I.tok _) c
theorem d_in(t:A.units+1<cLine)(I:Inv X pins σ H s)(g:iQ H a y o)(m:RelV y u)(h:∀n,Inv X pins σ H n ->Q (.bool o.isSome) n) :
  wpAny (model X.prog X.w) A (compareOp .In u (.ref a)) Q E s:=by
 rcases g with⟨f,k,e,i,l⟩|⟨f,k,b,e,i,p,l⟩
 ·subst i
  obtain⟨z,d,x,c,j⟩:=jZ I.hok e;refine wpAny_in_of (mB m) d j.mapOf ?_;rw[<- (c.val k).isSome_eq,<-l];exact h _ (I.tok _)
 ·subst i
  cases(show u=Value.ref b from m);obtain⟨z,d,B,c,j⟩:=mI I.hok e;refine wpAny_in_heap (Ma t) (kc I.hok p) d j ?_;have q:=(c.val k).isSome_eq;rw[Option.isSome_map]at q;rw[<- q,<-l];exact h _ (I.tok _)
theorem nW(I:Inv X pins σ H s)(g:Iw (H a))(j:Heap.SameBut a s.heap c)(i:∃q,c.get? a=some q)(f:am X.prog X.w (upd H a d) c a d) :
  Inv X pins σ (upd H a d) {s with heap:=c,toks:=h} :=
 I.write (x:=a) (e:=a) g (.inl rfl) (λb q hb z=>(j.2 b hb).trans z) i f
theorem sC{P:Program}{w:World}{H' :Hp}{h' :Heap}{kvs:List (ag×V)}{vs:List (ag×Value)}(z:kvs.length<=sizeLine)(hd:(a==sysModules)=false)(rel:KV kvs vs)(dd:h'.DictOf (aU P w) a vs) :
  am P w H' h' a (.dK kvs):=⟨z,hd,vs,rel,dd⟩
theorem vq{H' :Hp}{Q:Unit->Shared->Prop}(hu:A.units+1<cLine)(I:Inv X pins σ H s)(g:qe H a y v H')(ry:RelV y u)(rv:RelV v r)(h:∀s',Inv X pins σ H' s' ->Q () s') :
  wpAny (model X.prog X.w) A (setItem (.ref a) u r) Q E s:=by
 rcases g with⟨kvs,k,e,ey,l,eH⟩|⟨kvs,k,b,e,ey,eb,l,eH⟩
 ·subst ey eH
  obtain⟨z,hd,vs,rel,dd⟩:=qH I.hok e;have hz:vs.length<=sizeLine:=by rw[<- rel.length];exact z
  have hl:(dS kvs k v).length<=sizeLine:=by have:=fG kvs k v;omega
  refine wpAny_setItem_pairs (hsz:=hz) (mB ry) dd fun h' dd' hs=>h _ ?_;have he:∃q,h'.get? a=some q:=let⟨q,_,_,hq,_⟩:=dd';⟨q,hq⟩
  exact nW I (by rw[e];exact True.intro) hs he (sC hl hd (rel.put k rv) dd')
 ·subst ey eH
  cases(show u=Value.ref b from ry);obtain⟨z,hd,xs,rel,dd⟩:=IK I.hok e;have hz:xs.length<=sizeLine:=by rw[<- Paired.length rel];exact z
  have hl:(dS kvs k v).length<=sizeLine:=by have:=fG kvs k v;omega
  refine wpAny_setItem_heap (hsz:=hz) (Ma hu) (kc I.hok eb) dd fun h' dd' hs=>h _ ?_;obtain⟨q,es,ep,hq,h2,h3,h4,_,h5⟩:=dd';refine nW I (by rw[e];exact True.intro) hs ⟨q,hq⟩ ⟨hl,hd,_,(rel.put k eb rv).keeps fun c ys ec=> ?_,q,es,ep,hq,h2,h3,h4,h5⟩;rw[aA (He ec e (fun z=>nomatch z))];exact ec
end
section
variable{X:Cx}{pins:List (Addr×Obj)}{σ:St}{H:Hp}{s:Shared}{a:Addr}{kvs:List (ag×V)}{k:ag}{u:Value}{A:Around}{E:Value->Shared->Prop}
theorem IP(I:Inv X pins σ H s)(e:Rd H a (.dK kvs))(h:∀t c,Inv X pins σ H c ->Q (.int kvs.length t) c):wpAny (model X.prog X.w) A (call (.builtin "len") [.ref a]) Q E s:=by obtain⟨z,f,g,b,d⟩:=jZ I.hok e;refine call_len_dict f d (by rw[<- b.length];rw[Ka]at z;omega) ?_;rw[<- b.length];exact h _ _ (I.tok _)
end
noncomputable def GJ(i:Expr):Prop:=∀a b,subscripted i false a b=operate [a,b] (getItem a b)
theorem Ar
  (k:typeLookup (.type T) "__getitem__"=pure (some (.builtin j))) (l:GJ b)
  (h:wpAny (model a w) A (eval c e) (λo s₁=>wpAny (model a w) A (eval b e) (λi s₂=>s₂.TypeIs o T/\wpAny (model a w) A (getItem o i) Q E s₂) E s₁) E s) :
  wpAny (model a w) A (eval (.Subscript c b pos) e) Q E s:=by
 refine Subscript_ (K0 h (λo s₁ h₁=>K0 h₁ (λi s₂ d=> ?_) λ_ _ x=>x) λ_ _ x=>x);obtain⟨g,d⟩:=d;unfold subscriptTail;refine JD ?_;rw[getitemInPython_of_ne g.not_modules];refine JD (wpAny_specialOf g k ?_);have f:wpAny (model a w) A (subscripted b false o i) (λr s₃=>wpAny (model a w) A (letTemporaryGo c o r >>= λ_=>pure r) Q E s₃) E s₂:=by rw[l o i];exact wpAny_operating (K0 d (λr s₃ h₃=>JD (wpAny_letTemporaryGo (Ja h₃))) λ_ _ x=>x)
 first
  |exact Ja (JD f)
  |exact JD (Ja (JD f))
  |exact JD f
theorem qJ(I:Inv X c h H s)(g:iQ H a y o):s.TypeIs (.ref a) "dict":=by
 rcases g with⟨d,k,e,_,_⟩|⟨d,k,b,e,_,_,_⟩
 ·obtain⟨_,_,j,_,f⟩:=jZ I.hok e
  exact f.typeIs
 ·obtain⟨_,_,i,_,f⟩:=mI I.hok e
  exact f.typeIs
noncomputable def Gs(b c:TE):TE:=λσ H Q=>b σ H λx H1=>c σ H1 λy H2=>∃a v,x=.ref a/\iQ H2 a y (some v)/\Q v H2
noncomputable def G9(e d c:TE):TS:=λD σ H=>c σ H λv H1=>e σ H1 λx H2=>d σ H2 λy H3=>∃a b,x=.ref a/\qe H3 a y v b/\D.nx σ b
section
variable{X:Cx}{o i e value:Expr}{pos pos' tpos:Pos}{td ty tv:TE}
theorem tj(l:X.A.units+1<cLine)(j:PE X o td)(f:PE X i ty)(q:GJ i):PE X (.Subscript o i pos) (Gs td ty):=by intro b s c H Q I h;refine Ar PySem.F.slot_dict_getitem.lookup q (ak (j b s c H _ I h) λu s1 ⟨x,H1,I1,rx,q1⟩=>ak (f b s1 c H1 _ I1 q1) λiv s2 hpq=> ?_);obtain⟨y,p,d,k,a,v,m,g,n⟩:=hpq;subst m;obtain rfl:u=Value.ref a:=rx;exact⟨qJ d g,vt l d g k λw' s3 I3 rw' =>⟨v,p,I3,rw',n⟩⟩
theorem tY(k:X.A.units+1<cLine)(f:PE X o td)(j:PE X i ty)(d:PE X value tv)(l:swapsWith value (some (.Subscript o i pos')) pos.line X.env=pure false) :
  PS X (.Assign [.Subscript o i pos'] value pos) (G9 td ty tv):=by
 intro b s c H D I h;refine wpAny_Assign_Subscript (ak (d b s c H _ I h) λr s1 ⟨v,H1,I1,rv,q1⟩=>ak (f b s1 c H1 _ I1 q1) λu s2 ⟨x,H2,I2,rx,q2⟩=>ak (j b s2 c H2 _ I2 q2) λiv s3 ⟨y,H3,I3,ry,a,H4,ex,g,q3⟩=> ?_) l;subst ex;obtain rfl:u=Value.ref a:=rx;exact vq k I3 g ry rv λs4 I4=>⟨c,H4,I4,q3⟩
end
theorem qI{P:Program}{w:World}{H:Hp}(h:Heap)(hb:sysModules<h.objs.size):am P w H (h.push {cls:=.type "dict",data:=.dict #[]}) h.objs.size (.dK []) :=
 ⟨J0 _,MJ.mpr (L1 (Jg hb)),[],.nil,Heap.DictOf.new h⟩
noncomputable def Di:TE:=λ_ H Q=>∀p,H p=none->Q (.ref p) (upd H p (.dK []))
section
variable{X:Cx}{pos:Pos}
theorem pI:PE X (.Dict [] [] pos) Di:=λpins s σ H Q I h =>
 wpAny_Dict_empty ⟨.ref s.heap.objs.size,_,I.laid (a:=s.heap.objs.size) (o:=.dK []) (t' :=s.toks) (λ_ _ q=>JG _ q) (JH _) (qI s.heap I.big),rfl,h _ (I.hok.fresh (JH _))⟩
end
noncomputable def rB:List (TE×TE)->St->Hp->(List (V×V)->Hp->Prop)->Prop
 |[],_,H,Q=>Q [] H|(tk,tv)::r,σ,H,Q=>tk σ H λx H1=>tv σ H1 λy H2=>rB r σ H2 λps H3=>Q ((x,y)::ps) H3
noncomputable abbrev VV:List (V×V)->List (Value×Value)->Prop:=Paired λp q=>RelV p.1 q.1/\RelV p.2 q.2
noncomputable def PPs(X:Cx)(pos:Pos)(c:List (Option Expr))(a:List Expr)(d:List (TE×TE)):Prop :=
 ∀(b:List (Addr×Obj))(s:Shared)(e:St)(H:Hp)(Q:List (V×V)->Hp->Prop),Inv X b e H s->rB d e H Q -> wpAny (model X.prog X.w) X.A (evalPairs (pairTrees c a X.env pos)) (λvs s' =>∃g f,Inv X b e f s' /\VV g vs/\Q g f) X.xe s
theorem BH:PPs X pos [] [] []:=λpins s σ H Q I h=>pairTrees_nil_walk ⟨[],H,I,.nil,h⟩
theorem xo(i:PE X k d)(f:PE X v b)(g:PPs X pos c e a) :
  PPs X pos (some k::c) (v::e) ((d,b)::a):=λpins s σ H Q I h =>
 pairTrees_cons_walk (ak (i pins s σ H _ I h) λu s1 ⟨x,H1,I1,rx,q1⟩=>ak (f pins s1 σ H1 _ I1 q1) λw2 s2 ⟨y,H2,I2,ry,q2⟩ =>ak (g pins s2 σ H2 _ I2 q2) λws s3 ⟨ps,H3,I3,rel,q3⟩=>⟨(x,y)::ps,H3,I3,.cons ⟨rx,ry⟩ rel,q3⟩)
noncomputable def gM(b a:List (ag×V)):List (ag×V):=a.foldl (λacc kv=>dS acc kv.1 kv.2) b
theorem KV.merge:∀{b:List (ag×V)}{d:List (ag×Value)}{a:List (ag×V)}{c:List (ag×Value)},KV b d->KV a c->KV (gM a b) (merged c d):=by
 intro b d a c r;unfold KV at r
 induction r generalizing a c with
 |nil=>intro q;exact q| @cons p q i j h t f =>
  intro g;have e:KV (dS a p.1 p.2) (stored c q.1 q.2):=by have:=g.put p.1 h.2;rw[<- h.1];exact this
  exact f e
theorem gB:∀(b a:List (ag×V)),(gM a b).length<=a.length+b.length
 |[],a=>by show a.length<=a.length+0;omega|p::r,a=>by have c:=gB r (dS a p.1 p.2);have d:=fG a p.1 p.2;show(gM (dS a p.1 p.2) r).length<=_;rw[JY];omega
theorem lD{P:Program}{w:World}:∀{d:List (ag×V)}{f:List (Value×Value)},VV (d.map λkv=>(kV kv.1,kv.2)) f->∃e,Carries (aU P w) f e/\KV d e
 |[],_,r=>by rw[KO]at r;cases r;exact⟨[],True.intro,.nil⟩|p::d,_,r=>by
  rw[JR]at r;cases r with
  | @cons a b i j h t =>obtain⟨e,c,q⟩:=lD (P:=P) (w:=w) t;obtain⟨b1,g⟩:=b;exact⟨(p.1,g)::e,⟨mB h.1,rfl,c⟩,.cons ⟨rfl,h.2⟩ q⟩
noncomputable def Gq(b:List (TE×TE)):TE:=λσ H Q=>∀p,H p=none->rB b σ (upd H p (.dK [])) λps H2=>H2 p=some (.dK [])/\∃a:List (ag×V),ps=a.map (λkv=>(kV kv.1,kv.2))/\a.length<=15/\Q (.ref p) (upd H2 p (.dK (gM [] a)))
theorem BM(h:PPs X pos b d g)(i:b.all (·.isSome)=true)(A:b.length=d.length)(x:b≠[])
  (k:b.length<=15):PE X (.Dict b d pos) (Gq g):=by
 intro f s n H Q I q;have C:=I.hok.fresh (JH s.heap.objs.size);have J:=I.laid (a:=s.heap.objs.size) (o:=.dK []) (h' :=s.heap.push {cls:=.type "dict",data:=.dict #[]}) (t' :=s.toks) (λ_ _ q=>JG _ q) (JH _) (qI s.heap I.big);refine wpAny_Dict_walk (knd:=aU X.prog X.w) i A x k (ak (h f _ n _ _ J (q _ C)) λws s2 hpq=> ?_);obtain⟨K,M,m,l,e,j,D,L,E⟩:=hpq;subst D;obtain⟨r,c,t⟩:=lD (P:=X.prog) (w:=X.w) l;obtain⟨z,p,F,u,G⟩:=qH m.hok e;cases u;refine⟨r,c,G,λh' dd' hs=>⟨.ref s.heap.objs.size,_,?_,rfl,E⟩⟩;have v:(gM [] j).length<=sizeLine:=by have y:=gB j [];rw[MI]at y;rw[Ka];omega
 have B:∃q,h'.get? s.heap.objs.size=some q:=let⟨q,_,_,hq,_⟩:=dd';⟨q,hq⟩
 exact nW m (by rw[e];exact True.intro) hs B (sC v p (t.merge .nil) dd')
structure M2(X:Cx)(o:Expr)(m:Str)(apos:Pos)(e f:Expr)(cpos:Pos):Prop where
 base:attributeBase o m X.env (eval o X.env)=eval o X.env
 few:((backTo cpos (starEach [e,f] X.env)).all (fun x=> !x.1)&&(backToKw cpos (keywordEach [] X.env)).all (fun x=>x.1.isSome)
  && decide (([e,f]:List Expr).length+([]:List Keyword).length+(if([]:List Keyword).isEmpty then 0 else 1)<30))=true
 line:(apos.endLine==cpos.line)=true
 trees:backTo cpos (starEach [e,f] X.env)=[(false,eval e X.env),(false,eval f X.env)]
noncomputable def IsD(H:Hp)(a:Addr):Prop:=(∃b,Rd H a (.dK b))\/∃b,Rd H a (.dT b)
theorem Ex(I:Inv X f l H s)(d:IsD H a) :
  s.TypeIs (.ref a) "dict"/\(∀b,Value.ref a=.ref b->∃c,s.heap.get? b=some c/\c.dict=none)/\(a==sysModules)=false:=by
 rcases d with⟨h,e⟩|⟨h,e⟩
 ·obtain⟨_,k,n,_,g⟩:=jZ I.hok e
  refine⟨g.typeIs,λb q=> ?_,k⟩;cases q;obtain⟨c,_,_,i,j,_⟩:=g;exact⟨c,i,j.2.1⟩
 ·obtain⟨_,k,m,_,g⟩:=mI I.hok e
  refine⟨g.typeIs,λb q=> ?_,k⟩;cases q;obtain⟨c,_,_,i,j,_⟩:=g;exact⟨c,i,j.2.1⟩
section
variable{X:Cx}{pins:List (Addr×Obj)}{σ:St}{H:Hp}{s:Shared}{a:Addr}{y d:V}{u r:Value}{o:Option V}{A:Around}{E:Value->Shared->Prop}
theorem Fb(x:A.units+1<cLine)(I:Inv X pins σ H s)(g:iQ H a y o)(q:RelV y u)(p:RelV d r)(h:∀n t,Inv X pins σ H t ->RelV (o.getD d) n ->Q n t) :
  wpAny (model X.prog X.w) A (call (.builtin "dict.get") [.ref a,u,r]) Q E s:=by
 rcases g with⟨j,k,e,m,l⟩|⟨j,k,b,e,m,v,l⟩
 ·subst m
  obtain⟨z,i,C,c,f⟩:=jZ I.hok e;refine call_meetsIn PySem.F.slot_dict_get f.typeIs PySem.F.entry_dict_get (PySem.F.args_dict_get_3 _ _ _) (meets_dict_get_default (aU X.prog X.w) a (mB q) i r) ⟨_,f.mapOf,h _ _ (I.tok _) ?_⟩;rw[l];exact(c.val k).getD p
 ·subst m
  cases(show u=Value.ref b from q);obtain⟨z,i,B,c,f⟩:=mI I.hok e;refine call_meetsIn PySem.F.slot_dict_get f.typeIs PySem.F.entry_dict_get (PySem.F.args_dict_get_3 _ _ _) (meetsH_dict_get_default (tupleKind (aU X.prog X.w)) a b i r) ⟨Ma x,k,B,kc I.hok v,f,h _ _ (I.tok _) ?_⟩;rw[l];exact(c.val k).getD p
end
noncomputable def Dj(d b c:TE):TE:=λσ H Q=>d σ H λx H1=>∃a,x=.ref a/\IsD H1 a/\b σ H1 λy H2=>c σ H2 λz H3=>∃o,iQ H3 a y o/\Q (o.getD z) H3
section
variable{X:Cx}{o e f:Expr}{apos cpos:Pos}{td ty tx:TE}
theorem yG(p:X.A.units+1<cLine)(l:PE X o td)(n:PE X e ty)(v:PE X f tx)(m:M2 X o "get" apos e f cpos):PE X (.Call (.Attribute o "get" apos) [e,f] [] cpos) (Dj td ty tx):=by
 intro b s c H Q I h;refine wpAny_Call_method m.base m.few m.line PySem.F.plainAttrs_dict PySem.F.slot_dict_get PySem.F.type_dict_get (ak (l b s c H _ I h) λu s1 hpq=> ?_);obtain⟨x,r,i,j,a,q,d,t⟩:=hpq;subst q;obtain rfl:u=Value.ref a:=j;obtain⟨t1,k,_⟩:=Ex i d;refine⟨t1,k,?_⟩;rw[m.trees]
 refine MH rfl (Calls.evalArgs_plain (Calls.spliced_cons (ak (n b s1 c r _ i t) λiv s2 ⟨y,H2,I2,ry,q2⟩ =>Calls.spliced_cons (ak (v b s2 c H2 _ I2 q2) λfv s3 ⟨z,H3,I3,rz,ov,g,q3⟩=>Calls.spliced_nil ?_))))
 exact Fb p I3 g ry rz λw' s4 I4 rw' =>⟨_,H3,I4,rw',q3⟩
end
section
variable{X:Cx}{pins:List (Addr×Obj)}{σ:St}{H:Hp}{s:Shared}{a:Addr}{kvs:List (ag×V)}{A:Around}{E:Value->Shared->Prop}
theorem zS(I:Inv X pins σ H s)(e:Rd H a (.dK kvs))(h:∀p d,H p=none->Inv X pins σ (upd H p (.dK kvs)) d ->Q (.ref p) d):wpAny (model X.prog X.w) A (call (.type "dict") [.ref a]) Q E s:=by obtain⟨z,g,i,c,f⟩:=jZ I.hok e;refine kt_call_dict g f (by rw[<- c.length];exact z) λh' dd' hs=> ?_;refine h _ _ (I.hok.fresh (JH _)) (I.laid (a:=s.heap.objs.size) (o:=.dK kvs) (t' :=s.toks) (λb q hq=> ?_) (JH _) (sC z (MJ.mpr (L1 (Jg I.big))) c dd'));exact(hs.2 b (Jg (JV hq))).trans (JG _ hq)
end
noncomputable def txt(a:List Nat):Str:=⟨a.toArray⟩
theorem kd:∀a:List Nat,Str.join ⟨#[]⟩ (a.map λc=>(⟨#[c]⟩:Str))=txt a
 |[]=>rfl|[c]=>rfl|c::d::a=>by
  have b:=kd (d::a);show(⟨#[c]⟩:Str)++⟨#[]⟩++Str.join ⟨#[]⟩ ((d::a).map λc=>(⟨#[c]⟩:Str))=_;rw[b]
  apply UM.jo
  rw[MF,MF];simp[txt]
noncomputable def cd(a:List Str)(i j:Nat):Nat:=((a.getD i ⟨#[]⟩).cps.toList).getD j 0
noncomputable def fl(c:Nat):Nat:=if c=120 then 46 else 120
noncomputable def Wd(a:List Str)(w:Nat):Prop:=∀r∈a,r.length=w
theorem IZ(f:Wd a w)(c:i<a.length)(g:j<w):∃z,a[i]? =some z/\z.cps.toList[j]? =some (cd a i j)/\z.length=w:=by
 have e:a[i]? =some a[i]:=JN c;have d:=f a[i] (KY c);have b :j<a[i].cps.toList.length:=by rw[JZ];show j<a[i].length;omega
 refine⟨a[i],e,?_,d⟩;unfold cd;rw[JQ,JQ,e,Option.getD_some,JN b,Option.getD_some]
open AutoSeq1 (wpAny_loadPart')
theorem jF:fillsNumberSlot (.type "tuple") "mul"=pure false := PySem.fillsNumberSlot_seq (id:="tuple.__mul__") (r:=some (.builtin "tuple.__rmul__")) F.slot_tuple_mul.lookup (by decide +kernel) F.slot_tuple_rmul.lookup (by decide +kernel)
theorem mn:seqRepeat? (.type "tuple")=pure (some (.builtin "tuple.__mul__")):=by unfold seqRepeat?;rw[PySem.seqSlot_of (T:="tuple") (name:="__mul__") (id:="tuple.__mul__") F.slot_tuple_mul.lookup (by decide +kernel),PySem.seqSlot_of (T:="tuple") (name:="__rmul__") (id:="tuple.__rmul__") F.slot_tuple_rmul.lookup (by decide +kernel)];rfl
theorem rG(a:Int)(t:Tok)(l:Addr)(b:Array Value)(n:Nat)(e:Option Addr)(c:Array (Option Value)) :
  Meets (Builtin.«int.__rmul__» ⟨[.int a t,.ref l],[]⟩) (λ_ R s=>s.heap.get? l=some {cls:=.type "tuple",dict:=e,data:=.seq b n,slots:=c}/\R (.ok (.ret Value.notImplemented)) s) :=
 .of_wp λprog w A R s h=>by
  obtain⟨f,g,d,j,i⟩:=s;obtain⟨k,h⟩:=h
  wp_walk
  exact⟨_,rfl,h⟩
theorem qt(l:Addr)(v:Value)(n:Nat)(b:Option Addr)(a:Array (Option Value))(u:Tok) :
  Meets (Builtin.«tuple.__mul__» ⟨[.ref l,.int 8 u],[]⟩) (λ_ R s=>s.heap.get? l=some {cls:=.type "tuple",dict:=b,data:=.seq #[v] n,slots:=a} /\ R (.ok (.ret (.ref s.heap.objs.size))) {s with heap:=s.heap.push {cls:=.type "tuple",data:=.seq [v,v,v,v,v,v,v,v].toArray}}) :=
 .of_wp λprog w A R s h=>by
  obtain⟨e,g,d,i,f⟩:=s;obtain⟨c,h⟩:=h;have j:=Ld
  wp_walk using J8 c
  exact⟨_,rfl,h⟩
open AutoSeq1 (wpAny_loadPart')
theorem qz(l:Addr)(v:Value)(n:Nat)(b:Option Addr)(a:Array (Option Value))(u:Tok) :
  Meets (Builtin.«tuple.__mul__» ⟨[.ref l,.int 2 u],[]⟩) (λ_ R s=>s.heap.get? l=some {cls:=.type "tuple",dict:=b,data:=.seq #[v] n,slots:=a} /\ R (.ok (.ret (.ref s.heap.objs.size))) {s with heap:=s.heap.push {cls:=.type "tuple",data:=.seq [v,v].toArray}}) :=
 .of_wp λprog w A R s h=>by
  obtain⟨e,g,d,i,f⟩:=s;obtain⟨c,h⟩:=h;have j:=Ld
  wp_walk using J8 c
  exact⟨_,rfl,h⟩
theorem qy(l:Addr)(v:Value)(n:Nat)(b:Option Addr)(a:Array (Option Value))(u:Tok) :
  Meets (Builtin.«tuple.__mul__» ⟨[.ref l,.int 3 u],[]⟩) (λ_ R s=>s.heap.get? l=some {cls:=.type "tuple",dict:=b,data:=.seq #[v] n,slots:=a} /\ R (.ok (.ret (.ref s.heap.objs.size))) {s with heap:=s.heap.push {cls:=.type "tuple",data:=.seq [v,v,v].toArray}}) :=
 .of_wp λprog w A R s h=>by
  obtain⟨e,g,d,i,f⟩:=s;obtain⟨c,h⟩:=h;have j:=Ld
  wp_walk using J8 c
  exact⟨_,rfl,h⟩
theorem qx(l:Addr)(v:Value)(n:Nat)(b:Option Addr)(a:Array (Option Value))(u:Tok) :
  Meets (Builtin.«tuple.__mul__» ⟨[.ref l,.int 4 u],[]⟩) (λ_ R s=>s.heap.get? l=some {cls:=.type "tuple",dict:=b,data:=.seq #[v] n,slots:=a} /\ R (.ok (.ret (.ref s.heap.objs.size))) {s with heap:=s.heap.push {cls:=.type "tuple",data:=.seq [v,v,v,v].toArray}}) :=
 .of_wp λprog w A R s h=>by
  obtain⟨e,g,d,i,f⟩:=s;obtain⟨c,h⟩:=h;have j:=Ld
  wp_walk using J8 c
  exact⟨_,rfl,h⟩
theorem qw(l:Addr)(v:Value)(n:Nat)(b:Option Addr)(a:Array (Option Value))(u:Tok) :
  Meets (Builtin.«tuple.__mul__» ⟨[.ref l,.int 5 u],[]⟩) (λ_ R s=>s.heap.get? l=some {cls:=.type "tuple",dict:=b,data:=.seq #[v] n,slots:=a} /\ R (.ok (.ret (.ref s.heap.objs.size))) {s with heap:=s.heap.push {cls:=.type "tuple",data:=.seq [v,v,v,v,v].toArray}}) :=
 .of_wp λprog w A R s h=>by
  obtain⟨e,g,d,i,f⟩:=s;obtain⟨c,h⟩:=h;have j:=Ld
  wp_walk using J8 c
  exact⟨_,rfl,h⟩
theorem qv(l:Addr)(v:Value)(n:Nat)(b:Option Addr)(a:Array (Option Value))(u:Tok) :
  Meets (Builtin.«tuple.__mul__» ⟨[.ref l,.int 6 u],[]⟩) (λ_ R s=>s.heap.get? l=some {cls:=.type "tuple",dict:=b,data:=.seq #[v] n,slots:=a} /\ R (.ok (.ret (.ref s.heap.objs.size))) {s with heap:=s.heap.push {cls:=.type "tuple",data:=.seq [v,v,v,v,v,v].toArray}}) :=
 .of_wp λprog w A R s h=>by
  obtain⟨e,g,d,i,f⟩:=s;obtain⟨c,h⟩:=h;have j:=Ld
  wp_walk using J8 c
  exact⟨_,rfl,h⟩
theorem qu(l:Addr)(v:Value)(n:Nat)(b:Option Addr)(a:Array (Option Value))(u:Tok) :
  Meets (Builtin.«tuple.__mul__» ⟨[.ref l,.int 7 u],[]⟩) (λ_ R s=>s.heap.get? l=some {cls:=.type "tuple",dict:=b,data:=.seq #[v] n,slots:=a} /\ R (.ok (.ret (.ref s.heap.objs.size))) {s with heap:=s.heap.push {cls:=.type "tuple",data:=.seq [v,v,v,v,v,v,v].toArray}}) :=
 .of_wp λprog w A R s h=>by
  obtain⟨e,g,d,i,f⟩:=s;obtain⟨c,h⟩:=h;have j:=Ld
  wp_walk using J8 c
  exact⟨_,rfl,h⟩
theorem qr(l:Addr)(v:Value)(n:Nat)(b:Option Addr)(a:Array (Option Value))(u:Tok)(N:Int)(c:2<=N)(d:N<=8) :
  Meets (Builtin.«tuple.__mul__» ⟨[.ref l,.int N u],[]⟩) (λ_ R s=>s.heap.get? l=some {cls:=.type "tuple",dict:=b,data:=.seq #[v] n,slots:=a} /\ R (.ok (.ret (.ref s.heap.objs.size))) {s with heap:=s.heap.push {cls:=.type "tuple",data:=.seq (List.replicate N.toNat v).toArray}}):=by
 have:N=2\/N=3\/N=4\/N=5\/N=6\/N=7\/N=8:=by omega
 rcases this with rfl|rfl|rfl|rfl|rfl|rfl|rfl
 ·exact qz l v n b a u
 ·exact qy l v n b a u
 ·exact qx l v n b a u
 ·exact qw l v n b a u
 ·exact qv l v n b a u
 ·exact qu l v n b a u
 ·exact qt l v n b a u
section
variable{X:Cx}
theorem EU:d7 X (compareOp .Is) (λx y H Q=>∃b c,x=.bl b/\y=.bl c/\Q (.bl (b==c)) H):=by intro a s f H x y u v Q I d e h;obtain⟨b,c,rfl,rfl,q⟩:=h;cases d;cases e;exact is_bool ⟨.bl (b==c),H,I,rfl,q⟩
theorem xL:GX X (λx g e H Q=>∃z,x=.str z/\z.length<=sizeLine/\Q (.str (Txt.slice z g e)) H):=by
 intro b s p H x v y B g e A Q I o d w m h;obtain⟨z,rfl,c,q⟩:=h;obtain⟨t,rfl⟩:=o;refine⟨"str",_,slot_str_getitem.lookup,typeIs_str _ _ _,?_⟩;have a:∀r k,EP X b p Q (.str (Txt.slice z g e) r) {s with toks:=k}:=λt' k=>⟨.str _,H,I.tok _,⟨_,rfl⟩,q⟩;cases w with
 |none =>
  cases m with
  |none=>exact L9 (l:=none) (u:=none) (st:=none) d rfl (post_val_or_str ⟨Jw (Txt.slice_le z _ _) c,a⟩)|int j f=>exact L9 (l:=none) (u:=some (j,f)) (st:=none) d rfl (post_val_or_str ⟨Jw (Txt.slice_le z _ _) c,a⟩)
 |int i n =>
  cases m with
  |none=>exact L9 (l:=some (i,n)) (u:=none) (st:=none) d rfl (post_val_or_str ⟨Jw (Txt.slice_le z _ _) c,a⟩)|int j f=>exact L9 (l:=some (i,n)) (u:=some (j,f)) (st:=none) d rfl (post_val_or_str ⟨Jw (Txt.slice_le z _ _) c,a⟩)
theorem B5(k n:Nat):Builtin.Str.strSliceIndices none (some (k:Int)) 1 n=(List.range (min k n)).map λi=>0+i:=by
 unfold Builtin.Str.strSliceIndices sliceRange;have c:((if(0:Int)<max 0 (min (k:Int) (n:Int))then(max 0 (min (k:Int) (n:Int))-0+1-1)/1 else 0):Int).toNat=min k n:=by
  rw[Int.ediv_one]
  split<;>omega
 simp only[show(1:Int)>0 by decide,LX,show¬((k:Int)<0)by omega,Ly,c];refine Jv λi _=> ?_;omega
theorem B4(k n:Nat):Builtin.Str.strSliceIndices (some (k:Int)) none 1 n=(List.range (n-min k n)).map λi=>min k n+i:=by
 unfold Builtin.Str.strSliceIndices sliceRange;have c:((if max 0 (min (k:Int) (n:Int))<(n:Int)then((n:Int)-max 0 (min (k:Int) (n:Int))+1-1)/1 else 0):Int).toNat=n-min k n:=by
  rw[Int.ediv_one]
  split<;>omega
 simp only[show(1:Int)>0 by decide,LX,show¬((k:Int)<0)by omega,Ly,c];refine Jv λi _=> ?_;omega
theorem vD(z:Str)(k:Nat):(Txt.slice z none (some (k:Int))).cps.toList=z.cps.toList.take k:=by
 have l:z.cps.toList.length=z.length:=by rw[JZ];rfl
 have p:=StrLaws.picks z.cps.toList (min k z.length) 0 (by omega);have f:(λ(i:Nat)=>z.cps[i]?)=λi=>z.cps.toList[i]? :=by funext i;simp
 unfold Txt.slice;rw[B5]
 split
 ·rename_i h
  simp only[JC,Je,JJ,K3]at h;rw[Ki (by omega)]
 ·rw[f,p,List.drop_zero]
  show(List.take (min k z.length) z.cps.toList).toArray.toList=_;rw[List.toList_toArray,<-l,<-List.take_eq_take_min]
theorem vC(z:Str)(k:Nat):(Txt.slice z (some (k:Int)) none).cps.toList=z.cps.toList.drop k:=by
 have l:z.cps.toList.length=z.length:=by rw[JZ];rfl
 have p:=StrLaws.picks z.cps.toList (z.length-min k z.length) (min k z.length) (by omega);have f:(λ(i:Nat)=>z.cps[i]?)=λi=>z.cps.toList[i]? :=by funext i;simp
 unfold Txt.slice;rw[B4]
 split
 ·rename_i h
  simp only[JC,Je,JJ,K3]at h
  by_cases a:z.length=0
  ·have:z.cps.toList=[]:=List.eq_nil_of_length_eq_zero (by omega)
   rw[this];simp
  ·have:k=0:=by omega
   subst this;rfl
 ·rw[f,p]
  show(List.take (z.length-min k z.length) (List.drop (min k z.length) z.cps.toList)).toArray.toList=_;rw[List.toList_toArray,Ki (by rw[LU];omega)]
  by_cases h:k<=z.length;rw[Kn h];rw[Nat.min_eq_right (by omega),La (by omega),La (by omega)]
end
section
variable{P:Program}{w:World}{A:Around}{E:Value->Shared->Prop}{s:Shared}
theorem Ec(f:s.heap.IsTupleIter b a i)(n:s.heap.IsTuple a d)(j:d[i]? =some v)
  (k:∀g,g.IsTupleIter b a (i+1)->Heap.SameBut b s.heap g ->Q v {s with heap:=g}):wpAny (model P w) A (Builtin.SmallTypes.nextOf (.ref b)) Q E s:=by
 obtain⟨r,e,h,c⟩:=id f;obtain⟨q,m,_,o,l⟩:=n;unfold Builtin.SmallTypes.nextOf;refine JD (MA (name:=Str.ofString "__next__") f.typeIs F.slot_tuple_iterator_next (K9 F.slot_tuple_iterator_next f.typeIs F.entry_tuple_iterator_next ?_ (F.args_tuple_iterator_next_1 _)));show wpAny _ _ (field (.ref b) 0 >>= λ_=>_) _ _ s;refine JD (Lz e c (x:=.ref a) rfl ?_);show wpAny _ _ (if(Value.ref a==Value.none)=true then _ else _) _ _ s;rw[JE (by exact JS)];show wpAny _ _ (field (.ref b) 1 >>= λ_=>_) _ _ s;refine JD (Lz e c (x:=.int i 0) rfl ?_);show wpAny _ _ (seqItems? (.ref a) >>= λ_=>_) _ _ s;refine JD (wpAny_seqItems m l ?_);simp only[Kw,j];refine JD (wpAny_setField e c (by simp) (Ja ⟨v,rfl,Ja (k _ ?_ (Heap.SameBut.update ..))⟩));exact⟨_,Heap.get?_update_self _ e (Obj.isFreed_of_fields (Obj.data_mapFields c _)),(Obj.cls_mapFields ..).trans h,by rw[Obj.data_mapFields c];simp[rawInt]⟩
theorem rV(j:A.handled=none)(d:s.heap.IsTupleIter b a i)(t:s.heap.IsTuple a c)(l:c[i]? =none)
  (k:∀f e,Heap.ExtBut b s.heap f ->(∃o,f.get? e=some o/\o.cls=.type "StopIteration")->E (.ref e) {s with heap:=f}):wpAny (model P w) A (Builtin.SmallTypes.nextOf (.ref b)) Q E s:=by
 obtain⟨r,h,u,g⟩:=id d;obtain⟨q,p,_,v,n⟩:=t;unfold Builtin.SmallTypes.nextOf;refine JD (MA (name:=Str.ofString "__next__") d.typeIs F.slot_tuple_iterator_next (K9 F.slot_tuple_iterator_next d.typeIs F.entry_tuple_iterator_next ?_ (F.args_tuple_iterator_next_1 _)));show wpAny _ _ (field (.ref b) 0 >>= λ_=>_) _ _ s;refine JD (Lz h g (x:=.ref a) rfl ?_);show wpAny _ _ (if(Value.ref a==Value.none)=true then _ else _) _ _ s;rw[JE (by exact JS)];show wpAny _ _ (field (.ref b) 1 >>= λ_=>_) _ _ s;refine JD (Lz h g (x:=.int i 0) rfl ?_);show wpAny _ _ (seqItems? (.ref a) >>= λ_=>_) _ _ s;refine JD (wpAny_seqItems p n ?_);simp only[Kw,l];refine JD (L8 (JD (wpAny_setField h g (by simp) ?_)));show wpAny _ _ (newExc (.type "StopIteration") [] >>= λ_=>_) _ _ _;refine JD ?_;simp only[newExc,newTuple];refine JD (LP ?_ (by size_fits));refine JD (m:=firstArgMember _ _) (wpAny_of_eq (a:=Value.none) (by first|(simp only[firstArgMember];rfl)|rfl) ?_);refine LP ?_ (by size_fits);simp only[raiseNew];refine JD (wpAny_handled ?_)
 first|rw[j]|rw[show A.in1.handled=none by exact j]
 refine JD (Ja (wpAny_throw ?_));exact k _ _ (((Heap.SameBut.update ..).extBut.push _).push _) ⟨_,Jc _ rfl,rfl⟩
end
theorem vp{P:Program}{w:World}{A:Around}(g:A.handled=none)(c a:Addr)(d:a≠c)(b:Array Value) :
  Draws P w A c [c,a] b.size (λi v=>b[i]? =some v) (λi h=>h.IsTupleIter c a i/\h.IsTuple a b) where
 live:=λ_ _ st=>by obtain⟨⟨r,f,_⟩,_⟩:=st;exact⟨r,f⟩
 frame:=λ_ _ _ st k=>⟨st.1.at λo e=>k c (by simp) o e,st.2.at λo e=>k a (by simp) o e⟩
 item:=λi s Q E hi st q=>by refine Ec st.1 st.2 (v:=b[i]) (by simp[hi]) λh' t' sb=>q _ h' s.toks (by simp[hi]) ⟨t',st.2.extBut sb.extBut d⟩ sb
 done:=λs Q E st q=>rV g st.1 st.2 (by simp) q
open AutoSeq1 (wpAny_loadPart')
theorem pV(a:Addr)(b:Array Value)(n:Nat)(m:Option Addr)(l:Array (Option Value)) :
  Meets (Builtin.«enumerate.__new__» ⟨[.type "enumerate",.ref a],[]⟩) (λ_ R s=>s.heap.get? a=some {cls:=.type "tuple",dict:=m,data:=.seq b n,slots:=l} /\ R (.ok (.ret (.ref (s.heap.push {cls:=.type "tuple_iterator",data:=.fields #[.ref a,.int 0 0]}).objs.size))) {s with heap:=(s.heap.push {cls:=.type "tuple_iterator",data:=.fields #[.ref a,.int 0 0]}).push {cls:=.type "enumerate",data:=.fields #[.none,.bool false,.ref s.heap.objs.size,rawInt 0,.none,.none]}}) :=
 .of_wp λprog w A R s h=>by
  obtain⟨j,g,d,o,k⟩:=s;obtain⟨e,h⟩:=h;have i:=sub_enumerate;have f:Heap.IsTuple (Shared.heap ⟨j,g,d,o,k⟩) a b:=⟨_,e,rfl,n,rfl⟩
  wp_walk using J8 e
  refine wpAny_stack_any λ_=>Ja ?_
  split
  ·rename_i c _ _ _ _ _
   cases(c==Value.type "enumerate")
   ·wp_walk using J8 e,MZ f
    exact⟨_,rfl,h⟩
   ·wp_walk using J8 e,MZ f
    exact⟨_,rfl,h⟩
  ·wp_walk using J8 e,MZ f
   exact⟨_,rfl,h⟩
theorem sR(j:s.heap.IsTuple a d)
  (k:∀e,IsEnum e (s.heap.objs.size+1) s.heap.objs.size 0 .none->e.IsTupleIter s.heap.objs.size a 0->(∀b o,s.heap.get? b=some o->e.get? b=some o)->Q (.ref (s.heap.objs.size+1)) {s with heap:=e}) :
  wpAny (model P w) A (call (.type "enumerate") [.ref a]) Q E s:=by
 obtain⟨⟨c,p,r,m⟩,l,i,n,f⟩:=j;simp only at i f;subst i f;refine callType_new F.called_enumerate (by decide) (F.typeCall_enumerate_1 _) (F.newCall_enumerate_1 _) (λob=>F.args_object_init_2 ob _) F.entry_enumerate_new (pV a d n p m) ⟨l,?_⟩;have g:(s.heap.push {cls:=.type "tuple_iterator",data:=.fields #[.ref a,.int 0 0]}).objs.size=s.heap.objs.size+1:=Heap.size_push ..;show _/\_;rw[g];have h:IsEnum ((s.heap.push {cls:=.type "tuple_iterator",data:=.fields #[.ref a,.int 0 0]}).push {cls:=.type "enumerate",data:=.fields #[.none,.bool false,.ref s.heap.objs.size,rawInt 0,.none,.none]}) (s.heap.objs.size+1) s.heap.objs.size 0 .none:=by have q:=Jc (s.heap.push {cls:=.type "tuple_iterator",data:=.fields #[.ref a,.int 0 0]}) (o:={cls:=.type "enumerate",data:=.fields #[.none,.bool false,.ref s.heap.objs.size,rawInt 0,.none,.none]}) rfl;rw[g]at q;exact q
 exact⟨⟨_,h,rfl⟩,k _ h ⟨_,JG _ (Jc _ rfl),rfl,rfl⟩ λb o y=>JG _ (JG _ y)⟩
noncomputable def GM(b:Hp->List V->Prop):It :=
 ⟨λi H=>∃a x,b H a/\a[i]? =some x,λi H v H' =>∃p,H p=none/\v=.ref p/\∀a x,b H a->a[i]? =some x->H' =upd H p (.tup [.int (i:Nat),x]),λi H=>∃a,b H a/\a.length=i⟩
structure uh(P:Program)(w:World)(K:W.Frag)(src:Hp->List V->Prop)(e it:Addr)(tn:Nat->Heap->Prop):Prop where
 ne:e≠it
 obj:∀i h,tn i h->∃o,h.get? it=some o/\∀v,o.data≠.cell v
 keep:∀i h h',tn i h->(∀o,h.get? it=some o->h'.get? it=some o)->tn i h'
 inj:∀(X:Cx) pins s σ H xs ys,X.K=K->Inv X pins σ H s->src H xs->src H ys->xs=ys
 draws:∀(X:Cx) pins s σ H xs (i:Nat),X.prog=P->X.w=w->X.K=K->X.calm=true->Inv X pins σ H s->src H xs->tn i s.heap->∃(fp:List Addr)(Pw:Nat->Value->Prop)(St:Nat->Heap->Prop),
  Draws P w X.A.in1 it fp xs.length Pw St/\e∉fp/\St i s.heap/\(∀j v x,Pw j v->xs[j]? =some x->RelV x v)/\∀j h,St j h->tn j h
theorem iu{P:Program}{w:World}{K:W.Frag}{Z:List Expr}{kt:Nat}{B:Pos}{r:Hp->List V->Prop}{e m:Addr}{Y:Nat->Heap->Prop}(S:uh P w K r e m Y) :
  qZ P w K (.Tuple Z kt B) (GM r) [e,m] e (λi h=>(∃b,IsEnum h e m (i:Nat) b)/\Y i h) where
 mem:=by simp
 obj:=λi h g c p=>by
  obtain⟨⟨b,f⟩,j⟩:=g;simp only[JU,KJ,Lk]at p
  rcases p with rfl|rfl
  ·exact⟨_,f,λv z=>by cases z⟩
  ·exact S.obj i h j
 keep:=λi h h' g k=>by obtain⟨⟨b,f⟩,j⟩:=g;exact⟨⟨b,k e (by simp) _ f⟩,S.keep i h h' j λo q=>k m (by simp) o q⟩
 item:=by
  intro X C v G p i a s t H E I N g T;obtain⟨⟨b,f⟩,j⟩:=g;obtain⟨L,x,M,F⟩:=T;obtain⟨fp,Pw,St,D,J,n,l,d⟩:=S.draws X a s t H L i C v G p I M j;subst C v G;have O:i<L.length:=(JK.mp F).1;have A:e<s.heap.objs.size:=JV f;have R:m<s.heap.objs.size:=by obtain⟨o,Q,_⟩:=S.obj i _ j;exact JV Q
  refine wpAny_pyNext_enum_itemD D f n O S.ne J λu h' tk hu Q hst' hT hsz hk=> ?_;refine⟨_,rfl,wpAny_letOwnedTupleGo_enum Q λh'' he' hs' => ?_⟩;have kk:∀c o,c∉[e,m]->s.heap.get? c=some o->h''.get? c=some o:=λc o hc' y=>by simp only[JU,KJ,Lk,not_or]at hc';exact(hs'.2 c hc'.1).trans (hk c o hc'.1 hc'.2 y)
  have U:h''.get? s.heap.objs.size=some {cls:=.type "tuple",data:=.seq #[.int i tk,u]}:=(hs'.2 _ (Lp A)).trans hT
  have I1:Inv X a t (upd H s.heap.objs.size (.tup [.int (i:Nat),x])) {s with heap:=h'',toks:=tk+1} :=
   I.drew (t' :=tk+1) N kk (JH _) ⟨by show 2<=sizeLine;decide,[.int i tk,u],.cons ⟨tk,rfl⟩ (.cons (l i u x hu F) .nil),⟨_,U,rfl,_,rfl,rfl⟩⟩
  refine⟨.ref s.heap.objs.size,_,I1,rfl,⟨s.heap.objs.size,I.hok.fresh (JH _),rfl,λxs' x' hs2 hx2=> ?_⟩,⟨⟨u,by simpa using he'⟩,S.keep _ _ _ (d _ _ hst') λo y=>(hs'.2 m S.ne.symm).trans y⟩,λc hc' => ?_⟩
  ·have q:=S.inj X a s t H _ _ rfl I M hs2
   subst q;rw[F]at hx2;cases hx2;rfl
  ·rw[aA ?_]
   ·exact(N c hc').1
   ·simp only[JU,KJ,Lk]at hc'
    rcases hc' with rfl|rfl
    ·exact Jg A
    ·exact Jg R
 done:=by intro X C v G p i a s t H E I N g T;obtain⟨⟨b,f⟩,j⟩:=g;obtain⟨L,M,F⟩:=T;obtain⟨fp,Pw,St,D,J,n,l,d⟩:=S.draws X a s t H L i C v G p I M j;subst C v G;subst F;exact wpAny_pyNext_enum_endD D f n λh' hk=>⟨rfl,I.drew0 (t' :=s.toks) N λc o hc' y=>hk c o (by simp only[JU,KJ,Lk,not_or]at hc';exact hc'.2) y⟩
 self:=λ_ _ _ _ _ g h=>by obtain⟨⟨b,f⟩,_⟩:=g;exact Md f h
theorem vm{P:Program}{w:World}{K:W.Frag}{a e b:Addr}(f:e≠b)(g:a≠b)(n:a≠e):uh P w K (λH xs=>cA K H a xs) e b (λi h=>h.IsTupleIter b a i) where
 ne:=f
 obj:=λi h st=>by obtain⟨o,m,_,d⟩:=st;exact⟨o,m,λv z=>by rw[d]at z;cases z⟩
 keep:=λi h h' st k=>st.at k
 inj:=λX pins s σ H xs ys hK I f g=>by subst hK;exact I.tuple_inj f g
 draws:=λX pins s σ H xs i hP hw hK hc I hs ht=>by
  subst hP hw hK;obtain⟨c,r,p,_⟩:=I.tuple hs;have l:=r.length;have D:=vp (P:=X.prog) (w:=X.w) (A:=X.A.in1) (I.ok.hd hc) b a g c.toArray;rw[JO,<-l]at D;refine⟨_,_,_,D,by simp[f,n.symm],⟨ht,p⟩,λj v x hv hx=> ?_,λj h st=>st.1⟩;obtain⟨u,t,q⟩:=r.get hx;have e:c[j]? =some v:=by simpa using hv
  rw[t]at e;cases e;exact q
theorem vo{P:Program}{w:World}{K:W.Frag}{z:Str}{t:Tok}{e a:Addr}(b:e≠a):uh P w K (λ_ xs=>xs=dN z) e a (λi h=>h.IsStrIter a (strIterType z) z t i) where
 ne:=b
 obj:=λi h st=>by obtain⟨o,g,_,d⟩:=st;exact⟨o,g,λv z=>by rw[d]at z;cases z⟩
 keep:=λi h h' st k=>by obtain⟨o,g,r⟩:=st;exact⟨o,k o g,r⟩
 inj:=λX pins s σ H xs ys hK I b h2=>by rw[b,h2]
 draws:=λX pins s σ H xs i hP hw hK hc I hs ht=>by
  subst hP hw hK hs;have l:(dN z).length=z.cps.size:=by rw[kB];rfl
  have f:∀(j:Nat)(v:Value)(x:V),(∃c u,z.cps[j]? =some c/\v=.str ⟨#[c]⟩ u)->(dN z)[j]? =some x->RelV x v:=λj v x hv hx=>by obtain⟨c,u,m,rfl⟩:=hv;unfold dN at hx;rw[JP,Jt,m]at hx;cases hx;exact⟨u,rfl⟩
  rw[l];cases n:z.cps.all (·<128)with
  |true =>
   have e:strIterType z="str_ascii_iterator":=by unfold strIterType;rw[JI n]
   rw[e]at ht ⊢;exact⟨_,_,_,Draws.strAscii (prog:=X.prog) (w:=X.w) (A:=X.A.in1) (I.ok.hd hc) a z t,by simp[b],ht,f,λj h st=>st⟩
  |false =>
   have e:strIterType z="str_iterator":=by unfold strIterType;rw[JE (by rw[n];exact JS)]
   rw[e]at ht ⊢;exact⟨_,_,_,Draws.strWide (prog:=X.prog) (w:=X.w) (A:=X.A.in1) (I.ok.hd hc) a z t,by simp[b],ht,f,λj h st=>st⟩
section
variable{X:Cx}
noncomputable def FG(K:W.Frag)(c:TA):TI:=λσ H R=>c σ H λvs H1=>∃a b,vs=[.ref a]/\cA K H1 a b/\R (GM λH b=>cA K H a b) H1
noncomputable def FH(a:TA):TI:=λσ H R=>a σ H λvs H1=>∃z,vs=[.str z]/\R (GM λ_ xs=>xs=dN z) H1
theorem xu(v:Gl X "enumerate")(B:X.mg "enumerate"=none)(y:PA X [a] k)(A:starEach [a] X.env=[(false,eval a X.env)]:=by rfl) :
  PI X (.Tuple m n d) (.Call (.Name "enumerate" p) [a] [] pos) (FG X.K k):=by
 intro b s f H R I h;refine Call_ (du I v B boot_enumerate (KH (ak (y pos b s f H _ I h) λus s1 ⟨vs,H1,I1,r1,q1⟩=> ?_) A rfl));obtain⟨l,C,e,z,q⟩:=q1;subst e;obtain⟨u,rfl,x⟩:=vals1 r1;cases x;obtain⟨w,r,g,_⟩:=I1.tuple z;have i:l<s1.heap.objs.size:=by obtain⟨o,e,_⟩:=id g;exact JV e
 refine sR g λh' he jX hk=> ?_;refine Md he ?_;have t:Inv X b f H1 {s1 with heap:=h'}:=I1.kept (t' :=s1.toks) hk;refine⟨s1.heap.objs.size+1,[s1.heap.objs.size+1,s1.heap.objs.size],_,_,H1,rfl,t,iu (vm (Nat.succ_ne_self _) (Jg i) (Jg (Kh i))),⟨⟨_,he⟩,jX⟩,λc hc=> ?_,q⟩;have j:s1.heap.objs.size<=c:=by
  simp only[JU,KJ,Lk]at hc
  rcases hc with rfl|rfl<;>omega
 exact I1.fpOk j (I1.hok.fresh j)
theorem xw(m:Gl X "enumerate")(r:X.mg "enumerate"=none)(n:PA X [a] i)(o:starEach [a] X.env=[(false,eval a X.env)]:=by rfl) :
  PI X (.Tuple j k d) (.Call (.Name "enumerate" p) [a] [] pos) (FH i):=by
 intro b s f H R I h;refine Call_ (du I m r boot_enumerate (KH (ak (n pos b s f H _ I h) λus s1 ⟨vs,H1,I1,r1,q1⟩=> ?_) o rfl));obtain⟨z,e,q⟩:=q1;subst e;obtain⟨u,rfl,t,rfl⟩:=vals1 r1;refine call_enumerate_str λh' he jX _ hk=> ?_;refine Md he ?_;have l:Inv X b f H1 {s1 with heap:=h'}:=I1.kept (t' :=s1.toks) hk;refine⟨s1.heap.objs.size+1,[s1.heap.objs.size+1,s1.heap.objs.size],_,_,H1,rfl,l,iu (vo (Nat.succ_ne_self _)),⟨⟨_,he⟩,jX⟩,λc hc=> ?_,q⟩;have g:s1.heap.objs.size<=c:=by
  simp only[JU,KJ,Lk]at hc
  rcases hc with rfl|rfl<;>omega
 exact I1.fpOk g (I1.hok.fresh g)
theorem zE{src:Hp->List V->Prop}{b:List V}{g:TG}{n:TS}{D:dz}{a:St}{H:Hp}(c:Nat->St->Hp->Prop)(s:c 0 a H)(u:∀i a H,i<=b.length->c i a H->src H b)
  (v:∀i x p a H,b[i]? =some x->H p=none->c i a H->g (.ref p) a (upd H p (.tup [.int (i:Nat),x])) λσ2 H2=>n {D with nx:=c (i+1),ct:=c (i+1),bk:=D.nx} σ2 H2) (q:∀a H,c b.length a H->D.nx a H) :
  ∃W:Nat->Nat->St->Hp->Prop,(∃m,W 0 m a H)/\∀i m a H,W i m a H -> ((GM src).stop i H/\D.nx a H)\/((GM src).go i H/\∃N:St->Hp->Prop,(∀h d,N h d ->∃l,l <m/\W (i+1) l h d)/\∀x d,(GM src).yld i H x d ->g x a d λσ2 H2=>n {D with nx:=N,ct:=N,bk:=D.nx} σ2 H2):=by
 refine⟨λi m a H=>m=b.length-i/\i<=b.length/\c i a H,⟨b.length,by simp,J0 _,s⟩,?_⟩;rintro i m a H ⟨rfl,o,p⟩;have j:=u i a H o p
 by_cases f:i<b.length
 ·have k:b[i]? =some b[i]:=by simp[f]
  refine .inr ⟨⟨b,_,j,k⟩,c (i+1),λσ' d p' =>⟨b.length-(i+1),by omega,rfl,f,p'⟩,λx d y=> ?_⟩;obtain⟨r,t,rfl,y⟩:=y;have e:=y b _ j k;subst e;exact v i _ r a H k t p
 ·have e:i=b.length:=by omega
  subst e;exact .inl ⟨⟨b,j,rfl⟩,q a H p⟩
theorem any_range{c:List Bool}:((List.range c.length).any λi=>c.getD i false)=c.any id:=by
 rw[KU,Lu,Lu]
 constructor
 ·rintro⟨i,a,h⟩
  rw[Js]at a;refine⟨c[i],KY a,?_⟩
  simpa [List.getD,a]using h
 ·rintro⟨b,d,h⟩
  obtain⟨i,a,rfl⟩:=MK d;exact⟨i,Js.mpr a,by simpa [List.getD,a]using h⟩
theorem oV{a:List Bool}{i:Nat}(r:aN (a.map V.bl) us)(h:us[i]? =some v):v=.bool (a.getD i false):=by have b:=r.length;rw[JC]at b;have f:i<us.length:=(JK.mp h).1;obtain⟨u,d,c⟩:=r.get (i:=i) (x:=.bl (a[i]'(by omega))) (by simp[show i<a.length by omega]);rw[d]at h;cases h;have e:v=.bool (a[i]'(by omega)):=c;rw[e];simp[List.getD,show i<a.length by omega]
theorem qR(hc:X.calm=true):ba X (.builtin "any") (λxs H Q=>∃(p:Addr)(bs:List Bool),xs=[.ref p]/\bJ X.K H p (bs.map V.bl)/\Q (.bl (bs.any id)) H):=by
 intro pins s σ H xs us Q I r h;obtain⟨p,bs,rfl,hq,q⟩:=h;obtain⟨u,rfl,rx⟩:=vals1 r;cases rx;obtain⟨its,r',pl,hz⟩:=I.list hq;have hlen:=r'.length;rw[JC]at hlen;have hp:p<s.heap.objs.size:=by obtain⟨o,e,_⟩:=pl.isList;exact JV e
 refine call_any_walk (Mc pl.isList ?_);refine⟨s.heap.objs.size,_,_,its.toArray.size,_,_,(λi=>bs.getD i false),rfl,Walks.list (A:=X.A.in1) (I.ok.hd hc) s.heap.objs.size p (Jg hp) its.toArray,⟨⟨_,Jc _ rfl,rfl,rfl⟩,pl.isList.push _⟩,?_,?_⟩
 ·intro i v s' Q' E' hv hQ
  have e:=oV r' (i:=i) (v:=v) (by simpa using hv);subst e;exact Ky hQ
 ·intro h' tk hk
  refine⟨.bl (bs.any id),H,I.kept (t' :=tk) (λb o e=>hk b o (by simpa using Jg (JV e)) (JG _ e)),?_,q⟩;rw[JO,<-hlen,any_range];rfl
theorem oU{a:List Int}{i:Nat}(r:aN (a.map V.int) us)(h:us[i]? =some v):∃t,v=.int (a.getD i 0) t:=by have b:=r.length;rw[JC]at b;have f:i<us.length:=(JK.mp h).1;obtain⟨u,d,c⟩:=r.get (i:=i) (x:=.int (a[i]'(by omega))) (by simp[show i<a.length by omega]);rw[d]at h;cases h;obtain⟨t,e⟩:=c;refine⟨t,?_⟩;rw[e];simp[List.getD,show i<a.length by omega]
theorem fD(a:List Int):∀k,k<=a.length->preSum (λi=>a.getD i 0) k=(a.take k).sum
 |0,_=>by simp[preSum]|k+1,h=>by
  have e:a.take (k+1)=a.take k++[a[k]'(by omega)]:=by rw[Kj];simp[show k<a.length by omega]
  rw[preSum,fD a k (by omega),e,List.sum_append];simp[List.getD,show k<a.length by omega]
theorem li(hc:X.calm=true):ba X (.builtin "sum") (λxs H Q=>∃(p:Addr)(ns:List Int),xs=[.ref p]/\bJ X.K H p (ns.map V.int)/\Q (.int ns.sum) H):=by
 intro pins s σ H xs us Q I r h;obtain⟨p,ns,rfl,hq,q⟩:=h;obtain⟨u,rfl,rx⟩:=vals1 r;cases rx;obtain⟨its,r',pl,hz⟩:=I.list hq;have hlen:=r'.length;rw[JC]at hlen;have hp:p<s.heap.objs.size:=by obtain⟨o,e,_⟩:=pl.isList;exact JV e
 refine call_sum_walkAnyS (Mc pl.isList ?_);refine⟨s.heap.objs.size,_,_,_,its.toArray.size,_,_,(λi=>ns.getD i 0),rfl,(Walks.list (A:=X.A.in1) (I.ok.hd hc) s.heap.objs.size p (Jg hp) its.toArray).toS,⟨⟨_,Jc _ rfl,rfl,rfl⟩,pl.isList.push _⟩,?_,?_,?_⟩
 ·intro b hb
  simp at hb
  rcases hb with rfl|rfl
  ·rw[size_push'];exact Nat.lt_succ_self _
  ·rw[size_push'];exact Kh hp
 ·intro i v hv
  exact oU r' (by simpa using hv)
 ·intro s' t' hm
  obtain⟨m1,m2,m3,m4,m5⟩:=hm;have e:s' ={s with heap:=s'.heap,toks:=s'.toks}:=by cases s';simp only at m2 m3 m4;subst m2 m3 m4;rfl
  rw[e];refine⟨.int ns.sum,H,I.kept (t' :=s'.toks) (λb o z=>m1 b o (by simpa using Jg (JV z)) (JG _ z)),⟨t',?_⟩,q⟩;rw[JO,<-hlen,fD ns _ (JH _),KW]
theorem gU:∀{us:List Value}{a:List Int},IntsAre us a->aN (a.map V.int) us
 |_,_,.nil=>.nil|_,_,.cons n t r=>.cons ⟨t,rfl⟩ (gU r)
noncomputable def sortI(c:List Int):List Int:=c.mergeSort (λa b=>decide (a<=b))
theorem sortI_perm(a:List Int):(sortI a).Perm a:=List.mergeSort_perm _ _
theorem xI(d:List Int):(sortI d).Pairwise (·<=·):=by have:=List.pairwise_mergeSort (le:=λa b:Int=>decide (a<=b)) (λa b c h1 h2=>by simp at *;omega) (λa b=>by simp;omega) d;exact this.imp λh=>by simpa using h
theorem md(h:c.Perm a)(s:c.Pairwise (·<=·)):c=sortI a := MY (le:=(·<=·)) (λa b _ _ h1 h2=>Int.le_antisymm h1 h2) s (xI a) (h.trans (sortI_perm a).symm)
theorem jQ:ba X (.builtin "sorted") (λxs H Q=>∃(p:Addr)(ns:List Int),xs=[.ref p]/\bJ X.K H p (ns.map V.int)/\ns.length<64/\∀a,H a=none->Q (.ref a) (upd H a (.lst ((sortI ns).map V.int)))):=by intro pins s σ H xs us Q I r h;obtain⟨p,ns,rfl,hq,h64,q⟩:=h;obtain⟨u,rfl,rx⟩:=vals1 r;cases rx;obtain⟨its,r',pl,hz⟩:=I.list hq;have hlen:=r'.length;rw[JC]at hlen;refine sorted_ints pl.isList (intsAre_of r') (by omega) λout ns' a1 a2 a3=> ?_;have e:=md a2 a3;subst e;obtain⟨c,hc⟩:=sortedAll_at s.heap its out;refine⟨.ref (s.heap.objs.size+1),_,I.laid (t' :=s.toks) (o:=.lst ((sortI ns).map V.int)) (λb o z=>sortedAll_old z) (Nat.le_succ _) ?_,rfl,q _ (I.hok.fresh (Nat.le_succ _))⟩;refine⟨?_,out.toList,c,gU a1,by simpa [seqObj]using hc⟩;rw[JC,(sortI_perm ns).length_eq];have:=Ka;omega
theorem sB{P:Program}{w:World}{K:W.Frag}{a e b:Addr}(f:e≠b)(g:a≠b)(n:a≠e):uh P w K (λH xs=>bJ K H a xs) e b (λi h=>h.IsListIter b a i) where
 ne:=f
 obj:=λi h st=>by obtain⟨o,m,_,d⟩:=st;exact⟨o,m,λv z=>by rw[d]at z;cases z⟩
 keep:=λi h h' st k=>st.at k
 inj:=λX pins s σ H xs ys hK I f g=>by subst hK;exact I.list_inj f g
 draws:=λX pins s σ H xs i hP hw hK hc I hs ht=>by
  subst hP hw hK;obtain⟨c,r,p,_⟩:=I.list hs;have l:=r.length;have D:=Draws.list (prog:=X.prog) (w:=X.w) (A:=X.A.in1) (I.ok.hd hc) b a g c.toArray;rw[JO,<-l]at D;refine⟨_,_,_,D,by simp[f,n.symm],⟨ht,p.isList⟩,λj v x hv hx=> ?_,λj h st=>st.1⟩;obtain⟨u,t,q⟩:=r.get hx;have e:c[j]? =some v:=by simpa using hv
  rw[t]at e;cases e;exact q
noncomputable def FJ(K:W.Frag)(c:TA):TI:=λσ H R=>c σ H λvs H1=>∃a b,vs=[.ref a]/\bJ K H1 a b/\R (GM λH b=>bJ K H a b) H1
theorem pH(v:Gl X "enumerate")(B:X.mg "enumerate"=none)(y:PA X [a] k)(A:starEach [a] X.env=[(false,eval a X.env)]:=by rfl) :
  PI X (.Tuple m n d) (.Call (.Name "enumerate" p) [a] [] pos) (FJ X.K k):=by
 intro b s f H R I h;refine Call_ (du I v B boot_enumerate (KH (ak (y pos b s f H _ I h) λus s1 ⟨vs,H1,I1,r1,q1⟩=> ?_) A rfl));obtain⟨l,C,e,z,q⟩:=q1;subst e;obtain⟨u,rfl,x⟩:=vals1 r1;cases x;obtain⟨w,r,g,_⟩:=I1.list z;have i:l<s1.heap.objs.size:=by obtain⟨o,e,_⟩:=g.isList;exact JV e
 refine call_enumerate_list g.isList λh' he jX hl hk=> ?_;refine Md he ?_;have t:Inv X b f H1 {s1 with heap:=h'}:=I1.kept (t' :=s1.toks) hk;refine⟨s1.heap.objs.size+1,[s1.heap.objs.size+1,s1.heap.objs.size],_,_,H1,rfl,t,iu (sB (Nat.succ_ne_self _) (Jg i) (Jg (Kh i))),⟨⟨_,he⟩,jX⟩,λc hc=> ?_,q⟩;have j:s1.heap.objs.size<=c:=by
  simp only[JU,KJ,Lk]at hc
  rcases hc with rfl|rfl<;>omega
 exact I1.fpOk j (I1.hok.fresh j)
noncomputable def AN(i j:Int):Prop:=i.natAbs<2^2000/\j.natAbs<2^2000
theorem intBits_le(h:k.natAbs<2^2000):Builtin.Int.intBits k<=2000:=by
 unfold Builtin.Int.intBits
 split;exact J0 _
 ·have:k.natAbs.log2<2000:=by
   rcases Nat.eq_zero_or_pos k.natAbs with b|a
   ·rw[b];decide
   ·exact(Nat.log2_lt (Lp a)).mpr h
  omega
theorem AN.ok(h:AN i j):IntMulOk i j:=by
 unfold IntMulOk;have h1:=intBits_le h.1;have h2:=intBits_le h.2;have h3:Builtin.Int.intTooBig (Builtin.Int.intBits i+Builtin.Int.intBits j)=false:=by
  unfold Builtin.Int.intTooBig;have:((4000:Nat):Int)<=(bitsLine:Nat):=by decide
  exact J2 (by omega)
 rw[h3];simp
theorem BQ:d7 X (binaryOp .Mult) (rI AN λi j=>.int (i*j)):=Hb λ_ _ _ _ _ _ _ hc q=>mul_int q hc.ok
theorem sO:ba X (.builtin "len") (λxs H Q=>∃a kvs,xs=[V.ref a]/\Rd H a (.dK kvs)/\Q (.int kvs.length) H):=by intro pins s σ H xs us Q I r h;obtain⟨a,kvs,rfl,ha,q⟩:=h;obtain⟨u,rfl,ru⟩:=vals1 r;cases ru;exact IP I ha λt s' I' =>⟨.int kvs.length,H,I',⟨t,rfl⟩,q⟩
theorem qQ:ba X (.type "dict") (λxs H Q=>∃a kvs,xs=[V.ref a]/\Rd H a (.dK kvs)/\∀p,H p=none->Q (.ref p) (upd H p (.dK kvs))):=by intro pins s σ H xs us Q I r h;obtain⟨a,kvs,rfl,ha,q⟩:=h;obtain⟨u,rfl,ru⟩:=vals1 r;cases ru;exact zS I ha λp s' hp I' =>⟨.ref p,_,I',rfl,q p hp⟩
noncomputable def uf(v d:Addr):HO:=.ext λh=>h.IsValuesView v d
theorem vT:MtR X "dict.values" (λx c H Q=>∃a b,x=.ref a/\c=[]/\H a=some (.dK b)/\∀p,H p=none->Q (.ref p) (upd H p (uf p a))):=by intro d s n H x t v us Q I g j h;obtain⟨a,b,rfl,rfl,l,q⟩:=h;cases g;cases j;obtain⟨z,i,c,m,f⟩:=qH I.hok l;refine call_meetsIn PySem.F.slot_dict_values f.typeIs PySem.F.entry_dict_values (PySem.F.args_dict_values_1 _) (meets_dict_values (aU X.prog X.w) a i) ⟨⟨c,f⟩,?_⟩;refine⟨.ref s.heap.objs.size,_,I.laid (a:=s.heap.objs.size) (o:=uf s.heap.objs.size a) (t' :=s.toks) (λb u e=>JG _ e) (JH _) ?_,rfl,q _ (I.hok.fresh (JH _))⟩;refine⟨⟨_,Jc _ rfl,rfl,rfl⟩,⟨_,Jc _ rfl⟩,λh1 h2 p k=> ?_⟩;obtain⟨o,e,r⟩:=p;exact⟨o,k o e,r⟩
theorem pY{b:List (ag×V)}{d:List Int}(r:KV b c)(e:b.map (·.2)=d.map V.int){i:Nat}(h:c[i]? =some (k,v)):∃t,v=.int (d.getD i 0) t:=by
 have w:b.length=c.length:=r.length;have u:i<c.length:=(JK.mp h).1;have x:d.length=b.length:=by have:=J1 List.length e;simpa using this.symm
 have f:∀{b:List (ag×V)}{c:List (ag×Value)}{i:Nat}{q:ag×Value},KV b c->c[i]? =some q->∃p,b[i]? =some p/\RelV p.2 q.2:=by
  intro b c i q r
  induction r generalizing i with
  |nil=>intro e;simp at e|cons a t m =>
   intro e;cases i with
   |zero=>simp at e;subst e;exact⟨_,by simp,a.2⟩|succ i=>simpa using m (by simpa using e)
 obtain⟨p,o,g⟩:=f r h;have j:(b.map (·.2))[i]? =(d.map V.int)[i]? :=by rw[e]
 rw[JP,JP,o,JN (by omega)]at j;have s:p.2=V.int (d[i]'(by omega)):=by simpa using j
 rw[s]at g;obtain⟨t,n⟩:=g;refine⟨t,?_⟩;have l:v=.int (d[i]'(by omega)) t:=n;rw[l];simp[List.getD,show i<d.length by omega]
theorem lh(hc:X.calm=true):ba X (.builtin "sum") (λxs H Q=>∃(p a:Addr)(kvs:List (ag×V))(ns:List Int),xs=[.ref p]/\H p=some (uf p a)/\H a=some (.dK kvs)/\kvs.map (·.2)=ns.map V.int/\Q (.int ns.sum) H):=by
 intro pins s σ H xs us Q I r h;obtain⟨p,a,kvs,ns,rfl,hp,ha,en,q⟩:=h;obtain⟨u,rfl,rx⟩:=vals1 r;cases rx;obtain⟨z,hd,vs,rel,dd⟩:=qH I.hok ha;obtain⟨ep,da⟩:=dd.dictAt;obtain⟨hv,_⟩:=(show am X.prog X.w H s.heap p (uf p a)from I.hok p _ hp);have hl:kvs.length=vs.length:=rel.length;have hn:ns.length=kvs.length:=by have:=J1 List.length en;simpa using this.symm
 have lt:a<s.heap.objs.size:=da.lt_size;refine call_sum_walkAnyS (wpAny_pyIter_values hv da ?_);refine⟨s.heap.objs.size,_,_,_,vs.length,_,_,(λi=>ns.getD i 0),rfl,(Walks.dictValues (A:=X.A.in1) (knd:=aU X.prog X.w) (I.ok.hd hc) s.heap.objs.size a (Jg lt) vs ep).toS,⟨⟨_,Jc _ rfl,rfl,rfl⟩,da.push _⟩,?_,?_,?_⟩
 ·intro b hb
  simp at hb
  rcases hb with rfl|rfl
  ·rw[size_push'];exact Nat.lt_succ_self _
  ·rw[size_push'];exact Kh lt
 ·rintro i v ⟨k,hv⟩
  exact pY rel en hv
 ·intro s' t' hm
  obtain⟨m1,m2,m3,m4,m5⟩:=hm;have e:s' ={s with heap:=s'.heap,toks:=s'.toks}:=by cases s';simp only at m2 m3 m4;subst m2 m3 m4;rfl
  rw[e];refine⟨.int ns.sum,H,I.kept (t' :=s'.toks) (λb o z=>m1 b o (by simpa using Jg (JV z)) (JG _ z)),⟨t',?_⟩,q⟩;rw[<- hl,<-hn,fD ns _ (JH _),KW]
theorem Inv.known(I:Inv X f k H s)(d:H a=some (.dK g))(r:s.heap.get? a=some o):Inv X f k (upd H a (.frz o (.dK g))) s:=by
 have j:∀b h,H b=some (.tup h)->upd H a (.frz o (.dK g)) b=some (.tup h):=λb h e=>by rw[aA (λz=>by subst z;rw[d]at e;cases e)];exact e
 refine⟨I.ok,I.os,I.bare,⟨I.base.keep,I.base.slot,λb ob e n hx=> ?_,I.base.there,λb h e=>j b h (I.base.tups b h e),λb ob u e=> ?_,λb ps e=> ?_⟩,I.loc,I.cell,?_,λx c e=> ?_,λp hp=> ?_,λb u e=> ?_,I.len⟩
 ·have:=I.base.free b ob e n hx
  rw[aA (λz=>by subst z;rw[d]at this;cases this)];exact this
 ·have:=I.base.frzs b ob u e
  rw[aA (λz=>by subst z;rw[d]at this;cases this)];exact this
 ·obtain⟨m,e⟩:=I.base.tbls b ps e
  exact⟨m,by rw[aA (λz=>by subst z;rw[d]at e;cases e)];exact e⟩
 ·rw[aA (λz=>by have:=I.free;rw[z,d]at this;cases this)]
  exact I.free
 ·have:=I.freeC x c e
  rw[aA (λz=>by rw[z,d]at this;cases this)];exact this
 ·obtain⟨v,i,t⟩:=I.pin p hp
  exact⟨v,by rw[aA (λz=>by rw[z,d]at i;cases i)];exact i,t⟩
 ·by_cases l:b=a
  ·subst l
   rw[aF]at e;cases e;refine⟨r,?_⟩;exact(I.hok b _ d).stay (λ_ _ _ q=>q) (λc q=>by rw[aA (λz=>by subst z;rw[d]at q;cases q)];exact q) j
  ·rw[aA l]at e
   exact(I.hok b u e).stay (λ_ _ _ q=>q) (λc q=>by rw[aA (λz=>by subst z;rw[d]at q;cases q)];exact q) j
noncomputable def NF(X:Cx)(a:Addr):Prop:=∀o u,X.H₀ a≠some (.frz o u)
theorem Inv.nf(I:Inv X b d H s)(f:H a=some (.dK c)):NF X a:=λo u e=>by have:=I.base.frzs a o u e;rw[f]at this;cases this
theorem Inv.unknown(I:Inv X f k H s)(r:NF X a)(d:H a=some (.frz o (.dK g))):Inv X f k (upd H a (.dK g)) s:=by
 have j:∀b h,H b=some (.tup h)->upd H a (.dK g) b=some (.tup h):=λb h e=>by rw[aA (λz=>by subst z;rw[d]at e;cases e)];exact e
 refine⟨I.ok,I.os,I.bare,⟨I.base.keep,I.base.slot,λb ob e n hx=> ?_,I.base.there,λb h e=>j b h (I.base.tups b h e),λb ob u e=> ?_,λb ps e=> ?_⟩,I.loc,I.cell,?_,λx c e=> ?_,λp hp=> ?_,λb u e=> ?_,I.len⟩
 ·have:=I.base.free b ob e n hx
  rw[aA (λz=>by subst z;rw[d]at this;cases this)];exact this
 ·have:=I.base.frzs b ob u e
  rw[aA (λz=>by subst z;exact r _ _ e)];exact this
 ·obtain⟨m,e⟩:=I.base.tbls b ps e
  exact⟨m,by rw[aA (λz=>by subst z;rw[d]at e;cases e)];exact e⟩
 ·rw[aA (λz=>by have:=I.free;rw[z,d]at this;cases this)]
  exact I.free
 ·have:=I.freeC x c e
  rw[aA (λz=>by rw[z,d]at this;cases this)];exact this
 ·obtain⟨v,i,t⟩:=I.pin p hp
  exact⟨v,by rw[aA (λz=>by rw[z,d]at i;cases i)];exact i,t⟩
 ·by_cases l:b=a
  ·subst l
   rw[aF]at e;cases e;exact(I.hok b _ d).2.stay (λ_ _ _ q=>q) (λc q=>by rw[aA (λz=>by subst z;rw[d]at q;cases q)];exact q) j
  ·rw[aA l]at e
   exact(I.hok b u e).stay (λ_ _ _ q=>q) (λc q=>by rw[aA (λz=>by subst z;rw[d]at q;cases q)];exact q) j
noncomputable def I0(a:Addr)(o:Obj)(b:List (ag×V)):It :=
 ⟨λi H=>H a=some (.frz o (.dK b))/\i<b.length,λi H v H' =>∃p,H p=none/\v=.ref p/\∀k x,b[i]? =some (k,x)->H' =upd H p (.tup [kV k,x]),λi H=>H a=some (.frz o (.dK b))/\i=b.length⟩
theorem Et{k:ag}{v:Value}{P:Program}{w:World}(h:(aU P w).is k v=true):RelV (kV k) v:=by
 cases k with
 | inl i =>
  obtain⟨t,e⟩:=Value.isInt_shape h;exact⟨t,e⟩
 | inr z =>
  obtain⟨t,e⟩:=Value.isStrOf_shape h;exact⟨t,e⟩
theorem fm:entryFor table "dict_itemiterator.__iter__"=some Builtin.«dict_keyiterator.__iter__» := entryFor_alias (id' :="dict_keyiterator.__iter__") (by kernel_rfl) rfl (by decide +kernel) (by kernel_rfl)
theorem qp{P:Program}{w:World}{K:W.Frag}{es:List Expr}{kt:Nat}{tpos:Pos}{a it:Addr}{o:Obj}{kvs:List (ag×V)}{vs:List (ag×Value)}{ep:Nat}{h0:Heap}(hne:a≠it)(rel:KV kvs vs)(hat:h0.DictAt (aU P w) a vs ep)(ho:h0.get? a=some o) :
  qZ P w K (.Tuple es kt tpos) (I0 a o kvs) [it] it (fun i h=>∃ok ov,IsItemIter h it a i vs.length ep ok ov) where
 mem:=by simp
 obj:=fun i h st b hb=>by
  have e:b=it:=by simpa using hb
  subst e;obtain⟨ok,ov,e⟩:=st;exact⟨_,e,fun v z=>by cases z⟩
 keep:=fun i h h' st k=>by
  obtain⟨ok,ov,e⟩:=st;exact⟨ok,ov,k it (by simp) _ e⟩
 item:=by
  intro X hP hw hK hc i pins s σ H E I hf st hg;subst hP hw hK;obtain⟨hfr,hlt⟩:=hg;obtain⟨ok,ov,he⟩:=st;have so:s.heap.get? a=some o:=(I.hok a _ hfr).1;have hat' :s.heap.DictAt (aU X.prog X.w) a vs ep:=hat.at' fun o' e=>by rw[ho]at e;cases e;exact so
  have hl:kvs.length=vs.length:=rel.length;obtain⟨⟨k,x⟩,hx⟩:∃q,kvs[i]? =some q:=⟨kvs[i],by simp[hlt]⟩;have key:∀{kvs:List (ag×V)}{vs:List (ag×Value)}{i:Nat}{q:ag×V},KV kvs vs->kvs[i]? =some q->∃v,vs[i]? =some (q.1,v)/\RelV q.2 v:=by
   intro kvs vs i q r
   induction r generalizing i with
   | nil=>intro e;simp at e
   | cons a t ih =>
    intro e;cases i with
    | zero =>
     simp at e;subst e;rename_i c _ _;exact⟨c.2,by simp[a.1],a.2⟩
    | succ i=>simpa using ih (by simpa using e)
  obtain⟨v,hv,rv⟩:=key rel hx;have ilt:it<s.heap.objs.size:=JV he;refine wpAny_pyNext_items_item he hat' hv fun kv h' hkey hout hT hsz hk=> ?_;refine⟨_,rfl,wpAny_letOwnedTupleGo_items (s:={s with heap:=h'}) hout fun h'' he' hs' => ?_⟩;have kk:∀c o,c∉[it]->s.heap.get? c=some o->h''.get? c=some o:=fun c o hc' y=>by
   have hc2:c≠it:=by simpa using hc'
   exact(hs'.2 c hc2).trans (hk c o hc2 y)
  have new:h''.get? s.heap.objs.size=some {cls:=.type "tuple",data:=.seq #[kv,v]}:=(hs'.2 _ (Lp ilt)).trans hT
  have I1:Inv X pins σ (upd H s.heap.objs.size (.tup [kV k,x])) {s with heap:=h''} :=
   I.drew (t' :=s.toks) hf kk (JH _) ⟨by show 2<=sizeLine;decide,[kv,v],.cons (Et hkey) (.cons rv .nil),⟨_,new,rfl,_,rfl,rfl⟩⟩
  refine⟨.ref s.heap.objs.size,_,I1,rfl,⟨s.heap.objs.size,I.hok.fresh (JH _),rfl,fun k' x' hx' => ?_⟩,⟨_,_,he'⟩,fun c hc' => ?_⟩
  ·rw[hx]at hx'
   cases hx';rfl
  ·have hc2:c=it:=by simpa using hc'
   subst hc2;rw[aA (Jg ilt)];exact(hf c (by simp)).1
 done:=by
  intro X hP hw hK hc i pins s σ H E I hf st hg;subst hP hw hK;obtain⟨hfr,rfl⟩:=hg;obtain⟨ok,ov,he⟩:=st;have so:s.heap.get? a=some o:=(I.hok a _ hfr).1;have hat' :s.heap.DictAt (aU X.prog X.w) a vs ep:=hat.at' fun o' e=>by rw[ho]at e;cases e;exact so
  have hl:kvs.length=vs.length:=rel.length;exact wpAny_pyNext_items_end (I.ok.hd hc) he hat' (by rw[hl];simp) fun h' hk=>⟨rfl,I.drew0 (t' :=s.toks) hf fun c o hc' y=>hk c o (by simpa using hc') y⟩
 self:=fun A i s Q E st h=>by
  obtain⟨ok,ov,he⟩:=st;refine wpAny_pyIter_slot ⟨_,he,rfl⟩ PySem.F.slot_dict_itemiterator_iter (K9 PySem.F.slot_dict_itemiterator_iter ⟨_,he,rfl⟩ fm ?_ (PySem.F.args_dict_itemiterator_iter_1 _));show wpAny _ _ (ret (.ref it)) _ _ s;exact Ja ⟨_,rfl,"dict_itemiterator",_,⟨_,he,rfl⟩,PySem.F.slot_dict_itemiterator_next.lookup,h⟩
noncomputable def FF(X:Cx)(c:TE):TI:=λσ H R=>c σ H λx H1=>∃a b,x=.ref a/\H1 a=some (.dK b)/\∀o,NF X a->R (I0 a o b) (upd H1 a (.frz o (.dK b)))
theorem yV{K:List Expr}{U:Nat}{l:Pos}{o:Expr}{J:TE}{g f:Pos}(M:PE X o J)(i:attributeBase o "items" X.env (eval o X.env)=eval o X.env:=by rfl)(j:(g.endLine==f.line)=true:=by rfl) :
  PI X (.Tuple K U l) (.Call (.Attribute o "items" g) [] [] f) (FF X J):=by
 intro d s D H R I h;refine wpAny_Call_method0_late i j (ak (M d s D H _ I h) λv s1 hpq=> ?_);obtain⟨x,S,A,V,T⟩:=hpq;obtain⟨a,O,rfl,y,q⟩:=T;cases V;obtain⟨z,L,r,C,n⟩:=qH A.hok y;obtain⟨G,B⟩:=n.dictAt;obtain⟨m,Q,b,v,_⟩:=id B;refine⟨"dict","dict.items",PySem.F.plainAttrs_dict,PySem.F.slot_dict_items,PySem.F.type_dict_items,n.typeIs,λb e=> ?_,MH rfl (PySem.evalArgs_none ?_)⟩
 ·cases e
  exact⟨m,b,v.2.1⟩
 refine call_meetsIn PySem.F.slot_dict_items n.typeIs PySem.F.entry_dict_items (PySem.F.args_dict_items_1 _) (meets_dict_items (aU X.prog X.w) a L) ⟨⟨r,n⟩,?_⟩;have t:Inv X d D S {s1 with heap:=s1.heap.push {cls:=.type "dict_items",data:=.fields #[.ref a]}}:=A.kept (t' :=s1.toks) λb u e=>JG _ e;have p:=B.push {cls:=.type "dict_items",data:=.fields #[.ref a]};refine wpAny_pyIter_items ⟨_,Jc _ rfl,rfl,rfl⟩ p ?_;have E:a<s1.heap.objs.size:=JV b;have N:=t.kept (t' :=s1.toks) (h' :=(s1.heap.push {cls:=.type "dict_items",data:=.fields #[.ref a]}).push {cls:=.type "dict_itemiterator",data:=.fields #[.none,.bool false,.ref a,.int 0 0,.int r.length 0,.int G 0,.none,.none]}) λb u e=>JG _ e;have k:((s1.heap.push {cls:=.type "dict_items",data:=.fields #[.ref a]}).push {cls:=.type "dict_itemiterator",data:=.fields #[.none,.bool false,.ref a,.int 0 0,.int r.length 0,.int G 0,.none,.none]}).get? a=some m:=JG _ (JG _ b);have P:=N.known y k;refine⟨(s1.heap.push {cls:=.type "dict_items",data:=.fields #[.ref a]}).objs.size,[(s1.heap.push {cls:=.type "dict_items",data:=.fields #[.ref a]}).objs.size],_,_,_,rfl,P,qp (o:=m) (h0:=s1.heap) (Jg (by rw[size_push'];exact Kh E)) C B b,⟨_,_,Jc _ rfl⟩,λc hc=> ?_,q m (A.nf y)⟩;have e:c=(s1.heap.push {cls:=.type "dict_items",data:=.fields #[.ref a]}).objs.size:=by simpa using hc
 subst e;refine(t.fpOk (JH _) ?_);rw[aA (Lp (by rw[size_push'];exact Kh E))];exact t.hok.fresh (JH _)
noncomputable def thaw(X:Cx)(D:dz):dz where
 nx:=λσ H=>∃a o b,H a=some (.frz o (.dK b))/\NF X a/\D.nx σ (upd H a (.dK b))
 bk:=λσ H=>∃a o b,H a=some (.frz o (.dK b))/\NF X a/\D.bk σ (upd H a (.dK b))
 ct:=λσ H=>∃a o b,H a=some (.frz o (.dK b))/\NF X a/\D.ct σ (upd H a (.dK b))
 rt:=λv H=>∃a o b,H a=some (.frz o (.dK b))/\NF X a/\D.rt v (upd H a (.dK b))
theorem BC(h:PS X l t):PS X l (λD j H=>t (thaw X D) j H):=by
 intro i s j H D I n;refine ak (h i s j H _ I n) λf s1 q=> ?_;cases f with
 |next =>obtain⟨b,k,e,a,o,d,g,c,q⟩:=q;exact⟨b,_,e.unknown c g,q⟩
 |brk =>obtain⟨b,k,e,a,o,d,g,c,q⟩:=q;exact⟨b,_,e.unknown c g,q⟩
 |cont =>obtain⟨b,k,e,a,o,d,g,c,q⟩:=q;exact⟨b,_,e.unknown c g,q⟩
 |ret v =>obtain⟨b,x,k,e,m,a,o,d,g,c,q⟩:=q;exact⟨b,x,_,e.unknown c g,m,q⟩
theorem vj{a:Addr}{o:Obj}{b:List (ag×V)}{g:TG}{q:TS}{D:dz}{c:St}{H:Hp}(d:Nat->St->Hp->Prop)(v:d 0 c H)(z:∀i c H,i<=b.length->d i c H->H a=some (.frz o (.dK b)))
  (A:∀i k x p c H,b[i]? =some (k,x)->H p=none->d i c H->g (.ref p) c (upd H p (.tup [kV k,x])) λσ2 H2=>q {D with nx:=d (i+1),ct:=d (i+1),bk:=D.nx} σ2 H2) (t:∀c H,d b.length c H->D.nx c H) :
  ∃W:Nat->Nat->St->Hp->Prop,(∃m,W 0 m c H)/\∀i m c H,W i m c H -> ((I0 a o b).stop i H/\D.nx c H)\/((I0 a o b).go i H/\∃N:St->Hp->Prop,(∀j h,N j h ->∃l,l <m/\W (i+1) l j h)/\∀x h,(I0 a o b).yld i H x h ->g x c h λσ2 H2=>q {D with nx:=N,ct:=N,bk:=D.nx} σ2 H2):=by
 refine⟨λi m c H=>m=b.length-i/\i<=b.length/\d i c H,⟨b.length,by simp,J0 _,v⟩,?_⟩;rintro i m c H ⟨rfl,s,p⟩;have n:=z i c H s p
 by_cases f:i<b.length
 ·have r:b[i]? =some b[i]:=by simp[f]
  refine .inr ⟨⟨n,f⟩,d (i+1),λσ' h p' =>⟨b.length-(i+1),by omega,rfl,f,p'⟩,λx h y=> ?_⟩;obtain⟨u,w,rfl,y⟩:=y;have e:=y b[i].1 b[i].2 r;subst e;exact A i _ _ u c H r w p
 ·have e:i=b.length:=by omega
  subst e;exact .inl ⟨⟨n,rfl⟩,t c H p⟩
end
namespace RV
theorem G8:Slot "reversed" "__length_hint__" "reversed.__length_hint__":=by
 refine .of (owner:="reversed") (n:="__length_hint__") ?_ (by decide +kernel) (by decide +kernel) (by decide +kernel) ?_ ?_
 ·rw[typeLookup_type,builtinLookup_eq_fast];kernel_rfl
 ·first|exact .inl (by decide +kernel)|exact .inr (by decide +kernel)
 ·rw[isSubtype_type];kernel_rfl
theorem IJ:entryFor table "reversed.__length_hint__"=some Builtin.«reversed.__length_hint__»:=entryFor_of_tree (by kernel_rfl)
theorem Io(v:Value):argsOk "reversed.__length_hint__" ⟨[v],[]⟩:=by unfold argsOk;kernel_rfl
end RV
end L2
namespace L2
open PySem PySem.Spec PyProof.Rows
namespace RV
noncomputable def GN(h:Heap)(a:Addr)(x:Str)(t:Tok)(i:Int):Prop:=∃o,h.get? a=some o/\o.cls=.type "reversed"/\o.data=.fields #[.str x t,rawInt i]
section
variable{prog:Program}{w:World}{A:Around}{E:Value->Shared->Prop}{s:Shared}{x:Str}{t:Tok}{a:Addr}
theorem GN.ty(r:GN s.heap a x t i):s.TypeIs (.ref a) "reversed":=by obtain⟨o,e,c,_⟩:=r;exact⟨o,e,c⟩
theorem aj(r:GN s.heap a x t ((x.length:Int)-1))(d:x.length<=sizeLine)
  (h:∀u b,s.toks<=b->Q (.int x.length u) {s with toks:=b}):wpAny (model prog w) A (call (.builtin "reversed.__length_hint__") [.ref a]) Q E s:=by
 obtain⟨o,e,f,c⟩:=id r;refine K9 G8 r.ty IJ ?_ (Io _);unfold Builtin.«reversed.__length_hint__»;refine JD (wpAny_of_eq (a:=Value.ref a) rfl ?_);refine JD (Lz e c (x:=.str x t) rfl ?_);show wpAny _ _ (call (.builtin "len") [.str x t] >>= _) _ _ _;refine JD (P.len_str (by have:sizeLine<2^63:=(by decide);omega) ?_);refine JD (m:=asInt? (.int _ _)) (Ja ?_);dsimp only;refine JD (Lz e c (x:=rawInt ((x.length:Int)-1)) rfl ?_);show wpAny _ _ (if(x.length:Int)<(x.length:Int)-1+1 then _ else _) _ _ _;rw[JE (by omega),show(x.length:Int)-1+1=x.length by omega];exact JD (wpAny_mkInt (Ja ⟨_,rfl,h _ _ (by simp;omega)⟩))
end
end RV
end L2
namespace L2
open PySem PySem.Spec PyProof.Rows
namespace RV
end RV
end L2
namespace L2
open PySem PySem.Spec PyProof.Rows
namespace RV
open Builtin Builtin.Str Builtin.Int
end RV
end L2
namespace L2
open PySem PySem.Spec PyProof.Rows
end L2
namespace SQ
open PySem
noncomputable def lst(m:Nat):List Nat:=(List.range 8).filter λv=>m/2^v%2==1
noncomputable def put(m v:Nat):Nat:=if m/2^v%2=1 then m else m+2^v
noncomputable def oo(led:Bool)(m:Nat):SetTable:={mask:=if(lst m).length<5 then 7 else 31,place:=(lst m).toArray,dummies:= #[],finger:=0,led:=led,moves:=if(lst m).length<5 then 0 else 1,plain:=true}
noncomputable def dW(m v:Nat):Nat:=((lst m).filter (·<v)).length
noncomputable def je(led:Bool)(m v:Nat):SetTable:={oo led m with place:=(lst (put m v)).toArray}
noncomputable def pX(a b:SetTable):Bool:=a.mask==b.mask&&a.place.toList==b.place.toList&&a.dummies.toList==b.dummies.toList&&a.finger==b.finger&&a.led==b.led&&a.moves==b.moves&&a.plain==b.plain
theorem kX(h:pX a b=true):a=b:=by obtain⟨v,⟨k⟩,⟨r⟩,o,l,q,w⟩:=a;obtain⟨b1,⟨u⟩,⟨t⟩,p,s,n,m⟩:=b;simp only[pX,JJ,K3]at h;obtain⟨⟨⟨⟨⟨⟨g,c⟩,f⟩,e⟩,d⟩,j⟩,i⟩:=h;subst g c f e d j i;rfl
noncomputable def nF(led:Bool)(m v:Nat):Bool :=
 if m/2^v%2==1 then true else
 (match(oo led m).freeSlot (v:Int)with
  |some (j,d)=>j==v&& !d|none=>false) &&
 pX ((oo led m).put v).1 (je led m v)&&((oo led m).put v).2==dW m v&&lst (put m v)==(lst m).take (dW m v)++v::(lst m).drop (dW m v)&&(je led m v).fits (lst (put m v)).length &&
 (if(je led m v).tooFull then(match(je led m v).relaid ((lst (put m v)).map Int.ofNat).toArray (SetTable.grown (lst (put m v)).length)with
  |some (t,o)=>pX t (oo led (put m v))&&o.toList==List.range (lst (put m v)).length&&(oo led (put m v)).fits (lst (put m v)).length|none=>false)else pX (je led m v) (oo led (put m v)))
theorem yi:(List.range 256).all (λm=>(List.range 8).all λv=>nF true m v&&nF false m v&&decide (put m v<256))=true:=by decide +kernel
theorem zF:(List.range 256).all (λm=>(oo true m).fits (lst m).length&&(oo false m).fits (lst m).length)=true:=by decide +kernel
theorem fits(a:m<256)(led:Bool):(oo led m).fits (lst m).length=true:=by have h:=Jh.mp zF m (Js.mpr a);rw[JJ]at h;cases led;exact h.2;exact h.1
theorem lays(b:m<256)(a:v<8)(led:Bool):nF led m v=true/\put m v<256:=by have h:=Jh.mp (Jh.mp yi m (Js.mpr b)) v (Js.mpr a);rw[JJ,JJ,Ku]at h;refine⟨?_,h.2⟩;cases led;exact h.1.2;exact h.1.1
theorem Bi:v∈lst m↔v<8/\m/2^v%2=1:=by unfold lst;rw[J7,Js,K3]
theorem yg(w:m<256)(k:v<8)(u:v∉lst m)(led:Bool) :
  (oo led m).freeSlot (v:Int)=some (v,false)/\(oo led m).put v=(je led m v,dW m v)/\lst (put m v)=(lst m).take (dW m v)++v::(lst m).drop (dW m v)/\(je led m v).fits (lst (put m v)).length=true /\ (if(je led m v).tooFull then(je led m v).relaid ((lst (put m v)).map Int.ofNat).toArray (SetTable.grown (lst (put m v)).length)=some (oo led (put m v),(List.range (lst (put m v)).length).toArray)/\(oo led (put m v)).fits (lst (put m v)).length=true else je led m v=oo led (put m v)):=by
 have h:=(lays w k led).1;unfold nF at h;have l:(m/2^v%2==1)=false:=by
  cases e:m/2^v%2==1
  ·rfl
  ·exact absurd (Bi.mpr ⟨k,by simpa using e⟩) u
 rw[l]at h;simp only[Lb,Ly,JJ,K3]at h;obtain⟨⟨⟨⟨⟨g,n⟩,s⟩,r⟩,q⟩,f⟩:=h;refine⟨?_,MM (kX n) s,r,q,?_⟩
 ·cases e:(oo led m).freeSlot (v:Int)with
  |none=>rw[e]at g;cases g|some p =>obtain⟨j,d⟩:=p;rw[e]at g;simp only[JJ,K3,L7]at g;rw[g.1,g.2]
 ·by_cases i:(je led m v).tooFull=true
  ·rw[JI i]at f ⊢
   cases e:(je led m v).relaid ((lst (put m v)).map Int.ofNat).toArray (SetTable.grown (lst (put m v)).length)with
   |none=>rw[e]at f;cases f|some p =>obtain⟨t,o⟩:=p;rw[e]at f;simp only[JJ,K3]at f;obtain⟨⟨a,b⟩,c⟩:=f;refine⟨?_,c⟩;obtain⟨o⟩:=o;rw[kX a];have b:o=_:=b;rw[b]
  ·rw[JE i]at f ⊢
   exact kX f
noncomputable def vR:Value->Option Int
 | .int i _=>some i|_=>none
theorem vQ(h:vR x=some i):∃t,x=.int i t:=by cases x<;>simp[vR]at h;subst h;exact⟨_,rfl⟩
noncomputable def lL(a:List (Int×Value))(m:Nat):Prop:=a.map (λe=>(e.1,vR e.2))=(lst m).map λv:Nat=>((v:Int),some (v:Int))
noncomputable def SX(w:World)(a:Addr)(m:Nat)(h:Heap):Prop:=∃o b c,h.get? a=some o/\o.ExactSet/\o.data=.set b c (oo (!w.params.followText "set-order") m)/\lL b.toList m
theorem lL.len(h:lL a m):a.length=(lst m).length:=by
 have:=J1 List.length h
 simpa using this
theorem lL.at(h:lL a m)(c:e∈a):∃v t,v∈lst m/\e=((v:Int),.int (v:Int) t):=by have:(e.1,vR e.2)∈a.map (λe=>(e.1,vR e.2)):=JX.mpr ⟨e,c,rfl⟩;rw[h]at this;obtain⟨v,b,q⟩:=JX.mp this;obtain⟨d,f⟩:=e;simp only[Prod.mk.injEq]at q;obtain⟨t,z⟩:=vQ q.2.symm;exact⟨v,t,b,by rw[z,<-q.1]⟩
theorem lL.has(h:lL a m)(c:v∈lst m):∃t,((v:Int),Value.int (v:Int) t)∈a:=by
 have:((v:Int),some (v:Int))∈(lst m).map λv:Nat=>((v:Int),some (v:Int)):=JX.mpr ⟨v,c,rfl⟩;rw[<- h]at this;obtain⟨e,b,q⟩:=JX.mp this;obtain⟨u,t,-,rfl⟩:=h.at b;simp only[vR,Prod.mk.injEq]at q;have:u=v:=by omega
 subst this;exact⟨t,b⟩
section
variable{prog:Program}{w:World}{A:Around}{E:Value->Shared->Prop}{s:Shared}
theorem lL.insert(h:lL a.toList m)(e:m<256)(b:v<8)(d:v∉lst m):lL (SetTable.insertAt a (dW m v) ((v:Int),.int (v:Int) t)).toList (put m v):=by obtain⟨-,-,c,-,-⟩:=yg e b d true;unfold lL at h ⊢;rw[c,SetTable.toList_insertAt];rw[Jo,JR,List.map_take,List.map_drop,h,Jo,JR,List.map_take,List.map_drop];rfl
end
noncomputable def HA(f:Nat->Nat):Nat->Nat->Nat->Nat
 |0,_,m=>m|k+1,i,m=>HA f k (i+1) (put m (f i))
theorem SX.at(x:SX w a m h)(k:∀o,h.get? a=some o->b.get? a=some o):SX w a m b :=
 let⟨o,es,ep,ho,r⟩:=x
 ⟨o,es,ep,k o ho,r⟩
section
variable{prog:Program}{w:World}{A:Around}{E:Value->Shared->Prop}
variable{s:Shared}
noncomputable def bare(led:Bool):Obj:={cls:=.type "set",dict:=none,data:=.set #[] 0 (.fresh 0 0 led)}
end
noncomputable def AL(I a i n b j:Nat)(h:Heap):Prop:=∃o,h.get? I=some o/\o.cls=.type "set_iterator"/\o.data=.fields #[.int (j:Nat) 0,.int (i:Nat) 0,.ref a,.int (n:Nat) 0,.int (b:Nat) 0]
theorem AL.typeIs{s:Shared}(x:AL I a i n b j s.heap):s.TypeIs (.ref I) "set_iterator":=let⟨o,ho,hc,_⟩:=x;⟨o,ho,hc⟩
theorem AL.keep(x:AL I a i n b j h)(k:∀o,h.get? I=some o->c.get? I=some o):AL I a i n b j c :=let⟨o,ho,r⟩:=x;⟨o,k o ho,r⟩
end SQ
namespace SQ
open PySem PyProof.Rows
end SQ
namespace L2
open PySem PySem.Spec PyProof.Rows
noncomputable def maskOf(a:List Int):Nat:=SQ.HA (λi=>(a.getD i 0).toNat) a.length 0 0
noncomputable def DG(a:List Int):List Int:=(SQ.lst (maskOf a)).map λv:Nat=>(v:Int)
section
variable{X:Cx}
theorem Inv.ext(I:Inv X b d H s)(h:H a=some (.ext c)):c s.heap:=(show am X.prog X.w H s.heap a (.ext c)from I.hok a _ h).1
end
end L2
set_option maxHeartbeats 400000
namespace SW
open PySem PySem.W PyProof.Rows
noncomputable def bt(q:Int×Int):Int:=1000*q.1+q.2
section
variable{prog:Program}{w:World}{A:Around}{E:Value->Shared->Prop}{s:Shared}
theorem vE:∀{a:List Value},a.length<2->(a.toArray.zip a.toArray).map (·.2)=a.toArray
 |[],_=>by simp|[_],_=>by simp|_::_::_,h=>absurd h (by simp)
theorem rF:∀{a:List Value},a.length<2->(List.range a.length).map (λi=>a.getD i Value.none)=a
 |[],_=>rfl|[_],_=>rfl|_::_::_,h=>absurd h (by simp)
theorem xM{f:Nat->Int}:∀{n:Nat},n<2->((List.range n).map f).Pairwise (·<=·)
 |0,_=>.nil|1,_=>by show([f 0]:List Int).Pairwise (·<=·);exact List.pairwise_singleton _ _|_+2,h=>absurd h (by omega)
theorem pW{a:Addr}{vs:List Value}{n:Nat}{P:PySem.Fin->Shared->Prop}(ho:s.heap.get? a=some (seqObj "list" vs.toArray n))(h2:vs.length<2)
  (h:P (.done (.ret .none)) {s with heap:=sortedHeap s.heap a vs vs.toArray}):wpAny (model prog w) A (Builtin.«list.sort» ⟨[.ref a],[]⟩) P E s:=by
 rw[list_sort_plain];refine JD (listItems_at ho rfl (JD (listUpdate_at ho rfl ?_ (by rw[JO,Ka];omega) (J0 _))));obtain⟨e1,g1⟩:∃e1,(s.heap.update a (Obj.mapSeq fun _=>(#[]:Array Value))).get? a=some (seqObj "list" #[] e1):=⟨_,get?_update_seq ho fun _=> #[]⟩;refine JD (seqEpoch_at g1 rfl (JD (wpAny_newTuple ?_ (by show vs.length<=_;rw[Ka];omega))));refine JD (wpAny_newList ?_ (J0 _));refine LW ?_;have g2:(((s.heap.update a (Obj.mapSeq fun _=>(#[]:Array Value))).push (seqObj "tuple" vs.toArray 0)).push (seqObj "list" #[] 0)).get? a=some (seqObj "list" #[] e1):=JG _ (JG _ g1);show wpAny (model prog w) A _ P E {s with heap:=((s.heap.update a (Obj.mapSeq fun _=>(#[]:Array Value))).push (seqObj "tuple" vs.toArray 0)).push (seqObj "list" #[] 0)};dsimp only;have n2:vs.toArray.size<2:=by rw[JO];exact h2
 rw[JI n2,JI n2];refine JD (Ja ?_);rw[StateT.run_pure];refine JD (Ja ?_);dsimp only;have hout:(arrOf (SortSt.mk' general' (vs.toArray.zip vs.toArray) #[] 7 none)).map (·.2)=vs.toArray:=by
  exact vE h2
 rw[hout];refine JD (seqEpoch_at g2 rfl ?_);refine JD (listUpdate_at g2 rfl ?_ (J0 _) (by rw[JO,Ka];omega));simp only[bne_self_eq_false,Lb,Ly];exact Ja h
end
end SW
namespace L2
open PySem PySem.Spec PyProof.Rows
theorem aN.pick{us:List V}{b:List Value}(r:aN us b):∀{a:List Nat},(∀j∈a,j<us.length)->aN (a.map λi=>us.getD i .non) (a.map λi=>b.getD i Value.none)
 |[],_=>.nil|j::a,h=>by have c:=h j JL;obtain⟨v,d,e⟩:=r.get (i:=j) (x:=us[j]) (JN c);refine .cons ?_ (aN.pick r λi hi=>h i (JF _ hi));dsimp only;rw[JQ,JN c,JQ,d];exact e
end L2
namespace SR
open PySem PyProof.Rows
end SR
set_option maxHeartbeats 800000
namespace SR
open PySem PyProof.Rows
noncomputable def AJ(I t:Addr)(i:Int)(h:Heap):Prop:=∃o,h.get? I=some o/\o.cls=.type "reversed"/\o.data=.fields #[.ref t,rawInt i]
theorem AJ.typeIs{s:Shared}(x:AJ I t i s.heap):s.TypeIs (.ref I) "reversed":=let⟨o,ho,hc,_⟩:=x;⟨o,ho,hc⟩
theorem AJ.keep(x:AJ I t i h)(k:∀o,h.get? I=some o->a.get? I=some o):AJ I t i a :=let⟨o,ho,r⟩:=x;⟨o,k o ho,r⟩
end SR
namespace L2
open PySem PySem.Spec PyProof.Rows
end L2
set_option maxHeartbeats 4000000
namespace L2
open PySem PySem.Spec PyProof.Rows
end L2
namespace L2
open PySem PySem.Spec PyProof.Rows PySem.W
end L2
namespace TS
open PySem PySem.W PyProof.Rows
noncomputable abbrev SM:=StateT SortSt Sem
noncomputable def eS :Bool->Keyed->Array Keyed->Nat->Nat->Nat->SM (Option Nat):=sortPriv% PySem.Builtin.gallop
noncomputable def pS :Array Keyed->Array Keyed->SM (Array Keyed):=sortPriv% PySem.Builtin.mergeLo
noncomputable def pU :Array Keyed->Array Keyed->SM (Array Keyed):=sortPriv% PySem.Builtin.mergeHi
noncomputable def DS(left:Bool)(a:Keyed)(c:Array Keyed)(b i:Nat):SM (Option Bool):=do
 let x<-elem' c (b+i)
 if left then lt' x a else return(<- lt' a x).map (!·)
noncomputable abbrev G3:=Option (Option Nat)×Nat×Nat
noncomputable def zu(left:Bool)(d:Keyed)(b:Array Keyed)(a n e f:Nat):SM (Option Nat):=do
 let c<-forIn [:n] ((none,e,f):G3) λ_ c=>if c.2.1 ≥ c.2.2 then pure (.done (none,c.2.1,c.2.2))else do
  let z<-DS left d b a (c.2.1+(c.2.2-c.2.1)/2)
  match z with
  |some t=>if t=true then pure (.yield (none,c.2.1+(c.2.2-c.2.1)/2+1,c.2.2))else pure (.yield (none,c.2.1,c.2.1+(c.2.2-c.2.1)/2))|none=>pure (.done (some none,c.2.1,c.2.2))
 match c.1 with
 |some r=>pure r|none=>pure (some c.2.2)
noncomputable def upL(left:Bool)(d:Keyed)(b:Array Keyed)(a n e:Nat)(c:G3):SM (ForInStep G3):=if c.2.2 ≥ n-e then pure (.done (none,c.2.1,c.2.2))else do
 let z<-DS left d b a (e+c.2.2)
 match z with
 |some t=>if(!t)=true then pure (.done (none,c.2.1,c.2.2))else pure (.yield (none,c.2.2,2*c.2.2+1))|none=>pure (.done (some none,c.2.1,c.2.2))
noncomputable def dnL(left:Bool)(b:Keyed)(d:Array Keyed)(a e:Nat)(c:G3):SM (ForInStep G3):=if c.2.2 ≥ e+1 then pure (.done (none,c.2.1,c.2.2))else do
 let z<-DS left b d a (e-c.2.2)
 match z with
 |some t=>if t=true then pure (.done (none,c.2.1,c.2.2))else pure (.yield (none,c.2.2,2*c.2.2+1))|none=>pure (.done (some none,c.2.1,c.2.2))
theorem eJ{β γ:Type}{m n:Nat}{f g:Nat->β->SM (ForInStep β)}{k l:β->SM γ}(c:β)(h1:∀x c,f x c=g x c)(h2:∀c,k c=l c):(forIn [m:n] c f >>= k)=(forIn [m:n] c g >>= l):=by rw[show f=g from funext λx=>funext λc=>h1 x c,show k=l from funext h2]
theorem rn(left:Bool)(d:Keyed)(b:Array Keyed)(a n e:Nat):eS left d b a n e=(do
 let z<-DS left d b a e
 match z with
 |some t=>if t=true then do
   let c<-forIn [:n] ((none,0,1):G3) λ_ c=>upL left d b a n e c
   match c.1 with
   |some r=>pure r|none=>zu left d b a n (e+c.2.1+1) (e+min c.2.2 (n-e))else do
   let c<-forIn [:n] ((none,0,1):G3) λ_ c=>dnL left d b a e c
   match c.1 with
   |some r=>pure r|none=>zu left d b a n (e+1-min c.2.2 (e+1)) (e-c.2.1)
 |none=>pure none):=by
 change (_ >>= _:SM (Option Nat))=_
 dsimp only;refine Ji λz=> ?_;cases z with
 |none=>rfl|some t =>
  refine KB rfl (λ_=> ?_) λ_=> ?_
  all_goals
   refine eJ _ (λx c=> ?_) λc=> ?_
   ·first|unfold upL|unfold dnL
    exact KB rfl (λ_=>rfl) λ_=>Ji λz=>by cases z<;>rfl
   ·cases c.1 with
    |some r=>rfl|none =>unfold zu;exact eJ _ (λx c=>KB rfl (λ_=>rfl) λ_=>Ji λz=>by cases z<;>rfl) λc=>by cases c.1<;>rfl
section
variable{prog:Program}{w:World}{A:Around}{E:Value->Shared->Prop}{s:Shared}{st:SortSt}
theorem Ih{left:Bool}{t:Keyed}{p:Array Keyed}{m n lo hi:Nat}{B:Nat->Bool}{Q:Option Nat->SortSt->Prop}(f:∀i j,i<=j->j<n->B j=true->B i=true)
  (K:∀i,i<n->∀Q:Option Bool->SortSt->Prop,Q (some (B i)) st->wpS (model prog w) A E s (DS left t p m i) Q st)
  (h:∀k,k<=n->(∀i,i<k->B i=true)->(∀i,k<=i->i<n->B i=false)->Q (some k) st)
  (D:lo<=hi) (C:hi<=n) (F:∀i,i<lo->B i=true) (G:∀i,hi<=i->i<n->B i=false):wpS (model prog w) A E s (zu left t p m n lo hi) Q st:=by
 unfold zu;have q:∀l r,r<=l->l<=r->r<=n->(∀i,i<l->B i=true)->(∀i,r<=i->i<n->B i=false)->Q (some r) st:=λl r a b c d e=>by
  have:l=r:=by omega
  subst this;exact h l c d e
 refine JT (KP (I:=λx c o =>o =st/\∃l r,c=(none,l,r)/\l<=r/\r<=n/\r-l<=n-x/\(∀i,i<l->B i=true)/\(∀i,r<=i->i<n->B i=false)) ?_ ?_ ⟨rfl,lo,hi,rfl,D,C,by omega,F,G⟩)
 ·rintro x c o _ L ⟨rfl,l,r,rfl,z,y,J,v,u⟩
  dsimp only
  by_cases g:l ≥ r
  ·rw[JI g]
   exact JW (JW (q l r g z y v u))
  ·rw[JE g]
   refine JT (K _ (by omega) _ ?_);dsimp only;cases e:B (l+(r-l)/2)
   ·rw[JE (by simp)]
    refine JW ⟨rfl,_,_,rfl,by omega,by omega,by omega,v,λi i1 i2=> ?_⟩;cases H:B i
    ·rfl
    ·rw[f _ i i1 i2 H]at e
     cases e
   ·rw[JI rfl]
    exact JW ⟨rfl,_,_,rfl,by omega,by omega,by omega,λi hi=>f i _ (by omega) (by omega) e,u⟩
 ·rintro c o ⟨rfl,l,r,rfl,z,y,J,v,u⟩
  exact JW (q l r (by omega) z y v u)
theorem gal{left:Bool}{key:Keyed}{arr:Array Keyed}{base n aj:Nat}{B:Nat->Bool}{Q:Option Nat->SortSt->Prop}(hh:aj<n)(mono:∀i j,i<=j->j<n->B j=true->B i=true)
  (hb:∀i,i<n->∀Q:Option Bool->SortSt->Prop,Q (some (B i)) st->wpS (model prog w) A E s (DS left key arr base i) Q st)
  (h:∀k,k<=n->(∀i,i<k->B i=true)->(∀i,k<=i->i<n->B i=false)->Q (some k) st):wpS (model prog w) A E s (eS left key arr base n aj) Q st:=by
 have no:∀i j,i<=j->j<n->B i=false->B j=false:=λi j a b c=>by
  cases e:B j
  ·rfl
  ·rw[mono i j a b e]at c
   cases c
 rw[rn];refine JT (hb aj hh _ ?_);dsimp only;cases eB:B aj
 ·simp only[Lb,Ly]
  have fin:∀la o,la<o->la<=aj->B (aj-la)=false->(aj+1<=o\/B (aj-o)=true)->_:=λla o a b c d =>
   Ih mono hb h (lo:=aj+1-min o (aj+1)) (hi:=aj-la) (by omega) (by omega) (λi hi=>by
    rcases d with d|d
    ·omega
    ·exact mono i _ (by omega) (by omega) d) λi i1 i2=>no _ i i1 i2 c
  refine JT (KP (I:=λx c st' =>st' =st/\∃la o,c=(none,la,o)/\la<o/\x<o/\la<=aj/\B (aj-la)=false) ?_ ?_ ⟨rfl,0,1,rfl,by omega,by omega,by omega,eB⟩)
  ·rintro x c st' _ hx ⟨rfl,la,o,rfl,a1,a2,a3,a4⟩
   unfold dnL;dsimp only
   by_cases g:o ≥ aj+1
   ·rw[JI g]
    exact JW (fin la o a1 a3 a4 (.inl g))
   ·rw[JE g]
    refine JT (hb _ (by omega) _ ?_);dsimp only;cases e:B (aj-o)
    ·rw[JE (by simp)]
     exact JW ⟨rfl,_,_,rfl,by omega,by omega,by omega,e⟩
    ·rw[JI rfl]
     exact JW (fin la o a1 a3 a4 (.inr e))
  ·rintro c st' ⟨rfl,la,o,rfl,a1,a2,a3,a4⟩
   exact fin la o a1 a3 a4 (.inl (by omega))
 ·simp only[LX]
  have fin:∀la o,la<o->aj+la<n->B (aj+la)=true->(n-aj<=o\/B (aj+o)=false)->_:=λla o a b c d =>
   Ih mono hb h (lo:=aj+la+1) (hi:=aj+min o (n-aj)) (by omega) (by omega) (λi hi=>mono i _ (by omega) b c) λi i1 i2=>by
    rcases d with d|d
    ·omega
    ·exact no _ i (by omega) i2 d
  refine JT (KP (I:=λx c st' =>st' =st/\∃la o,c=(none,la,o)/\la<o/\x<o/\aj+la<n/\B (aj+la)=true) ?_ ?_ ⟨rfl,0,1,rfl,by omega,by omega,by omega,eB⟩)
  ·rintro x c st' _ hx ⟨rfl,la,o,rfl,a1,a2,a3,a4⟩
   unfold upL;dsimp only
   by_cases g:o ≥ n-aj
   ·rw[JI g]
    exact JW (fin la o a1 a3 a4 (.inl g))
   ·rw[JE g]
    refine JT (hb _ (by omega) _ ?_);dsimp only;cases e:B (aj+o)
    ·rw[JI (by simp)]
     exact JW (fin la o a1 a3 a4 (.inr e))
    ·rw[JE (by simp)]
     exact JW ⟨rfl,_,_,rfl,by omega,by omega,by omega,e⟩
  ·rintro c st' ⟨rfl,la,o,rfl,a1,a2,a3,a4⟩
   exact fin la o a1 a3 a4 (.inl (by omega))
end
section
variable{kf:Keyed->Int}
noncomputable def gI(a:Keyed->Int)(l:List Keyed):Prop:=l.Pairwise λx y=>a x<=a y
structure Mg(kf:Keyed->Int)(tot o X Y:List Keyed):Prop where
 l:gI kf (o++X)
 r:gI kf (o++Y)
 p:(o++(X++Y)).Perm tot
theorem Mg.swap(h:Mg kf a o X Y):Mg kf a o Y X:=⟨h.r,h.l,(K8 o Lg).trans h.p⟩
theorem Mg.mvY{tot o X P R:List Keyed}(h:Mg kf tot o X (P++R))(c:∀p∈P,∀x∈X,kf p<=kf x):Mg kf tot (o++P) X R:=by
 obtain⟨l,r,p⟩:=h;refine⟨?_,by rw[Jm];exact r,?_⟩
 ·rw[<- Jm]at r
  obtain⟨l1,l2,l3⟩:=KL.mp l;obtain⟨r1,r2,r3⟩:=KL.mp r;refine KL.mpr ⟨r1,l2,fun a ha x hx=> ?_⟩
  rcases Jn.mp ha with z|z
  ·exact l3 a z x hx
  ·exact c a z x hx
 ·refine List.Perm.trans ?_ p
  rw[Jm];refine K8 o ?_;rw[<- Jm,<-Jm];exact List.Perm.append_right R Lg
theorem Mg.mvX{tot o P R Y:List Keyed}(h:Mg kf tot o (P++R) Y)(c:∀p∈P,∀x∈Y,kf p<=kf x):Mg kf tot (o++P) R Y:=(h.swap.mvY c).swap
theorem Mg.len(h:Mg kf a o X Y):o.length+X.length+Y.length=a.length:=by have:=h.p.length_eq;rw[JM,JM]at this;omega
theorem Mg.fin(h:Mg kf a o X []):gI kf (o++X)/\(o++X).Perm a:=⟨h.l,by simpa using h.p⟩
theorem gI.hd(h:gI kf (x::l))(m:y∈x::l):kf x<=kf y:=by
 rcases JU.mp m with z|z
 ·rw[z]
  exact Ks _
 ·exact(List.pairwise_cons.mp h).1 y z
theorem gI.app(h:gI kf (o++l)):gI kf l:=(KL.mp h).2.1
theorem sv(a:Array Keyed)(i:Nat):(a.extract i a.size).toList=a.toList.drop i:=by rw[Kt,Kb];exact Ki (by simp)
theorem C0(a:Array Keyed)(i k:Nat):(a.extract i (i+k)).toList=(a.toList.drop i).take k:=by rw[Kt,Kb,L4]
theorem jY{a:Array Keyed}(h:i<a.size):a.toList.drop i=a[i]'h::a.toList.drop (i+1):=by
 have b :i<a.toList.length:=by simpa using h
 rw[KN b];simp
section
variable{prog:Program}{w:World}{A:Around}{E:Value->Shared->Prop}{s:Shared}{st:SortSt}{κ:SortKind}{D:Keyed->Prop}
noncomputable def wX(a:Program)(w:World)(A:Around)(s:Shared)(c:SortKind)(b:Keyed->Int)(D:Keyed->Prop):Prop:=∀x y,D x->D y->∀(E:Value->Shared->Prop)(C:Bool->Shared->Prop),C (decide (b x<b y)) s->wpAny (model a w) A (keyLt' c x.1 y.1) C E s
theorem yY(b:wX prog w A s κ kf D)(d:kindOf st=κ)(c:D x)(a:D y)(h:Q (some (decide (kf x<kf y))) st):wpS (model prog w) A E s (lt' x y) Q st:=by rw[lt'_eq];refine JT (Mb ?_);rw[d];refine JT (wpS_lift (wpAny_attempt (b x y c a _ _ ⟨rfl,?_⟩)));exact JW h
theorem CQ(e:a[i]? =some x)(h:Q x st):wpS (model prog w) A E s (elem' a i) Q st:=by rw[elem'_eq,e];exact JW h
theorem eK(e:i<a.size)(h:Q (a[i]'e) st):wpS (model prog w) A E s (elem' a i) Q st:=CQ (getElem?_pos a i e) h
noncomputable def Pb(b:Keyed->Int)(left:Bool)(a x:Keyed):Bool:=if left then decide (b x<b a)else !decide (b a<b x)
theorem Ij(f:wX prog w A s κ kf D)(j:kindOf st=κ)(g:D x)(d:D b)(e:c[a+i]? =some x)(h:Q (some (Pb kf left b x)) st) :
  wpS (model prog w) A E s (DS left b c a i) Q st:=by
 unfold DS;refine JT (CQ e ?_);cases left with
 |true=>exact yY f j g d h|false=>exact JT (yY f j d g (JW h))
theorem vh(r:wX prog w A s κ kf D)(u:kindOf st=κ)(l:D c)(m:L.length=n)(g:∀i,i<n->d[b+i]? =L[i]?)(e:gI kf L)(t:∀x∈L,D x)(p:f<n)
  (h:∀k,k<=n->(∀x∈L.take k,Pb kf left c x=true)->(∀x∈L.drop k,Pb kf left c x=false)->Q (some k) st):wpS (model prog w) A E s (eS left c d b n f) Q st:=by
 subst m;have o:∀i (a:i<L.length),d[b+i]? =some L[i]:=λi a=>by rw[g i a,JN a]
 refine gal (B:=λi=>if a:i<L.length then Pb kf left c L[i]else false) p (λi j ij jn bj=> ?_) (λi a Q q=> ?_) λk hk1 k1 k2=>h k hk1 (λx hx=> ?_) λx hx=> ?_
 ·rw[dif_pos jn]at bj
  rw[dif_pos (by omega)];have v:kf L[i]<=kf L[j]:=by
   rcases Nat.lt_or_ge i j with z|z
   ·exact MS.mp e i j (by omega) jn z
   ·have:i=j:=by omega
    subst this;exact Ks _
  unfold Pb at bj ⊢;cases left with
  |true =>simp only[LX,Ku]at bj ⊢;omega
  |false =>simp only[Lb,Ly,L7,decide_eq_false_iff_not]at bj ⊢;omega
 ·rw[dif_pos a]at q
  exact Ij r u (t _ (KY a)) l (o i a) q
 ·obtain⟨i,a,rfl⟩:=MK hx
  rw[J6]at a;have:=k1 i (by omega);rw[dif_pos (by omega)]at this;rw[List.getElem_take];exact this
 ·obtain⟨i,a,rfl⟩:=MK hx
  rw[LU]at a;have:=k2 (k+i) (by omega) (by omega);rw[dif_pos (by omega)]at this;rw[List.getElem_drop];exact this
theorem GC(h:Pb kf true a x=true):kf x<kf a:=by simpa [Pb]using h
theorem GF(h:Pb kf true a x=false):kf a<=kf x:=by simpa [Pb]using h
theorem GE(h:Pb kf false a x=true):kf x<=kf a:=by simpa [Pb]using h
theorem GD(h:Pb kf false a x=false):kf a<kf x:=by simpa [Pb]using h
noncomputable abbrev cU(a:SortSt)(g:Nat):SortSt:=SortSt.mk' (kindOf a) (arrOf a) (pendingOf a) g (failedOf a)
noncomputable def gh :Nat->SM Unit:=sortPriv% PySem.Builtin.setMinGallop
theorem eO(g:Nat):gh g=modify λs=>cU s g:=rfl
end
end
noncomputable abbrev C5:=Option (Array Keyed)×Array Keyed×Nat×Nat×Nat×Nat×Nat
noncomputable def lo4(a b:Array Keyed)(k e:Nat)(c:Array Keyed)(d f g:Nat):SM (ForInStep C5):=do
 let x<-elem' a d
 if(d+1+1==a.size)=true then pure (.done (some (c.push x++b.extract f b.size++a.extract (d+1) a.size),c.push x,d+1,f,g,k,e))
 else if(decide (k<7)&&decide (e<7))=true then pure (.done (none,c.push x,d+1,f,g,k,e))else pure (.yield (none,c.push x,d+1,f,g,k,e))
noncomputable def Hg(a b:Array Keyed)(k:Nat)(d:Array Keyed)(f c g h:Nat):SM (ForInStep C5):=do
 let y<-elem' b c
 if(c+1==b.size)=true then pure (.done (some (d.push y++a.extract f a.size++b.extract (c+1) b.size),d.push y,f,c+1,g,k,h))
 else do
  let x<-elem' a f
  let z<-eS true x b (c+1) (b.size-(c+1)) 0
  match z with
  |some e=>if e>0 then(if(c+1+e==b.size)=true then pure (.done (some (d.push y++b.extract (c+1) (c+1+e)++a.extract f a.size++b.extract (c+1+e) b.size),d.push y++b.extract (c+1) (c+1+e),f,c+1+e,g,k,e))else lo4 a b k e (d.push y++b.extract (c+1) (c+1+e)) f (c+1+e) g)else lo4 a b k e (d.push y) f (c+1) g|none=>pure (.done (some (d.push y++a.extract f a.size++b.extract (c+1) b.size),d.push y,f,c+1,g,k,h))
noncomputable def Hk(a b d:Array Keyed)(c e f h g:Nat):SM (ForInStep C5):=do
 gh f
 let y<-elem' b e
 let z<-eS false y a c (a.size-c) 0
 match z with
 |some k=>if k>0 then(if(c+k+1==a.size)=true then pure (.done (some (d++a.extract c (c+k)++b.extract e b.size++a.extract (c+k) a.size),d++a.extract c (c+k),c+k,e,f,k,g))else if(c+k==a.size)=true then pure (.done (some (d++a.extract c (c+k)++a.extract (c+k) a.size++b.extract e b.size),d++a.extract c (c+k),c+k,e,f,k,g))else Hg a b k (d++a.extract c (c+k)) (c+k) e f g)else Hg a b k d c e f g|none=>pure (.done (some (d++a.extract c a.size++b.extract e b.size),d,c,e,f,h,g))
noncomputable abbrev C4:=Option (Array Keyed)×Array Keyed×Nat×Nat×Nat×Nat
noncomputable def lo1(a b:Array Keyed)(d:Nat)(c:C4):SM (ForInStep C4):=do
 let y<-elem' b c.2.2.2.1
 let x<-elem' a c.2.2.1
 let z<-lt' y x
 match z with
 |some e =>
  if e=true then do
   let y<-elem' b c.2.2.2.1
   if(c.2.2.2.1+1==b.size)=true then pure (.done (some (c.2.1.push y++a.extract c.2.2.1 a.size++b.extract (c.2.2.2.1+1) b.size),c.2.1.push y,c.2.2.1,c.2.2.2.1+1,0,c.2.2.2.2.2+1))
   else if c.2.2.2.2.2+1 ≥ d then pure (.done (none,c.2.1.push y,c.2.2.1,c.2.2.2.1+1,0,c.2.2.2.2.2+1))else pure (.yield (none,c.2.1.push y,c.2.2.1,c.2.2.2.1+1,0,c.2.2.2.2.2+1))
  else do
   let x<-elem' a c.2.2.1
   if(c.2.2.1+1+1==a.size)=true then pure (.done (some (c.2.1.push x++b.extract c.2.2.2.1 b.size++a.extract (c.2.2.1+1) a.size),c.2.1.push x,c.2.2.1+1,c.2.2.2.1,c.2.2.2.2.1+1,0))
   else if c.2.2.2.2.1+1 ≥ d then pure (.done (none,c.2.1.push x,c.2.2.1+1,c.2.2.2.1,c.2.2.2.2.1+1,0))else pure (.yield (none,c.2.1.push x,c.2.2.1+1,c.2.2.2.1,c.2.2.2.2.1+1,0))
 |none=>pure (.done (some (c.2.1++a.extract c.2.2.1 a.size++b.extract c.2.2.2.1 b.size),c.2.1,c.2.2.1,c.2.2.2.1,c.2.2.2.2.1,c.2.2.2.2.2))
noncomputable abbrev C3:=Option (Array Keyed)×Array Keyed×Nat×Nat×Nat
noncomputable def lo0(a b:Array Keyed)(c:C3):SM (ForInStep C3):=do
 let d<-forIn [:a.size+b.size] ((none,c.2.1,c.2.2.1,c.2.2.2.1,0,0):C4) λ_ d=>lo1 a b c.2.2.2.2 d
 match d.1 with
 |some r=>pure (.done (some r,d.2.1,d.2.2.1,d.2.2.2.1,c.2.2.2.2))|none=>do
  liftM (rule "list.sort.gallop")
  let e<-forIn [:a.size+b.size] ((none,d.2.1,d.2.2.1,d.2.2.2.1,c.2.2.2.2+1,d.2.2.2.2.1,d.2.2.2.2.2):C5) λ_ e =>
   if e.2.2.2.2.1>1 then Hk a b e.2.1 e.2.2.1 e.2.2.2.1 (e.2.2.2.2.1-1) e.2.2.2.2.2.1 e.2.2.2.2.2.2 else Hk a b e.2.1 e.2.2.1 e.2.2.2.1 e.2.2.2.2.1 e.2.2.2.2.2.1 e.2.2.2.2.2.2
  match e.1 with
  |some r=>pure (.done (some r,e.2.1,e.2.2.1,e.2.2.2.1,e.2.2.2.2.1))|none=>do
   gh (e.2.2.2.2.1+1)
   pure (.yield (none,e.2.1,e.2.2.1,e.2.2.2.1,e.2.2.2.2.1+1))
theorem pR(a b:Array Keyed):pS a b=(do
 liftM (rule "list.sort.merge-lo")
 let y<-elem' b 0
 if(1==b.size)=true then pure (#[y]++a.extract 0 a.size++b.extract 1 b.size)
 else if(0+1==a.size)=true then pure (#[y]++b.extract 1 b.size++a.extract 0 a.size)
 else do
  let s<-get
  let c<-forIn [:a.size+b.size] ((none,#[y],0,1,gallopOf s):C3) λ_ c=>lo0 a b c
  match c.1 with
  |some r=>pure r|none=>unsupported "internal:list.sort.merge-bound"):=by
 change (_ >>= _:SM (Array Keyed))=_
 dsimp only;refine Ji λ_=>Ji λy=>KB rfl (λ_=>rfl) λ_=>KB rfl (λ_=>rfl) λ_=>Ji λs=> ?_;refine eJ _ (λx c=> ?_) λc=> ?_
 ·unfold lo0
  refine eJ _ (λx d=> ?_) λd=> ?_
  ·unfold lo1
   exact Ji λy=>Ji λx=>Ji λz=>by cases z<;>rfl
  ·cases d.1 with
   |some r=>rfl|none =>
    refine Ji λ_=>eJ _ (λx e=> ?_) λe=> ?_
    ·refine KB rfl (λ_=> ?_) λ_=> ?_
     all_goals
      unfold Hk;refine Ji λ_=>Ji λy=>Ji λz=> ?_;cases z with
      |none=>rfl|some k =>
       refine KB rfl (λ_=>KB rfl (λ_=>rfl) λ_=>KB rfl (λ_=>rfl) λ_=> ?_) λ_=> ?_
       all_goals
        unfold Hg;refine Ji λy=>KB rfl (λ_=>rfl) λ_=>Ji λx=>Ji λz=> ?_;cases z with
        |none=>rfl|some k=>exact KB rfl (λ_=>KB rfl (λ_=>rfl) λ_=>rfl) λ_=>rfl
    ·cases e.1<;>rfl
 ·cases c.1<;>rfl
section
variable{kf:Keyed->Int}{prog:Program}{w:World}{A:Around}{E:Value->Shared->Prop}{s:Shared}{st st0:SortSt}{κ:SortKind}{D:Keyed->Prop}{tot:List Keyed}
noncomputable def Fi(b:Keyed->Int)(a:List Keyed)(r:Array Keyed):Prop:=gI b r.toList/\r.toList.Perm a
theorem Mg.done{a b c:Array Keyed}(M:Mg kf tot c.toList (a.toList.drop i) (b.toList.drop j))(e:i=a.size\/j=b.size):Fi kf tot (c++a.extract i a.size++b.extract j b.size):=by
 unfold Fi;rw[J3,J3,sv,sv]
 rcases e with e|e
 ·have z:a.toList.drop i=[]:=La (by simp[e])
  rw[z]at M ⊢;rw[KG];exact M.swap.fin
 ·have z:b.toList.drop j=[]:=La (by simp[e])
  rw[z]at M ⊢;rw[KG];exact M.fin
theorem Mg.last{a b c:Array Keyed}(M:Mg kf tot c.toList (a.toList.drop i) (b.toList.drop j))(e:i+1=a.size)(d:∀y∈b.toList,kf y<=kf (a.getD (a.size-1) default)):Fi kf tot (c++b.extract j b.size++a.extract i a.size):=by
 unfold Fi;rw[J3,J3,sv,sv];rw[<- KG (b.toList.drop j)]at M;have M:=M.mvY (P:=b.toList.drop j) (R:=[]) λp hp x hx=>by
  rw[jY (by omega),La (by simp;omega)]at hx;have:x=a[i]:=Jr.mp hx;subst this;have:=d p (LF hp);have f:a.size-1=i:=by omega
  simpa [Array.getD,f,show i<a.size by omega]using this
 exact M.fin
noncomputable def LQ(h:Keyed->Int)(d:List Keyed)(a b:Array Keyed)(e:SortSt)(n:Nat)(r:Option (Array Keyed))(c:Array Keyed)(f i:Nat)(j:SortSt):Prop :=
 (∃g,j=cU e g)/\((∃q,r=some q/\Fi h d q)\/(r=none/\Mg h d c.toList (a.toList.drop f) (b.toList.drop i)/\f+1<a.size/\i<b.size/\n<=c.size))
noncomputable def LR{h:Type}(f:Keyed->Int)(d:List Keyed)(a b:Array Keyed)(e:SortSt)(n:Nat)(r:ForInStep (Option (Array Keyed)×Array Keyed×Nat×Nat×h))(g:SortSt):Prop:=match r with
 | .done c=>LQ f d a b e n c.1 c.2.1 c.2.2.1 c.2.2.2.1 g| .yield c=>c.1=none/\LQ f d a b e n c.1 c.2.1 c.2.2.1 c.2.2.2.1 g
noncomputable def LD(f:Keyed->Int)(d:List Keyed)(a b:Array Keyed)(e:SortSt)(n:Nat)(r:ForInStep C3)(h:SortSt):Prop:=match r with
 | .done c=>∃q,c.1=some q/\Fi f d q/\∃g,h=cU e g| .yield c=>c.1=none/\LQ f d a b e n c.1 c.2.1 c.2.2.1 c.2.2.2.1 h
theorem LQ.weak(h:LQ kf tot a b st0 n r c d e st)(l:m<=n):LQ kf tot a b st0 m r c d e st := ⟨h.1,h.2.imp id λ⟨x1,x2,x3,x4,x5⟩=>⟨x1,x2,x3,x4,by omega⟩⟩
section
variable{a b:Array Keyed}(hc:wX prog w A s κ kf D)(hk:kindOf st0=κ)(da:∀x∈a.toList,D x)(db:∀x∈b.toList,D x)(hl:∀y∈b.toList,kf y<=kf (a.getD (a.size-1) default))
include hl
theorem DJ(hst:∃g,st=cU st0 g)(M:Mg kf tot out.toList (a.toList.drop ia) (b.toList.drop ib))(i1:ia+1<a.size)(i2:ib<b.size)(hn:n<=out.size)(hx:∀y∈b.toList.drop ib,kf (a[ia]'(by omega))<=kf y) :
  wpS (model prog w) A E s (lo4 a b k k1 out ia ib mg) (LR kf tot a b st0 (n+1)) st:=by
 unfold lo4;refine JT (eK (by omega) ?_);rw[jY (by omega:ia<a.size)]at M;have M' :Mg kf tot (out.push (a[ia]'(by omega))).toList (a.toList.drop (ia+1)) (b.toList.drop ib):=by rw[Km];exact M.mvX (P:=[_]) λp hp x hx' =>by rw[Jr.mp hp];exact hx x hx'
 by_cases c:ia+1+1=a.size
 ·rw[JI (by simpa using c)]
  exact JW ⟨hst,.inl ⟨_,rfl,M'.last c hl⟩⟩
 ·rw[JE (by simpa using c)]
  have z:LQ kf tot a b st0 (n+1) none (out.push (a[ia]'(by omega))) (ia+1) ib st:=⟨hst,.inr ⟨rfl,M',by omega,i2,by simp;omega⟩⟩
  by_cases d:(decide (k<7)&&decide (k1<7))=true
  ·rw[JI d]
   exact JW z
  ·rw[JE d]
   exact JW ⟨rfl,z⟩
include hc hk da db
theorem DK(hst:∃g,st=cU st0 g)(M:Mg kf tot out.toList (a.toList.drop ia) (b.toList.drop ib))(i1:ia+1<a.size)(i2:ib<b.size)(hn:n<=out.size)(hx:∀x∈a.toList.drop ia,kf (b[ib]'i2)<=kf x) :
  wpS (model prog w) A E s (Hg a b k out ia ib mg bc) (LR kf tot a b st0 (n+1)) st:=by
 unfold Hg;refine JT (eK (by omega) ?_);rw[jY i2]at M;have M' :Mg kf tot (out.push (b[ib]'i2)).toList (a.toList.drop ia) (b.toList.drop (ib+1)):=by rw[Km];exact M.mvY (P:=[_]) λp hp x hx' =>by rw[Jr.mp hp];exact hx x hx'
 by_cases c:ib+1=b.size
 ·rw[JI (by simpa using c)]
  exact JW ⟨hst,.inl ⟨_,rfl,M'.done (.inr c)⟩⟩
 ·rw[JE (by simpa using c)]
  refine JT (eK (by omega) ?_);have ha:=M'.l.app;have hb:=M'.r.app;have e1:=jY (by omega:ia<a.size);refine JT (vh (L:=b.toList.drop (ib+1)) hc (by obtain⟨g,rfl⟩:=hst;exact hk) (da _ (by simp)) (by simp) (λi hi=>by rw[List.getElem?_drop,Jt]) hb (λx hx=>db x (LF hx)) (by omega) λk1 kn k2 k3=> ?_);dsimp only;have k2:=λx hx=>GC (k2 x hx);have k3:=λx hx=>GF (k3 x hx)
  by_cases c2:k1>0
  ·rw[JI c2]
   have M2:Mg kf tot (out.push (b[ib]'i2)++b.extract (ib+1) (ib+1+k1)).toList (a.toList.drop ia) (b.toList.drop (ib+1+k1)):=by rw[J3,C0,show b.toList.drop (ib+1+k1)=(b.toList.drop (ib+1)).drop k1 from List.drop_drop.symm];rw[<- Jk k1 (b.toList.drop (ib+1))]at M';refine M'.mvY λp hp x hx' => ?_;rw[e1]at hx' ha;exact Kk (Kl (k2 p hp)) (ha.hd hx')
   by_cases c3:ib+1+k1=b.size
   ·rw[JI (by simpa using c3)]
    exact JW ⟨hst,.inl ⟨_,rfl,M2.done (.inr c3)⟩⟩
   ·rw[JE (by simpa using c3)]
    exact DJ hl hst M2 i1 (by omega) (by simp;omega) λy hy=>k3 y (by rw[List.drop_drop];exact hy)
  ·rw[JE c2]
   have:k1=0:=by omega
   subst this;exact DJ hl hst M' i1 (by omega) (by simp;omega) λy hy=>k3 y (by simpa using hy)
theorem Hh{n ia ib mg ac bc:Nat}{out:Array Keyed}(hst:∃g,st=cU st0 g)(M:Mg kf tot out.toList (a.toList.drop ia) (b.toList.drop ib))(i1:ia+1<a.size)(i2:ib<b.size)(hn:n<=out.size) :
  wpS (model prog w) A E s (Hk a b out ia ib mg ac bc) (LR kf tot a b st0 (n+1)) st:=by
 unfold Hk;rw[eO];obtain⟨g,rfl⟩:=hst;refine JT (LV ?_);refine JT (eK i2 ?_);have hst:∃g,cU (cU st0 g) mg=cU st0 g:=⟨mg,rfl⟩;have ha:=M.l.app;have hb:=M.r.app;have e1:=jY i2;refine JT (vh (L:=a.toList.drop ia) hc hk (db _ (by simp)) (by simp) (fun i hi=>by rw[List.getElem?_drop,Jt]) ha (fun x hx=>da x (LF hx)) (by omega) fun k1 kn k2 k3=> ?_);dsimp only;have k2:=fun x hx=>GE (k2 x hx);have k3:=fun x hx=>Kl (GD (k3 x hx))
 by_cases c2:k1>0
 ·rw[JI c2]
  have M2:Mg kf tot (out++a.extract ia (ia+k1)).toList (a.toList.drop (ia+k1)) (b.toList.drop ib):=by
   rw[J3,C0,<-List.drop_drop];rw[<- Jk k1 (a.toList.drop ia)]at M;refine M.mvX fun p hp x hx' => ?_;rw[e1]at hx' hb;exact Kk (k2 p hp) (hb.hd hx')
  by_cases c3:ia+k1+1=a.size
  ·rw[JI (by simpa using c3)]
   exact JW ⟨hst,.inl ⟨_,rfl,M2.last c3 hl⟩⟩
  ·rw[JE (by simpa using c3)]
   by_cases c4:ia+k1=a.size
   ·rw[JI (by simpa using c4)]
    exact JW ⟨hst,.inl ⟨_,rfl,M2.done (.inl c4)⟩⟩
   ·rw[JE (by simpa using c4)]
    exact DK hc hk da db hl hst M2 (by omega) i2 (by simp;omega) fun y hy=>k3 y (by rw[List.drop_drop];exact hy)
 ·rw[JE c2]
  have:k1=0:=by omega
  subst this;exact DK hc hk da db hl hst M i1 i2 hn fun y hy=>k3 y (by simpa using hy)
theorem Hl(hst:∃g,st=cU st0 g)(M:Mg kf tot out.toList (a.toList.drop ia) (b.toList.drop ib))(i1:ia+1<a.size)(i2:ib<b.size)(hn:n<=out.size) :
  wpS (model prog w) A E s (lo1 a b mg (none,out,ia,ib,ac,bc)) (LR kf tot a b st0 (n+1)) st:=by
 unfold lo1;have i1' :ia<a.size:=by omega
 have ha:=M.l.app;have hb:=M.r.app;have e1:=jY i2;have e2:=jY i1';refine JT (eK i2 (JT (eK i1' ?_)));refine JT (yY hc (by obtain⟨g,rfl⟩:=hst;exact hk) (db _ (by simp)) (da _ (by simp)) ?_);dsimp only
 by_cases c:kf (b[ib]'i2)<kf (a[ia]'i1')
 ·rw[JI (by simpa using c)]
  refine JT (eK i2 ?_);have M' :Mg kf tot (out.push (b[ib]'i2)).toList (a.toList.drop ia) (b.toList.drop (ib+1)):=by rw[Km];rw[e1]at M;exact M.mvY (P:=[_]) λp hp x hx' =>by rw[Jr.mp hp];rw[e2]at hx' ha;exact Kk (Kl c) (ha.hd hx')
  by_cases c3:ib+1=b.size
  ·rw[JI (by simpa using c3)]
   exact JW ⟨hst,.inl ⟨_,rfl,M'.done (.inr c3)⟩⟩
  ·rw[JE (by simpa using c3)]
   have z:LQ kf tot a b st0 (n+1) none (out.push (b[ib]'i2)) ia (ib+1) st:=⟨hst,.inr ⟨rfl,M',i1,by omega,by simp;omega⟩⟩
   by_cases d:bc+1 ≥ mg
   ·rw[JI d]
    exact JW z
   ·rw[JE d]
    exact JW ⟨rfl,z⟩
 ·rw[JE (by simpa using c)]
  refine JT (eK i1' ?_);have M' :Mg kf tot (out.push (a[ia]'i1')).toList (a.toList.drop (ia+1)) (b.toList.drop ib):=by rw[Km];rw[e2]at M;exact M.mvX (P:=[_]) λp hp x hx' =>by rw[Jr.mp hp];rw[e1]at hx' hb;exact Kk (Int.not_lt.mp c) (hb.hd hx')
  by_cases c3:ia+1+1=a.size
  ·rw[JI (by simpa using c3)]
   exact JW ⟨hst,.inl ⟨_,rfl,M'.last c3 hl⟩⟩
  ·rw[JE (by simpa using c3)]
   have z:LQ kf tot a b st0 (n+1) none (out.push (a[ia]'i1')) (ia+1) ib st:=⟨hst,.inr ⟨rfl,M',by omega,i2,by simp;omega⟩⟩
   by_cases d:ac+1 ≥ mg
   ·rw[JI d]
    exact JW z
   ·rw[JE d]
    exact JW ⟨rfl,z⟩
theorem Hm(v:∃g,st=cU st0 g)(M:Mg kf tot f.toList (a.toList.drop k) (b.toList.drop o))(G:k+1<a.size)(C:o<b.size)(B:n<=f.size) :
  wpS (model prog w) A E s (lo0 a b (none,f,k,o,u)) (LD kf tot a b st0 (n+1)) st:=by
 unfold lo0;refine JT (K6 (KP (I:=λx (c:C4) d =>c.1=none/\LQ kf tot a b st0 (n+x) c.1 c.2.1 c.2.2.1 c.2.2.2.1 d) (Q:=λc d =>LQ kf tot a b st0 (n+1) c.1 c.2.1 c.2.2.1 c.2.2.2.1 d) ?_ ?_ ⟨rfl,v,.inr ⟨rfl,M,G,C,B⟩⟩) ?_)
 ·rintro x ⟨r,f,k,o,y,t⟩ d _ F ⟨e,q,z⟩
  rcases z with⟨q,p,_⟩|⟨_,l,j,i,m⟩
  ·rw[e]at p
   cases p
  ·have e:r=none:=e
   subst e;refine K6 (Hl hc hk da db hl q l j i m) λr d h=> ?_;cases r with
   |done c=>exact LQ.weak h (by omega)|yield c=>exact h
 ·rintro c d ⟨e,h⟩
  exact h.weak (by omega)
 ·rintro⟨r,f,k,o,y,t⟩ d ⟨q,z⟩
  rcases z with⟨r,e,z⟩|⟨e,l,j,i,m⟩
  ·have e:_=some r:=e
   subst e;exact JW ⟨_,rfl,z,q⟩
  ·have e:r=none:=e
   subst e;refine JT (wpS_lift (L8 ⟨rfl,?_⟩));refine JT (K6 (KP (I:=λx (c:C5) d =>c.1=none/\LQ kf tot a b st0 (n+1) c.1 c.2.1 c.2.2.1 c.2.2.2.1 d) (Q:=λc d =>LQ kf tot a b st0 (n+1) c.1 c.2.1 c.2.2.1 c.2.2.2.1 d) ?_ ?_ ⟨rfl,q,.inr ⟨rfl,l,j,i,m⟩⟩) ?_)
   ·rintro x ⟨r,f,k,o,u,y,t⟩ d _ F ⟨e,q,z⟩
    rcases z with⟨q,p,_⟩|⟨_,l,j,i,m⟩
    ·rw[e]at p
     cases p
    ·have e:r=none:=e
     subst e;dsimp only
     split <;>
     ·refine K6 (Hh hc hk da db hl q l j i m) λr d h=> ?_
      cases r with
      |done c=>exact LQ.weak h (by omega)|yield c=>exact⟨h.1,LQ.weak h.2 (by omega)⟩
   ·rintro c d ⟨_,h⟩
    exact h
   ·rintro⟨r,f,k,o,u,y,t⟩ d ⟨q,z⟩
    rcases z with⟨r,e,z⟩|⟨e,l,j,i,m⟩
    ·have e:_=some r:=e
     subst e;exact JW ⟨_,rfl,z,q⟩
    ·have e:r=none:=e
     subst e;dsimp only;rw[eO];obtain⟨g,rfl⟩:=q;exact JT (LV (JW ⟨rfl,⟨_,rfl⟩,.inr ⟨rfl,l,j,i,m⟩⟩))
end
theorem mergeLo(hc:wX prog w A s κ kf D)(hk:kindOf st=κ)(da:∀x∈a.toList,D x)(db:∀x∈b.toList,D x)(sa:gI kf a.toList)(sb:gI kf b.toList)(na:0<a.size)(nb:0<b.size)
  (hf:∀x∈a.toList,kf (b[0]'nb)<=kf x) (hl:∀y∈b.toList,kf y<=kf (a.getD (a.size-1) default)) (h:∀r g,Fi kf (a.toList++b.toList) r->Q r (cU st g)):wpS (model prog w) A E s (pS a b) Q st:=by
 rw[pR];refine JT (wpS_lift (L8 ⟨rfl,?_⟩));refine JT (eK nb ?_);have e1:=jY nb;have M:Mg kf (a.toList++b.toList) (#[b[0]'nb]:Array Keyed).toList (a.toList.drop 0) (b.toList.drop 1):=by rw[List.drop_zero]at e1 ⊢;have M0:Mg kf (a.toList++b.toList) [] a.toList ([b[0]'nb]++b.toList.drop 1):=⟨sa,by rw[e1]at sb;exact sb,by rw[Lf];exact K8 _ (by rw[e1];exact Kr _)⟩;exact M0.mvY λp hp x hx=>by rw[Jr.mp hp];exact hf x hx
 by_cases c1:1=b.size
 ·rw[JI (by simpa using c1)]
  exact JW (h _ (gallopOf st) (M.done (.inr c1)))
 ·rw[JE (by simpa using c1)]
  by_cases c2:0+1=a.size
  ·rw[JI (by simpa using c2)]
   exact JW (h _ (gallopOf st) (M.last c2 hl))
  ·rw[JE (by simpa using c2)]
   refine JT (Mb ?_);refine JT (KP (I:=λx (c:C3) st' =>c.1=none/\LQ kf (a.toList++b.toList) a b st (1+x) c.1 c.2.1 c.2.2.1 c.2.2.2.1 st') ?_ ?_ ⟨rfl,⟨_,rfl⟩,.inr ⟨rfl,M,by show 0+1<a.size;omega,by show 1<b.size;omega,JH _⟩⟩)
   ·rintro x ⟨r,out,ia,ib,mg⟩ st' _ hx ⟨e,q,z⟩
    rcases z with⟨q,e',_⟩|⟨_,z1,z2,z3,z4⟩
    ·rw[e]at e'
     cases e'
    ·have e:r=none:=e
     subst e;refine K6 (Hm hc hk da db hl q z1 z2 z3 z4) λr st' hr=> ?_;cases r with
     |done c =>obtain⟨r,c⟩:=c;obtain⟨q,e',f,g,rfl⟩:=hr;have e' :r=some q:=e';subst e';exact JW (h q g f)
     |yield c=>exact hr
   ·rintro⟨r,out,ia,ib,mg⟩ st' ⟨e,q,z⟩
    rcases z with⟨q,e',_⟩|⟨_,z1,z2,z3,z4⟩
    ·rw[e]at e'
     cases e'
    ·have:=z1.len
     simp at this;have z4:1+(max 0 (a.size+b.size))<=out.size:=z4;omega
end
noncomputable abbrev H5:=Option (Array Keyed)×Nat×Nat×Array Keyed×Nat×Nat×Nat
noncomputable abbrev zQ(a b c:Array Keyed)(d e:Nat):Array Keyed:=a.extract 0 d++b.extract 0 e++c.reverse
noncomputable abbrev FQ(a b c:Array Keyed)(d e:Nat):Array Keyed:=b.extract 0 e++a.extract 0 d++c.reverse
noncomputable def hi4(a b:Array Keyed)(k e:Nat)(c:Array Keyed)(d f g:Nat):SM (ForInStep H5):=do
 let x<-elem' a (d-1)
 if(d-1==0)=true then pure (.done (some (zQ a b (c.push x) (d-1) f),d-1,f,c.push x,g,k,e))
 else if(decide (k<7)&&decide (e<7))=true then pure (.done (none,d-1,f,c.push x,g,k,e))else pure (.yield (none,d-1,f,c.push x,g,k,e))
noncomputable def Hw(a b:Array Keyed)(k:Nat)(c:Array Keyed)(f d g h:Nat):SM (ForInStep H5):=do
 let y<-elem' b (d-1)
 if(d-1==1)=true then pure (.done (some (FQ a b (c.push y) f (d-1)),f,d-1,c.push y,g,k,h))
 else do
  let x<-elem' a (f-1)
  let z<-eS true x b 0 (d-1) (d-1-1)
  match z with
  |some e=>if d-1-e>0 then(if(e==1)=true then pure (.done (some (FQ a b (c.push y++(b.extract e (d-1)).reverse) f e),f,e,c.push y++(b.extract e (d-1)).reverse,g,k,d-1-e))else if(e==0)=true then pure (.done (some (zQ a b (c.push y++(b.extract e (d-1)).reverse) f e),f,e,c.push y++(b.extract e (d-1)).reverse,g,k,d-1-e))else hi4 a b k (d-1-e) (c.push y++(b.extract e (d-1)).reverse) f e g)else hi4 a b k (d-1-e) (c.push y) f (d-1) g|none=>pure (.done (some (zQ a b (c.push y) f (d-1)),f,d-1,c.push y,g,k,h))
noncomputable def Hy(a b c:Array Keyed)(d f g i h:Nat):SM (ForInStep H5):=do
 gh g
 let y<-elem' b (f-1)
 let z<-eS false y a 0 d (d-1)
 match z with
 |some e=>if d-e>0 then(if(e==0)=true then pure (.done (some (zQ a b (c++(a.extract e d).reverse) e f),e,f,c++(a.extract e d).reverse,g,d-e,h))else Hw a b (d-e) (c++(a.extract e d).reverse) e f g h)else Hw a b (d-e) c d f g h|none=>pure (.done (some (zQ a b c d f),d,f,c,g,i,h))
noncomputable abbrev H4:=Option (Array Keyed)×Nat×Nat×Array Keyed×Nat×Nat
noncomputable def hi1(a b:Array Keyed)(d:Nat)(c:H4):SM (ForInStep H4):=do
 let y<-elem' b (c.2.2.1-1)
 let x<-elem' a (c.2.1-1)
 let z<-lt' y x
 match z with
 |some e =>
  if e=true then do
   let x<-elem' a (c.2.1-1)
   if(c.2.1-1==0)=true then pure (.done (some (zQ a b (c.2.2.2.1.push x) (c.2.1-1) c.2.2.1),c.2.1-1,c.2.2.1,c.2.2.2.1.push x,c.2.2.2.2.1+1,0))
   else if c.2.2.2.2.1+1 ≥ d then pure (.done (none,c.2.1-1,c.2.2.1,c.2.2.2.1.push x,c.2.2.2.2.1+1,0))else pure (.yield (none,c.2.1-1,c.2.2.1,c.2.2.2.1.push x,c.2.2.2.2.1+1,0))
  else do
   let y<-elem' b (c.2.2.1-1)
   if(c.2.2.1-1==1)=true then pure (.done (some (FQ a b (c.2.2.2.1.push y) c.2.1 (c.2.2.1-1)),c.2.1,c.2.2.1-1,c.2.2.2.1.push y,0,c.2.2.2.2.2+1))
   else if c.2.2.2.2.2+1 ≥ d then pure (.done (none,c.2.1,c.2.2.1-1,c.2.2.2.1.push y,0,c.2.2.2.2.2+1))else pure (.yield (none,c.2.1,c.2.2.1-1,c.2.2.2.1.push y,0,c.2.2.2.2.2+1))
 |none=>pure (.done (some (zQ a b c.2.2.2.1 c.2.1 c.2.2.1),c.2.1,c.2.2.1,c.2.2.2.1,c.2.2.2.2.1,c.2.2.2.2.2))
noncomputable abbrev H3:=Option (Array Keyed)×Nat×Nat×Array Keyed×Nat
noncomputable def hi0(a b:Array Keyed)(c:H3):SM (ForInStep H3):=do
 let d<-forIn [:a.size+b.size] ((none,c.2.1,c.2.2.1,c.2.2.2.1,0,0):H4) λ_ d=>hi1 a b c.2.2.2.2 d
 match d.1 with
 |some r=>pure (.done (some r,d.2.1,d.2.2.1,d.2.2.2.1,c.2.2.2.2))|none=>do
  liftM (rule "list.sort.gallop")
  let e<-forIn [:a.size+b.size] ((none,d.2.1,d.2.2.1,d.2.2.2.1,c.2.2.2.2+1,d.2.2.2.2.1,d.2.2.2.2.2):H5) λ_ e =>
   if e.2.2.2.2.1>1 then Hy a b e.2.2.2.1 e.2.1 e.2.2.1 (e.2.2.2.2.1-1) e.2.2.2.2.2.1 e.2.2.2.2.2.2 else Hy a b e.2.2.2.1 e.2.1 e.2.2.1 e.2.2.2.2.1 e.2.2.2.2.2.1 e.2.2.2.2.2.2
  match e.1 with
  |some r=>pure (.done (some r,e.2.1,e.2.2.1,e.2.2.2.1,e.2.2.2.2.1))|none=>do
   gh (e.2.2.2.2.1+1)
   pure (.yield (none,e.2.1,e.2.2.1,e.2.2.2.1,e.2.2.2.2.1+1))
theorem pT(a b:Array Keyed):pU a b=(do
 liftM (rule "list.sort.merge-hi")
 let x<-elem' a (a.size-1)
 if(a.size-1==0)=true then pure (zQ a b #[x] (a.size-1) b.size)
 else if(b.size==1)=true then pure (FQ a b #[x] (a.size-1) b.size)
 else do
  let s<-get
  let c<-forIn [:a.size+b.size] ((none,a.size-1,b.size,#[x],gallopOf s):H3) λ_ c=>hi0 a b c
  match c.1 with
  |some r=>pure r|none=>unsupported "internal:list.sort.merge-bound"):=by
 change (_ >>= _:SM (Array Keyed))=_
 dsimp only;refine Ji λ_=>Ji λy=>KB rfl (λ_=>rfl) λ_=>KB rfl (λ_=>rfl) λ_=>Ji λs=> ?_;refine eJ _ (λx c=> ?_) λc=> ?_
 ·unfold hi0
  refine eJ _ (λx d=> ?_) λd=> ?_
  ·unfold hi1
   exact Ji λy=>Ji λx=>Ji λz=>by cases z<;>rfl
  ·cases d.1 with
   |some r=>rfl|none =>
    refine Ji λ_=>eJ _ (λx e=> ?_) λe=> ?_
    ·refine KB rfl (λ_=> ?_) λ_=> ?_
     all_goals
      unfold Hy;refine Ji λ_=>Ji λy=>Ji λz=> ?_;cases z with
      |none=>rfl|some k =>
       refine KB rfl (λ_=>KB rfl (λ_=>rfl) λ_=> ?_) λ_=> ?_
       all_goals
        unfold Hw;refine Ji λy=>KB rfl (λ_=>rfl) λ_=>Ji λx=>Ji λz=> ?_;cases z with
        |none=>rfl|some k=>exact KB rfl (λ_=>KB rfl (λ_=>rfl) λ_=>KB rfl (λ_=>rfl) λ_=>rfl) λ_=>rfl
    ·cases e.1<;>rfl
 ·cases c.1<;>rfl
section
variable{kf:Keyed->Int}{prog:Program}{w:World}{A:Around}{E:Value->Shared->Prop}{s:Shared}{st st0:SortSt}{κ:SortKind}{D:Keyed->Prop}{tot:List Keyed}
noncomputable abbrev ng(a:Keyed->Int):Keyed->Int:=λx=> - a x
theorem eZ:gI (ng kf) l.reverse↔gI kf l:=by unfold gI;rw[List.pairwise_reverse];exact⟨λh=>h.imp λ{x y} h=>by have: - kf y<= - kf x:=h;omega,λh=>h.imp λ{x y} h=>by show-kf y<= - kf x;omega⟩
noncomputable abbrev tk(a:Array Keyed)(n:Nat):List Keyed:=(a.toList.take n).reverse
theorem su(a:Array Keyed)(n:Nat):(a.extract 0 n).toList=a.toList.take n:=by rw[Kt,Kb,List.drop_zero,Nat.sub_zero]
theorem C7(b:0<n)(h:n<=a.size):tk a n=(a[n-1]'(by omega))::tk a (n-1):=by obtain⟨m,rfl⟩:∃m,n=m+1:=⟨n-1,by omega⟩;unfold tk;rw[List.take_succ_eq_append_getElem (by simp;omega),LM];simp
theorem tkp(h:k<=n)(b:n<=a.size):tk a n=(a.extract k n).reverse.toList++tk a k:=by
 unfold tk;rw[Lo,Kt,Kb,<-LM]
 congr 1
 rw[<- Jk k (a.toList.take n),MO,Kn h,List.drop_take]
theorem Mg.doneH(M:Mg (ng kf) tot c.toList (tk a i) (tk b j))(e:i=0\/j=0):Fi kf tot (zQ a b c i j):=by
 have z:(zQ a b c i j).toList.reverse=c.toList++(tk b j++tk a i):=by unfold zQ;rw[J3,J3,su,su,Lo,LM,LM,List.reverse_reverse]
 have y:gI (ng kf) (c.toList++(tk b j++tk a i))/\(c.toList++(tk b j++tk a i)).Perm tot:=by
  rcases e with e|e
  ·subst e
   have M:Mg (ng kf) tot c.toList [] (tk b j):=by simpa [tk]using M
   simpa [tk]using M.swap.fin
  ·subst e
   have M:Mg (ng kf) tot c.toList (tk a i) []:=by simpa [tk]using M
   simpa [tk]using M.fin
 rw[<- z]at y;exact⟨eZ.mp y.1,(MV _).symm.trans y.2⟩
theorem Mg.firstH(M:Mg (ng kf) tot out.toList (tk a i) (tk b j))(h1:j=1)(nb:0<b.size)(hf:∀x∈a.toList,kf (b[0]'nb)<=kf x):Fi kf tot (FQ a b out i j):=by
 subst h1;have z:(FQ a b out i 1).toList.reverse=out.toList++(tk a i++tk b 1):=by unfold FQ;rw[J3,J3,su,su,Lo,LM,LM,List.reverse_reverse]
 have e:tk b 1=[b[0]'nb]:=by rw[C7 (by omega) (by omega)];simp[tk]
 rw[e]at M z;rw[<- KG (tk a i)]at M;have M:=(M.mvX (P:=tk a i) (R:=[]) λp hp x hx=>by rw[Jr.mp hx];have:=hf p (Ke (K1.mp hp));show-kf p<= - kf _;omega).swap.fin
 rw[Jm,<-z]at M;exact⟨eZ.mp M.1,(MV _).symm.trans M.2⟩
noncomputable def HQ(i:Keyed->Int)(d:List Keyed)(a b:Array Keyed)(h:SortSt)(n:Nat)(r:Option (Array Keyed))(f e:Nat)(c:Array Keyed)(j:SortSt):Prop :=
 (∃g,j=cU h g)/\((∃q,r=some q/\Fi i d q)\/(r=none/\Mg (ng i) d c.toList (tk a f) (tk b e)/\(0<f/\f<=a.size)/\(1<e/\e<=b.size)/\n<=c.size))
noncomputable def HR{h:Type}(f:Keyed->Int)(d:List Keyed)(a b:Array Keyed)(e:SortSt)(n:Nat)(r:ForInStep (Option (Array Keyed)×Nat×Nat×Array Keyed×h))(g:SortSt):Prop:=match r with
 | .done c=>HQ f d a b e n c.1 c.2.1 c.2.2.1 c.2.2.2.1 g| .yield c=>c.1=none/\HQ f d a b e n c.1 c.2.1 c.2.2.1 c.2.2.2.1 g
noncomputable def HD(f:Keyed->Int)(d:List Keyed)(a b:Array Keyed)(e:SortSt)(n:Nat)(r:ForInStep H3)(h:SortSt):Prop:=match r with
 | .done c=>∃q,c.1=some q/\Fi f d q/\∃g,h=cU e g| .yield c=>c.1=none/\HQ f d a b e n c.1 c.2.1 c.2.2.1 c.2.2.2.1 h
theorem HQ.weak(h:HQ kf tot a b st0 n r d e c st)(l:m<=n):HQ kf tot a b st0 m r d e c st := ⟨h.1,h.2.imp id λ⟨x1,x2,x3,x4,x5⟩=>⟨x1,x2,x3,x4,by omega⟩⟩
section
variable{a b:Array Keyed}(hc:wX prog w A s κ kf D)(hk:kindOf st0=κ)(da:∀x∈a.toList,D x)(db:∀x∈b.toList,D x)(nb0:0<b.size)(hf:∀x∈a.toList,kf (b[0]'nb0)<=kf x)
theorem DM(i:∃g,st=cU st0 g)(M:Mg (ng kf) tot e.toList (tk a f) (tk b h))(m:0<f/\f<=a.size)(p:1<h/\h<=b.size)(r:n<=e.size)(q:∀y∈tk b h,kf y<=kf (a[f-1]'(by omega))) :
  wpS (model prog w) A E s (hi4 a b k l e f h o) (HR kf tot a b st0 (n+1)) st:=by
 unfold hi4;refine JT (eK (by omega) ?_);rw[C7 m.1 m.2]at M;have j :Mg (ng kf) tot (e.push (a[f-1]'(by omega))).toList (tk a (f-1)) (tk b h):=by rw[Km];exact M.mvX (P:=[_]) λp hp x hx' =>by rw[Jr.mp hp];have:=q x hx';show-kf _<= - kf _;omega
 by_cases c:f-1=0
 ·rw[JI (by simpa using c)]
  exact JW ⟨i,.inl ⟨_,rfl,j.doneH (.inl c)⟩⟩
 ·rw[JE (by simpa using c)]
  have z:HQ kf tot a b st0 (n+1) none (f-1) h (e.push (a[f-1]'(by omega))) st:=⟨i,.inr ⟨rfl,j,by omega,p,by simp;omega⟩⟩
  by_cases d:(decide (k<7)&&decide (l<7))=true
  ·rw[JI d]
   exact JW z
  ·rw[JE d]
   exact JW ⟨rfl,z⟩
include hc hk da db nb0 hf
theorem DN{k n na nb mg bc:Nat}{out:Array Keyed}(hst:∃g,st=cU st0 g)(M:Mg (ng kf) tot out.toList (tk a na) (tk b nb))(i1:0<na/\na<=a.size)(i2:1<nb/\nb<=b.size)(hn:n<=out.size)(hx:∀x∈tk a na,kf x<=kf (b[nb-1]'(by omega))) :
  wpS (model prog w) A E s (Hw a b k out na nb mg bc) (HR kf tot a b st0 (n+1)) st:=by
 unfold Hw;refine JT (eK (by omega) ?_);rw[C7 (by omega) i2.2]at M;have M' :Mg (ng kf) tot (out.push (b[nb-1]'(by omega))).toList (tk a na) (tk b (nb-1)):=by
  rw[Km];exact M.mvY (P:=[_]) fun p hp x hx' =>by
   rw[Jr.mp hp];have:=hx x hx';show-kf _<= - kf _;omega
 by_cases c:nb-1=1
 ·rw[JI (by simpa using c)]
  exact JW ⟨hst,.inl ⟨_,rfl,M'.firstH c nb0 hf⟩⟩
 ·rw[JE (by simpa using c)]
  refine JT (eK (by omega) ?_);have ha:=eZ.mp M'.l.app;have hb:=eZ.mp M'.r.app;have ha' :=M'.l.app;have e1:=C7 i1.1 i1.2;refine JT (vh (L:=b.toList.take (nb-1)) hc (by obtain⟨g,rfl⟩:=hst;exact hk) (da _ (by simp)) (by simp;omega) (fun i hi=>by rw[LK hi,Jt,Nat.zero_add]) hb (fun x hx=>db x (Ke hx)) (by omega) fun k1 kn k2 k3=> ?_);dsimp only;have k2:=fun x hx=>Kl (GC (k2 x hx));have k3:=fun x hx=>GF (k3 x hx)
  by_cases c2:nb-1-k1>0
  ·rw[JI c2]
   have M2:Mg (ng kf) tot (out.push (b[nb-1]'(by omega))++(b.extract k1 (nb-1)).reverse).toList (tk a na) (tk b k1):=by
    rw[J3];rw[tkp kn (by omega)]at M';refine M'.mvY fun p hp x hx' => ?_;rw[Lo,K1,Kt,Kb,<-List.drop_take]at hp;rw[e1]at hx' ha';have l1:=k3 p hp;have l2: - kf _<= - kf x:=ha'.hd hx';show-kf p<= - kf x;omega
   by_cases c3:k1=1
   ·rw[JI (by simpa using c3)]
    exact JW ⟨hst,.inl ⟨_,rfl,M2.firstH c3 nb0 hf⟩⟩
   ·rw[JE (by simpa using c3)]
    by_cases c4:k1=0
    ·rw[JI (by simpa using c4)]
     exact JW ⟨hst,.inl ⟨_,rfl,M2.doneH (.inr c4)⟩⟩
    ·rw[JE (by simpa using c4)]
     exact DM hst M2 i1 (by omega) (by simp;omega) fun y hy=>k2 y (by rw[MO,Kn kn];exact K1.mp hy)
  ·rw[JE c2]
   have:k1=nb-1:=by omega
   subst this;exact DM hst M' i1 (by omega) (by simp;omega) fun y hy=>k2 y (by rw[MO,LY];exact K1.mp hy)
theorem Hx(c:∃g,st=cU st0 g)(M:Mg (ng kf) tot d.toList (tk a e) (tk b h))(F:0<e/\e<=a.size)(m:1<h/\h<=b.size)(z:n<=d.size) :
  wpS (model prog w) A E s (Hy a b d e h k C v) (HR kf tot a b st0 (n+1)) st:=by
 unfold Hy;rw[eO];obtain⟨g,rfl⟩:=c;refine JT (LV ?_);refine JT (eK (by omega) ?_);have c:∃g,cU (cU st0 g) k=cU st0 g:=⟨k,rfl⟩;have B:=eZ.mp M.l.app;have f :=M.r.app;have u:=C7 (by omega) m.2;refine JT (vh (L:=a.toList.take e) hc hk (db _ (by simp)) (by simp;omega) (λi hi=>by rw[LK hi,Jt,Nat.zero_add]) B (λx hx=>da x (Ke hx)) (by omega) λk1 kn i o=> ?_);dsimp only;have i:=λx hx=>GE (i x hx);have o:=λx hx=>Kl (GD (o x hx))
 by_cases t:e-k1>0
 ·rw[JI t]
  have q:Mg (ng kf) tot (d++(a.extract k1 e).reverse).toList (tk a k1) (tk b h):=by rw[J3];rw[tkp kn (by omega)]at M;refine M.mvX λp hp x hx' => ?_;rw[Lo,K1,Kt,Kb,<-List.drop_take]at hp;rw[u]at hx' f;have H:=o p hp;have G: - kf _<= - kf x:=f.hd hx';show-kf p<= - kf x;omega
  by_cases j:k1=0
  ·rw[JI (by simpa using j)]
   exact JW ⟨c,.inl ⟨_,rfl,q.doneH (.inl j)⟩⟩
  ·rw[JE (by simpa using j)]
   exact DN hc hk da db nb0 hf c q (by omega) m (by simp;omega) λy hy=>i y (by rw[MO,Kn kn];exact K1.mp hy)
 ·rw[JE t]
  have:k1=e:=by omega
  subst this;exact DN hc hk da db nb0 hf c M F m z λy hy=>i y (by rw[MO,LY];exact K1.mp hy)
theorem Hz(hst:∃g,st=cU st0 g)(M:Mg (ng kf) tot out.toList (tk a na) (tk b nb))(i1:0<na/\na<=a.size)(i2:1<nb/\nb<=b.size)(hn:n<=out.size) :
  wpS (model prog w) A E s (hi1 a b mg (none,na,nb,out,ac,bc)) (HR kf tot a b st0 (n+1)) st:=by
 unfold hi1;have i1' :na-1<a.size:=by omega
 have i2' :nb-1<b.size:=by omega
 have ha:=M.l.app;have hb:=M.r.app;have e1:=C7 (by omega) i2.2;have e2:=C7 i1.1 i1.2;refine JT (eK i2' (JT (eK i1' ?_)));refine JT (yY hc (by obtain⟨g,rfl⟩:=hst;exact hk) (db _ (by simp)) (da _ (by simp)) ?_);dsimp only
 by_cases c:kf (b[nb-1]'i2')<kf (a[na-1]'i1')
 ·rw[JI (by simpa using c)]
  refine JT (eK i1' ?_);have M' :Mg (ng kf) tot (out.push (a[na-1]'i1')).toList (tk a (na-1)) (tk b nb):=by rw[Km];rw[e2]at M;exact M.mvX (P:=[_]) λp hp x hx' =>by rw[Jr.mp hp];rw[e1]at hx' hb;have l2: - kf _<= - kf x:=hb.hd hx';show-kf _<= - kf x;omega
  by_cases c3:na-1=0
  ·rw[JI (by simpa using c3)]
   exact JW ⟨hst,.inl ⟨_,rfl,M'.doneH (.inl c3)⟩⟩
  ·rw[JE (by simpa using c3)]
   have z:HQ kf tot a b st0 (n+1) none (na-1) nb (out.push (a[na-1]'i1')) st:=⟨hst,.inr ⟨rfl,M',by omega,i2,by simp;omega⟩⟩
   by_cases d:ac+1 ≥ mg
   ·rw[JI d]
    exact JW z
   ·rw[JE d]
    exact JW ⟨rfl,z⟩
 ·rw[JE (by simpa using c)]
  refine JT (eK i2' ?_);have M' :Mg (ng kf) tot (out.push (b[nb-1]'i2')).toList (tk a na) (tk b (nb-1)):=by rw[Km];rw[e1]at M;exact M.mvY (P:=[_]) λp hp x hx' =>by rw[Jr.mp hp];rw[e2]at hx' ha;have l2: - kf _<= - kf x:=ha.hd hx';show-kf _<= - kf x;omega
  by_cases c3:nb-1=1
  ·rw[JI (by simpa using c3)]
   exact JW ⟨hst,.inl ⟨_,rfl,M'.firstH c3 nb0 hf⟩⟩
  ·rw[JE (by simpa using c3)]
   have z:HQ kf tot a b st0 (n+1) none na (nb-1) (out.push (b[nb-1]'i2')) st:=⟨hst,.inr ⟨rfl,M',i1,by omega,by simp;omega⟩⟩
   by_cases d:bc+1 ≥ mg
   ·rw[JI d]
    exact JW z
   ·rw[JE d]
    exact JW ⟨rfl,z⟩
theorem IA(v:∃g,st=cU st0 g)(M:Mg (ng kf) tot f.toList (tk a j) (tk b i))(G:0<j/\j<=a.size)(C:1<i/\i<=b.size)(B:n<=f.size) :
  wpS (model prog w) A E s (hi0 a b (none,j,i,f,u)) (HD kf tot a b st0 (n+1)) st:=by
 unfold hi0;refine JT (K6 (KP (I:=λx (c:H4) d =>c.1=none/\HQ kf tot a b st0 (n+x) c.1 c.2.1 c.2.2.1 c.2.2.2.1 d) (Q:=λc d =>HQ kf tot a b st0 (n+1) c.1 c.2.1 c.2.2.1 c.2.2.2.1 d) ?_ ?_ ⟨rfl,v,.inr ⟨rfl,M,G,C,B⟩⟩) ?_)
 ·rintro x ⟨r,j,i,f,y,t⟩ d _ F ⟨e,q,z⟩
  rcases z with⟨q,p,_⟩|⟨_,m,l,k,o⟩
  ·rw[e]at p
   cases p
  ·have e:r=none:=e
   subst e;refine K6 (Hz hc hk da db nb0 hf q m l k o) λr d h=> ?_;cases r with
   |done c=>exact HQ.weak h (by omega)|yield c=>exact h
 ·rintro c d ⟨e,h⟩
  exact h.weak (by omega)
 ·rintro⟨r,j,i,f,y,t⟩ d ⟨q,z⟩
  rcases z with⟨r,e,z⟩|⟨e,m,l,k,o⟩
  ·have e:_=some r:=e
   subst e;exact JW ⟨_,rfl,z,q⟩
  ·have e:r=none:=e
   subst e;refine JT (wpS_lift (L8 ⟨rfl,?_⟩));refine JT (K6 (KP (I:=λx (c:H5) d =>c.1=none/\HQ kf tot a b st0 (n+1) c.1 c.2.1 c.2.2.1 c.2.2.2.1 d) (Q:=λc d =>HQ kf tot a b st0 (n+1) c.1 c.2.1 c.2.2.1 c.2.2.2.1 d) ?_ ?_ ⟨rfl,q,.inr ⟨rfl,m,l,k,o⟩⟩) ?_)
   ·rintro x ⟨r,j,i,f,u,y,t⟩ d _ F ⟨e,q,z⟩
    rcases z with⟨q,p,_⟩|⟨_,m,l,k,o⟩
    ·rw[e]at p
     cases p
    ·have e:r=none:=e
     subst e;dsimp only
     split <;>
     ·refine K6 (Hx hc hk da db nb0 hf q m l k o) λr d h=> ?_
      cases r with
      |done c=>exact HQ.weak h (by omega)|yield c=>exact⟨h.1,HQ.weak h.2 (by omega)⟩
   ·rintro c d ⟨_,h⟩
    exact h
   ·rintro⟨r,j,i,f,u,y,t⟩ d ⟨q,z⟩
    rcases z with⟨r,e,z⟩|⟨e,m,l,k,o⟩
    ·have e:_=some r:=e
     subst e;exact JW ⟨_,rfl,z,q⟩
    ·have e:r=none:=e
     subst e;dsimp only;rw[eO];obtain⟨g,rfl⟩:=q;exact JT (LV (JW ⟨rfl,⟨_,rfl⟩,.inr ⟨rfl,m,l,k,o⟩⟩))
end
theorem mergeHi(hc:wX prog w A s κ kf D)(hk:kindOf st=κ)(da:∀x∈a.toList,D x)(db:∀x∈b.toList,D x)(sa:gI kf a.toList)(sb:gI kf b.toList)(na:0<a.size)(nb:0<b.size)
  (hf:∀x∈a.toList,kf (b[0]'nb)<=kf x) (hl:∀y∈b.toList,kf y<=kf (a.getD (a.size-1) default)) (h:∀r g,Fi kf (a.toList++b.toList) r->Q r (cU st g)):wpS (model prog w) A E s (pU a b) Q st:=by
 rw[pT];refine JT (wpS_lift (L8 ⟨rfl,?_⟩));refine JT (eK (by omega) ?_);have ea:tk a a.size=a.toList.reverse:=by unfold tk;rw[Ki (by simp)]
 have eb:tk b b.size=b.toList.reverse:=by unfold tk;rw[Ki (by simp)]
 have e1:=C7 na (JH a.size);have M:Mg (ng kf) (a.toList++b.toList) (#[a[a.size-1]'(by omega)]:Array Keyed).toList (tk a (a.size-1)) (tk b b.size):=by
  have e2:[a[a.size-1]'(by omega)]++tk a (a.size-1)=a.toList.reverse:=by rw[List.singleton_append,<-e1,ea]
  have M0:Mg (ng kf) (a.toList++b.toList) [] ([a[a.size-1]'(by omega)]++tk a (a.size-1)) (tk b b.size):=by rw[e2,eb];exact⟨eZ.mpr sa,eZ.mpr sb,by rw[Lf];exact List.Perm.append (MV _) (MV _)⟩
  exact M0.mvX λp hp x hx=>by rw[Jr.mp hp];rw[eb]at hx;have:=hl x (K1.mp hx);rw[show a.getD (a.size-1) default=a[a.size-1]'(by omega)by simp[Array.getD,show a.size-1<a.size by omega]]at this;show-kf _<= - kf _;omega
 by_cases c1:a.size-1=0
 ·rw[JI (by simpa using c1)]
  exact JW (h _ (gallopOf st) (M.doneH (.inl c1)))
 ·rw[JE (by simpa using c1)]
  by_cases c2:b.size=1
  ·rw[JI (by simpa using c2)]
   exact JW (h _ (gallopOf st) (M.firstH c2 nb hf))
  ·rw[JE (by simpa using c2)]
   refine JT (Mb ?_);refine JT (KP (I:=λx (c:H3) st' =>c.1=none/\HQ kf (a.toList++b.toList) a b st (1+x) c.1 c.2.1 c.2.2.1 c.2.2.2.1 st') ?_ ?_ ⟨rfl,⟨_,rfl⟩,.inr ⟨rfl,M,⟨by show 0<a.size-1;omega,Nat.sub_le _ _⟩,⟨by show 1<b.size;omega,JH _⟩,JH _⟩⟩)
   ·rintro x ⟨r,na,nb',out,mg⟩ st' _ hx ⟨e,q,z⟩
    rcases z with⟨q,e',_⟩|⟨_,z1,z2,z3,z4⟩
    ·rw[e]at e'
     cases e'
    ·have e:r=none:=e
     subst e;refine K6 (IA hc hk da db nb hf q z1 z2 z3 z4) λr st' hr=> ?_;cases r with
     |done c =>obtain⟨r,c⟩:=c;obtain⟨q,e',f,g,rfl⟩:=hr;have e' :r=some q:=e';subst e';exact JW (h q g f)
     |yield c=>exact hr
   ·rintro⟨r,na,nb',out,mg⟩ st' ⟨e,q,z⟩
    rcases z with⟨q,e',_⟩|⟨_,z1,z2,z3,z4⟩
    ·rw[e]at e'
     cases e'
    ·have:=z1.len
     simp[tk]at this;have z4:1+(max 0 (a.size+b.size))<=out.size:=z4;omega
end
noncomputable def sZ(b a r:Nat):SM AscSt:=forIn [a:r] ((none,a):AscSt) λ_ c=>do
 let z<-ltAt' (b+c.2) (b+c.2-1)
 match z with
 |some t=>if t=true then pure (.done (none,c.2))else pure (.yield (none,c.2+1))|none=>pure (.done (some none,c.2))
noncomputable def GP(a n r:Nat):SM (Option Nat):=do
 reverseSlice' a (a+n)
 let c<-sZ a n r
 match c.1 with
 |some r=>pure r|none=>pure (some c.2)
noncomputable def IN(a n r:Nat):SM DescSt:=forIn [n:r] ((none,n,0):DescSt) λ_ c=>do
 let z<-ltAt' (a+c.2.1) (a+c.2.1-1)
 match z with
 |some t=>if t=true then(if c.2.2>0 then do
    reverseSlice' (a+c.2.1-(c.2.2+1)) (a+c.2.1)
    pure (.yield (none,c.2.1+1,0))else pure (.yield (none,c.2.1+1,0)))else do
   let z<-ltAt' (a+c.2.1-1) (a+c.2.1)
   match z with
   |some t=>if t=true then pure (.done (none,c.2.1,c.2.2))else pure (.yield (none,c.2.1+1,c.2.2+1))|none=>pure (.done (some none,c.2.1,c.2.2))
 |none=>pure (.done (some none,c.2.1,c.2.2))
noncomputable def GV(lo n r:Nat):SM (Option Nat):=do
 liftM (rule "list.sort.descending-run")
 let c<-IN lo (n+1) r
 match c.1 with
 | some r=>pure r
 | none=>if c.2.2>0 then do
   reverseSlice' (lo+c.2.1-(c.2.2+1)) (lo+c.2.1)
   GP lo c.2.1 r else GP lo c.2.1 r
theorem Fc(lo r:Nat):countRun' lo r=(do
  let c<-sZ lo 1 r
  match c.1 with
  | some r=>pure r
  | none=>if(c.2==r)=true then pure (some c.2)else if c.2>1 then do
     let z<-ltAt' lo (lo+c.2-1)
     match z with
     | some t=>if t=true then pure (some c.2)else do
       reverseSlice' lo (lo+c.2)
       GV lo c.2 r
     | none=>pure none else GV lo c.2 r):=by
 rw[countRun'_eq];dsimp only;unfold sZ;refine eJ _ (fun x c=>Ji fun z=>by cases z<;>rfl) fun c=> ?_;cases c.1 with
 | some r=>rfl
 | none =>
  refine KB rfl (fun _=>rfl) fun _=>KB rfl (fun _=>Ji fun z=> ?_) fun _=> ?_
  ·cases z with
   | none=>rfl
   | some t =>
    refine KB rfl (fun _=>rfl) fun _=>Ji fun _=> ?_;unfold GV;refine Ji fun _=> ?_;unfold IN;refine eJ _ (fun x c=>Ji fun z=> ?_) fun c=> ?_
    ·cases z with
     | none=>rfl
     | some t =>
      refine KB rfl (fun _=>rfl) fun _=>Ji fun z=> ?_;cases z<;>rfl
    ·cases c.1 with
     | some r=>rfl
     | none =>
      refine KB rfl (fun _=>Ji fun _=> ?_) fun _=> ?_
      all_goals
       unfold GP;refine Ji fun _=> ?_;unfold sZ;exact eJ _ (fun x c=>Ji fun z=>by cases z<;>rfl) fun c=>by cases c.1<;>rfl
  ·unfold GV
   refine Ji fun _=> ?_;unfold IN;refine eJ _ (fun x c=>Ji fun z=> ?_) fun c=> ?_
   ·cases z with
    | none=>rfl
    | some t =>
     refine KB rfl (fun _=>rfl) fun _=>Ji fun z=> ?_;cases z<;>rfl
   ·cases c.1 with
    | some r=>rfl
    | none =>
     refine KB rfl (fun _=>Ji fun _=> ?_) fun _=> ?_
     all_goals
      unfold GP;refine Ji fun _=> ?_;unfold sZ;exact eJ _ (fun x c=>Ji fun z=>by cases z<;>rfl) fun c=>by cases c.1<;>rfl
section
variable{kf:Keyed->Int}
noncomputable def Kx(b:Keyed->Int)(a:Array Keyed)(i:Nat):Int:=b (a.getD i default)
theorem fQ(h:a[i]? =b[j]?):Kx kf a i=Kx kf b j:=by unfold Kx;rw[Lj,Lj,h]
theorem sm(b:j<=a.size)(k:Nat):Kx kf (mirror a i j ((j-i)/2)) k=if i<=k/\k<j then Kx kf a (i+j-1-k)else Kx kf a k:=by
 have e:=getElem?_mirror_all (i:=i) b k
 by_cases c:i<=k/\k<j
 ·rw[JI c]at e ⊢
  exact fQ e
 ·rw[JE c]at e ⊢
  exact fQ e
theorem nz(b:j<=a.size)(h:∀k,i<=k->k<j->Kx kf a k=Kx kf a (j-1))(k:Nat):Kx kf (mirror a i j ((j-i)/2)) k=Kx kf a k:=by
 rw[sm b]
 split;rw[h _ (by omega) (by omega),h k (by omega) (by omega)]
 ·rfl
noncomputable def Up(b:Keyed->Int)(a:Array Keyed)(i j:Nat):Prop:=∀x y,i<=x->x<=y->y<j->Kx b a x<=Kx b a y
noncomputable def Dw(b:Keyed->Int)(a:Array Keyed)(i j:Nat):Prop:=∀x y,i<=x->x<=y->y<j->Kx b a y<=Kx b a x
theorem Up.more(h:Up kf a i j)(c:i<j->Kx kf a (j-1)<=Kx kf a j):Up kf a i (j+1):=λx y hx xy hy=>by
 by_cases e:y<j;exact h x y hx xy e
 ·have:y=j:=by omega
  subst this
  by_cases b:x=y
  ·subst b
   exact Ks _
  ·exact Kk (h x (y-1) hx (by omega) (by omega)) (c (by omega))
theorem Dw.more(h:Dw kf a i j)(c:i<j->Kx kf a j<=Kx kf a (j-1)):Dw kf a i (j+1):=λx y hx xy hy=>by
 by_cases e:y<j;exact h x y hx xy e
 ·have:y=j:=by omega
  subst this
  by_cases b:x=y
  ·subst b
   exact Ks _
  ·exact Kk (c (by omega)) (h x (y-1) hx (by omega) (by omega))
theorem Up.one:Up kf a i (i+1):=λx y hx xy hy=>by
 have:x=y:=by omega
 rw[this];exact Ks _
noncomputable def Bg(a b:Array Keyed)(c:Nat):Prop:=b.Perm a/\∀i,i<c->b[i]? =a[i]?
theorem Bg.refl(a:Array Keyed)(b:Nat):Bg a a b:=⟨Array.Perm.refl _,λ_ _=>rfl⟩
theorem Bg.trans(h:Bg a b d)(g:Bg b c d):Bg a c d:=⟨g.1.trans h.1,λi hi=>(g.2 i hi).trans (h.2 i hi)⟩
theorem Bg.mir(d:b<=i)(c:j<=a.size):Bg a (mirror a i j ((j-i)/2)) b:=⟨mirror_perm _ _ _ _,λk hk=>by rw[getElem?_mirror_all c,JE (by omega)]⟩
theorem Bg.size(h:Bg a b c):b.size=a.size:=h.1.size_eq
variable{prog:Program}{w:World}{A:Around}{E:Value->Shared->Prop}{s:Shared}{st:SortSt}{κ:SortKind}{D:Keyed->Prop}
theorem kW(d:wX prog w A s κ kf D)(e:kindOf st=κ)(a:∀x∈(arrOf st).toList,D x)(b:i<(arrOf st).size)(c:j<(arrOf st).size)(h:Q (some (decide (Kx kf (arrOf st) i<Kx kf (arrOf st) j))) st):wpS (model prog w) A E s (ltAt' i j) Q st:=by
 rw[ltAt'_eq];refine JT (Mb (JT (eK b (JT (eK c (yY d e (a _ (by simp)) (a _ (by simp)) ?_))))));unfold Kx at h
 simpa [Array.getD,b,c]using h
theorem mJ{a b:Array Keyed}(h:b.Perm a)(d:∀x∈a.toList,D x):∀x∈b.toList,D x:=λx hx=>d x ((Array.perm_iff_toList_perm.mp h).mem_iff.mp hx)
section
variable(hc:wX prog w A s κ kf D)(hk:kindOf st=κ)
include hc hk
theorem DT(g:∀x∈xs.toList,D x)(o:b+r<=xs.size)(l:1<=a)(i:a<=r)(k:Up kf xs b (b+a))
  (h:∀n,a<=n->n<=r->Up kf xs b (b+n)->(n=r\/Kx kf xs (b+n)<Kx kf xs (b+n-1))->Q (none,n) (setArr st xs)):wpS (model prog w) A E s (sZ b a r) Q (setArr st xs):=by
 unfold sZ;refine KP (I:=λx c f =>f =setArr st xs/\c=(none,x)/\Up kf xs b (b+x)) ?_ ?_ ⟨rfl,rfl,k⟩
 ·rintro x c f j m ⟨rfl,rfl,d⟩
  dsimp only;refine JT (kW hc hk g (by show _<xs.size;omega) (by show _<xs.size;omega) ?_);dsimp only
  by_cases e:Kx kf xs (b+x)<Kx kf xs (b+x-1)
  ·rw[JI (by simpa using e)]
   exact JW (h x j (by omega) d (.inr e))
  ·rw[JE (by simpa using e)]
   exact JW ⟨rfl,rfl,d.more λ_=>Int.not_lt.mp e⟩
 ·rintro c f ⟨rfl,rfl,d⟩
  rw[show max a r=r by omega]at d ⊢;exact h r i (JH _) d (.inl rfl)
theorem Gi(e:∀x∈xs.toList,D x)(g:a+r<=xs.size)(d:1<=n)(f:n<=r)(i:Dw kf xs a (a+n))
  (h:∀m c,1<=m->m<=r->Up kf c a (a+m)->Bg xs c a->Q (some m) (setArr st c)):wpS (model prog w) A E s (GP a n r) Q (setArr st xs):=by
 unfold GP;rw[reverseSlice'_eq];refine JT (LV ?_);have b:Bg xs (mirror xs a (a+n) ((a+n-a)/2)) a:=Bg.mir (JH _) (by omega);refine JT (DT (xs:=mirror xs a (a+n) ((a+n-a)/2)) hc hk (mJ b.1 e) (by rw[b.size];exact g) d f (λx y hx xy hy=> ?_) λm m1 m2 m3 _=>JW (h m _ (by omega) m2 m3 b));rw[sm (by omega),sm (by omega),JI (by omega),JI (by omega)];exact i _ _ (by omega) (by omega) (by omega)
theorem de_w(G:∀x∈p.toList,D x)(M:k+r<=p.size)(K:1<=n)(H:n<=r)(J:Dw kf p k (k+n))
  (h:∀m q b,n<=m->m<=r->Dw kf b k (k+m)->q+1<=m->(∀i,k+m-(q+1)<=i->i<k+m->Kx kf b i=Kx kf b (k+m-1))->Bg p b k->Q (none,m,q) (setArr st b)):wpS (model prog w) A E s (IN k n r) Q (setArr st p):=by
 unfold IN;refine KP (I:=λx c o =>∃q b,o =setArr st b/\c=(none,x,q)/\Dw kf b k (k+x)/\q+1<=x/\(∀i,k+x-(q+1)<=i->i<k+x->Kx kf b i=Kx kf b (k+x-1))/\Bg p b k) ?_ ?_ ⟨0,p,rfl,rfl,J,by omega,λi i1 i2=>by rw[show i=k+n-1 by omega],Bg.refl _ _⟩
 ·rintro x c o B L ⟨q,b,rfl,rfl,d,v,t,l⟩
  dsimp only;have z:=l.size;have F:=mJ l.1 G;refine JT (kW hc hk F (by show _<b.size;omega) (by show _<b.size;omega) ?_);dsimp only
  by_cases e:Kx kf b (k+x)<Kx kf b (k+x-1)
  ·rw[JI (by simpa using e)]
   by_cases c:q>0
   ·rw[JI c,reverseSlice'_eq]
    refine JT (LV (JW ⟨0,_,rfl,rfl,?_,by omega,λi i1 i2=>by rw[show i=k+(x+1)-1 by omega],l.trans (Bg.mir (by omega) (by show _<=b.size;omega))⟩));have u:=nz (kf:=kf) (i:=k+x-(q+1)) (j:=k+x) (a:=b) (by omega) t;refine Dw.more (j:=k+x) (λx y B xy hy=> ?_) λ_=> ?_
    ·show Kx kf (mirror b _ _ _) y<=Kx kf (mirror b _ _ _) x
     rw[u,u];exact d x y B xy hy
    ·show Kx kf (mirror b _ _ _) _<=Kx kf (mirror b _ _ _) _
     rw[u,u];exact Kl e
   ·rw[JE c]
    exact JW ⟨0,b,rfl,rfl,d.more λ_=>Kl e,by omega,λi i1 i2=>by rw[show i=k+(x+1)-1 by omega],l⟩
  ·rw[JE (by simpa using e)]
   refine JT (kW hc hk F (by show _<b.size;omega) (by show _<b.size;omega) ?_);dsimp only
   by_cases f:Kx kf b (k+x-1)<Kx kf b (k+x)
   ·rw[JI (by simpa using f)]
    exact JW (h x q b B (by omega) d v t l)
   ·rw[JE (by simpa using f)]
    have C:Kx kf b (k+x)=Kx kf b (k+x-1):=by omega
    refine JW ⟨q+1,b,rfl,rfl,d.more λ_=>by omega,by omega,λi i1 i2=> ?_,l⟩;rw[show k+(x+1)-1=k+x by omega,C]
    by_cases g:i=k+x;rw[g,C];exact t i (by omega) (by omega)
 ·rintro c o ⟨q,b,rfl,rfl,d,v,t,l⟩
  rw[show max n r=r by omega]at d v t ⊢;exact h r q b H (JH _) d v t l
theorem IL(f:∀x∈xs.toList,D x)(p:b+r<=xs.size)(o:n+1<=r)(t:Dw kf xs b (b+(n+1)))
  (h:∀m e,1<=m->m<=r->Up kf e b (b+m)->Bg xs e b->Q (some m) (setArr st e)):wpS (model prog w) A E s (GV b n r) Q (setArr st xs):=by
 unfold GV;refine JT (wpS_lift (L8 ⟨rfl,?_⟩));refine JT (de_w hc hk f p (by omega) o t λm q e m1 m2 d q1 q2 bg=> ?_);dsimp only;have z:=bg.size
 by_cases c:q>0
 ·rw[JI c,reverseSlice'_eq]
  have g:Bg e (mirror e (b+m-(q+1)) (b+m) ((b+m-(b+m-(q+1)))/2)) b:=Bg.mir (by omega) (by omega);have l:=nz (kf:=kf) (i:=b+m-(q+1)) (j:=b+m) (a:=e) (by omega) q2;refine JT (LV (Gi (xs:=mirror e (b+m-(q+1)) (b+m) ((b+m-(b+m-(q+1)))/2)) hc hk (mJ (bg.trans g).1 f) (by rw[g.size];omega) (by omega) m2 (λx y hx xy hy=> ?_) λk zs k1 k2 k3 k4=>h k zs k1 k2 k3 ((bg.trans g).trans k4)));rw[l,l];exact d x y hx xy hy
 ·rw[JE c]
  exact Gi hc hk (mJ bg.1 f) (by omega) (by omega) m2 d λk zs k1 k2 k3 k4=>h k zs k1 k2 k3 (bg.trans k4)
theorem CT(l:∀x∈xs.toList,D x)(t:b+r<=xs.size)(u:1<=r)
  (h:∀m o,1<=m->m<=r->Up kf o b (b+m)->Bg xs o b->Q (some m) (setArr st o)):wpS (model prog w) A E s (countRun' b r) Q (setArr st xs):=by
 rw[Fc];refine JT (DT hc hk l t (JH 1) u Up.one λn n1 n2 n3 n4=> ?_);dsimp only
 by_cases e:n=r
 ·rw[JI (by simpa using e)]
  exact JW (h n xs n1 n2 n3 (Bg.refl _ _))
 ·rw[JE (by simpa using e)]
  have q:=n4.resolve_left e
  by_cases g:n>1
  ·rw[JI g]
   refine JT (kW hc hk l (by show _<xs.size;omega) (by show _<xs.size;omega) ?_);dsimp only
   by_cases c:Kx kf xs b<Kx kf xs (b+n-1)
   ·rw[JI (by simpa using c)]
    exact JW (h n xs n1 n2 n3 (Bg.refl _ _))
   ·rw[JE (by simpa using c),reverseSlice'_eq]
    have d:∀k,b<=k->k<b+n->Kx kf xs k=Kx kf xs (b+n-1):=λk k1 k2=>by have z:=n3 b k (JH _) k1 k2;have v:=n3 k (b+n-1) k1 (by omega) (by omega);omega
    have f:=nz (kf:=kf) (i:=b) (j:=b+n) (a:=xs) (by omega) d;have p:Bg xs (mirror xs b (b+n) ((b+n-b)/2)) b:=Bg.mir (JH _) (by omega);refine JT (LV (IL (xs:=mirror xs b (b+n) ((b+n-b)/2)) hc hk (mJ p.1 l) (by rw[p.size];omega) (by omega) (Dw.more (j:=b+n) (λx y hx xy hy=> ?_) λ_=> ?_) λk zs k1 k2 k3 k4=>h k zs k1 k2 k3 (p.trans k4)))
    ·rw[f,f,d x hx (by omega),d y (by omega) hy]
     exact Ks _
    ·rw[f,f]
     exact Kl q
  ·rw[JE g]
   have:n=1:=by omega
   subst this;refine IL hc hk l t (by omega) (Dw.more (j:=b+1) (λx y hx xy hy=> ?_) λ_=>Kl q) h;have:x=y:=by omega
   rw[this];exact Ks _
theorem Ii(B:∀x∈xs.toList,D x)(O:a+n<=xs.size)(M:1<=m)(K:m<=n)(G:Up kf xs a (a+m))
  (h:∀b,Up kf b a (a+n)->Bg xs b a->Q true (setArr st b)):wpS (model prog w) A E s (binarySort' a n m) Q (setArr st xs):=by
 rw[binarySort'_eq];refine JT (K6 (KP (I:=λk c f =>c=(none,())/\∃b,f =setArr st b/\Up kf b a (a+k)/\Bg xs b a) (Q:=λc f =>c=(none,())/\∃b,f =setArr st b/\Up kf b a (a+n)/\Bg xs b a) ?_ ?_ ⟨rfl,xs,rfl,by rw[show max m 1=m by omega];exact G,Bg.refl _ _⟩) ?_)
 ·rintro k c f N L ⟨rfl,b,rfl,u,j⟩
  have z:=j.size
  refine JT (K6 (KP (I:=λx c d =>d =setArr st b/\∃l r,c=(none,l,r)/\l<=r/\r<=k/\r-l<=k-x/\(∀i,a<=i->i<a+l->Kx kf b i<=Kx kf b (a+k))/\(∀i,a+r<=i->i<a+k->Kx kf b (a+k)<Kx kf b i)) (Q:=λc d =>d =setArr st b/\∃l r,c=(none,l,r)/\l<=k/\(∀i,a<=i->i<a+l->Kx kf b i<=Kx kf b (a+k))/\(∀i,a+l<=i->i<a+k->Kx kf b (a+k)<Kx kf b i)) ?_ ?_ ⟨rfl,0,k,rfl,by omega,by omega,by omega,λi i1 i2=>by omega,λi i1 i2=>by omega⟩) ?_)
  ·rintro x c d _ F ⟨rfl,l,r,rfl,v,q,C,p,o⟩
   dsimp only
   by_cases g:l ≥ r
   ·rw[JI g]
    have:l=r:=by omega
    subst this;exact JW ⟨rfl,l,l,rfl,q,p,o⟩
   ·rw[JE g]
    refine JT (kW hc hk (mJ j.1 B) (by show _<b.size;omega) (by show _<b.size;omega) ?_);dsimp only
    by_cases e:Kx kf b (a+k)<Kx kf b (a+(l+r)/2)
    ·rw[JI (by simpa using e)]
     exact JW ⟨rfl,l,(l+r)/2,rfl,by omega,by omega,by omega,p,λi i1 i2=>Int.lt_of_lt_of_le e (u _ i (by omega) i1 i2)⟩
    ·rw[JE (by simpa using e)]
     exact JW ⟨rfl,(l+r)/2+1,r,rfl,by omega,by omega,by omega,λi i0 i1=>Kk (u i (a+(l+r)/2) i0 (by omega) (by omega)) (Int.not_lt.mp e),o⟩
  ·rintro c d ⟨rfl,l,r,rfl,v,q,C,p,o⟩
   have:l=r:=by omega
   subst this;exact⟨rfl,l,l,rfl,q,p,o⟩
  ·rintro c d ⟨rfl,l,r,rfl,v,p,o⟩
   show wpS _ _ _ _ (do moveDown' (a+k) (a+l);pure (ForInStep.yield (none,()))) _ _;rw[moveDown'_eq];refine JT (LV (JW ⟨rfl,_,rfl,?_,j.trans ⟨bubble_perm _ _ _,λi hi=> ?_⟩⟩))
   ·have t:∀x,Kx kf (bubble b (a+k) (a+k-(a+l))) x=if x=a+l then Kx kf b (a+k)else if a+l<x/\x<=a+k then Kx kf b (x-1)else Kx kf b x:=λx=>by
     have e:=getElem?_bubble (xs:=b) (src:=a+k) (by omega) (a+k-(a+l)) (by omega) x;rw[show a+k-(a+k-(a+l))=a+l by omega]at e
     split at e
     ·rw[JI (by assumption)]
      exact fQ e
     ·rw[JE (by assumption)]
      split at e
      ·rw[JI (by assumption)]
       exact fQ e
      ·rw[JE (by assumption)]
       exact fQ e
    intro x y F J H;show Kx kf (bubble b (a+k) (a+k-(a+l))) x<=Kx kf (bubble b (a+k) (a+k-(a+l))) y;rw[t,t]
    repeat' split
    all_goals first
     |(exfalso;omega)
     |exact Ks _
     |exact p _ (by omega) (by omega)
     |exact Kl (o _ (by omega) (by omega))
     |exact u _ _ (by omega) (by omega) (by omega)
   ·show(bubble b (a+k) (a+k-(a+l)))[i]? =_
    rw[getElem?_bubble (by omega) _ (by omega),JE (by omega),JE (by omega)]
 ·rintro c f ⟨rfl,b,rfl,u,j⟩
  refine⟨rfl,b,rfl,?_,j⟩
  rwa [show max (max m 1) n=n by omega]at u
 ·rintro c f ⟨rfl,b,rfl,u,j⟩
  exact JW (h b u j)
end
end
section
variable{kf:Keyed->Int}{prog:Program}{w:World}{A:Around}{E:Value->Shared->Prop}{s:Shared}{st:SortSt}{κ:SortKind}{D:Keyed->Prop}
theorem Af{σ:Type}{M:Model}{Q:PUnit->σ->Prop}{st v:σ}(h:Q ⟨⟩ v):wpS M A E s (set v:StateT σ Sem PUnit) Q st:=by unfold wpS;rw[StateT.run_set];exact Ja ⟨rfl,h⟩
theorem lay:∀(m:List Keyed)(k b:Nat)(a:Array Keyed)(P X S:List Keyed),a.toList=P++(X++S)->P.length=b+k->X.length=m.length->((m.zipIdx k).foldl (λa (x:Keyed×Nat)=>a.setIfInBounds (b+x.2) x.1) a).toList=P++(m++S)
 |[],k,b,a,P,X,S,e,h1,h2=>by have:X=[]:=LS.mp h2;subst this;exact e
 |x::m,k,b,a,P,[],S,e,h1,h2=>by simp at h2|x::m,k,b,a,P,y::X,S,e,h1,h2=>by
  rw[List.zipIdx_cons,LB]
  have:=lay m (k+1) b (a.setIfInBounds (b+k) x) (P++[x]) X S (by rw[Array.toList_setIfInBounds,e,<-h1];simp) (by simp;omega) (by simpa using h2)
  rw[this];simp
theorem AF{a:Array Keyed}{P X S:List Keyed}(e:a.toList=P++(X++S))(i:Nat)(h:i<X.length):a[P.length+i]? =X[i]? :=by
 rw[<- Jt,e,KR (by omega),L4,KM h]
theorem uN{a:Array Keyed}{P X S:List Keyed}(e:a.toList=P++(X++S)):(a.extract P.length (P.length+X.length)).toList=X:=by
 rw[Kt,Kb,e,L4,List.drop_left,List.take_left]
theorem vW{a:Array Keyed}{pd:Array (Nat×Nat×Nat)}{i pw pq:Nat}{P X Y S:List Keyed}{Q:Bool->SortSt->Prop}(hc:wX prog w A s κ kf D)(hk:kindOf st=κ)(hF:failedOf st=none)(ha:arrOf st=a)(dA:∀x∈a.toList,D x)(e:a.toList=P++(X++(Y++S)))
  (hp:pendingOf st=pd) (p1:pd[i]? =some (P.length,X.length,pw)) (p2:pd[i+1]? =some (P.length+X.length,Y.length,pq)) (nx:X≠[]) (ny:Y≠[]) (sx:gI kf X) (sy:gI kf Y)
  (h:∀b C g,b.toList=P++(C++S)->gI kf C->C.Perm (X++Y)->Q true (SortSt.mk' κ b ((pd.setIfInBounds i (P.length,X.length+Y.length,pw)).eraseIdxIfInBounds (i+1)) g none)):wpS (model prog w) A E s (mergeAt' i) Q st:=by
 subst hk ha hp;have lx:0<X.length:=LO.mpr nx;have ly:0<Y.length:=LO.mpr ny;have dX:∀x∈X,D x:=fun x hx=>dA x (by rw[e];simp[hx]);have dY:∀x∈Y,D x:=fun x hx=>dA x (by rw[e];simp[hx]);have e2:(arrOf st).toList=(P++X)++(Y++S):=by rw[e,Jm]
 have atY:=fun i hi=>AF e2 i hi;rw[JM]at atY;have atX:=fun i hi=>AF e i hi
 change wpS _ _ _ _ (_ >>= _:SM Bool) _ _
 refine JT (Mb ?_);dsimp only;rw[p1,p2];dsimp only;refine JT (Af ?_);have y0:=atY 0 ly;rw[Nat.add_zero,JN ly]at y0;refine JT (CQ y0 ?_);refine JT (vh (L:=X) hc rfl (dY _ (KY ly)) rfl atX sx dX lx fun k kn k2 k3=> ?_);dsimp only;have k2:=fun x hx=>GE (k2 x hx);have k3:=fun x hx=>Kl (GD (k3 x hx));have yh:∀y∈Y,kf Y[0]<=kf y:=by
  cases Y with
  | nil=>cases ly
  | cons y Y=>exact fun z hz=>gI.hd sy hz
 have whole:(∀x∈X,∀y∈Y,kf x<=kf y)->Q true (SortSt.mk' (kindOf st) (arrOf st) (((pendingOf st).setIfInBounds i (P.length,X.length+Y.length,pw)).eraseIdxIfInBounds (i+1)) (gallopOf st) (failedOf st)):=fun q=>by
  rw[hF];exact h _ (X++Y) _ (by rw[e,Jm]) (KL.mpr ⟨sx,sy,q⟩) (Kr _)
 by_cases c:X.length-k=0
 ·rw[JI (by simpa using c)]
  refine JW (whole fun x hx y hy=> ?_);rw[Ki (by omega)]at k2;exact Kk (k2 x hx) (yh y hy)
 ·rw[JE (by simpa using c)]
  have xl:=atX (X.length-1) (by omega);rw[JN (by omega)]at xl;rw[show P.length+k+(X.length-k)-1=P.length+(X.length-1)by omega];refine JT (CQ xl ?_);have xh:∀x∈X,kf x<=kf (X[X.length-1]'(by omega)):=fun x hx=>by
   obtain⟨j,hj,rfl⟩:=MK hx
   rcases Nat.lt_or_ge j (X.length-1)with z|z
   ·exact MS.mp sx j (X.length-1) hj (by omega) z
   ·have:j=X.length-1:=by omega
    subst this;exact Ks _
  refine JT (vh (L:=Y) hc rfl (dX _ (KY _)) rfl atY sy dY (by omega) fun n nn n2 n3=> ?_);dsimp only;have n2:=fun x hx=>Kl (GC (n2 x hx));have n3:=fun x hx=>GF (n3 x hx)
  by_cases c2:n=0
  ·rw[JI (by simpa using c2)]
   refine JW (whole fun x hx y hy=> ?_);subst c2;exact Kk (xh x hx) (n3 y hy)
  ·rw[JE (by simpa using c2)]
   have eX:((arrOf st).extract (P.length+k) (P.length+X.length)).toList=X.drop k:=by
    have:=uN (a:=arrOf st) (P:=P++X.take k) (X:=X.drop k) (S:=Y++S) (by rw[e,Jm,<-Jm (X.take k),Jk])
    rwa [JM,J6,LU,Kn kn,show P.length+k+(X.length-k)=P.length+X.length by omega]at this
   have eY:((arrOf st).extract (P.length+X.length) (P.length+X.length+n)).toList=Y.take n:=by
    have:=uN (a:=arrOf st) (P:=P++X) (X:=Y.take n) (S:=Y.drop n++S) (by rw[e2,<-Jm (Y.take n),Jk])
    rwa [JM,J6,Kn nn]at this
   generalize hx:(arrOf st).extract (P.length+k) (P.length+X.length)=x at eX
   generalize hy:(arrOf st).extract (P.length+X.length) (P.length+X.length+n)=y at eY
   have zx:x.size=X.length-k:=by rw[<- JZ,eX,LU]
   have zy:y.size=n:=by rw[<- JZ,eY,J6,Kn nn]
   have gx:x.getD (x.size-1) default=X[X.length-1]'(by omega):=by
    have:x[x.size-1]? =X[X.length-1]? :=by
     rw[<- Jt,eX,List.getElem?_drop,zx]
     congr 1
     omega
    rw[Lj,this,JN (by omega)];rfl
   have ny0:0<y.size:=by omega
   have gy:y[0]'ny0=Y[0]'ly:=by
    have:y[0]? =Y[0]? :=by
     rw[<- Jt,eY,LK (by omega)]
    rw[getElem?_pos y 0 ny0,JN ly]at this;exact Jb this
   have fin:∀r g,Fi kf (x.toList++y.toList) r->wpS (model prog w) A E s (do
     modify fun s=>setArr s (r.toList.zipIdx.foldl (fun a p=>a.setIfInBounds (P.length+k+p.2) p.1) (arrOf s))
     return(failedOf (<- get)).isNone) Q (cU (SortSt.mk' (kindOf st) (arrOf st) (((pendingOf st).setIfInBounds i (P.length,X.length+Y.length,pw)).eraseIdxIfInBounds (i+1)) (gallopOf st) (failedOf st)) g):=fun r g f=>by
    refine JT (LV (JT (Mb (JW ?_))));have pm:=f.2;rw[eX,eY]at pm
    have q:=lay r.toList 0 (P.length+k) (arrOf st) (P++X.take k) (X.drop k++Y.take n) (Y.drop n++S) (by
     rw[e]
     conv=>lhs;rw[<- Jk k X,<-Jk n Y]
     simp only[Jm]) (by rw[JM,J6,Kn kn];rfl) pm.length_eq.symm
    have:=h _ (X.take k++(r.toList++Y.drop n)) g (by rw[q];simp only[Jm]) ?_ ?_
    ·rw[hF]
     exact this
    ·refine KL.mpr ⟨MC (MU _ _) sx,KL.mpr ⟨f.1,MC (List.drop_sublist _ _) sy,fun a ha b hb=> ?_⟩,fun a ha b hb=> ?_⟩
     ·have:=pm.mem_iff.mp ha
      rcases Jn.mp this with z|z
      ·exact Kk (xh a (LF z)) (n3 b hb)
      ·exact Kk (n2 a z) (n3 b hb)
     ·rcases Jn.mp hb with z|z
      ·rcases Jn.mp (pm.mem_iff.mp z)with z|z
       ·rw[<- Jk k X]at sx
        exact(KL.mp sx).2.2 a ha b z
       ·exact Kk (k2 a ha) (yh b (Ke z))
      ·exact Kk (k2 a ha) (yh b (LF z))
    ·refine List.Perm.trans (K8 _ (List.Perm.append_right _ pm)) ?_
     conv=>rhs;rw[<- Jk k X,<-Jk n Y]
     simp only[Jm];exact Kr _
   have dx:∀z∈x.toList,D z:=fun z hz=>dX z (by rw[eX]at hz;exact LF hz);have dy:∀z∈y.toList,D z:=fun z hz=>dY z (by rw[eY]at hz;exact Ke hz);have ax:gI kf x.toList:=by rw[eX];exact MC (List.drop_sublist _ _) sx
   have ay:gI kf y.toList:=by rw[eY];exact MC (MU _ _) sy
   have hf:∀z∈x.toList,kf (y[0]'ny0)<=kf z:=fun z hz=>by rw[gy];exact k3 z (by rwa [eX]at hz)
   have hl:∀z∈y.toList,kf z<=kf (x.getD (x.size-1) default):=fun z hz=>by rw[gx];exact n2 z (by rwa [eY]at hz)
   by_cases c3:X.length-k<=n
   ·rw[JI c3]
    exact JT (mergeLo hc rfl dx dy ax ay (by omega) ny0 hf hl fin)
   ·rw[JE c3]
    exact JT (mergeHi hc rfl dx dy ax ay (by omega) ny0 hf hl fin)
end
noncomputable def jE:Nat->List (List Keyed)->List (Nat×Nat)
 |_,[]=>[]|o,R::t=>(o,R.length)::jE (o+R.length) t
theorem gv:∀(o:Nat)(b a:List (List Keyed)),jE o (b++a)=jE o b++jE (o+b.flatten.length) a
 |o,[],a=>by simp[jE]|o,R::t,a=>by show(o,R.length)::jE (o+R.length) (t++a)=_;rw[gv];simp[jE,Nat.add_assoc]
theorem kS:∀(o:Nat)(R:List (List Keyed)),(jE o R).length=R.length
 |_,[]=>rfl|o,_::t=>by simp[jE,kS _ t]
noncomputable abbrev pm(p:Array (Nat×Nat×Nat)):List (Nat×Nat):=p.toList.map λr=>(r.1,r.2.1)
section
variable{kf:Keyed->Int}{κ:SortKind}
structure Inv(kf:Keyed->Int)(κ:SortKind)(a₀:List Keyed)(st:SortSt)(RS:List (List Keyed))(aE:List Keyed):Prop where
 kind:kindOf st=κ
 fail:failedOf st=none
 arr:(arrOf st).toList=RS.flatten++aE
 perm:(RS.flatten++aE).Perm a₀
 pd:pm (pendingOf st)=jE 0 RS
 asc:∀R∈RS,gI kf R/\R≠[]
theorem Inv.len{c:SortSt}(I:Inv kf κ a c b d):(pendingOf c).size=b.length:=by
 have:=J1 List.length I.pd
 rwa [JC,JZ,kS]at this
theorem yS:∀{a:List (List Keyed)},(∀R∈a,R≠[])->a.length<=a.flatten.length
 |[],_=>JH _|R::t,h=>by have c:=LO.mpr (h R JL);have b:=yS λR hR=>h R (JF _ hR);simp;simp at b;omega
theorem two{c:Type}{l:List c}(h:i+1<l.length):∃a x y b,l=a++x::y::b/\a.length=i := ⟨l.take i,l[i],l[i+1],l.drop (i+2),by rw[<- KN h,<-KN (by omega),Jk],by simp;omega⟩
variable{prog:Program}{w:World}{A:Around}{E:Value->Shared->Prop}{s:Shared}{st:SortSt}{D:Keyed->Prop}{a₀:List Keyed}{RS:List (List Keyed)}{aE:List Keyed}
theorem Inv.merge(I:Inv kf κ a₀ st RS aE)(y:wX prog w A s κ kf D)(H:∀x∈a₀,D x)(o:i+1<RS.length)(h:∀d b,Inv kf κ a₀ d b aE->b.flatten.length=RS.flatten.length->b.length+1=RS.length->Q true d):wpS (model prog w) A E s (mergeAt' i) Q st:=by
 obtain⟨a,X,Y,f,rfl,u⟩:=two o;have k:=I.pd;rw[gv,Nat.zero_add]at k;obtain⟨n,J,e,l,F⟩:=List.map_eq_append_iff.mp k;obtain⟨⟨M,N,c⟩,G,rfl,r,p⟩:=Ln.mp F;obtain⟨⟨K,L,m⟩,B,rfl,v,q⟩:=Ln.mp p;cases r;cases v;have j:n.length=i:=by rw[<- u,<-kS 0 a,<-l,JC]
 have t:∀x∈(arrOf st).toList,D x:=λx hx=>H x (by rw[I.arr]at hx;exact I.perm.mem_iff.mp hx);refine vW (P:=a.flatten) (X:=X) (Y:=Y) (S:=f.flatten++aE) (pw:=c) (pq:=m) y I.kind I.fail rfl t (by rw[I.arr];simp) rfl (by rw[<- Jt,e,<-j];simp) (by rw[<- Jt,e,<-j];simp) (I.asc X (by simp)).2 (I.asc Y (by simp)).2 (I.asc X (by simp)).1 (I.asc Y (by simp)).1 λb C g b1 b2 b3=> ?_;refine h _ (a++C::f) ⟨rfl,rfl,by simpa using b1,?_,?_,λR hR=> ?_⟩ ?_ (by simp;omega)
 ·refine List.Perm.trans ?_ I.perm
  simp only[Lx,Jp,Jm];refine K8 _ ?_;rw[<- Jm X];exact List.Perm.append_right _ b3
 ·show List.map _ ((((pendingOf st).setIfInBounds i (a.flatten.length,X.length+Y.length,c)).eraseIdxIfInBounds (i+1)).toList)=_
  have:(((pendingOf st).setIfInBounds i (a.flatten.length,X.length+Y.length,c)).eraseIdxIfInBounds (i+1)).toList=n++(a.flatten.length,X.length+Y.length,c)::B:=by rw[Array.eraseIdxIfInBounds_eq,dif_pos (by rw[Array.size_setIfInBounds,<-JZ,e];simp;omega),Array.toList_eraseIdx,Array.toList_setIfInBounds,e,<-j];simp[List.eraseIdx_append_of_length_le]
  rw[this,Jo,JR,l,q,gv,Nat.zero_add];show _=jE 0 a++(_,C.length)::jE _ f;rw[b3.length_eq,JM,Nat.add_assoc]
 ·rcases Jn.mp hR with z|z
  ·exact I.asc R (by simp[z])
  ·rcases JU.mp z with z|z
   ·subst z
    refine⟨b2,λz=> ?_⟩;subst z;have:=b3.length_eq;have:=LO.mpr (I.asc X (by simp)).2;simp at *;omega
   ·exact I.asc R (by simp[z])
 ·have:=b3.length_eq
  simp at this ⊢;omega
theorem wn{a:Array Keyed}{P R:List Keyed}{m:Nat}(e:a.toList=P++R)(hm:m<=R.length)(u:Up kf a P.length (P.length+m)):gI kf (R.take m):=by
 have k:∀i (hi:i<R.length),Kx kf a (P.length+i)=kf R[i]:=fun i hi=>by
  unfold Kx;rw[Lj,<-Jt,e,KR (by omega),L4,JN hi];rfl
 refine MS.mpr fun i j hi hj ij=> ?_;rw[J6]at hi hj;rw[List.getElem_take,List.getElem_take,<-k i (by omega),<-k j (by omega)];exact u _ _ (by omega) (by omega) (by omega)
theorem Bg.tl{a b:Array Keyed}{P R:List Keyed}(e:a.toList=P++R)(h:Bg a b P.length):∃R',b.toList=P++R' /\R'.Perm R:=by
 have l:b.toList.take P.length=P:=by
  refine LI fun i=> ?_
  by_cases c:i<P.length
  ·rw[LK c,Jt,h.2 i c,<-Jt,e,KM c]
  ·rw[Jz (by simp;omega),Jz (by omega)]
 have z:=Jk P.length b.toList;rw[l]at z;refine⟨_,z.symm,?_⟩;have p:=Array.perm_iff_toList_perm.mp h.1;rw[e,<-z]at p;exact(List.perm_append_left_iff P).mp p
theorem Inv.laid(I:Inv kf κ a₀ st RS aE)(h:Bg (arrOf st) b RS.flatten.length):∃a,Inv kf κ a₀ (setArr st b) RS a /\a.length=aE.length:=by obtain⟨c,e,p⟩:=h.tl I.arr;exact⟨c,⟨I.kind,I.fail,e,(K8 _ p).trans I.perm,I.pd,I.asc⟩,p.length_eq⟩
theorem ile{c:Prop}[Decidable c]:(if c then n-1 else n)+1<n+2:=by split<;>omega
theorem Inv.push(I:Inv kf κ a₀ st RS aE)(h:gI kf (aE.take n))(b:1<=n)(a:n<=aE.length):Inv kf κ a₀ (setPending st ((pendingOf st).push (RS.flatten.length,n,0))) (RS++[aE.take n]) (aE.drop n):=by
 have e:(RS++[aE.take n]).flatten++aE.drop n=RS.flatten++aE:=by simp
 refine⟨I.kind,I.fail,by rw[e];exact I.arr,by rw[e];exact I.perm,?_,λR hR=> ?_⟩
 ·show List.map _ ((pendingOf st).push _).toList=_
  rw[Km,Jo,gv,Nat.zero_add,<-I.pd];simp[jE,Kn a]
 ·rcases Jn.mp hR with z|z
  ·exact I.asc R z
  ·rw[Jr.mp z]
   exact⟨h,LO.mp (by simp;omega)⟩
theorem Inv.pow{i pw:Nat}(I:Inv kf κ a₀ st RS aE){f:Nat×Nat×Nat->Nat×Nat×Nat}(hf:∀x,((f x).1,(f x).2.1)=(x.1,x.2.1)):Inv kf κ a₀ (setPending st ((pendingOf st).modify i f)) RS aE:=by
 refine⟨I.kind,I.fail,I.arr,I.perm,?_,I.asc⟩;rw[<- I.pd];show List.map _ ((pendingOf st).modify i f).toList=_;rw[Array.toList_modify];refine LI fun j=> ?_;rw[JP,JP,List.getElem?_modify];cases(pendingOf st).toList[j]? with
 | none=>rfl
 | some x =>
  by_cases c:i=j
  ·simp[c,hf]
  ·simp[c]
theorem Dy(hc:wX prog w A s κ kf D)(d0:∀x∈a₀,D x)(hk:kindOf st=κ)(hF:failedOf st=none)(ha:(arrOf st).toList=a₀)(hp:pendingOf st= #[])
  (h:∀st',failedOf st' =none->(arrOf st').toList.Perm a₀->gI kf (arrOf st').toList->Q () st'):wpS (model prog w) A E s sortRuns' Q st:=by
 have hz:(arrOf st).size=a₀.length:=by rw[<- ha,JZ]
 rw[sortRuns'_eq];refine JT (Mb ?_);dsimp only;rw[hz]
 generalize minRun' a₀.length a₀.length 0=mr
 have dI:∀{st:SortSt}{RS:List (List Keyed)}{aE:List Keyed},Inv kf κ a₀ st RS aE->∀x∈(arrOf st).toList,D x:=λI x hx=>d0 x (by rw[I.arr]at hx;exact I.perm.mem_iff.mp hx);have lI:∀{st:SortSt}{RS:List (List Keyed)}{aE:List Keyed},Inv kf κ a₀ st RS aE->RS.flatten.length+aE.length=a₀.length/\(arrOf st).size=a₀.length:=λI=>by have:=I.perm.length_eq;rw[JM]at this;exact⟨this,by rw[<- JZ,I.arr,JM,this]⟩
 refine JT (K6 (KP (I:=λx c st' =>∃RS aE lo,c=(none,lo)/\Inv kf κ a₀ st' RS aE/\RS.flatten.length=lo/\x<=lo) (Q:=λc st' =>∃RS,c=(none,a₀.length)/\Inv kf κ a₀ st' RS []) ?_ ?_ ⟨[],a₀,0,rfl,⟨hk,hF,ha,Kr _,by rw[hp];rfl,λR hR=>by cases hR⟩,rfl,JH _⟩) ?_)
 ·rintro x c st' _ hx ⟨RS,aE,lo,rfl,I,rfl,hl⟩
  dsimp only;obtain⟨l1,l2⟩:=lI I
  by_cases ge:RS.flatten.length ≥ a₀.length
  ·rw[JI ge]
   have:aE=[]:=LS.mp (by omega);subst this;have l1:RS.flatten.length+0=a₀.length:=l1;exact JW ⟨RS,by rw[<- l1];rfl,I⟩
  ·rw[JE ge]
   refine JT (CT (st:=st') (xs:=arrOf st') hc I.kind (dI I) (by omega) (by omega) λm ys m1 m2 m3 bg=> ?_);dsimp only;obtain⟨r2,I2,z2⟩:=I.laid bg
   have fin:∀{st:SortSt}{n:Nat}{RS' :List (List Keyed)}{aE:List Keyed},Inv kf κ a₀ st RS' aE->RS'.flatten.length=RS.flatten.length->gI kf (aE.take n)->1<=n->n<=aE.length->wpS (model prog w) A E s (do
     modify λs=>setPending s ((pendingOf s).push (RS.flatten.length,n,0))
     pure (ForInStep.yield ((none:Option Unit),RS.flatten.length+n))) (λr st' =>match r with| .done c=>∃RS,c=(none,a₀.length)/\Inv kf κ a₀ st' RS []| .yield c=>∃RS aE lo,c=(none,lo)/\Inv kf κ a₀ st' RS aE/\RS.flatten.length=lo/\x+1<=lo) st:=λ{st n RS' aE} I e u n1 n2=>by
    have:=I.push u n1 n2;rw[e]at this;refine JT (LV (JW ⟨_,_,_,rfl,this,?_,by omega⟩));simp only[Lx,JM,e];simp[Kn n2]
   by_cases c:m<mr
   ·rw[JI c]
    refine JT (wpS_lift (L8 ⟨rfl,?_⟩));obtain⟨l3,l4⟩:=lI I2;refine JT (Ii (st:=st') (xs:=ys) hc I.kind (dI I2) (by rw[show ys.size=_ from l4];omega) m1 (by omega) m3 λzs u b2=> ?_);obtain⟨r3,I3,z3⟩:=I2.laid b2;have u:gI kf (r3.take (min (a₀.length-RS.flatten.length) mr)):=wn I3.arr (by omega) u;rw[JE (by simp)];have n1:1<=min (a₀.length-RS.flatten.length) mr:=by omega
    have n2:min (a₀.length-RS.flatten.length) mr<=r3.length:=by omega
    generalize min (a₀.length-RS.flatten.length) mr=n at u n1 n2 ⊢
    refine JT (Mb ?_);cases hb:(pendingOf (setArr st' _)).back? with
    |none=>exact K6 (fin I3 rfl u n1 n2) λr st' h=>by cases r<;>exact h|some r =>
     obtain⟨s1,k1,p1⟩:=r;dsimp only;refine JT (K6 (KP (I:=λx c st' =>c=(none,())/\∃RS',Inv kf κ a₀ st' RS' r3/\RS'.flatten.length=RS.flatten.length) (Q:=λc st' =>c=(none,())/\∃RS',Inv kf κ a₀ st' RS' r3/\RS'.flatten.length=RS.flatten.length) ?_ ?_ ⟨rfl,RS,I3,rfl⟩) ?_)
     ·rintro x c st4 _ hx ⟨rfl,RS4,I4,e4⟩
      refine JT (Mb ?_)
      by_cases c:(pendingOf st4).size>1
      ·rw[JI c]
       cases(pendingOf st4)[(pendingOf st4).size-2]? with
       |none=>exact JW ⟨rfl,RS4,I4,e4⟩|some r =>
        dsimp only
        by_cases d:r.2.2<=power' a₀.length (2*s1+k1) (2*s1+k1+k1+n) a₀.length
        ·rw[JI d]
         exact JW ⟨rfl,RS4,I4,e4⟩
        ·rw[JE d]
         refine JT (I4.merge hc d0 (by rw[I4.len]at c ⊢;omega) λst5 RS5 I5 f5 _=> ?_);rw[JE (by simp)];exact JW ⟨rfl,RS5,I5,by omega⟩
      ·rw[JE c]
       exact JW ⟨rfl,RS4,I4,e4⟩
     ·exact λc st4 h=>h
     ·rintro c st4 ⟨rfl,RS4,I4,e4⟩
      dsimp only;refine JT (LV ?_);exact K6 (fin (I4.pow (pw:=0) λ_=>rfl) e4 u n1 n2) λr st' h=>by cases r<;>exact h
   ·rw[JE c]
    have u:gI kf (r2.take m):=wn I2.arr (by omega) m3;have I3:=I2;have n1:=m1;have n2:m<=r2.length:=by omega
    refine JT (Mb ?_);cases hb:(pendingOf (setArr st' _)).back? with
    |none=>exact K6 (fin I3 rfl u n1 n2) λr st' h=>by cases r<;>exact h|some r =>
     obtain⟨s1,k1,p1⟩:=r;dsimp only;refine JT (K6 (KP (I:=λx c st' =>c=(none,())/\∃RS',Inv kf κ a₀ st' RS' r2/\RS'.flatten.length=RS.flatten.length) (Q:=λc st' =>c=(none,())/\∃RS',Inv kf κ a₀ st' RS' r2/\RS'.flatten.length=RS.flatten.length) ?_ ?_ ⟨rfl,RS,I3,rfl⟩) ?_)
     ·rintro x c st4 _ hx ⟨rfl,RS4,I4,e4⟩
      refine JT (Mb ?_)
      by_cases c:(pendingOf st4).size>1
      ·rw[JI c]
       cases(pendingOf st4)[(pendingOf st4).size-2]? with
       |none=>exact JW ⟨rfl,RS4,I4,e4⟩|some r =>
        dsimp only
        by_cases d:r.2.2<=power' a₀.length (2*s1+k1) (2*s1+k1+k1+m) a₀.length
        ·rw[JI d]
         exact JW ⟨rfl,RS4,I4,e4⟩
        ·rw[JE d]
         refine JT (I4.merge hc d0 (by rw[I4.len]at c ⊢;omega) λst5 RS5 I5 f5 _=> ?_);rw[JE (by simp)];exact JW ⟨rfl,RS5,I5,by omega⟩
      ·rw[JE c]
       exact JW ⟨rfl,RS4,I4,e4⟩
     ·exact λc st4 h=>h
     ·rintro c st4 ⟨rfl,RS4,I4,e4⟩
      dsimp only;refine JT (LV ?_);exact K6 (fin (I4.pow (pw:=0) λ_=>rfl) e4 u n1 n2) λr st' h=>by cases r<;>exact h
 ·rintro c st' ⟨RS,aE,lo,rfl,I,rfl,hx⟩
  obtain⟨l1,-⟩:=lI I;have:aE=[]:=LS.mp (by omega);subst this;simp at l1;refine⟨RS,?_,I⟩;rw[<- l1];simp
 ·rintro c st' ⟨RS,rfl,I⟩
  dsimp only;obtain⟨l1,-⟩:=lI I;have l2:=yS λR hR=>(I.asc R hR).2;have fin:∀{st:SortSt}{RS:List (List Keyed)},Inv kf κ a₀ st RS []->RS.length<=1->Q () st:=λ{st RS} I l=>by
   have pe:=I.perm;have ar:=I.arr;rw[KG]at pe ar;refine h st I.fail (by rw[ar];exact pe) ?_;rw[ar]
   match RS,l,I with
   |[],_,_=>exact .nil|[R],_,I =>
    have:=(I.asc R (by simp)).1
    simpa using this
   |_::_::_,l,_=>simp at l
  refine JT (KP (I:=λx c st' =>∃RS,c=(none,())/\Inv kf κ a₀ st' RS []/\RS.length+x<=a₀.length+1) ?_ ?_ ⟨RS,rfl,I,by have l1:RS.flatten.length+0=a₀.length:=l1;omega⟩)
  ·rintro x c st' _ hx ⟨RS,rfl,I,lx⟩
   refine JT (Mb ?_);rw[I.len]
   by_cases c:RS.length<=1
   ·rw[JI c]
    exact JW (JW (fin I c))
   ·rw[JE c]
    refine JT (I.merge hc d0 (Ju ile (show RS.length-2+2<=RS.length by omega)) λst2 RS2 I2 _ e2=> ?_);rw[JE (by simp)];exact JW ⟨RS2,rfl,I2,by omega⟩
  ·rintro c st' ⟨RS,rfl,I,lx⟩
   exact JW (fin I (by omega))
end
end TS
set_option genInjectivity false
namespace IR
open PySem
noncomputable abbrev ag:=L2.ag
inductive PV where
 | non|bl (b:Bool)|int (i:Int)|str (z:Str)|lst (xs:List PV)|tup (xs:List PV)|dK (ks:List ag) (vs:List PV)|dT (ks:List (List ag)) (vs:List PV)
instance:Inhabited PV:=⟨.non⟩
mutual
noncomputable def imm:PV->Bool
 | .non=>true| .bl _=>true| .int _=>true| .str _=>true
 | .lst _=>false
 | .tup xs=>imms xs
 | .dK _ _=>false| .dT _ _=>false
noncomputable def imms:List PV->Bool
 | []=>true
 | x::xs=>imm x&&imms xs
end
inductive Bf where
 | len|int|str|list|tuple|sorted|min|max|sum|abs|all|any|lrange|lrange2|isin (t:String)|sumv|sset|lset|trev|lvals
inductive Bm where
 | join|split|count|index|get|jrev
mutual
inductive IE where
 | con (v:PV)|var (i:Nat)|bin (op:Operator) (a b:IE)|neg (a:IE)|cmp (op:CmpOp) (a b:IE)
 | and (a b:IE)|or (a b:IE)|not (a:IE)|ite (c:IC) (a b:IE)
 | call (f:Nat) (es:AY)|bf (f:Bf) (es:AY)|mth (m:Bm) (o:IE) (es:AY)
 | lst (es:AY)|tup (es:AY)|dnew|dlit (k:ag) (e:IE)|ix (a i:IE)|sl (a:IE) (lo hi:IO)
 | lc (elt:IE) (src:IT) (ifs:DU) (caps:List Nat)|lc2 (elt:IE) (src:IT) (ifs:DU) (caps:List Nat)|never
inductive AY where
 | nil|cons (e:IE) (es:AY)
inductive IO where
 | no|yes (e:IE)
inductive IC where
 | val (e:IE)|not (c:IC)|and (c d:IC)|or (c d:IC)
inductive DU where
 | no|yes (c:IC)
inductive IT where
 | seq (e:IE)|rng (es:AY)|zip (a b:IE)|enum (a:IE)|never
end
mutual
inductive IS where
 | asg (i:Nat) (o:Bool) (cap:List Nat) (e:IE)|ret (cap:List Nat) (e:IE)|retN|ife (c:IC) (a b:wW)
 | forr (is:List Nat) (one:Bool) (cap:List Nat) (src:IT) (body:wW)|whil (c:IC) (body:wW)|pass|brk|cont
 | app (i:Nat) (cap:List Nat) (e:IE)|ins (i:Nat) (k e:IE)|seti (i:Nat) (cap:List Nat) (k e:IE)|drop (e:IE)|ext (i:Nat) (e:IE)|augS (i:Nat) (op:Operator) (k e:IE)|hand (m:Nat) (g:List PV->Option PV)|never
inductive wW where
 | nil|cons (s:IS) (ss:wW)
end
inductive Bd where
 | lst|dK (ks:List ag)|dT (ks:List (List ag))
noncomputable def Bd.pv:Bd->List PV->PV
 | .lst,xs=>.lst xs| .dK ks,xs=>.dK ks xs| .dT ks,xs=>.dT ks xs
section
variable{κ α:Type}[DecidableEq κ]
noncomputable def fg:List κ->List α->κ->Option α
 |k' ::ks,x::xs,k=>if k' =k then some x else fg ks xs k|_,_,_=>none
noncomputable def kI:List κ->List α->κ->α->List α
 |k' ::ks,x::xs,k,y=>(if k' =k then y else x)::kI ks xs k y|_,xs,_,_=>xs
noncomputable def putL(a:List κ)(b:List α)(k:κ)(y:α):List α:=if k∈a then kI a b k y else b++[y]
noncomputable def B9(a:List κ)(k:κ):Bool:=decide (k∈a)
noncomputable def gm(a:List κ)(k:κ):List κ:=if k∈a then a else a++[k]
end
noncomputable def dQ:PV->Option ag
 | .int i=>some (.inl i)| .str z=>some (.inr z)|_=>none
noncomputable def ym:List PV->Option (List ag)
 |[]=>some []|x::xs=>(dQ x).bind λk=>(ym xs).map (k::·)
inductive TV where
 | un|frz (v:PV) (n:Bool)|own (xs:List PV) (n:Bool)|owd (b:Bd) (xs:List PV) (n:Bool)
noncomputable def TV.ob:TV->Option (Bd×List PV×Bool)
 | .own a n=>some (.lst,a,n)| .owd b a n=>some (b,a,n)|_=>none
noncomputable abbrev En:=List TV
noncomputable def TV.valD:TV->PV
 | .frz v _=>v|_=>.non
inductive RV where
 | frz (v:PV) (n:Bool)|bor (v:PV)|own (xs:List PV) (n:Bool)|owd (b:Bd) (xs:List PV) (n:Bool)
noncomputable def RV.val:RV->PV
 | .frz v _=>v| .bor v=>v| .own a _=>.lst a| .owd b a _=>b.pv a
noncomputable abbrev sc(v:PV):RV:=.frz v true
noncomputable def RV.keep:RV->Option (PV×Bool)
 | .frz v n=>some (v,n)| .bor v=>if imm v then some (v,true)else none| .own a n=>some (.lst a,n)| .owd b a n=>some (b.pv a,n)
noncomputable def fw(v:PV):RV:=if imm v then .frz v true else .bor v
noncomputable def RV.its:RV->Option (List PV×Bool)
 | .frz (.lst a) n=>some (a,n)| .frz (.tup a) n=>some (a,n)| .own a n=>some (a,n)| .bor (.lst a)=>if imms a then some (a,true)else none| .bor (.tup a)=>if imms a then some (a,true)else none|_=>none
noncomputable abbrev LN:Nat:=16777216
open L2 (lN eo)
noncomputable def signs(z:Str):List PV:=z.cps.toList.map λc=>.str ⟨#[c]⟩
noncomputable def lT(a:List PV)(n:Bool):Option RV:=if a.length<=LN then some (.own a n)else none
noncomputable def pN(a:List PV)(n:Bool):Option RV:=if a.length<=LN then some (.frz (.tup a) n)else none
noncomputable def sY(a b:RV):Option RV :=
 match a.val,b.val with
 | .int i,.int j=>some (sc (.int (i+j)))| .str x,.str y=>if x.length+y.length<=LN then some (sc (.str (x++y)))else none| .lst _,.lst _=>match a.its,b.its with
  |some (xs,n),some (ys,m)=>lT (xs++ys) (n&&m)|_,_=>none
 | .tup _,.tup _=>match a.its,b.its with
  |some (xs,n),some (ys,m)=>pN (xs++ys) (n&&m)|_,_=>none
 |_,_=>none
noncomputable def sW(a b:RV):Option RV :=
 match a.val,b.val with
 | .int i,.int j=>some (sc (.int (i-j)))|_,_=>none
noncomputable def ni(a b:RV):Option RV :=
 match a.val,b.val with
 | .int i,.int j=>if(-(2^64)<i/\i<2^64)\/(-(2^64)<j/\j<2^64)then some (sc (.int (i*j)))else if i.natAbs<2^2000/\j.natAbs<2^2000 then some (sc (.int (i*j)))else none| .lst _,.int k=>match a with
  | .own c n=>if 0<=k/\k<=1000000/\c.length*k.toNat<=LN then some (.own (List.replicate k.toNat c).flatten n)else none|_=>none
 | .tup _,.int k=>match a.its with
  |some (c,n)=>if 2<=k/\k<=8/\c.length=1 then pN (List.replicate k.toNat c).flatten n else none|none=>none
 | .str z,.int k=>if 0<=k/\k<=1000/\z.length<=16 then some (sc (.str ⟨(List.replicate k.toNat z.cps.toList).flatten.toArray⟩))else none|_,_=>none
noncomputable def fO(a b:RV):Option RV :=
 match a.val,b.val with
 | .int i,.int j=>if 0<j/\j<2^200 then some (sc (.int (i/j)))else none|_,_=>none
noncomputable def sX(a b:RV):Option RV :=
 match a.val,b.val with
 | .int i,.int j=>if 0<j then some (sc (.int (i%j)))else none|_,_=>none
noncomputable def jS(a b:RV):Option RV :=
 match a.val,b.val with
 | .int i,.int j=>if 0<=j/\j<=1000000/\i.natAbs<2^64 then some (sc (.int (i*2^j.toNat)))else none|_,_=>none
noncomputable def cN(c:Operator)(a b:RV):Option RV:=match c with
 | .Add=>sY a b| .Sub=>sW a b| .Mult=>ni a b| .FloorDiv=>fO a b| .Mod=>sX a b| .LShift=>jS a b|_=>none
noncomputable def qE:PV->Bool
 | .non=>true| .bl _=>true| .int _=>true| .str _=>true|_=>false
noncomputable def eqs:PV->PV->Option Bool
 | .int i,.int j=>some (decide (i=j))| .str i,.str j=>some (decide (i=j))| .bl i,.bl j=>some (decide (i=j))| .non,.non=>some true| .non,.int _=>some false| .non,.bl _=>some false| .non,.str _=>some false| .int _,.non=>some false| .bl _,.non=>some false| .str _,.non=>some false
 | .int _,.str _=>some false| .str _,.int _=>some false| .bl _,.str _=>some false| .str _,.bl _=>some false
 |_,_=>none
noncomputable def CJ:PV->PV->Bool
 | .int i,.int j=>decide (i=j)| .str i,.str j=>decide (i=j)| .bl i,.bl j=>decide (i=j)| .bl b,.int j=>decide ((if b then 1 else 0:Int)=j)| .int j,.bl b=>decide (j=(if b then 1 else 0:Int))| .non,.non=>true|_,_=>false
mutual
noncomputable def gE:PV->PyData
 | .non=>.none
 | .bl b=>.bool b
 | .int i=>.int i
 | .str z=>.str z
 | .lst xs=>.list (cL xs)
 | .tup xs=>.tuple (cL xs)
 | .dK _ _=>.dict []
 | .dT _ _=>.dict []
noncomputable def cL:List PV->List PyData
 | []=>[]
 | x::xs=>gE x::cL xs
end
mutual
noncomputable def nU:PV->PV->Bool
 | .lst xs,.lst ys=>sA xs ys
 | .tup xs,.tup ys=>sA xs ys
 | a,b=>CJ a b
noncomputable def sA:List PV->List PV->Bool
 | [],[]=>true
 | x::xs,y::ys=>nU x y&&sA xs ys
 | [],_::_=>false
 | _::_,[]=>false
end
noncomputable def dv:Nat->PV->Bool
 |_,.non=>true|_,.bl _=>true|_,.int _=>true|_,.str z=>PyData.strOk z|0,.lst _=>false|0,.tup _=>false|n+1,.lst xs=>xs.all (dv n)|n+1,.tup xs=>xs.all (dv n)|_,.dK _ _=>false|_,.dT _ _=>false
noncomputable def DP(x y:PV):Option Bool:=match eqs x y with
 |some b=>some b|none=>if dv 12 x&&dv 12 y then some (nU x y)else none
noncomputable def B3(x:PV)(a:List PV):Option Bool :=
 if qE x/\a.all qE then some (a.any λy=>CJ y x)else if dv 12 x&&a.all (dv 12)then some (a.any λy=>nU y x)else none
mutual
noncomputable def IY(f:Int->Int->Bool)(g:Nat->Nat->Bool):PV->PV->Option Bool
 | .int i,.int j=>some (f i j)
 | .tup xs,.tup ys=>vw f g xs ys
 | _,_=>none
noncomputable def vw(f:Int->Int->Bool)(g:Nat->Nat->Bool):List PV->List PV->Option Bool
 | [],ys=>some (g 0 ys.length)
 | _::_,[]=>some (g 1 0)
 | x::xs,y::ys=>if nU x y then vw f g xs ys else IY f g x y
end
noncomputable abbrev ltd:=IY (λi j=>decide (i<j)) λa b=>decide (a<b)
noncomputable def ltT(x y:PV):Option Bool:=if dv 12 x&&dv 12 y then ltd x y else none
noncomputable def zW(a b:PV):Option Bool :=
 match a,b with
 | .int i,.int j=>some (decide (i<j))| .tup xs,.tup ys=>ltT (.tup xs) (.tup ys)|_,_=>none
noncomputable def sL(a b:PV):Option Bool :=
 match a,b with
 | .int i,.int j=>some (decide (i<=j))|_,_=>none
noncomputable def zZ(a b:PV):Option Bool :=
 match a,b with
 | .int i,.int j=>some (decide (j<i))|_,_=>none
noncomputable def sM(a b:PV):Option Bool :=
 match a,b with
 | .int i,.int j=>some (decide (j<=i))|_,_=>none
noncomputable def zX(a b:PV):Option Bool :=
 match a,b with
 | .non,.non=>some true|x,.non=>some false| .bl b,.bl c=>some (b==c)|_,_=>none
noncomputable def zY(a b:PV):Option Bool :=
 match a,b with
 |x,.lst ys=>B3 x ys|x,.tup ys=>B3 x ys|x,.dK ks _=>(dQ x).map λk=>B9 ks k|_,_=>none
noncomputable def cM(c:CmpOp)(a b:PV):Option Bool:=match c with
 | .Lt=>zW a b| .LtE=>sL a b| .Gt=>zZ a b| .GtE=>sM a b| .Eq=>DP a b| .NotEq=>(DP a b).map (!·)| .Is=>zX a b| .In=>zY a b|_=>none
noncomputable def og:PV->Option Bool
 | .non=>some false| .bl b=>some b| .int i=>some (i !=0)| .str z=>if z.length<=LN then some ((z.length:Int) !=0)else none| .lst a=>some !a.isEmpty| .tup a=>some !a.isEmpty| .dK c _=>some !c.isEmpty| .dT _ _=>none
noncomputable def fH:PV->Option Nat
 | .str z=>if z.length<=LN then some z.length else none| .lst a=>some a.length| .tup a=>some a.length| .dK b _=>some b.length|_=>none
noncomputable def fY(t:String):PV->Option Bool
 | .non=>if t="int"\/t="str"\/t="list"\/t="tuple"\/t="bool" then some false else none| .bl _=>if t="int"\/t="bool" then some true else if t="str"\/t="list"\/t="tuple" then some false else none| .int _=>if t="int" then some true else if t="bool"\/t="str"\/t="list"\/t="tuple" then some false else none| .str _=>if t="str" then some true else if t="bool"\/t="int"\/t="list"\/t="tuple" then some false else none| .lst _=>if t="list" then some true else if t="bool"\/t="int"\/t="str"\/t="tuple" then some false else none| .tup _=>if t="tuple" then some true else if t="bool"\/t="int"\/t="str"\/t="list" then some false else none| .dK _ _=>if t="bool"\/t="int"\/t="str"\/t="list"\/t="tuple" then some false else none| .dT _ _=>none
noncomputable def el:List PV->Option (List Bool)
 |[]=>some []| .bl b::r=>(el r).map (b::·)|_::_=>none
noncomputable def dc:List PV->Option (List Str)
 |[]=>some []| .str z::r=>(dc r).map (z::·)|_::_=>none
noncomputable def aQ:List PV->Option (List Int)
 |[]=>some []| .int i::r=>(aQ r).map (i::·)|_::_=>none
noncomputable def fj(a:Str):List Str->Str
 |[]=>⟨#[]⟩|[x]=>x|x::y::r=>x++a++fj a (y::r)
noncomputable def lrng(n:Nat):List PV:=(List.range n).map λi=>.int (i:Nat)
noncomputable def xm:PV->Option (Int×Int)
 | .tup c=>(aQ c).bind λns=>match ns with
  |[a,b]=>some (a,b)|_=>none
 |_=>none
noncomputable def eh:List PV->Option (List (Int×Int))
 |[]=>some []|x::r=>(xm x).bind λq=>(eh r).map (q::·)
noncomputable def bE(q:Int×Int):PV:=.tup [.int q.1,.int q.2]
noncomputable def ao(c:List (Int×Int)):List (Int×Int):=c.mergeSort λa b=>decide (SW.bt a<=SW.bt b)
noncomputable def oz(a:List PV):Option RV:=(eh a).bind λps=>if ps.length<4096/\ps.all (λq=>decide (0<=q.2)&&decide (q.2<1000))=true then some (.own ((ao ps).map bE) true)else none
noncomputable def j9(b:List PV):Option RV:=match aQ b with
 |some a=>if a.length<64 then some (.own ((L2.sortI a).map PV.int) true)else none|none=>oz b
noncomputable def qOf:PV->Option (List (Int×Int))
 | .lst a=>eh a|_=>none
noncomputable def mv:List PV->Option (List (List (Int×Int)))
 |[]=>some []|x::r=>(qOf x).bind λq=>(mv r).map (q::·)
noncomputable def qV(q:List (Int×Int)):PV:=.lst (q.map bE)
noncomputable def dU(q:List (Int×Int)):Int:=SW.bt (q.headD (0,0))
noncomputable def dk(c:List (List (Int×Int))):List (List (Int×Int)):=c.mergeSort λa b=>decide (dU a<=dU b)
noncomputable def o0(a:List PV)(n:Bool):Option RV:=(mv a).bind λqs=>if qs.length<4096/\qs.all (λq=> !q.isEmpty&&q.all λp=>decide (0<=p.2)&&decide (p.2<1000))=true/\(qs.map dU).Nodup then some (.own ((dk qs).map qV) n)else none
noncomputable def gf(b:List PV)(a:RV):Option RV:=match j9 b with
 |some r=>some r|none=>(match a.its with
  |some (ys,n)=>o0 ys n|none=>none)
noncomputable def xJ:PV->Option (List Int)
 | .lst a=>(aQ a).bind λns=>if ns.all (λn=>decide (0<=n)&&decide (n<8))=true then some ns else none|_=>none
noncomputable def revT(a:RV):Option RV:=match a.val with
 | .tup _=>(match a.its with
  |some (xs,n)=>if xs.isEmpty then none else some (.frz (.tup xs.reverse) n)|none=>none)
 |_=>none
noncomputable def strI:PV->Option RV
 | .int i=>if i.natAbs.log2<1920 then some (sc (.str (Str.ofString (toString i))))else none|_=>none
noncomputable def yv(x:PV)(a:List PV):Option RV:=if a.all (dv 12)&&dv 12 x then(a.findIdx? λy=>nU y x).map λj=>sc (.int (j:Nat))else none
noncomputable def Hf:PV->Option RV
 | .dK b a=>if b.length<=LN then(aQ a).map λns=>.own (ns.map PV.int) true else none|_=>none
noncomputable def lO(f:Bf)(d:List RV):Option RV :=
 match f,d with
 | .len,[a]=>(fH a.val).map λn=>sc (.int (n:Nat))| .int,[a]=>match a.val with
  | .int i=>some (sc (.int i))| .bl b=>some (sc (.int (if b then 1 else 0)))|_=>none
 | .list,[a]=>match a.its with
  |some (c,n)=>some (.own c n)|none=>none
 | .tuple,[a]=>match a.its with
  |some (c,n)=>some (.frz (.tup c) n)|none=>none
 | .all,[a]=>match a.val with
  | .lst c=>(el c).map λbs=>sc (.bl (bs.all id))|_=>none
 | .any,[a]=>match a.val with
  | .lst c=>(el c).map λbs=>sc (.bl (bs.any id))|_=>none
 | .sum,[a]=>match a.val with
  | .lst c=>(aQ c).map λns=>sc (.int ns.sum)|_=>none
 | .sorted,[a]=>match a.val with
  | .lst c=>gf c a|_=>none
 | .sumv,[a]=>match a.val with
  | .dK _ e=>(aQ e).map λns=>sc (.int ns.sum)|_=>none
 | .sset,[a]=>(xJ a.val).map λns=>.own ((L2.DG ns).map PV.int) true| .lset,[a]=>(xJ a.val).map λns=>sc (.int ((L2.DG ns).length:Nat))| .trev,[a]=>revT a| .lvals,[a]=>Hf a.val| .str,[a]=>strI a.val| .isin t,[a]=>(fY t a.val).map λb=>sc (.bl b)| .min,[a,b]=>match a.val,b.val with
  | .int i,.int j=>some (sc (.int (if j<i then j else i)))|_,_=>none
 | .max,[a,b]=>match a.val,b.val with
  | .int i,.int j=>some (sc (.int (if j>i then j else i)))|_,_=>none
 | .lrange,[a]=>match a.val with
  | .int i=>if 0<=i/\i<=1000 then some (.own (lrng i.toNat) true)else none|_=>none
 | .lrange2,[a,b]=>match a.val,b.val with
  | .int i,.int j=>if -1000<=i/\j<=1000/\i<=j then some (.own ((List.range (j-i).toNat).map λk=>.int (i+(k:Nat))) true)else none|_,_=>none
 |_,_=>none
noncomputable def pO(m:Bm)(o:RV)(c:List RV):Option RV :=
 match m,o.val,c with
 | .join,.str sep,[a]=>match a.val with
  | .lst b=>(dc b).bind λys=>if(ys.map (·.length)).sum+ys.length*sep.length<=LN then some (sc (.str (fj sep ys)))else none| .tup b=>(dc b).bind λys=>if(ys.map (·.length)).sum+ys.length*sep.length<=LN then some (sc (.str (fj sep ys)))else none|_=>none
 | .jrev,.str sep,[a]=>match a.val with
  | .str z=>if sep.cps= #[]/\0<z.length/\z.length<=LN then some (sc (.str ⟨z.cps.toList.reverse.toArray⟩))else none|_=>none
 | .count,.str z,[a]=>match a.val with
  | .str y=>some (sc (.int (Txt.count z y)))|_=>none
 | .index,.tup b,[a]=>yv a.val b| .index,.lst b,[a]=>yv a.val b| .get,.dK ks vs,[a,d]=>(dQ a.val).bind λk=>match fg ks vs k with
  |some e=>(match o with
   | .frz _ n=>some (.frz e (n||imm e))
   | .bor _=>some (fw e)|_=>none)
  |none=>some d
 |_,_,_=>none
noncomputable def index(a i:RV):Option RV :=
 match a,i.val with
 | .frz (.lst xs) n,.int k=>(eo xs k).map λe=>.frz e (n||imm e)
 | .frz (.tup xs) n,.int k=>(eo xs k).map λe=>.frz e (n||imm e)
 | .own xs n,.int k=>(eo xs k).map λe=>.frz e (n||imm e)
 | .bor (.lst xs),.int k=>(eo xs k).map fw| .bor (.tup xs),.int k=>(eo xs k).map fw| .frz (.str z) _,.int k=>if z.length<=LN then(eo z.cps.toList k).map λc=>sc (.str ⟨#[c]⟩)else none| .frz (.dK ks vs) n,y=>(dQ y).bind λk=>(fg ks vs k).map λe=>.frz e (n||imm e)
 | .bor (.dK ks vs),y=>(dQ y).bind λk=>(fg ks vs k).map fw|_,_=>none
noncomputable def cut{b:Type}(a:List b)(c d:Option Int):List b:=(a.drop (HT.bi a.length 0 c)).take (HT.bi a.length a.length d-HT.bi a.length 0 c)
noncomputable def slice(a:RV)(b c:Option Int):Option RV :=
 match a.val with
 | .str z=>if z.length<=LN then(match b,c with
  |none,some k=>if 0<=k then some (sc (.str ⟨(z.cps.toList.take k.toNat).toArray⟩))else none|some k,none=>if 0<=k then some (sc (.str ⟨(z.cps.toList.drop k.toNat).toArray⟩))else none|_,_=>none)else none
 | .lst _=>match a.its with
  |some (xs,n)=>some (.own (cut xs b c) (n||imms xs))
  |none=>none
 | .tup _=>match a.its with
  |some (xs,n)=>if HT.bi xs.length 0 b=0/\HT.bi xs.length xs.length c=xs.length then some (.frz (.tup xs) n)else some (.frz (.tup (cut xs b c)) n)|none=>none
 |_=>none
noncomputable def keeps:List RV->Option (List PV×Bool)
 |[]=>some ([],true)|r::rs=>r.keep.bind λ(v,n)=>(keeps rs).map λ(vs,m)=>(v::vs,n&&m)
noncomputable def nP(a:En)(i:Nat):Option RV :=
 match a[i]? with
 |some (.frz v n)=>some (.frz v n)|some (.own xs _)=>some (.bor (.lst xs))|some (.owd b xs _)=>some (.bor (b.pv xs))|_=>none
noncomputable def pk:Option RV->Option (Option Int)
 |none=>some none|some r=>match r.val with
  | .int i=>some (some i)|_=>none
noncomputable def bq(f:PV->Option (Option (PV×Bool))):List PV->Option (List PV×Bool)
 |[]=>some ([],true)|x::xs=>(f x).bind λr=>(bq f xs).map λ(vs,m)=>match r with
  |none=>(vs,m)|some (v,n)=>(v::vs,n&&m)
noncomputable def l5:PV->Option (PV×PV)
 | .tup [a,b]=>some (a,b)|_=>none
noncomputable def i7:List RV->Option (List PV)
 |[a]=>match a.val with
  | .int j=>if -(2^62)<=j/\j<2^62 then some ((List.range j.toNat).map λi=>.int (0+(i:Nat)))else none|_=>none
 |[a,b]=>match a.val,b.val with
  | .int i,.int j=>if -(2^62)<=i/\i<2^62/\ -(2^62)<=j/\j<2^62 then some ((List.range (j-i).toNat).map λk=>.int (i+(k:Nat)))else none|_,_=>none
 |[a,b,c]=>match a.val,b.val,c.val with
  | .int i,.int j,.int k=>if k≠0/\k.natAbs<1073741824/\Builtin.Range.small i j k=true then some ((List.range (Builtin.Range.rangeSize i j k).toNat).map λm=>.int (i+(m:Nat)*k))else none|_,_,_=>none
 |_=>none
noncomputable def jI:PV->Option Int
 | .int i=>some i|_=>none
noncomputable def iM:PV->Option Bool
 | .bl b=>some b|_=>none
noncomputable def kD(x:RV):Option (List PV×Bool×Bool):=match x with
  | .frz (.str z) _=>some (signs z,true,false)| .bor (.lst xs)=>if imms xs then some (xs,true,true)else none| .bor (.tup xs)=>if imms xs then some (xs,true,true)else none| .bor _=>none|r=>r.its.map λ(xs,n)=>(xs,n,false)
noncomputable def tq(x y:PV):PV:=.tup [x,y]
noncomputable def dr(i:Nat)(x:PV):PV:=.tup [.int (i:Nat),x]
noncomputable def yZ:RV->Option (List PV×Bool)
 | .frz (.lst a) n=>some (a,n)| .own a n=>some (a,n)|_=>none
noncomputable def wZ(x y:RV):Option (List PV×Bool) :=
 match yZ x,yZ y with
 |some (xs,n),some (ys,m)=>if xs.length=ys.length then some (List.zipWith tq xs ys,n&&m)else none|_,_=>none
noncomputable def k7(x:RV):Option (List PV×Bool) :=
 match x with
 | .frz (.str z) _=>some (List.zipWith dr (List.range z.length) (signs z),true)| .frz (.tup xs) n=>some (List.zipWith dr (List.range xs.length) xs,n)|x=>match yZ x with
  |some (xs,n)=>some (List.zipWith dr (List.range xs.length) xs,n)|none=>none
section
variable(cd:Nat->List PV->Option PV)
noncomputable def oj:PV->RV
 | .lst a=>.own a true|v=>.frz v true
mutual
noncomputable def aP:IE->En->Option RV
 | .con v,_=>some (sc v)
 | .var i,τ=>nP τ i
 | .bin op a b,τ=>(aP a τ).bind fun x=>(aP b τ).bind fun y=>cN op x y
 | .neg a,τ=>(aP a τ).bind fun x=>(jI x.val).map fun i=>sc (.int (-i))
 | .cmp op a b,τ=>(aP a τ).bind fun x=>(aP b τ).bind fun y=>(cM op x.val y.val).map fun r=>sc (.bl r)
 | .and a b,τ=>(aP a τ).bind fun x=>(iM x.val).bind fun t=>if t then aP b τ else some (sc (.bl false))
 | .or a b,τ=>(aP a τ).bind fun x=>(iM x.val).bind fun t=>if t then some (sc (.bl true))else aP b τ
 | .not a,τ=>(aP a τ).bind fun x=>(iM x.val).map fun b=>sc (.bl !b)
 | .ite c a b,τ=>(fk c τ).bind fun r=>if r then aP a τ else aP b τ
 | .call f es,τ=>(cC es τ).bind fun rs=>(cd f (rs.map RV.val)).map oj
 | .bf f es,τ=>(cC es τ).bind fun rs=>lO f rs
 | .mth m o es,τ=>(aP o τ).bind fun x=>(cC es τ).bind fun rs=>pO m x rs
 | .lst es,τ=>(cC es τ).bind fun rs=>(keeps rs).bind fun(vs,n)=>lT vs n
 | .tup es,τ=>(cC es τ).bind fun rs=>(keeps rs).bind fun(vs,n)=>pN vs n
 | .dnew,_=>some (.owd (.dK []) [] true)
 | .dlit k e,τ=>(aP e τ).bind fun r=>r.keep.bind fun(v,_)=>if imm v then some (.owd (.dK [k]) [v] true)else none
 | .ix a i,τ=>(aP a τ).bind fun x=>(aP i τ).bind fun y=>index x y
 | .sl a lo hi,τ=>(aP a τ).bind fun x=>(FU lo τ).bind fun l=>(FU hi τ).bind fun h=>(pk l).bind fun l' =>(pk h).bind fun h' =>slice x l' h'
 | .lc elt src ifs caps,τ=>(nT src τ).bind fun(xs,n,_)=>if xs.length<=LN then(bq (fun x=>(jN ifs (.frz x (n||imm x)::caps.map fun i=>τ.getD i .un)).bind fun b =>
   if b then(aP elt (.frz x (n||imm x)::caps.map fun i=>τ.getD i .un)).bind fun r=>r.keep.map some else some none) xs).map fun(vs,m)=>.own vs m else none
 | .lc2 elt src ifs caps,τ=>(nT src τ).bind fun(xs,n,_)=>if xs.length<=LN then(bq (fun x=>(l5 x).bind fun(a,b)=>(jN ifs (.frz a (n||imm a)::.frz b (n||imm b)::caps.map fun i=>τ.getD i .un)).bind fun t =>
   if t then(aP elt (.frz a (n||imm a)::.frz b (n||imm b)::caps.map fun i=>τ.getD i .un)).bind fun r=>r.keep.map some else some none) xs).map fun(vs,m)=>.own vs m else none
 | .never,_=>none
noncomputable def cC:AY->En->Option (List RV)
 | .nil,_=>some []
 | .cons e es,τ=>(aP e τ).bind fun x=>(cC es τ).map (x::·)
noncomputable def FU:IO->En->Option (Option RV)
 | .no,_=>some none
 | .yes e,τ=>(aP e τ).map some
noncomputable def fk:IC->En->Option Bool
 | .val e,τ=>(aP e τ).bind fun x=>og x.val
 | .not c,τ=>(fk c τ).map (!·)
 | .and c d,τ=>(fk c τ).bind fun r=>if r then fk d τ else some false
 | .or c d,τ=>(fk c τ).bind fun r=>if r then some true else fk d τ
noncomputable def jN:DU->En->Option Bool
 | .no,_=>some true
 | .yes c,τ=>fk c τ
noncomputable def nT:IT->En->Option (List PV×Bool×Bool)
 | .seq e,τ=>(aP e τ).bind kD
 | .rng es,τ=>(cC es τ).bind fun rs=>(i7 rs).map fun xs=>(xs,true,false)
 | .zip a b,τ=>(aP a τ).bind fun x=>(aP b τ).bind fun y=>(wZ x y).map fun(xs,n)=>(xs,n,false)
 | .enum a,τ=>(aP a τ).bind fun x=>(k7 x).map fun(xs,n)=>(xs,n,false)
 | .never,_=>none
end
inductive Fl where
 | nx (τ:En)|bk (τ:En)|ct (τ:En)|rt (v:PV)
noncomputable def j3(f:Fl)(k:En->Option Fl):Option Fl:=match f with
 | .nx a=>k a| .bk a=>some (.bk a)| .ct a=>some (.ct a)| .rt v=>some (.rt v)
noncomputable def nR(a:En)(i:Nat):En :=
 match a[i]? with
 |some (.own xs n)=>a.set i (.frz (.lst xs) n)|some (.owd b xs n)=>a.set i (.frz (b.pv xs) n)|_=>a
noncomputable def au(a:List Nat)(b:En):En:=a.foldl nR b
noncomputable def mw(o:Bool)(i:Nat)(r:RV)(a:En):Option En :=
 match o,r with
 |true,.own xs n=>some (a.set i (.own xs n))|true,.owd b xs n=>some (a.set i (.owd b xs n))|_,r=>r.keep.map λ(v,n)=>a.set i (.frz v n)
noncomputable def dq(n:Bool):List Nat->List PV->En->Option En
 |[],[],τ=>some τ|i::is,x::xs,τ=>dq n is xs (τ.set i (.frz x (n||imm x)))
 |_,_,_=>none
noncomputable def mf(b:List Nat)(a n:Bool)(x:PV)(c:En):Option En :=
 if a then dq n b [x] c else match x with
  | .tup d=>dq n b d c|_=>none
noncomputable def setU(b:List Nat)(n:Bool)(x:PV)(c:En):Option En:=match x with
 | .tup a=>dq n b a c| .lst a=>dq n b a c|_=>none
noncomputable def kr(c:PV->En->Option En)(b:En->Option Fl):List PV->En->Option Fl
 |[],τ=>some (.nx τ)|x::xs,τ=>(c x τ).bind λτ1=>(b τ1).bind λf=>match f with
  | .nx a=>kr c b xs a| .ct a=>kr c b xs a| .bk a=>some (.nx a)| .rt v=>some (.rt v)
noncomputable def C2(c:En->Option Bool)(d:En->Option Fl):Nat->En->Option Fl
 |0,_=>none|k+1,τ=>(c τ).bind λb=>if b then(d τ).bind λf=>(match f with
  | .nx a=>C2 c d k a| .ct a=>C2 c d k a| .bk a=>some (.nx a)| .rt v=>some (.rt v))else some (.nx τ)
variable(fu:Nat)
mutual
noncomputable def fe:IS->En->Option Fl
 | .asg i o cap e,τ=>let τ1:=au cap τ;(aP cd e τ1).bind fun r=>(mw o i r τ1).map .nx
 | .ret cap e,τ=>let τ1:=au cap τ;(aP cd e τ1).bind fun r=>r.keep.bind fun(v,n)=>if n then some (.rt v)else none
 | .retN,_=>some (.rt .non)
 | .ife c a b,τ=>(fk cd c τ).bind fun r=>if r then bx a τ else bx b τ
 | .forr is one cap src body,τ=>let τ1:=au cap τ;(nT cd src τ1).bind fun(xs,n,b)=>if b then none else kr (mf is one n) (fun τ=>bx body τ) xs τ1
 | .whil c body,τ=>C2 (fun τ=>fk cd c τ) (fun τ=>bx body τ) fu τ
 | .pass,τ=>some (.nx τ)
 | .brk,τ=>some (.bk τ)
 | .cont,τ=>some (.ct τ)
 | .app i cap e,τ=>let τ1:=au cap τ;(aP cd e τ1).bind fun r=>r.keep.bind fun(v,m)=>match τ1[i]? with
  | some (.own xs n)=>if xs.length<LN then some (.nx (τ1.set i (.own (xs++[v]) (n&&m))))else none
  | _=>none
 | .ins i k e,τ=>(aP cd k τ).bind fun x=>(aP cd e τ).bind fun r=>r.keep.bind fun(v,m)=>match x.val,τ[i]? with
  | .int j,some (.own xs n)=>if 0<=j/\j<=xs.length/\xs.length<LN then some (.nx (τ.set i (.own (xs.take j.toNat++v::xs.drop j.toNat) (n&&m))))else none
  | _,_=>none
 | .seti i cap k e,τ=>let τ1:=au cap τ;(aP cd e τ1).bind fun r=>r.keep.bind fun(v,m)=>(aP cd k τ1).bind fun x=>match x.val,τ1[i]? with
  | .int j,some (.own xs n)=>(lN xs.length j).map fun q=>.nx (τ1.set i (.own (xs.set q v) (n&&m)))
  | y,some (.owd (.dK ks) xs n)=>(dQ y).bind fun k=>if xs.length<LN then some (.nx (τ1.set i (.owd (.dK (gm ks k)) (putL ks xs k v) (n&&m))))else none
  | _,_=>none
 | .drop e,τ=>(aP cd e τ).map fun _=>.nx τ
 | .ext i e,τ=>(aP cd e τ).bind fun r=>match r,τ[i]? with
  | .frz (.lst ys) _,some (.own xs n)=>if imms ys=true/\xs.length+ys.length<=LN then some (.nx (τ.set i (.own (xs++ys) n)))else none
  | _,_=>none
 | .augS i op k e,τ=>(aP cd k τ).bind fun x=>(jI x.val).bind fun j=>(aP cd e τ).bind fun r=>(jI r.val).bind fun y=>match τ[i]? with
  | some (.own xs n)=>(lN xs.length j).bind fun q=>((xs[q]?).bind jI).bind fun a=>match op with
   | .Add=>some (.nx (τ.set i (.own (xs.set q (.int (a+y))) n)))
   | .Sub=>some (.nx (τ.set i (.own (xs.set q (.int (a-y))) n)))
   | _=>none
  | _=>none
 | .hand m g,τ=>(g ((τ.take m).map TV.valD)).map .rt
 | .never,_=>none
noncomputable def bx:wW->En->Option Fl
 | .nil,τ=>some (.nx τ)
 | .cons s ss,τ=>(fe s τ).bind fun f=>j3 f (fun τ1=>bx ss τ1)
end
end
structure FD where
 nn:Nat
 np:Nat
 body:wW
noncomputable def entry(d:FD)(a:List PV):En:=a.map (λv=>.frz v (imm v))++List.replicate (d.nn-a.length) .un
noncomputable def fK:Option Fl->Option PV
 |some (.rt v)=>some v|some (.nx _)=>some .non|_=>none
noncomputable def aC(P:Nat->Option FD):Nat->Nat->List PV->Option PV
 |0,_,_=>none|k+1,f,vs=>(P f).bind λd=>if vs.length=d.np then fK (bx (aC P k) 1000000 d.body (entry d vs))else none
section
set_option autoImplicit true
set_option relaxedAutoImplicit true
variable{cd:Nat->List PV->Option PV}{fu:Nat}{τ:En}
theorem cw:aP cd (.con v) τ=(some (sc v)):=rfl
theorem cX:aP cd (.var i) τ=(nP τ i):=rfl
theorem cz:aP cd (.bin op a b) τ=((aP cd a τ).bind λx=>(aP cd b τ).bind λy=>cN op x y):=rfl
theorem dH:aP cd (.neg a) τ=((aP cd a τ).bind λx=>(jI x.val).map λi=>sc (.int (-i))):=rfl
theorem cx:aP cd (.cmp op a b) τ=((aP cd a τ).bind λx=>(aP cd b τ).bind λy=>(cM op x.val y.val).map λr=>sc (.bl r)):=rfl
theorem dB:aP cd (.and a b) τ=((aP cd a τ).bind λx=>(iM x.val).bind λt=>if t then aP cd b τ else some (sc (.bl false))):=rfl
theorem cZ:aP cd (.or a b) τ=((aP cd a τ).bind λx=>(iM x.val).bind λt=>if t then some (sc (.bl true))else aP cd b τ):=rfl
theorem cc:aP cd (.not a) τ=((aP cd a τ).bind λx=>(iM x.val).map λb=>sc (.bl !b)):=rfl
theorem cr:aP cd (.ite c a b) τ=((fk cd c τ).bind λr=>if r then aP cd a τ else aP cd b τ):=rfl
theorem cy:aP cd (.call f es) τ=((cC cd es τ).bind λrs=>(cd f (rs.map RV.val)).map oj):=rfl
theorem c7:aP cd (.bf f es) τ=((cC cd es τ).bind λrs=>lO f rs):=rfl
theorem cf:aP cd (.mth m o es) τ=((aP cd o τ).bind λx=>(cC cd es τ).bind λrs=>pO m x rs):=rfl
theorem cg:aP cd (.lst es) τ=((cC cd es τ).bind λrs=>(keeps rs).bind λ(vs,n)=>lT vs n):=rfl
theorem cY:aP cd (.tup es) τ=((cC cd es τ).bind λrs=>(keeps rs).bind λ(vs,n)=>pN vs n):=rfl
theorem dJ:aP cd (.dnew) τ=(some (.owd (.dK []) [] true)):=rfl
theorem cu:aP cd (.dlit k e) τ=((aP cd e τ).bind λr=>r.keep.bind λ(v,_)=>if imm v then some (.owd (.dK [k]) [v] true)else none):=rfl
theorem cq:aP cd (.ix a i) τ=((aP cd a τ).bind λx=>(aP cd i τ).bind λy=>index x y):=rfl
theorem dF:aP cd (.sl a lo hi) τ=((aP cd a τ).bind λx=>(FU cd lo τ).bind λl=>(FU cd hi τ).bind λh=>(pk l).bind λl' =>(pk h).bind λh' =>slice x l' h'):=rfl
theorem ck:aP cd (.lc elt src ifs caps) τ=((nT cd src τ).bind λ(xs,n,_)=>if xs.length<=LN then(bq (λx=>(jN cd ifs (.frz x (n||imm x)::caps.map λi=>τ.getD i .un)).bind λb =>
   if b then(aP cd elt (.frz x (n||imm x)::caps.map λi=>τ.getD i .un)).bind λr=>r.keep.map some else some none) xs).map λ(vs,m)=>.own vs m else none):=rfl
theorem ci:aP cd (.lc2 elt src ifs caps) τ=((nT cd src τ).bind λ(xs,n,_)=>if xs.length<=LN then(bq (λx=>(l5 x).bind λ(a,b)=>(jN cd ifs (.frz a (n||imm a)::.frz b (n||imm b)::caps.map λi=>τ.getD i .un)).bind λt =>
   if t then(aP cd elt (.frz a (n||imm a)::.frz b (n||imm b)::caps.map λi=>τ.getD i .un)).bind λr=>r.keep.map some else some none) xs).map λ(vs,m)=>.own vs m else none):=rfl
theorem dG:aP cd (.never) τ=(none):=rfl
theorem wS:cC cd (.nil) τ=(some []):=rfl
theorem wT:cC cd (.cons e es) τ=((aP cd e τ).bind λx=>(cC cd es τ).map (x::·)):=rfl
theorem z0t:FU cd (.no) τ=(some none):=rfl
theorem z0u:FU cd (.yes e) τ=((aP cd e τ).map some):=rfl
theorem wc:fk cd (.val e) τ=((aP cd e τ).bind λx=>og x.val):=rfl
theorem wd:fk cd (.not c) τ=((fk cd c τ).map (!·)):=rfl
theorem AU:fk cd (.and c d) τ=((fk cd c τ).bind λr=>if r then fk cd d τ else some false):=rfl
theorem AT:fk cd (.or c d) τ=((fk cd c τ).bind λr=>if r then some true else fk cd d τ):=rfl
theorem Ae:jN cd (.no) τ=(some true):=rfl
theorem Ad:jN cd (.yes c) τ=(fk cd c τ):=rfl
theorem AQ:nT cd (.seq e) τ=((aP cd e τ).bind kD):=rfl
theorem AR:nT cd (.rng es) τ=((cC cd es τ).bind λrs=>(i7 rs).map λxs=>(xs,true,false)):=rfl
theorem AO:nT cd (.zip a b) τ=((aP cd a τ).bind λx=>(aP cd b τ).bind λy=>(wZ x y).map λ(xs,n)=>(xs,n,false)):=rfl
theorem AS:nT cd (.enum a) τ=((aP cd a τ).bind λx=>(k7 x).map λ(xs,n)=>(xs,n,false)):=rfl
theorem AZ:nT cd (.never) τ=(none):=rfl
theorem io:fe cd fu (.asg i o cap e) τ=(let a:=au cap τ;(aP cd e a).bind λr=>(mw o i r a).map .nx):=rfl
theorem iU:fe cd fu (.ret cap e) τ=(let a:=au cap τ;(aP cd e a).bind λr=>r.keep.bind λ(v,n)=>if n then some (.rt v)else none):=rfl
theorem iT:fe cd fu (.retN) τ=(some (.rt .non)):=rfl
theorem iY:fe cd fu (.ife c a b) τ=((fk cd c τ).bind λr=>if r then bx cd fu a τ else bx cd fu b τ):=rfl
theorem ic:fe cd fu (.forr is one cap src body) τ=(let a:=au cap τ;(nT cd src a).bind λ(xs,n,b)=>if b then none else kr (mf is one n) (λτ=>bx cd fu body τ) xs a):=rfl
theorem iR:fe cd fu (.whil c body) τ=(C2 (λτ=>fk cd c τ) (λτ=>bx cd fu body τ) fu τ):=rfl
theorem iV:fe cd fu (.pass) τ=(some (.nx τ)):=rfl
theorem ik:fe cd fu (.brk) τ=(some (.bk τ)):=rfl
theorem ii:fe cd fu (.cont) τ=(some (.ct τ)):=rfl
theorem ip:fe cd fu (.app i cap e) τ=(let a:=au cap τ;(aP cd e a).bind λr=>r.keep.bind λ(v,m)=>match a[i]? with
  |some (.own xs n)=>if xs.length<LN then some (.nx (a.set i (.own (xs++[v]) (n&&m))))else none|_=>none):=rfl
theorem iX:fe cd fu (.ins i k e) τ=((aP cd k τ).bind λx=>(aP cd e τ).bind λr=>r.keep.bind λ(v,m)=>match x.val,τ[i]? with
  | .int j,some (.own xs n)=>if 0<=j/\j<=xs.length/\xs.length<LN then some (.nx (τ.set i (.own (xs.take j.toNat++v::xs.drop j.toNat) (n&&m))))else none|_,_=>none):=rfl
theorem iS:fe cd fu (.seti i cap k e) τ=(let a:=au cap τ;(aP cd e a).bind λr=>r.keep.bind λ(v,m)=>(aP cd k a).bind λx=>match x.val,a[i]? with
  | .int j,some (.own xs n)=>(lN xs.length j).map λq=>.nx (a.set i (.own (xs.set q v) (n&&m)))|y,some (.owd (.dK ks) xs n)=>(dQ y).bind λk=>if xs.length<LN then some (.nx (a.set i (.owd (.dK (gm ks k)) (putL ks xs k v) (n&&m))))else none|_,_=>none):=rfl
theorem ig:fe cd fu (.drop e) τ=((aP cd e τ).map λ_=>.nx τ):=rfl
theorem ie:fe cd fu (.ext i e) τ=((aP cd e τ).bind λr=>match r,τ[i]? with
  | .frz (.lst ys) _,some (.own xs n)=>if imms ys=true/\xs.length+ys.length<=LN then some (.nx (τ.set i (.own (xs++ys) n)))else none|_,_=>none):=rfl
theorem il:fe cd fu (.augS i op k e) τ=((aP cd k τ).bind λx=>(jI x.val).bind λj=>(aP cd e τ).bind λr=>(jI r.val).bind λy=>match τ[i]? with
  |some (.own xs n)=>(lN xs.length j).bind λq=>((xs[q]?).bind jI).bind λa=>match op with
   | .Add=>some (.nx (τ.set i (.own (xs.set q (.int (a+y))) n)))| .Sub=>some (.nx (τ.set i (.own (xs.set q (.int (a-y))) n)))|_=>none
  |_=>none):=rfl
theorem iZ:fe cd fu (.hand m g) τ=((g ((τ.take m).map TV.valD)).map .rt):=rfl
theorem iW:fe cd fu (.never) τ=(none):=rfl
theorem Ab:bx cd fu (.nil) τ=(some (.nx τ)):=rfl
theorem Ac:bx cd fu (.cons s ss) τ=((fe cd fu s τ).bind λf=>j3 f (λτ1=>bx cd fu ss τ1)):=rfl
end
end IR
namespace IR
open PySem PySem.Spec PyProof.Rows L2
noncomputable def del(H:Hp)(p:Addr):Hp:=λb=>if b=p then none else H b
noncomputable def aK(H:Hp)(O:List Addr):Hp:=λb=>if b∈O then none else H b
theorem fL(s:aB H a):aB (del H p) (del a p):=λb o e=>by
 unfold del at e ⊢
 split at e;cases e
 ·rename_i h
  rw[JE h];exact s b o e
theorem aD(s:aB H a):aB (aK H O) (aK a O):=λb o e=>by
 unfold aK at e ⊢
 split at e;cases e
 ·rename_i h
  rw[JE h];exact s b o e
theorem bF:aB (del H p) H:=λb o e=>by
 unfold del at e
 split at e;cases e;exact e
theorem aO:aB (aK H O) H:=λb o e=>by
 unfold aK at e
 split at e;cases e;exact e
theorem nL(h:∀b∈a,b∈O):aB (aK H O) (aK H a):=λb o e=>by
 unfold aK at e ⊢
 split at e;cases e
 ·rename_i n
  rw[JE λz=>n (h b z)];exact e
theorem uI:aK H []=H:=by funext b;unfold aK;simp
section
variable(K:W.Frag)(Hi:Hp)
mutual
noncomputable def Rp(n:Bool):PV->Hp->V->Prop
 | .non,_,u=>u=.non
 | .bl b,_,u=>u=.bl b
 | .int i,_,u=>u=.int i
 | .str z,_,u=>u=.str z
 | .lst xs,H,u=>∃p us,u=.ref p/\(n=true->Hi p=none/\H p=some (.lst us))/\bJ K H p us/\aG n xs (del H p) us
 | .tup xs,H,u=>∃p us,u=.ref p/\cA K H p us/\aG n xs H us
 | .dK ks vs,H,u=>∃p us,u=.ref p/\(n=true->Hi p=none)/\H p=some (.dK (ks.zip us))/\ks.length=us.length/\aG n vs (del H p) us
 | .dT ks vs,H,u=>∃p us,u=.ref p/\(n=true->Hi p=none)/\H p=some (.dT (ks.zip us))/\ks.length=us.length/\aG n vs (del H p) us
noncomputable def aG(n:Bool):List PV->Hp->List V->Prop
 | [],_,us=>us=[]
 | x::xs,H,us=>∃u r,us=u::r/\Rp n x H u/\aG n xs H r
end
end
section
variable{K:W.Frag}{Hi:Hp}
mutual
theorem Rp.mono{n:Bool}:∀{v:PV}{H H' :Hp}{u:V},aB H H' ->Rp K Hi n v H u->Rp K Hi n v H' u
 | .non,_,_,_,_,h=>by unfold Rp at h ⊢;exact h
 | .bl _,_,_,_,_,h=>by unfold Rp at h ⊢;exact h
 | .int _,_,_,_,_,h=>by unfold Rp at h ⊢;exact h
 | .str _,_,_,_,_,h=>by unfold Rp at h ⊢;exact h
 | .lst xs,_,_,_,s,h=>by
  unfold Rp at h ⊢;obtain⟨p,us,e,q,l,r⟩:=h;exact⟨p,us,e,fun z=>⟨(q z).1,s _ _ (q z).2⟩,s.seq l,aG.mono (fL s) r⟩
 | .tup xs,_,_,_,s,h=>by
  unfold Rp at h ⊢;obtain⟨p,us,e,l,r⟩:=h;exact⟨p,us,e,s.tup l,aG.mono s r⟩
 | .dK ks vs,_,_,_,s,h=>by
  unfold Rp at h ⊢;obtain⟨p,us,e,q,l,z,r⟩:=h;exact⟨p,us,e,q,s _ _ l,z,aG.mono (fL s) r⟩
 | .dT ks vs,_,_,_,s,h=>by
  unfold Rp at h ⊢;obtain⟨p,us,e,q,l,z,r⟩:=h;exact⟨p,us,e,q,s _ _ l,z,aG.mono (fL s) r⟩
theorem aG.mono{n:Bool}:∀{xs:List PV}{H H' :Hp}{us:List V},aB H H' ->aG K Hi n xs H us->aG K Hi n xs H' us
 | [],_,_,_,_,h=>by unfold aG at h ⊢;exact h
 | x::xs,_,_,_,s,h=>by
  unfold aG at h ⊢;obtain⟨u,r,e,a,b⟩:=h;exact⟨u,r,e,Rp.mono s a,aG.mono s b⟩
end
mutual
theorem Rp.weak{n:Bool}:∀{v:PV}{H:Hp}{u:V},Rp K Hi n v H u->Rp K Hi false v H u
 | .non,_,_,h=>by unfold Rp at h ⊢;exact h
 | .bl _,_,_,h=>by unfold Rp at h ⊢;exact h
 | .int _,_,_,h=>by unfold Rp at h ⊢;exact h
 | .str _,_,_,h=>by unfold Rp at h ⊢;exact h
 | .lst xs,_,_,h=>by
  unfold Rp at h ⊢;obtain⟨p,us,e,q,l,r⟩:=h;exact⟨p,us,e,(fun z=>absurd z JS),l,aG.weak r⟩
 | .tup xs,_,_,h=>by
  unfold Rp at h ⊢;obtain⟨p,us,e,l,r⟩:=h;exact⟨p,us,e,l,aG.weak r⟩
 | .dK ks vs,_,_,h=>by
  unfold Rp at h ⊢;obtain⟨p,us,e,q,l,z,r⟩:=h;exact⟨p,us,e,(fun z=>absurd z JS),l,z,aG.weak r⟩
 | .dT ks vs,_,_,h=>by
  unfold Rp at h ⊢;obtain⟨p,us,e,q,l,z,r⟩:=h;exact⟨p,us,e,(fun z=>absurd z JS),l,z,aG.weak r⟩
theorem aG.weak{n:Bool}:∀{xs:List PV}{H:Hp}{us:List V},aG K Hi n xs H us->aG K Hi false xs H us
 | [],_,_,h=>by unfold aG at h ⊢;exact h
 | x::xs,_,_,h=>by
  unfold aG at h ⊢;obtain⟨u,r,e,a,b⟩:=h;exact⟨u,r,e,Rp.weak a,aG.weak b⟩
end
theorem Rp.low(h:Rp K Hi n v H u)(e:m=true->n=true):Rp K Hi m v H u:=by
 cases n with
 |true=>cases m with
  |true=>exact h|false=>exact h.weak
 |false=>cases m with
  |true=>cases e rfl|false=>exact h
theorem aG.low(h:aG K Hi n v H u)(e:m=true->n=true):aG K Hi m v H u:=by
 cases n with
 |true=>cases m with
  |true=>exact h|false=>exact h.weak
 |false=>cases m with
  |true=>cases e rfl|false=>exact h
mutual
theorem Rp.entry{Hj:Hp}{n:Bool}(k:n=true->∀p,Hi p=none->Hj p=none):∀{v:PV}{H:Hp}{u:V},Rp K Hi n v H u->Rp K Hj n v H u
 | .non,_,_,h=>by unfold Rp at h ⊢;exact h
 | .bl _,_,_,h=>by unfold Rp at h ⊢;exact h
 | .int _,_,_,h=>by unfold Rp at h ⊢;exact h
 | .str _,_,_,h=>by unfold Rp at h ⊢;exact h
 | .lst xs,_,_,h=>by
  unfold Rp at h ⊢;obtain⟨p,us,e,q,l,r⟩:=h;exact⟨p,us,e,fun z=>⟨k z _ (q z).1,(q z).2⟩,l,aG.entry k r⟩
 | .tup xs,_,_,h=>by
  unfold Rp at h ⊢;obtain⟨p,us,e,l,r⟩:=h;exact⟨p,us,e,l,aG.entry k r⟩
 | .dK ks vs,_,_,h=>by
  unfold Rp at h ⊢;obtain⟨p,us,e,q,l,z,r⟩:=h;exact⟨p,us,e,fun z=>k z _ (q z),l,z,aG.entry k r⟩
 | .dT ks vs,_,_,h=>by
  unfold Rp at h ⊢;obtain⟨p,us,e,q,l,z,r⟩:=h;exact⟨p,us,e,fun z=>k z _ (q z),l,z,aG.entry k r⟩
theorem aG.entry{Hj:Hp}{n:Bool}(k:n=true->∀p,Hi p=none->Hj p=none):∀{xs:List PV}{H:Hp}{us:List V},aG K Hi n xs H us->aG K Hj n xs H us
 | [],_,_,h=>by unfold aG at h ⊢;exact h
 | x::xs,_,_,h=>by
  unfold aG at h ⊢;obtain⟨u,r,e,a,b⟩:=h;exact⟨u,r,e,Rp.entry k a,aG.entry k b⟩
end
noncomputable def sg(H G:Hp):Prop:=(∀b a,H b=some (.tup a)->G b=some (.tup a))/\∀b o a,H b=some (.frz o (.tup a))->G b=some (.frz o (.tup a))
theorem sg.at{H G:Hp}(t:sg H G){p:Addr}{xs:List V}(h:cA K H p xs):cA K G p xs:=by
 rcases h with(h|⟨o,h⟩)|h
 ·exact .inl (.inl (t.1 _ _ h))
 ·exact .inl (.inr ⟨o,t.2 _ _ _ h⟩)
 ·exact .inr h
mutual
theorem Rp.imm{n m:Bool}:∀{v:PV}{H G:Hp}{u:V},imm v=true->sg H G->Rp K Hi n v H u->Rp K Hi m v G u
 | .non,_,_,_,_,_,h=>by unfold Rp at h ⊢;exact h
 | .bl _,_,_,_,_,_,h=>by unfold Rp at h ⊢;exact h
 | .int _,_,_,_,_,_,h=>by unfold Rp at h ⊢;exact h
 | .str _,_,_,_,_,_,h=>by unfold Rp at h ⊢;exact h
 | .lst xs,_,_,_,i,_,h=>by unfold IR.imm at i;cases i
 | .tup xs,_,_,_,i,t,h=>by
  unfold Rp at h ⊢;unfold IR.imm at i;obtain⟨p,us,e,l,r⟩:=h;exact⟨p,us,e,t.at l,aG.imm i t r⟩
 | .dK ks vs,_,_,_,i,_,h=>by unfold IR.imm at i;cases i
 | .dT ks vs,_,_,_,i,_,h=>by unfold IR.imm at i;cases i
theorem aG.imm{n m:Bool}:∀{xs:List PV}{H G:Hp}{us:List V},imms xs=true->sg H G->aG K Hi n xs H us->aG K Hi m xs G us
 | [],_,_,_,_,_,h=>by unfold aG at h ⊢;exact h
 | x::xs,_,_,_,i,t,h=>by
  unfold aG at h ⊢;unfold imms at i;rw[JJ]at i;obtain⟨u,r,e,a,b⟩:=h;exact⟨u,r,e,Rp.imm i.1 t a,aG.imm i.2 t b⟩
end
theorem Rp.up(h:Rp K Hi n v H u):Rp K Hi (n||IR.imm v) v H u:=by
 cases e:IR.imm v with
 |true=>rw[Bool.or_true];exact Rp.imm e ⟨λ_ _ e=>e,λ_ _ _ e=>e⟩ h|false=>rw[Bool.or_false];exact h
theorem aG.up(h:aG K Hi n v H u):aG K Hi (n||IR.imms v) v H u:=by
 cases e:IR.imms v with
 |true=>rw[Bool.or_true];exact aG.imm e ⟨λ_ _ e=>e,λ_ _ _ e=>e⟩ h|false=>rw[Bool.or_false];exact h
theorem aG.len{n:Bool}:∀{c:List PV}{H:Hp}{us:List V},aG K Hi n c H us->c.length=us.length
 |[],_,_,h=>by unfold aG at h;rw[h];rfl|x::c,_,_,h=>by unfold aG at h;obtain⟨u,r,e,a,b⟩:=h;rw[e,JY,JY,aG.len b]
theorem aG.at{n:Bool}:∀{c:List PV}{H:Hp}{us:List V}{i:Nat}{x:PV},aG K Hi n c H us->c[i]? =some x->∃u,us[i]? =some u/\Rp K Hi n x H u
 |[],_,_,_,_,h,e=>by simp at e|y::c,_,_,i,x,h,e=>by
  unfold aG at h;obtain⟨u,r,rfl,a,b⟩:=h;cases i with
  |zero=>simp at e;subst e;exact⟨u,by simp,a⟩|succ i=>simpa using aG.at (i:=i) (x:=x) b (by simpa using e)
theorem aG.at'{n:Bool}:∀{c:List PV}{H:Hp}{us:List V}{i:Nat}{u:V},aG K Hi n c H us->us[i]? =some u->∃x,c[i]? =some x/\Rp K Hi n x H u
 |[],_,_,_,_,h,e=>by unfold aG at h;subst h;simp at e|y::c,_,_,i,x,h,e=>by
  unfold aG at h;obtain⟨u,r,rfl,a,b⟩:=h;cases i with
  |zero=>simp at e;subst e;exact⟨y,by simp,a⟩|succ i=>simpa using aG.at' (i:=i) (u:=x) b (by simpa using e)
theorem aG.nil:aG K Hi n [] H []:=by unfold aG;rfl
theorem aG.cons{n:Bool}{x:PV}{c:List PV}{H:Hp}{u:V}{us:List V}(a:Rp K Hi n x H u)(b:aG K Hi n c H us):aG K Hi n (x::c) H (u::us):=by unfold aG;exact⟨u,us,rfl,a,b⟩
theorem aG.app{n:Bool}:∀{c d:List PV}{H:Hp}{us e:List V},aG K Hi n c H us->aG K Hi n d H e->aG K Hi n (c++d) H (us++e)
 |[],_,_,_,_,h,g=>by unfold aG at h;subst h;exact g|x::c,_,_,_,_,h,g=>by unfold aG at h;obtain⟨u,r,rfl,a,b⟩:=h;exact .cons a (aG.app b g)
theorem aG.take{n:Bool}:∀{c:List PV}{H:Hp}{us:List V}(k:Nat),aG K Hi n c H us->aG K Hi n (c.take k) H (us.take k)
 |[],_,_,_,h=>by unfold aG at h;subst h;simp;exact .nil|x::c,_,_,k,h=>by
  unfold aG at h;obtain⟨u,r,rfl,a,b⟩:=h;cases k with
  |zero=>exact .nil|succ k=>exact .cons a (aG.take k b)
theorem aG.drop{n:Bool}:∀{c:List PV}{H:Hp}{us:List V}(k:Nat),aG K Hi n c H us->aG K Hi n (c.drop k) H (us.drop k)
 |[],_,_,_,h=>by unfold aG at h;subst h;simp;exact .nil|x::c,_,_,k,h=>by
  unfold aG at h;obtain⟨u,r,rfl,a,b⟩:=h;cases k with
  |zero=>exact .cons a b|succ k=>exact aG.drop k b
theorem aG.set{n:Bool}:∀{c:List PV}{H:Hp}{us:List V}(k:Nat){x:PV}{u:V},aG K Hi n c H us->Rp K Hi n x H u->aG K Hi n (c.set k x) H (us.set k u)
 |[],_,_,_,_,_,h,_=>by unfold aG at h;subst h;exact .nil|y::c,_,_,k,_,_,h,g=>by
  unfold aG at h;obtain⟨u,r,rfl,a,b⟩:=h;cases k with
  |zero=>exact .cons g b|succ k=>exact .cons a (aG.set k b g)
theorem Rp.int:Rp K Hi n (.int i) H u↔u=.int i:=by unfold Rp;rfl
theorem Rp.str:Rp K Hi n (.str i) H u↔u=.str i:=by unfold Rp;rfl
theorem Rp.bl:Rp K Hi n (.bl i) H u↔u=.bl i:=by unfold Rp;rfl
theorem Rp.non:Rp K Hi n .non H u↔u=.non:=by unfold Rp;rfl
theorem Rp.tup{n:Bool}{a:List PV}{H:Hp}{u:V}:Rp K Hi n (.tup a) H u↔∃p us,u=.ref p/\cA K H p us/\aG K Hi n a H us:=by rw[Rp]
theorem Rp.lst{n:Bool}{a:List PV}{H:Hp}{u:V}:Rp K Hi n (.lst a) H u↔∃p us,u=.ref p/\(n=true->Hi p=none/\H p=some (.lst us))/\bJ K H p us/\aG K Hi n a (del H p) us:=by rw[Rp]
theorem aG.ints{n:Bool}{H:Hp}:∀{c:List Int}{us:List V},aG K Hi n (c.map PV.int) H us↔us=c.map V.int
 |[],us=>by unfold aG;rfl|x::c,us=>by
  rw[JR,JR,aG]
  constructor
  ·rintro⟨u,r,rfl,a,b⟩
   rw[Rp.int.mp a,aG.ints.mp b]
  ·rintro rfl
   exact⟨_,_,rfl,Rp.int.mpr rfl,aG.ints.mpr rfl⟩
noncomputable def At:Bd->List V->HO->Prop
 | .lst,us,o=>o=.lst us| .dK ks,us,o=>o=.dK (ks.zip us)/\ks.length=us.length| .dT ks,us,o=>o=.dT (ks.zip us)/\ks.length=us.length
noncomputable def Mo(o:HO):Prop:=∃b us,At b us o
theorem Mo.lst{us:List V}:Mo (.lst us):=⟨.lst,us,rfl⟩
theorem Mo.tup{c:List V}(h:Mo (.tup c)):False:=by
 obtain⟨b,us,h⟩:=h;cases b with
 |lst=>cases h|dK a=>cases h.1|dT a=>cases h.1
variable(K Hi)in
structure aT(O:List Addr)(τ:En)(σ:L2.St)(H:Hp):Prop where
 same:aB Hi H
 own:∀l∈O,Hi l=none/\∃o,H l=some o/\Mo o
 frz:∀(i:Nat)(v:PV)(n:Bool),τ[i]? =some (.frz v n)->∃u,σ[i]? =some (some u)/\Rp K Hi n v (aK H O) u
 obs:∀(i:Nat)(t:TV)(b:Bd)(xs:List PV)(n:Bool),τ[i]? =some t->t.ob=some (b,xs,n)->∃l us o,σ[i]? =some (some (.ref l))/\l∈O/\H l=some o/\At b us o/\aG K Hi n xs (aK H O) us
 dst:∀(i j:Nat)(t t' :TV)(x y:Bd×List PV×Bool)(l:Addr),τ[i]? =some t->t.ob=some x->τ[j]? =some t' ->t'.ob=some y->σ[i]? =some (some (.ref l))->σ[j]? =some (some (.ref l))->i=j
section
variable{O:List Addr}{τ:En}{σ:L2.St}{H H' :Hp}
theorem aT.owns(R:aT K Hi O τ σ H)(i:Nat)(a:List PV)(n:Bool)(e:τ[i]? =some (.own a n)):∃l us,σ[i]? =some (some (.ref l))/\l∈O/\H l=some (.lst us)/\aG K Hi n a (aK H O) us:=by obtain⟨l,us,o,b,d,c,g,f⟩:=R.obs i _ .lst a n e rfl;cases g;exact⟨l,us,b,d,c,f⟩
theorem aT.ext(R:aT K Hi O τ σ H)(s:aB H H'):aT K Hi O τ σ H' where
 same:=R.same.trans s
 own:=λl hl=>⟨(R.own l hl).1,by obtain⟨o,e,m⟩:=(R.own l hl).2;exact⟨o,s _ _ e,m⟩⟩
 frz:=λi v n e=>by obtain⟨u,a,c⟩:=R.frz i v n e;exact⟨u,a,c.mono (aD s)⟩
 obs:=λi t b xs n e ht=>by obtain⟨l,us,o,a,c,d,g,f⟩:=R.obs i t b xs n e ht;exact⟨l,us,o,a,c,s _ _ d,g,f.mono (aD s)⟩
 dst:=R.dst
theorem aT.tups(R:aT K Hi O τ σ H):sg H (aK H O):=by
 refine⟨λb xs e=> ?_,λb o xs e=> ?_⟩
 ·unfold aK
  rw[JE λz=> ?_]
  ·exact e
  ·obtain⟨us,a,m⟩:=(R.own b z).2
   rw[e]at a;cases a;exact m.tup
 ·unfold aK
  rw[JE λz=> ?_]
  ·exact e
  ·obtain⟨us,a,m⟩:=(R.own b z).2
   rw[e]at a;cases a;obtain⟨b,us,m⟩:=m;cases b with
   |lst=>cases m|dK c=>cases m.1|dT c=>cases m.1
theorem ah{a:Type}{l:List a}{i j:Nat}{x y:a}(h:(l.set i x)[j]? =some y):(i=j/\y=x)\/(i≠j/\l[j]? =some y):=by
 rw[LG]at h
 split at h
 ·rename_i e
  split at h;exact .inl ⟨e,(Jb h).symm⟩;cases h
 ·rename_i e
  exact .inr ⟨e,h⟩
theorem aT.setF(R:aT K Hi O τ σ H){i:Nat}{v:PV}{n:Bool}{u:V}(p:i<σ.length)(r:Rp K Hi n v (aK H O) u):aT K Hi O (τ.set i (.frz v n)) (σ.set i (some u)) H where
 same:=R.same
 own:=R.own
 frz:=λj w m e=>by
  rcases ah e with⟨rfl,c⟩|⟨g,c⟩
  ·cases c
   exact⟨u,by rw[KZ p],r⟩
  ·obtain⟨A,f,d⟩:=R.frz j w m c
   exact⟨A,by rw[Jj g];exact f,d⟩
 obs:=λj t b xs m e ht=>by
  rcases ah e with⟨rfl,c⟩|⟨g,c⟩
  ·subst c
   cases ht
  ·obtain⟨l,us,o,f,d⟩:=R.obs j t b xs m c ht
   exact⟨l,us,o,by rw[Jj g];exact f,d⟩
 dst:=λa b t t' x y l e1 ht e2 ht' f d=>by
  rcases ah e1 with⟨_,z⟩|⟨k,s⟩
  ·subst z
   cases ht
  ·rcases ah e2 with⟨_,z⟩|⟨h,q⟩
   ·subst z
    cases ht'
   ·rw[Jj k]at f
    rw[Jj h]at d;exact R.dst a b t t' x y l s ht q ht' f d
theorem aT.setB(R:aT K Hi O τ σ H)(k:N.ob=some (b0,M,n))(C:i<σ.length)(s:aB H H')(E:H p=none)(I:H' p=some o)(L:At b0 us o)(r:aG K Hi n M (aK H' (p::O)) us) :
  aT K Hi (p::O) (τ.set i N) (σ.set i (some (.ref p))) H' :=by
 have P:aB (aK H O) (aK H' (p::O)):=λb o e=>by
  unfold aK at e ⊢
  split at e;cases e
  ·rename_i Z
   have v:b≠p:=aI e E;rw[JE (by simp[v,Z])];exact s b o e
 have hn:Hi p=none:=R.same.free E;refine⟨R.same.trans s,λl F=> ?_,λj w m e=> ?_,λj t b ys m e ht=> ?_,λa b t t' x y l e1 ht e2 ht' f d=> ?_⟩
 ·rcases JU.mp F with rfl|F
  ·exact⟨hn,o,I,_,_,L⟩
  ·obtain⟨q,A,e,m⟩:=R.own l F
   exact⟨q,A,s _ _ e,m⟩
 ·rcases ah e with⟨rfl,u⟩|⟨v,u⟩
  ·rw[<- u]at k
   cases k
  ·obtain⟨Y,f,d⟩:=R.frz j w m u
   exact⟨Y,by rw[Jj v];exact f,d.mono P⟩
 ·rcases ah e with⟨rfl,u⟩|⟨v,u⟩
  ·subst u
   rw[k]at ht;cases ht;exact⟨p,us,o,by rw[KZ C],JL,I,L,r⟩
  ·obtain⟨l,A,J,f,d,T,S,X⟩:=R.obs j t b ys m u ht
   exact⟨l,A,J,by rw[Jj v];exact f,JF _ d,s _ _ T,S,X.mono P⟩
 ·have z:∀(c:Nat)(t:TV)(x:Bd×List PV×Bool),τ[c]? =some t->t.ob=some x->σ[c]? =some (some (.ref l))->l≠p:=λc t x e ht g=>by
   obtain⟨U,Q,q⟩:=x;obtain⟨l',A,J,q1,q2,W,_⟩:=R.obs c t U Q q e ht;rw[q1]at g;cases g;exact aI W E
  rcases ah e1 with⟨rfl,D⟩|⟨G,D⟩
  ·rw[KZ C]at f
   cases f
   rcases ah e2 with⟨rfl,_⟩|⟨h,B⟩
   ·rfl
   ·rw[Jj h]at d
    exact absurd rfl (z b t' y B ht' d)
  ·rw[Jj G]at f
   rcases ah e2 with⟨rfl,B⟩|⟨h,B⟩
   ·rw[KZ C]at d
    cases d;exact absurd rfl (z a t x D ht f)
   ·rw[Jj h]at d
    exact R.dst a b t t' x y l D ht B ht' f d
theorem aT.setO(R:aT K Hi O τ σ H)(d:i<σ.length)(s:aB H H')(b:H p=none)(c:H' p=some (.lst us))(r:aG K Hi n a (aK H' (p::O)) us) :
  aT K Hi (p::O) (τ.set i (.own a n)) (σ.set i (some (.ref p))) H' :=R.setB (b0:=.lst) rfl d s b c rfl r
theorem aT.updB(R:aT K Hi O τ σ H)(e:τ[i]? =some t)(u:t.ob=some (b,J,n))(p:t1.ob=some (b1,E,m))(B:σ[i]? =some (some (.ref l)))(I:At b1 us o)(r:aG K Hi m E (aK H O) us) :
  aT K Hi O (τ.set i t1) σ (L2.upd H l o):=by
 obtain⟨l',vs,o',F,A,g3,g4,g5⟩:=R.obs i t b J n e u;rw[B]at F;cases F;have G:aK (L2.upd H l o) O=aK H O:=by
  funext b
  unfold aK
  split;rfl
  ·rename_i U
   exact aA λz=>U (z▸A)
 have W:=(R.own l A).1;have hi:i<τ.length:=(JK.mp e).1;refine⟨λb o q=> ?_,λk hk=> ?_,λj w q z=> ?_,λj f b2 zs q z ht2=> ?_,λa b f s x y c e1 h2 e2 h3 k1 k2=> ?_⟩
 ·rw[aA (aI q W)]
  exact R.same b o q
 ·obtain⟨q,v,z,M⟩:=R.own k hk
  refine⟨q,?_⟩
  by_cases c:k=l
  ·subst c
   exact⟨o,aF,_,_,I⟩
  ·exact⟨v,by rw[aA c];exact z,M⟩
 ·rw[G]
  rcases ah z with⟨rfl,d⟩|⟨D,d⟩
  ·rw[<- d]at p
   cases p
  ·exact R.frz j w q d
 ·rw[G]
  rcases ah z with⟨rfl,d⟩|⟨D,d⟩
  ·subst d
   rw[p]at ht2;cases ht2;exact⟨l,us,o,B,A,aF,I,r⟩
  ·obtain⟨C,v,o2,L,Y,Q,X,Z⟩:=R.obs j f b2 zs q d ht2
   refine⟨C,v,o2,L,Y,?_,X,Z⟩;rw[aA λc=> ?_]
   ·exact Q
   ·subst c
    exact D (R.dst i j t f _ _ C e u d ht2 B L)
 ·have g:∀(c:Nat)(f:TV)(x:Bd×List PV×Bool),(τ.set i t1)[c]? =some f->f.ob=some x->∃(s:TV)(y:Bd×List PV×Bool),τ[c]? =some s/\s.ob=some y:=λc f x z h=>by
   rcases ah z with⟨rfl,_⟩|⟨_,d⟩
   ·exact⟨_,_,e,u⟩
   ·exact⟨_,_,d,h⟩
  obtain⟨_,_,S,N⟩:=g a f x e1 h2;obtain⟨_,_,P,T⟩:=g b s y e2 h3;exact R.dst a b _ _ _ _ c S N P T k1 k2
theorem aT.upd(R:aT K Hi O τ σ H)(e:τ[i]? =some (.own b n))(c:σ[i]? =some (some (.ref l)))(r:aG K Hi m a (aK H O) us) :
  aT K Hi O (τ.set i (.own a m)) σ (L2.upd H l (.lst us)):=R.updB (b1:=.lst) e rfl rfl c rfl r
theorem Rp.at{n:Bool}{b:Bd}{xs:List PV}{us:List V}{o:HO}{l:Addr}{G:Hp}(hn:n=true->Hi l=none)(h:G l=some o)(ha:At b us o)(r:aG K Hi n xs (del G l) us):Rp K Hi n (b.pv xs) G (.ref l):=by
 cases b with
 | lst=>cases ha;exact Rp.lst.mpr ⟨l,us,rfl,fun z=>⟨hn z,h⟩,bJ.of h,r⟩
 | dK ks =>
  obtain⟨rfl,hl⟩:=ha;show Rp K Hi n (.dK ks xs) G (.ref l);unfold Rp;exact⟨l,us,rfl,hn,h,hl,r⟩
 | dT ks =>
  obtain⟨rfl,hl⟩:=ha;show Rp K Hi n (.dT ks xs) G (.ref l);unfold Rp;exact⟨l,us,rfl,hn,h,hl,r⟩
theorem aT.freezeB(R:aT K Hi O τ σ H)(e:τ[i]? =some t)(s:t.ob=some (p,q,n)):∃A,aT K Hi A (τ.set i (.frz (p.pv q) n)) σ H/\∀b∈A,b∈O:=by
 obtain⟨l,us,o,B,v,F,E,N⟩:=R.obs i t p q n e s;refine⟨O.filter λb=>decide (b≠l),?_,λb hb=>(J7.mp hb).1⟩;have d:∀b,b∈O.filter (λb=>decide (b≠l))↔b∈O/\b≠l:=λb=>by simp
 have D:aB (aK H O) (aK H (O.filter λb=>decide (b≠l))):=nL λb hb=>((d b).mp hb).1;have J:aB (aK H O) (del (aK H (O.filter λb=>decide (b≠l))) l):=λb o z=>by
  unfold aK at z
  split at z;cases z
  ·rename_i C
   have g:b≠l:=λc=>C (c▸v);unfold del aK;rw[JE g,JE λc=>C ((d b).mp c).1];exact z
 have Q:aK H (O.filter λb=>decide (b≠l)) l=some o:=by unfold aK;rw[JE λc=>((d l).mp c).2 rfl];exact F
 refine⟨R.same,λb hb=>R.own b ((d b).mp hb).1,λj w m z=> ?_,λj t2 b2 ys m z ht2=> ?_,λa b t2 t3 x y c e1 h2 e2 h3 k1 k2=> ?_⟩
 ·rcases ah z with⟨rfl,f⟩|⟨g,f⟩
  ·cases f
   exact⟨.ref l,B,Rp.at (λ_=>(R.own l v).1) Q E (N.mono J)⟩
  ·obtain⟨u,h,r⟩:=R.frz j w m f
   exact⟨u,h,r.mono D⟩
 ·rcases ah z with⟨rfl,f⟩|⟨g,f⟩
  ·subst f
   cases ht2
  ·obtain⟨k,G,T,h,r,L,S,P⟩:=R.obs j t2 b2 ys m f ht2
   exact⟨k,G,T,h,(d k).mpr ⟨r,λc=>by subst c;exact g (R.dst i j _ _ _ _ k e s f ht2 B h)⟩,L,S,P.mono D⟩
 ·rcases ah e1 with⟨_,z⟩|⟨_,M⟩
  ·subst z
   cases h2
  ·rcases ah e2 with⟨_,z⟩|⟨_,I⟩
   ·subst z
    cases h3
   ·exact R.dst a b t2 t3 x y c M h2 I h3 k1 k2
theorem aT.freeze(R:aT K Hi O τ σ H)(i:Nat):∃a,aT K Hi a (nR τ i) σ H/\∀b∈a,b∈O:=by
 unfold nR;cases e:τ[i]? with
 |none=>exact⟨O,R,λb hb=>hb⟩|some t =>
  cases t with
  |un=>exact⟨O,R,λb hb=>hb⟩|frz v n=>exact⟨O,R,λb hb=>hb⟩|own c n=>exact R.freezeB e rfl|owd b c n=>exact R.freezeB e rfl
theorem aT.freezes:∀{cap:List Nat}{O:List Addr}{c:En},aT K Hi O c σ H->∃a,aT K Hi a (au cap c) σ H/\∀b∈a,b∈O
 |[],O,_,R=>⟨O,R,λb hb=>hb⟩|i::cap,_,_,R=>by obtain⟨a,e,g⟩:=R.freeze i;obtain⟨h,d,f⟩:=aT.freezes (cap:=cap) e;exact⟨h,d,λb hb=>g b (f b hb)⟩
variable(K Hi)in
noncomputable def aW(O:List Addr)(H a :Hp):RV->V->Prop
 | .frz v n,u=>Rp K Hi n v (aK a O) u| .bor v,u=>Rp K Hi false v a u| .own xs n,u=>∃p us,u=.ref p/\H p=none/\a p=some (.lst us)/\aG K Hi n xs (aK (del a p) O) us| .owd b xs n,u=>∃p us o,u=.ref p/\H p=none/\a p=some o/\At b us o/\aG K Hi n xs (aK (del a p) O) us
theorem aW.ext(h:aW K Hi O H H' r u)(s:aB H' f):aW K Hi O H f r u:=by
 cases r with
 |frz v n=>exact Rp.mono (aD s) h|bor v=>exact Rp.mono s h|own g n =>obtain⟨p,us,e,a,c,d⟩:=h;exact⟨p,us,e,a,s _ _ c,d.mono (aD (fL s))⟩
 |owd b g n =>obtain⟨p,us,o,e,a,c,i,d⟩:=h;exact⟨p,us,o,e,a,s _ _ c,i,d.mono (aD (fL s))⟩
theorem aW.back(h:aW K Hi O H H' r u)(s:aB f H):aW K Hi O f H' r u:=by
 cases r with
 |frz v n=>exact h|bor v=>exact h|own g n =>obtain⟨p,us,e,a,c,d⟩:=h;exact⟨p,us,e,s.free a,c,d⟩
 |owd b g n =>obtain⟨p,us,o,e,a,c,i,d⟩:=h;exact⟨p,us,o,e,s.free a,c,i,d⟩
theorem hU:aK (del H' p) O=del (aK H' O) p:=by
 funext b
 unfold aK del;dsimp only
 split<;>split<;>(try rfl)<;>simp_all
theorem aW.keep(R:aT K Hi O τ σ H)(h:aW K Hi O H H' r u)(s:aB H H')(e:r.keep=some (v,n)):Rp K Hi n v (aK H' O) u:=by
 cases r with
 |frz w m =>cases e;exact h
 |bor w =>
  have e:(if imm w then some (w,true)else none)=some (v,n):=e
  split at e
  ·rename_i i
   cases e;exact Rp.imm i (R.ext s).tups h
  ·cases e
 |own l m =>
  cases e;obtain⟨p,us,e,a,g,f⟩:=h;have d:aK H' O p=some (.lst us):=by
   unfold aK;rw[JE λz=> ?_]
   ·exact g
   ·obtain⟨j,c,_⟩:=(R.own p z).2
    rw[a]at c;cases c
  exact Rp.lst.mpr ⟨p,us,e,λ_=>⟨R.same.free a,d⟩,bJ.of d,by rw[<- hU];exact f⟩
 |owd b l m =>
  cases e;obtain⟨p,us,o,e,a,g,k,f⟩:=h;subst e;have d:aK H' O p=some o:=by
   unfold aK;rw[JE λz=> ?_]
   ·exact g
   ·obtain⟨j,c,_⟩:=(R.own p z).2
    rw[a]at c;cases c
  exact Rp.at (λ_=>R.same.free a) d k (by rw[<- hU];exact f)
theorem aW.val(R:aT K Hi O τ σ H)(h:aW K Hi O H H' r u)(s:aB H H'):Rp K Hi false r.val H' u:=by
 cases r with
 |frz w m=>exact(Rp.mono aO h).weak|bor w=>exact h|own a m=>exact(Rp.mono aO (h.keep R s rfl)).weak|owd b a m=>exact(Rp.mono aO (h.keep R s rfl)).weak
theorem aW.its(R:aT K Hi O τ σ H)(h:aW K Hi O H H' r u)(s:aB H H')(e:r.its=some (c,n)) :
  ∃p us,u=.ref p/\((bJ K H' p us/\∃a,r.val=.lst a)\/(cA K H' p us/\∃a,r.val=.tup a))/\aG K Hi n c (aK H' O) us:=by
 cases r with
 |frz w m =>
  cases w with
  |lst a =>cases e;obtain⟨p,us,e,_,l,r⟩:=Rp.lst.mp h;exact⟨p,us,e,.inl ⟨(aO (O:=O)).seq l,_,rfl⟩,r.mono bF⟩
  |tup a =>cases e;obtain⟨p,us,e,l,r⟩:=Rp.tup.mp h;exact⟨p,us,e,.inr ⟨(aO (O:=O)).tup l,_,rfl⟩,r⟩
  |_=>cases e
 |bor w =>
  cases w with
  |lst a =>
   have e:(if imms a then some (a,true)else none)=some (c,n):=e
   split at e
   ·rename_i i
    cases e;obtain⟨p,us,e,_,l,r⟩:=Rp.lst.mp h;exact⟨p,us,e,.inl ⟨l,_,rfl⟩,aG.imm i (R.ext s).tups (r.mono bF)⟩
   ·cases e
  |tup a =>
   have e:(if imms a then some (a,true)else none)=some (c,n):=e
   split at e
   ·rename_i i
    cases e;obtain⟨p,us,e,l,r⟩:=Rp.tup.mp h;exact⟨p,us,e,.inr ⟨l,_,rfl⟩,aG.imm i (R.ext s).tups r⟩
   ·cases e
  |_=>cases e
 |own a m =>cases e;obtain⟨p,us,e,g,f,d⟩:=h;exact⟨p,us,e,.inl ⟨bJ.of f,_,rfl⟩,d.mono (aD bF)⟩
 |owd b a m=>cases e
end
end
section
variable{K:W.Frag}{Hi:Hp}{κ:Type}[DecidableEq κ]
theorem jl{n:Bool}{G:Hp}{k:κ}:∀{c:List κ}{f:List PV}{us:List V},aG K Hi n f G us->c.length=us.length->(fg c f k=none->fB (c.zip us) k=none)/\∀e,fg c f k=some e->∃w,fB (c.zip us) k=some w/\Rp K Hi n e G w
 |[],f,us,r,d=>by refine⟨λ_=>rfl,λe h=> ?_⟩;unfold fg at h;cases h
 |k' ::c,[],us,r,d=>by unfold aG at r;subst r;cases d
 |k' ::c,v::f,us,r,d=>by
  unfold aG at r;obtain⟨u,j,rfl,a,b⟩:=r;have d:c.length=j.length:=by simpa using d
  obtain⟨g,i⟩:=jl (k:=k) b d;rw[Kp];unfold fg
  by_cases e:k' =k
  ·rw[JI e,gW (p:=(k',u)) e]
   exact⟨λz=>(by cases z),λx z=>⟨u,rfl,by cases z;exact a⟩⟩
  ·rw[JE e,gX (p:=(k',u)) e]
   exact⟨g,i⟩
theorem oX{b:Type}{k:κ}:∀{ks:List κ}{vs:List b},ks.length=vs.length->((fg ks vs k).isSome=true↔k∈ks)
 |[],vs,hl=>by unfold fg;simp|k' ::ks,[],hl=>by cases hl|k' ::ks,v::vs,hl=>by
  have a:=oX (k:=k) (ks:=ks) (vs:=vs) (by simpa using hl);unfold fg
  by_cases e:k' =k;rw[JI e];simp[e]
  ·rw[JE e,a,JU]
   exact⟨.inr,λh=>h.resolve_left λz=>e z.symm⟩
theorem nj{k:κ}:∀{ks:List κ}{us:List V},ks.length=us.length->(((ks.zip us).any λkv=>decide (kv.1=k))=true↔k∈ks)
 |[],us,hl=>by simp|k' ::ks,[],hl=>by cases hl|k' ::ks,u::us,hl=>by have a:=nj (k:=k) (ks:=ks) (us:=us) (by simpa using hl);rw[Kp,L0,KS,a,JU];simp[eq_comm]
theorem tU{k:κ}{y:V}:∀{ks:List κ}{us:List V},ks.length=us.length->(ks.zip us).map (λkv=>if kv.1=k then(kv.1,y)else kv)=ks.zip (kI ks us k y)/\(kI ks us k y).length=us.length
 |[],us,hl=>⟨by simp,by unfold kI;rfl⟩|k' ::ks,[],hl=>by cases hl|k' ::ks,u::us,hl=>by
  obtain⟨a,b⟩:=tU (k:=k) (y:=y) (ks:=ks) (us:=us) (by simpa using hl);unfold kI;refine⟨?_,by rw[JY,b,JY]⟩;rw[Kp,JR,Kp,a]
  by_cases e:k' =k<;>simp[e]
theorem BB{k:κ}(b:a.length=us.length):dS (a.zip us) k y=(gm a k).zip (putL a us k y)/\(gm a k).length=(putL a us k y).length:=by
 unfold dS gm putL
 by_cases e:k∈a
 ·rw[JI ((nj b).mpr e),JI e,JI e]
  obtain⟨c,d⟩:=tU (k:=k) (y:=y) b;exact⟨c,by rw[d];exact b⟩
 ·rw[JE λz=>e ((nj b).mp z),JE e,JE e,List.zip_append b]
  exact⟨rfl,by simp[b]⟩
theorem rL{n:Bool}{G:Hp}{k:κ}{v:PV}{u:V}(f:Rp K Hi n v G u):∀{c:List κ}{d:List PV}{us:List V},aG K Hi n d G us->aG K Hi n (kI c d k v) G (kI c us k u)
 |[],d,us,r=>by unfold kI;exact r|k' ::c,[],us,r=>by unfold aG at r;subst r;unfold kI;exact .nil
 |k' ::c,x::d,us,r=>by
  unfold aG at r;obtain⟨w,g,rfl,a,b⟩:=r;unfold kI
  by_cases e:k' =k;rw[JI e,JI e];exact .cons f (rL f b);rw[JE e,JE e];exact .cons a (rL f b)
theorem D9{n:Bool}{G:Hp}{k:κ}{v:PV}{u:V}{a:List κ}{b:List PV}{us:List V}(c:Rp K Hi n v G u)(r:aG K Hi n b G us):aG K Hi n (putL a b k v) G (putL a us k u):=by
 unfold putL
 split;exact rL c r;exact r.app (.cons c .nil)
theorem B8{ks:List κ}{vs:List PV}{us:List V}{n:Bool}{G:Hp}{k:κ}(r:aG K Hi n vs G us)(hl:ks.length=us.length):(fB (ks.zip us) k).isSome=B9 ks k:=by
 obtain⟨h1,h2⟩:=jl (k:=k) r hl;have h3:=oX (k:=k) (ks:=ks) (vs:=vs) (by rw[r.len];exact hl);unfold B9;cases e:fg ks vs k with
 | none =>
  rw[h1 e,J2 fun z=>by rw[<- h3,e]at z;cases z];rfl
 | some x =>
  obtain⟨w,hw,_⟩:=h2 x e;rw[hw,K2 (h3.mp (by rw[e];rfl))];rfl
end
end IR
namespace IR
open PySem
structure Ct where
 N:List Str
 S:List (Str×NameKind)
 F:List (Str×Nat)
 G:List (Str×PV)
 B:List Str
 M:List Nat
noncomputable def slot:List Str->Str->Option Nat
 |[],_=>none|y::ys,x=>if y==x then some 0 else(slot ys x).map (·+1)
theorem fU:∀{N:List Str}{x:Str}{i:Nat},slot N x=some i->N[i]? =some x
 |[],_,_,h=>by cases h|y::ys,x,i,h=>by
  unfold slot at h
  split at h
  ·rename_i e
   cases h;simp[Jq e]
  ·cases e:slot ys x with
   |none=>rw[e]at h;cases h|some j =>
    rw[e]at h;cases h
    simpa using fU e
noncomputable def Gf(S:List (Str×NameKind))(x:Str):Bool:=S.lookup x==some .local||S.lookup x==some .cell||S.lookup x==some .free
noncomputable def wU(x:Str):Bool:=x==("__debug__":Str)||x==("__classdict__":Str)||x==("__name__":Str)
noncomputable def mV(ct:Ct)(x:Str):IE :=
 if wU x then .never else if Gf ct.S x then(match slot ct.N x with
  |some i=>.var i|none=>.never)else if ct.S.lookup x==some .globalImplicit then(match ct.G.lookup x with
   |some v=>.con v|none=>.never)else .never
noncomputable def eF:Expr->Bool
 | .Set .. =>true|_=>false
noncomputable def bh:Expr->Bool
 | .Slice .. =>true|_=>false
noncomputable def isStar:Expr->Bool
 | .Starred .. =>true|_=>false
noncomputable def jC:Expr->Bool
 | .Name .. =>true| .Constant .. =>true|_=>false
noncomputable def mW:Const->IE
 | .int i=>.con (.int i)| .bool b=>.con (.bl b)| .str z=>.con (.str z)| .none=>.con .non|_=>.never
noncomputable def kx(c:BoolOp):List IE->IE
 |[]=>.never|[a]=>a|a::b::r=>match c with
  | .And=>.and a (kx c (b::r))| .Or=>.or a (kx c (b::r))
noncomputable def ku(c:BoolOp):List IC->IC
 |[]=>.val .never|[a]=>a|a::b::r=>match c with
  | .And=>.and a (ku c (b::r))| .Or=>.or a (ku c (b::r))
noncomputable def qW(x:Str)(k:Nat):Option Bf :=
 if x==("len":Str)&&k==1 then some .len else if x==("int":Str)&&k==1 then some .int else if x==("list":Str)&&k==1 then some .list else if x==("tuple":Str)&&k==1 then some .tuple
 else if x==("all":Str)&&k==1 then some .all else if x==("min":Str)&&k==2 then some .min else if x==("max":Str)&&k==2 then some .max else if x==("abs":Str)&&k==1 then some .abs
 else if x==("any":Str)&&k==1 then some .any else if x==("sum":Str)&&k==1 then some .sum else if x==("sorted":Str)&&k==1 then some .sorted else none
noncomputable def qX(x:Str)(k:Nat):Option Bf:=qW x k
noncomputable def wp(x:Str):Option String :=
 if x==("int":Str)then some "int" else if x==("bool":Str)then some "bool" else if x==("str":Str)then some "str" else if x==("list":Str)then some "list" else if x==("tuple":Str)then some "tuple" else none
noncomputable def own(ct:Ct)(x:Str):Bool:=ct.B.contains x&&ct.S.lookup x==some .globalImplicit
noncomputable def nh:Expr->Option (Str×List Expr)
 | .Call (.Name x _) es [] _=>some (x,es)|_=>none
noncomputable def lr(S names:List (Str×NameKind)):List (Str×NameKind):=names.map λ(n,k)=>if(k== .free&&true&&S.lookup n==some .cell)then(n,.cell)else(n,k)
noncomputable def frees(scope:Scope):List Str:=(scope.names.filter λy=>y.2== .free).map (·.1)
noncomputable def slots(N:List Str):List Str->Option (List Nat)
 |[]=>some []|x::xs=>(slot N x).bind λi=>(slots N xs).map (i::·)
noncomputable def re(ct:Ct)(t:Str)(scope:Scope):Bool :=
 scope.kind== .function&&(scope.names.all λy=> !(y.2== .cell)||scope.names.lookup y.1==some .cell)&&(scope.names.all λy=> !(y.2== .local)||scope.names.lookup y.1==some .local) &&
 (scope.names.all λy=> !(y.2== .free)||(ct.S.lookup y.1==some .cell||ct.S.lookup y.1==some .free))&&decide (t::frees scope).Nodup&&(scope.names.lookup t==some .local||scope.names.lookup t==some .cell) &&
 (frees scope).all λx=>scope.names.lookup x==some .free
noncomputable def blk(ct:Ct)(t:Str)(scope:Scope):Ct:=⟨t::frees scope,lr ct.S scope.names,ct.F,ct.G,ct.B,[]⟩
noncomputable def l8(ct:Ct)(t a:Str)(scope:Scope):Bool :=
 scope.kind== .function&&(scope.names.all λy=> !(y.2== .cell)||scope.names.lookup y.1==some .cell)&&(scope.names.all λy=> !(y.2== .local)||scope.names.lookup y.1==some .local) &&
 (scope.names.all λy=> !(y.2== .free)||(ct.S.lookup y.1==some .cell||ct.S.lookup y.1==some .free))&&decide (t::a::frees scope).Nodup&&(scope.names.lookup t==some .local||scope.names.lookup t==some .cell)&&(scope.names.lookup a==some .local||scope.names.lookup a==some .cell) &&
 (frees scope).all λx=>scope.names.lookup x==some .free
noncomputable def blk2(ct:Ct)(t a:Str)(scope:Scope):Ct:=⟨t::a::frees scope,lr ct.S scope.names,ct.F,ct.G,ct.B,[]⟩
noncomputable def vV:List IE->AY
 |[]=>.nil|e::es=>.cons e (vV es)
noncomputable def pL:Expr->Option Str
 | .Name x _=>some x|_=>none
noncomputable def pM:Expr->Option (Str×Str)
 | .Tuple c _ _=>(match c with
  |[a,b]=>(pL a).bind λx=>(pL b).map λy=>(x,y)|_=>none)
 |_=>none
noncomputable def tH(a:List Comprehension):Option (Str×Str×Expr×List Expr):=match a with
 |[g]=>if g.is_async=0 then(pM g.target).map λw=>(w.1,w.2,g.iter,g.ifs)else none|_=>none
theorem pK(h:pL e=some x):∃p,e=.Name x p:=by
 unfold pL at h
 split at h;cases h;exact⟨_,rfl⟩;cases h
theorem Bc(h:((pL a).bind λx=>(pL b).map λy=>(x,y))=some q):∃p d,a=.Name q.1 p/\b=.Name q.2 d:=by
 cases c:pL a with
 |none=>rw[c]at h;cases h|some x =>
  cases e:pL b with
  |none=>rw[c,e]at h;cases h|some y =>rw[c,e]at h;cases h;obtain⟨p,rfl⟩:=pK c;obtain⟨d,rfl⟩:=pK e;exact⟨p,d,rfl,rfl⟩
theorem vS(h:pM e=some q):∃p a k b,e=.Tuple [.Name q.1 p,.Name q.2 a] k b:=by
 unfold pM at h
 split at h
 ·split at h
  ·obtain⟨p,a,rfl,rfl⟩:=Bc h
   exact⟨p,a,_,_,rfl⟩
  ·cases h
 ·cases h
theorem uo(h:tH e=some (t,g,a,b)):∃j i l f,e=[⟨.Tuple [.Name t j,.Name g i] l f,a,b,0⟩]:=by
 match e,h with
 |[],h=>cases h|_::_::_,h=>cases h|[⟨tg,it,fs,as⟩],h =>
  have c :(if as=0 then(pM tg).map λw=>(w.1,w.2,it,fs)else none)=some (t,g,a,b):=h
  split at c
  ·rename_i m
   subst m
   clear h
   cases d:pM tg with
   |none=>rw[d]at c;cases c|some w =>rw[d]at c;cases c;obtain⟨n,o,k,p,rfl⟩:=vS d;exact⟨_,_,_,_,rfl⟩
  ·cases c
mutual
noncomputable def aY:Nat->Ct->Expr->IE
 | 0,_,_=>.never
 | n+1,ct,e=>match e with
  | .Constant c _ _=>mW c
  | .Name x _=>mV ct x
  | .BinOp a op b _=>.bin op (aY n ct a) (aY n ct b)
  | .UnaryOp op a _=>match op with
   | .USub=>.neg (aY n ct a)
   | .Not=>.not (aY n ct a)
   | _=>.never
  | .Compare a ops cs _=>match ops,cs with
   | [op],[b]=>if eF b then .never else .cmp op (aY n ct a) (aY n ct b)
   | _,_=>.never
  | .BoolOp op vs _=>if vs.length<2 then .never else kx op (vs.map (aY n ct))
  | .IfExp c a b _=>.ite (lQ n ct c) (aY n ct a) (aY n ct b)
  | .List es _=>.lst (fi n ct es)
  | .Tuple es _ _=>.tup (fi n ct es)
  | .Dict ks vs _=>match ks,vs with
   | [],[]=>.dnew
   | [some (.Constant c _ _)],[v]=>match c with
    | .int i=>.dlit (.inl i) (aY n ct v)
    | .str z=>.dlit (.inr z) (aY n ct v)
    | _=>.never
   | _,_=>.never
  | .Subscript a i _=>match i with
   | .Slice lo hi st _=>match st with
    | none=>.sl (aY n ct a) (C6 n ct lo) (C6 n ct hi)
    | some _=>.never
   | i=>.ix (aY n ct a) (aY n ct i)
  | .Call f es ks cp=>match ks with
   | []=>match f with
    | .Name x _=>iw n ct x es
    | .Attribute o m ap=>if ap.endLine==cp.line then lm n ct o m es else .never
    | _=>.never
   | _=>.never
  | .ListComp elt gs scope _=>match gs with
   | [⟨.Name t _,iter,ifs,0⟩]=>if re ct t scope then(match slots ct.N (frees scope)with
    | some caps=>.lc (aY n (blk ct t scope) elt) (ur n ct false iter) (match ifs with
     | []=>.no
     | [c]=>.yes (lQ n (blk ct t scope) c)
     | _=>.yes (.val .never)) caps
    | none=>.never)else .never
   | gs=>(match tH gs with
    | some (t,t2,iter,ifs)=>if l8 ct t t2 scope then(match slots ct.N (frees scope)with
     | some caps=>.lc2 (aY n (blk2 ct t t2 scope) elt) (ur n ct true iter) (match ifs with
      | []=>.no
      | [c]=>.yes (lQ n (blk2 ct t t2 scope) c)
      | _=>.yes (.val .never)) caps
     | none=>.never)else .never
    | none=>.never)
  | _=>.never
noncomputable def fi:Nat->Ct->List Expr->AY
 | 0,_,_=>.cons .never .nil
 | n+1,ct,es=>vV (es.map fun e=>if isStar e then .never else aY n ct e)
noncomputable def C6:Nat->Ct->Option Expr->IO
 | 0,_,_=>.yes .never
 | n+1,ct,e=>match e with
  | none=>.no
  | some e=>.yes (aY n ct e)
noncomputable def lQ:Nat->Ct->Expr->IC
 | 0,_,_=>.val .never
 | n+1,ct,e=>match e with
  | .UnaryOp op a p=>match op with
   | .Not=>.not (lQ n ct a)
   | op=>.val (aY n ct (.UnaryOp op a p))
  | .BoolOp op vs _=>ku op (vs.map (lQ n ct))
  | .IfExp _ _ _ _=>.val .never
  | e=>.val (aY n ct e)
noncomputable def iw:Nat->Ct->Str->List Expr->IE
 | 0,_,_,_=>.never
 | n+1,ct,x,es=>if wU x then .never else if ct.S.lookup x==some .globalImplicit then(match ct.F.lookup x with
  | some f=>match es with
   | []=>.never
   | es=>.call f (fi n ct es)
  | none=>if ct.B.contains x then(if x==("isinstance":Str)then(match es with
    | [a,.Name t _]=>match wp t with
     | some ty=>if isStar a then .never else if own ct t then .bf (.isin ty) (.cons (aY n ct a) .nil)else .never
     | none=>.never
    | _=>.never)else match es with
     | [.Call (.Attribute o m ap) [] [] cp]=>if x==("sum":Str)&&m==("values":Str)&&jC o&&ap.endLine==cp.line then .bf .sumv (.cons (aY n ct o) .nil)else(match qX x es.length with
      | some f=>.bf f (fi n ct es)
      | none=>.never)
     | es=>match qX x es.length with
      | some f=>.bf f (fi n ct es)
      | none=>.never)else .never)else .never
noncomputable def lm:Nat->Ct->Expr->Str->List Expr->IE
 | 0,_,_,_,_=>.never
 | n+1,ct,o,m,es=>if jC o then(match es with
  | [a]=>if isStar a then .never else if m==("join":Str)then .mth .join (aY n ct o) (.cons (aY n ct a) .nil)else .never
  | _=>.never)else .never
noncomputable def ur:Nat->Ct->Bool->Expr->IT
 | 0,_,_,_=>.never
 | n+1,ct,tp,e=>if eF e then .never else match nh e with
  | some (x,es)=>if x==("range":Str)then(if own ct x then .rng (fi n ct es)else .never)else if x==("zip":Str)then(match es with
    | [a,b]=>if isStar a||isStar b|| !tp|| !own ct x then .never else .zip (aY n ct a) (aY n ct b)
    | _=>.never)else if x==("enumerate":Str)then(match es with
    | [a]=>if isStar a|| !tp|| !own ct x then .never else .enum (aY n ct a)
    | _=>.never)else .seq (aY n ct e)
  | none=>.seq (aY n ct e)
end
noncomputable def ji:Nat->Ct->Expr->List Nat
 |0,_,_=>[]|n+1,ct,e=>match e with
  | .Name x _=>(slot ct.N x).toList| .List c _=>c.flatMap (ji n ct)| .Tuple c _ _=>c.flatMap (ji n ct)| .IfExp _ a b _=>ji n ct a++ji n ct b|_=>[]
noncomputable def lf:Nat->Ct->Expr->List Nat
 |0,_,_=>[]|n+1,ct,e=>match e with
  | .Name x _=>(slot ct.N x).toList| .List c _=>c.flatMap (lf n ct)| .Tuple c _ _=>c.flatMap (lf n ct)| .BinOp a _ b _=>lf n ct a++lf n ct b| .IfExp _ a b _=>lf n ct a++lf n ct b| .Call (.Name x _) c _ _=>if x==("tuple":Str)||x==("list":Str)||x==("sorted":Str)then c.flatMap (lf n ct)else[]
  | .ListComp _ d _ _=>d.flatMap λg=>lf n ct g.iter|_=>[]
noncomputable def Ia(ct:Ct)(x:Str)(e:Expr):List Nat:=match e with
 | .BinOp (.Name y _) .Add (.List _ _) _=>(slot ct.N y).toList| .BinOp (.Name y _) .Add _ _=>if y==x then(slot ct.N x).toList else[]|_=>[]
noncomputable def Ib(n:Nat)(ct:Ct)(e:Expr):List Nat:=match nh e with
 |some (x,es)=>if x==("zip":Str)||x==("enumerate":Str)||x==("reversed":Str)then es.flatMap (ji n ct)else[]
 |none=>ji n ct e
noncomputable def loc(ct:Ct)(x:Str):Option Nat:=if(ct.S.lookup x==some .local||ct.S.lookup x==some .cell)&& !wU x then slot ct.N x else none
noncomputable def isComp:Expr->Bool
 | .ListComp .. =>true| .SetComp .. =>true| .DictComp .. =>true|_=>false
noncomputable def locs(ct:Ct):List Expr->Option (List Nat)
 |[]=>some []| .Name x _::es=>(loc ct x).bind λi=>(locs ct es).map (i::·)|_::_=>none
noncomputable def ww(ct:Ct):Expr->Option (List Nat×Bool)
 | .Name x _=>(loc ct x).map λi=>([i],true)| .Tuple a _ _=>(locs ct a).map λis=>(is,false)|_=>none
mutual
noncomputable def oh:Nat->Ct->Stmt->IS
 | 0,_,_=>.never
 | n+1,ct,s=>match s with
  | .Return v _=>match v with
   | some e=>.ret (lf n ct e) (aY n ct e)
   | none=>.retN
  | .Assign ts e _=>match ts with
   | [.Name x _]=>match loc ct x with
    | some i=>.asg i (ct.M.contains i) (Ia ct x e++ji n ct e) (aY n ct e)
    | none=>.never
   | [.Subscript (.Name x _) k _]=>match loc ct x with
    | some i=>if bh k||isComp e then .never else .seti i (ji n ct e) (aY n ct k) (aY n ct e)
    | none=>.never
   | _=>.never
  | .If c a b _=>.ife (lQ n ct c) (fh n ct a) (fh n ct b)
  | .For tg it body els _=>match els with
   | []=>match ww ct tg with
    | some (is,one)=>.forr is one (Ib n ct it) (ur n ct (!one) it) (fh n ct body)
    | none=>.never
   | _=>.never
  | .While c body els _=>match els with
   | []=>.whil (lQ n ct c) (fh n ct body)
   | _=>.never
  | .Pass _=>.pass
  | .Break _=>.brk
  | .Continue _=>.cont
  | .Expr e _=>match e with
   | .Call (.Attribute (.Name x _) m ap) es [] cp=>if ap.endLine==cp.line then(match loc ct x with
    | some i=>(match es with
     | [a]=>if isStar a then .never else if m==("append":Str)then .app i (ji n ct a) (aY n ct a)else if m==("extend":Str)then .ext i (aY n ct a)else .never
     | [a,b]=>if isStar a||isStar b then .never else if m==("insert":Str)then .ins i (aY n ct a) (aY n ct b)else .never
     | _=>.never)
    | none=>.never)else .never
   | _=>.never
  | .AugAssign t op e _=>match t with
   | .Subscript (.Name x _) k _=>match loc ct x with
    | some i=>if bh k then .never else .augS i op (aY n ct k) (aY n ct e)
    | none=>.never
   | _=>.never
  | _=>.never
noncomputable def fh:Nat->Ct->List Stmt->wW
 | 0,_,_=>.cons .never .nil
 | n+1,ct,ss=>match ss with
  | []=>.nil
  | s::ss=>.cons (oh n ct s) (fh n ct ss)
end
section
set_option autoImplicit true
set_option relaxedAutoImplicit true
variable{n:Nat}{ct:Ct}
theorem oR:aY 0 w0 w1=.never:=rfl
theorem oM:aY (n+1) ct (.Constant c w1 w2)=(mW c):=rfl
theorem oG:aY (n+1) ct (.Name x w1)=(mV ct x):=rfl
theorem oQ:aY (n+1) ct (.BinOp a op b w1)=(.bin op (aY n ct a) (aY n ct b)):=rfl
theorem oD:aY (n+1) ct (.UnaryOp op a w1)=(match op with
   | .USub=>.neg (aY n ct a)| .Not=>.not (aY n ct a)|_=>.never):=rfl
theorem oN:aY (n+1) ct (.Compare a ops cs w1)=(match ops,cs with
   |[op],[b]=>if eF b then .never else .cmp op (aY n ct a) (aY n ct b)|_,_=>.never):=rfl
theorem oP:aY (n+1) ct (.BoolOp op vs w1)=(if vs.length<2 then .never else kx op (vs.map (aY n ct))):=rfl
theorem oJ:aY (n+1) ct (.IfExp c a b w1)=(.ite (lQ n ct c) (aY n ct a) (aY n ct b)):=rfl
theorem oI:aY (n+1) ct (.List es w1)=(.lst (fi n ct es)):=rfl
theorem oE:aY (n+1) ct (.Tuple es w1 w2)=(.tup (fi n ct es)):=rfl
theorem oK:aY (n+1) ct (.Dict ks vs w1)=(match ks,vs with
   |[],[]=>.dnew|[some (.Constant c _ _)],[v]=>match c with
    | .int i=>.dlit (.inl i) (aY n ct v)| .str z=>.dlit (.inr z) (aY n ct v)|_=>.never
   |_,_=>.never):=rfl
theorem oF:aY (n+1) ct (.Subscript a i w1)=(match i with
   | .Slice c d b _=>match b with
    |none=>.sl (aY n ct a) (C6 n ct c) (C6 n ct d)|some _=>.never
   |i=>.ix (aY n ct a) (aY n ct i)):=rfl
theorem oO:aY (n+1) ct (.Call f es ks cp)=(match ks with
   |[]=>match f with
    | .Name x _=>iw n ct x es| .Attribute o m a=>if a.endLine==cp.line then lm n ct o m es else .never|_=>.never
   |_=>.never):=rfl
theorem oH:aY (n+1) ct (.ListComp elt gs scope w1)=(match gs with
   |[⟨.Name t _,iter,ifs,0⟩]=>if re ct t scope then(match slots ct.N (frees scope)with
    |some a=>.lc (aY n (blk ct t scope) elt) (ur n ct false iter) (match ifs with
     |[]=>.no|[c]=>.yes (lQ n (blk ct t scope) c)|_=>.yes (.val .never)) a
    |none=>.never)else .never
   |gs=>(match tH gs with
    |some (t,t2,iter,ifs)=>if l8 ct t t2 scope then(match slots ct.N (frees scope)with
     |some a=>.lc2 (aY n (blk2 ct t t2 scope) elt) (ur n ct true iter) (match ifs with
      |[]=>.no|[c]=>.yes (lQ n (blk2 ct t t2 scope) c)|_=>.yes (.val .never)) a
     |none=>.never)else .never
    |none=>.never)):=rfl
theorem z29:fi 0 w0 w1=.cons .never .nil:=rfl
theorem z2a:fi (n+1) ct es=(vV (es.map λe=>if isStar e then .never else aY n ct e)):=rfl
theorem z2d:C6 0 w0 w1=.yes .never:=rfl
theorem z2e:C6 (n+1) ct (none)=(.no):=rfl
theorem z2f:C6 (n+1) ct (some e)=(.yes (aY n ct e)):=rfl
theorem Ge:lQ 0 w0 w1=.val .never:=rfl
theorem Ga:lQ (n+1) ct (.UnaryOp op a p)=(match op with
   | .Not=>.not (lQ n ct a)|op=>.val (aY n ct (.UnaryOp op a p))):=rfl
theorem Gc:lQ (n+1) ct (.BoolOp op vs w1)=(ku op (vs.map (lQ n ct))):=rfl
theorem Gb:lQ (n+1) ct (.IfExp w1 w2 w3 w4)=(.val .never):=rfl
theorem z1p:iw 0 w0 w1 w2=.never:=rfl
theorem z1q:iw (n+1) ct x es=(if wU x then .never else if ct.S.lookup x==some .globalImplicit then(match ct.F.lookup x with
  |some f=>match es with
   |[]=>.never|es=>.call f (fi n ct es)
  |none=>if ct.B.contains x then(if x==("isinstance":Str)then(match es with
    |[a,.Name t _]=>match wp t with
     |some b=>if isStar a then .never else if own ct t then .bf (.isin b) (.cons (aY n ct a) .nil)else .never|none=>.never
    |_=>.never)else match es with
     |[.Call (.Attribute o m ap) [] [] cp]=>if x==("sum":Str)&&m==("values":Str)&&jC o&&ap.endLine==cp.line then .bf .sumv (.cons (aY n ct o) .nil)else(match qX x es.length with
      |some f=>.bf f (fi n ct es)|none=>.never)
     |es=>match qX x es.length with
      |some f=>.bf f (fi n ct es)|none=>.never)else .never)else .never):=rfl
theorem z2b:lm 0 w0 w1 w2 w3=.never:=rfl
theorem z2c:lm (n+1) ct o m es=(if jC o then(match es with
  |[a]=>if isStar a then .never else if m==("join":Str)then .mth .join (aY n ct o) (.cons (aY n ct a) .nil)else .never|_=>.never)else .never):=rfl
theorem z2u:ur 0 w0 w1 w2=.never:=rfl
theorem z2v:ur (n+1) ct tp e=(if eF e then .never else match nh e with
  |some (x,es)=>if x==("range":Str)then(if own ct x then .rng (fi n ct es)else .never)else if x==("zip":Str)then(match es with
    |[a,b]=>if isStar a||isStar b|| !tp|| !own ct x then .never else .zip (aY n ct a) (aY n ct b)
    |_=>.never)else if x==("enumerate":Str)then(match es with
    |[a]=>if isStar a|| !tp|| !own ct x then .never else .enum (aY n ct a)
    |_=>.never)else .seq (aY n ct e)
  |none=>.seq (aY n ct e)):=rfl
theorem wR:oh 0 w0 w1=.never:=rfl
theorem wI:oh (n+1) ct (.Return v w1)=(match v with
   |some e=>.ret (lf n ct e) (aY n ct e)|none=>.retN):=rfl
theorem wQ:oh (n+1) ct (.Assign ts e w1)=(match ts with
   |[.Name x _]=>match loc ct x with
    |some i=>.asg i (ct.M.contains i) (Ia ct x e++ji n ct e) (aY n ct e)|none=>.never
   |[.Subscript (.Name x _) k _]=>match loc ct x with
    |some i=>if bh k||isComp e then .never else .seti i (ji n ct e) (aY n ct k) (aY n ct e)
    |none=>.never
   |_=>.never):=rfl
theorem wK:oh (n+1) ct (.If c a b w1)=(.ife (lQ n ct c) (fh n ct a) (fh n ct b)):=rfl
theorem wL:oh (n+1) ct (.For tg it body els w1)=(match els with
   |[]=>match ww ct tg with
    |some (is,one)=>.forr is one (Ib n ct it) (ur n ct (!one) it) (fh n ct body)|none=>.never
   |_=>.never):=rfl
theorem wH:oh (n+1) ct (.While c body els w1)=(match els with
   |[]=>.whil (lQ n ct c) (fh n ct body)|_=>.never):=rfl
theorem wJ:oh (n+1) ct (.Pass w1)=(.pass):=rfl
theorem wO:oh (n+1) ct (.Break w1)=(.brk):=rfl
theorem wN:oh (n+1) ct (.Continue w1)=(.cont):=rfl
theorem wM:oh (n+1) ct (.Expr e w1)=(match e with
   | .Call (.Attribute (.Name x _) m ap) es [] cp=>if ap.endLine==cp.line then(match loc ct x with
    |some i=>(match es with
     |[a]=>if isStar a then .never else if m==("append":Str)then .app i (ji n ct a) (aY n ct a)else if m==("extend":Str)then .ext i (aY n ct a)else .never|[a,b]=>if isStar a||isStar b then .never else if m==("insert":Str)then .ins i (aY n ct a) (aY n ct b)else .never
     |_=>.never)
    |none=>.never)else .never
   |_=>.never):=rfl
theorem wP:oh (n+1) ct (.AugAssign t op e w1)=(match t with
   | .Subscript (.Name x _) k _=>match loc ct x with
    |some i=>if bh k then .never else .augS i op (aY n ct k) (aY n ct e)|none=>.never
   |_=>.never):=rfl
theorem z2g:fh 0 w0 w1=.cons .never .nil:=rfl
theorem z2i:fh (n+1) ct ([])=(.nil):=rfl
theorem z2h:fh (n+1) ct (s::ss)=(.cons (oh n ct s) (fh n ct ss)):=rfl
end
end IR
namespace L2
open PySem PySem.Spec PyProof.Rows
section
variable{X:Cx}
theorem BU:d7 X (binaryOp .Add) (λx y H Q=>∃(l b:Addr)(j i:List V),x=.ref l/\y=.ref b/\bJ X.K H l j/\bJ X.K H b i/\j.length+i.length<=sizeLine/\∀p,H p=none->Q (.ref p) (upd H p (.lst (j++i)))):=by
 intro z s S H x y v u Q I E M h;obtain⟨l,b,j,i,rfl,rfl,G,J,T,q⟩:=h;cases E;cases M;obtain⟨c,r,N,_⟩:=I.list G;obtain⟨a,C,k,_⟩:=I.list J;have U:=r.length;have O:=C.length;obtain⟨⟨cls,R,data,P⟩,A,D,n,w⟩:=id N.isList;obtain⟨⟨B,t,o,m⟩,g,d,L,f⟩:=id k.isList;simp only at D w d f;subst D w d f;have e:c.toArray++a.toArray=(c++a).toArray:=by simp
 refine concat_meets ⟨_,A,rfl⟩ ⟨_,g,rfl⟩ noFill_list_add seq_list_add PySem.F.slot_list_add PySem.F.entry_list_add (PySem.F.args_list_add_2 _ _) (list_addW l b c.toArray a.toArray n L R t P m (by rw[JO,JO];omega)) ⟨A,g,?_⟩;rw[e];exact⟨.ref _,_,I.lnew (t' :=s.toks) (r.append C) (by rw[JM];omega),rfl,q _ I.fresh⟩
theorem BR:d7 X (binaryOp .Add) (λx y H Q=>∃(a b:Addr)(c i:List V),x=.ref a/\y=.ref b/\cA X.K H a c/\cA X.K H b i/\c.length+i.length<=sizeLine/\∀p l,aB H l ->cA X.K l p (c++i)->Q (.ref p) l):=by
 intro g s J H x y u v Q I z D h;obtain⟨a,b,c,i,rfl,rfl,t,w,N,q⟩:=h
 by_cases G:c=[]
 ·subst G
  cases z;cases D;obtain⟨P,T,L,_⟩:=I.tuple t;obtain⟨d,U,O,_⟩:=I.tuple w;cases T;obtain⟨⟨cls,S,data,R⟩,B,E,n,A⟩:=id L;obtain⟨⟨C,r,o,m⟩,k,f,M,j⟩:=id O;simp only at E A f j;subst E A f j
  exact concat_meets ⟨_,B,rfl⟩ ⟨_,k,rfl⟩ noFill_tuple_add seq_tuple_add PySem.F.slot_tuple_add PySem.F.entry_tuple_add (MX _ _)
   (tuple_addW0 a b #[] d.toArray n M S r R m rfl) ⟨B,k,⟨.ref b,H,I,rfl,q b H (aB.refl H) w⟩⟩
 ·refine BS g s J H (.ref a) (.ref b) u v Q I z D ⟨a,b,c,i,rfl,rfl,t,w,G,N,λe=> ?_,λ_ p hp=>q p _ (aJ hp _) (cA.of aF)⟩
  subst e;exact q a H (aB.refl H) (by rw[KG];exact t)
theorem Au:GX X (λx f g H Q=>∃a c,x=.ref a/\cA X.K H a c/\(HT.bi c.length 0 f=0/\HT.bi c.length c.length g=c.length)/\Q (.ref a) H):=by
 intro m s A H x v B D f g y Q I o n u t h;obtain⟨a,c,rfl,z,i,q⟩:=h;cases o;obtain⟨b,r,d,C⟩:=I.tuple z;have e:b.toArray.size=c.length:=by rw[JO];exact r.length.symm
 refine⟨"tuple",_,KQ.lookup,d.typeIs,?_⟩;obtain⟨w,k,j,p⟩:=id n;have l:s.TypeIs (.ref y) "slice":=⟨w,k,j⟩;unfold getItem
 try with_reducible refine LW ?_
 first|refine JD (Ja ?_)|skip
 refine JD (wpAny_sequenceKey d.typeIs (by decide) ?_)
 refine JD (MA (name:=Str.ofString "__getitem__") d.typeIs KQ (K9 KQ d.typeIs entry_tuple_getitem ?_ (args_tuple_getitem _ _)))
 show wpAny _ _ (Builtin.Tuple.tupleItemsOf (.ref a) >>= _) _ _ s;refine JD (tupleItemsOf_ d ?_);refine JD (wpAny_typeOf l ?_);rw[JI (by decide)];refine JD (HT.eD n u t ?_);rw[<- e]at i;show wpAny _ _ (if(((HT.bi b.toArray.size 0 f:Nat):Int)==0&&(1:Int)==1&&(HT.bi b.toArray.size b.toArray.size g-HT.bi b.toArray.size 0 f)==b.toArray.size)=true then _ else _) _ _ s;rw[JI (by rw[i.1,i.2];simp)];unfold Builtin.Tuple.tupleIsExact;refine JD (JD (wpAny_typeOf d.typeIs (Ja ?_)));rw[JI (by decide)];exact JD (L8 (Ja ⟨_,rfl,Ja ⟨.ref a,H,I,rfl,q⟩⟩))
theorem oT{v:V}{u:Value}(r:RelV v u):∀n:Nat,aN (List.replicate n v) (List.replicate n u)
 |0=>.nil|n+1=>.cons r (oT r n)
theorem yJ:d7 X (binaryOp .Mult) (λx y H Q=>∃(a:Addr)(v:V)(N:Int),x=.ref a/\y=.int N/\2<=N/\N<=8/\cA X.K H a [v]/\∀p,H p=none->Q (.ref p) (upd H p (.tup (List.replicate N.toNat v)))):=by
 intro d s C H x y u E Q I i k h;obtain⟨a,v,N,rfl,rfl,l,B,A,q⟩:=h;cases i;obtain⟨t,rfl⟩:=k;obtain⟨m,r,j,D⟩:=I.tuple A;obtain⟨u,rfl,w⟩:=vals1 r;obtain⟨⟨cls,g,data,f⟩,b,e,n,c⟩:=id j;simp only at e c;subst e c
 refine wpAny_binaryOp_repeat_ref (T:="tuple") (U:="int") (by decide) ⟨_,b,rfl⟩ (λs' =>typeIs_int s' N t) jF F.fills_int_mul F.slot_int_rmul mn F.slot_int_index.lookup
  (ML F.slot_int_rmul (typeIs_int s N t) F.entry_int_rmul (F.args_int_rmul_2 _ _) (rG N t a _ n g f) ⟨b,rfl,⟨_,b,rfl⟩,ML F.slot_tuple_mul ⟨_,b,rfl⟩ F.entry_tuple_mul (F.args_tuple_mul_2 _ _) (qr a u n g f t N l B) ⟨b,?_⟩⟩)
 refine⟨.ref s.heap.objs.size,_,I.laid (t' :=s.toks) (o:=.tup (List.replicate N.toNat v)) (λb ob q=>JG _ q) (JH _) ?_,rfl,q _ (I.hok.fresh (JH _))⟩;have z:N.toNat<=8:=by omega
 exact⟨by rw[KA];exact Jw z (by decide),_,oT w _,ed.new _ _⟩
end
end L2
namespace IR
open PySem PySem.Spec PyProof.Rows L2
noncomputable abbrev WE(X:Cx)(e:Expr)(b:L2.St)(H:Hp)(Q:VK):Prop:=∀(a:List (Addr×Obj))(s:Shared),Inv X a b H s->wpAny (model X.prog X.w) X.A (eval e X.env) (EP X a b Q) X.xe s
noncomputable abbrev WT(X:Cx)(e:Expr)(b:L2.St)(H:Hp)(Q:Bool->Hp->Prop):Prop:=∀(a:List (Addr×Obj))(s:Shared),Inv X a b H s->wpAny (model X.prog X.w) X.A (isTrue e X.env (eval e X.env)) (TP X a b Q) X.xe s
noncomputable abbrev WA(X:Cx)(c:List Expr)(b:L2.St)(H:Hp)(Q:List V->Hp->Prop):Prop:=∀(pos:Pos)(a:List (Addr×Obj))(s:Shared),Inv X a b H s->wpAny (model X.prog X.w) X.A (spliced (backTo pos (starEach c X.env))) (AP X a b Q) X.xe s
theorem aS:PE X e (λσ H Q=>WE X e σ H Q):=λpins s σ H Q I h=>h pins s I
theorem kK:PT X e (λσ H Q=>WT X e σ H Q):=λpins s σ H Q I h=>h pins s I
theorem rQ:PA X e (λσ H Q=>WA X e σ H Q):=λpos pins s σ H Q I h=>h pos pins s I
theorem we(h:PE X e t)(q:t a H Q):WE X e a H Q:=λpins s I=>h pins s a H Q I q
theorem wt(h:PT X e t)(q:t a H Q):WT X e a H Q:=λpins s I=>h pins s a H Q I q
theorem wa(h:PA X e t)(q:t a H Q):WA X e a H Q:=λpos pins s I=>h pos pins s a H Q I q
noncomputable def AW(K:W.Frag)(m:List PV->Option PV):Sp:=λvs H Q _=>∃a r,aG K H false a H vs/\m a=some r/\∀u b,aB H b ->Rp K H true r b u->Q u b
structure bL(cd:Nat->List PV->Option PV)(X:Cx)(ct:Ct):Prop where
 N:X.N=ct.N
 nd:ct.N.Nodup
 S:X.env.scope.names=ct.S
 kind:X.env.scope.kind=.function
 calm:X.calm=true
 glob:∀x v,ct.G.lookup x=some v->∃u w,X.mg x=some u/\RelV w u/\∀Hi n H,Rp X.K Hi n v H w
 bl:∀x,ct.B.contains x=true->X.mg x=none
 fns:∀x f,ct.F.lookup x=some f->∃k a fd ps,dZ X.prog X.w X.K X.mg X.base n6 k a fd ps (AW X.K (cd f))/\fo k X.A/\X.mg x=some (.ref a)/\W.keepIn X.K (.ref a)=true/\Binds X.K fd ps []
 xe:PassesOwn (model X.prog X.w) X.A X.env X.xe
 un:X.A.units+64<cLine
section
variable{X:Cx}{Hi:Hp}{τ:En}
variable(X Hi τ)in
noncomputable def aH(e:Expr)(r:RV):Prop:=∀(O:List Addr)(b:L2.St)(H:Hp)(Q:VK),aT X.K Hi O τ b H->(∀u a,aB H a ->aW X.K Hi O H a r u->Q u a)->WE X e b H Q
variable(X Hi τ)in
noncomputable def fP(e:Expr)(b:Bool):Prop:=∀(O:List Addr)(c:L2.St)(H:Hp)(Q:Bool->Hp->Prop),aT X.K Hi O τ c H->(∀a,aB H a ->Q b a)->WT X e c H Q
variable(X Hi)in
noncomputable def cT(O:List Addr)(H a :Hp):List RV->List V->Prop
 |[],us=>us=[]|r::rs,us=>∃u b,us=u::b/\aW X.K Hi O H a r u/\cT O H a rs b
variable(X Hi τ)in
noncomputable def n9(d:List Expr)(c:List RV):Prop:=∀(O:List Addr)(b:L2.St)(H:Hp)(Q:List V->Hp->Prop),aT X.K Hi O τ b H->(∀us a,aB H a ->cT X Hi O H a c us->Q us a)->WA X d b H Q
theorem cJ:sizeLine=16777216:=Ka
theorem cT.ext{O:List Addr}{H d f:Hp}(s:aB d f):∀{c:List RV}{us:List V},cT X Hi O H d c us->cT X Hi O H f c us
 |[],_,h=>h|r::c,_,h=>by obtain⟨u,g,e,a,b⟩:=h;exact⟨u,g,e,a.ext s,cT.ext s b⟩
theorem cT.back{O:List Addr}{f H d :Hp}(s:aB f H):∀{c:List RV}{us:List V},cT X Hi O H d c us->cT X Hi O f d c us
 |[],_,h=>h|r::c,_,h=>by obtain⟨u,g,e,a,b⟩:=h;exact⟨u,g,e,a.back s,cT.back s b⟩
theorem cT.vals{O:List Addr}{e:L2.St}{H d :Hp}(R:aT X.K Hi O τ e H)(s:aB H d):∀{c:List RV}{us:List V},cT X Hi O H d c us->aG X.K Hi false (c.map RV.val) d us
 |[],_,h=>by cases h;exact .nil|r::c,_,h=>by obtain⟨u,f,rfl,a,b⟩:=h;exact .cons (a.val R s) (cT.vals R s b)
theorem cT.keeps{O:List Addr}{j:L2.St}{H f :Hp}(R:aT X.K Hi O τ j H)(s:aB H f):∀{c:List RV}{us:List V}{d:List PV}{n:Bool},cT X Hi O H f c us->IR.keeps c=some (d,n)->aG X.K Hi n d (aK f O) us
 |[],_,_,_,h,e=>by cases h;cases e;exact .nil|r::c,_,d,n,h,e=>by
  obtain⟨u,m,rfl,a,b⟩:=h;unfold IR.keeps at e;cases g:r.keep with
  |none=>rw[g]at e;cases e|some p =>
   obtain⟨v,l⟩:=p;rw[g]at e;cases i:IR.keeps c with
   |none=>rw[i]at e;cases e|some p =>
    obtain⟨k,o⟩:=p;rw[i]at e;cases e;refine .cons ((a.keep R s g).low λz=> ?_) ((cT.keeps R s b i).low λz=> ?_)
    ·rw[JJ]at z;exact z.1
    ·rw[JJ]at z;exact z.2
theorem fr(h:∀G,Rp X.K Hi true v G u):aW X.K Hi O H a (sc v) u:=h _
theorem zU(h:aP a (mW c) τ=some r):aH X Hi τ (.Constant c k pos) r:=by
 intro O d H Q R q;cases c with
 |int i =>cases h;exact we kR (q _ _ (aB.refl _) (fr λ_=>Rp.int.mpr rfl))
 |bool b =>cases h;exact we HS (q _ _ (aB.refl _) (fr λ_=>Rp.bl.mpr rfl))
 |str b =>cases h;exact we yB (q _ _ (aB.refl _) (fr λ_=>Rp.str.mpr rfl))
 |none =>cases h;exact we EL (q _ _ (aB.refl _) (fr λ_=>Rp.non.mpr rfl))
 |_=>cases h
theorem fA(e:a.names=S)(h:Gf S x=true):Iq a x:=by
 unfold Gf at h;unfold Iq;rw[e]
 simpa [KS,or_assoc]using h
theorem bQ(h:wU x=false):(x==("__debug__":Str))=false/\(x==("__classdict__":Str))=false/\x≠"__name__":=by unfold wU at h;simp only[Bool.or_eq_false_iff]at h;exact⟨h.1.1,h.1.2,λe=>by rw[e]at h;simp at h⟩
theorem Be(C:bL D X ct)(h:aP D (mV ct x) τ=some r):aH X Hi τ (.Name x pos) r:=by
 intro O L H Q R q;unfold mV at h
 split at h;simp[cw,cX,cz,dH,cx,dB,cZ,cc,cr,cy,c7,cf,cg,cY,dJ,cu,cq,dF,ck,ci,dG]at h
 rename_i F;obtain⟨B,K,M⟩:=bQ (Kc.mpr F)
 split at h
 ·rename_i E
  cases A:slot ct.N x with
  |none=>rw[A]at h;simp[cw,cX,cz,dH,cx,dB,cZ,cc,cr,cy,c7,cf,cg,cY,dJ,cu,cq,dF,ck,ci,dG]at h|some i =>
   rw[A]at h;have h:nP τ i=some r:=by simpa [cw,cX,cz,dH,cx,dB,cZ,cc,cr,cy,c7,cf,cg,cY,dJ,cu,cq,dF,ck,ci,dG]using h
   refine we (eP (by rw[C.N];exact fU A) (fA C.S E) B K) ?_;unfold nP at h;cases f:τ[i]? with
   |none=>rw[f]at h;cases h|some t =>
    rw[f]at h;cases t with
    |un=>cases h|frz v n =>cases h;obtain⟨u,d,a⟩:=R.frz i v n f;exact⟨u,d,q u H (aB.refl _) a⟩
    |own s n =>
     cases h;obtain⟨l,us,d,a,j,m⟩:=R.owns i s n f;refine⟨_,d,q _ H (aB.refl _) ?_⟩;refine Rp.lst.mpr ⟨l,us,rfl,(λz=>absurd z JS),bJ.of j,m.weak.mono λb o e=> ?_⟩;unfold aK at e
     split at e;cases e
     ·rename_i p
      unfold del;have k:b≠l:=λz=>p (z▸a);rw[JE k];exact e
    |owd b s n =>
     cases h;obtain⟨l,us,o,d,a,j,J,m⟩:=R.obs i _ b s n f rfl;refine⟨_,d,q _ H (aB.refl _) ?_⟩;refine Rp.at (λz=>absurd z JS) j J (m.weak.mono λc o e=> ?_);unfold aK at e
     split at e;cases e
     ·rename_i p
      unfold del;have k:c≠l:=λz=>p (z▸a);rw[JE k];exact e
 ·split at h
  ·rename_i I
   cases y:ct.G.lookup x with
   |none=>rw[y]at h;simp[cw,cX,cz,dH,cx,dB,cZ,cc,cr,cy,c7,cf,cg,cY,dJ,cu,cq,dF,ck,ci,dG]at h|some v =>
    rw[y]at h;have h:some (sc v)=some r:=by simpa [cw,cX,cz,dH,cx,dB,cZ,cc,cr,cy,c7,cf,cg,cY,dJ,cu,cq,dF,ck,ci,dG]using h
    cases h;obtain⟨u,w,d,a,j⟩:=C.glob x v y;have g:Gl X x:=by
     show X.env.scope.names.lookup x=_;rw[C.S]
     simpa using I
    exact we (BL g d a B) (q _ _ (aB.refl _) (fr λ_=>j _ _ _))
  ·simp[cw,cX,cz,dH,cx,dB,cZ,cc,cr,cy,c7,cf,cg,cY,dJ,cu,cq,dF,ck,ci,dG]at h
theorem fN(g:d7 X (binaryOp f) rr)(h:aH X Hi τ a x)(i:aH X Hi τ b y)
  (k:∀(O:List Addr)(d:L2.St)(H c:Hp)(u v:V)(Q:VK),aT X.K Hi O τ d H->aB H c->aW X.K Hi O H c x u->aW X.K Hi O H c y v->(∀w e,aB c e->aW X.K Hi O H e r w->Q w e)->rr u v c Q) :
  aH X Hi τ (.BinOp a f b pos) r:=by
 intro O d H Q R q;refine we (kQ g aS aS) ?_;refine h O d H _ R λu H1 s1 r1=>i O d H1 _ (R.ext s1) λv c s2 r2=> ?_;exact k O d H c u v Q R (s1.trans s2) (r1.ext s2) (r2.back s1) λw e s3 r3=>q w e (s1.trans (s2.trans s3)) r3
theorem aW.int(R:aT X.K Hi O τ b H)(s:aB H a)(h:aW X.K Hi O H a x u)(e:x.val=.int i):u=.int i:=by have z:=h.val R s;rw[e]at z;exact Rp.int.mp z
theorem aW.str(R:aT X.K Hi O τ b H)(s:aB H a)(h:aW X.K Hi O H a x u)(e:x.val=.str i):u=.str i:=by have z:=h.val R s;rw[e]at z;exact Rp.str.mp z
theorem aW.bl(R:aT X.K Hi O τ b H)(s:aB H a)(h:aW X.K Hi O H a x u)(e:x.val=.bl i):u=.bl i:=by have z:=h.val R s;rw[e]at z;exact Rp.bl.mp z
theorem aW.tup{O:List Addr}{c:L2.St}{H a :Hp}{x:RV}{u:V}{b:List PV}(R:aT X.K Hi O τ c H)(s:aB H a)(h:aW X.K Hi O H a x u)(e:x.val=.tup b):∃p us,u=.ref p/\cA X.K a p us/\aG X.K Hi false b a us:=by have z:=h.val R s;rw[e]at z;exact Rp.tup.mp z
theorem aW.lst{O:List Addr}{g:L2.St}{H a :Hp}{x:RV}{u:V}{b:List PV}(R:aT X.K Hi O τ g H)(s:aB H a)(h:aW X.K Hi O H a x u)(e:x.val=.lst b):∃p us,u=.ref p/\bJ X.K a p us/\aG X.K Hi false b a us:=by have z:=h.val R s;rw[e]at z;obtain⟨p,us,d,_,f,c⟩:=Rp.lst.mp z;exact⟨p,us,d,f,c.mono bF⟩
theorem aW.itsL(R:aT X.K Hi O τ c H)(s:aB H b)(h:aW X.K Hi O H b r u)(e:r.its=some (xs,n))(d:r.val=.lst f) :
  ∃p us,u=.ref p/\bJ X.K b p us/\aG X.K Hi n xs (aK b O) us:=by
 obtain⟨p,us,i,a,g⟩:=h.its R s e
 rcases a with⟨a,_⟩|⟨_,j,a⟩
 ·exact⟨p,us,i,a,g⟩
 ·rw[d]at a
  cases a
theorem aW.itsT(R:aT X.K Hi O τ d H)(s:aB H b)(h:aW X.K Hi O H b r u)(e:r.its=some (c,n))(f:r.val=.tup g) :
  ∃p us,u=.ref p/\cA X.K b p us/\aG X.K Hi n c (aK b O) us:=by
 obtain⟨p,us,j,a,i⟩:=h.its R s e
 rcases a with⟨_,k,a⟩|⟨a,_⟩
 ·rw[f]at a
  cases a
 ·exact⟨p,us,j,a,i⟩
theorem dh(s:aB H a)(d:a p=none)(r:aG X.K Hi n b (aK a O) us):aW X.K Hi O H (L2.upd a p (.lst us)) (.own b n) (.ref p):=by refine⟨p,us,rfl,s.free d,aF,r.mono (aD λb o e=> ?_)⟩;have c:=aI e d;unfold del;rw[JE c,aA c];exact e
theorem ju(R:aT X.K Hi O τ c H)(s:aB H a)(b:a p=none):aK (L2.upd a p o) O p=some o:=by
 unfold aK;rw[JE λz=> ?_]
 ·exact aF
 ·obtain⟨us,e,_⟩:=(R.own p z).2
  rw[s _ _ e]at b;cases b
theorem uH(R:aT X.K Hi O τ b H)(s:aB H a)(h:cA X.K a p us):cA X.K (aK a O) p us:=(R.ext s).tups.at h
theorem Bo(a:aG X.K Hi n c H us)(b:aG X.K Hi m d H e):aG X.K Hi (n&&m) (c++d) H (us++e):=by
 refine aG.app (a.low λz=> ?_) (b.low λz=> ?_)
 ·rw[JJ]at z;exact z.1
 ·rw[JJ]at z;exact z.2
theorem xN:aW X.K Hi O H a (sc (.int i)) (.int i):=fr λ_=>Rp.int.mpr rfl
theorem Du:aW X.K Hi O H a (sc (.bl i)) (.bl i):=fr λ_=>Rp.bl.mpr rfl
theorem GQ:aW X.K Hi O H a (sc (.str i)) (.str i):=fr λ_=>Rp.str.mpr rfl
theorem tw(h:lT a n=some r):a.length<=LN/\r=.own a n:=by
 unfold lT at h
 split at h
 ·rename_i e;cases h;exact⟨e,rfl⟩
 ·cases h
theorem nC(h:pN a n=some r):a.length<=LN/\r=.frz (.tup a) n:=by
 unfold pN at h
 split at h
 ·rename_i e;cases h;exact⟨e,rfl⟩
 ·cases h
theorem binI(f:d7 X (binaryOp d) (rI C g))(m:aH X Hi τ a x)(e:aH X Hi τ b y)(k:x.val=.int i)(h:y.val=.int j)(c:C i j)
  (l:∀G,Rp X.K Hi true w G (g i j)):aH X Hi τ (.BinOp a d b pos) (sc w) :=
 fN f m e λO σ H H2 u v Q R s ru rv q=>⟨i,j,ru.int R s k,rv.int R s h,c,q _ _ (aB.refl _) (fr l)⟩
theorem DR(e:d7 X (binaryOp c) (xX g))(h:aH X Hi τ a x)(l:aH X Hi τ b y)(k:x.val=.int i)(d:y.val=.int j)
  (f:∀G,Rp X.K Hi true w G (g i j)):aH X Hi τ (.BinOp a c b pos) (sc w) :=
 fN e h l λO σ H H2 u v Q R s ru rv q=>⟨i,j,ru.int R s k,rv.int R s d,q _ _ (aB.refl _) (fr f)⟩
theorem qB(a:Array Nat):∀(m:Nat)(b:Array Nat),((List.replicate m a).foldl (·++·) b).toList=b.toList++(List.replicate m a.toList).flatten
 |0,b=>by simp|m+1,b=>by rw[KC,LB,qB a m,KC,Jp];simp
theorem Ei{z:Str}{n:Nat}:Txt.mul z (n:Int)=(⟨(List.replicate n z.cps.toList).flatten.toArray⟩:Str):=by
 refine UM.jo ?_;unfold Txt.mul
 split
 ·rename_i c
  have:n=0:=by omega
  subst this;rfl
 ·split
  ·rename_i a c
   rcases(KS ..).mp c with c|c
   ·have:n=1:=by
     have:=K3.mp c;omega
    subst this;simp
   ·have e:z.cps.toList=[]:=LS.mp (by have:=K3.mp c;simpa [Str.length]using this)
    show z.cps.toList=(List.replicate n z.cps.toList).flatten;rw[e];simp
  ·rw[Kw]
   have:=qB z.cps n #[]
   simpa using this
theorem aG.rep{n:Bool}{a:List PV}{H:Hp}{us:List V}(h:aG X.K Hi n a H us):∀k:Nat,aG X.K Hi n (List.replicate k a).flatten H (List.replicate k us).flatten
 |0=>by simp;exact .nil|k+1=>by rw[KC,Jp,KC,Jp];exact h.app (aG.rep h k)
theorem aG.rep1{K:W.Frag}{b:Hp}{n:Bool}{x:PV}{H:Hp}{u:V}(a:Rp K b n x H u):∀m:Nat,aG K b n (List.replicate m [x]).flatten H (List.replicate m u)
 |0=>.nil|m+1=>by rw[KC,Jp];exact .cons a (aG.rep1 a m)
theorem zq(f:aH X Hi τ a x)(g:aH X Hi τ b y)(h:cN N x y=some r):aH X Hi τ (.BinOp a N b pos) r:=by
 cases N with
 |Add =>
  have h:sY x y=some r:=h;unfold sY at h
  split at h
  case h_1 i j e d=>cases h;exact DR rS f g e d λ_=>Rp.int.mpr rfl
  case h_2 i j e d =>
   split at h
   ·rename_i o
    cases h;exact fN rR f g λO B H H2 u v Q R s ru rv q=>⟨i,j,ru.str R s e,rv.str R s d,by rw[cJ];exact o,q _ _ (aB.refl _) GQ⟩
   ·cases h
  case h_3 e d =>
   split at h
   ·rename_i F n W m E M
    obtain⟨o,rfl⟩:=tw h;refine fN BU f g λO B H H2 u v Q R s ru rv q=> ?_;obtain⟨p,us,rfl,w,l⟩:=ru.itsL R s E e;obtain⟨P,A,rfl,K,D⟩:=rv.itsL R s M d;have C:=l.len;have L:=D.len;rw[JM]at o;exact⟨p,P,us,A,rfl,rfl,w,K,by rw[cJ,<-C,<-L];exact o,λp3 hp=>q _ _ (aJ hp _) (dh s hp (Bo l D))⟩
   ·cases h
  case h_4 e d =>
   split at h
   ·rename_i F n W m E M
    obtain⟨o,rfl⟩:=nC h;refine fN BR f g λO B H H2 u v Q R s ru rv q=> ?_;obtain⟨p,us,rfl,w,l⟩:=ru.itsT R s E e;obtain⟨P,A,rfl,K,D⟩:=rv.itsT R s M d;have C:=l.len;have L:=D.len;rw[JM]at o;exact⟨p,P,us,A,rfl,rfl,w,K,by rw[cJ,<-C,<-L];exact o,λp3 H3 s3 l3=>q _ _ s3 (Rp.tup.mpr ⟨p3,_,rfl,uH R (s.trans s3) l3,(Bo l D).mono (aD s3)⟩)⟩
   ·cases h
  case h_5=>cases h
 |Sub =>
  have h:sW x y=some r:=h;unfold sW at h
  split at h
  case h_1 i j e d=>cases h;exact DR EN f g e d λ_=>Rp.int.mpr rfl
  case h_2=>cases h
 |Mult =>
  have h:ni x y=some r:=h;unfold ni at h
  split at h
  case h_1 i j e d =>
   split at h
   ·rename_i c
    cases h;exact binI ES f g e d c λ_=>Rp.int.mpr rfl
   ·split at h
    ·rename_i c
     cases h;exact binI BQ f g e d c λ_=>Rp.int.mpr rfl
    ·cases h
  case h_2 k e d =>
   split at h
   ·rename_i F n
    split at h
    ·rename_i c
     cases h;refine fN EQ f g λO B H H2 u v Q R s ru rv q=> ?_;obtain⟨p,us,rfl,l0,w,l⟩:=ru;have C:=l.len;refine⟨p,k,us,rfl,rv.int R s d,w,by omega,by omega,by rw[cJ,<-C];exact c.2.2,λp3 hp=>q _ _ (aJ hp _) (dh s hp ((l.mono (aD bF)).rep _))⟩
    ·cases h
   ·cases h
  case h_3 k e d =>
   split at h
   ·rename_i F n E
    split at h
    ·rename_i c
     obtain⟨Z,n8,c2⟩:=c;obtain⟨o,rfl⟩:=nC h;refine fN yJ f g λO B H H2 u v Q R s ru rv q=> ?_;obtain⟨p,us,rfl,w,l⟩:=ru.itsT R s E e;obtain⟨J,rfl⟩:∃J,F=[J]:=by
      match F,c2 with
      |[J],_=>exact⟨J,rfl⟩
     have G :=l;unfold aG at G;obtain⟨T,U,rfl,a1,b1⟩:=G;unfold aG at b1;subst b1;refine⟨p,T,k,rfl,rv.int R s d,Z,n8,w,λp3 hp=>q _ _ (aJ hp _) (Rp.tup.mpr ⟨p3,_,rfl,cA.of (ju R s hp),?_⟩)⟩;exact aG.rep1 (Rp.mono (aD (O:=O) (aJ hp (.tup (List.replicate k.toNat T)))) a1) _
    ·cases h
   ·cases h
  case h_4 z k e d =>
   split at h
   ·rename_i c
    cases h;refine fN (rr:=λx y H Q=>∃(z:Str)(n:Nat),x=.str z/\y=.int n/\z.length<=16/\n<=1000/\Q (.str (Txt.mul z (n:Int))) H) ?_ f g λO B H H2 u v Q R s ru rv q=> ?_
    ·intro S s B H x y u v Q I V Y h
     obtain⟨z,n,rfl,rfl,o,hn,q⟩:=h;obtain⟨t,rfl⟩:=V;obtain⟨t',rfl⟩:=Y;exact SB.mul (mulOk_of 16 1048576 (by omega) (by omega) (by omega) (by decide) (by decide)) λt2 k=>⟨.str _,H,I.tok _,⟨_,rfl⟩,q⟩
    ·refine⟨z,k.toNat,ru.str R s e,by rw[rv.int R s d];congr 1;omega,c.2.2,by omega,?_⟩
     rw[Ei];exact q _ _ (aB.refl _) GQ
   ·cases h
  case h_5=>cases h
 |FloorDiv =>
  have h:fO x y=some r:=h;unfold fO at h
  split at h
  case h_1 i j e d =>
   split at h
   ·rename_i c
    cases h;exact binI yN f g e d ⟨c.1,LZ ((Nat.log2_lt (n:=j.natAbs) (k:=200) (by omega)).mpr (by omega)) (by decide)⟩ λ_=>Rp.int.mpr rfl
   ·cases h
  case h_2=>cases h
 |Mod =>
  have h:sX x y=some r:=h;unfold sX at h
  split at h
  case h_1 i j e d =>
   split at h
   ·rename_i c
    cases h;exact binI ET f g e d c λ_=>Rp.int.mpr rfl
   ·cases h
  case h_2=>cases h
 |LShift =>
  have h:jS x y=some r:=h;unfold jS at h
  split at h
  case h_1 i j e d =>
   split at h
   ·rename_i c
    cases h;exact binI EO f g e d c λ_=>Rp.int.mpr rfl
   ·cases h
  case h_2=>cases h
 |_=>exact absurd (show(none:Option RV)=some r from h) (by intro z;cases z)
mutual
theorem bK{pins:List (Addr×Obj)}{σ:L2.St}{H:Hp}{s:Shared}(I:Inv X pins σ H s):∀{a:PV}{n:Nat}{u:V}{u' :Value},dv n a=true->Rp X.K Hi false a H u->RelV u u' ->∃as,Reads s.heap u' (gE a) as
 | .non,_,_,_,_,r,e=>by cases Rp.non.mp r;cases e;exact⟨_,.none⟩
 | .bl b,_,_,_,_,r,e=>by cases Rp.bl.mp r;cases e;exact⟨_,.bool b⟩
 | .int i,_,_,_,_,r,e=>by cases Rp.int.mp r;obtain⟨t,rfl⟩:=e;exact⟨_,.int i t⟩
 | .str z,_,_,_,_,r,e=>by cases Rp.str.mp r;obtain⟨t,rfl⟩:=e;exact⟨_,.str z t⟩
 | .lst xs,n,_,_,f,r,e=>by
  obtain⟨p,us,rfl,_,l,r⟩:=Rp.lst.mp r;cases e;cases n with
  | zero=>cases f
  | succ n =>
   obtain⟨its,rv,pl,_⟩:=I.list l;obtain⟨as,z⟩:=eT I (xs:=xs) (n:=n) f (r.mono bF) rv;obtain⟨o,ho,hc,m,hd⟩:=pl.isList;exact⟨_,.list ho hc hd (by simpa using z)⟩
 | .tup xs,n,_,_,f,r,e=>by
  obtain⟨p,us,rfl,l,r⟩:=Rp.tup.mp r;cases e;cases n with
  | zero=>cases f
  | succ n =>
   obtain⟨its,rv,pl,_⟩:=I.tuple l;obtain⟨as,z⟩:=eT I (xs:=xs) (n:=n) f r rv;obtain⟨o,ho,hc,m,hd⟩:=pl;exact⟨_,.tuple ho hc hd (by simpa using z)⟩
 | .dK _ _,n,_,_,f,_,_=>by cases n<;>cases f
 | .dT _ _,n,_,_,f,_,_=>by cases n<;>cases f
theorem eT{pins:List (Addr×Obj)}{σ:L2.St}{H:Hp}{s:Shared}(I:Inv X pins σ H s):∀{xs:List PV}{n:Nat}{us:List V}{us' :List Value},xs.all (dv n)=true->aG X.K Hi false xs H us->aN us us' ->∃as,ReadsAll s.heap us' (cL xs) as
 | [],_,_,_,_,r,e=>by
  unfold aG at r;subst r;cases e;exact⟨_,.nil⟩
 | x::xs,n,_,_,f,r,e=>by
  unfold aG at r;obtain⟨u,us,rfl,r1,r2⟩:=r;cases e with
  | cons e1 e2 =>
   rw[LL,JJ]at f;obtain⟨as,z⟩:=bK I f.1 r1 e1;obtain⟨bs,y⟩:=eT I f.2 r2 e2;exact⟨_,.cons z y⟩
end
mutual
theorem di:∀{a:PV}{n:Nat},dv n a=true->(gE a).canLay0=true/\(gE a).depth<=n
 | .non,n,_=>⟨rfl,J0 _⟩
 | .bl _,n,_=>⟨rfl,J0 _⟩
 | .int _,n,_=>⟨rfl,J0 _⟩
 | .str z,n,h=>⟨by cases n<;>exact h,J0 _⟩
 | .lst xs,0,h=>by cases h
 | .lst xs,n+1,h=>⟨(eI (xs:=xs) (n:=n) h).1,Nat.succ_le_succ (eI (xs:=xs) (n:=n) h).2⟩
 | .tup xs,0,h=>by cases h
 | .tup xs,n+1,h=>⟨(eI (xs:=xs) (n:=n) h).1,Nat.succ_le_succ (eI (xs:=xs) (n:=n) h).2⟩
 | .dK _ _,n,h=>by cases n<;>cases h
 | .dT _ _,n,h=>by cases n<;>cases h
theorem eI:∀{xs:List PV}{n:Nat},xs.all (dv n)=true->PyData.canLayAll0 (cL xs)=true/\PyData.depthAll (cL xs)<=n
 | [],n,_=>⟨rfl,J0 _⟩
 | x::xs,n,h=>by
  rw[LL,JJ]at h;obtain⟨a,b⟩:=di h.1;obtain⟨c,d⟩:=eI h.2;refine⟨?_,?_⟩
  ·show((gE x).canLay0&&PyData.canLayAll0 (cL xs))=true
   rw[a,c];rfl
  ·show max (gE x).depth (PyData.depthAll (cL xs))<=n
   omega
end
mutual
theorem iD:∀(a b:PV),PyData.eqv (gE a) (gE b)=nU a b
 | .lst xs,b=>by
  cases b with
  | lst ys=>show PyData.eqvAll (cL xs) (cL ys)=sA xs ys;exact k6 xs ys
  | _=>rfl
 | .tup xs,b=>by
  cases b with
  | tup ys=>show PyData.eqvAll (cL xs) (cL ys)=sA xs ys;exact k6 xs ys
  | _=>rfl
 | .non,b=>by cases b<;>rfl
 | .bl x,b=>by cases b<;>first|rfl|exact beq_eq_decide _ _|(unfold nU;simp[gE,PyData.eqv,CJ,MD])
 | .int x,b=>by cases b<;>first|rfl|exact beq_eq_decide _ _|(unfold nU;simp[gE,PyData.eqv,CJ,MD])
 | .str x,b=>by cases b<;>first|rfl|exact beq_eq_decide _ _|(unfold nU;simp[gE,PyData.eqv,CJ,MD])
 | .dK k v,b=>by cases b<;>rfl
 | .dT k v,b=>by cases b<;>rfl
theorem k6:∀(xs ys:List PV),PyData.eqvAll (cL xs) (cL ys)=sA xs ys
 | [],[]=>rfl
 | [],_::_=>rfl
 | _::_,[]=>rfl
 | x::xs,y::ys=>by
  show(PyData.eqv (gE x) (gE y)&&PyData.eqvAll (cL xs) (cL ys))=(nU x y&&sA xs ys);rw[iD x y,k6 xs ys]
end
theorem k9(x:PV):∀a:List PV,((cL a).any λy=>PyData.eqv y (gE x))=a.any λy=>nU y x
 |[]=>rfl|y::a=>by show(PyData.eqv (gE y) (gE x)||(cL a).any λy=>PyData.eqv y (gE x))=(nU y x||a.any λy=>nU y x);rw[iD,k9 x a]
variable(X Hi)in
noncomputable def HG(g:Bool->Bool):R2:=λx y H Q=>∃a b,dv 12 a=true/\dv 12 b=true/\Rp X.K Hi false a H x/\Rp X.K Hi false b H y/\Q (.bl (g (nU a b))) H
theorem EW(t:X.A.units+64<cLine):d7 X (compareOp .Eq) (HG X Hi id):=by intro c s o H x y u v Q I f j h;obtain⟨a,b,d,e,l,g,q⟩:=h;obtain⟨r,i⟩:=bK I d l f;obtain⟨z,k⟩:=bK I e g j;obtain⟨m,w⟩:=di d;obtain⟨n,p⟩:=di e;refine SeqAt.compareEq_reads i k m n (by omega) ?_;rw[iD];exact⟨.bl _,H,I,rfl,q⟩
theorem ER(t:X.A.units+64<cLine):d7 X (compareOp .NotEq) (HG X Hi not):=by intro c s o H x y u v Q I f j h;obtain⟨a,b,d,e,l,g,q⟩:=h;obtain⟨r,i⟩:=bK I d l f;obtain⟨z,k⟩:=bK I e g j;obtain⟨m,w⟩:=di d;obtain⟨n,p⟩:=di e;refine SeqAt.compareNe_reads i k m n (by omega) ?_;rw[iD];exact⟨.bl _,H,I,rfl,q⟩
variable(X Hi)in
noncomputable def rIn2(g:Bool->Bool):R2:=λx y H Q=>∃a b,dv 12 a=true/\b.all (dv 12)=true/\Rp X.K Hi false a H x/\(Rp X.K Hi false (.lst b) H y\/Rp X.K Hi false (.tup b) H y)/\Q (.bl (g (b.any λy=>nU y a))) H
theorem yM(z:X.A.units+64<cLine):d7 X (compareOp .In) (rIn2 X Hi id):=by
 intro e s r H x y u v Q I m i h;obtain⟨a,f,l,d,o,b,q⟩:=h;obtain⟨w,g⟩:=bK I l o m;obtain⟨j,B⟩:=di l;obtain⟨k,t⟩:=eI d
 rcases b with b|b
 ·obtain⟨p,c⟩:=bK I (a:=.lst f) (n:=13) d b i
  refine SeqAt.in_list_reads c g k j (by omega) ?_;rw[k9];exact⟨.bl _,H,I,rfl,q⟩
 ·obtain⟨p,c⟩:=bK I (a:=.tup f) (n:=13) d b i
  refine SeqAt.in_tuple_reads c g k j (by omega) ?_;rw[k9];exact⟨.bl _,H,I,rfl,q⟩
noncomputable def qf(d:CmpOp)(A:Around)(s:Shared)(a b:Value)(t:Bool):Prop:=∀(c:Program)(w:World)(E:Value->Shared->Prop)(Q:Value->Shared->Prop),Q (.bool t) s->wpAny (model c w) A (richCompare d a b) Q E s
inductive OW(op:CmpOp)(A:Around)(s:Shared):List (Value×Value)->Option Bool->Prop
 | nil:OW op A s [] none
 | eq {p q:Value} {r:List (Value×Value)} {t:Option Bool}:SeqAt.EqAt A s p q true->OW op A s r t->OW op A s ((p,q)::r) t
 | ne {p q:Value} {r:List (Value×Value)} {t:Bool}:SeqAt.EqAt A s p q false->qf op A s p q t->OW op A s ((p,q)::r) (some t)
structure TOp(op:CmpOp)(f:Int->Int->Bool)(g:Nat->Nat->Bool):Prop where
 int:∀{A:Around}{s:Shared}{i j:Int}{t t' :Tok},qf op A s (.int i t) (.int j t') (f i j)
 tup:∀{A:Around}{s:Shared}{l b:Addr}{xs ys:Array Value}{t:Option Bool},s.heap.IsTuple l xs->s.heap.IsTuple b ys->A.units<cLine->OW op A.in1 s (xs.toList.zip ys.toList) t->qf op A s (.ref l) (.ref b) (t.getD (g xs.size ys.size))
 co:∀a b:Value,compareOp op a b=richCompare op a b
 s1:∀n,g (n+1) 0=g 1 0
 s2:∀a b,g (a+1) (b+1)=g a b
theorem i8{h:Heap}:∀{c:List PV}{d:List Value}{e:List Addr},ReadsAll h d (cL c) e->d.length=c.length
 |[],_,_,r=>by cases r;rfl|x::c,_,_,r=>by
  cases r with
  |cons a b=>rw[JY,JY,i8 b]
mutual
theorem zd{op:CmpOp}{f:Int->Int->Bool}{g:Nat->Nat->Bool}(T:TOp op f g):∀{x y:PV}{n:Nat}{A:Around}{s:Shared}{a b:Value}{as bs:List Addr}{t:Bool},Reads s.heap a (gE x) as->Reads s.heap b (gE y) bs->dv n x=true->dv n y=true->A.units+n<cLine->IY f g x y=some t->qf op A s a b t
 | .int i,y,_,_,_,_,_,_,_,_,ra,rb,_,_,_,h=>by
  cases y with
  | int j =>
   cases h;cases ra;cases rb;exact T.int
  | _=>cases h
 | .tup xs,y,n,A,s,_,_,_,_,t,ra,rb,fa,fb,hu,h=>by
  cases y with
  | tup ys =>
   cases n with
   | zero=>cases fa
   | succ n =>
    cases ra with
    | @tuple l o vs m _ _ h1 h2 h3 h4 =>
     cases rb with
     | @tuple l' o' ws m' _ _ k1 k2 k3 k4 =>
      obtain⟨o,ow,e⟩:=iI T (A:=A.in1) (n:=n) h4 k4 fa fb (by show A.units+1+n<cLine;omega) h;rw[JZ,JZ]at e;rw[e];exact T.tup ⟨_,h1,h2,_,h3⟩ ⟨_,k1,k2,_,k3⟩ (by omega) ow
  | _=>cases h
 | .non,_,_,_,_,_,_,_,_,_,_,_,_,_,_,h=>by cases h
 | .bl _,_,_,_,_,_,_,_,_,_,_,_,_,_,_,h=>by cases h
 | .str _,_,_,_,_,_,_,_,_,_,_,_,_,_,_,h=>by cases h
 | .lst _,_,_,_,_,_,_,_,_,_,_,_,_,_,_,h=>by cases h
 | .dK _ _,_,_,_,_,_,_,_,_,_,_,_,_,_,_,h=>by cases h
 | .dT _ _,_,_,_,_,_,_,_,_,_,_,_,_,_,_,h=>by cases h
theorem iI{op:CmpOp}{f:Int->Int->Bool}{g:Nat->Nat->Bool}(T:TOp op f g):∀{xs ys:List PV}{n:Nat}{A:Around}{s:Shared}{vs ws:List Value}{as bs:List Addr}{t:Bool},ReadsAll s.heap vs (cL xs) as->ReadsAll s.heap ws (cL ys) bs->xs.all (dv n)=true->ys.all (dv n)=true->A.units+n<cLine->vw f g xs ys=some t ->
  ∃o:Option Bool,OW op A s (vs.zip ws) o/\t=o.getD (g vs.length ws.length)
 | [],ys,_,_,_,_,_,_,_,_,ra,rb,_,_,_,h=>by
  cases h;cases ra;exact⟨none,.nil,by rw[i8 rb];rfl⟩
 | x::xs,[],_,_,_,_,_,_,_,_,ra,rb,_,_,_,h=>by
  cases h;cases rb;exact⟨none,by rw[List.zip_nil_right];exact .nil,by rw[i8 ra];exact(T.s1 _).symm⟩
 | x::xs,y::ys,n,A,s,_,_,_,_,t,ra,rb,fa,fb,hu,h=>by
  rw[LL,JJ]at fa fb;cases ra with
  | cons r rs =>
   cases rb with
   | cons r' rs' =>
    obtain⟨c1,d1⟩:=di fa.1;obtain⟨c2,d2⟩:=di fb.1;have he:=SeqAt.eqAt_reads (gE x) (gE y) A s _ _ _ _ r r' c1 c2 (by omega);rw[iD]at he;have h:(if nU x y=true then vw f g xs ys else IY f g x y)=some t:=h;cases e:nU x y with
    | true =>
     rw[e]at h he;obtain⟨o,ow,z⟩:=iI T rs rs' fa.2 fb.2 hu h;refine⟨o,.eq he ow,?_⟩;rw[z,JY,JY,T.s2]
    | false =>
     rw[e]at h he;exact⟨some t,.ne he (zd T r r' fa.1 fb.1 hu h),rfl⟩
end
variable(X Hi)in
noncomputable def HH(f:Int->Int->Bool)(g:Nat->Nat->Bool):R2:=λx y H Q=>∃a b t,dv 12 a=true/\dv 12 b=true/\Rp X.K Hi false a H x/\Rp X.K Hi false b H y/\IY f g a b=some t/\Q (.bl t) H
theorem EX(T:TOp d f g)(B:X.A.units+64<cLine):d7 X (compareOp d) (HH X Hi f g):=by intro c s r H x y u v Q I k n h;obtain⟨a,b,t,i,j,p,l,e,q⟩:=h;obtain⟨w,m⟩:=bK I i p k;obtain⟨C,o⟩:=bK I j l n;have z:=zd T (A:=X.A) m o i j (by omega) e;rw[T.co];exact z _ _ _ _ ⟨.bl _,H,I,rfl,q⟩
theorem Db(l b:Addr)(xs ys:Array Value)(n n2:Nat)(d1 d2:Option Addr)(sl sl2:Array (Option Value)):Meets (Builtin.«tuple.__lt__» ⟨[.ref l,.ref b],[]⟩)
  (λA R s=>s.heap.get? l=some ⟨.type "tuple",d1,.seq xs n,sl⟩/\s.heap.get? b=some ⟨.type "tuple",d2,.seq ys n2,sl2⟩ /\ ∃t:Option Bool,OW .Lt A.in1 s (xs.toList.zip ys.toList) t/\R (.ok (.ret (.bool (t.getD (decide (xs.size<ys.size)))))) s) :=
 .of_wp λprog w A R s h=>by
  obtain⟨hp,g,d,tk,os⟩:=s;obtain⟨h1,h2,t,ow,hR⟩:=h;have f2:=AutoSeq1.sub_tuple_tuple
  wp_walk using Jf h1,Jf h2,wpAny_forIn_list _ (λaE c s' =>c.1=none/\s' =⟨hp,g,d,tk,os⟩/\∃t:Option Bool,OW .Lt A.in1 ⟨hp,g,d,tk,os⟩ aE t/\R (.ok (.ret (.bool (t.getD (decide (xs.size<ys.size)))))) ⟨hp,g,d,tk,os⟩) _
  case turn =>
   rintro⟨y,x⟩ aE c s' ⟨hc,rfl,t,ow,hR⟩;cases ow with
   |eq he ow =>
    refine JD (he prog w _ _ ?_)
    wp_walk
    exact⟨rfl,rfl,t,ow,hR⟩
   |ne he hl =>refine JD (he prog w _ _ ?_);refine JD (L8 (JD (hl prog w _ _ ?_)));refine JD (Ja (Ja ?_));exact Ja ⟨_,rfl,hR⟩
  case fin =>
   rintro⟨c1,c2⟩ s' ⟨hc,rfl,t,ow,hR⟩;cases ow;simp only at hc;subst hc
   wp_walk
   exact⟨_,rfl,by simpa [Builtin.Tuple.tupleCompareSizes]using hR⟩
  case h =>exact⟨rfl,rfl,t,ow,hR⟩
theorem vX(u:s.heap.IsTuple l c)(x:s.heap.IsTuple b a)(v:A.units<cLine)(q:OW .Lt A.in1 s (c.toList.zip a.toList) t):qf .Lt A s (.ref l) (.ref b) (t.getD (decide (c.size<a.size))):=λprog w E Q h=>by obtain⟨⟨B,o,D,k⟩,i,d,n,g⟩:=id u;obtain⟨⟨C,p,y,r⟩,e,j,m,f⟩:=id x;simp only at d g j f;subst d g j f;exact richCompare_meets_room (op:=.Lt) ⟨_,i,rfl⟩ ⟨_,e,rfl⟩ PySem.F.slot_tuple_lt PySem.F.entry_tuple_lt (PySem.F.args_tuple_lt_2 _ _) (Db l b c a n m o p k r) ⟨i,e,t,q,(λz=>nomatch z),h⟩ v
theorem uA:TOp .Lt (λi j=>decide (i<j)) λa b=>decide (a<b):=⟨λ_ _ _ _ q=>PyProof.Rows.lt_int q,vX,λ_ _=>rfl,λn=>rfl,λa b=>ME.mpr (by omega)⟩
theorem yK(c:X.A.units+64<cLine):d7 X (compareOp .Lt) (HH X Hi (λi j=>decide (i<j)) λa b=>decide (a<b)):=EX uA c
theorem g9{y:PV}{k:ag}{n:Bool}{G:Hp}{v:V}(h:dQ y=some k)(r:Rp X.K Hi n y G v):v=kV k:=by
 cases y with
 | int i=>cases h;exact Rp.int.mp r
 | str z=>cases h;exact Rp.str.mp r
 | _=>cases h
theorem Rp.dT{n:Bool}{a:List (List ag)}{b:List PV}{G:Hp}{u:V}(h:Rp X.K Hi n (.dT a b) G u):∃p us,u=.ref p/\G p=some (.dT (a.zip us))/\a.length=us.length/\aG X.K Hi n b (IR.del G p) us:=by unfold Rp at h;obtain⟨p,us,e,_,c,f,d⟩:=h;exact⟨p,us,e,c,f,d⟩
theorem Rp.dK{n:Bool}{a:List ag}{b:List PV}{G:Hp}{u:V}(h:Rp X.K Hi n (.dK a b) G u):∃p us,u=.ref p/\G p=some (.dK (a.zip us))/\a.length=us.length/\aG X.K Hi n b (IR.del G p) us:=by unfold Rp at h;obtain⟨p,us,e,_,c,f,d⟩:=h;exact⟨p,us,e,c,f,d⟩
noncomputable def rDIn(g:Bool->Bool):R2:=λx y H Q=>∃a o,y=.ref a/\iQ H a x o/\Q (.bl (g o.isSome)) H
theorem EV(e:X.A.units+64<cLine):d7 X (compareOp .In) (rDIn id):=by intro b s f H x y u v Q I c d h;obtain⟨a,o,rfl,g,q⟩:=h;cases d;exact d_in (by omega) I g c λs' I' =>⟨.bl o.isSome,H,I',rfl,q⟩
end
end IR
namespace TS
open PySem PySem.W PyProof.Rows
theorem yA{i o:Type}{f:i->o}{m n:List o}(h:m.Perm n):∀{l:List i},n=l.map f->∃d:List i,d.Perm l/\m=d.map f:=by
 induction h with
 |nil =>intro l e;exact⟨l,Kr _,e⟩
 |cons x _ v =>intro l e;obtain⟨a,r,rfl,rfl,c⟩:=Ln.mp e.symm;obtain⟨d,p,z⟩:=v c.symm;exact⟨a::d,p.cons a,by rw[z];rfl⟩
 |swap x y r =>intro l e;obtain⟨a,A,rfl,rfl,c⟩:=Ln.mp e.symm;obtain⟨b,k,rfl,rfl,rfl⟩:=Ln.mp c;exact⟨b::a::k,List.Perm.swap a b k,rfl⟩
 |trans _ _ g j =>intro l e;obtain⟨w,u,c⟩:=j e;obtain⟨t,s,q⟩:=g c;exact⟨t,s.trans u,q⟩
section
variable{prog:Program}{w:World}{A:Around}{E:Value->Shared->Prop}{s:Shared}
theorem Bl{a:Addr}{c:List Value}{n:Nat}{κ:SortKind}{key:Nat->Int}{P:PySem.Fin->Shared->Prop}(G:s.heap.get? a=some (seqObj "list" c.toArray n))(I:2<=c.length)(X:c.length<4096)
  (R:∀i j,i<c.length->j<c.length->c.getD i Value.none=c.getD j Value.none->key i=key j)
  (V:∀(l:Shared)(Q:SortKind->Shared->Prop),(∀b o,b≠a->s.heap.get? b=some o->l.heap.get? b=some o)->Q κ l->wpAny (model prog w) A (keyKind' c.toArray) Q E l)
  (U:∀(l:Shared) i j (E:Value->Shared->Prop) C,(∀b o,b≠a->s.heap.get? b=some o->l.heap.get? b=some o)->i<c.length->j<c.length->C (decide (key i<key j)) l->wpAny (model prog w) A (keyLt' κ (c.getD i Value.none) (c.getD j Value.none)) C E l)
  (h:∀f:List Nat,f.Perm (List.range c.length)->(f.map key).Pairwise (·<=·)->P (.done (.ret .none)) {s with heap:=sortedHeap s.heap a c (f.map λi=>c.getD i Value.none).toArray}) :
  wpAny (model prog w) A (Builtin.«list.sort» ⟨[.ref a],[]⟩) P E s:=by
 have Z:a<s.heap.objs.size:=JV G;rw[list_sort_plain];refine JD (listItems_at G rfl (JD (listUpdate_at G rfl ?_ (by rw[JO,Ka];omega) (J0 _))));obtain⟨r,M⟩:∃r,(s.heap.update a (Obj.mapSeq λ_=>(#[]:Array Value))).get? a=some (seqObj "list" #[] r):=⟨_,get?_update_seq G λ_=> #[]⟩;refine JD (seqEpoch_at M rfl (JD (wpAny_newTuple ?_ (by show c.length<=_;rw[Ka];omega))));refine JD (wpAny_newList ?_ (J0 _));refine LW ?_;have J:(((s.heap.update a (Obj.mapSeq λ_=>(#[]:Array Value))).push (seqObj "tuple" c.toArray 0)).push (seqObj "list" #[] 0)).get? a=some (seqObj "list" #[] r):=JG _ (JG _ M)
 have F:∀b o,b≠a->s.heap.get? b=some o->(((s.heap.update a (Obj.mapSeq λ_=>(#[]:Array Value))).push (seqObj "tuple" c.toArray 0)).push (seqObj "list" #[] 0)).get? b=some o:=λb o nb e =>JG _ (JG _ (by rw[MG _ _ (L1 nb)];exact e))
 show wpAny (model prog w) A _ P E {s with heap:=((s.heap.update a (Obj.mapSeq λ_=>(#[]:Array Value))).push (seqObj "tuple" c.toArray 0)).push (seqObj "list" #[] 0)};dsimp only;have K:¬c.toArray.size<2:=by rw[JO];omega
 rw[JE K,JE K];refine JD (V _ _ F ?_);have N:∀x:Keyed,(∃i,i<c.length/\x=(c.getD i Value.none,c.getD i Value.none))->∃k:Int,∃i,i<c.length/\x=(c.getD i Value.none,c.getD i Value.none)/\k=key i:=λx ⟨i,d,e⟩=>⟨key i,i,d,e,rfl⟩;obtain⟨v,g⟩:∃v:Keyed->Int,∀x,(∃i,i<c.length/\x=(c.getD i Value.none,c.getD i Value.none))->∃i,i<c.length/\x=(c.getD i Value.none,c.getD i Value.none)/\v x=key i:=by refine⟨λx=>open Classical in if h:∃i,i<c.length/\x=(c.getD i Value.none,c.getD i Value.none)then(N x h).choose else 0,λx h=> ?_⟩;obtain⟨i,d,e,z⟩:=(N x h).choose_spec;exact⟨i,d,e,by simp only[dif_pos h];exact z⟩
 have t:∀i,i<c.length->v (c.getD i Value.none,c.getD i Value.none)=key i:=λi d=>by obtain⟨j,u,e,z⟩:=g _ ⟨i,d,rfl⟩;rw[z];exact R j i u d (LC e).1.symm
 have L:(c.toArray.zip c.toArray).toList=(List.range c.length).map λi=>(c.getD i Value.none,c.getD i Value.none):=by
  rw[Array.toList_zip]
  apply List.ext_getElem (by simp)
  intro i Y I;have:i<c.length:=by simpa using I
  simp[this]
 refine JD (K0 (show wpS (model prog w) A E {s with heap:=((s.heap.update a (Obj.mapSeq λ_=>(#[]:Array Value))).push (seqObj "tuple" c.toArray 0)).push (seqObj "list" #[] 0)} sortRuns' (λ_ m =>∃f:List Nat,f.Perm (List.range c.length)/\(f.map key).Pairwise (·<=·)/\(arrOf m).map (·.2)=(f.map λi=>c.getD i Value.none).toArray/\failedOf m =none) (SortSt.mk' κ (c.toArray.zip c.toArray) #[] 7 none)from Dy (kf:=v) (κ:=κ) (D:=λx=>∃i,i<c.length/\x=(c.getD i Value.none,c.getD i Value.none)) (a₀:=(c.toArray.zip c.toArray).toList) (λx y dx dy E C q=> ?_) (λx hx=> ?_) rfl rfl rfl rfl λst' f1 f2 H=> ?_) ?_ λ_ _ e=>e)
 ·obtain⟨i,d,r,S⟩:=g x dx
  obtain⟨j,u,T,O⟩:=g y dy;rw[S,O]at q;rw[r,T];exact U _ i j E C F d u q
 ·rw[L]at hx
  obtain⟨i,d,rfl⟩:=JX.mp hx;exact⟨i,Js.mp d,rfl⟩
 ·obtain⟨f,p,z⟩:=yA f2 L
  refine⟨f,p,?_,?_,f1⟩
  ·rw[z]at H
   have H:=Li.mp H;rw[Li];exact H.imp_of_mem λ{i j} d u le=>by rw[t i (Js.mp (p.mem_iff.mp d)),t j (Js.mp (p.mem_iff.mp u))]at le;exact le
  ·apply Array.toList_inj.mp
   rw[Array.toList_map,z,J4];rfl
 ·rintro⟨⟨⟩,m⟩ s' ⟨rfl,f,p,z,B,W⟩
  dsimp only;rw[B];refine JD (seqEpoch_at J rfl ?_);refine JD (listUpdate_at J rfl ?_ (J0 _) (by rw[JO,JC,p.length_eq,Je,Ka];omega));rw[W];simp only[bne_self_eq_false,Lb,Ly];exact Ja (h f p z)
theorem xD{l:Addr}{vs:List Value}{κ:SortKind}{key:Nat->Int}{Q:Value->Shared->Prop}(hl:s.heap.IsList l vs.toArray)(hz:vs.length<4096)
  (hd:∀i j,i<vs.length->j<vs.length->vs.getD i Value.none=vs.getD j Value.none->key i=key j)
  (hk:2<=vs.length->∀(E:Value->Shared->Prop)(s1:Shared)(Q:SortKind->Shared->Prop),(∀b o,s.heap.get? b=some o->s1.heap.get? b=some o)->Q κ s1->wpAny (model prog w) A.in1.in1 (keyKind' vs.toArray) Q E s1)
  (hc:∀(s1:Shared) i j (E:Value->Shared->Prop) C,(∀b o,s.heap.get? b=some o->s1.heap.get? b=some o)->i<vs.length->j<vs.length->C (decide (key i<key j)) s1->wpAny (model prog w) A.in1.in1 (keyLt' κ (vs.getD i Value.none) (vs.getD j Value.none)) C E s1)
  (h:∀js:List Nat,js.Perm (List.range vs.length)->(js.map key).Pairwise (·<=·)->Q (.ref (s.heap.objs.size+1)) {s with heap:=sortedAll s.heap vs (js.map λi=>vs.getD i Value.none).toArray}) :
  wpAny (model prog w) A (call (.builtin "sorted") [.ref l]) Q E s:=by
 refine Calls.call_function_entry kind_sorted plain_sorted entry_sorted (args_sorted1 _) ?_;unfold Builtin.«sorted»;refine JD (m:=checkCount "sorted" 1 1 _) (Ja ?_);refine JD (collect_list hl ?_ (by rw[Ka];omega));refine JD (wpAny_newList ?_ (by rw[Ka];omega));have hsz:((s.heap.push (seqObj "list" #[] 0)).update s.heap.objs.size (Obj.mapSeq (·++vs.toArray))).objs.size=s.heap.objs.size+1:=by rw[Heap.size_update,size_push']
 have hoL:(((s.heap.push (seqObj "list" #[] 0)).update s.heap.objs.size (Obj.mapSeq (·++vs.toArray))).push (seqObj "list" vs.toArray 0)).get? (s.heap.objs.size+1)=some (seqObj "list" vs.toArray 0):=by rw[<- hsz];exact Jc _ rfl
 have keep:∀b o,s.heap.get? b=some o->(((s.heap.push (seqObj "list" #[] 0)).update s.heap.objs.size (Obj.mapSeq (·++vs.toArray))).push (seqObj "list" vs.toArray 0)).get? b=some o:=λb o e=>by have lt:b<s.heap.objs.size:=JV e;refine JG _ ?_;rw[MG _ _ (Lp lt)];exact JG _ e
 show wpAny _ _ _ _ _ {s with heap:=((s.heap.push (seqObj "list" #[] 0)).update s.heap.objs.size (Obj.mapSeq (·++vs.toArray))).push (seqObj "list" vs.toArray 0)};rw[hsz]
 by_cases h2:vs.length<2
 ·refine JD (LW (K9 slot_list_sort ⟨_,hoL,rfl⟩ entry_list_sort (SW.pW hoL h2 ⟨_,rfl,?_⟩) (args_list_sort _)))
  have q:=h (List.range vs.length) (Kr _) (SW.xM h2);rw[SW.rF h2]at q;exact Ja ⟨_,rfl,q⟩
 ·refine JD (LW (K9 slot_list_sort ⟨_,hoL,rfl⟩ entry_list_sort (Bl (κ:=κ) (key:=key) hoL (by omega) hz hd (λs1 Q1 k q1=> ?_) (λs1 i j E C k hi hj c=> ?_) λjs p z=>⟨_,rfl,Ja ⟨_,rfl,h js p z⟩⟩) (args_list_sort _)))
  ·exact hk (by omega) _ s1 Q1 (λb o e=>k b o (Jg (Kh (JV e))) (keep b o e)) q1
  ·exact hc s1 i j E C (λb o e=>k b o (Jg (Kh (JV e))) (keep b o e)) hi hj c
end
end TS
namespace IR
open PySem PySem.W PyProof.Rows L2
section
variable{prog:Program}{w:World}{A:Around}{E:Value->Shared->Prop}{s:Shared}
theorem ya(g:OW .Lt A s l o):∀i,(b&&i==0)=false->Q (o.getD a) s->KatLex prog w A b a Q l i s:=by
 induction g with
 |nil=>exact λi _ h=>kat_nil h|eq c _ d=>exact λi _ h=>kat_cons (c prog w _ _ (kat_yes (d (i+1) (by simp) h)))|ne c e=>exact λi f h=>kat_cons (c prog w _ _ (kat_no (by rw[f];exact kat_one _ _ (e prog w _ _ h))))
noncomputable abbrev cl:=vw (λi j=>decide (i<j)) λa b=>decide (a<b)
noncomputable def isInt:PV->Bool
 | .int _=>true|_=>false
noncomputable def isTu:PV->Bool
 | .tup _=>true|_=>false
noncomputable def uM(b:Bool):List PV->Bool
 |x::_=>if b then isInt x else isTu x|[]=>false
theorem Bj{b:Bool}{d c:List PV}{n:Nat}{v u:Value}{K S:List Addr}{t:Bool}{Q:Bool->Shared->Prop}(C:Reads s.heap v (gE (.tup d)) K)(O:Reads s.heap u (gE (.tup c)) S)(x:d.all (dv n)=true)(l:c.all (dv n)=true)(B:A.units+n<cLine)
  (H:uM b d=true) (I:uM b c=true) (e:cl d c=some t) (h:Q t s):wpAny (model prog w) A (keyLt' (tuples' b) v u) Q E s:=by
 cases C with
 | @tuple a o z m _ _ L V J g =>
  cases O with
  | @tuple X Y y U _ _ N W T p =>
   refine kat_lt L J N T ?_;cases b with
   |false =>obtain⟨o,k,e⟩:=iI uA (A:=A) (n:=n) g p x l B e;rw[JZ,JZ]at e;subst e;exact ya k 0 rfl h
   |true =>
    match d,c,H,I with
    | .int i::d,.int j::c,_,_ =>
     rw[LL,JJ]at x l
     generalize G:z.toList=vl at g
     generalize D:y.toList=wl at p
     have M:z.size=vl.length:=by rw[<- G,JZ]
     have P:y.size=wl.length:=by rw[<- D,JZ]
     rw[M,P];cases g with
     |cons r F =>
      cases p with
      |cons R f =>
       cases r;cases R;have e:(if nU (.int i) (.int j)=true then cl d c else some (decide (i<j)))=some t:=e;refine kat_cons (wpAny_eqBool_int (kat_go (λq=>kat_yes ?_) λq=>kat_no (oneLt_int ?_)))
       ·have q:i=j:=by simpa using q
        rw[JI (by show decide (i=j)=true;simpa using q)]at e;obtain⟨o,k,e⟩:=iI uA (A:=A) (n:=n) F f x.2 l.2 B e;refine ya k 1 rfl ?_;rw[JY,JY,show∀a b:Nat,decide (a+1<b+1)=decide (a<b)from λa b=>ME.mpr (by omega),<-e];exact h
       ·have q:¬i=j:=by simpa using q
        rw[JE (by show¬decide (i=j)=true;simpa using q)]at e;cases e;exact h
theorem va{vs:List Value}{xss:List (List PV)}{Q:SortKind->Shared->Prop}(h1:1<=vs.length)(r:ReadsAll s.heap vs (cL (xss.map .tup)) as)(f:∀xs∈xss,uM b xs=true)(h:Q (tuples' b) s):wpAny (model prog w) A (keyKind' vs.toArray) Q E s:=by
 obtain⟨fs,hf,hl,hi⟩:∃fs,KatTups s.heap vs fs/\fs.length=vs.length/\∀v∈fs,Looks (model prog w) s.heap (typeOf v) (.type (if b then "int" else "tuple")):=by
  clear h1 h
  induction xss generalizing vs as with
  |nil =>cases r;exact⟨[],.nil,rfl,λv hv=>by cases hv⟩
  |cons xs xss ih =>
   cases r with
   |cons r rs =>
    obtain⟨fs,a1,a2,a3⟩:=ih rs λxs hx=>f xs (JF _ hx);have f1:=f xs JL;cases r with
    | @tuple a o us m _ _ k1 k2 k3 k4 =>
     match xs,f1 with
     |x::xs,f1 =>
      generalize hv:us.toList=ul at k4
      cases k4 with
      | @cons v vs' _ _ _ _ r' rs' =>
       refine⟨v::fs,KatTups.cons k1 k2 k3 (by rw[<- Jt,hv];rfl) a1,by simp[a2],λz hz=> ?_⟩
       rcases JU.mp hz with q|q
       ·subst q
        cases b with
        |true =>
         match x,f1 with
         | .int i,_ =>cases r';exact .now
        |false =>
         match x,f1 with
         | .tup ys,_ =>
          cases r' with
          | @tuple a' o' us' m' _ _ l1 l2 l3 l4 =>have:=(show Looks (model prog w) s.heap (typeOf (.ref a')) o'.cls from(Looks.ld l1).andThen .now);rw[l2]at this;exact this
       ·exact a3 z q
 have q:=kat_kind (M:=model prog w) (A:=A) (E:=E) (Q:=Q) (T:=.type (if b then "int" else "tuple")) hf (by omega) hi (by cases b<;>decide);refine q ?_;cases b<;>exact h
theorem Bp(l c:Addr)(b e:Array Value)(n B:Nat)(y z:Option Addr)(J t:Array (Option Value))(k:Nat):∀i:Nat,b.size-i=k->Meets (Builtin.«list.__eq__.loop» ⟨[.ref l,.ref c,rawInt i,rawInt 0],[]⟩)
  (λA R s=>s.heap.get? l=some ⟨.type "list",y,.seq b n,J⟩/\s.heap.get? c=some ⟨.type "list",z,.seq e B,t⟩ /\ ∃o:Option Bool,OW .Lt A.in1 s ((b.toList.drop i).zip (e.toList.drop i)) o/\R (.ok (.ret (.bool (o.getD (decide (b.size<e.size)))))) s):=by
 induction k with
 |zero =>
  intro i M a w A R s h;obtain⟨I,g,d,F,K⟩:=s;obtain⟨m,j,o,f,q⟩:=h;have p:b[((i:Nat):Int).toNat]? =none:=by simp;omega
  rw[show b.toList.drop i=[]by simp;omega]at f;cases f
  wp_walk using Jf m,Jf j
  rw[p]
  wp_walk using Jf m,Jf j
  exact q
 |succ k D =>
  intro i M a w A R s h;obtain⟨I,g,d,F,K⟩:=s;obtain⟨m,j,o,f,q⟩:=h;have v:i<b.size:=by omega
  have p:b[((i:Nat):Int).toNat]? =some b[i]:=by simp[v]
  have C:b.toList.drop i=b[i]::b.toList.drop (i+1):=by simp[KN,v]
  by_cases x:i<e.size
  ·have r:e[((i:Nat):Int).toNat]? =some e[i]:=by simp[x]
   have L:e.toList.drop i=e[i]::e.toList.drop (i+1):=by simp[KN,x]
   rw[C,L,Kp]at f
   wp_walk using Jf m,Jf j
   rw[p,r];cases f with
   |eq u f =>
    refine JD (u a w _ _ ?_);have H:((i:Int)+1)=((i+1:Nat):Int):=by push_cast;rfl
    wp_walk
    rw[H]
    exact⟨plainId_quiet MB _,codeAny_builtin MeetsSeq3.entry_eq_loop (by rw[Around.under_plainId MB _];exact D (i+1) (by omega) a w A R _ ⟨m,j,o,f,q⟩)⟩
   |ne u G =>
    refine JD (u a w _ _ ?_);rw[JE (by simp)]
    wp_walk using Jf m,Jf j
    rw[p,r];refine JD (G a w _ _ ?_)
    wp_walk
    exact q
  ·have r:e[((i:Nat):Int).toNat]? =none:=by simp;omega
   rw[show e.toList.drop i=[]by simp;omega,List.zip_nil_right]at f;cases f
   wp_walk using Jf m,Jf j
   rw[p,r]
   wp_walk using Jf m,Jf j
   exact q
theorem Br(l c:Addr)(f e:Array Value)(n m:Nat)(j k:Option Addr)(q a:Array (Option Value)):Meets (Builtin.«list.__lt__» ⟨[.ref l,.ref c],[]⟩)
  (λA R s=>s.heap.get? l=some ⟨.type "list",j,.seq f n,q⟩/\s.heap.get? c=some ⟨.type "list",k,.seq e m,a⟩ /\ ∃o:Option Bool,OW .Lt A.in1 s (f.toList.zip e.toList) o/\R (.ok (.ret (.bool (o.getD (decide (f.size<e.size)))))) s):=by
 intro b w A R s h;obtain⟨t,g,d,r,u⟩:=s;obtain⟨p,i,h⟩:=h;have v:=AutoSeq1.sub_list_list
 wp_walk using Jf p,Jf i
 exact⟨plainId_quiet MB _,codeAny_builtin MeetsSeq3.entry_eq_loop (by rw[Around.under_plainId MB _];exact Bp l c f e n m j k q a _ 0 rfl b w A R _ ⟨p,i,h⟩)⟩
theorem Bk(r:Reads s.heap v (gE (.lst d)) D)(J:Reads s.heap u (gE (.lst b)) N)(M:d.all (dv n)=true)(C:b.all (dv n)=true)(R:A.units+n+2<cLine)
  (e:cl d b=some t) (h:Q t s):wpAny (model prog w) A (keyLt' oneType' v u) Q E s:=by
 cases r with
 | @list a o q m _ _ c f i z =>
  cases J with
  | @list G K x l _ _ H g j L =>obtain⟨P,p,U,k⟩:=o;obtain⟨S,y,O,I⟩:=K;simp only at f i g j;subst f i g j;obtain⟨o,B,e⟩:=iI uA (A:=A.in1) (n:=n) z L M C (by show A.units+1+n<cLine;omega) e;rw[JZ,JZ]at e;subst e;rw[keyLt'_oneType,oneLt'_eq];simp only[LX];refine JD (wpAny_cRoomFor (by omega) ?_);exact JD (wpAny_callSpecialIfBound?_slot (T:="list") ⟨_,c,rfl⟩ PySem.F.slot_list_lt (ML PySem.F.slot_list_lt ⟨_,c,rfl⟩ PySem.F.entry_list_lt (PySem.F.args_list_lt_2 _ _) (Br a G q x m l p y k I) ⟨c,H,o,B,Ky h⟩))
theorem vb{b:List Value}{xss:List (List PV)}{Q:SortKind->Shared->Prop}(c:2<=b.length)(r:ReadsAll s.heap b (cL (xss.map .lst)) d)(h:Q oneType' s):wpAny (model prog w) A (keyKind' b.toArray) Q E s:=by
 refine kas_kind (T:=.type "list") c (λv hv=> ?_) (by decide) (by decide) h
 clear c h
 induction xss generalizing b d with
 |nil =>cases r;cases hv
 |cons j xss g =>
  cases r with
  |cons r e =>
   rcases JU.mp hv with z|z
   ·subst z
    cases r with
    | @list a o us m _ _ i f l k =>
     have:=(show Looks (model prog w) s.heap (typeOf (.ref a)) o.cls from(Looks.ld i).andThen .now)
     rwa [f]at this
   ·exact g e z
end
noncomputable def nw(d:List PV)(c:Nat->Int):Prop:=(∀i j,i<d.length->j<d.length->gE (d.getD i .non)=gE (d.getD j .non)->c i=c j) /\ ∃a:List (List PV),((∃b,d=a.map .tup/\∀e∈a,uM b e=true)\/d=a.map .lst)/\∀i j,i<d.length->j<d.length->cl (a.getD i []) (a.getD j [])=some (decide (c i<c j))
theorem dO{h:Heap}:∀{a:List PV}{c:List Value}{d:List Addr}(i:Nat),ReadsAll h c (cL a) d->i<a.length->∃b,Reads h (c.getD i Value.none) (gE (a.getD i .non)) b
 |y::a,_,_,0,.cons r _,_=>⟨_,r⟩|y::a,_,_,i+1,.cons _ rs,h=>by obtain⟨b,z⟩:=dO i rs (by simpa using h);exact⟨b,by simpa using z⟩
mutual
theorem rM{h h' :Heap}(k:∀b o,h.get? b=some o->h'.get? b=some o):∀{v:Value}{d:PyData}{as:List Addr},Reads h v d as->Reads h' v d as
 | _,_,_,.none=>.none
 | _,_,_,.bool b=>.bool b
 | _,_,_,.int i t=>.int i t
 | _,_,_,.str x t=>.str x t
 | _,_,_,.list a b c d=>.list (k _ _ a) b c (af k d)
 | _,_,_,.tuple a b c d=>.tuple (k _ _ a) b c (af k d)
 | _,_,_,.dict a b c d e=>.dict (k _ _ a) b c (af k d) (af k e)
theorem af{h h' :Heap}(k:∀b o,h.get? b=some o->h'.get? b=some o):∀{vs:List Value}{ds:List PyData}{as:List Addr},ReadsAll h vs ds as->ReadsAll h' vs ds as
 | _,_,_,.nil=>.nil
 | _,_,_,.cons a b=>.cons (rM k a) (af k b)
end
theorem bI{a b:Type}(f:a->b)(l:List a)(d:a)(e:b)(i:Nat)(h:i<l.length):(l.map f).getD i e=f (l.getD i d):=by simp[h]
variable{X:Cx}{Hi:Hp}
theorem gF(hu:X.A.units+64<cLine):ba X (.builtin "sorted") (λxs H Q=>∃(p:Addr)(us:List V)(ys:List PV)(key:Nat->Int),xs=[.ref p]/\bJ X.K H p us/\aG X.K Hi false ys H us/\ys.all (dv 12)=true/\us.length<4096/\nw ys key /\ ∀a (js:List Nat),H a=none->js.Perm (List.range us.length)->(js.map key).Pairwise (·<=·)->Q (.ref a) (L2.upd H a (.lst (js.map λi=>us.getD i .non)))):=by
 intro pins s σ H xs us Q I r h;obtain⟨p,ws,ys,key,rfl,hq,hp,hf,hz,⟨hd,xss,hk,hc⟩,q⟩:=h;obtain⟨u,rfl,rx⟩:=vals1 r;cases rx;obtain⟨its,r',pl,hz'⟩:=I.list hq;have hlen:=r'.length;have hy:=hp.len;obtain⟨as,ra⟩:=eT I hf hp r';have fat:∀i,i<ys.length->dv 12 (ys.getD i .non)=true:=λi hi=>by
  have:=Jh.mp hf (ys[i]) (KY hi)
  simpa [hi]using this
 have un:X.A.in1.in1.units=X.A.units+2:=rfl
 obtain⟨κ,hkind,hcmp⟩:∃κ:SortKind,(2<=its.length->∀(E:Value->Shared->Prop)(s1:Shared)(Q:SortKind->Shared->Prop),(∀b o,s.heap.get? b=some o->s1.heap.get? b=some o)->Q κ s1->wpAny (model X.prog X.w) X.A.in1.in1 (keyKind' its.toArray) Q E s1) /\ ∀(s1:Shared) i j (E:Value->Shared->Prop) C,(∀b o,s.heap.get? b=some o->s1.heap.get? b=some o)->i<its.length->j<its.length->C (decide (key i<key j)) s1->wpAny (model X.prog X.w) X.A.in1.in1 (keyLt' κ (its.getD i Value.none) (its.getD j Value.none)) C E s1:=by
  rcases hk with⟨b,rfl,fb⟩|rfl
  ·refine⟨tuples' b,λh2 E s1 Q k q=>va (xss:=xss) (by omega) (af k ra) fb q,λs1 i j E C k hi hj c=> ?_⟩
   rw[JC]at hy;obtain⟨b1,r1⟩:=dO i (af k ra) (by rw[JC];omega);obtain⟨b2,r2⟩:=dO j (af k ra) (by rw[JC];omega);have f1:=fat i (by rw[JC];omega);have f2:=fat j (by rw[JC];omega);rw[bI PV.tup xss [] .non _ (by omega)]at r1 f1;rw[bI PV.tup xss [] .non _ (by omega)]at r2 f2;have m1:∀i,i<xss.length->xss.getD i []∈xss:=λi hi=>by simp[hi]
   exact Bj (n:=11) r1 r2 f1 f2 (by omega) (fb _ (m1 i (by omega))) (fb _ (m1 j (by omega))) (hc i j (by rw[JC];omega) (by rw[JC];omega)) c
  ·refine⟨oneType',λh2 E s1 Q k q=>vb (xss:=xss) h2 (af k ra) q,λs1 i j E C k hi hj c=> ?_⟩
   rw[JC]at hy;obtain⟨b1,r1⟩:=dO i (af k ra) (by rw[JC];omega);obtain⟨b2,r2⟩:=dO j (af k ra) (by rw[JC];omega);have f1:=fat i (by rw[JC];omega);have f2:=fat j (by rw[JC];omega);rw[bI PV.lst xss [] .non _ (by omega)]at r1 f1;rw[bI PV.lst xss [] .non _ (by omega)]at r2 f2;exact Bk (n:=11) r1 r2 f1 f2 (by omega) (hc i j (by rw[JC];omega) (by rw[JC];omega)) c
 refine TS.xD (κ:=κ) (key:=key) pl.isList (by omega) (λi j hi hj e=> ?_) hkind hcmp λjs pm pw=> ?_
 ·obtain⟨b1,r1⟩:=dO i ra (by omega)
  obtain⟨b2,r2⟩:=dO j ra (by omega);rw[e]at r1;exact hd i j (by omega) (by omega) (PySem.Reads.unique r1 _ _ r2).1
 obtain⟨c,hc'⟩:=sortedAll_at s.heap its (js.map λi=>its.getD i Value.none).toArray;rw[<- hlen]at pm;refine⟨.ref (s.heap.objs.size+1),_,I.laid (t' :=s.toks) (o:=.lst (js.map λi=>ws.getD i .non)) (λb o z=>sortedAll_old z) (Nat.le_succ _) ?_,rfl,q _ js (I.hok.fresh (Nat.le_succ _)) pm pw⟩;refine⟨?_,js.map λi=>its.getD i Value.none,c,aN.pick r' λj hj=>Js.mp (pm.mem_iff.mp hj),by simpa [seqObj]using hc'⟩;rw[JC,pm.length_eq,Je,Ka];omega
end IR
namespace IR
open PySem PySem.Spec PyProof.Rows L2
section
variable{X:Cx}{Hi:Hp}{τ:En}
theorem zL(h:eqs a b=some t)(ha:Rp X.K Hi false a H u)(hb:Rp X.K Hi false b H' v):Ds u v=true/\decide (u=v)=t:=by
  cases a<;>cases b<;>first
    | exact absurd (show(none:Option Bool)=some t from h) (by intro z;cases z)
    | (have e:=Jb (show some _=some t from h)
       subst e
       first
       | rw[Rp.int.mp ha]|rw[Rp.str.mp ha]|rw[Rp.bl.mp ha]|rw[Rp.non.mp ha]
       first
       | rw[Rp.int.mp hb]|rw[Rp.str.mp hb]|rw[Rp.bl.mp hb]|rw[Rp.non.mp hb]
       exact⟨rfl,by simp⟩)
theorem nS(c:Rp X.K Hi false a H u)(f:qE a=true):gC u=true:=by
 cases a with
 |non=>rw[Rp.non.mp c];rfl|bl b=>rw[Rp.bl.mp c];rfl|int b=>rw[Rp.int.mp c];rfl|str b=>rw[Rp.str.mp c];rfl|_=>cases f
theorem FV(c:Rp X.K Hi false a H u)(d:Rp X.K Hi false b g v)(e:qE a=true)(f:qE b=true):wV u v=CJ a b:=by
 cases a<;>(try cases e)<;>cases b<;>(try cases f) <;>
  (first|rw[Rp.int.mp c]|rw[Rp.str.mp c]|rw[Rp.bl.mp c]|rw[Rp.non.mp c]) <;>
  (first|rw[Rp.int.mp d]|rw[Rp.str.mp d]|rw[Rp.bl.mp d]|rw[Rp.non.mp d]) <;>
  first|rfl|exact beq_eq_decide _ _|exact(beq_eq_decide _ _).symm|(simp[wV,CJ,MD];done)|(unfold wV CJ;simp only[beq_eq_decide])
theorem ky:∀{c:List PV}{H:Hp}{us:List V},aG X.K Hi false c H us->c.all qE=true->us.all gC=true
 |[],_,_,h,_=>by unfold aG at h;subst h;rfl|x::c,_,_,h,f=>by unfold aG at h;obtain⟨u,r,rfl,a,b⟩:=h;rw[LL,JJ]at f ⊢;exact⟨nS a f.1,ky b f.2⟩
theorem se{x:PV}{g :Hp}{v:V}(e:Rp X.K Hi false x g v)(d:qE x=true):∀{c:List PV}{H:Hp}{us:List V},aG X.K Hi false c H us->c.all qE=true->inV v us=c.any λy=>CJ y x
 |[],_,_,h,_=>by unfold aG at h;subst h;rfl|y::c,_,_,h,f=>by unfold aG at h;obtain⟨u,r,rfl,a,b⟩:=h;rw[LL,JJ]at f;show(wV u v||inV v r)=_;rw[L0,se e d b f.2,FV a e f.1 d]
theorem Ef(c:Rp X.K Hi false a H u)(h:∀z,a≠z\/z≠PV.non):u≠.non:=by
 intro e;subst e;cases a with
 |non=>rcases h .non with z|z<;>exact z rfl
 |bl b=>cases Rp.bl.mp c|int b=>cases Rp.int.mp c|str b=>cases Rp.str.mp c|lst d=>obtain⟨p,us,z,_⟩:=Rp.lst.mp c;cases z
 |tup d=>obtain⟨p,us,z,_⟩:=Rp.tup.mp c;cases z
 |dK f g=>unfold Rp at c;obtain⟨p,us,z,_⟩:=c;cases z
 |dT f g=>unfold Rp at c;obtain⟨p,us,z,_⟩:=c;cases z
theorem qM(m:X.A.units+64<cLine)(h:cM C x.val y.val=some t):∃D:R2,d7 X (compareOp C) D /\ ∀(O:List Addr)(f:L2.St)(H d:Hp)(u v:V)(Q:VK),aT X.K Hi O τ f H->aB H d->aW X.K Hi O H d x u->aW X.K Hi O H d y v->Q (.bl t) d->D u v d Q:=by
 cases C with
 |Lt =>
  have h:zW x.val y.val=some t:=h;unfold zW at h
  split at h
  case h_1 i j g a=>cases h;exact⟨_,HX,λO f H d u v Q R s ru rv q=>⟨i,j,ru.int R s g,rv.int R s a,q⟩⟩
  case h_2 P B g a =>
   unfold ltT at h
   split at h
   ·rename_i c
    rw[JJ]at c;exact⟨_,yK (Hi:=Hi) m,λO f H d u v Q R s ru rv q=>⟨_,_,t,c.1,c.2,by have z:=ru.val R s;rw[g]at z;exact z,by have z:=rv.val R s;rw[a]at z;exact z,h,q⟩⟩
   ·cases h
  case h_3=>cases h
 |LtE =>
  have h:sL x.val y.val=some t:=h;unfold sL at h
  split at h
  case h_1 i j g a=>cases h;exact⟨_,HY,λO f H d u v Q R s ru rv q=>⟨i,j,ru.int R s g,rv.int R s a,q⟩⟩
  case h_2=>cases h
 |Gt =>
  have h:zZ x.val y.val=some t:=h;unfold zZ at h
  split at h
  case h_1 i j g a=>cases h;exact⟨_,HZ,λO f H d u v Q R s ru rv q=>⟨i,j,ru.int R s g,rv.int R s a,q⟩⟩
  case h_2=>cases h
 |GtE =>
  have h:sM x.val y.val=some t:=h;unfold sM at h
  split at h
  case h_1 i j g a=>cases h;exact⟨_,Ha,λO f H d u v Q R s ru rv q=>⟨i,j,ru.int R s g,rv.int R s a,q⟩⟩
  case h_2=>cases h
 |Eq =>
  have h:DP x.val y.val=some t:=h;unfold DP at h
  split at h
  ·rename_i z
   cases h;refine⟨_,DF,λO f H d u v Q R s ru rv q=> ?_⟩;obtain⟨w,o⟩:=zL z (ru.val R s) (rv.val R s);exact⟨w,by rw[o];exact q⟩
  ·split at h
   ·rename_i c
    rw[JJ]at c;cases h;exact⟨_,EW (Hi:=Hi) m,λO f H d u v Q R s ru rv q=>⟨_,_,c.1,c.2,ru.val R s,rv.val R s,q⟩⟩
   ·cases h
 |NotEq =>
  have h:(DP x.val y.val).map (!·)=some t:=h;obtain⟨k,e,rfl⟩:∃k,DP x.val y.val=some k/\t= !k:=by
   cases e:DP x.val y.val with
   |none=>rw[e]at h;cases h|some k=>rw[e]at h;cases h;exact⟨k,rfl,rfl⟩
  unfold DP at e
  split at e
  ·rename_i z
   cases e;refine⟨_,HW,λO f H d u v Q R s ru rv q=> ?_⟩;obtain⟨w,o⟩:=zL z (ru.val R s) (rv.val R s);exact⟨w,by rw[o];exact q⟩
  ·split at e
   ·rename_i c
    rw[JJ]at c;cases e;exact⟨_,ER (Hi:=Hi) m,λO f H d u v Q R s ru rv q=>⟨_,_,c.1,c.2,ru.val R s,rv.val R s,q⟩⟩
   ·cases e
 |Is =>
  have h:zX x.val y.val=some t:=h;unfold zX at h
  split at h
  case h_1 g a =>cases h;refine⟨_,yL,λO f H d u v Q R s ru rv q=> ?_⟩;have w:=ru.val R s;have o:=rv.val R s;rw[g]at w;rw[a]at o;exact⟨Rp.non.mp o,by rw[Rp.non.mp w];exact q⟩
  case h_2 a E =>
   cases h;refine⟨_,yL,λO f H d u v Q R s ru rv q=> ?_⟩;have o:=rv.val R s;rw[a]at o;have n:u≠.non:=Ef (ru.val R s) λz=>by by_cases c:z=.non;left;intro L;exact E (L.trans c);right;exact c
   exact⟨Rp.non.mp o,by rw[J2 n];exact q⟩
  case h_3 b c g a=>cases h;exact⟨_,EU,λO f H d u v Q R s ru rv q=>⟨b,c,ru.bl R s g,rv.bl R s a,q⟩⟩
  case h_4=>cases h
 |In =>
  have h:zY x.val y.val=some t:=h;unfold zY at h
  split at h
  case h_1 B a =>
   have e:B3 x.val B=some t:=h;unfold B3 at e
   split at e
   ·rename_i c
    cases e;refine⟨_,l6,λO f H d u v Q R s ru rv q=> ?_⟩;obtain⟨p,us,rfl,l,r⟩:=rv.lst R s a;exact⟨p,us,rfl,.inl l,nS (ru.val R s) c.1,ky r c.2,by rw[se (ru.val R s) c.1 r c.2];exact q⟩
   ·split at e
    ·rename_i c
     rw[JJ]at c;cases e;exact⟨_,yM (Hi:=Hi) m,λO f H d u v Q R s ru rv q=>⟨_,B,c.1,c.2,ru.val R s,.inl (by have z:=rv.val R s;rw[a]at z;exact z),q⟩⟩
    ·cases e
  case h_2 B a =>
   have e:B3 x.val B=some t:=h;unfold B3 at e
   split at e
   ·rename_i c
    cases e;refine⟨_,l6,λO f H d u v Q R s ru rv q=> ?_⟩;obtain⟨p,us,rfl,l,r⟩:=rv.tup R s a;exact⟨p,us,rfl,.inr l,nS (ru.val R s) c.1,ky r c.2,by rw[se (ru.val R s) c.1 r c.2];exact q⟩
   ·split at e
    ·rename_i c
     rw[JJ]at c;cases e;exact⟨_,yM (Hi:=Hi) m,λO f H d u v Q R s ru rv q=>⟨_,B,c.1,c.2,ru.val R s,.inr (by have z:=rv.val R s;rw[a]at z;exact z),q⟩⟩
    ·cases e
  case h_3 I N a =>
   obtain⟨k,M,rfl⟩:∃k,dQ x.val=some k/\t=B9 I k:=by
    cases e:dQ x.val with
    |none=>rw[e]at h;cases h|some k=>rw[e]at h;cases h;exact⟨k,rfl,rfl⟩
   refine⟨_,EV m,λO f H d u v Q R s ru rv q=> ?_⟩;have z:=rv.val R s;rw[a]at z;obtain⟨p,us,rfl,J,F,G⟩:=z.dK;rw[g9 M (ru.val R s)];exact⟨p,_,rfl,.k J,by rw[B8 G F];exact q⟩
  case h_4=>cases h
 |_=>exact absurd (show(none:Option Bool)=some t from h) (by intro z;cases z)
theorem DI(h:eF b=false):behindInMarks a b=false:=by cases b<;>first|rfl|cases h
theorem Fe(d:X.A.units+64<cLine)(g:aH X Hi τ a x)(j:aH X Hi τ b y)(i:eF b=false)(h:cM e x.val y.val=some t):aH X Hi τ (.Compare a [e] [b] pos) (sc (.bl t)):=by obtain⟨l,f,k⟩:=qM (X:=X) (Hi:=Hi) (τ:=τ) d h;intro O c H Q R q;refine we (BN f aS aS (DI i)) ?_;refine g O c H _ R λu H1 s1 r1=>j O c H1 _ (R.ext s1) λv H2 s2 r2=> ?_;exact k O c H H2 u v Q R (s1.trans s2) (r1.ext s2) (r2.back s1) (q _ _ (s1.trans s2) Du)
theorem Fd(d:X.A.units+64<cLine)(g:aH X Hi τ a x)(j:aH X Hi τ b y)(i:eF b=false)(h:cM e x.val y.val=some t):fP X Hi τ (.Compare a [e] [b] pos) t:=by obtain⟨l,f,k⟩:=qM (X:=X) (Hi:=Hi) (τ:=τ) d h;intro O c H Q R q;refine wt (tX f aS aS (DI i)) ?_;refine g O c H _ R λu H1 s1 r1=>j O c H1 _ (R.ext s1) λv H2 s2 r2=> ?_;exact k O c H H2 u v _ R (s1.trans s2) (r1.ext s2) (r2.back s1) ⟨t,rfl,q _ (s1.trans s2)⟩
theorem Eh(c:aH X Hi τ a x)(e:x.val=.int i):aH X Hi τ (.UnaryOp .USub a pos) (sc (.int (-i))):=by intro O b H Q R q;refine we (HN DZ aS) ?_;exact c O b H _ R λu H1 s1 r1=>⟨i,r1.int R s1 e,q _ _ s1 xN⟩
theorem Ee(d:aH X Hi τ a x)(e:x.val=.bl b):aH X Hi τ (.UnaryOp .Not a pos) (sc (.bl !b)):=by intro O c H Q R q;refine we (EK aS) ?_;exact d O c H _ R λu H1 s1 r1=>⟨b,r1.bl R s1 e,q _ _ s1 Du⟩
theorem Eb(b:aH X Hi τ a x):aH X Hi τ (.BoolOp d [a] pos) x:=by intro O c H Q R q;exact we (EJ aS) (b O c H _ R q)
theorem Il(f:aH X Hi τ a x)(e:x.val=.bl true)(g:aH X Hi τ (.BoolOp .And (b::c) pos) y):aH X Hi τ (.BoolOp .And (a::b::c) pos) y:=by intro O d H Q R q;refine we (yH aS aS) ?_;exact f O d H _ R λu H1 s1 r1=>⟨true,r1.bl R s1 e,rh (g O d H1 _ (R.ext s1) λw H2 s2 r2=>q w H2 (s1.trans s2) (r2.back s1))⟩
theorem Im(f:aH X Hi τ a x)(e:x.val=.bl false):aH X Hi τ (.BoolOp .And (a::b::c) pos) (sc (.bl false)):=by intro O d H Q R q;refine we (yH aS aS) ?_;exact f O d H _ R λu H1 s1 r1=>⟨false,r1.bl R s1 e,rj (q _ _ s1 Du)⟩
theorem or_f(f:aH X Hi τ a x)(e:x.val=.bl false)(g:aH X Hi τ (.BoolOp .Or (b::c) pos) y):aH X Hi τ (.BoolOp .Or (a::b::c) pos) y:=by intro O d H Q R q;refine we (DC aS aS) ?_;exact f O d H _ R λu H1 s1 r1=>⟨false,r1.bl R s1 e,rj (g O d H1 _ (R.ext s1) λw H2 s2 r2=>q w H2 (s1.trans s2) (r2.back s1))⟩
theorem or_t(f:aH X Hi τ a x)(e:x.val=.bl true):aH X Hi τ (.BoolOp .Or (a::b::c) pos) (sc (.bl true)):=by intro O d H Q R q;refine we (DC aS aS) ?_;exact f O d H _ R λu H1 s1 r1=>⟨true,r1.bl R s1 e,rh (q _ _ s1 Du)⟩
theorem Ev(e:fP X Hi τ c t)(h:aH X Hi τ (if t=true then a else b) r):aH X Hi τ (.IfExp c a b pos) r:=by
 intro O d H Q R q;refine we (yF kK aS aS) ?_;refine e O d H _ R λH1 s1=> ?_;cases t with
 |true=>exact rh ((show aH X Hi τ a r from h) O d H1 _ (R.ext s1) λw H2 s2 r2=>q w H2 (s1.trans s2) (r2.back s1))|false=>exact rj ((show aH X Hi τ b r from h) O d H1 _ (R.ext s1) λw H2 s2 r2=>q w H2 (s1.trans s2) (r2.back s1))
theorem wu(h:og v=some b)(r:Rp X.K Hi false v H u):GA X.K u H b:=by
 cases v with
 |non=>cases h;rw[Rp.non.mp r];rfl|bl c=>cases h;rw[Rp.bl.mp r];rfl|int i=>cases h;rw[Rp.int.mp r];rfl|str z =>
  have h:(if z.length<=LN then some ((z.length:Int) !=0)else none)=some b:=h
  split at h
  ·rename_i c
   cases h;rw[Rp.str.mp r];exact⟨by rw[cJ];exact c,rfl⟩
  ·cases h
 |lst a =>cases h;obtain⟨p,us,rfl,_,l,r⟩:=Rp.lst.mp r;have:=r.len;exact .inl ⟨us,l,by cases a<;>cases us<;>simp_all⟩
 |tup a =>cases h;obtain⟨p,us,rfl,l,r⟩:=Rp.tup.mp r;have:=r.len;exact .inr (.inl ⟨us,l,by cases a<;>cases us<;>simp_all⟩)
 |dK d e =>cases h;unfold Rp at r;obtain⟨p,us,rfl,_,l,z,r⟩:=r;exact .inr (.inr ⟨_,l,by cases d<;>cases us<;>simp_all⟩)
 |dT d e=>cases h
theorem DY(d:aH X Hi τ e x)(h:og x.val=some b)(c:∀a,isTrue e X.env a=(do let v<-a;standAt e.pos;holding [v] (truthy v))):fP X Hi τ e b:=by intro O f H Q R q;refine wt (xa aS c) ?_;exact d O f H _ R λu H1 s1 r1=>⟨b,wu h (r1.val R s1),q _ s1⟩
theorem Ed(d:fP X Hi τ a b):fP X Hi τ (.UnaryOp .Not a pos) !b:=by intro O c H Q R q;exact wt (EE kK) (d O c H _ R λH1 s1=>q _ s1)
noncomputable def lj(X:Cx)(g:Hp)(h:En)(e:Expr)(b:Bool):Prop:=∀(O:List Addr)(d:L2.St)(H:Hp)(Q:Bool->Hp->Prop),aT X.K g O h d H->(∀f,aB H f ->Q b f) -> ∀(c:Sem Value)(a:List (Addr×Obj))(s:Shared),Inv X a d H s->wpAny (model X.prog X.w) X.A (isTrue e X.env c) (TP X a d Q) X.xe s
theorem HJ:PW X e (λσ H Q=>∀(b:Sem Value)(a:List (Addr×Obj))(s:Shared),Inv X a σ H s->wpAny (model X.prog X.w) X.A (isTrue e X.env b) (TP X a σ Q) X.xe s):=λwh a s σ H Q I h=>h wh a s I
theorem lj.tc(h:lj X Hi τ e b):fP X Hi τ e b:=λO σ H Q R q pins s I=>h O σ H Q R q _ pins s I
theorem Ea(e:fP X Hi τ a b):lj X Hi τ (.BoolOp g [a] pos) b:=by
 intro O d H Q R q f c s I;cases g with
 |And=>exact BA kK f c s d H Q I (e O d H Q R q)|Or=>exact D7 kK f c s d H Q I (e O d H Q R q)
theorem AG(g:fP X Hi τ a t)(d:if t=true then lj X Hi τ (.BoolOp .And (b::f) pos) u else u=false):lj X Hi τ (.BoolOp .And (a::b::f) pos) u:=by
 intro O e H Q R q h c s I;refine D8 kK HJ h c s e H Q I ?_;refine g O e H _ R λH1 s1=> ?_;cases t with
 |true=>exact rh ((show lj X Hi τ _ u from d) O e H1 _ (R.ext s1) λH2 s2=>q _ (s1.trans s2))|false =>have d:u=false:=d;subst d;exact rj (q _ s1)
theorem DD(g:fP X Hi τ a t)(d:if t=true then u=true else lj X Hi τ (.BoolOp .Or (b::f) pos) u):lj X Hi τ (.BoolOp .Or (a::b::f) pos) u:=by
 intro O e H Q R q h c s I;refine HK kK HJ h c s e H Q I ?_;refine g O e H _ R λH1 s1=> ?_;cases t with
 |false=>exact rj ((show lj X Hi τ _ u from d) O e H1 _ (R.ext s1) λH2 s2=>q _ (s1.trans s2))|true =>have d:u=true:=d;subst d;exact rh (q _ s1)
end
end IR
namespace L2
open PySem PySem.Spec PyProof.Rows
section
variable{X:Cx}
inductive Ir(K:W.Frag)(H:Hp):V->Value->Prop where
 | of {x:V} {t:Value} (h:jU K H x t):Ir K H x t
 | lst {a:Addr} {xs:List V} (e:bJ K H a xs):Ir K H (.ref a) (.type "list")
 | tup {a:Addr} {xs:List V} (e:cA K H a xs):Ir K H (.ref a) (.type "tuple")
theorem sQ:ba X (.builtin "isinstance") (λxs H Q=>∃x c t b,xs=[x,.ty c]/\Ir X.K H x t/\W.kitOne X.K t (.type c)=some b/\Q (.bl b) H):=by
 intro pins s σ H xs us Q I r h;obtain⟨x,c,t,b,rfl,ty,e,q⟩:=h;obtain⟨u,w',rfl,rx,ry⟩:=vals2 r;cases ry;cases ty with
 |of ty=>exact ve I rx ty e λtk=>⟨.bl b,H,I.tok _,rfl,q⟩|lst l =>cases rx;obtain⟨its,r',pl,hz⟩:=I.list l;obtain⟨o,n,h1,h2,_⟩:=pl;exact Lc W.kitx_list I.kIn ⟨o,h1,h2⟩ e (λz=>nomatch z) λtk=>⟨.bl b,H,I.tok _,rfl,q⟩
 |tup l =>cases rx;obtain⟨its,r',pl,hz⟩:=I.tuple l;obtain⟨o,h1,h2,_⟩:=pl;exact Lc W.kitx_tuple I.kIn ⟨o,h1,h2⟩ e (λz=>nomatch z) λtk=>⟨.bl b,H,I.tok _,rfl,q⟩
end
section
variable{K:W.Frag}
theorem kits:(W.kitOne K (.type "NoneType") (.type "int")=some false/\W.kitOne K (.type "NoneType") (.type "str")=some false/\W.kitOne K (.type "NoneType") (.type "list")=some false/\W.kitOne K (.type "NoneType") (.type "tuple")=some false/\W.kitOne K (.type "NoneType") (.type "bool")=some false) /\ (W.kitOne K (.type "bool") (.type "int")=some true/\W.kitOne K (.type "bool") (.type "str")=some false/\W.kitOne K (.type "bool") (.type "list")=some false/\W.kitOne K (.type "bool") (.type "tuple")=some false) /\ (W.kitOne K (.type "int") (.type "bool")=some false/\W.kitOne K (.type "int") (.type "str")=some false/\W.kitOne K (.type "int") (.type "list")=some false/\W.kitOne K (.type "int") (.type "tuple")=some false) /\ (W.kitOne K (.type "str") (.type "bool")=some false/\W.kitOne K (.type "str") (.type "int")=some false/\W.kitOne K (.type "str") (.type "list")=some false/\W.kitOne K (.type "str") (.type "tuple")=some false) /\ (W.kitOne K (.type "list") (.type "bool")=some false/\W.kitOne K (.type "list") (.type "int")=some false/\W.kitOne K (.type "list") (.type "str")=some false/\W.kitOne K (.type "list") (.type "tuple")=some false) /\ (W.kitOne K (.type "tuple") (.type "bool")=some false/\W.kitOne K (.type "tuple") (.type "int")=some false/\W.kitOne K (.type "tuple") (.type "str")=some false/\W.kitOne K (.type "tuple") (.type "list")=some false) /\ (W.kitOne K (.type "dict") (.type "bool")=some false/\W.kitOne K (.type "dict") (.type "int")=some false/\W.kitOne K (.type "dict") (.type "str")=some false/\W.kitOne K (.type "dict") (.type "list")=some false/\W.kitOne K (.type "dict") (.type "tuple")=some false):=by refine⟨⟨?_,?_,?_,?_,?_⟩,⟨?_,?_,?_,?_⟩,⟨?_,?_,?_,?_⟩,⟨?_,?_,?_,?_⟩,⟨?_,?_,?_,?_⟩,⟨?_,?_,?_,?_⟩,⟨?_,?_,?_,?_,?_⟩⟩<;>kernel_rfl
end
end L2
namespace IR
open PySem PySem.Spec PyProof.Rows L2
section
variable{X:Cx}{Hi:Hp}{τ:En}
theorem aL(h:isStar e=false):starEach (e::b) a=(false,eval e a)::starEach b a:=by cases e<;>first|rfl|cases h
theorem fW{a:Env}{pos:Pos}:∀{b:List Expr},(∀e∈b,isStar e=false)->(backTo pos (starEach b a)).any (·.1)=false
 |[],_=>rfl|e::b,h=>by rw[aL (h e JL)];show(false||(backTo pos (starEach b a)).any (·.1))=false;rw[fW λx hx=>h x (JF _ hx)];rfl
theorem F7:n9 X Hi τ [] []:=by intro O a H Q R q;exact wa bP (q _ _ (aB.refl _) rfl)
theorem Co(d:aH X Hi τ e r)(g:isStar e=false)(f:n9 X Hi τ b a):n9 X Hi τ (e::b) (r::a):=by intro O c H Q R q;refine wa (ae aS rQ (aL g)) ?_;refine d O c H _ R λu H1 s1 r1=>f O c H1 _ (R.ext s1) λus H2 s2 r2=> ?_;exact q _ _ (s1.trans s2) ⟨u,us,rfl,r1.ext s2,r2.back s1⟩
theorem Ek(h:n9 X Hi τ b a)(f:keeps a=some (c,n))(d:lT c n=some r):aH X Hi τ (.List b pos) r:=by obtain⟨i,rfl⟩:=tw d;intro O g H Q R q;refine we (yD rQ) ?_;refine h O g H _ R λus H1 s1 r1=> ?_;have k:=r1.keeps R s1 f;have e:=k.len;exact⟨by rw[cJ,<-e];exact i,λp hp=>q _ _ (s1.trans (aJ hp _)) (dh s1 hp k)⟩
theorem Da(h:n9 X Hi τ b a)(f:keeps a=some (c,n))(d:pN c n=some r):aH X Hi τ (.Tuple b m pos) r:=by obtain⟨i,rfl⟩:=nC d;intro O g H Q R q;refine we (EI rQ) ?_;refine h O g H _ R λus H1 s1 r1=> ?_;have k:=r1.keeps R s1 f;have e:=k.len;exact⟨by rw[cJ,<-e];exact i,λp hp=>q _ _ (s1.trans (aJ hp _)) (Rp.tup.mpr ⟨p,us,rfl,cA.of (ju R s1 hp),k.mono (aD (aJ hp _))⟩)⟩
theorem CS:aH X Hi τ (.Dict [] [] pos) (.owd (.dK []) [] true):=by intro O b H Q R q;refine we pI ?_;intro p a;exact q _ _ (aJ a _) ⟨p,[],_,rfl,a,aF,⟨rfl,rfl⟩,.nil⟩
theorem uQ(A:PE X l m)(g:∀d H Q,Q (kV k) H->m d H Q)(h:aH X Hi τ v r)(t:r.keep=some (w,n))(s:imm w=true):aH X Hi τ (.Dict [some l] [v] pos) (.owd (.dK [k]) [w] true):=by
 intro O d H Q R q;refine we (BM (xo A aS BH) rfl rfl (by intro z;cases z) (by show 1<=15;decide)) ?_;intro p j;have f:=aJ j (.dK []);refine g d _ _ ?_;refine h O d _ _ (R.ext f) λu H2 s2 r2=> ?_;have y:=r2.keep (R.ext f) s2 t;refine⟨s2 _ _ aF,[(k,u)],rfl,by show 1<=15;decide,?_⟩;have e:gM [] [(k,u)]=[(k,u)]:=by simp[gM,dS]
 rw[e];have x:aB H (L2.upd H2 p (.dK [(k,u)])):=λb o z=>by rw[aA (aI z j)];exact s2 _ _ (f _ _ z)
 refine q _ _ x ⟨p,[u],_,rfl,j,aF,⟨rfl,rfl⟩,.cons (Rp.imm s ⟨λb xs z=> ?_,λb o xs z=> ?_⟩ y) .nil⟩
 ·have a:b≠p:=λc=>by
   subst c;have:=aO _ _ z;rw[s2 _ _ aF]at this;cases this
  unfold aK at z ⊢
  split at z;cases z
  ·rename_i i
   rw[JE i];unfold del;rw[JE a,aA a];exact z
 ·have a:b≠p:=λc=>by
   subst c;have:=aO _ _ z;rw[s2 _ _ aF]at this;cases this
  unfold aK at z ⊢
  split at z;cases z
  ·rename_i i
   rw[JE i];unfold del;rw[JE a,aA a];exact z
noncomputable def iP(O:List Addr)(G:Hp):Prop:=∀l∈O,(∀a,G l≠some (.tup a))/\∀o a,G l≠some (.frz o (.tup a))
theorem Mo.noTup{G:Hp}(m:Mo o)(e:G l=some o):(∀a,G l≠some (.tup a))/\∀o a,G l≠some (.frz o (.tup a)):=by obtain⟨b,us,m⟩:=m;refine⟨λxs z=> ?_,λo a z=> ?_⟩<;>(rw[e]at z;cases z;cases b<;>first|cases m.1|cases m)
theorem iP.del{O:List Addr}{G:Hp}{p:Addr}(h:iP O G):iP O (IR.del G p):=fun l hl=>by
 refine⟨fun xs e=> ?_,fun o xs e=> ?_⟩
 ·unfold IR.del at e
  split at e
  ·cases e
  ·exact(h l hl).1 xs e
 ·unfold IR.del at e
  split at e
  ·cases e
  ·exact(h l hl).2 o xs e
theorem iP.tups{O:List Addr}{G:Hp}(h:iP O G):sg G (aK G O):=by
 refine⟨fun b xs e=> ?_,fun b o xs e=> ?_⟩
 ·unfold aK
  rw[JE fun z=>(h b z).1 xs e];exact e
 ·unfold aK
  rw[JE fun z=>(h b z).2 o xs e];exact e
mutual
theorem Rp.avoid{K:W.Frag}{Hj:Hp}{O:List Addr}(hO:∀l∈O,Hj l≠none):∀{v:PV}{G:Hp}{u:V},iP O G->Rp K Hj true v G u->Rp K Hj true v (aK G O) u
 | .non,_,_,_,h=>by unfold Rp at h ⊢;exact h
 | .bl _,_,_,_,h=>by unfold Rp at h ⊢;exact h
 | .int _,_,_,_,h=>by unfold Rp at h ⊢;exact h
 | .str _,_,_,_,h=>by unfold Rp at h ⊢;exact h
 | .lst xs,G,_,t,h=>by
  unfold Rp at h ⊢;obtain⟨p,us,e,q,l,r⟩:=h;obtain⟨q1,q2⟩:=q rfl;have q3:aK G O p=some (.lst us):=by
   unfold aK;rw[JE fun z=>hO p z q1];exact q2
  exact⟨p,us,e,fun _=>⟨q1,q3⟩,bJ.of q3,by rw[<- hU];exact aG.avoid hO t.del r⟩
 | .tup xs,_,_,t,h=>by
  unfold Rp at h ⊢;obtain⟨p,us,e,l,r⟩:=h;exact⟨p,us,e,t.tups.at l,aG.avoid hO t r⟩
 | .dK ks vs,G,_,t,h=>by
  unfold Rp at h ⊢;obtain⟨p,us,e,q,l,z,r⟩:=h;refine⟨p,us,e,q,?_,z,by rw[<- hU];exact aG.avoid hO t.del r⟩;unfold aK;rw[JE fun z=>hO p z (q rfl)];exact l
 | .dT ks vs,G,_,t,h=>by
  unfold Rp at h ⊢;obtain⟨p,us,e,q,l,z,r⟩:=h;refine⟨p,us,e,q,?_,z,by rw[<- hU];exact aG.avoid hO t.del r⟩;unfold aK;rw[JE fun z=>hO p z (q rfl)];exact l
theorem aG.avoid{K:W.Frag}{Hj:Hp}{O:List Addr}(hO:∀l∈O,Hj l≠none):∀{xs:List PV}{G:Hp}{us:List V},iP O G->aG K Hj true xs G us->aG K Hj true xs (aK G O) us
 | [],_,_,_,h=>by unfold aG at h ⊢;exact h
 | x::xs,_,_,t,h=>by
  unfold aG at h ⊢;obtain⟨u,r,e,a,b⟩:=h;exact⟨u,r,e,Rp.avoid hO t a,aG.avoid hO t b⟩
end
theorem An(R:aT X.K Hi O τ k H)(c:aB H b)(s:aB b a)(h:Rp X.K b true v a u):aW X.K Hi O H a (oj v) u:=by
 have f:∀p,b p=none->Hi p=none:=λp hp=>R.same.free (c.free hp);have i:∀l∈O,b l≠none:=λl hl z=>by obtain⟨us,e,_⟩:=(R.own l hl).2;rw[c _ _ e]at z;cases z
 have g:iP O a :=λl hl=>by obtain⟨us,e,j⟩:=(R.own l hl).2;have m :=s _ _ (c _ _ e);exact j.noTup m
 have d:Rp X.K Hi true v (aK a O) u:=(Rp.avoid i g h).entry λ_=>f;cases v with
 |lst t =>obtain⟨p,us,e,q,l,r⟩:=Rp.lst.mp h;obtain⟨o,n⟩:=q rfl;exact⟨p,us,e,c.free o,n,(aG.avoid i g.del r).entry λ_=>f⟩
 |_=>exact d
theorem call_ok(C:bL h X ct)(u:wU x=false)(o:ct.S.lookup x=some .globalImplicit)(w:ct.F.lookup x=some f)
  (i:∀a∈e::c,isStar a=false) (t:n9 X Hi τ (e::c) d) (m:h f (d.map RV.val)=some v):aH X Hi τ (.Call (.Name x p) (e::c) [] pos) (oj v):=by
 intro O l H Q R q;obtain⟨k,a,B,A,F,s,y,n,r⟩:=C.fns x f w;have g:Gl X x:=by show X.env.scope.names.lookup x=_;rw[C.S];exact o
 refine we (BO F s g y n r .nil HU rQ (bQ u).1 (aL (i e JL)) (fW λb hb=>i b (JF _ hb))) ?_;refine t O l H _ R λus H1 s1 r1=> ?_;have j:=r1.vals R s1;rw[KG];exact⟨_,v,j.entry (λz=>by cases z),m,λu H' s' ru=>q _ _ (s1.trans s') (An R s1 s' ru)⟩
theorem hX(C:bL a X ct)(h:own ct x=true):Gl X x/\X.mg x=none:=by
 unfold own at h;rw[JJ]at h;refine⟨?_,C.bl x h.1⟩;show X.env.scope.names.lookup x=_;rw[C.S]
 simpa using h.2
theorem gH(C:bL m X ct)(o:ba X (.builtin e) f)(l:own ct x=true)(s:bootBuiltins x=some (.builtin e))(i:wU x=false)(j:isStar a=false)(n:aH X Hi τ a h)
  (k:∀(O:List Addr)(c:L2.St)(H d:Hp)(u:V)(Q:VK),aT X.K Hi O τ c H->aB H d->aW X.K Hi O H d h u->(∀w b,aB d b->aW X.K Hi O H b r w->Q w b)->f [u] d Q):aH X Hi τ (.Call (.Name x p) [a] [] pos) r:=by
 intro O c H Q R q;obtain⟨g,t⟩:=hX C l;refine we (gt o g t s (ae aS bP (aL j)) (bQ i).2.2 (bQ i).1 (aL j) rfl) ?_;exact n O c H _ R λu H1 s1 r1=>k O c H H1 u Q R s1 r1 λw b s3 r3=>q w b (s1.trans s3) r3
theorem tL(C:bL m X ct)(o:ba X (.type e) f)(l:own ct x=true)(s:bootBuiltins x=some (.type e))(i:wU x=false)(j:isStar a=false)(n:aH X Hi τ a h)
  (k:∀(O:List Addr)(c:L2.St)(H d:Hp)(u:V)(Q:VK),aT X.K Hi O τ c H->aB H d->aW X.K Hi O H d h u->(∀w b,aB d b->aW X.K Hi O H b r w->Q w b)->f [u] d Q):aH X Hi τ (.Call (.Name x p) [a] [] pos) r:=by
 intro O c H Q R q;obtain⟨g,t⟩:=hX C l;refine we (lw o g t s (ae aS bP (aL j)) (bQ i).2.2 (bQ i).1 (aL j) rfl) ?_;exact n O c H _ R λu H1 s1 r1=>k O c H H1 u Q R s1 r1 λw b s3 r3=>q w b (s1.trans s3) r3
theorem b2_go(C:bL y X ct)(h:ba X (.builtin j) l)(t:own ct x=true)(A:bootBuiltins x=some (.builtin j))(o:wU x=false)(s:isStar a=false)(e:isStar b=false)(z:aH X Hi τ a n)(i :aH X Hi τ b m)
  (k:∀(O:List Addr)(d:L2.St)(H c:Hp)(u v:V)(Q:VK),aT X.K Hi O τ d H->aB H c->aW X.K Hi O H c n u->aW X.K Hi O H c m v->(∀w f,aB c f->aW X.K Hi O H f r w->Q w f)->l [u,v] c Q):aH X Hi τ (.Call (.Name x p) [a,b] [] pos) r:=by
 intro O d H Q R q;obtain⟨g,B⟩:=hX C t;refine we (gt h g B A (ae aS (ae aS bP (aL e)) (aL s)) (bQ o).2.2 (bQ o).1 (aL s) (fW λc h=>by simp at h;subst h;exact e)) ?_;exact z O d H _ R λu H1 s1 r1=>i O d H1 _ (R.ext s1) λv c s2 r2=>k O d H c u v Q R (s1.trans s2) (r1.ext s2) (r2.back s1) λw f s3 r3=>q w f (s1.trans (s2.trans s3)) r3
theorem lF:∀{d:List PV}{f:List Bool}{H:Hp}{us:List V},el d=some f->aG X.K Hi false d H us->us=f.map V.bl
 |[],f,_,_,h,r=>by cases h;unfold aG at r;exact r|x::d,f,_,_,h,r=>by
  unfold aG at r;obtain⟨u,i,rfl,a,b⟩:=r;cases x with
  |bl c =>
   have h:(el d).map (c::·)=some f:=h;cases e:el d with
   |none=>rw[e]at h;cases h|some g =>rw[e]at h;cases h;rw[Rp.bl.mp a,lF e b];rfl
  |_=>cases h
theorem fZ:∀{d:List PV}{f:List Int}{H:Hp}{us:List V},aQ d=some f->aG X.K Hi false d H us->us=f.map V.int
 |[],f,_,_,h,r=>by cases h;unfold aG at r;exact r|x::d,f,_,_,h,r=>by
  unfold aG at r;obtain⟨u,i,rfl,a,b⟩:=r;cases x with
  |int c =>
   have h:(aQ d).map (c::·)=some f:=h;cases e:aQ d with
   |none=>rw[e]at h;cases h|some g =>rw[e]at h;cases h;rw[Rp.int.mp a,fZ e b];rfl
  |_=>cases h
theorem j4:∀{d:List PV}{f:List Str}{H:Hp}{us:List V},dc d=some f->aG X.K Hi false d H us->us=f.map V.str
 |[],f,_,_,h,r=>by cases h;unfold aG at r;exact r|x::d,f,_,_,h,r=>by
  unfold aG at r;obtain⟨u,i,rfl,a,b⟩:=r;cases x with
  |str c =>
   have h:(dc d).map (c::·)=some f:=h;cases e:dc d with
   |none=>rw[e]at h;cases h|some g =>rw[e]at h;cases h;rw[Rp.str.mp a,j4 e b];rfl
  |_=>cases h
theorem Ew(h:fY t v=some b)(r:Rp X.K Hi false v H u):∃c,Ir X.K H u c/\W.kitOne X.K c (.type t)=some b:=by
 obtain⟨⟨g,A,B,L,s⟩,⟨b1,J,G,D⟩,⟨P,F,w,q⟩,⟨f,C,O,y⟩,⟨m,e,N,k⟩,⟨t1,i,M,o⟩,⟨j,n,E,I,z⟩⟩:= @kits X.K;cases v with
 |non =>
  rw[Rp.non.mp r];refine⟨_,.of .non,?_⟩;simp only[fY]at h
  split at h
  ·rename_i c
   cases h
   rcases c with rfl|rfl|rfl|rfl|rfl<;>assumption
  ·cases h
 |bl x =>
  rw[Rp.bl.mp r];refine⟨_,.of (.bl x),?_⟩;simp only[fY]at h
  split at h
  ·rename_i c
   cases h
   rcases c with rfl|rfl
   ·assumption
   ·exact fI _
  ·split at h
   ·rename_i c
    cases h
    rcases c with rfl|rfl|rfl<;>assumption
   ·cases h
 |int x =>
  rw[Rp.int.mp r];refine⟨_,.of (.int x),?_⟩;simp only[fY]at h
  split at h
  ·rename_i c
   cases h;subst c;exact fI _
  ·split at h
   ·rename_i c
    cases h
    rcases c with rfl|rfl|rfl|rfl<;>assumption
   ·cases h
 |str x =>
  rw[Rp.str.mp r];refine⟨_,.of (.str x),?_⟩;simp only[fY]at h
  split at h
  ·rename_i c
   cases h;subst c;exact fI _
  ·split at h
   ·rename_i c
    cases h
    rcases c with rfl|rfl|rfl|rfl<;>assumption
   ·cases h
 |lst x =>
  obtain⟨p,us,rfl,_,l,_⟩:=Rp.lst.mp r;refine⟨_,.lst l,?_⟩;simp only[fY]at h
  split at h
  ·rename_i c
   cases h;subst c;exact fI _
  ·split at h
   ·rename_i c
    cases h
    rcases c with rfl|rfl|rfl|rfl<;>assumption
   ·cases h
 |tup x =>
  obtain⟨p,us,rfl,l,_⟩:=Rp.tup.mp r;refine⟨_,.tup l,?_⟩;simp only[fY]at h
  split at h
  ·rename_i c
   cases h;subst c;exact fI _
  ·split at h
   ·rename_i c
    cases h
    rcases c with rfl|rfl|rfl|rfl<;>assumption
   ·cases h
 |dK d a =>
  unfold Rp at r;obtain⟨p,us,rfl,_,l,_⟩:=r;refine⟨_,.of (.dK l),?_⟩;simp only[fY]at h
  split at h
  ·rename_i c
   cases h
   rcases c with rfl|rfl|rfl|rfl|rfl<;>assumption
  ·cases h
 |dT d a=>cases h
theorem Cb(h:wp t=some a):bootBuiltins t=some (.type a)/\wU t=false:=by
 unfold wp at h
 split at h
 ·rename_i c;cases h;rw[Jq c];exact⟨PyProof.Rows.boot_int,by decide⟩
 split at h
 ·rename_i c;cases h;rw[Jq c];exact⟨PyProof.Rows.boot_bool,by decide⟩
 split at h
 ·rename_i c;cases h;rw[Jq c];exact⟨PyProof.Rows.boot_str,by decide⟩
 split at h
 ·rename_i c;cases h;rw[Jq c];exact⟨PyProof.Rows.boot_list,by decide⟩
 split at h
 ·rename_i c;cases h;rw[Jq c];exact⟨PyProof.Rows.boot_tuple,by decide⟩
 cases h
theorem isin_ok(C:bL w X ct)(s:own ct ("isinstance":Str)=true)(n:wp t=some e)(i:own ct t=true)(m:isStar a=false)(x:aH X Hi τ a l)(h:fY e l.val=some b) :
  aH X Hi τ (.Call (.Name "isinstance" p) [a,.Name t r] [] pos) (sc (.bl b)):=by
 intro O o H Q R q;obtain⟨g,y⟩:=hX C s;obtain⟨v,j⟩:=hX C i;obtain⟨z,d⟩:=Cb n;refine we (gt sQ g y boot_isinstance (ae aS (ae (HP v j z (bQ d).2.2 (bQ d).1) bP) (aL m)) (by decide) (by decide) (aL m) rfl) ?_;refine x O o H _ R λu H1 s1 r1=> ?_;obtain⟨c,f,k⟩:=Ew h (r1.val R s1);exact⟨u,e,c,b,rfl,f,k,q _ _ s1 Du⟩
end
end IR
namespace L2
open PySem PySem.Spec PyProof.Rows
end L2
namespace IR
open PySem L2
section
variable{X:Cx}{Hi:Hp}{τ:En}
theorem BG(h:xm x=some q):x=bE q:=by
 cases x with
 |tup xs =>
  have h:((aQ xs).bind λns=>match ns with
   |[a,b]=>some (a,b)|_=>none)=some q:=h
  cases e:aQ xs with
  |none=>rw[e]at h;cases h|some ns =>
   rw[e]at h
   match ns,h with
   |[a,b],h =>
    cases h;have:xs=[PV.int a,PV.int b]:=by
     have key:∀(xs:List PV)(ns:List Int),aQ xs=some ns->xs=ns.map PV.int:=by
      intro xs
      induction xs with
      |nil=>intro ns z;cases z;rfl|cons y r ih =>
       intro ns z;cases y with
       |int i =>
        have z:(aQ r).map (i::·)=some ns:=z;cases e2:aQ r with
        |none=>rw[e2]at z;cases z|some m=>rw[e2]at z;cases z;rw[ih m e2];rfl
       |_=>cases z
     exact key xs _ e
    subst this;rfl
 |_=>cases h
theorem kM:∀{c:List PV}{a:List (Int×Int)},eh c=some a->c=a.map bE
 |[],_,h=>by cases h;rfl|x::r,a,h=>by
  have h:((xm x).bind λq=>(eh r).map (q::·))=some a:=h;cases e:xm x with
  |none=>rw[e]at h;cases h|some q =>
   rw[e]at h;have h:(eh r).map (q::·)=some a:=h;cases b:eh r with
   |none=>rw[b]at h;cases h|some m =>rw[b]at h;cases h;rw[BG e,kM b];rfl
theorem aG.pick{n:Bool}{H:Hp}{b:List PV}{us:List V}(r:aG X.K Hi n b H us):∀{a:List Nat},(∀j∈a,j<us.length)->aG X.K Hi n (a.map λi=>b.getD i .non) H (a.map λi=>us.getD i .non)
 |[],_=>.nil|j::a,h=>by have c:=h j JL;obtain⟨x,e,d⟩:=r.at' (i:=j) (u:=us[j]) (JN c);refine .cons ?_ (aG.pick r λi hi=>h i (JF _ hi));dsimp only;rw[JQ,e,JQ,JN c];exact d
theorem bO(a:List (Int×Int)):(ao a).Perm a:=List.mergeSort_perm _ _
theorem o4(d:List (Int×Int)):(ao d).Pairwise λa b=>SW.bt a<=SW.bt b:=by have:=List.pairwise_mergeSort (le:=λa b:Int×Int=>decide (SW.bt a<=SW.bt b)) (λa b c h1 h2=>by simp only[Ku]at *;omega) (λa b=>by simp only[KS,Ku];omega) d;exact this.imp λh=>by simpa using h
theorem pc(c:0<=a.2/\a.2<1000)(d:0<=b.2/\b.2<1000)(h:SW.bt a=SW.bt b):a=b:=by unfold SW.bt at h;exact MM (by omega) (by omega)
theorem gg(e:∀q∈c,0<=q.2/\q.2<1000)(p:d.Perm c)(s:d.Pairwise λa b=>SW.bt a<=SW.bt b):d=ao c := MY (le:=λa b=>SW.bt a<=SW.bt b) (λa b ha hb' h1 h2=>pc (e _ (p.mem_iff.mp ha)) (e _ ((bO c).mem_iff.mp hb')) (by omega)) s (o4 c) (p.trans (bO c).symm)
theorem kJ{b:Type}(d:b)(a:List b):(List.range a.length).map (λi=>a.getD i d)=a:=by
 apply List.ext_getElem (by simp)
 intro i e c;simp[c]
theorem kj:∀a:List (Int×Int),imms (a.map bE)=true
 |[]=>rfl|q::a=>by show(imm (bE q)&&imms (a.map bE))=true;rw[kj a];rfl
theorem uX(p q:Int×Int)(f:0<=p.2/\p.2<1000)(e:0<=q.2/\q.2<1000)(b c:List PV)(h:p=q->cl b c=some (decide (SW.bt p<SW.bt q))):cl (.int p.1::.int p.2::b) (.int q.1::.int q.2::c)=some (decide (SW.bt p<SW.bt q)):=by
 show(if decide (p.1=q.1)=true then(if decide (p.2=q.2)=true then cl b c else some (decide (p.2<q.2)))else some (decide (p.1<q.1)))=_;unfold SW.bt at h ⊢
 by_cases a:p.1=q.1
 ·rw[JI (by simpa using a)]
  by_cases d:p.2=q.2
  ·rw[JI (by simpa using d)]
   exact h (MM a d)
  ·rw[JE (by simpa using d)]
   exact J1 some (ME.mpr (by omega))
 ·rw[JE (by simpa using a)]
  exact J1 some (ME.mpr (by omega))
theorem uU(h:gE (bE p)=gE (bE q)):p=q:=by
 have h:PyData.tuple [.int p.1,.int p.2]=.tuple [.int q.1,.int q.2]:=h
 injection h with h
 injection h with h1 h
 injection h with h2
 injection h1 with h1
 injection h2 with h2
 exact MM h1 h2
theorem jw(n:Nat):∀a:List (Int×Int),(a.map bE).all (dv (n+1))=true
 |[]=>rfl|p::a=>by
  have e:dv (n+1) (bE p)=true:=by simp[bE,dv]
  rw[JR,LL,e,jw n a];rfl
theorem uy{a:List (Int×Int)}(c:∀q∈a,0<=q.2/\q.2<1000):nw (a.map bE) λi=>SW.bt (a.getD i (0,0)):=by
 have b:∀i,i<a.length->a.getD i (0,0)∈a:=λi hi=>by simp[hi]
 refine⟨λi j hi hj e=> ?_,a.map λq=>[.int q.1,.int q.2],.inl ⟨true,by rw[J4];rfl,λxs hx=> ?_⟩,λi j hi hj=> ?_⟩
 ·rw[JC]at hi hj
  rw[bI bE a (0,0) _ _ hi,bI bE a (0,0) _ _ hj]at e;show SW.bt _=SW.bt _;rw[uU e]
 ·obtain⟨q,_,rfl⟩:=JX.mp hx
  rfl
 ·rw[JC]at hi hj
  rw[bI _ a (0,0) _ _ hi,bI _ a (0,0) _ _ hj];exact uX _ _ (c _ (b i hi)) (c _ (b j hj)) [] [] λe=>by rw[e];simp[cl,vw]
theorem xE(C:bL w X ct)(v:own ct ("sorted":Str)=true)(B:isStar a=false)(A:aH X Hi τ a n)(e:n.val=.lst g)(h:oz g=some r) :
  aH X Hi τ (.Call (.Name "sorted" p) [a] [] pos) r:=by
 unfold oz at h;cases f:eh g with
 |none=>rw[f]at h;cases h|some b =>
  rw[f]at h;have h:(if b.length<4096/\b.all (λq=>decide (0<=q.2)&&decide (q.2<1000))=true then some (RV.own ((ao b).map bE) true)else none)=some r:=h
  split at h
  ·rename_i c
   cases h;refine gH C (gF (Hi:=Hi) C.un) v PyProof.Rows.boot_sorted (by decide) B A λO σ H H2 u Q R s r q=> ?_;obtain⟨p,us,rfl,l,r⟩:=r.lst R s e;have y:=kM f;subst y;have m:=r.len;rw[JC]at m;have o:∀q∈b,0<=q.2/\q.2<1000:=λq hq=>by
    have:=Jh.mp c.2 q hq
    simpa using this
   refine⟨p,us,b.map bE,_,rfl,l,r,jw 11 b,by omega,uy o,λd js hd pm pw=>q _ _ (aJ hd _) (dh s hd ?_)⟩;have d:∀j∈js,j<us.length:=λj d=>Js.mp (pm.mem_iff.mp d);have t:js.map (λi=>b.getD i (0,0))=ao b:=by
    refine gg o ?_ ?_
    ·have:=pm.map λi=>b.getD i (0,0)
     rw[<- m,kJ]at this;exact this
    ·rw[Li]at pw ⊢
     exact pw
   have z:js.map (λi=>(b.map bE).getD i .non)=(ao b).map bE:=by
    rw[<- t,J4];refine Jv λi hi=> ?_;have:=d i hi;have x:i<b.length:=by omega
    simp[x]
   have k:=r.pick d;rw[z]at k;exact k.imm (kj _) (R.ext s).tups
  ·cases h
theorem D6(h:qOf x=some q):x=qV q:=by
 cases x with
 |lst a =>have:=kM (show eh a=some q from h);subst this;rfl
 |_=>cases h
theorem tV:∀{d:List PV}{a:List (List (Int×Int))},mv d=some a->d=a.map qV
 |[],_,h=>by cases h;rfl|x::r,a,h=>by
  have h:((qOf x).bind λq=>(mv r).map (q::·))=some a:=h;cases b:qOf x with
  |none=>rw[b]at h;cases h|some q =>
   rw[b]at h;have h:(mv r).map (q::·)=some a:=h;cases c:mv r with
   |none=>rw[c]at h;cases h|some m =>rw[c]at h;cases h;rw[D6 b,tV c];rfl
theorem df(a:List (List (Int×Int))):(dk a).Perm a:=List.mergeSort_perm _ _
theorem vA(d:List (List (Int×Int))):(dk d).Pairwise λa b=>dU a<=dU b:=by have:=List.pairwise_mergeSort (le:=λa b:List (Int×Int)=>decide (dU a<=dU b)) (λa b c h1 h2=>by simp only[Ku]at *;omega) (λa b=>by simp only[KS,Ku];omega) d;exact this.imp λh=>by simpa using h
theorem pZ{c:Type}{f:c->Int}{l:List c}(h:(l.map f).Nodup):∀{a b:c},a∈l->b∈l->f a=f b->a=b:=by
 induction l with
 |nil=>intro a b d;cases d|cons x l i =>
  intro a b d g e;rw[JR,J9]at h
  rcases JU.mp d with z|z
  ·rcases JU.mp g with y|y
   ·rw[z,y]
   ·exact absurd (JX.mpr ⟨b,y,by rw[<- e,z]⟩) h.1
  ·rcases JU.mp g with y|y
   ·exact absurd (JX.mpr ⟨a,z,by rw[e,y]⟩) h.1
   ·exact i h.2 z y e
theorem lR(e:(c.map dU).Nodup)(p:d.Perm c)(s:d.Pairwise λa b=>dU a<=dU b):d=dk c := MY (le:=λa b=>dU a<=dU b) (λa b ha hb' h1 h2=>pZ e (p.mem_iff.mp ha) ((df c).mem_iff.mp hb') (by omega)) s (vA c) (p.trans (df c).symm)
theorem uW:∀a:List (Int×Int),cl (a.map bE) (a.map bE)=some false
 |[]=>rfl|p::a=>by show(if(decide (p.1=p.1)&&(decide (p.2=p.2)&&true))=true then cl (a.map bE) (a.map bE)else _)=_;rw[JI (by simp)];exact uW a
theorem xC{c:List (List (Int×Int))}(g:∀q∈c,q≠[]/\∀p∈q,0<=p.2/\p.2<1000)(r:(c.map dU).Nodup):nw (c.map qV) λi=>dU (c.getD i []):=by
 have h:∀i,i<c.length->c.getD i []∈c:=λi hi=>by simp[hi]
 have k:∀a∈c,∀b∈c,cl (a.map bE) (b.map bE)=some (decide (dU a<dU b)):=λa ha b hb' =>by
  obtain⟨d,l⟩:=g a ha;obtain⟨f,b1⟩:=g b hb'
  by_cases e:dU a=dU b
  ·have:=pZ r ha hb' e
   subst this;rw[uW];simp
  ·match a,b,d,f with
   |p::a,q::b,_,_ =>have e:SW.bt p≠SW.bt q:=e;have n:¬(p.1=q.1/\p.2=q.2):=λz=>e (by rw[show p=q from MM z.1 z.2]);have o:=l p JL;have m:=b1 q JL;show(if(decide (p.1=q.1)&&(decide (p.2=q.2)&&true))=true then cl (a.map bE) (b.map bE)else cl [.int p.1,.int p.2] [.int q.1,.int q.2])=some (decide (SW.bt p<SW.bt q));rw[JE (by simpa using n)];exact uX p q o m [] [] λz=>absurd (by rw[z]) e
 refine⟨λi j hi hj e=> ?_,c.map λq=>q.map bE,.inr (by rw[J4];rfl),λi j hi hj=> ?_⟩
 ·rw[JC]at hi hj
  rw[bI qV c [] _ _ hi,bI qV c [] _ _ hj]at e;show dU _=dU _;obtain⟨d,l⟩:=g _ (h i hi);obtain⟨f,b1⟩:=g _ (h j hj)
  revert e d f
  generalize c.getD i []=a
  generalize c.getD j []=b
  intro e d f
  match a,b,d,f with
  |p::a,q::b,_,_ =>
   have e:PyData.list (gE (bE p)::cL (a.map bE))=.list (gE (bE q)::cL (b.map bE)):=e
   injection e with e
   injection e with e
   show SW.bt p=SW.bt q;rw[uU e]
 ·rw[JC]at hi hj
  rw[bI _ c [] _ _ hi,bI _ c [] _ _ hj];exact k _ (h i hi) _ (h j hj)
theorem zG:∀a:List (List (Int×Int)),(a.map qV).all (dv 12)=true
 |[]=>rfl|q::a=>by show((q.map bE).all (dv 11)&&(a.map qV).all (dv 12))=true;rw[jw 10 q,zG a];rfl
theorem xG{cd:Nat->List PV->Option PV}{ct:Ct}(C:bL cd X ct){a:Expr}{p pos:Pos}{ra r:RV}{xs ys:List PV}{n:Bool}(ho:own ct ("sorted":Str)=true)(hs:isStar a=false)(ha:aH X Hi τ a ra)(e:ra.val=.lst xs)(ei:ra.its=some (ys,n))(h:o0 ys n=some r) :
  aH X Hi τ (.Call (.Name "sorted" p) [a] [] pos) r:=by
 unfold o0 at h;cases eb:mv ys with
 | none=>rw[eb]at h;cases h
 | some qs =>
 rw[eb]at h;have h:(if qs.length<4096/\qs.all (fun q=> !q.isEmpty&&q.all fun p=>decide (0<=p.2)&&decide (p.2<1000))=true/\(qs.map dU).Nodup then some (RV.own ((dk qs).map qV) n)else none)=some r:=h
 split at h
 case isFalse=>cases h
 rename_i c;cases h;have ex:=tV eb;subst ex;have hb:∀q∈qs,q≠[]/\∀p∈q,0<=p.2/\p.2<1000:=fun q hq=>by
  have:=Jh.mp c.2.1 q hq;rw[JJ]at this;exact⟨fun z=>by rw[z]at this;simp at this,fun p hp=>by simpa using Jh.mp this.2 p hp⟩
 refine gH C (gF (Hi:=Hi) C.un) ho PyProof.Rows.boot_sorted (by decide) hs ha fun O σ H H2 u Q R s r q=> ?_;obtain⟨p,us,rfl,l,r⟩:=r.itsL R s ei e;have hl:=r.len;rw[JC]at hl;refine⟨p,us,qs.map qV,_,rfl,l,r.weak.mono aO,zG qs,by omega,xC hb c.2.2,fun d js hd pm pw=>q _ _ (aJ hd _) (dh s hd ?_)⟩;have hj:∀j∈js,j<us.length:=fun j hj=>Js.mp (pm.mem_iff.mp hj);have e1:js.map (fun i=>qs.getD i [])=dk qs:=by
  refine lR c.2.2 ?_ ?_
  ·have:=pm.map fun i=>qs.getD i []
   rw[<- hl,kJ]at this;exact this
  ·rw[Li]at pw ⊢
   exact pw
 have e2:js.map (fun i=>(qs.map qV).getD i .non)=(dk qs).map qV:=by
  rw[<- e1,J4];refine Jv fun i hi=> ?_;have:=hj i hi;have lt:i<qs.length:=by omega
  simp[lt]
 have rp:=r.pick hj;rw[e2]at rp;exact rp
end
end IR
namespace IR
open PySem PySem.Spec PyProof.Rows L2
section
variable{X:Cx}{Hi:Hp}{τ:En}
theorem yd(C:bL j X ct)(b:own ct ("len":Str)=true)(f:isStar a=false)(d:aH X Hi τ a g)(h:fH g.val=some n) :
  aH X Hi τ (.Call (.Name "len" p) [a] [] pos) (sc (.int n)):=by
 cases e:g.val with
 |str z =>
  rw[e]at h;have h:(if z.length<=LN then some z.length else none)=some n:=h
  split at h
  ·rename_i c
   cases h;exact gH C nZ b PySem.boot_len (by decide) f d λO σ H H2 u Q R s r q=>⟨z,by rw[r.str R s e],by rw[cJ];exact c,q _ _ (aB.refl _) xN⟩
  ·cases h
 |lst m =>rw[e]at h;cases h;refine gH C iL b PySem.boot_len (by decide) f d λO σ H H2 u Q R s r q=> ?_;obtain⟨p,us,rfl,l,r⟩:=r.lst R s e;exact⟨p,us,rfl,.inl l,by rw[<- r.len];exact q _ _ (aB.refl _) xN⟩
 |tup m =>rw[e]at h;cases h;refine gH C iL b PySem.boot_len (by decide) f d λO σ H H2 u Q R s r q=> ?_;obtain⟨p,us,rfl,l,r⟩:=r.tup R s e;exact⟨p,us,rfl,.inr l,by rw[<- r.len];exact q _ _ (aB.refl _) xN⟩
 |dK i t =>
  rw[e]at h;cases h;refine gH C sO b PySem.boot_len (by decide) f d λO σ H H2 u Q R s r q=> ?_;have z:=r.val R s;rw[e]at z;unfold Rp at z;obtain⟨p,us,rfl,_,o,k,_⟩:=z;refine⟨p,_,rfl,.inl o,?_⟩;have:(i.zip us).length=i.length:=by rw[List.length_zip,<-k,LY]
  rw[this];exact q _ _ (aB.refl _) xN
 |_=>rw[e]at h;cases h
theorem sumv_ok{cd:Nat->List PV->Option PV}(C:bL cd X ct)(ho:own ct ("sum":Str)=true)(hp:jC o=true)(hl:(ap.endLine==cp.line)=true)(h0:aH X Hi τ o ro)(h:lO .sumv [ro]=some r) :
  aH X Hi τ (.Call (.Name "sum" p) [.Call (.Attribute o "values" ap) [] [] cp] [] pos) r:=by
 have hbase:attributeBase o "values" X.env (eval o X.env)=eval o X.env:=by cases o<;>first|rfl|cases hp
 have h:(match ro.val with
   | .dK _ vs=>(aQ vs).map λns=>sc (.int ns.sum)|_=>none)=some r:=h
 cases e:ro.val with
 |dK ks vs =>
  simp only[e]at h;cases eb:aQ vs with
  |none=>rw[eb]at h;cases h|some ns =>
   rw[eb]at h;cases h;intro O σ H Q R q;obtain⟨g,hm⟩:=hX C ho;have hs:isStar (.Call (.Attribute o "values" ap) [] [] cp)=false:=rfl;refine we (gt (lh C.calm) g hm boot_sum (ae (EM PySem.F.plainAttrs_dict PySem.F.slot_dict_values PySem.F.type_dict_values vT aS hbase hl) bP (aL hs)) (by decide) (by decide) (aL hs) rfl) ?_;refine h0 O σ H _ R λu H1 s1 r1=> ?_;have z:=r1.val R s1;rw[e]at z;unfold Rp at z;obtain⟨a,us,rfl,_,ha,hlen,rr⟩:=z;refine⟨.inr (.inr (.inl ⟨rfl,.inl ⟨_,ha⟩⟩)),a,_,rfl,rfl,ha,λv hv=> ?_⟩;have eu:=fZ eb rr;refine⟨v,a,_,ns,rfl,aF,by rw[aA (aI ha hv)];exact ha,?_,q _ _ (s1.trans (aJ hv _)) xN⟩;rw[<- eu];have key:∀(ks:List ag)(us:List V),ks.length=us.length->(ks.zip us).map (·.2)=us:=by
    intro ks
    induction ks with
    |nil=>intro us h;cases us with|nil=>rfl|cons _ _=>cases h
    |cons k ks ih=>intro us h;cases us with|nil=>cases h|cons u us=>simp at h;simp[ih us h]
   exact key ks us hlen
 |_=>simp only[e]at h;cases h
theorem jT(h:qW x k=some f):(x="len"/\k=1/\f=.len)\/(x="int"/\k=1/\f=.int)\/(x="list"/\k=1/\f=.list)\/(x="tuple"/\k=1/\f=.tuple)\/(x="all"/\k=1/\f=.all)\/(x="min"/\k=2/\f=.min)\/(x="max"/\k=2/\f=.max)\/(x="abs"/\k=1/\f=.abs)\/(x="any"/\k=1/\f=.any)\/(x="sum"/\k=1/\f=.sum)\/(x="sorted"/\k=1/\f=.sorted):=by
 unfold qW at h
 split at h
 ·rename_i c;rw[JJ]at c;cases h;exact .inl ⟨Jq c.1,Jq c.2,rfl⟩
 split at h
 ·rename_i c;rw[JJ]at c;cases h;exact .inr (.inl ⟨Jq c.1,Jq c.2,rfl⟩)
 split at h
 ·rename_i c;rw[JJ]at c;cases h;exact .inr (.inr (.inl ⟨Jq c.1,Jq c.2,rfl⟩))
 split at h
 ·rename_i c;rw[JJ]at c;cases h;exact .inr (.inr (.inr (.inl ⟨Jq c.1,Jq c.2,rfl⟩)))
 split at h
 ·rename_i c;rw[JJ]at c;cases h;exact .inr (.inr (.inr (.inr (.inl ⟨Jq c.1,Jq c.2,rfl⟩))))
 split at h
 ·rename_i c;rw[JJ]at c;cases h;exact .inr (.inr (.inr (.inr (.inr (.inl ⟨Jq c.1,Jq c.2,rfl⟩)))))
 split at h
 ·rename_i c;rw[JJ]at c;cases h;exact .inr (.inr (.inr (.inr (.inr (.inr (.inl ⟨Jq c.1,Jq c.2,rfl⟩))))))
 split at h
 ·rename_i c;rw[JJ]at c;cases h;exact .inr (.inr (.inr (.inr (.inr (.inr (.inr (.inl ⟨Jq c.1,Jq c.2,rfl⟩)))))))
 split at h
 ·rename_i c;rw[JJ]at c;cases h;exact .inr (.inr (.inr (.inr (.inr (.inr (.inr (.inr (.inl ⟨Jq c.1,Jq c.2,rfl⟩))))))))
 split at h
 ·rename_i c;rw[JJ]at c;cases h;exact .inr (.inr (.inr (.inr (.inr (.inr (.inr (.inr (.inr (.inl ⟨Jq c.1,Jq c.2,rfl⟩)))))))))
 split at h
 ·rename_i c;rw[JJ]at c;cases h;exact .inr (.inr (.inr (.inr (.inr (.inr (.inr (.inr (.inr (.inr (⟨Jq c.1,Jq c.2,rfl⟩))))))))))
 cases h
theorem F2{cd:Nat->List PV->Option PV}(C:bL cd X ct)(ho:own ct x=true)(hb:qX x 1=some f)(hs:isStar a=false)(ha:aH X Hi τ a ra)(h:lO f [ra]=some r) :
  aH X Hi τ (.Call (.Name x p) [a] [] pos) r:=by
 have hb:qW x 1=some f:=hb
 rcases jT hb with⟨rfl,_,rfl⟩|⟨rfl,_,rfl⟩|⟨rfl,_,rfl⟩|⟨rfl,_,rfl⟩|⟨rfl,_,rfl⟩|⟨_,z,_⟩|⟨_,z,_⟩|⟨rfl,_,rfl⟩|⟨rfl,_,rfl⟩|⟨rfl,_,rfl⟩|⟨rfl,_,rfl⟩
 ·have h:(fH ra.val).map (λn=>sc (.int (n:Nat)))=some r:=h
  cases e:fH ra.val with
  |none=>rw[e]at h;cases h|some n =>rw[e]at h;cases h;exact yd C ho hs ha e
 ·unfold lO at h
  cases e:ra.val with
  |int i =>simp only[e]at h;cases h;exact tL C mK ho PyProof.Rows.boot_int (by decide) hs ha λO σ H H2 u Q R s r q=>.inl ⟨i,by rw[r.int R s e],q _ _ (aB.refl _) xN⟩
  |bl i =>simp only[e]at h;cases h;exact tL C mK ho PyProof.Rows.boot_int (by decide) hs ha λO σ H H2 u Q R s r q=>.inr ⟨i,by rw[r.bl R s e],q _ _ (aB.refl _) xN⟩
  |_=>simp only[e]at h;cases h
 ·have h:(match ra.its with|some (xs,n)=>some (RV.own xs n)|none=>none)=some r:=h
  cases e:ra.its with
  |none=>rw[e]at h;cases h|some w =>obtain⟨xs,n⟩:=w;rw[e]at h;cases h;refine tL C nY ho PyProof.Rows.boot_list (by decide) hs ha λO σ H H2 u Q R s r q=> ?_;obtain⟨p,us,rfl,l,r⟩:=r.its R s e;exact⟨p,us,rfl,l.imp (·.1) (·.1),λl2 hl=>q _ _ (aJ hl _) (dh s hl r)⟩
 ·have h:(match ra.its with|some (xs,n)=>some (RV.frz (.tup xs) n)|none=>none)=some r:=h
  cases e:ra.its with
  |none=>rw[e]at h;cases h|some w =>
   obtain⟨xs,n⟩:=w;rw[e]at h;cases h;refine tL C lg ho PyProof.Rows.boot_tuple (by decide) hs ha λO σ H H2 u Q R s r q=> ?_;obtain⟨p,us,rfl,l,r⟩:=r.its R s e;refine⟨p,us,rfl,l.imp (λl=>⟨l.1,λl2 hl=> ?_⟩) (λl=>⟨l.1,?_⟩)⟩
   ·exact q _ _ (aJ hl _) (Rp.tup.mpr ⟨l2,us,rfl,cA.of (ju R s hl),r.mono (aD (aJ hl _))⟩)
   ·exact q _ _ (aB.refl _) (Rp.tup.mpr ⟨p,us,rfl,uH R s l.1,r⟩)
 ·unfold lO at h
  cases e:ra.val with
  |lst xs =>
   simp only[e]at h;cases eb:el xs with
   |none=>rw[eb]at h;cases h|some bs =>rw[eb]at h;cases h;refine gH C (qS C.calm) ho boot_all (by decide) hs ha λO σ H H2 u Q R s r q=> ?_;obtain⟨p,us,rfl,l,r⟩:=r.lst R s e;have:=lF eb r;subst this;exact⟨p,bs,rfl,l,q _ _ (aB.refl _) Du⟩
  |_=>simp only[e]at h;cases h
 ·cases z
 ·cases z
 ·exact absurd (show(none:Option RV)=some r from h) (by simp)
 ·have h:(match ra.val with
   | .lst xs=>(el xs).map λbs=>sc (.bl (bs.any id))|_=>none)=some r:=h
  cases e:ra.val with
  |lst xs =>
   simp only[e]at h;cases eb:el xs with
   |none=>rw[eb]at h;cases h|some bs =>rw[eb]at h;cases h;refine gH C (qR C.calm) ho boot_any (by decide) hs ha λO σ H H2 u Q R s r q=> ?_;obtain⟨p,us,rfl,l,r⟩:=r.lst R s e;have:=lF eb r;subst this;exact⟨p,bs,rfl,l,q _ _ (aB.refl _) Du⟩
  |_=>simp only[e]at h;cases h
 ·have h:(match ra.val with
   | .lst xs=>(aQ xs).map λns=>sc (.int ns.sum)|_=>none)=some r:=h
  cases e:ra.val with
  |lst xs =>
   simp only[e]at h;cases eb:aQ xs with
   |none=>rw[eb]at h;cases h|some bs =>rw[eb]at h;cases h;refine gH C (li C.calm) ho boot_sum (by decide) hs ha λO σ H H2 u Q R s r q=> ?_;obtain⟨p,us,rfl,l,r⟩:=r.lst R s e;have:=fZ eb r;subst this;exact⟨p,bs,rfl,l,q _ _ (aB.refl _) xN⟩
  |_=>simp only[e]at h;cases h
 ·have h:(match ra.val with
   | .lst xs=>gf xs ra|_=>none)=some r:=h
  cases e:ra.val with
  |lst xs =>
   simp only[e]at h;unfold gf at h;cases es:j9 xs with
   |none =>
    rw[es]at h;dsimp only at h
    split at h
    ·rename_i ys n ei
     exact xG C ho hs ha e ei h
    ·cases h
   |some r' =>
   rw[es]at h;cases h;have h:=es;unfold j9 at h;cases eb:aQ xs with
   |none =>rw[eb]at h;exact xE C ho hs ha e h
   |some bs =>
    rw[eb]at h;have h:(if bs.length<64 then some (RV.own ((L2.sortI bs).map PV.int) true)else none)=some r:=h
    split at h
    ·rename_i c
     cases h;refine gH C jQ ho boot_sorted (by decide) hs ha λO σ H H2 u Q R s r q=> ?_;obtain⟨p,us,rfl,l,r⟩:=r.lst R s e;have:=fZ eb r;subst this;exact⟨p,bs,rfl,l,c,λa ha=>q _ _ (aJ ha _) (dh s ha (aG.ints.mpr rfl))⟩
    ·cases h
  |_=>simp only[e]at h;cases h
theorem F1(C:bL w X ct)(n:own ct x=true)(m:qX x 2=some f)(t:isStar a=false)(g:isStar b=false)(o:aH X Hi τ a l)(e :aH X Hi τ b k)(h:lO f [l,k]=some r) :
  aH X Hi τ (.Call (.Name x p) [a,b] [] pos) r:=by
 refine LA λno=> ?_;have m:qW x 2=some f:=m
 rcases jT m with⟨_,z,_⟩|⟨_,z,_⟩|⟨_,z,_⟩|⟨_,z,_⟩|⟨_,z,_⟩|⟨rfl,_,rfl⟩|⟨rfl,_,rfl⟩|⟨_,z,_⟩|⟨_,z,_⟩|⟨_,z,_⟩|⟨_,z,_⟩
 ·cases z
 ·cases z
 ·cases z
 ·cases z
 ·cases z
 ·unfold lO at h
  cases c:l.val with
  |int i =>
   cases d:k.val with
   |int j =>simp only[c,d]at h;cases h;exact no<|b2_go C (vx C.calm) n boot_min (by decide) t g o e λO σ H H2 u v Q R s r r2 q=>⟨i,j,by rw[r.int R s c,r2.int R s d],q _ _ (aB.refl _) xN⟩
   |_=>simp only[c,d]at h;cases h
  |_=>simp only[c]at h;cases h
 ·unfold lO at h
  cases c:l.val with
  |int i =>
   cases d:k.val with
   |int j =>simp only[c,d]at h;cases h;exact no<|b2_go C (vy C.calm) n boot_max (by decide) t g o e λO σ H H2 u v Q R s r r2 q=>⟨i,j,by rw[r.int R s c,r2.int R s d],q _ _ (aB.refl _) xN⟩
   |_=>simp only[c,d]at h;cases h
  |_=>simp only[c]at h;cases h
 ·cases z
 ·cases z
 ·cases z
 ·cases z
theorem aG.lrng{n:Bool}{H:Hp}(k:Nat):aG X.K Hi n (lrng k) H (DL k):=by
 unfold IR.lrng DL
 generalize List.range k=l
 induction l with
 | nil=>exact .nil
 | cons x l ih=>exact .cons (Rp.int.mpr rfl) ih
theorem nN(a:Str):∀b:List Str,Str.join a b=fj a b
 |[]=>rfl|[x]=>rfl|x::y::r=>by show x++a++Str.join a (y::r)=_;rw[nN a (y::r)];rfl
theorem join_ok(J:jC o=true)(G:(g.endLine==f.line)=true)(B:isStar a=false)(E:aH X Hi τ o z)(I:aH X Hi τ a y)(h:pO .join z [y]=some r) :
  aH X Hi τ (.Call (.Attribute o "join" g) [a] [] f) r:=by
 have m:attributeBase o "join" X.env (eval o X.env)=eval o X.env:=by cases o<;>first|rfl|cases J
 have w:∀(b:Str)(d:List Str)(j:z.val=.str b),(∀(O:List Addr)(n:L2.St)(H k:Hp)(u:V),aT X.K Hi O τ n H->aB H k->aW X.K Hi O H k y u->∃p,u=.ref p/\(bJ X.K k p (d.map V.str)\/cA X.K k p (d.map V.str))) -> (d.map (·.length)).sum+d.length*b.length<=LN->aH X Hi τ (.Call (.Attribute o "join" g) [a] [] f) (sc (.str (fj b d))):=by intro b d j L C O n H Q R q;refine we (tm PySem.F.plainAttrs_str PySem.F.slot_str_join PySem.F.type_str_join Bh aS (ae aS bP (aL B)) m (by rw[aL B];rfl) G (aL B) rfl) ?_;refine E O n H _ R λu H1 s1 r1=> ?_;have i:=r1.str R s1 j;subst i;refine⟨rfl,I O n H1 _ (R.ext s1) λv k s2 r2=> ?_⟩;obtain⟨p,rfl,D⟩:=L O n H k v R (s1.trans s2) (r2.back s1);refine⟨b,p,d,rfl,rfl,D,C,?_⟩;have e:Txt.join b d=fj b d:=(PySem.StrLaws.glued_eq_join _ _).trans (nN b d);rw[e];exact q _ _ (s1.trans s2) GQ
 unfold pO at h;cases i:z.val with
 |str b =>
  cases x:y.val with
  |lst A =>
   simp only[i,x]at h;cases t:dc A with
   |none=>rw[t]at h;cases h|some d =>
    rw[t]at h;have h:(if(d.map (·.length)).sum+d.length*b.length<=LN then some (sc (.str (fj b d)))else none)=some r:=h
    split at h
    ·rename_i c
     cases h;refine w b d i (λO n H k u R s r=> ?_) c;obtain⟨p,us,rfl,l,r⟩:=r.lst R s x;have:=j4 t r;subst this;exact⟨p,rfl,.inl l⟩
    ·cases h
  |tup A =>
   simp only[i,x]at h;cases t:dc A with
   |none=>rw[t]at h;cases h|some d =>
    rw[t]at h;have h:(if(d.map (·.length)).sum+d.length*b.length<=LN then some (sc (.str (fj b d)))else none)=some r:=h
    split at h
    ·rename_i c
     cases h;refine w b d i (λO n H k u R s r=> ?_) c;obtain⟨p,us,rfl,l,r⟩:=r.tup R s x;have:=j4 t r;subst this;exact⟨p,rfl,.inr l⟩
    ·cases h
  |_=>simp only[i,x]at h;cases h
 |_=>simp only[i]at h;cases h
theorem Hc(h:bh b=false):GJ b:=by intro o i;cases b<;>first|rfl|cases h
theorem tZ(h:bh b=false):ug b:=by intro o i;cases b<;>first|rfl|cases h
theorem lH(r:aG X.K Hi n a H us)(h:eo a k=some e):∃u,eo us k=some u/\Rp X.K Hi n e H u:=by
 unfold eo at h ⊢;rw[<- r.len];cases c:lN a.length k with
 |none=>rw[c]at h;cases h|some j =>rw[c]at h;exact r.at (i:=j) h
theorem yu(S:X.A.units+64<cLine)(N:bh i=false)(M:aH X Hi τ a x)(G:aH X Hi τ i y)(h:index x y=some r):aH X Hi τ (.Subscript a i pos) r:=by
 have D:∀{J:R2}(P:Ix X J),(∀(O:List Addr)(f:L2.St)(H d:Hp)(u v:V)(Q:VK),aT X.K Hi O τ f H->aB H d->aW X.K Hi O H d x u->aW X.K Hi O H d y v->(∀w,aW X.K Hi O H d r w->Q w d)->J u v d Q)->aH X Hi τ (.Subscript a i pos) r:=by intro J P k O f H Q R q;refine we (yE P aS aS (tZ N)) ?_;refine M O f H _ R λu H1 s1 r1=>G O f H1 _ (R.ext s1) λv d s2 r2=> ?_;exact k O f H d u v Q R (s1.trans s2) (r1.ext s2) (r2.back s1) λw r3=>q w d (s1.trans s2) r3
 unfold index at h
 split at h
 case h_1 m n k o =>
  cases c:eo m k with
  |none=>rw[c]at h;cases h|some e =>rw[c]at h;cases h;refine D hE λO f H d u v Q R s r1 r2 q=> ?_;obtain⟨p,us,rfl,_,l,r⟩:=Rp.lst.mp (show Rp X.K Hi n (.lst m) (aK d O) u from r1);obtain⟨w,j,b⟩:=lH r c;exact⟨p,us,k,w,rfl,r2.int R s o,(aO (O:=O)).seq l,j,q w (b.mono bF).up⟩
 case h_2 m n k o =>
  cases c:eo m k with
  |none=>rw[c]at h;cases h|some e =>rw[c]at h;cases h;refine D yq λO f H d u v Q R s r1 r2 q=> ?_;obtain⟨p,us,rfl,l,r⟩:=Rp.tup.mp (show Rp X.K Hi n (.tup m) (aK d O) u from r1);obtain⟨w,j,b⟩:=lH r c;exact⟨p,us,k,w,rfl,r2.int R s o,(aO (O:=O)).tup l,j,q w b.up⟩
 case h_3 m n k o =>
  cases c:eo m k with
  |none=>rw[c]at h;cases h|some e =>rw[c]at h;cases h;refine D hE λO f H d u v Q R s r1 r2 q=> ?_;obtain⟨p,us,rfl,U,F,r⟩:=r1;obtain⟨w,j,b⟩:=lH r c;exact⟨p,us,k,w,rfl,r2.int R s o,bJ.of F,j,q w (b.mono (aD bF)).up⟩
 case h_4 m k o =>
  cases c:eo m k with
  |none=>rw[c]at h;cases h|some e =>
   rw[c]at h;cases h;refine D hE λO f H d u v Q R s r1 r2 q=> ?_;obtain⟨p,us,rfl,_,l,r⟩:=Rp.lst.mp (show Rp X.K Hi false (.lst m) d u from r1);obtain⟨w,j,b⟩:=lH r c;refine⟨p,us,k,w,rfl,r2.int R s o,l,j,q w ?_⟩;unfold fw
   split
   ·rename_i E
    exact Rp.imm E (R.ext s).tups (b.mono bF)
   ·exact b.mono bF
 case h_5 m k o =>
  cases c:eo m k with
  |none=>rw[c]at h;cases h|some e =>
   rw[c]at h;cases h;refine D yq λO f H d u v Q R s r1 r2 q=> ?_;obtain⟨p,us,rfl,l,r⟩:=Rp.tup.mp (show Rp X.K Hi false (.tup m) d u from r1);obtain⟨w,j,b⟩:=lH r c;refine⟨p,us,k,w,rfl,r2.int R s o,l,j,q w ?_⟩;unfold fw
   split
   ·rename_i E
    exact Rp.imm E (R.ext s).tups b
   ·exact b
 case h_6 z n k o =>
  split at h
  ·rename_i T
   cases c:eo z.cps.toList k with
   |none=>rw[c]at h;cases h|some e =>rw[c]at h;cases h;exact D Eu λO f H d u v Q R s r1 r2 q=>⟨z,k,e,r1.str R s rfl,r2.int R s o,by rw[cJ];exact T,c,q _ GQ⟩
  ·cases h
 case h_7 C B n =>
  cases t:dQ y.val with
  |none=>rw[t]at h;cases h|some k =>
   rw[t]at h;have h:(fg C B k).map (λe=>RV.frz e (n||imm e))=some r:=h;cases c:fg C B k with
   |none=>rw[c]at h;cases h|some e =>
    rw[c]at h;cases h;intro O f H Q R q;refine we (tj (by omega) aS aS (Hc N)) ?_;refine M O f H _ R λu H1 s1 r1=>G O f H1 _ (R.ext s1) λv d s2 r2=> ?_;obtain⟨p,us,rfl,F,I,L⟩:=Rp.dK (show Rp X.K Hi n (.dK C B) (aK d O) u from r1.ext s2);obtain⟨w,j,b⟩:=(jl (k:=k) L I).2 e c;rw[g9 t ((r2.back s1).val R (s1.trans s2))];have g:iQ d p (kV k) (some w):=by rw[<- j];exact .k (aO p _ F)
    exact⟨p,w,rfl,g,q w d (s1.trans s2) (b.mono bF).up⟩
 case h_8 C B =>
  cases t:dQ y.val with
  |none=>rw[t]at h;cases h|some k =>
   rw[t]at h;have h:(fg C B k).map fw=some r:=h;cases c:fg C B k with
   |none=>rw[c]at h;cases h|some e =>
    rw[c]at h;cases h;intro O f H Q R q;refine we (tj (by omega) aS aS (Hc N)) ?_;refine M O f H _ R λu H1 s1 r1=>G O f H1 _ (R.ext s1) λv d s2 r2=> ?_;obtain⟨p,us,rfl,F,I,L⟩:=Rp.dK (show Rp X.K Hi false (.dK C B) d u from r1.ext s2);obtain⟨w,j,b⟩:=(jl (k:=k) L I).2 e c;rw[g9 t ((r2.back s1).val R (s1.trans s2))];have g:iQ d p (kV k) (some w):=by rw[<- j];exact .k F
    refine⟨p,w,rfl,g,q w d (s1.trans s2) ?_⟩;unfold fw
    split
    ·rename_i E
     exact Rp.imm E (R.ext (s1.trans s2)).tups (b.mono bF)
    ·exact b.mono bF
 case h_9=>cases h
variable(X Hi τ)in
noncomputable def wE(e:Option Expr)(o:Option Int):Prop:=match e,o with
 |none,none=>True|some e,some i=>∃r,aH X Hi τ e r/\r.val=.int i|_,_=>False
theorem fC{lo:Option Expr}(hr:GX X rr)(ha:aH X Hi τ a x)(hl:wE X Hi τ lo l)(hh:wE X Hi τ hi h)
  (k:∀(O:List Addr)(σ:L2.St)(H H2:Hp)(u:V)(Q:VK),aT X.K Hi O τ σ H->aB H H2->aW X.K Hi O H H2 x u->(∀w H3,aB H2 H3->aW X.K Hi O H H3 r w->Q w H3)->rr u l h H2 Q):aH X Hi τ (.Subscript a (.Slice lo hi none p2) pos) r:=by
 have part:∀{e:Option Expr}{o:Option Int},wE X Hi τ e o->∃t,PO X e t/\∀(O:List Addr)(σ:L2.St)(H:Hp)(Q:Option Int->Hp->Prop),aT X.K Hi O τ σ H->(∀H',aB H H' ->Q o H')->t σ H Q:=by
  intro e o he;cases e with
  |none =>
   cases o with
   |none=>exact⟨_,BJ,λO σ H Q R q=>q H (aB.refl _)⟩|some i=>cases he
  |some e =>
   cases o with
   |none=>cases he|some i =>obtain⟨r,h1,h2⟩:=he;exact⟨_,BI aS,λO σ H Q R q=>h1 O σ H _ R λu H1 s1 r1=>⟨i,r1.int R s1 h2,q _ s1⟩⟩
 obtain⟨tl,pl,ql⟩:=part hl;obtain⟨th,ph,qh⟩:=part hh;intro O σ H Q R q;refine we (yC hr aS pl ph) ?_;refine ha O σ H _ R λu H1 s1 r1=>ql O σ H1 _ (R.ext s1) λH2 s2=>qh O σ H2 _ (R.ext (s1.trans s2)) λH3 s3=> ?_;exact k O σ H H3 u Q R (s1.trans (s2.trans s3)) (r1.ext (s2.trans s3)) λw H4 s4 r4=>q w H4 (s1.trans (s2.trans (s3.trans s4))) r4
theorem aG.cut(r:aG X.K Hi n a H us)(b c:Option Int):aG X.K Hi n (IR.cut a b c) H (qL us b c):=by unfold IR.cut qL;rw[<- r.len];exact(r.drop _).take _
theorem aW.whole(R:aT X.K Hi O τ g H)(s:aB H d)(h:aW X.K Hi O H d x u)(e:x.its=some (f,n))(c:x.val=.tup a):aW X.K Hi O H d (.frz (.tup f) n) u:=by
 cases x with
 |frz w m =>obtain rfl:w=.tup a:=c;cases e;exact h
 |bor w =>
  obtain rfl:w=.tup a:=c;have e:(if imms a then some (a,true)else none)=some (f,n):=e
  split at e
  ·rename_i i
   cases e;exact Rp.imm (by rw[imm];exact i) (R.ext s).tups (show Rp X.K Hi false (.tup _) d u from h)
  ·cases e
 |own a m=>cases c|owd b a m=>cases b<;>cases c
theorem xK(j:aH X Hi τ a x)(g:wE X Hi τ y l)(i:wE X Hi τ t h)(e:slice x l h=some r):aH X Hi τ (.Subscript a (.Slice y t none A) pos) r:=by
 unfold slice at e
 split at e
 case h_1 z c =>
  split at e
  ·rename_i v
   split at e
   ·rename_i k
    split at e
    ·rename_i C
     cases e;refine fC xL j g i λO σ H H2 u Q R s r1 q=>⟨z,r1.str R s c,by rw[cJ];exact v,?_⟩;have m:Txt.slice z none (some k)=(⟨(z.cps.toList.take k.toNat).toArray⟩:Str):=by refine UM.jo ?_;have:=vD z k.toNat;rw[show((k.toNat:Nat):Int)=k by omega]at this;rw[this]
     rw[m];exact q _ _ (aB.refl _) GQ
    ·cases e
   ·rename_i k
    split at e
    ·rename_i C
     cases e;refine fC xL j g i λO σ H H2 u Q R s r1 q=>⟨z,r1.str R s c,by rw[cJ];exact v,?_⟩;have m:Txt.slice z (some k) none=(⟨(z.cps.toList.drop k.toNat).toArray⟩:Str):=by refine UM.jo ?_;have:=vC z k.toNat;rw[show((k.toNat:Nat):Int)=k by omega]at this;rw[this]
     rw[m];exact q _ _ (aB.refl _) GQ
    ·cases e
   ·cases e
  ·cases e
 case h_2 c =>
  cases b:x.its with
  |none=>rw[b]at e;cases e|some w =>obtain⟨B,n⟩:=w;rw[b]at e;cases e;refine fC Av j g i λO σ H H2 u Q R s r1 q=> ?_;obtain⟨p,us,rfl,f,d⟩:=r1.itsL R s b c;exact⟨p,us,rfl,f,λp3 hp=>q _ _ (aJ hp _) (dh s hp (d.up.cut _ _))⟩
 case h_3 c =>
  cases b:x.its with
  |none=>rw[b]at e;cases e|some w =>
   obtain⟨B,n⟩:=w;rw[b]at e;dsimp only at e
   split at e
   ·rename_i o
    cases e;refine fC Au j g i λO σ H H2 u Q R s r1 q=> ?_;obtain⟨p,us,rfl,f,d⟩:=r1.itsT R s b c;exact⟨p,us,rfl,f,by rw[<- d.len];exact o,q _ _ (aB.refl _) (r1.whole R s b c)⟩
   ·rename_i o
    cases e;refine fC Dp j g i λO σ H H2 u Q R s r1 q=> ?_;obtain⟨p,us,rfl,f,d⟩:=r1.itsT R s b c;refine⟨p,us,rfl,f,by rw[<- d.len];exact o,λp3 hp=>q _ _ (aJ hp _) ?_⟩;exact Rp.tup.mpr ⟨p3,_,rfl,cA.of (ju R s hp),(d.cut _ _).mono (aD (aJ hp _))⟩
 case h_4=>cases e
end
end IR
namespace IR
open PySem L2
end IR
namespace IR
open PySem PySem.Spec PyProof.Rows L2
section
variable{X:Cx}{Hi:Hp}{τ:En}
noncomputable def WI(X:Cx)(c a:Expr)(d:L2.St)(H:Hp)(R:It->Hp->Prop):Prop:=∃b,PI X c a b/\b d H R
theorem rP:PI X b a (λσ H R=>WI X b a σ H R):=λpins s σ H R I ⟨wi,h,q⟩=>h pins s σ H R I q
noncomputable def sk(O:List Addr)(H:Hp):Prop:=∀l∈O,∃o,H l=some o/\Mo o
theorem aT.lsts{K:W.Frag}(R:aT K Hi O τ a H):sk O H:=λl hl=>(R.own l hl).2
noncomputable def AX(B:Hp)(H:Hp)(O:List Addr):Prop:=sk O H/\aB B (aK H O)
noncomputable def OkB(B:Hp)(H:Hp)(O:List Addr):Prop:=sk O H/\aB B H
theorem sk.tups(h:sk O H):sg H (aK H O):=by refine iP.tups λl hl=> ?_;obtain⟨us,e,a⟩:=h l hl;exact a.noTup e
variable(X Hi)in
structure jb(J:It)(Ok:Hp->List Addr->Prop)(xs:List PV)(n:Bool):Prop where
 go:∀(H:Hp)(O:List Addr)(i:Nat),Ok H O->i<xs.length->J.go i H
 stop:∀(H:Hp)(O:List Addr),Ok H O->J.stop xs.length H
 yld:∀(H:Hp)(O:List Addr)(i:Nat)(u:V)(H' :Hp),Ok H O->i<xs.length->J.yld i H u H' ->aB H H' /\∃x,xs[i]? =some x/\Rp X.K Hi n x (aK H' O) u
variable(X Hi τ)in
noncomputable def ll(e a:Expr)(f:List PV)(n b:Bool):Prop:=∀(O:List Addr)(d:L2.St)(H:Hp)(R:It->Hp->Prop),aT X.K Hi O τ d H -> (∀J c,aB H c->jb X Hi J (if b=true then OkB c else AX (aK c O)) f n->R J c)->WI X e a d H R
theorem DQ{B:Hp}{p:Addr}{us:List V}{a:List PV}{n:Bool}(l:bJ X.K B p us)(r:aG X.K Hi n a B us):jb X Hi (GL X.K p) (AX B) a n where
 go:=λH O i ok hi=>⟨us,us[i]'(by rw[<- r.len];exact hi),(ok.2.trans aO).seq l,by simp⟩
 stop:=λH O ok=>⟨us,(ok.2.trans aO).seq l,by rw[r.len];exact JH _⟩
 yld:=λH O i u H' ok hi y=>by obtain⟨e,y⟩:=y;subst e;obtain⟨x,b,c⟩:=r.at' (y us ((ok.2.trans aO).seq l));exact⟨aB.refl _,x,b,c.mono ok.2⟩
theorem IG{B:Hp}{p:Addr}{us:List V}{a:List PV}{n:Bool}(l:cA X.K B p us)(r:aG X.K Hi n a B us):jb X Hi (Itt X.K p) (AX B) a n where
 go:=λH O i ok hi=>⟨us,us[i]'(by rw[<- r.len];exact hi),(ok.2.trans aO).tup l,by simp⟩
 stop:=λH O ok=>⟨us,(ok.2.trans aO).tup l,by rw[r.len];exact JH _⟩
 yld:=λH O i u H' ok hi y=>by obtain⟨e,y⟩:=y;subst e;obtain⟨x,b,c⟩:=r.at' (y us ((ok.2.trans aO).tup l));exact⟨aB.refl _,x,b,c.mono ok.2⟩
theorem Fa{B:Hp}{p:Addr}{us:List V}{a:List PV}{n m:Bool}(l:bJ X.K B p us)(r:aG X.K Hi m a B us)(b:imms a=true):jb X Hi (GL X.K p) (OkB B) a n where
 go:=λH O i ok hi=>⟨us,us[i]'(by rw[<- r.len];exact hi),ok.2.seq l,by simp⟩
 stop:=λH O ok=>⟨us,ok.2.seq l,by rw[r.len];exact JH _⟩
 yld:=λH O i u H' ok hi y=>by obtain⟨e,y⟩:=y;subst e;have f:aG X.K Hi n a (aK H' O) us:=aG.imm b ok.1.tups (r.mono ok.2);obtain⟨x,c,d⟩:=f.at' (y us (ok.2.seq l));exact⟨aB.refl _,x,c,d⟩
theorem FZ{B:Hp}{p:Addr}{us:List V}{a:List PV}{n m:Bool}(l:cA X.K B p us)(r:aG X.K Hi m a B us)(b:imms a=true):jb X Hi (Itt X.K p) (OkB B) a n where
 go:=λH O i ok hi=>⟨us,us[i]'(by rw[<- r.len];exact hi),ok.2.tup l,by simp⟩
 stop:=λH O ok=>⟨us,ok.2.tup l,by rw[r.len];exact JH _⟩
 yld:=λH O i u H' ok hi y=>by obtain⟨e,y⟩:=y;subst e;have f:aG X.K Hi n a (aK H' O) us:=aG.imm b ok.1.tups (r.mono ok.2);obtain⟨x,c,d⟩:=f.at' (y us (ok.2.tup l));exact⟨aB.refl _,x,c,d⟩
theorem dE(z:Str):(signs z).length=z.cps.size:=by unfold signs;rw[JC,JZ]
theorem signs_at{z:Str}{i:Nat}{c:Nat}(h:z.cps[i]? =some c):(signs z)[i]? =some (.str ⟨#[c]⟩):=by unfold signs;rw[JP,Jt,h];rfl
theorem II{B:Hp}{z:Str}{n:Bool}:jb X Hi (Iy z) (AX B) (signs z) n where
 go:=λH O i ok hi=>by rw[dE]at hi;exact hi
 stop:=λH O ok=>by show(signs z).length=z.cps.size;exact dE z
 yld:=λH O i u H' ok hi y=>by obtain⟨e,c,a,rfl⟩:=y;subst e;exact⟨aB.refl _,_,signs_at a,Rp.str.mpr rfl⟩
theorem uO{B:Hp}{b:Int}{k:Nat}{n:Bool}:jb X Hi (Iz b k) (AX B) ((List.range k).map λi=>.int (b+(i:Nat))) n where
 go:=λH O i ok a=>by show i<k;simpa using a
 stop:=λH O ok=>by show k<=_;simp
 yld:=λH O i u H' ok a y=>by
  obtain⟨e,rfl⟩:=y;subst e;have a:i<k:=by simpa using a
  exact⟨aB.refl _,_,by rw[JP,KD a];rfl,Rp.int.mpr rfl⟩
theorem zP{B:Hp}{b c:Int}{k:Nat}{n:Bool}:jb X Hi (Itc b c k) (AX B) ((List.range k).map λi=>.int (b+(i:Nat)*c)) n where
 go:=λH O i ok a=>by show i<k;simpa using a
 stop:=λH O ok=>by show _=k;simp
 yld:=λH O i u H' ok a y=>by
  obtain⟨e,rfl⟩:=y;subst e;have a:i<k:=by simpa using a
  exact⟨aB.refl _,_,by rw[JP,KD a];rfl,Rp.int.mpr rfl⟩
theorem Dq(g:aH X Hi τ e r)(h:kD r=some (c,n,b)):ll X Hi τ o e c n b:=by
 intro O f H R d q;cases r with
 |frz v m =>
  cases v with
  |str z =>cases h;refine⟨_,EH aS,?_⟩;exact g O f H _ d λu H1 s1 r1=>⟨z,r1.str d s1 rfl,q _ _ s1 II⟩
  |lst a =>cases h;refine⟨_,gr aS,?_⟩;refine g O f H _ d λu H1 s1 r1=> ?_;obtain⟨p,us,rfl,_,l,r⟩:=Rp.lst.mp (show Rp X.K Hi n (.lst c) (aK H1 O) u from r1);exact⟨p,rfl,⟨us,(aO (O:=O)).seq l⟩,q _ _ s1 (DQ l (r.mono bF))⟩
  |tup a =>cases h;refine⟨_,xt aS,?_⟩;refine g O f H _ d λu H1 s1 r1=> ?_;obtain⟨p,us,rfl,l,r⟩:=Rp.tup.mp (show Rp X.K Hi n (.tup c) (aK H1 O) u from r1);exact⟨p,rfl,⟨us,(aO (O:=O)).tup l⟩,q _ _ s1 (IG l r)⟩
  |_=>cases h
 |bor v =>
  cases v with
  |lst a =>
   have h:(if imms a then some (a,true,true)else none)=some (c,n,b):=h
   split at h
   ·rename_i i
    cases h;refine⟨_,gr aS,?_⟩;refine g O f H _ d λu H1 s1 r1=> ?_;obtain⟨p,us,rfl,_,l,r⟩:=Rp.lst.mp (show Rp X.K Hi false (.lst c) H1 u from r1);exact⟨p,rfl,⟨us,l⟩,q _ _ s1 (Fa l (r.mono bF) i)⟩
   ·cases h
  |tup a =>
   have h:(if imms a then some (a,true,true)else none)=some (c,n,b):=h
   split at h
   ·rename_i i
    cases h;refine⟨_,xt aS,?_⟩;refine g O f H _ d λu H1 s1 r1=> ?_;obtain⟨p,us,rfl,l,r⟩:=Rp.tup.mp (show Rp X.K Hi false (.tup c) H1 u from r1);exact⟨p,rfl,⟨us,l⟩,q _ _ s1 (FZ l r i)⟩
   ·cases h
  |_=>cases h
 |owd x a m=>cases h|own a m =>
  cases h;refine⟨_,gr aS,?_⟩;refine g O f H _ d λu H1 s1 r1=> ?_;obtain⟨p,us,rfl,s,j,r⟩:=r1;have t:aK H1 O p=some (.lst us):=by
   unfold aK;rw[JE λz=> ?_]
   ·exact j
   ·obtain⟨w,k,_⟩:=(d.own p z).2
    rw[s]at k;cases k
  exact⟨p,rfl,⟨us,bJ.of j⟩,q _ _ s1 (DQ (bJ.of t) (r.mono (aD bF)))⟩
theorem D4{cd:Nat->List PV->Option PV}{ct:Ct}(C:bL cd X ct){tg:Expr}{es:List Expr}{p pos:Pos}{rs:List RV}{xs:List PV}(ho:own ct ("range":Str)=true)(hs:∀a∈es,isStar a=false)(ha:n9 X Hi τ es rs)(hl:es.length=rs.length)(h:i7 rs=some xs) :
  ll X Hi τ tg (.Call (.Name "range" p) es [] pos) xs true false:=by
 intro O σ H R Rl q;obtain⟨g,hm⟩:=hX C ho;unfold i7 at h
 split at h
 ·rename_i ra
  cases e:ra.val with
  | int j =>
   simp only[e]at h
   split at h
   ·rename_i c
    cases h
    match es,hl with
    | [a],_ =>
     refine⟨_,vO g hm rQ (aL (hs a (by simp))),?_⟩;refine ha O σ H _ Rl fun us H1 s1 r1=> ?_;obtain⟨u,vs,rfl,r2,z⟩:=r1;cases z;exact⟨j,by rw[r2.int Rl s1 e],c.1,c.2,q _ _ s1 uO⟩
   ·cases h
  | _=>simp only[e]at h;cases h
 ·rename_i ra rb
  cases e:ra.val with
  | int i =>
   cases e2:rb.val with
   | int j =>
    simp only[e,e2]at h
    split at h
    ·rename_i c
     cases h
     match es,hl with
     | [a,b],_ =>
      have h1:starEach [a,b] X.env=[(false,eval a X.env),(false,eval b X.env)]:=by rw[aL (hs a (by simp)),aL (hs b (by simp))];rfl
      refine⟨_,vN g hm rQ h1 (aL (hs b (by simp))),?_⟩;refine ha O σ H _ Rl fun us H1 s1 r1=> ?_;obtain⟨u,vs,rfl,r2,u2,vs2,rfl,r3,z⟩:=r1;cases z;exact⟨i,j,by rw[r2.int Rl s1 e,r3.int Rl s1 e2],c,q _ _ s1 uO⟩
    ·cases h
   | _=>simp only[e,e2]at h;cases h
  | _=>simp only[e]at h;cases h
 ·rename_i ra rb rc
  cases e:ra.val with
  | int i =>
   cases e2:rb.val with
   | int j =>
    cases e3:rc.val with
    | int k =>
     simp only[e,e2,e3]at h
     split at h
     ·rename_i c
      cases h
      match es,hl with
      | [a,b,d],_ =>
       refine⟨_,vM g hm rQ (aL (hs a (by simp))) (fW fun z hz=>hs z (by simp at hz ⊢;rcases hz with rfl|rfl<;>simp)),?_⟩;refine ha O σ H _ Rl fun us H1 s1 r1=> ?_;obtain⟨u,vs,rfl,r2,u2,vs2,rfl,r3,u3,vs3,rfl,r4,z⟩:=r1;cases z;exact⟨i,j,k,by rw[r2.int Rl s1 e,r3.int Rl s1 e2,r4.int Rl s1 e3],c.1,c.2.1,c.2.2,q _ _ s1 zP⟩
     ·cases h
    | _=>simp only[e,e2,e3]at h;cases h
   | _=>simp only[e,e2]at h;cases h
  | _=>simp only[e]at h;cases h
 ·cases h
theorem nD(R:aT X.K Hi O τ f H)(s:aB H a)(h:yZ r=some (b,n))(c:aW X.K Hi O H a r u):∃p us,u=.ref p/\bJ X.K (aK a O) p us/\aG X.K Hi n b (aK a O) us:=by
 cases r with
 |frz v m =>
  cases v with
  |lst d =>cases h;obtain⟨p,us,rfl,_,l,r⟩:=Rp.lst.mp (show Rp X.K Hi n (.lst b) (aK a O) u from c);exact⟨p,us,rfl,l,r.mono bF⟩
  |_=>cases h
 |bor v=>cases h|owd o d m=>cases h|own d m =>
  cases h;obtain⟨p,us,rfl,g,i,r⟩:=c;have j:aK a O p=some (.lst us):=by
   unfold aK;rw[JE λz=> ?_]
   ·exact i
   ·obtain⟨k,e,_⟩:=(R.own p z).2
    rw[g]at e;cases e
  exact⟨p,us,rfl,bJ.of j,r.mono (aD bF)⟩
theorem jt(l:sk O H)(a:H p=none)(r:aG X.K Hi n b (aK H O) us):Rp X.K Hi n (.tup b) (aK (L2.upd H p (.tup us)) O) (.ref p):=by
 refine Rp.tup.mpr ⟨p,us,rfl,cA.of ?_,r.mono (aD (aJ a _))⟩;unfold aK;rw[JE λz=> ?_]
 ·exact aF
 ·obtain⟨us,e,_⟩:=l p z
  rw[e]at a;cases a
theorem DV{cd:Nat->List PV->Option PV}(C:bL cd X ct)(ho:own ct ("zip":Str)=true)(hs:isStar a=false)(hs2:isStar b=false)(ha:aH X Hi τ a ra)(hb:aH X Hi τ b rb)(h:wZ ra rb=some (xs,n)) :
  ll X Hi τ (.Tuple ts kt tpos) (.Call (.Name "zip" p) [a,b] [] pos) xs n false:=by
 intro O σ H R Rl q;obtain⟨g,hm⟩:=hX C ho;unfold wZ at h
 split at h
 ·rename_i ys n1 zs n2 e1 e2
  split at h
  ·rename_i hlen
   cases h;refine⟨_,EG g hm (ae aS (ae aS bP (aL hs2)) (aL hs)) (aL hs) (fW λc hc=>by simp at hc;subst hc;exact hs2),?_⟩;refine ha O σ H _ Rl λu H1 s1 r1=>hb O σ H1 _ (Rl.ext s1) λv H2 s2 r2=> ?_;obtain⟨p1,us,rfl,l1,q1⟩:=nD Rl (s1.trans s2) e1 (r1.ext s2);obtain⟨p2,vs,rfl,l2,q2⟩:=nD Rl (s1.trans s2) e2 (r2.back s1);refine⟨p1,p2,us,vs,rfl,(aO (O:=O)).seq l1,(aO (O:=O)).seq l2,q _ _ (s1.trans s2) ?_⟩;have z1:=q1.len;have z2:=q2.len;have zl:(List.zipWith tq ys zs).length=us.length:=by rw[Lw,<-hlen,LY];exact z1
   refine⟨λG P i ok hi=> ?_,λG P ok=> ?_,λG P i w G' ok hi y=> ?_⟩
   ·rw[zl]at hi
    exact⟨us,vs,us[i],vs[i]'(by omega),(ok.2.trans aO).seq l1,(ok.2.trans aO).seq l2,by simp,by simp⟩
   ·exact⟨us,vs,(ok.2.trans aO).seq l1,(ok.2.trans aO).seq l2,.inl (by rw[zl];exact JH _)⟩
   ·rw[zl]at hi
    obtain⟨p3,hp3,rfl,y⟩:=y;have e:=y us vs us[i] (vs[i]'(by omega)) ((ok.2.trans aO).seq l1) ((ok.2.trans aO).seq l2) (by simp) (by simp);subst e;obtain⟨x1,hx1,rx1⟩:=q1.at' (i:=i) (u:=us[i]) (by simp);obtain⟨x2,hx2,rx2⟩:=q2.at' (i:=i) (u:=vs[i]'(by omega)) (by simp);refine⟨aJ hp3 _,tq x1 x2,by rw[K7,hx1,hx2],jt ok.1 hp3 (.cons ((rx1.mono ok.2).low λz=> ?_) (.cons ((rx2.mono ok.2).low λz=> ?_) .nil))⟩
    ·rw[JJ]at z;exact z.1
    ·rw[JJ]at z;exact z.2
  ·cases h
 ·cases h
theorem CL{cd:Nat->List PV->Option PV}{ct:Ct}(C:bL cd X ct){ts:List Expr}{kt:Nat}{tpos:Pos}{a:Expr}{p pos:Pos}{ra:RV}{xs:List PV}{n:Bool}(ho:own ct ("enumerate":Str)=true)(hs:isStar a=false)(ha:aH X Hi τ a ra)(h:k7 ra=some (xs,n)) :
  ll X Hi τ (.Tuple ts kt tpos) (.Call (.Name "enumerate" p) [a] [] pos) xs n false:=by
 intro O σ H R Rl q;obtain⟨g,hm⟩:=hX C ho;unfold k7 at h
 split at h
 ·rename_i z m
  cases h;refine⟨_,xw g hm (ae aS bP (aL hs)) (aL hs),?_⟩;refine ha O σ H _ Rl fun u H1 s1 r1=>⟨z,by rw[r1.str Rl s1 rfl],q _ _ s1 ?_⟩;have zl:(List.zipWith dr (List.range z.length) (signs z)).length=z.length:=by rw[Lw,dE,Je];exact LY _
  have hsl:(dN z).length=z.length:=kB z;refine⟨fun G P i ok hi=> ?_,fun G P ok=> ?_,fun G P i w G' ok hi y=> ?_⟩
  ·rw[zl]at hi
   exact⟨_,(dN z)[i]'(by omega),rfl,by simp⟩
  ·exact⟨_,rfl,by rw[zl,hsl]⟩
  ·rw[zl]at hi
   obtain⟨p3,hp3,rfl,y⟩:=y;have hz:i<z.cps.size:=hi;obtain⟨c,hc⟩:∃c,z.cps[i]? =some c:=⟨z.cps[i],by simp[hz]⟩;have hv:(dN z)[i]? =some (.str ⟨#[c]⟩):=by
    unfold dN;rw[JP,Jt,hc];rfl
   have e:=y _ (.str ⟨#[c]⟩) rfl hv;subst e;refine⟨aJ hp3 _,dr i (.str ⟨#[c]⟩),by rw[K7,signs_at hc,KD hi],jt ok.1 hp3 (.cons (Rp.int.mpr rfl) (.cons (Rp.str.mpr rfl) .nil))⟩
 ·rename_i ys m
  cases h;refine⟨_,xu g hm (ae aS bP (aL hs)) (aL hs),?_⟩;refine ha O σ H _ Rl fun u H1 s1 r1=> ?_;obtain⟨p1,us,rfl,l,r⟩:=Rp.tup.mp (show Rp X.K Hi n (.tup ys) (aK H1 O) u from r1);refine⟨p1,us,rfl,(aO (O:=O)).tup l,q _ _ s1 ?_⟩;have zl:(List.zipWith dr (List.range ys.length) ys).length=ys.length:=by rw[Lw,Je];exact LY _
  have hsl:=r.len;refine⟨fun G P i ok hi=> ?_,fun G P ok=> ?_,fun G P i w G' ok hi y=> ?_⟩
  ·rw[zl]at hi
   exact⟨us,us[i]'(by omega),(ok.2.trans aO).tup l,by simp⟩
  ·exact⟨us,(ok.2.trans aO).tup l,by rw[zl,hsl]⟩
  ·rw[zl]at hi
   obtain⟨p3,hp3,rfl,y⟩:=y;have hv:us[i]? =some (us[i]'(by omega)):=by simp
   have e:=y us _ ((ok.2.trans aO).tup l) hv;subst e;obtain⟨x1,hx1,rx1⟩:=r.at' hv;exact⟨aJ hp3 _,dr i x1,by rw[K7,hx1,KD hi],jt ok.1 hp3 (.cons (Rp.int.mpr rfl) (.cons (rx1.mono ok.2) .nil))⟩
 ·split at h
  ·rename_i ys m e1
   cases h;refine⟨_,pH g hm (ae aS bP (aL hs)) (aL hs),?_⟩;refine ha O σ H _ Rl fun u H1 s1 r1=> ?_;obtain⟨p1,us,rfl,l,r⟩:=nD Rl s1 e1 r1;refine⟨p1,us,rfl,(aO (O:=O)).seq l,q _ _ s1 ?_⟩;have zl:(List.zipWith dr (List.range ys.length) ys).length=ys.length:=by rw[Lw,Je];exact LY _
   have hsl:=r.len;refine⟨fun G P i ok hi=> ?_,fun G P ok=> ?_,fun G P i w G' ok hi y=> ?_⟩
   ·rw[zl]at hi
    exact⟨us,us[i]'(by omega),(ok.2.trans aO).seq l,by simp⟩
   ·exact⟨us,(ok.2.trans aO).seq l,by rw[zl,hsl]⟩
   ·rw[zl]at hi
    obtain⟨p3,hp3,rfl,y⟩:=y;have hv:us[i]? =some (us[i]'(by omega)):=by simp
    have e:=y us _ ((ok.2.trans aO).seq l) hv;subst e;obtain⟨x1,hx1,rx1⟩:=r.at' hv;exact⟨aJ hp3 _,dr i x1,by rw[K7,hx1,KD hi],jt ok.1 hp3 (.cons (Rp.int.mpr rfl) (.cons (rx1.mono ok.2) .nil))⟩
  ·cases h
theorem fT{N:List Str}:∀{a:List Str}{b:List Nat},slots N a=some b->a.length=b.length
 |[],b,h=>by cases h;rfl|x::a,b,h=>by
  unfold slots at h;cases e:slot N x with
  |none=>rw[e]at h;cases h|some i =>
   rw[e]at h;cases c:slots N a with
   |none=>simp[c]at h|some d =>simp[c]at h;subst h;simp[fT c]
theorem o5{N:List Str}:∀{a:List Str}{b:List Nat}{j i:Nat},slots N a=some b->b[j]? =some i->∃x,a[j]? =some x/\N[i]? =some x
 |[],b,j,i,h,hj=>by cases h;simp at hj|x::a,b,j,i,h,hj=>by
  unfold slots at h;cases e:slot N x with
  |none=>rw[e]at h;cases h|some f =>
   rw[e]at h;cases c:slots N a with
   |none=>simp[c]at h|some d =>
    simp[c]at h;subst h;cases j with
    |zero =>simp at hj;subst hj;exact⟨x,by simp,fU e⟩
    |succ j=>simpa using o5 c (by simpa using hj)
theorem g0(h:re ct t scope=true):scope.kind=.function/\(∀y∈scope.names,y.2=.cell->scope.names.lookup y.1=some .cell)/\(∀y∈scope.names,y.2=.local->scope.names.lookup y.1=some .local) /\ (∀y∈scope.names,y.2=.free->(ct.S.lookup y.1=some .cell\/ct.S.lookup y.1=some .free))/\(t::frees scope).Nodup/\(scope.names.lookup t=some .local\/scope.names.lookup t=some .cell)/\∀x∈frees scope,scope.names.lookup x=some .free:=by
 unfold re at h;simp only[JJ]at h;obtain⟨⟨⟨⟨⟨⟨c,d⟩,a⟩,i⟩,f⟩,g⟩,b⟩:=h;refine⟨Jq c,λy hy e=> ?_,λy hy e=> ?_,λy hy e=> ?_,Lh f,by simpa using g,λx hx=> ?_⟩
 ·have:=Jh.mp d y hy
  rw[e]at this
  simpa using this
 ·have:=Jh.mp a y hy
  rw[e]at this
  simpa using this
 ·have:=Jh.mp i y hy
  rw[e]at this
  simpa using this
 ·have:=Jh.mp b x hx
  simpa using this
theorem gk{a:Env}:∀{names:List (Str×NameKind)}{x:Str},names.lookup x=some .cell -> (names.map λ(n,k)=>if(k==NameKind.free&&a.scope.kind== .function&&a.kindOf n==some .cell)then(n,NameKind.cell)else(n,k)).lookup x=some .cell
 |[],_,h=>by simp at h|(n,k)::r,x,h=>by
  have d:= @gk a r x;show List.lookup x ((if(k==NameKind.free&&a.scope.kind== .function&&a.kindOf n==some .cell)=true then(n,NameKind.cell)else(n,k))::_)=_;cases b:x==n with
  |true =>simp only[J5,b]at h;cases h;rw[JE (by simp)];simp only[J5,b]
  |false =>
   simp only[J5,b]at h
   by_cases c:(k==NameKind.free&&a.scope.kind== .function&&a.kindOf n==some .cell)=true;rw[JI c];simp only[J5,b];exact d h;rw[JE c];simp only[J5,b];exact d h
theorem jm(h:scope.names.lookup t=some .local\/scope.names.lookup t=some .cell):L2.Loc (bG X b scope e c d f a).env.scope t:=by
 rcases h with h|h
 ·exact .inl (lookup_relabel_local h)
 ·exact .inr (gk h)
theorem mX(h:scope.names.lookup t=some .local\/scope.names.lookup t=some .cell):(bG X b scope e c d f a).fn t=true\/(bG X b scope e c d f a).env.scope.names.lookup t=some .local:=by
 rcases h with h|h
 ·exact .inr (lookup_relabel_local h)
 ·left
  show(scope.names.lookup t==some .cell)=true;rw[h];rfl
theorem bL.blk{cd:Nat->List PV->Option PV}{ct:Ct}(C:bL cd X ct){t:Str}{scope:Scope}(h:re ct t scope=true)(Cf:Addr)(s2:Shared)(H2:Hp)(fp:List Addr)(cl:List (Str×Addr)):bL cd (bG X (t::frees scope) scope Cf s2 H2 fp cl) (blk ct t scope):=by
 obtain⟨h1,h2,h3,h4,h5,h6,h7⟩:=g0 h;refine⟨rfl,h5,?_,h1,C.calm,C.glob,C.bl,C.fns,Lm,C.un⟩;show(scope.names.map fun(n,k)=>if(k==NameKind.free&&X.env.scope.kind== .function&&X.env.kindOf n==some .cell)then(n,NameKind.cell)else(n,k))=lr ct.S scope.names;unfold lr;refine Jv fun y hy=> ?_;obtain⟨n,k⟩:=y;have e:(X.env.scope.kind==ScopeKind.function)=true:=by rw[C.kind];rfl
 have e2:X.env.kindOf n=ct.S.lookup n:=by
  show X.env.scope.names.lookup n=_;rw[C.S]
 dsimp only;rw[e,e2]
theorem jH(h:l8 ct t a scope=true):scope.kind=.function/\(∀y∈scope.names,y.2=.cell->scope.names.lookup y.1=some .cell)/\(∀y∈scope.names,y.2=.local->scope.names.lookup y.1=some .local) /\ (∀y∈scope.names,y.2=.free->(ct.S.lookup y.1=some .cell\/ct.S.lookup y.1=some .free))/\(t::a::frees scope).Nodup/\(scope.names.lookup t=some .local\/scope.names.lookup t=some .cell)/\(scope.names.lookup a=some .local\/scope.names.lookup a=some .cell)/\∀x∈frees scope,scope.names.lookup x=some .free:=by
 unfold l8 at h;simp only[JJ]at h;obtain⟨⟨⟨⟨⟨⟨⟨d,g⟩,b⟩,k⟩,i⟩,j⟩,f⟩,c⟩:=h;refine⟨Jq d,λy hy e=> ?_,λy hy e=> ?_,λy hy e=> ?_,Lh i,by simpa using j,by simpa using f,λx hx=> ?_⟩
 ·have:=Jh.mp g y hy
  rw[e]at this
  simpa using this
 ·have:=Jh.mp b y hy
  rw[e]at this
  simpa using this
 ·have:=Jh.mp k y hy
  rw[e]at this
  simpa using this
 ·have:=Jh.mp c x hx
  simpa using this
theorem bL.blk2{cd:Nat->List PV->Option PV}{ct:Ct}(C:bL cd X ct){t t2:Str}{scope:Scope}(h:l8 ct t t2 scope=true)(Cf:Addr)(s2:Shared)(H2:Hp)(fp:List Addr)(cl:List (Str×Addr)):bL cd (bG X (t::t2::frees scope) scope Cf s2 H2 fp cl) (blk2 ct t t2 scope):=by
 obtain⟨h1,h2,h3,h4,h5,h6,h8,h7⟩:=jH h;refine⟨rfl,h5,?_,h1,C.calm,C.glob,C.bl,C.fns,Lm,C.un⟩;show(scope.names.map fun(n,k)=>if(k==NameKind.free&&X.env.scope.kind== .function&&X.env.kindOf n==some .cell)then(n,NameKind.cell)else(n,k))=lr ct.S scope.names;unfold lr;refine Jv fun y hy=> ?_;obtain⟨n,k⟩:=y;have e:(X.env.scope.kind==ScopeKind.function)=true:=by rw[C.kind];rfl
 have e2:X.env.kindOf n=ct.S.lookup n:=by
  show X.env.scope.names.lookup n=_;rw[C.S]
 dsimp only;rw[e,e2]
theorem gc{f:Nat->List PV->Option PV}{ct:Ct}(C:bL f X ct){scope:Scope}:∀{b:List Str}{a:List Nat},slots ct.N b=some a->(∀x∈b,scope.names.lookup x=some .free/\(ct.S.lookup x=some .cell\/ct.S.lookup x=some .free))->bY X scope b (a.map some)
 |[],a,h,_=>by cases h;exact True.intro|x::b,a,h,k=>by
  unfold slots at h;cases e:slot ct.N x with
  |none=>rw[e]at h;cases h|some j =>
   rw[e]at h;cases c:slots ct.N b with
   |none=>simp[c]at h|some i =>simp[c]at h;subst h;obtain⟨d,g⟩:=k x JL;exact⟨⟨by rw[C.N];exact fU e,d,by rw[C.S];exact g⟩,gc C c λy hy=>k y (JF _ hy)⟩
theorem yQ{t:TV}(h:t.ob=some x):t≠.un:=λe=>by subst e;cases h
theorem aT.block{K:W.Frag}{O:List Addr}{s:L2.St}{H:Hp}{c:List Nat}{x:PV}{n:Bool}{u:V}(R:aT K Hi O τ s H)(M:c.Nodup)(r:Rp K Hi n x (aK H O) u) :
  aT K Hi O (.frz x n::c.map λi=>τ.getD i .un) (some u::bX (c.map some) s) H:=by
 have d:∀(j:Nat)(v:TV),(c.map λi=>τ.getD i .un)[j]? =some v->v≠.un->∃i,c[j]? =some i/\τ[i]? =some v:=λj v e hv=>by
  rw[JP]at e;cases J:c[j]? with
  |none=>rw[J]at e;cases e|some i =>
   rw[J]at e;refine⟨i,rfl,?_⟩;have e:τ.getD i .un=v:=Jb e;rw[JQ]at e;cases F:τ[i]? with
   |none=>rw[F]at e;exact absurd e.symm hv|some w=>rw[F]at e;exact J1 some e
 have f:∀(j i:Nat),c[j]? =some i->(bX (c.map some) s)[j]? =some ((s[i]?).join):=λj i e=>by unfold bX;rw[JP,JP,e];rfl
 refine⟨R.same,R.own,λj v m e=> ?_,λj t bd ys m e ht=> ?_,λa b t t' x1 y1 l k ht p ht' h g=> ?_⟩
 ·cases j with
  |zero =>simp at e;obtain⟨rfl,rfl⟩:=e;exact⟨u,by simp,r⟩
  |succ j =>obtain⟨i,h,g⟩:=d j _ (by simpa using e) (by simp);obtain⟨w,B,A⟩:=R.frz i v m g;exact⟨w,by rw[Kg,f j i h,B];rfl,A⟩
 ·cases j with
  |zero =>simp at e;subst e;cases ht
  |succ j =>obtain⟨i,h,g⟩:=d j _ (by simpa using e) (yQ ht);obtain⟨l,us,o,B,A⟩:=R.obs i t bd ys m g ht;exact⟨l,us,o,by rw[Kg,f j i h,B];rfl,A⟩
 ·cases a with
  |zero =>simp at k;subst k;cases ht
  |succ a =>
   cases b with
   |zero =>simp at p;subst p;cases ht'
   |succ b =>
    obtain⟨i,y,I⟩:=d a _ (by simpa using k) (yQ ht);obtain⟨j,q,D⟩:=d b _ (by simpa using p) (yQ ht');rw[Kg,f a i y]at h;rw[Kg,f b j q]at g;obtain⟨b1,z,L⟩:=x1;obtain⟨T,C,P⟩:=y1;obtain⟨Z,Q,o1,G,_⟩:=R.obs i t b1 z L I ht;obtain⟨Y,N,o2,E,_⟩:=R.obs j t' T C P D ht';rw[G]at h;rw[E]at g;cases h;cases g;have e:=R.dst i j t t' _ _ l I ht D ht' G E;subst e
    congr 1
    have S:a<c.length:=(JK.mp y).1;have U:b<c.length:=(JK.mp q).1;have k:c[a]=i:=by rw[JN S]at y;exact Jb y
    have p:c[b]=i:=by rw[JN U]at q;exact Jb q
    exact(List.getElem_inj M).mp (k.trans p.symm)
theorem eW{N:List Str}:∀{b:List Str}{a:List Nat},slots N b=some a->b.Nodup->a.Nodup
 |[],a,h,_=>by cases h;exact List.nodup_nil|x::b,a,h,nd=>by
  unfold slots at h;cases e:slot N x with
  |none=>rw[e]at h;cases h|some j =>
   rw[e]at h;cases c:slots N b with
   |none=>simp[c]at h|some i =>simp[c]at h;subst h;refine J9.mpr ⟨λhm=> ?_,eW c (J9.mp nd).2⟩;obtain⟨k,g⟩:=List.mem_iff_getElem?.mp hm;obtain⟨y,f,d⟩:=o5 c g;rw[fU e]at d;cases d;exact(J9.mp nd).1 (Jd f)
theorem aT.hide{K:W.Frag}(R:aT K Hi O τ h H)(s:aB H a)(j:H D=none)(y:a D=some (.lst us)):aT K Hi (D::O) τ h a :=by
 have k:aB (aK H O) (aK a (D::O)):=λb o e=>by
  unfold aK at e ⊢
  split at e;cases e
  ·rename_i z
   have m:b≠D:=aI e j;rw[JE (by simp[m,z])];exact s b o e
 refine⟨R.same.trans s,λl f=> ?_,λi v n e=> ?_,λi t b xs n e ht=> ?_,R.dst⟩
 ·rcases JU.mp f with rfl|f
  ·exact⟨R.same.free j,_,y,.lst⟩
  ·obtain⟨q,c,e,p⟩:=R.own l f
   exact⟨q,c,s _ _ e,p⟩
 ·obtain⟨u,g,d⟩:=R.frz i v n e
  exact⟨u,g,d.mono k⟩
 ·obtain⟨l,c,o,g,d,r,w,x⟩:=R.obs i t b xs n e ht
  exact⟨l,c,o,g,JF _ d,s _ _ r,w,x.mono k⟩
theorem eQ(h:eF e=false):∀x,foldedSetIterable e d x=pure x:=by
 intro x;cases e with
 |Set a b c=>cases h|_=>rfl
noncomputable def IV(e:Nat->List PV->Option PV)(a:DU)(c:IE)(n:Bool)(d:En):PV->Option (Option (PV×Bool)):=λx=>(jN e a (.frz x (n||imm x)::d)).bind λb=>if b then(aP e c (.frz x (n||imm x)::d)).bind λr=>r.keep.map some else some none
theorem yf{cd:Nat->List PV->Option PV}{ctb:Ct}{Nn:List Str}{pre:List (Option Nat)}{tg iter elt:Expr}{ifs:List Expr}{ifs' :DU}{elt' :IE}{scope:Scope}{xs:List PV}{n b:Bool}{VS:List PV}{NN:Bool}{CF:PV->Option (Option (PV×Bool))}
  (jX:ll X Hi τ tg iter xs n b) (hz:xs.length<=LN) (hblk:∀(Cf:Addr)(s2:Shared)(H2:Hp)(fp:List Addr)(cl:List (Str×Addr)),bL cd (bG X Nn scope Cf s2 H2 fp cl) ctb)
  (hifs:∀(X' :Cx)(τ' :En)(k:Bool),bL cd X' ctb->jN cd ifs' τ' =some k->∃tt,wD X' ifs tt/\∀(O:List Addr)(σ:L2.St)(H:Hp)(Q:Bool->Hp->Prop),aT X'.K Hi O τ' σ H->(∀H',aB H H' ->Q k H')->tt σ H Q)
  (helt:∀(X' :Cx)(τ' :En)(r:RV),bL cd X' ctb->aP cd elt' τ' =some r->aH X' Hi τ' elt r)
  (step:∀(O:List Addr)(σ:L2.St)(D:Addr)(x:PV)(r0:Option (PV×Bool))(u:V)(G' :Hp)(Cf:Addr)(s2:Shared)(H2:Hp)(fp:List Addr)(cl:List (Str×Addr)),CF x=some r0->aT X.K Hi (D::O) τ σ G' ->Rp X.K Hi n x (aK G' (D::O)) u ->
   ∃(τx:En)(σx:L2.St)(g:TG),((jN cd ifs' τx).bind fun t=>if t then(aP cd elt' τx).bind fun r=>r.keep.map some else some none)=some r0/\aT X.K Hi (D::O) τx σx G' /\PG (bG X Nn scope Cf s2 H2 fp cl) tg g /\
    ∀K:L2.St->Hp->Prop,K σx G' ->g u (bX pre σ) G' fun σ2 H3=>(σ2.length=Nn.length/\∀(j:Nat)(v:V),(bX pre σ)[j]? =some (some v)->σ2[j]? =some (some v))/\K σ2 H3)
  (hrun:bq CF xs=some (VS,NN)) (O:List Addr) (σ:L2.St) (H:Hp) (Q:VK) (R:aT X.K Hi O τ σ H) (q:∀u H',aB H H' ->aW X.K Hi O H H' (.own VS NN) u->Q u H'):C9 X Nn pre scope tg ifs elt (fun σ H R=>WI X tg iter σ H R) σ H Q:=by
 refine jX O σ H _ R fun J H1 s1 En=> ?_;intro D hD;have ok:∀(G:Hp)(ys:List V),aB H1 G->G D=some (.lst ys)->(if b=true then OkB H1 else AX (aK H1 O)) G (D::O):=by
  intro G ys sG gD;have ls:sk (D::O) G:=fun l hl=>by
   rcases JU.mp hl with rfl|hl
   ·exact⟨_,gD,.lst⟩
   ·obtain⟨us,e,mo⟩:=(R.own l hl).2
    exact⟨us,sG _ _ (s1 _ _ e),mo⟩
  cases b with
  | true=>exact⟨ls,sG⟩
  | false =>
   refine⟨ls,fun c o e=> ?_⟩;unfold aK at e ⊢
   split at e
   ·cases e
   ·rename_i nb
    have ne:c≠D:=aI e hD;rw[JE (by simp[ne,nb])];exact sG c o e
 refine⟨fun i m ys G=>m=xs.length-i/\i<=xs.length/\aB H1 G/\G D=some (.lst ys)/\ys.length<=i/\∃dn ws mm,bq CF (xs.drop i)=some (ws,mm)/\VS=dn++ws/\(NN=true->mm=true)/\aG X.K Hi NN dn (aK G (D::O)) ys,
  ⟨xs.length,by simp,J0 _,aJ hD _,aF,JH _,[],VS,NN,hrun,rfl,id,.nil⟩,?_⟩
 rintro i m ys G ⟨rfl,hi,sG,gD,hyl,dn,ws,mm,hc1,hv,hn,hr⟩
 by_cases hlt:i<xs.length
 ·refine .inr ⟨En.go G (D::O) i (ok G ys sG gD) hlt,fun u G' y=> ?_⟩
  obtain⟨sGG,x,hx,rx⟩:=En.yld G (D::O) i u G' (ok G ys sG gD) hlt y;intro Cf s2 H2 fp cl;have C' :=hblk Cf s2 H2 fp cl;have hd:xs.drop i=x::xs.drop (i+1):=by
   rw[KN hlt];rw[JN hlt]at hx;rw[Jb hx]
  rw[hd]at hc1;unfold bq at hc1;cases hf:CF x with
  | none=>rw[hf]at hc1;cases hc1
  | some r0 =>
   rw[hf]at hc1;cases hcr:bq CF (xs.drop (i+1))with
   | none=>rw[hcr]at hc1;cases hc1
   | some w =>
    obtain⟨ws',mm'⟩:=w;rw[hcr]at hc1;have gD' :G' D=some (.lst ys):=sGG _ _ gD;obtain⟨τx,σx,g,hf,RB,pg,hg⟩:=step O σ D x r0 u G' Cf s2 H2 fp cl hf (R.hide (s1.trans (sG.trans sGG)) (s1.free hD) gD') rx;cases hco:jN cd ifs' τx with
    | none=>rw[hco]at hf;cases hf
    | some k =>
     rw[hco]at hf;obtain⟨tt,ptt,qtt⟩:=hifs _ _ _ C' hco;refine⟨g,tt,_,pg,ptt,aS,hg _ ?_⟩;refine qtt (D::O) _ G' _ RB fun G4 s4=> ?_;cases k with
     | false =>
      rw[JE JS];have hf:(some none:Option (Option (PV×Bool)))=some r0:=hf;cases hf;cases hc1;exact⟨xs.length-(i+1),by omega,rfl,hlt,sG.trans (sGG.trans s4),s4 _ _ gD',by omega,dn,ws,mm,hcr,hv,hn,hr.mono (aD (sGG.trans s4))⟩
     | true =>
      rw[JI rfl];have hf:((aP cd elt' τx).bind fun r=>r.keep.map some)=some r0:=hf;cases he:aP cd elt' τx with
      | none=>rw[he]at hf;cases hf
      | some r =>
       rw[he]at hf;have hf:r.keep.map some=some r0:=hf;cases hk:r.keep with
       | none=>rw[hk]at hf;cases hf
       | some vn =>
        obtain⟨v,nv⟩:=vn;rw[hk]at hf;cases hf;have hc1:some (v::ws',nv&&mm')=some (ws,mm):=hc1;cases hc1;refine helt _ _ _ C' he (D::O) _ G4 _ (RB.ext s4) fun w G5 s5 r5=> ?_;have kp:=r5.keep (RB.ext s4) s5 hk;have gD5:=s5 _ _ (s4 _ _ gD');have sT:=sG.trans (sGG.trans (s4.trans s5));have hz' :xs.length<=16777216:=hz;refine⟨gD5,by rw[cJ];omega,xs.length-(i+1),by omega,rfl,hlt,sT.upd hD,aF,by rw[JM];simp;omega,dn++[v],ws',mm',hcr,by rw[hv];simp,fun z=> ?_,?_⟩
        ·have:=hn z
         rw[JJ]at this;exact this.2
        ·have e:aK (L2.upd G5 D (.lst (ys++[w]))) (D::O)=aK G5 (D::O):=by
          funext c
          unfold aK
          split
          ·rfl
          ·rename_i nc
           exact aA fun z=>nc (z▸JL)
         rw[e];refine(hr.mono (aD (sGG.trans (s4.trans s5)))).app (.cons (kp.low fun z=> ?_) .nil);have:=hn z;rw[JJ]at this;exact this.1
 ·have e:i=xs.length:=by omega
  subst e;rw[List.drop_length]at hc1;cases hc1;refine .inl ⟨En.stop G (D::O) (ok G ys sG gD),q _ _ (s1.trans sG) ?_⟩;refine⟨D,ys,rfl,s1.free hD,gD,?_⟩;rw[hv,KG];refine hr.mono fun c o e=> ?_;unfold aK at e;unfold aK del
  split at e
  ·cases e
  ·rename_i nc
   have n1:c≠D:=fun z=>nc (z▸JL);have n2:c∉O:=fun z=>nc (JF _ z);rw[JE n2,JE n1];exact e
theorem By{cd:Nat->List PV->Option PV}{ct:Ct}(C:bL cd X ct){t:Str}{tp:Pos}{iter elt:Expr}{ifs:List Expr}{ifs' :DU}{elt' :IE}{scope:Scope}{caps:List Nat}{xs:List PV}{n b:Bool}{VS:List PV}{NN:Bool}
  (h:re ct t scope=true) (hc:slots ct.N (frees scope)=some caps) (hset:eF iter=false) (jX:ll X Hi τ (.Name t tp) iter xs n b) (hz:xs.length<=LN)
  (hifs:∀(X' :Cx)(τ' :En)(k:Bool),bL cd X' (blk ct t scope)->jN cd ifs' τ' =some k->∃tt,wD X' ifs tt/\∀(O:List Addr)(σ:L2.St)(H:Hp)(Q:Bool->Hp->Prop),aT X'.K Hi O τ' σ H->(∀H',aB H H' ->Q k H')->tt σ H Q)
  (helt:∀(X' :Cx)(τ' :En)(r:RV),bL cd X' (blk ct t scope)->aP cd elt' τ' =some r->aH X' Hi τ' elt r)
  (hrun:bq (IV cd ifs' elt' n (caps.map fun i=>τ.getD i .un)) xs=some (VS,NN)):bY X scope (t::frees scope) (none::caps.map some)/\eG X.env.scope scope=true /\
  ∀(O:List Addr)(σ:L2.St)(H:Hp)(Q:VK),aT X.K Hi O τ σ H->(∀u H',aB H H' ->aW X.K Hi O H H' (.own VS NN) u->Q u H')->C9 X (t::frees scope) (none::caps.map some) scope (.Name t tp) ifs elt (fun σ H R=>WI X (.Name t tp) iter σ H R) σ H Q:=by
 obtain⟨h1,h2,h3,h4,h5,h6,h7⟩:=g0 h;have hmem:∀x∈frees scope,(x,NameKind.free)∈scope.names:=fun x hx=>Jx (h7 x hx);have hsrc:bY X scope (t::frees scope) (none::caps.map some):=gc C hc fun x hx=>⟨h7 x hx,h4 _ (hmem x hx) rfl⟩;have hfr:eG X.env.scope scope=true:=by
  unfold eG;rw[Jh];intro y hy;rw[C.S]
  by_cases e:y.2=.free
  ·rcases h4 y hy e with z|z<;>simp[e,z]
  ·simp[e]
 have hlen:=fT hc;refine⟨hsrc,hfr,yf jX hz (C.blk h) hifs helt (fun O σ D x r0 u G' Cf s2 H2 fp cl hf R rx=> ?_) hrun⟩;exact⟨_,some u::bX (caps.map some) σ,mE 0,hf,R.block (eW hc (J9.mp h5).2) rx.up,bW h5 rfl (jm h6) (mX h6),fun K k=>⟨lG (by simp[hlen]),k⟩⟩
theorem aT.consF{K:W.Frag}(R:aT K Hi O τ f H)(r:Rp K Hi n x (aK H O) u):aT K Hi O (.frz x n::τ) (some u::f) H:=by
 refine⟨R.same,R.own,λj v m e=> ?_,λj t bd ys m e ht=> ?_,λa b t t' x1 y1 l e1 ht e2 ht' h1 h2=> ?_⟩
 ·cases j with
  |zero =>simp at e;obtain⟨rfl,rfl⟩:=e;exact⟨u,by simp,r⟩
  |succ j =>obtain⟨w,c,d⟩:=R.frz j v m (by simpa using e);exact⟨w,by simpa using c,d⟩
 ·cases j with
  |zero =>simp at e;subst e;cases ht
  |succ j =>obtain⟨l,us,o,c,d⟩:=R.obs j t bd ys m (by simpa using e) ht;exact⟨l,us,o,by simpa using c,d⟩
 ·cases a with
  |zero =>simp at e1;subst e1;cases ht
  |succ a =>
   cases b with
   |zero =>simp at e2;subst e2;cases ht'
   |succ b=>rw[R.dst a b t t' x1 y1 l (by simpa using e1) ht (by simpa using e2) ht' (by simpa using h1) (by simpa using h2)]
theorem vz{b:List Str}(h:r.length+2=b.length) :
  (((bX (none::none::r) a).set 0 (some x)).set 1 (some y)).length=b.length/\∀(j:Nat)(v:V),(bX (none::none::r) a)[j]? =some (some v)->(((bX (none::none::r) a).set 0 (some x)).set 1 (some y))[j]? =some (some v):=by
 refine⟨by rw[KI,KI];simp[bX,h],λj v e=> ?_⟩;cases j with
 |zero=>simp[bX]at e|succ j =>
  cases j with
  |zero=>simp[bX]at e|succ j=>simpa [bX]using e
noncomputable def zV(f:Nat->List PV->Option PV)(c:DU)(d:IE)(n:Bool)(e:En):PV->Option (Option (PV×Bool)):=λx=>(l5 x).bind λ(a,b)=>(jN f c (.frz a (n||imm a)::.frz b (n||imm b)::e)).bind λt=>if t then(aP f d (.frz a (n||imm a)::.frz b (n||imm b)::e)).bind λr=>r.keep.map some else some none
theorem ye(C:bL q X ct)
  (h:l8 ct t f scope=true) (T:slots ct.N (frees scope)=some a) (a0:eF c=false) (jX:ll X Hi τ (.Tuple [.Name t J,.Name f m] M o) c U n b) (hz:U.length<=LN)
  (A:∀(s :Cx)(d :En)(k:Bool),bL q s (blk2 ct t f scope)->jN q l d =some k->∃V,wD s ifs V/\∀(O:List Addr)(j:L2.St)(H:Hp)(Q:Bool->Hp->Prop),aT s.K Hi O d j H->(∀p,aB H p ->Q k p)->V j H Q)
  (G:∀(s :Cx)(d :En)(r:RV),bL q s (blk2 ct t f scope)->aP q g d =some r->aH s Hi d elt r)
  (E:bq (zV q l g n (a.map λi=>τ.getD i .un)) U=some (VS,NN)):bY X scope (t::f::frees scope) (none::none::a.map some)/\eG X.env.scope scope=true /\ ∀(O:List Addr)(j:L2.St)(H:Hp)(Q:VK),aT X.K Hi O τ j H->(∀u p,aB H p ->aW X.K Hi O H p (.own VS NN) u->Q u p)->C9 X (t::f::frees scope) (none::none::a.map some) scope (.Tuple [.Name t J,.Name f m] M o) ifs elt (λσ H R=>WI X (.Tuple [.Name t J,.Name f m] M o) c j H R) j H Q:=by
 obtain⟨h1,h2,h3,Y,L,h6,h8,h7⟩:=jH h;have B:∀x∈frees scope,(x,NameKind.free)∈scope.names:=λx hx=>Jx (h7 x hx);have F:bY X scope (t::f::frees scope) (none::none::a.map some):=gc C T λx hx=>⟨h7 x hx,Y _ (B x hx) rfl⟩;have P:eG X.env.scope scope=true:=by
  unfold eG;rw[Jh];intro y hy;rw[C.S]
  by_cases e:y.2=.free
  ·rcases Y y hy e with z|z<;>simp[e,z]
  ·simp[e]
 have v:=fT T;refine⟨F,P,yf jX hz (C.blk2 h) A G (λO j D x r0 u G' Cf s2 H2 fp cl hf R rx=> ?_) E⟩;unfold zV at hf;obtain⟨x1,Z,rfl⟩:∃x1 Z,x=.tup [x1,Z]:=by
  cases I:l5 x with
  |none=>rw[I]at hf;cases hf|some w =>
   unfold l5 at I
   split at I;exact⟨_,_,rfl⟩;cases I
 obtain⟨pa,us,rfl,lt,rt⟩:=Rp.tup.mp rx;unfold aG at rt;obtain⟨u1,a2,rfl,ra,rt⟩:=rt;unfold aG at rt;obtain⟨W,a1,rfl,rb,rt⟩:=rt;unfold aG at rt;subst rt
 exact⟨_,some u1::some W::bX (a.map some) j,_,hf,(R.block (eW T (J9.mp (J9.mp L).2).2) rb.up).consF ra.up,nA (C.blk2 h Cf s2 H2 fp cl).calm (dP (bW (i:=0) L rfl (jm h6) (mX h6)) (dP (bW (i:=1) L rfl (jm h8) (mX h8)) jr rfl) rfl) rfl rfl,λK k=>⟨pa,_,rfl,(aO (O:=D::O)).tup lt,rfl,u1,_,rfl,W,_,rfl,rfl,⟨vz (by simp[v]),k⟩⟩⟩
end
theorem bind_some{d c:Type}{o:Option d}{f:d->Option c}{b:c}(h:o.bind f=some b):∃a,o=some a/\f a=some b:=by
 cases o with
 |none=>cases h|some a=>exact⟨a,rfl,h⟩
theorem map_some{d c:Type}{o:Option d}{f:d->c}{b:c}(h:o.map f=some b):∃a,o=some a/\f a=b:=by
 cases o with
 |none=>cases h|some a=>exact⟨a,rfl,Jb h⟩
structure jc(cd:Nat->List PV->Option PV)(n:Nat):Prop where
 e:∀(X:Cx)(ct:Ct)(Hi:Hp)(τ:En)(e:Expr)(r:RV),bL cd X ct->aP cd (aY n ct e) τ=some r->aH X Hi τ e r
 cm:∀(X:Cx)(ct:Ct)(Hi:Hp)(τ:En)(a:Expr)(ops:List CmpOp)(cs:List Expr)(pos:Pos)(r:RV),bL cd X ct->aP cd (aY n ct (.Compare a ops cs pos)) τ=some r->∃t,r=sc (.bl t)/\fP X Hi τ (.Compare a ops cs pos) t
 es:∀(X:Cx)(ct:Ct)(Hi:Hp)(τ:En)(es:List Expr)(rs:List RV),bL cd X ct->cC cd (fi n ct es) τ=some rs->n9 X Hi τ es rs/\(∀a∈es,isStar a=false)/\es.length=rs.length/\∀(i:Nat)(a:Expr)(r:RV),es[i]? =some a->rs[i]? =some r->aH X Hi τ a r
 o:∀(X:Cx)(ct:Ct)(Hi:Hp)(τ:En)(e:Option Expr)(o:Option RV)(i:Option Int),bL cd X ct->FU cd (C6 n ct e) τ=some o->pk o=some i->wE X Hi τ e i
 c:∀(X:Cx)(ct:Ct)(Hi:Hp)(τ:En)(e:Expr)(b:Bool),bL cd X ct->fk cd (lQ n ct e) τ=some b->fP X Hi τ e b
 call:∀(X:Cx)(ct:Ct)(Hi:Hp)(τ:En)(x:Str)(es:List Expr)(p pos:Pos)(r:RV),bL cd X ct->aP cd (iw n ct x es) τ=some r->aH X Hi τ (.Call (.Name x p) es [] pos) r
 mth:∀(X:Cx)(ct:Ct)(Hi:Hp)(τ:En)(o:Expr)(m:Str)(es:List Expr)(ap cp:Pos)(r:RV),bL cd X ct->(ap.endLine==cp.line)=true->aP cd (lm n ct o m es) τ=some r->aH X Hi τ (.Call (.Attribute o m ap) es [] cp) r
 t:∀(X:Cx)(ct:Ct)(Hi:Hp)(τ:En)(tp:Bool)(e tg:Expr)(xs:List PV)(k b:Bool),bL cd X ct->(tp=true->∃ts kk p,tg=.Tuple ts kk p)->nT cd (ur n ct tp e) τ=some (xs,k,b)->ll X Hi τ tg e xs k b/\eF e=false
section
variable{cd:Nat->List PV->Option PV}
theorem jR(h:iM v=some b):v=.bl b:=by cases v<;>first|(cases h;done)|(cases h;rfl)
theorem hJ(h:jI v=some b):v=.int b:=by cases v<;>first|(cases h;done)|(cases h;rfl)
theorem rT{c:Type}{l:List c}(h:l.length=1):∃a,l=[a]:=by
 cases l with
 |nil=>cases h|cons a l =>
  cases l with
  |nil=>exact⟨a,rfl⟩|cons b l=>cases h
theorem wq{c:Type}{l:List c}(h:l.length=2):∃a b,l=[a,b]:=by
 cases l with
 |nil=>cases h|cons a l =>obtain⟨b,rfl⟩:=rT (show l.length=1 from Nat.succ.inj h);exact⟨a,b,rfl⟩
theorem aM(h:aP cd .never a=some r){P:Prop}:P:=by simp[cw,cX,cz,dH,cx,dB,cZ,cc,cr,cy,c7,cf,cg,cY,dJ,cu,cq,dF,ck,ci,dG]at h
theorem qD{X:Cx}{j:Hp}{d:En}{i:BoolOp}{pos:Pos}{f:Expr->IE}(g:∀e r,aP cd (f e) d=some r->aH X j d e r):∀{m:List Expr}{r:RV},aP cd (kx i (m.map f)) d=some r->aH X j d (.BoolOp i m pos) r
 |[],r,h=>aM h|[a],r,h=>Eb (g a r h)|a::b::aE,r,h=>by
  have l:= @qD X j d i pos f g (b::aE);cases i with
  |And =>
   have h:aP cd (.and (f a) (kx .And ((b::aE).map f))) d=some r:=h;simp only[cw,cX,cz,dH,cx,dB,cZ,cc,cr,cy,c7,cf,cg,cY,dJ,cu,cq,dF,ck,ci,dG]at h;obtain⟨x,c,h⟩:=bind_some h;have c:=g a x c;obtain⟨t,k,h⟩:=bind_some h;have e:=jR k;cases t with
   |true=>exact Il c e (l h)|false=>cases h;exact Im c e
  |Or =>
   have h:aP cd (.or (f a) (kx .Or ((b::aE).map f))) d=some r:=h;simp only[cw,cX,cz,dH,cx,dB,cZ,cc,cr,cy,c7,cf,cg,cY,dJ,cu,cq,dF,ck,ci,dG]at h;obtain⟨x,c,h⟩:=bind_some h;have c:=g a x c;obtain⟨t,k,h⟩:=bind_some h;have e:=jR k;cases t with
   |true=>cases h;exact or_t c e|false=>exact or_f c e (l h)
theorem qC{X:Cx}{j:Hp}{d:En}{i:BoolOp}{pos:Pos}{f:Expr->IC}(g:∀e b,fk cd (f e) d=some b->fP X j d e b):∀{l:List Expr}{b:Bool},fk cd (ku i (l.map f)) d=some b->lj X j d (.BoolOp i l pos) b
 |[],r,h=>by have h:fk cd (.val .never) d=some r:=h;simp[wc,wd,AU,AT,cw,cX,cz,dH,cx,dB,cZ,cc,cr,cy,c7,cf,cg,cY,dJ,cu,cq,dF,ck,ci,dG]at h
 |[a],r,h=>Ea (g a r h)|a::b::aE,r,h=>by
  have k:= @qC X j d i pos f g (b::aE);cases i with
  |And =>
   have h:fk cd (.and (f a) (ku .And ((b::aE).map f))) d=some r:=h;simp only[wc,wd,AU,AT]at h;obtain⟨x,c,h⟩:=bind_some h;have c:=g a x c;cases x with
   |true=>exact AG c (k h)|false=>cases h;exact AG c rfl
  |Or =>
   have h:fk cd (.or (f a) (ku .Or ((b::aE).map f))) d=some r:=h;simp only[wc,wd,AU,AT]at h;obtain⟨x,c,h⟩:=bind_some h;have c:=g a x c;cases x with
   |true=>cases h;exact DD c rfl|false=>exact DD c (k h)
theorem tz{X:Cx}{l:Hp}{d:En}{f:Expr->IE}(m:∀e r,aP cd (f e) d=some r->aH X l d e r):∀{c:List Expr}{b:List RV},cC cd (vV (c.map λe=>if isStar e then .never else f e)) d=some b->n9 X l d c b/\(∀a∈c,isStar a=false)/\c.length=b.length/\∀(i:Nat)(a:Expr)(r:RV),c[i]? =some a->b[i]? =some r->aH X l d a r
 |[],b,h=>by
  have h:some []=some b:=by simpa [vV,wS,wT]using h
  cases h;exact⟨F7,λa g=>(by cases g),rfl,λi a r e=>(by simp at e)⟩
 |e::c,b,h=>by
  have h:cC cd (.cons (if isStar e then .never else f e) (vV (c.map λe=>if isStar e then .never else f e))) d=some b:=h;simp only[wS,wT]at h;obtain⟨x,j,h⟩:=bind_some h;obtain⟨t,n,h⟩:=map_some h;subst h;obtain⟨q,s,p,o⟩:=tz m n;cases k:isStar e with
  |true=>rw[k]at j;exact aM j|false =>
   rw[k]at j;refine⟨Co (m e x j) k q,λa g=> ?_,by rw[JY,JY,p],λi a r e1 e2=> ?_⟩
   ·rcases JU.mp g with rfl|g
    ·exact k
    ·exact s a g
   ·cases i with
    |zero =>simp at e1 e2;subst e1 e2;exact m _ _ j
    |succ i=>exact o i a r (by simpa using e1) (by simpa using e2)
theorem IW(k:jc cd n)(C:bL cd X ct)(h:aP cd (aY (n+1) ct (.Compare a c g pos)) d=some r) :
  ∃t,r=sc (.bl t)/\aH X Hi d (.Compare a c g pos) r/\fP X Hi d (.Compare a c g pos) t:=by
 refine LA λno=> ?_;simp only[oR,oM,oG,oQ,oD,oN,oP,oJ,oI,oE,oK,oF,oO,oH]at h
 split at h
 ·rename_i p b
  split at h;exact aM h
  ·rename_i f
   have f:=Kc.mpr f;simp only[cw,cX,cz,dH,cx,dB,cZ,cc,cr,cy,c7,cf,cg,cY,dJ,cu,cq,dF,ck,ci,dG]at h;obtain⟨x,o,h⟩:=bind_some h;obtain⟨y,m,h⟩:=bind_some h;obtain⟨t,i,h⟩:=map_some h;subst h;have j:=k.e X ct Hi d a x C o;have l:=k.e X ct Hi d b y C m;exact no<|⟨t,rfl,Fe C.un j l f i,Fd C.un j l f i⟩
 ·exact aM h
theorem Ic(B:jc cd n)(C:bL cd X ct)(h:aP cd (iw (n+1) ct x c) j=some r):aH X k j (.Call (.Name x p) c [] pos) r:=by
 refine LA λno=> ?_;simp only[z1p,z1q]at h
 split at h;exact aM h
 rename_i H;have H:=Kc.mpr H
 split at h
 ·rename_i A
  have A:ct.S.lookup x=some .globalImplicit:=by simpa using A
  cases T:ct.F.lookup x with
  |some f =>
   rw[T]at h;dsimp only at h;cases c with
   |nil=>exact aM h|cons e c =>simp only[cw,cX,cz,dH,cx,dB,cZ,cc,cr,cy,c7,cf,cg,cY,dJ,cu,cq,dF,ck,ci,dG]at h;obtain⟨q,d,h⟩:=bind_some h;obtain⟨v,Z,h⟩:=map_some h;subst h;obtain⟨W,u,I,y⟩:=B.es X ct k j (e::c) q C d;exact no<|call_ok C H A T u W Z
  |none =>
   rw[T]at h;dsimp only at h
   split at h
   ·rename_i hb
    have g:own ct x=true:=by unfold own;rw[hb,A];rfl
    have plain:∀{c:List Expr}{r:RV},aP cd (match qX x c.length with|some f=>IE.bf f (fi n ct c)|none=>.never) j=some r->aH X k j (.Call (.Name x p) c [] pos) r:=by
     intro c r h;cases i:qX x c.length with
     |none=>rw[i]at h;exact aM h|some f =>
      rw[i]at h;simp only[cw,cX,cz,dH,cx,dB,cZ,cc,cr,cy,c7,cf,cg,cY,dJ,cu,cq,dF,ck,ci,dG]at h;obtain⟨q,d,h⟩:=bind_some h;obtain⟨W,u,I,y⟩:=B.es X ct k j c q C d;have M:∀a,c=[a]->aH X k j (.Call (.Name x p) c [] pos) r:=by intro a P;subst P;obtain⟨l,rfl⟩:=rT (show q.length=1 from I.symm);exact F2 C g i (u a (by simp)) (y 0 a l rfl rfl) h
      have J:∀a b,c=[a,b]->aH X k j (.Call (.Name x p) c [] pos) r:=by intro a b P;subst P;obtain⟨l,rb,rfl⟩:=wq (show q.length=2 from I.symm);exact F1 C g i (u a (by simp)) (u b (by simp)) (y 0 a l rfl rfl) (y 1 b rb rfl rfl) h
      have w:c.length=1\/c.length=2:=by rcases jT i with⟨_,z,_⟩|⟨_,z,_⟩|⟨_,z,_⟩|⟨_,z,_⟩|⟨_,z,_⟩|⟨_,z,_⟩|⟨_,z,_⟩|⟨_,z,_⟩|⟨_,z,_⟩|⟨_,z,_⟩|⟨_,z,_⟩<;>simp[z]
      rcases w with w|w
      ·obtain⟨a,N⟩:=rT w
       exact M a N
      ·obtain⟨a,b,N⟩:=wq w
       exact J a b N
    split at h
    ·rename_i D
     have D:x=("isinstance":Str):=Jq D;subst D
     split at h
     ·rename_i a t U
      split at h
      ·rename_i Y O
       split at h;exact aM h
       ·rename_i R
        have R:=Kc.mpr R
        split at h
        ·rename_i K
         simp only[cw,cX,cz,dH,cx,dB,cZ,cc,cr,cy,c7,cf,cg,cY,dJ,cu,cq,dF,ck,ci,dG,wS,wT]at h;obtain⟨q,d,h⟩:=bind_some h;obtain⟨l,s,E⟩:=bind_some d;cases E;have h:(fY Y l.val).map (λb=>sc (.bl b))=some r:=h;obtain⟨b,L,h⟩:=map_some h;subst h;exact no<|isin_ok C g O K R (B.e X ct k j a l C s) L
        ·exact aM h
      ·exact aM h
     ·exact aM h
    ·split at h
     ·rename_i o m ap cp
      split at h
      ·rename_i V
       simp only[JJ]at V;obtain⟨⟨⟨Q,G⟩,hp⟩,hl⟩:=V;have Q:=Jq Q;have G:=Jq G;subst Q G;simp only[cw,cX,cz,dH,cx,dB,cZ,cc,cr,cy,c7,cf,cg,cY,dJ,cu,cq,dF,ck,ci,dG,wS,wT]at h;obtain⟨q,d,h⟩:=bind_some h;obtain⟨l,s,E⟩:=bind_some d;cases E;exact no<|sumv_ok C g hp hl (B.e X ct k j o l C s) h
      ·exact no<|plain h
     ·exact no<|plain h
   ·exact aM h
 ·exact aM h
theorem mthE(p:jc cd n)(C:bL cd X ct)(t:(q.endLine==l.line)=true)(h:aP cd (lm (n+1) ct o m k) b=some r):aH X c b (.Call (.Attribute o m q) k [] l) r:=by
 refine LA λno=> ?_;simp only[z2b,z2c]at h
 split at h
 ·rename_i w
  split at h
  ·rename_i a
   split at h;exact aM h
   ·rename_i i
    have i:=Kc.mpr i
    split at h
    ·rename_i j
     have j:=Jq j;subst j;simp only[cw,cX,cz,dH,cx,dB,cZ,cc,cr,cy,c7,cf,cg,cY,dJ,cu,cq,dF,ck,ci,dG,wS,wT]at h;obtain⟨v,f,h⟩:=bind_some h;obtain⟨x,d,h⟩:=bind_some h;obtain⟨u,g,s⟩:=bind_some d;cases s;exact no<|join_ok w t i (p.e X ct c b o v C f) (p.e X ct c b a u C g) h
    ·exact aM h
  ·exact aM h
 ·exact aM h
theorem Hq{n:Nat}(IH:jc cd n){X:Cx}{ct:Ct}{Hi:Hp}{τ:En}{tp:Bool}{e tg:Expr}{xs:List PV}{k b:Bool}(C:bL cd X ct)(ht:tp=true->∃ts kk p,tg=.Tuple ts kk p)(h:nT cd (ur (n+1) ct tp e) τ=some (xs,k,b)):ll X Hi τ tg e xs k b/\eF e=false:=by
 simp only[z2u,z2v]at h
 split at h
 ·simp[AQ,AR,AO,AS,AZ]at h
 rename_i hset;have hset:=Kc.mpr hset;refine⟨?_,hset⟩;have seq:nT cd (.seq (aY n ct e)) τ=some (xs,k,b)->ll X Hi τ tg e xs k b:=by
  intro h;simp only[AQ,AR,AO,AS,AZ]at h;obtain⟨r,hr,h⟩:=bind_some h;exact Dq (IH.e X ct Hi τ e r C hr) h
 have nv:∀{P:Prop},nT cd .never τ=some (xs,k,b)->P:=by
  intro P h;simp[AQ,AR,AO,AS,AZ]at h
 split at h
 ·rename_i x es hc
  obtain⟨p,pos,rfl⟩:∃p pos,e=.Call (.Name x p) es [] pos:=by
   unfold nh at hc
   split at hc
   ·cases hc;exact⟨_,_,rfl⟩
   ·cases hc
  split at h
  ·rename_i hx
   have hx:=Jq hx;subst hx
   split at h
   ·rename_i ho
    simp only[AQ,AR,AO,AS,AZ]at h;obtain⟨rs,hrs,h⟩:=bind_some h;obtain⟨ys,hy,h⟩:=map_some h;cases h;obtain⟨i1,i2,i3,i4⟩:=IH.es X ct Hi τ es rs C hrs;exact D4 C ho i2 i1 i3 hy
   ·exact nv h
  ·split at h
   ·rename_i hx
    have hx:=Jq hx;subst hx
    split at h
    ·rename_i a b'
     split at h
     ·exact nv h
     ·rename_i hc
      simp only[KS,not_or,Bool.not_eq_true,L7]at hc;obtain⟨⟨⟨c1,c2⟩,c3⟩,c4⟩:=hc;obtain⟨ts,kk,tpos,rfl⟩:=ht (by simpa using c3);simp only[AQ,AR,AO,AS,AZ]at h;obtain⟨ra,hra,h⟩:=bind_some h;obtain⟨rb,hrb,h⟩:=bind_some h;obtain⟨w,hw,h⟩:=map_some h;cases h;exact DV C (by simpa using c4) c1 c2 (IH.e X ct Hi τ _ ra C hra) (IH.e X ct Hi τ _ rb C hrb) hw
    ·exact nv h
   ·split at h
    ·rename_i hx
     have hx:=Jq hx;subst hx
     split at h
     ·rename_i a
      split at h
      ·exact nv h
      ·rename_i hc
       simp only[KS,not_or,Bool.not_eq_true,L7]at hc;obtain⟨⟨c1,c3⟩,c4⟩:=hc;obtain⟨ts,kk,tpos,rfl⟩:=ht (by simpa using c3);simp only[AQ,AR,AO,AS,AZ]at h;obtain⟨ra,hra,h⟩:=bind_some h;obtain⟨w,hw,h⟩:=map_some h;cases h;exact CL C (by simpa using c4) c1 (IH.e X ct Hi τ _ ra C hra) hw
     ·exact nv h
    ·exact seq h
 ·exact seq h
theorem lcE{n:Nat}(IH:jc cd n){X:Cx}{ct:Ct}{Hi:Hp}{τ:En}{elt:Expr}{gs:List Comprehension}{scope:Scope}{pos:Pos}{r:RV}(C:bL cd X ct)(h:aP cd (aY (n+1) ct (.ListComp elt gs scope pos)) τ=some r) :
  ∃tg iter ifs N' src,gs=[⟨tg,iter,ifs,0⟩]/\bY X scope N' src/\scope.kind=.function/\(∀y∈scope.names,y.2=.cell->scope.names.lookup y.1=some .cell)/\(∀y∈scope.names,y.2=.local->scope.names.lookup y.1=some .local)/\eG X.env.scope scope=true/\eF iter=false /\
   ∀(O:List Addr)(σ:L2.St)(H:Hp)(Q:VK),aT X.K Hi O τ σ H->(∀u H',aB H H' ->aW X.K Hi O H H' r u->Q u H')->C9 X N' src scope tg ifs elt (fun σ H R=>WI X tg iter σ H R) σ H Q:=by
 refine LA fun no=> ?_;simp only[oR,oM,oG,oQ,oD,oN,oP,oJ,oI,oE,oK,oF,oO,oH]at h
 split at h
 ·rename_i t tp iter ifs
  split at h
  ·rename_i hlc
   cases hc:slots ct.N (frees scope)with
   | none=>rw[hc]at h;exact aM h
   | some caps =>
    rw[hc]at h;simp only[cw,cX,cz,dH,cx,dB,cZ,cc,cr,cy,c7,cf,cg,cY,dJ,cu,cq,dF,ck,ci,dG]at h;obtain⟨w,hw,h⟩:=bind_some h;obtain⟨xs,n',b⟩:=w;dsimp only at h
    split at h
    ·rename_i hz
     obtain⟨w2,hw2,h⟩:=map_some h;obtain⟨VS,NN⟩:=w2;subst h;obtain⟨jX,hset⟩:=IH.t X ct Hi τ false iter (.Name t tp) xs n' b C (fun z=>by cases z) hw;obtain⟨g1,g2,g3,g4,g5,g6,g7⟩:=g0 hlc;obtain⟨q1,q2,q3⟩:=By (elt:=elt) (ifs:=ifs) C hlc hc hset jX hz (fun X' τ' k C' hk=>by
      split at hk
      ·simp only[Ae,Ad]at hk
       cases hk;exact⟨_,gq,fun O σ H Q R q=>q H (aB.refl _)⟩
      ·rename_i c
       simp only[Ae,Ad]at hk;exact⟨_,pG kK,fun O σ H Q R q=>IH.c X' _ Hi τ' _ k C' hk O σ H Q R q⟩
      ·simp[Ae,Ad,wc,wd,AU,AT,cw,cX,cz,dH,cx,dB,cZ,cc,cr,cy,c7,cf,cg,cY,dJ,cu,cq,dF,ck,ci,dG]at hk) (fun X' τ' r' C' hr' =>IH.e X' _ Hi τ' elt r' C' hr') hw2
     exact no<|⟨.Name t tp,iter,ifs,_,_,rfl,q1,g1,g2,g3,q2,hset,q3⟩
    ·cases h
  ·exact aM h
 ·cases e2:tH gs with
  | none=>rw[e2]at h;exact aM h
  | some w =>
   obtain⟨t,t2,iter,ifs⟩:=w;rw[e2]at h;obtain⟨tp,tp2,kk,tpp,rfl⟩:=uo e2;dsimp only at h
   split at h
   ·rename_i hlc
    cases hc:slots ct.N (frees scope)with
    | none=>rw[hc]at h;exact aM h
    | some caps =>
     rw[hc]at h;simp only[cw,cX,cz,dH,cx,dB,cZ,cc,cr,cy,c7,cf,cg,cY,dJ,cu,cq,dF,ck,ci,dG]at h;obtain⟨w,hw,h⟩:=bind_some h;obtain⟨xs,n',b⟩:=w;dsimp only at h
     split at h
     ·rename_i hz
      obtain⟨w2,hw2,h⟩:=map_some h;obtain⟨VS,NN⟩:=w2;subst h;obtain⟨jX,hset⟩:=IH.t X ct Hi τ true iter (.Tuple [.Name t tp,.Name t2 tp2] kk tpp) xs n' b C (fun _=>⟨_,_,_,rfl⟩) hw;obtain⟨g1,g2,g3,g4,g5,g6,g8,g7⟩:=jH hlc;obtain⟨q1,q2,q3⟩:=ye (elt:=elt) (ifs:=ifs) C hlc hc hset jX hz (fun X' τ' k C' hk=>by
       split at hk
       ·simp only[Ae,Ad]at hk
        cases hk;exact⟨_,gq,fun O σ H Q R q=>q H (aB.refl _)⟩
       ·rename_i c
        simp only[Ae,Ad]at hk;exact⟨_,pG kK,fun O σ H Q R q=>IH.c X' _ Hi τ' _ k C' hk O σ H Q R q⟩
       ·simp[Ae,Ad,wc,wd,AU,AT,cw,cX,cz,dH,cx,dB,cZ,cc,cr,cy,c7,cf,cg,cY,dJ,cu,cq,dF,ck,ci,dG]at hk) (fun X' τ' r' C' hr' =>IH.e X' _ Hi τ' elt r' C' hr') hw2
      exact no<|⟨.Tuple [.Name t tp,.Name t2 tp2] kk tpp,iter,ifs,_,_,rfl,q1,g1,g2,g3,q2,hset,q3⟩
     ·cases h
   ·exact aM h
theorem expE(g:jc cd n)(C:bL cd X ct)(h:aP cd (aY (n+1) ct e) j=some r):aH X d j e r:=by
 cases e with
 |Constant c k pos=>simp only[oR,oM,oG,oQ,oD,oN,oP,oJ,oI,oE,oK,oF,oO,oH]at h;exact zU h|Name x pos=>simp only[oR,oM,oG,oQ,oD,oN,oP,oJ,oI,oE,oK,oF,oO,oH]at h;exact Be C h|BinOp a K b pos =>simp only[oR,oM,oG,oQ,oD,oN,oP,oJ,oI,oE,oK,oF,oO,oH,cw,cX,cz,dH,cx,dB,cZ,cc,cr,cy,c7,cf,cg,cY,dJ,cu,cq,dF,ck,ci,dG]at h;obtain⟨x,s,h⟩:=bind_some h;obtain⟨y,I,h⟩:=bind_some h;exact zq (g.e X ct d j a x C s) (g.e X ct d j b y C I) h
 |UnaryOp K a pos =>
  simp only[oR,oM,oG,oQ,oD,oN,oP,oJ,oI,oE,oK,oF,oO,oH]at h;cases K with
  |USub =>simp only[cw,cX,cz,dH,cx,dB,cZ,cc,cr,cy,c7,cf,cg,cY,dJ,cu,cq,dF,ck,ci,dG]at h;obtain⟨x,s,h⟩:=bind_some h;obtain⟨i,z,h⟩:=map_some h;subst h;exact Eh (g.e X ct d j a x C s) (hJ z)
  |Not =>simp only[cw,cX,cz,dH,cx,dB,cZ,cc,cr,cy,c7,cf,cg,cY,dJ,cu,cq,dF,ck,ci,dG]at h;obtain⟨x,s,h⟩:=bind_some h;obtain⟨i,z,h⟩:=map_some h;subst h;exact Ee (g.e X ct d j a x C s) (jR z)
  |_=>exact aM h
 |Compare a a2 cs pos =>obtain⟨t,_,M,_⟩:=IW g (Hi:=d) C h;exact M
 |BoolOp K E pos =>
  simp only[oR,oM,oG,oQ,oD,oN,oP,oJ,oI,oE,oK,oF,oO,oH]at h
  split at h;exact aM h;exact qD (λe r h=>g.e X ct d j e r C h) h
 |IfExp c a b pos =>
  simp only[oR,oM,oG,oQ,oD,oN,oP,oJ,oI,oE,oK,oF,oO,oH,cw,cX,cz,dH,cx,dB,cZ,cc,cr,cy,c7,cf,cg,cY,dJ,cu,cq,dF,ck,ci,dG]at h;obtain⟨t,Z,h⟩:=bind_some h;refine Ev (g.c X ct d j c t C Z) ?_;cases t with
  |true=>exact g.e X ct d j a r C h|false=>exact g.e X ct d j b r C h
 |List D pos =>simp only[oR,oM,oG,oQ,oD,oN,oP,oJ,oI,oE,oK,oF,oO,oH,cw,cX,cz,dH,cx,dB,cZ,cc,cr,cy,c7,cf,cg,cY,dJ,cu,cq,dF,ck,ci,dG]at h;obtain⟨G,B,h⟩:=bind_some h;obtain⟨w,A,h⟩:=bind_some h;obtain⟨E,S⟩:=w;exact Ek (g.es X ct d j D G C B).1 A h
 |Tuple D k pos =>simp only[oR,oM,oG,oQ,oD,oN,oP,oJ,oI,oE,oK,oF,oO,oH,cw,cX,cz,dH,cx,dB,cZ,cc,cr,cy,c7,cf,cg,cY,dJ,cu,cq,dF,ck,ci,dG]at h;obtain⟨G,B,h⟩:=bind_some h;obtain⟨w,A,h⟩:=bind_some h;obtain⟨E,S⟩:=w;exact Da (g.es X ct d j D G C B).1 A h
 |Dict L E pos =>
  simp only[oR,oM,oG,oQ,oD,oN,oP,oJ,oI,oE,oK,oF,oO,oH]at h
  split at h
  ·simp only[cw,cX,cz,dH,cx,dB,cZ,cc,cr,cy,c7,cf,cg,cY,dJ,cu,cq,dF,ck,ci,dG]at h
   cases h;exact CS
  ·rename_i c _ _ v
   split at h
   ·simp only[cw,cX,cz,dH,cx,dB,cZ,cc,cr,cy,c7,cf,cg,cY,dJ,cu,cq,dF,ck,ci,dG]at h
    obtain⟨x,s,h⟩:=bind_some h;obtain⟨w,A,h⟩:=bind_some h;obtain⟨v',S⟩:=w;dsimp only at h
    split at h
    ·rename_i z
     cases h;exact uQ kR (λ_ _ _ q=>q) (g.e X ct d j v x C s) A z
    ·cases h
   ·simp only[cw,cX,cz,dH,cx,dB,cZ,cc,cr,cy,c7,cf,cg,cY,dJ,cu,cq,dF,ck,ci,dG]at h
    obtain⟨x,s,h⟩:=bind_some h;obtain⟨w,A,h⟩:=bind_some h;obtain⟨v',S⟩:=w;dsimp only at h
    split at h
    ·rename_i z
     cases h;exact uQ yB (λ_ _ _ q=>q) (g.e X ct d j v x C s) A z
    ·cases h
   ·exact aM h
  ·exact aM h
 |Subscript a i pos =>
  simp only[oR,oM,oG,oQ,oD,oN,oP,oJ,oI,oE,oK,oF,oO,oH]at h
  split at h
  ·rename_i lo z U sp
   cases U with
   |none =>simp only[cw,cX,cz,dH,cx,dB,cZ,cc,cr,cy,c7,cf,cg,cY,dJ,cu,cq,dF,ck,ci,dG]at h;obtain⟨x,s,h⟩:=bind_some h;obtain⟨l,N,h⟩:=bind_some h;obtain⟨u,hu,h⟩:=bind_some h;obtain⟨l',F,h⟩:=bind_some h;obtain⟨u',J,h⟩:=bind_some h;exact xK (g.e X ct d j a x C s) (g.o X ct d j lo l l' C N F) (g.o X ct d j z u u' C hu J) h
   |some U=>exact aM h
  ·rename_i P
   simp only[cw,cX,cz,dH,cx,dB,cZ,cc,cr,cy,c7,cf,cg,cY,dJ,cu,cq,dF,ck,ci,dG]at h;obtain⟨x,s,h⟩:=bind_some h;obtain⟨y,I,h⟩:=bind_some h;refine yu C.un ?_ (g.e X ct d j a x C s) (g.e X ct d j i y C I) h;cases i<;>first|rfl|(exfalso;exact P _ _ _ _ rfl)
 |Call f D L V =>
  simp only[oR,oM,oG,oQ,oD,oN,oP,oJ,oI,oE,oK,oF,oO,oH]at h;cases L with
  |nil =>
   dsimp only at h;cases f with
   |Name x p=>exact g.call X ct d j x D p V r C h|Attribute o m ap =>
    dsimp only at h
    split at h
    ·rename_i N
     exact g.mth X ct d j o m D ap V r C N h
    ·exact aM h
   |_=>exact aM h
  |cons k L=>exact aM h
 |ListComp a1 gs scope pos =>obtain⟨tg,T,W,N',a0,rfl,M,Y,h3,h4,h5,h6,h7⟩:=lcE g (Hi:=d) C h;intro O σ H Q R q;exact we (tf C.calm rP M Y h3 h4 h5 (eQ h6)) (h7 O σ H Q R q)
 |_=>(try simp only[oR,oM,oG,oQ,oD,oN,oP,oJ,oI,oE,oK,oF,oO,oH]at h);exact aM h
theorem tstE(j:jc cd n)(C:bL cd X ct)(h:fk cd (lQ (n+1) ct e) f=some b):fP X g f e b:=by
 have plain:∀{e:Expr},fk cd (.val (aY n ct e)) f=some b->(∀d,isTrue e X.env d=(do let v<-d;standAt e.pos;holding [v] (truthy v)))->fP X g f e b:=by intro e h q;simp only[wc,wd,AU,AT]at h;obtain⟨x,l,h⟩:=bind_some h;exact DY (j.e X ct g f e x C l) h q
 cases e with
 |UnaryOp m a p =>
  simp only[Ge,Ga,Gc,Gb]at h;cases m with
  |Not =>simp only[wc,wd,AU,AT]at h;obtain⟨t,k,h⟩:=map_some h;subst h;exact Ed (j.c X ct g f a t C k)
  |_=>exact plain h λ_=>rfl
 |BoolOp m r p =>simp only[Ge,Ga,Gc,Gb]at h;exact(qC (λe b h=>j.c X ct g f e b C h) h).tc
 |IfExp c a s p =>simp[Ge,Ga,Gc,Gb,wc,wd,AU,AT,cw,cX,cz,dH,cx,dB,cZ,cc,cr,cy,c7,cf,cg,cY,dJ,cu,cq,dF,ck,ci,dG]at h
 |Compare a i o pos =>have h:fk cd (.val (aY n ct (.Compare a i o pos))) f=some _:=h;simp only[wc,wd,AU,AT]at h;obtain⟨x,l,h⟩:=bind_some h;obtain⟨t,rfl,k⟩:=j.cm X ct g f a i o pos x C l;cases h;exact k
 |_=>(try simp only[Ge,Ga,Gc,Gb]at h);exact plain h λ_=>rfl
theorem bN:∀n:Nat,jc cd n
 |0=>by
  refine⟨λX ct Hi τ e r C h=> ?_,λX ct Hi τ a ops cs pos r C h=> ?_,λX ct Hi τ es rs C h=> ?_,λX ct Hi τ e o i C h=> ?_,λX ct Hi τ e b C h=> ?_,λX ct Hi τ x es p pos r C h=> ?_,λX ct Hi τ o m es ap cp r C hl h=> ?_,λX ct Hi τ tp e tg xs k b C ht h=> ?_⟩
  ·simp[oR,oM,oG,oQ,oD,oN,oP,oJ,oI,oE,oK,oF,oO,oH,cw,cX,cz,dH,cx,dB,cZ,cc,cr,cy,c7,cf,cg,cY,dJ,cu,cq,dF,ck,ci,dG]at h
  ·simp[oR,oM,oG,oQ,oD,oN,oP,oJ,oI,oE,oK,oF,oO,oH,cw,cX,cz,dH,cx,dB,cZ,cc,cr,cy,c7,cf,cg,cY,dJ,cu,cq,dF,ck,ci,dG]at h
  ·simp[z29,z2a,wS,wT,cw,cX,cz,dH,cx,dB,cZ,cc,cr,cy,c7,cf,cg,cY,dJ,cu,cq,dF,ck,ci,dG]at h
  ·simp[z2d,z2e,z2f,z0t,z0u,cw,cX,cz,dH,cx,dB,cZ,cc,cr,cy,c7,cf,cg,cY,dJ,cu,cq,dF,ck,ci,dG]at h
  ·simp[Ge,Ga,Gc,Gb,wc,wd,AU,AT,cw,cX,cz,dH,cx,dB,cZ,cc,cr,cy,c7,cf,cg,cY,dJ,cu,cq,dF,ck,ci,dG]at h
  ·simp[z1p,z1q,cw,cX,cz,dH,cx,dB,cZ,cc,cr,cy,c7,cf,cg,cY,dJ,cu,cq,dF,ck,ci,dG]at h
  ·simp[z2b,z2c,cw,cX,cz,dH,cx,dB,cZ,cc,cr,cy,c7,cf,cg,cY,dJ,cu,cq,dF,ck,ci,dG]at h
  ·simp[z2u,z2v,AQ,AR,AO,AS,AZ]at h
 |n+1=>by
  have c:=bN n;refine⟨λX ct Hi τ e r C h=>expE c C h,λX ct Hi τ a ops cs pos r C h=> ?_,λX ct Hi τ es rs C h=> ?_,λX ct Hi τ e o i C h hi=> ?_,λX ct Hi τ e b C h=>tstE c C h,λX ct Hi τ x es p pos r C h=>Ic c C h,λX ct Hi τ o m es ap cp r C hl h=>mthE c C hl h,λX ct Hi τ tp e tg xs k b C ht h=>Hq c C ht h⟩
  ·obtain⟨t,d,_,g⟩:=IW c (Hi:=Hi) C h
   exact⟨t,d,g⟩
  ·simp only[z29,z2a]at h
   exact tz (λe r h=>c.e X ct Hi τ e r C h) h
  ·cases e with
   |none =>simp only[z2d,z2e,z2f,z0t,z0u]at h;cases h;cases hi;exact True.intro
   |some e =>
    simp only[z2d,z2e,z2f,z0t,z0u]at h;obtain⟨r,l,h⟩:=map_some h;subst h;simp only[pk]at hi
    split at hi
    ·rename_i j f
     cases hi;exact⟨r,c.e X ct Hi τ e r C l,f⟩
    ·cases hi
end
end IR
namespace L2
open PySem PySem.Spec PyProof.Rows
section
variable{X:Cx}{pins:List (Addr×Obj)}{σ:St}{H:Hp}{s:Shared}
theorem pE{xn:Str}{ix:Nat}{xpos apos:Pos}{elt target iter:Expr}{ifs:List Expr}{scope:Scope}{pos:Pos}{N' :List Str}{src:List (Option Nat)}{wi:TI}(hc:X.calm=true)(hi:PI X target iter wi)(hsrc:bY X scope N' src)
  (hkind:scope.kind=.function) (hcell:∀y∈scope.names,y.2=.cell->scope.names.lookup y.1=some .cell) (hnames:∀y∈scope.names,y.2=.local->scope.names.lookup y.1=some .local)
  (hfr:eG X.env.scope scope=true)
  (hs:∀x,foldedSetIterable iter X.env x=pure x) (hN:X.N.Nodup) (hix:X.N[ix]? =some xn) (hxl:Loc X.env.scope xn) (hf:X.fn xn=true\/X.env.scope.names.lookup xn=some .local)
  (hsw:swapsWith (.ListComp elt [⟨target,iter,ifs,0⟩] scope pos) (some (.Name xn xpos)) apos.line X.env=pure true) :
  PS X (.Assign [.Name xn xpos] (.ListComp elt [⟨target,iter,ifs,0⟩] scope pos) apos) (Dl (C9 X N' src scope target ifs elt wi) (mE ix)):=by
 intro pins s σ H D0 I h;rw[exec_Assign_Name_used xn xpos _ apos hsw];refine JD (wpAny_standAt (JD ?_));show wpAny (model X.prog X.w) X.A (comprehension (.ListComp elt [⟨target,iter,ifs,0⟩] scope pos) scope X.env _ (newList []) false _ (some (assign (.Name xn xpos) X.env)) >>= fun _=>pure ()) _ _ _;refine JD (ak (Q:=fun _ s' =>SP X pins D0 .next s') ?_ fun _ s9 h9=>Ja (Ja h9));refine uD (use:=some (assign (.Name xn xpos) X.env)) hc hi hsrc hkind hcell hnames hfr hs I h fun C a' s2 s4 H2 H3 fp cl m I2 f2 below hCle I4 hn qn _=> ?_;have u4:Un (rq X.stack) fp H2 H3 s2.heap s4.heap:=I4.base;have IX:Inv X pins σ H3 s4:=I2.call' (s' :=s4) (ch:=fp) I4.os u4 I4.hok I4.bare fun b hb=>⟨(f2 b hb).2.2.2.1,(f2 b hb).2.1,(f2 b hb).2.2.2.2.1,(f2 b hb).2.2.2.2.2⟩;have hC3:H3 C=none:=I4.free;refine wpAny_assign_Name (lq IX hN hix hxl (v:=.ref a') rfl (fun s5 I5 ⟨a,sb,ha⟩=> ?_) hf);have ane:C≠a:=by
  rcases ha with rfl|ha
  ·exact(below _ I2.lt).symm
  ·obtain⟨v,qc⟩:=I2.cell _ _ ha
   exact(below _ qc.lt).symm
 refine⟨m,?_,fun h' hs' => ?_⟩
 ·obtain⟨ob,es,ep,ho,rr⟩:=hn
  exact⟨ob,es,ep,(sb.2 _ ane).trans ho,rr⟩
 ·refine⟨_,H3,I5.turned (t' :=s5.toks) (it:=C) (fun b o ne e=>(hs'.2 b ne).trans e) hC3 (below _ I2.lt).symm (.inr (Jw I2.sz hCle)) (fun x c e=> ?_) (fun p hp=> ?_),qn⟩
  ·obtain⟨v,qc⟩:=I2.cell x c e
   exact below _ qc.lt
  ·exact below _ (JV (I2.pin p hp).1)
end
end L2
namespace IR
open PySem PySem.Spec PyProof.Rows L2
section
variable{X:Cx}{Hi:Hp}{τ:En}{cd:Nat->List PV->Option PV}{ct:Ct}
noncomputable abbrev WS(X:Cx)(b:Stmt)(D:dz)(c:L2.St)(H:Hp):Prop:=∀(a:List (Addr×Obj))(s:Shared),Inv X a c H s->wpAny (model X.prog X.w) X.A (exec b X.env) (SP X a D) X.xe s
noncomputable abbrev Cy(X:Cx)(b:List Stmt)(D:dz)(c:L2.St)(H:Hp):Prop:=∀(a:List (Addr×Obj))(s:Shared),Inv X a c H s->wpAny (model X.prog X.w) X.A (execs b X.env) (SP X a D) X.xe s
theorem jf:PS X a (λD σ H=>WS X a D σ H):=λpins s σ H D I h=>h pins s I
theorem cQ:sj X a (λD σ H=>Cy X a D σ H):=λpins s σ H D I h=>h pins s I
theorem ws(h:PS X b t)(q:t D a H):WS X b D a H:=λpins s I=>h pins s a H D I q
theorem sw(h:sj X b t)(q:t D a H):Cy X b D a H:=λpins s I=>h pins s a H D I q
variable(X Hi)in
noncomputable def oA(O:List Addr)(H:Hp)(c :En)(P:L2.St->Hp->Prop):Prop:=∀(a :L2.St)(b :Hp)(d :List Addr),aT X.K Hi d c a b ->a.length=X.N.length->aB (aK H O) (aK b d)->P a b
variable(X Hi)in
noncomputable def AK(c:Fl)(O:List Addr)(H:Hp)(D:dz):Prop:=match c with
 | .nx a =>oA X Hi O H a D.nx| .bk a =>oA X Hi O H a D.bk| .ct a =>oA X Hi O H a D.ct| .rt v=>∀u b,aB Hi b ->Rp X.K Hi true v b u->D.rt u b
variable(X Hi τ)in
noncomputable def iO(c:Stmt)(b:Fl):Prop:=∀(O:List Addr)(a:L2.St)(H:Hp)(D:dz),aT X.K Hi O τ a H->a.length=X.N.length->AK X Hi b O H D->WS X c D a H
variable(X Hi τ)in
noncomputable def wB(c:List Stmt)(b:Fl):Prop:=∀(O:List Addr)(a:L2.St)(H:Hp)(D:dz),aT X.K Hi O τ a H->a.length=X.N.length->AK X Hi b O H D->Cy X c D a H
theorem oA.from{O O' :List Addr}{H H' :Hp}{τ' :En}{P:L2.St->Hp->Prop}(h:oA X Hi O H τ' P)(s:aB (aK H O) (aK H' O')):oA X Hi O' H' τ' P:=fun σ2 H2 O2 R hl s2=>h σ2 H2 O2 R hl (s.trans s2)
theorem AK.from(h:AK X Hi b O H D)(s:aB (aK H O) (aK d c)):AK X Hi b c d D:=by
 cases b with
 |nx a =>exact oA.from (show oA X Hi O H a D.nx from h) s|bk a =>exact oA.from (show oA X Hi O H a D.bk from h) s|ct a =>exact oA.from (show oA X Hi O H a D.ct from h) s|rt v=>exact h
theorem cP(C:bL cd X ct)(h:loc ct x=some i):X.N[i]? =some x/\L2.Loc X.env.scope x/\wU x=false/\Gf ct.S x=true:=by
 unfold loc at h
 split at h
 ·rename_i c
  rw[JJ]at c;refine⟨by rw[C.N];exact fU h,?_,by simpa using c.2,?_⟩
  ·unfold L2.Loc
   rw[C.S]
   simpa using c.1
  ·unfold Gf
   have:=c.1;simp only[KS]at this ⊢;exact .inl this
 ·cases h
theorem jJ(R:aT X.K Hi O τ b H):∃a,aT X.K Hi a (au cap τ) b H/\aB (aK H O) (aK H a):=by obtain⟨a,c,h⟩:=R.freezes (cap:=cap);exact⟨a,c,nL h⟩
theorem EA(R:aT X.K Hi O τ k H)(s:aB H a)(j:i<k.length)(l:aW X.K Hi O H a r u)(h:mw o i r τ=some f) :
  ∃y,aT X.K Hi y f (k.set i (some u)) a /\aB (aK H O) (aK a y):=by
 unfold mw at h
 split at h
 ·rename_i B n
  cases h;obtain⟨p,us,rfl,d,m,x⟩:=l;have t:aB (aK (del a p) O) (aK a (p::O)):=λb o e=>by
   unfold aK del at e;unfold aK
   split at e;cases e
   ·rename_i c
    split at e;cases e
    ·rename_i q
     rw[JE (by simp[q,c])];exact e
  refine⟨p::O,R.setO j s d m (x.mono t),λb o e=> ?_⟩;unfold aK at e ⊢
  split at e;cases e
  ·rename_i c
   have g:b≠p:=aI e d;rw[JE (by simp[g,c])];exact s b o e
 ·rename_i b B n
  cases h;obtain⟨p,us,o,rfl,d,m,A,x⟩:=l;have t:aB (aK (del a p) O) (aK a (p::O)):=λb o e=>by
   unfold aK del at e;unfold aK
   split at e;cases e
   ·rename_i c
    split at e;cases e
    ·rename_i q
     rw[JE (by simp[q,c])];exact e
  refine⟨p::O,R.setB rfl j s d m A (x.mono t),λb o e=> ?_⟩;unfold aK at e ⊢
  split at e;cases e
  ·rename_i c
   have g:b≠p:=aI e d;rw[JE (by simp[g,c])];exact s b o e
 ·obtain⟨w,z,h⟩:=map_some h
  obtain⟨v,n⟩:=w;subst h;exact⟨O,(R.ext s).setF j (l.keep R s z),aD s⟩
theorem yR(h:isComp e=false\/a.kindOf x≠some .local):swapsWith e (some (.Name x p)) l a=pure false:=by
 rcases h with h|h
 ·cases e<;>first|rfl|cases h
 ·have b:(a.kindOf x==some NameKind.local)=false:=by simpa using h
  cases e<;>first|rfl|(show(pure (_&&(a.kindOf x==some NameKind.local)&&_&&_):Sem Bool)=pure false;rw[b,Bool.and_false,MR,MR])
theorem F6(C:bL cd X ct)(hfn:X.fn=fun _=>true){n:Nat}{x:Str}{i:Nat}{o:Bool}{cap:List Nat}{e:Expr}{xp pos:Pos}{r:RV}{τ' :En}(hx:loc ct x=some i)(hr:aP cd (aY n ct e) (au cap τ)=some r)(hp:mw o i r (au cap τ)=some τ') :
  iO X Hi τ (.Assign [.Name x xp] e pos) (.nx τ'):=by
 intro O σ H D R hl q;obtain⟨h1,h2,h3,h4⟩:=cP C hx;obtain⟨O1,R1,s1⟩:=jJ (cap:=cap) R;have he:=(bN n).e X ct Hi (au cap τ) e r C hr;have hi:i<σ.length:=by rw[hl];exact(JK.mp h1).1
 have hN:X.N.Nodup:=by rw[C.N];exact C.nd
 have fin:∀u H',aB H H' ->aW X.K Hi O1 H H' r u->D.nx (σ.set i (some u)) H' :=fun u H' s ok=>by
  obtain⟨O2,R2,s2⟩:=EA R1 s hi ok hp;exact q _ _ O2 R2 (by rw[KI];exact hl) (s1.trans s2)
 by_cases hc:isComp e=false\/X.env.kindOf x≠some .local
 ·refine ws (jA hN h1 h2 aS (yR hc) (.inl (by rw[hfn]))) ?_
  exact he O1 σ H _ R1 fin
 ·rw[not_or]at hc
  obtain⟨c1,c2⟩:=hc;have c2:X.env.kindOf x=some .local:=Classical.not_not.mp c2;cases e with
  | ListComp elt gs scope lp =>
   cases n with
   | zero=>simp[oR,oM,oG,oQ,oD,oN,oP,oJ,oI,oE,oK,oF,oO,oH,cw,cX,cz,dH,cx,dB,cZ,cc,cr,cy,c7,cf,cg,cY,dJ,cu,cq,dF,ck,ci,dG]at hr
   | succ n =>
    obtain⟨tg,iter,ifs,N',src,rfl,g1,g2,g3,g4,g5,g6,g7⟩:=lcE (bN n) (Hi:=Hi) C hr;obtain⟨b,hb⟩:∃b,swapsWith (.ListComp elt [⟨tg,iter,ifs,0⟩] scope lp) (some (.Name x xp)) pos.line X.env=pure b:=⟨_,rfl⟩;cases b with
    | true=>exact ws (pE C.calm rP g1 g2 g3 g4 g5 (eQ g6) hN h1 h2 (.inl (by rw[hfn])) hb) (g7 O1 σ H _ R1 fin)
    | false=>exact ws (jA hN h1 h2 aS hb (.inl (by rw[hfn]))) (he O1 σ H _ R1 fin)
  | SetComp a b c d=>exact aM (by cases n<;>exact hr)
  | DictComp a b c d e=>exact aM (by cases n<;>exact hr)
  | _=>exact absurd rfl c1
theorem D5(C:bL cd X ct)(d:aP cd (aY n ct e) (au a τ)=some r)(f:r.keep=some (v,true)):iO X Hi τ (.Return (some e) pos) (.rt v):=by intro O g H D R i q;obtain⟨c,b,h⟩:=jJ (cap:=a) R;refine ws (xg aS) ?_;exact(bN n).e X ct Hi _ e r C d c g H _ b λu H' s ok=>q u H' (R.same.trans s) ((ok.keep b s f).mono aO)
theorem A6:iO X Hi τ (.Return none pos) (.rt .non):=by intro O b H D R a q;exact ws BD (q _ _ R.same (Rp.non.mpr rfl))
theorem FE(g:fP X Hi τ c t)(h:wB X Hi τ (if t=true then a else b) d):iO X Hi τ (.If c a b pos) d:=by
 intro O e H D R f q;refine ws (xi kK cQ cQ) ?_;refine g O e H _ R λH1 s1=> ?_;cases t with
 |true=>exact rh ((show wB X Hi τ a d from h) O e H1 _ (R.ext s1) f (q.from (aD s1)))|false=>exact rj ((show wB X Hi τ b d from h) O e H1 _ (R.ext s1) f (q.from (aD s1)))
theorem uB(C:bL cd X ct)(o:X.fn=λ_=>true):∀{d:List Expr}{l:List Nat},locs ct d=some l->∃t,Iu X d t/\(assignEach d X.env).length=l.length/\(assignEach d X.env).findIdx? (·.1)=none /\ ∀(O:List Addr)(s c :En)(f:L2.St)(H:Hp)(n:Bool)(g:List PV)(us:List V)(Q:L2.St->Hp->Prop),aT X.K Hi O s f H->f.length=X.N.length->aG X.K Hi n g (aK H O) us->dq n l g s=some c -> (∀j,aT X.K Hi O c j H->j.length=X.N.length->Q j H)->t us f H Q
 |[],l,h=>by
  cases h;refine⟨_,jr,rfl,rfl,λO s c f H n g us Q R hl r e q=> ?_⟩;cases g with
  |nil =>unfold aG at r;subst r;cases e;exact⟨rfl,q f R hl⟩
  |cons x g=>cases e
 | .Name x p::d,l,h=>by
  have h:(loc ct x).bind (λi=>(locs ct d).map (i::·))=some l:=h;obtain⟨i,A,h⟩:=bind_some h;obtain⟨I,D,h⟩:=map_some h;subst h;obtain⟨z,B,L,J⟩:=cP C A;obtain⟨t,E,m,G,k⟩:=uB C o D;refine⟨_,dP (bW (by rw[C.N];exact C.nd) z B (.inl (by rw[o]))) E rfl,?_,?_,λO s c f H n g us Q R hl r e q=> ?_⟩
  ·show(assignEach d X.env).length+1=_
   rw[m];rfl
  ·show List.findIdx? (·.1) ((false,assign (.Name x p) X.env)::assignEach d X.env)=none
   rw[List.findIdx?_cons,G];rfl
  ·cases g with
   |nil=>cases e|cons y F =>
    unfold aG at r;obtain⟨u,w,rfl,a,b⟩:=r;have v :i<f.length:=by rw[hl];exact(JK.mp z).1
    exact⟨u,w,rfl,k O _ c _ H n F w Q (R.setF v a.up) (by rw[KI];exact hl) b e q⟩
 | .BoolOp .. ::_,_,h=>by cases h| .NamedExpr .. ::_,_,h=>by cases h| .BinOp .. ::_,_,h=>by cases h| .UnaryOp .. ::_,_,h=>by cases h| .Lambda .. ::_,_,h=>by cases h| .IfExp .. ::_,_,h=>by cases h| .Dict .. ::_,_,h=>by cases h| .Set .. ::_,_,h=>by cases h| .ListComp .. ::_,_,h=>by cases h| .SetComp .. ::_,_,h=>by cases h| .DictComp .. ::_,_,h=>by cases h| .GeneratorExp .. ::_,_,h=>by cases h| .Await .. ::_,_,h=>by cases h| .Yield .. ::_,_,h=>by cases h| .YieldFrom .. ::_,_,h=>by cases h| .Compare .. ::_,_,h=>by cases h| .Call .. ::_,_,h=>by cases h| .FormattedValue .. ::_,_,h=>by cases h| .JoinedStr .. ::_,_,h=>by cases h| .Constant .. ::_,_,h=>by cases h| .Attribute .. ::_,_,h=>by cases h| .Subscript .. ::_,_,h=>by cases h| .Starred .. ::_,_,h=>by cases h| .List .. ::_,_,h=>by cases h| .Tuple .. ::_,_,h=>by cases h| .Slice .. ::_,_,h=>by cases h
theorem Gg(C:bL cd X ct)(hfn:X.fn=λ_=>true)(h:ww ct tg=some (is,one)):(one=false->∃ts k p,tg=.Tuple ts k p)/\∃g,PG X tg g /\ ∀(O:List Addr)(τ τ' :En)(σ:L2.St)(H:Hp)(n:Bool)(x:PV)(u:V)(Q:L2.St->Hp->Prop),aT X.K Hi O τ σ H->σ.length=X.N.length->Rp X.K Hi n x (aK H O) u->mf is one n x τ=some τ' -> (∀σ',aT X.K Hi O τ' σ' H->σ'.length=X.N.length->Q σ' H)->g u σ H Q:=by
 cases tg with
 |Name x p =>
  obtain⟨i,hi,h⟩:=map_some (show(loc ct x).map (λi=>([i],true))=some (is,one)from h);cases h;obtain⟨h1,h2,h3,h4⟩:=cP C hi;refine⟨λz=>(by cases z),_,bW (by rw[C.N];exact C.nd) h1 h2 (.inl (by rw[hfn])),λO τ τ' σ H n x u Q R hl r e q=> ?_⟩;have e:some (τ.set i (.frz x (n||imm x)))=some τ' :=e;cases e;have hi' :i<σ.length:=by rw[hl];exact(JK.mp h1).1
  exact q _ (R.setF hi' r.up) (by rw[KI];exact hl)
 |Tuple es k p =>
  obtain⟨js,hj,h⟩:=map_some (show(locs ct es).map (λis=>(is,false))=some (is,one)from h);cases h;obtain⟨t,pt,hlen,hf,kk⟩:=uB (Hi:=Hi) C hfn hj;refine⟨λ_=>⟨_,_,_,rfl⟩,_,nA C.calm pt hlen hf,λO τ τ' σ H n x u Q R hl r e q=> ?_⟩;cases x with
  |tup xs =>
   obtain⟨a,us,rfl,l,r2⟩:=Rp.tup.mp r;have e:dq n is xs τ=some τ' :=e;have hz:∀{is:List Nat}{xs:List PV}{τ τ' :En},dq n is xs τ=some τ' ->xs.length=is.length:=by
    intro is
    induction is with
    |nil=>intro xs τ τ' e;cases xs with
     |nil=>rfl|cons _ _=>cases e
    |cons i is ih=>intro xs τ τ' e;cases xs with
     |nil=>cases e|cons x xs=>rw[JY,JY,ih (show dq n is xs _=some τ' from e)]
   exact⟨a,us,rfl,(aO (O:=O)).tup l,by rw[<- r2.len];exact hz e,kk O τ τ' σ H n xs us Q R hl r2 e q⟩
  |_=>cases e
 |_=>cases h
theorem FO(C:bL cd X ct)(hfn:X.fn=λ_=>true){tg it:Expr}{is:List Nat}{one:Bool}{cap:List Nat}{n:Nat}{body:List Stmt}{pos:Pos}{xs:List PV}{k:Bool}{bd:En->Option Fl}{fl:Fl}(ht:ww ct tg=some (is,one))
  (hi:nT cd (ur n ct (!one) it) (au cap τ)=some (xs,k,false)) (hb:∀τ fl,bd τ=some fl->wB X Hi τ body fl) (h:kr (mf is one k) bd xs (au cap τ)=some fl):iO X Hi τ (.For tg it body [] pos) fl:=by
 intro O σ H D R hl q;obtain⟨O1,R1,s1⟩:=jJ (cap:=cap) R;obtain⟨htp,g,pg,kg⟩:=Gg (Hi:=Hi) C hfn ht;obtain⟨jX,hset⟩:=(bN n).t X ct Hi (au cap τ) (!one) it tg xs k false C (λz=>htp (by simpa using z)) hi;refine ws (kL C.xe C.calm rP pg cQ (eQ hset)) ?_;refine jX O1 σ H _ R1 λJ H1 sJ En=> ?_;rw[JE JS]at En;have s2:aB (aK H O) (aK H1 O1):=s1.trans (aD sJ);refine⟨λi m σ' G=>m=xs.length-i/\i<=xs.length/\∃(P:List Addr)(υ:IR.En),aT X.K Hi P υ σ' G/\σ'.length=X.N.length/\aB (aK H1 O1) (aK G P)/\kr (mf is one k) bd (xs.drop i) υ=some fl,⟨xs.length,by simp,J0 _,O1,_,R1.ext sJ,hl,aB.refl _,h⟩,?_⟩;rintro i m σ' G ⟨rfl,hi',P,υ,RP,hlP,sP,hrun⟩;have DH:AX (aK H1 O1) G P:=⟨RP.lsts,sP⟩
 by_cases hlt:i<xs.length
 ·refine .inr ⟨En.go G P i DH hlt,λσ2 G2=>∃m',m' <xs.length-i/\(m' =xs.length-(i+1)/\i+1<=xs.length/\∃(P:List Addr)(υ:IR.En),aT X.K Hi P υ σ2 G2/\σ2.length=X.N.length/\aB (aK H1 O1) (aK G2 P)/\kr (mf is one k) bd (xs.drop (i+1)) υ=some fl),λσ2 G2 h=>h,λu G' y=> ?_⟩
  obtain⟨sG,x,hx,rx⟩:=En.yld G P i u G' DH hlt y;have hd:xs.drop i=x::xs.drop (i+1):=by rw[KN hlt];rw[JN hlt]at hx;rw[Jb hx]
  rw[hd]at hrun;unfold kr at hrun;obtain⟨υ1,h1,hrun⟩:=bind_some hrun;obtain⟨f,hf,hrun⟩:=bind_some hrun;refine kg P υ υ1 σ' G' k x u _ (RP.ext sG) hlP rx h1 λσ1 R2 hl1=> ?_;have s3:aB (aK H1 O1) (aK G' P):=sP.trans (aD sG);refine hb υ1 f hf P σ1 G' _ R2 hl1 ?_;cases f with
  |nx υ2=>exact λσ3 G3 P3 R3 hl3 s4=>⟨_,by omega,rfl,hlt,P3,υ2,R3,hl3,s3.trans s4,hrun⟩|ct υ2=>exact λσ3 G3 P3 R3 hl3 s4=>⟨_,by omega,rfl,hlt,P3,υ2,R3,hl3,s3.trans s4,hrun⟩|bk υ2 =>have hrun:some (Fl.nx υ2)=some fl:=hrun;cases hrun;exact λσ3 G3 P3 R3 hl3 s4=>q σ3 G3 P3 R3 hl3 (s2.trans (s3.trans s4))
  |rt v =>have hrun:some (Fl.rt v)=some fl:=hrun;cases hrun;exact q
 ·have e:i=xs.length:=by omega
  subst e;rw[List.drop_length]at hrun;have hrun:some (Fl.nx υ)=some fl:=hrun;cases hrun;exact .inl ⟨En.stop G P DH,q σ' G P RP hlP (s2.trans sP)⟩
theorem wg(C:bL cd X ct)(y:∀k b,n k=some b->fP X Hi k c b)(A:∀k g,o k=some g->wB X Hi k i g)(h:C2 n o u k=some g) :
  iO X Hi k (.While c i [] pos) g:=by
 intro O B H D R x q;refine ws (xf C.xe kK cQ) ?_;refine⟨λm d G=>∃(P:List Addr)(j:IR.En),aT X.K Hi P j d G/\d.length=X.N.length/\aB (aK H O) (aK G P)/\C2 n o m j=some g,⟨u,O,k,R,x,aB.refl _,h⟩,?_⟩;rintro m d G ⟨P,j,p,l,w,a⟩;cases m with
 |zero=>cases a|succ m =>
  unfold C2 at a;obtain⟨b,r,a⟩:=bind_some a;refine y j b r P d G _ p λG1 s1=> ?_;cases b with
  |false =>rw[JE JS]at a ⊢;cases a;exact q d G1 P (p.ext s1) l (w.trans (aD s1))
  |true =>
   rw[JI rfl]at a ⊢;obtain⟨f,z,a⟩:=bind_some a;refine⟨λσ2 G2=>∃t,t <m+1/\∃(P:List Addr)(j:IR.En),aT X.K Hi P j σ2 G2/\σ2.length=X.N.length/\aB (aK H O) (aK G2 P)/\C2 n o t j=some g,λσ2 G2 h=>h,?_⟩;have s:aB (aK H O) (aK G1 P):=w.trans (aD s1);refine A j f z P d G1 _ (p.ext s1) l ?_;cases f with
   |nx e=>exact λσ3 G3 P3 R3 hl3 s4=>⟨m,by omega,P3,e,R3,hl3,s.trans s4,a⟩|ct e=>exact λσ3 G3 P3 R3 hl3 s4=>⟨m,by omega,P3,e,R3,hl3,s.trans s4,a⟩|bk e =>have a:some (Fl.nx e)=some g:=a;cases a;exact λσ3 G3 P3 R3 hl3 s4=>q σ3 G3 P3 R3 hl3 (s.trans s4)
   |rt v =>have a:some (Fl.rt v)=some g:=a;cases a;exact q
theorem gY{i:Nat}{xs ys:List PV}{n m:Bool}{O:List Addr}{σ:L2.St}{H:Hp}{l:Addr}{us:List V}{P:L2.St->Hp->Prop}(R:aT X.K Hi O τ σ H)(hl:σ.length=X.N.length)(e:τ[i]? =some (.own xs n))(g:σ[i]? =some (some (.ref l)))(r:aG X.K Hi m ys (aK H O) us)
  (q:oA X Hi O H (τ.set i (.own ys m)) P):P σ (L2.upd H l (.lst us)):=by
 have R2:=R.upd e g r;refine q σ _ O R2 hl fun b o z=> ?_;obtain⟨l',vs,g1,g2,_⟩:=R.owns i xs n e;rw[g]at g1;cases g1;unfold aK at z ⊢
 split at z
 ·cases z
 ·rename_i nb
  have ne:b≠l:=fun c=>nb (c▸g2);rw[JE nb,aA ne];exact z
theorem F8(C:bL cd X ct){n:Nat}{x m:Str}{i:Nat}{b:List Nat}{a:Expr}{A z y pos:Pos}{r:RV}{v:PV}{k j:Bool}{g:List PV}(T:loc ct x=some i)(W:m="append")(c:(z.endLine==y.line)=true)(h:isStar a=false)
  (Q:aP cd (aY n ct a) (au b τ)=some r) (U:r.keep=some (v,k)) (t:(au b τ)[i]? =some (.own g j)) (K:g.length<LN) :
  iO X Hi τ (.Expr (.Call (.Attribute (.Name x A) m z) [a] [] y) pos) (.nx ((au b τ).set i (.own (g++[v]) (j&&k)))):=by
 intro O G H D R P q;subst W;obtain⟨N,Y,M,L⟩:=cP C T;obtain⟨E,f,B⟩:=jJ (cap:=b) R;obtain⟨J,V,o3⟩:=bQ M;refine ws (mz (tm PySem.F.plainAttrs_list PySem.F.slot_list_append PySem.F.type_list_append l7 (eP N (fA C.S L) J V) (ae aS bP (aL h)) rfl (by rw[aL h];rfl) c (aL h) rfl) rfl) ?_;obtain⟨l,us,w,Z,p,o⟩:=f.owns i g j t;refine⟨_,w,.inl ⟨rfl,us,bJ.of p⟩,?_⟩;refine(bN n).e X ct Hi _ a r C Q E G H _ f λu H' s ok=> ?_;have I:=ok.keep f s U;have d:=o.len;refine⟨l,us,u,rfl,rfl,s _ _ p,by rw[cJ,<-d];exact K,?_⟩;exact gY (f.ext s) P t w (Bo (o.mono (aD s)) (.cons I .nil)) (oA.from q (B.trans (aD s)))
theorem vZ(l b:Addr)(a c:Array Value)(n m:Nat)(k:Option Addr)(j:Array (Option Value))(q:¬(!a.isEmpty&&Builtin.List.listTooLong (a.size+c.size))=true)(i:a.size<=sizeLine)(f:(a++c).size<=sizeLine+1):Meets (Builtin.«list.extend» ⟨[.ref l,.ref b],[]⟩)
  (λ_ R s=>s.heap.get? l=some ⟨.type "list",none,.seq a n,#[]⟩/\s.heap.get? b=some ⟨.type "list",k,.seq c m,j⟩/\R (.ok (.ret .none)) {s with heap:=s.heap.update l (Obj.mapSeq λz=>z++c)}) :=
 .of_wp λprog w A R s h=>by
  obtain⟨t,g,d,r,u⟩:=s;obtain⟨e,o,h⟩:=h;have v:=AutoSeq1.sub_list_list;have p:=AutoSeq1.sub_list_tuple
  wp_walk using(PySem.wpAny_updateSeq e rfl (hz:=i) (_hz' :=f)),Jf e,Jf o
  exact⟨_,rfl,h⟩
theorem rW:MtM X "list.extend" (λx i H Q=>∃l b f d,x=.ref l/\i=[.ref b]/\H l=some (.lst f)/\bJ X.K H b d/\f.length+d.length<=sizeLine/\Q .non (L2.upd H l (.lst (f++d)))):=by
 intro o s M H x i v us Q I w y h;obtain⟨l,b,f,d,rfl,rfl,j,A,N,q⟩:=h;cases w;obtain⟨u,rfl,E⟩:=y.one;cases E;obtain⟨z,c,n,r,O,e⟩:=I.lstM j;obtain⟨a,p,C,L⟩:=I.list A;have D:=p.length;obtain⟨⟨cls,J,data,G⟩,B,t,m,k⟩:=id C.isList;simp only at t k;subst t k;have g:c.toArray.size+a.toArray.size<=sizeLine:=by rw[JO,JO];omega
 refine ML PySem.F.slot_list_extend ⟨_,e,rfl⟩ PySem.F.entry_list_extend (PySem.F.args_list_extend_2 _ _) (vZ l b c.toArray a.toArray n m J G (by rw[pJ g,Bool.and_false];exact JS) (by omega) (by rw[Array.size_append];omega)) ⟨e,B,?_⟩;refine⟨.non,_,I.lset (its' :=c++a) j e (by simp) (r.append p) ?_,rfl,q⟩;rw[JM];omega
theorem FR(C:bL cd X ct){n:Nat}{x m:Str}{i:Nat}{a:Expr}{B A y pos:Pos}{k j:Bool}{g f:List PV}(Q:loc ct x=some i)(U:m="extend")(c:(A.endLine==y.line)=true)(h:isStar a=false)
  (P:aP cd (aY n ct a) τ=some (.frz (.lst f) k)) (u:τ[i]? =some (.own g j)) (v:imms f=true/\g.length+f.length<=LN) :
  iO X Hi τ (.Expr (.Call (.Attribute (.Name x B) m A) [a] [] y) pos) (.nx (τ.set i (.own (g++f) j))):=by
 intro O G H D R N q;subst U;obtain⟨M,V,L,K⟩:=cP C Q;obtain⟨I,T,Y⟩:=bQ L;refine ws (mz (tm PySem.F.plainAttrs_list PySem.F.slot_list_extend PySem.F.type_list_extend rW (eP M (fA C.S K) I T) (ae aS bP (aL h)) rfl (by rw[aL h];rfl) c (aL h) rfl) rfl) ?_;obtain⟨l,us,w,W,t,r⟩:=R.owns i g j u;refine⟨_,w,.inl ⟨rfl,us,bJ.of t⟩,?_⟩;refine(bN n).e X ct Hi _ a _ C P O G H _ R λu H' s ok=> ?_;obtain⟨p,E,rfl,J,o⟩:=ok.itsL R s (xs:=f) (n:=k) rfl rfl;have d:=r.len;have b:=o.len;refine⟨l,p,us,E,rfl,rfl,s _ _ t,J,by rw[cJ,<-d,<-b];exact v.2,?_⟩;exact gY (R.ext s) N u w (aG.app (r.mono (aD s)) (o.imm v.1 ⟨λ_ _ z=>z,λ_ _ _ z=>z⟩)) (oA.from q (aD s))
theorem FA(C:bL cd X ct){n:Nat}{x m:Str}{i:Nat}{a b:Expr}{N M L pos:Pos}{o r:RV}{v:PV}{g:Int}{k j:Bool}{h:List PV}(hx:loc ct x=some i)(hm:m="insert")(f:(M.endLine==L.line)=true)(A:isStar a=false)(d:isStar b=false)
  (p:aP cd (aY n ct a) τ=some o) (y:o.val=.int g) (Y:aP cd (aY n ct b) τ=some r) (hk:r.keep=some (v,k)) (I:τ[i]? =some (.own h j)) (t:0<=g/\g<=h.length/\h.length<LN) :
  iO X Hi τ (.Expr (.Call (.Attribute (.Name x N) m M) [a,b] [] L) pos) (.nx (τ.set i (.own (h.take g.toNat++v::h.drop g.toNat) (j&&k)))):=by
 intro O G H D R W q;subst hm;obtain⟨V,h2,U,T⟩:=cP C hx;obtain⟨Q,o2,o3⟩:=bQ U;refine ws (mz (tm PySem.F.plainAttrs_list PySem.F.slot_list_insert PySem.F.type_list_insert vU (eP V (fA C.S T) Q o2) (ae aS (ae aS bP (aL d)) (aL A)) rfl (by rw[aL A,aL d];rfl) f (aL A) (fW λc hc=>by simp at hc;subst hc;exact d)) rfl) ?_;obtain⟨l,us,K,g2,E,B⟩:=R.owns i h j I;refine⟨_,K,.inl ⟨rfl,us,bJ.of E⟩,?_⟩;refine(bN n).e X ct Hi _ a o C p O G H _ R λw H1 s1 ok1=>(bN n).e X ct Hi _ b r C Y O G H1 _ (R.ext s1) λu H' s ok=> ?_;have P:=ok.keep (R.ext s1) s hk;have c:=B.len;have Z:=ok1.int R s1 y;subst Z;refine⟨l,us,g,u,rfl,rfl,s _ _ (s1 _ _ E),t.1,by rw[<- c];exact t.2.1,by rw[cJ,<-c];exact t.2.2,?_⟩;have w:=s1.trans s;have J:=B.mono (aD (O:=O) w);exact gY (R.ext w) W I K (Bo (J.take _) (aG.low (n:=j&&k) (.cons (P.low λz=>by rw[JJ]at z;exact z.2) ((J.drop _).low λz=>by rw[JJ]at z;exact z.1)) id) |>.low λz=>by simpa using z) (oA.from q (aD w))
theorem Aw(C:bL cd X ct){r rk:RV}{xs:List PV}(hx:loc ct x=some i)(hns:bh k=false)(hnc:isComp e=false)
  (hr:aP cd (aY n ct e) (au cap τ)=some r) (hk:r.keep=some (v,m)) (hrk:aP cd (aY n ct k) (au cap τ)=some rk) (hj:rk.val=.int jj) (ho:(au cap τ)[i]? =some (.own xs j)) (hq:lN xs.length jj=some qn) :
  iO X Hi τ (.Assign [.Subscript (.Name x xp) k sp] e pos) (.nx ((au cap τ).set i (.own (xs.set qn v) (j&&m)))):=by
 intro O σ H D R hl q;obtain⟨h1,h2,h3,h4⟩:=cP C hx;obtain⟨O1,R1,s1⟩:=jJ (cap:=cap) R;obtain⟨o1,o2,o3⟩:=bQ h3
 have ha:∀v,assign (.Subscript (.Name x xp) k sp) X.env v=(do
   let ov<-holding [v] (eval (.Name x xp) X.env)
   let iv<-holding [v,ov] (eval k X.env)
   standAt sp
   holding [v,ov,iv] (setItem ov iv v)
   release [v,ov,iv] []):=by
  intro v;cases k<;>first|rfl|cases hns
 refine ws (xk aS (xz (eP h1 (fA C.S h4) o1 o2) aS kC ha) (by cases e<;>first|rfl|cases hnc) (by cases e<;>rfl) rfl) ?_;refine(bN n).e X ct Hi _ e r C hr O1 σ H _ R1 λu H' s ok=> ?_;obtain⟨l,us,g1,g2,g3,g4⟩:=(R1.ext s).owns i xs j ho;refine⟨_,g1,?_⟩;refine(bN n).e X ct Hi _ k rk C hrk O1 σ H' _ (R1.ext s) λw H2 s2 ok2=> ?_;have kp:=(ok.keep R1 s hk).mono (aD (O:=O1) s2);have g5:=g4.mono (aD (O:=O1) s2);have hlen:=g4.len;refine⟨l,us,jj,qn,rfl,ok2.int (R1.ext s) s2 hj,s2 _ _ g3,by rw[<- hlen];exact hq,?_⟩;refine gY (R1.ext (s.trans s2)) hl ho g1 ((g5.low λz=> ?_).set qn (kp.low λz=> ?_)) (oA.from q (s1.trans (aD (s.trans s2))))
 ·rw[JJ]at z;exact z.1
 ·rw[JJ]at z;exact z.2
theorem Ax(C:bL cd X ct){n:Nat}{x:Str}{i:Nat}{cap:List Nat}{e k:Expr}{xp sp pos:Pos}{r rk:RV}{v:PV}{m j:Bool}{ks:List ag}{kk:ag}{xs:List PV}(hx:loc ct x=some i)(hns:bh k=false)(hnc:isComp e=false)
  (hr:aP cd (aY n ct e) (au cap τ)=some r) (hk:r.keep=some (v,m)) (hrk:aP cd (aY n ct k) (au cap τ)=some rk) (hj:dQ rk.val=some kk) (ho:(au cap τ)[i]? =some (.owd (.dK ks) xs j)) (hz:xs.length<LN) :
  iO X Hi τ (.Assign [.Subscript (.Name x xp) k sp] e pos) (.nx ((au cap τ).set i (.owd (.dK (gm ks kk)) (putL ks xs kk v) (j&&m)))):=by
 intro O σ H D R hl q;obtain⟨h1,h2,h3,h4⟩:=cP C hx;obtain⟨O1,R1,s1⟩:=jJ (cap:=cap) R;obtain⟨o1,o2,o3⟩:=bQ h3;have hun:=C.un;refine ws (tY (by omega) (eP h1 (fA C.S h4) o1 o2) aS aS (by cases e<;>first|rfl|cases hnc)) ?_;refine(bN n).e X ct Hi _ e r C hr O1 σ H _ R1 fun u H' s ok=> ?_;obtain⟨l,us,o,g1,g2,g3,ga,g4⟩:=(R1.ext s).obs i _ (.dK ks) xs j ho rfl;obtain⟨rfl,hlk⟩:=ga;refine⟨_,g1,?_⟩;refine(bN n).e X ct Hi _ k rk C hrk O1 σ H' _ (R1.ext s) fun w H2 s2 ok2=> ?_;have kp:=(ok.keep R1 s hk).mono (aD (O:=O1) s2);have g5:=g4.mono (aD (O:=O1) s2);have hlen:=g4.len;have hw:=g9 hj (ok2.val (R1.ext s) s2);subst hw;obtain⟨z1,z2⟩:=BB (k:=kk) (y:=u) hlk;have hd:qe H2 l (kV kk) u (L2.upd H2 l (.dK (dS (ks.zip us) kk u))):=.k (s2 _ _ g3) (by rw[List.length_zip,hlk,LY,<-hlen,cJ];exact hz);rw[z1]at hd;refine⟨l,_,rfl,hd,?_⟩;have st:=s.trans s2;have R2:=(R1.ext st).updB (t1:=.owd (.dK (gm ks kk)) (putL ks xs kk v) (j&&m)) (b1:=.dK (gm ks kk)) (us:=putL ks us kk u) (m:=j&&m) ho rfl rfl g1 ⟨rfl,z2⟩ (D9 (kp.low fun z=>by rw[JJ]at z;exact z.2) (g5.low fun z=>by rw[JJ]at z;exact z.1));refine q σ _ O1 R2 hl fun b o z=> ?_;have z:=s1.trans (aD st) b o z;unfold aK at z ⊢
 split at z
 ·cases z
 ·rename_i nb
  have ne:b≠l:=fun c=>nb (c▸g2);rw[JE nb,aA ne];exact z
theorem yy:Iv X (HF X.K):=by
 intro b s u H o i L G Q I m x h;obtain⟨p,J,i,z,rfl,rfl,A,C,q⟩:=h;cases m;obtain⟨t,rfl⟩:=x;obtain⟨f,r,g,D⟩:=I.list A;obtain⟨j,c,n,E,y,v⟩:=jy C;obtain⟨w,l,e⟩:=r.get n;have B:=r.length;have F:=fF;have a:EP X b u Q w s:=⟨z,H,I,e,q⟩
 by_cases k:0<=i
 ·have d:i.toNat=j:=by
   rw[seqIndex_of k v]at c;exact Jb c
  exact wpAny_getItem_list g.isList k (by omega) (by rw[d];simpa using l) a
 ·have d:(i+(f.toArray.size:Int)).toNat=j:=by
   rw[seqIndex_neg (by omega) y]at c;rw[JO,<-B];exact Jb c
  exact wpAny_getItem_list_neg g.isList (by omega) (by rw[JO]<;>omega) (by omega) (by rw[d];simpa using l) a
theorem ud(C:bL cd X ct)(U:loc ct x=some i)(o:bh k=false)(m:PIp X z (ipI g))
  (h:aP cd (aY n ct k) τ=some f) (p:f.val=.int d) (M:aP cd (aY n ct e) τ=some r) (F:r.val=.int w) (y:τ[i]? =some (.own b j)) (A:lN b.length d=some a) (G:b[a]? =some (.int v)) :
  iO X Hi τ (.AugAssign (.Subscript (.Name x E) k T) z e pos) (.nx (τ.set i (.own (b.set a (.int (g v w))) j))):=by
 intro O t H D R N q;obtain⟨L,Y,K,J⟩:=cP C U;obtain⟨I,V,o3⟩:=bQ K;obtain⟨l,us,B,Z,s,c⟩:=R.owns i b j y;refine ws (BF (eP L (fA C.S J) I V) aS yy aS m kC (by intro ov iv W;cases k<;>first|rfl|cases o)) ?_;refine⟨_,B,?_⟩;refine(bN n).e X ct Hi _ k f C h O t H _ R λu1 H1 s1 ok1=> ?_;obtain⟨u,P,Q⟩:=c.at G;cases Rp.int.mp Q;refine⟨l,us,d,.int v,rfl,ok1.int R s1 p,bJ.of (s1 _ _ s),by unfold eo;rw[<- c.len,A];exact P,?_⟩;refine(bN n).e X ct Hi _ e r C M O t H1 _ (R.ext s1) λu2 H2 s2 ok2=> ?_;refine⟨v,w,rfl,ok2.int (R.ext s1) s2 F,?_⟩;refine⟨l,us,d,a,rfl,ok1.int R s1 p,s2 _ _ (s1 _ _ s),by rw[<- c.len];exact A,?_⟩;refine gY (R.ext (s1.trans s2)) N y B ((c.mono (aD (s1.trans s2))).set a (Rp.int.mpr rfl)) (oA.from q (aD (s1.trans s2)))
theorem aT.setN{K:W.Frag}{O:List Addr}{n:L2.St}{H:Hp}(R:aT K Hi O τ n H){i:Nat}{u:V}:aT K Hi O (τ.set i .un) (n.set i (some u)) H where
 same:=R.same
 own:=R.own
 frz:=λj w m e=>by
  rcases ah e with⟨rfl,a⟩|⟨g,a⟩
  ·cases a
  ·obtain⟨p,d,f⟩:=R.frz j w m a
   exact⟨p,by rw[Jj g];exact d,f⟩
 obs:=λj t b xs m e ht=>by
  rcases ah e with⟨rfl,a⟩|⟨g,a⟩
  ·subst a
   cases ht
  ·obtain⟨l,us,o,d,f⟩:=R.obs j t b xs m a ht
   exact⟨l,us,o,by rw[Jj g];exact d,f⟩
 dst:=λj k t t' x y l e1 ht e2 ht' d f=>by
  rcases ah e1 with⟨rfl,a⟩|⟨g,a⟩
  ·subst a
   cases ht
  ·rcases ah e2 with⟨rfl,c⟩|⟨h,c⟩
   ·subst c
    cases ht'
   ·rw[Jj g]at d
    rw[Jj h]at f;exact R.dst j k t t' x y l a ht c ht' d f
end
section
variable{cd:Nat->List PV->Option PV}{fu:Nat}
structure JB(cd:Nat->List PV->Option PV)(fu:Nat)(n:Nat):Prop where
 s:∀(X:Cx)(ct:Ct)(Hi:Hp)(τ:En)(st:Stmt)(fl:Fl),bL cd X ct->(X.fn=fun _=>true)->fe cd fu (oh n ct st) τ=some fl->iO X Hi τ st fl
 ss:∀(X:Cx)(ct:Ct)(Hi:Hp)(τ:En)(st:List Stmt)(fl:Fl),bL cd X ct->(X.fn=fun _=>true)->bx cd fu (fh n ct st) τ=some fl->wB X Hi τ st fl
theorem ai(h:fe cd fu .never a=some r){P:Prop}:P:=by simp[io,iU,iT,iY,ic,iR,iV,ik,ii,ip,iX,iS,ig,ie,il,iZ,iW]at h
theorem stE{n:Nat}(IH:JB cd fu n){X:Cx}{ct:Ct}{Hi:Hp}{τ:En}{st:Stmt}{fl:Fl}(C:bL cd X ct)(hfn:X.fn=λ_=>true)(h:fe cd fu (oh (n+1) ct st) τ=some fl):iO X Hi τ st fl:=by
 cases st with
 |Return v pos =>
  simp only[wR,wI,wQ,wK,wL,wH,wJ,wO,wN,wM,wP]at h;cases v with
  |none =>simp only[io,iU,iT,iY,ic,iR,iV,ik,ii,ip,iX,iS,ig,ie,il,iZ,iW]at h;cases h;exact A6
  |some e =>
   simp only[io,iU,iT,iY,ic,iR,iV,ik,ii,ip,iX,iS,ig,ie,il,iZ,iW]at h;obtain⟨r,hr,h⟩:=bind_some h;obtain⟨w,hk,h⟩:=bind_some h;obtain⟨v,m⟩:=w;dsimp only at h
   split at h
   ·rename_i hm
    cases h;subst hm;exact D5 C hr hk
   ·cases h
 |Assign ts e pos =>
  simp only[wR,wI,wQ,wK,wL,wH,wJ,wO,wN,wM,wP]at h
  split at h
  ·rename_i x xp
   cases hx:loc ct x with
   |none=>rw[hx]at h;exact ai h|some i =>rw[hx]at h;dsimp only at h;simp only[io,iU,iT,iY,ic,iR,iV,ik,ii,ip,iX,iS,ig,ie,il,iZ,iW]at h;obtain⟨r,hr,h⟩:=bind_some h;obtain⟨τ',hp',h⟩:=map_some h;subst h;exact F6 C hfn hx hr hp'
  ·rename_i x xp k sp
   cases hx:loc ct x with
   |none=>rw[hx]at h;exact ai h|some i =>
    rw[hx]at h;dsimp only at h
    split at h;exact ai h
    ·rename_i hc
     simp only[KS,not_or,Bool.not_eq_true]at hc;simp only[io,iU,iT,iY,ic,iR,iV,ik,ii,ip,iX,iS,ig,ie,il,iZ,iW]at h;obtain⟨r,hr,h⟩:=bind_some h;obtain⟨w,hk,h⟩:=bind_some h;obtain⟨v,m⟩:=w;obtain⟨rk,hrk,h⟩:=bind_some h
     split at h
     ·rename_i jj xs j hj ho
      obtain⟨qn,hq,h⟩:=map_some h;subst h;exact Aw C hx hc.1 hc.2 hr hk hrk hj ho hq
     ·rename_i ks xs j ho
      obtain⟨kk,hkk,h⟩:=bind_some h
      split at h
      ·rename_i hz
       cases h;exact Ax C hx hc.1 hc.2 hr hk hrk hkk (by assumption) hz
      ·cases h
     ·cases h
  ·exact ai h
 |If c a b pos =>
  simp only[wR,wI,wQ,wK,wL,wH,wJ,wO,wN,wM,wP,io,iU,iT,iY,ic,iR,iV,ik,ii,ip,iX,iS,ig,ie,il,iZ,iW]at h;obtain⟨t,ht,h⟩:=bind_some h;refine FE ((bN n).c X ct Hi τ c t C ht) ?_;cases t with
  |true=>exact IH.ss X ct Hi τ a fl C hfn h|false=>exact IH.ss X ct Hi τ b fl C hfn h
 |For tg it body els pos =>
  simp only[wR,wI,wQ,wK,wL,wH,wJ,wO,wN,wM,wP]at h;cases els with
  |cons _ _=>exact ai h|nil =>
   dsimp only at h;cases ht:ww ct tg with
   |none=>rw[ht]at h;exact ai h|some w =>
    obtain⟨is,one⟩:=w;rw[ht]at h;simp only[io,iU,iT,iY,ic,iR,iV,ik,ii,ip,iX,iS,ig,ie,il,iZ,iW]at h;obtain⟨w,hw,h⟩:=bind_some h;obtain⟨xs,k,b⟩:=w;dsimp only at h;cases b with
    |true=>cases h|false=>exact FO C hfn ht hw (λτ fl h=>IH.ss X ct Hi τ body fl C hfn h) h
 |While c body els pos =>
  simp only[wR,wI,wQ,wK,wL,wH,wJ,wO,wN,wM,wP]at h;cases els with
  |cons _ _=>exact ai h|nil =>simp only[io,iU,iT,iY,ic,iR,iV,ik,ii,ip,iX,iS,ig,ie,il,iZ,iW]at h;exact wg C (λτ b h=>(bN n).c X ct Hi τ c b C h) (λτ fl h=>IH.ss X ct Hi τ body fl C hfn h) h
 |Pass pos =>simp only[wR,wI,wQ,wK,wL,wH,wJ,wO,wN,wM,wP,io,iU,iT,iY,ic,iR,iV,ik,ii,ip,iX,iS,ig,ie,il,iZ,iW]at h;cases h;exact λO σ H D R hl q=>ws BE (q σ H O R hl (aB.refl _))
 |Break pos =>simp only[wR,wI,wQ,wK,wL,wH,wJ,wO,wN,wM,wP,io,iU,iT,iY,ic,iR,iV,ik,ii,ip,iX,iS,ig,ie,il,iZ,iW]at h;cases h;exact λO σ H D R hl q=>ws xj (q σ H O R hl (aB.refl _))
 |Continue pos =>simp only[wR,wI,wQ,wK,wL,wH,wJ,wO,wN,wM,wP,io,iU,iT,iY,ic,iR,iV,ik,ii,ip,iX,iS,ig,ie,il,iZ,iW]at h;cases h;exact λO σ H D R hl q=>ws pF (q σ H O R hl (aB.refl _))
 |Expr e pos =>
  simp only[wR,wI,wQ,wK,wL,wH,wJ,wO,wN,wM,wP]at h
  split at h
  ·rename_i x xp m ap es cp
   split at h
   ·rename_i hline
    cases hx:loc ct x with
    |none=>rw[hx]at h;exact ai h|some i =>
     rw[hx]at h;dsimp only at h
     split at h
     ·rename_i a
      split at h;exact ai h
      ·rename_i hs
       split at h
       ·rename_i hm
        simp only[io,iU,iT,iY,ic,iR,iV,ik,ii,ip,iX,iS,ig,ie,il,iZ,iW]at h;obtain⟨r,hr,h⟩:=bind_some h;obtain⟨w,hk,h⟩:=bind_some h;obtain⟨v,k⟩:=w
        split at h
        ·rename_i xs j ho
         split at h
         ·rename_i hz
          cases h;exact F8 C hx (Jq hm) hline (Kc.mpr hs) hr hk ho hz
         ·cases h
        ·cases h
       ·split at h
        ·rename_i hm
         simp only[io,iU,iT,iY,ic,iR,iV,ik,ii,ip,iX,iS,ig,ie,il,iZ,iW]at h;obtain⟨r,hr,h⟩:=bind_some h
         split at h
         ·rename_i ys k xs j ho
          split at h
          ·rename_i hz
           cases h;exact FR C hx (Jq hm) hline (Kc.mpr hs) hr ho hz
          ·cases h
         ·cases h
        ·exact ai h
     ·rename_i a b
      split at h;exact ai h
      ·rename_i hs
       simp only[KS,not_or,Bool.not_eq_true]at hs
       split at h
       ·rename_i hm
        simp only[io,iU,iT,iY,ic,iR,iV,ik,ii,ip,iX,iS,ig,ie,il,iZ,iW]at h;obtain⟨rx,hrx,h⟩:=bind_some h;obtain⟨r,hr,h⟩:=bind_some h;obtain⟨w,hk,h⟩:=bind_some h;obtain⟨v,k⟩:=w
        split at h
        ·rename_i jj xs j hj ho
         split at h
         ·rename_i hz
          cases h;exact FA C hx (Jq hm) hline hs.1 hs.2 hrx hj hr hk ho hz
         ·cases h
        ·cases h
       ·exact ai h
     ·exact ai h
   ·exact ai h
  ·exact ai h
 |AugAssign t op e pos =>
  simp only[wR,wI,wQ,wK,wL,wH,wJ,wO,wN,wM,wP]at h
  split at h
  ·rename_i x xp k sp
   cases hx:loc ct x with
   |none=>rw[hx]at h;exact ai h|some i =>
    rw[hx]at h;dsimp only at h
    split at h;exact ai h
    ·rename_i hns
     simp only[io,iU,iT,iY,ic,iR,iV,ik,ii,ip,iX,iS,ig,ie,il,iZ,iW]at h;obtain⟨rk,hrk,h⟩:=bind_some h;obtain⟨jj,hj,h⟩:=bind_some h;obtain⟨r,hr,h⟩:=bind_some h;obtain⟨y,hy,h⟩:=bind_some h
     split at h
     ·rename_i xs j ho
      obtain⟨qn,hq,h⟩:=bind_some h;obtain⟨a,ha,h⟩:=bind_some h;obtain⟨av,hav,ha⟩:=bind_some ha;have e1:=hJ hj;have e2:=hJ hy;have e3:=hJ ha;subst e3
      split at h
      ·cases h
       exact ud C hx (Kc.mpr hns) Ez hrk e1 hr e2 ho hq hav
      ·cases h
       exact ud C hx (Kc.mpr hns) Ey hrk e1 hr e2 ho hq hav
      ·cases h
     ·cases h
  ·exact ai h
 |_=>(try simp only[wR,wI,wQ,wK,wL,wH,wJ,wO,wN,wM,wP]at h);exact ai h
theorem Cq:∀n:Nat,JB cd fu n
 |0=>by
  refine⟨λX ct Hi τ b fl C hfn h=> ?_,λX ct Hi τ b fl C hfn h=> ?_⟩
  ·simp[wR,wI,wQ,wK,wL,wH,wJ,wO,wN,wM,wP,io,iU,iT,iY,ic,iR,iV,ik,ii,ip,iX,iS,ig,ie,il,iZ,iW]at h
  ·simp[z2g,z2i,z2h,Ab,Ac,io,iU,iT,iY,ic,iR,iV,ik,ii,ip,iX,iS,ig,ie,il,iZ,iW]at h
 |n+1=>by
  have c:=Cq n;refine⟨λX ct Hi τ b fl C hfn h=>stE c C hfn h,λX ct Hi τ b fl C hfn h=> ?_⟩;cases b with
  |nil =>simp only[z2g,z2i,z2h,Ab,Ac]at h;cases h;exact λO e H D R d q=>sw mx (q e H O R d (aB.refl _))
  |cons b j =>
   simp only[z2g,z2i,z2h]at h;simp only[Ab,Ac]at h;obtain⟨f,i,h⟩:=bind_some h;have g:=c.s X ct Hi τ b f C hfn i;intro O e H D R d q;refine sw (bZ jf cQ) ?_;refine g O e H _ R d ?_;cases f with
   |nx a=>exact λσ1 H1 O1 R1 hl1 s1=>c.ss X ct Hi a j fl C hfn h O1 σ1 H1 D R1 hl1 (q.from s1)|bk a =>have h:some (Fl.bk a)=some fl:=h;cases h;exact q
   |ct a =>have h:some (Fl.ct a)=some fl:=h;cases h;exact q
   |rt v =>have h:some (Fl.rt v)=some fl:=h;cases h;exact q
end
structure wF(K:W.Frag)(mg:Str->Option Value)(P:Nat->Option FD)(F:List (Str×Nat))(G:List (Str×PV))(B:List Str)(x:Str)(f:Nat)(a:Addr)(fd:FuncData)(ps:List Str):Prop where
 ex:(mg x=some (.ref a)/\W.keepIn K (.ref a)=true/\Binds K fd ps []/\∀(p:Program)(w:World)(base:Heap)(k:Nat),(∀j,j<=k->∀y g,F.lookup y=some g->∃b gd qs,mg y=some (.ref b)/\W.keepIn K (.ref b)=true/\Binds K gd qs []/\dZ p w K mg base n6 j b gd qs (AW K (aC P j g)))->dZ p w K mg base n6 (k+1) a fd ps (AW K (aC P (k+1) f)))\/∃st N M n body,Def K mg x st ps a fd/\ee N ps (aR st)/\P f=some ⟨N.length,ps.length,body⟩/\fh n ⟨N,(aR st).names,F,G,B,M⟩ (bM st)=body
theorem wF.def{K:W.Frag}{mg:Str->Option Value}{P:Nat->Option FD}{F:List (Str×Nat)}{G:List (Str×PV)}{B:List Str}{x:Str}{f:Nat}{a:Addr}{fd:FuncData}{ps:List Str}(d:wF K mg P F G B x f a fd ps):mg x=some (.ref a)/\W.keepIn K (.ref a)=true/\Binds K fd ps []:=by
 rcases d.ex with⟨h1,h2,h3,_⟩|⟨st,N,M,n,body,D,_⟩
 ·exact⟨h1,h2,h3⟩
 ·exact⟨D.nm,D.fn.kp,D.bd⟩
theorem mH{K:W.Frag}(A:d.nn=N.length)(r:aG K H false a H g):aT K H [] (entry d a) (start N g) H:=by
 have p:=r.len;have k:∀(i:Nat)(t:TV),(entry d a)[i]? =some t->t=.un\/∃v u,t=.frz v (imm v)/\(start N g)[i]? =some (some u)/\Rp K H false v H u:=λi t e=>by
  unfold entry at e
  by_cases m:i<a.length
  ·rw[KM (by simpa using m),JP]at e
   have o:a[i]? =some a[i]:=by simp
   rw[o]at e;cases e;obtain⟨u,w,s⟩:=r.at o;refine .inr ⟨_,u,rfl,?_,s⟩;unfold L2.start;rw[KM (by rw[JC];omega),JP,w];rfl
  ·rw[KR (by simpa using m),L5]at e
   split at e
   ·cases e
    exact .inl rfl
   ·cases e
 refine⟨aB.refl _,λl p=>(by cases p),λi v n e=> ?_,λi t b xs n e ht=> ?_,λi j t t' x y l e1 ht e2 ht' f c=> ?_⟩
 ·rcases k i _ e with z|⟨q,u,z,f,c⟩
  ·cases z
  ·cases z
   refine⟨u,f,?_⟩;rw[uI];cases h:imm v with
   |true=>exact Rp.imm h ⟨λ_ _ e=>e,λ_ _ _ e=>e⟩ c|false=>exact c
 ·rcases k i _ e with z|⟨q,u,z,f,c⟩<;>(subst z;cases ht)
 ·rcases k i _ e1 with z|⟨q,u,z,f,c⟩<;>(subst z;cases ht)
theorem FP{p:Program}{w:World}{K:W.Frag}{I:Str->Option Value}{l:Heap}{P:Nat->Option FD}{F:List (Str×Nat)}{G:List (Str×PV)}{B:List Str}
  (hG:∀x v,G.lookup x=some v->∃u w,I x=some u/\RelV w u/\∀Hi n H,Rp K Hi n v H w) (hB:∀x,B.contains x=true->I x=none) (hF:∀x f,F.lookup x=some f->∃a t m,wF K I P F G B x f a t m) :
  ∀(k:Nat)(x:Str)(f:Nat)(a:Addr)(t:FuncData)(m:List Str),wF K I P F G B x f a t m->dZ p w K I l n6 k a t m (AW K (aC P k f)):=by
 have S:∀k j:Nat,j<=k->∀(x:Str)(f:Nat)(a:Addr)(t:FuncData)(m:List Str),wF K I P F G B x f a t m->dZ p w K I l n6 j a t m (AW K (aC P j f)):=by
  intro k
  induction k with
  |zero =>intro j V;have e:=Nat.le_zero.mp V;subst e;intro x f a t m _;exact⟨λvs H Q E h=>(by obtain⟨_,_,_,z,_⟩:=h;cases z),λA outer s H args us vs Q E _ _ _ _ h=>(by obtain⟨_,_,_,z,_⟩:=h;cases z)⟩
  |succ k ih =>
  intro j V
  by_cases a0:j<=k;exact ih j a0
  have e:j=k+1:=by omega
  subst e;intro x f a t m d
  rcases d.ex with⟨_,_,_,O⟩|⟨st,N,M,n,i,D,S,hP,J⟩
  ·exact O p w l k λj V y g hy=>by obtain⟨b,gd,qs,dy⟩:=hF y g hy;obtain⟨z1,z2,Z⟩:=dy.def;exact⟨b,gd,qs,z1,z2,Z,ih j V y g b gd qs dy⟩
  have R:∀{c:List PV}{r:PV},aC P (k+1) f c=some r->c.length=m.length/\fK (bx (aC P k) 1000000 i (entry ⟨N.length,m.length,i⟩ c))=some r:=λ{c r} h=>by
   unfold aC at h;rw[hP]at h;dsimp only[Option.bind]at h
   split at h
   ·rename_i hl
    exact⟨hl,h⟩
   ·cases h
  refine D.fn.ok S (λvs H Q E h=> ?_) (λcdv A outer s H vs Q E hr h=> ?_)
  ·obtain⟨c,r,X,o,_⟩:=h
   rw[<- X.len];exact(R o).1
  ·obtain⟨c,r,X,o,q⟩:=h
   obtain⟨hl,o⟩:=R o;have a1:m.length<=N.length:=by have:=J1 List.length S.pre;rw[J6]at this;omega
   cases Y:bx (aC P k) 1000000 i (entry ⟨N.length,m.length,i⟩ c)with
   |none=>rw[Y]at o;cases o|some fl =>
    rw[Y]at o
    have C:bL (aC P k) (qK n6 p w K I l N x (aR st) a cdv A outer s H E).nox ⟨N,(aR st).names,F,G,B,M⟩ :=
     ⟨rfl,S.nd,rfl,S.kind,rfl,hG,hB,λy g hy=>by obtain⟨a',L,T,d'⟩:=hF y g hy;obtain⟨z1,z2,Z⟩:=d'.def;exact⟨k,a',L,T,ih k (JH k) y g a' L T d',hr,z1,z2,Z⟩,Lm,hr.units⟩
    rw[<- J]at Y;have h3:=(Cq n).ss _ _ H _ (bM st) fl C rfl Y;refine⟨_,cQ,h3 [] (start N vs) H _ (mH rfl X) ?_ ?_⟩
    ·show(start N vs).length=N.length
     unfold L2.start;rw[JM,JC,KA];have:=X.len;omega
    ·cases fl with
     |nx U =>cases o;exact λσ' H' O' R' _ _=>q _ _ R'.same (Rp.non.mpr rfl)
     |rt v =>cases o;exact q
     |bk U =>cases o|ct U =>cases o
 exact λk=>S k k (JH k)
theorem Em{p:Program}{w:World}{K:W.Frag}{e:Str->Option Value}{b:Heap}{P:Nat->Option FD}{k f:Nat}{a:Addr}{g:FuncData}{i:List Str}(F:dZ p w K e b n6 k a g i (AW K (aC P k f)))
  (h:∀c:List Int,c.length<=63->aC P k f [.lst (c.map PV.int)]=some (.bl true)):dZ p w K e b n6 k a g i (tQ K) :=
 F.imp λvs H Q E z=>by obtain⟨l,c,rfl,j,d,q⟩:=z;refine⟨[.lst (c.map PV.int)],.bl true,.cons (Rp.lst.mpr ⟨l,_,rfl,(λz=>by cases z),j,aG.ints.mpr rfl⟩) .nil,h c d,λu H' s r=> ?_⟩;rw[Rp.bl.mp r];exact q H'
section
variable{K:W.Frag}{mg:Str->Option Value}{P:Nat->Option FD}{F0:List (Str×Nat)}{G0:List (Str×PV)}{B0:List Str}
theorem fnil:∀(x:Str)(f:Nat),([]:List (Str×Nat)).lookup x=some f->∃a b c,wF K mg P F0 G0 B0 x f a b c:=λx f h=>by cases h
theorem bS(h:∃a b d,wF K mg P F0 G0 B0 i g a b d)(j:∀(x:Str) (f:Nat),r.lookup x=some f->∃a b d,wF K mg P F0 G0 B0 x f a b d) :
  ∀(x:Str)(f:Nat),((i,g)::r).lookup x=some f->∃a b d,wF K mg P F0 G0 B0 x f a b d:=λx f e=>by
 rw[J5]at e
 split at e
 ·rename_i c
  cases e;rw[Jq c];exact h
 ·exact j x f e
theorem gnil:∀(x:Str)(v:PV),([]:List (Str×PV)).lookup x=some v->∃u w,mg x=some u/\RelV w u/\∀a n H,Rp K a n v H w:=λx f h=>by cases h
theorem DO(h:∃u w,mg b=some u/\RelV w u/\∀a n H,Rp K a n d H w)(g:∀(x:Str) (v:PV),r.lookup x=some v->∃u w,mg x=some u/\RelV w u/\∀a n H,Rp K a n v H w) :
  ∀(x:Str)(v:PV),((b,d)::r).lookup x=some v->∃u w,mg x=some u/\RelV w u/\∀a n H,Rp K a n v H w:=λx f e=>by
 rw[J5]at e
 split at e
 ·rename_i c
  cases e;rw[Jq c];exact h
 ·exact g x f e
theorem bnil:∀(x:Str),([]:List Str).contains x=true->mg x=none:=λx h=>by simp at h
theorem cS(h:mg a=none)(b:∀(x:Str),r.contains x=true->mg x=none):∀(x:Str),(a::r).contains x=true->mg x=none:=λx e=>by
 rw[L3,KS]at e
 rcases e with e|e
 ·rw[Jq e]
  exact h
 ·exact b x e
end
theorem Ho{c:Type}{us:List c}(h:us.length=1):∃a,us=[a]:=by
 cases us with
 |nil=>cases h|cons a us=>cases us with
  |nil=>exact⟨a,rfl⟩|cons b us=>cases h
theorem Bx{c:Type}{us:List c}(h:us.length=2):∃a b,us=[a,b]:=by
 cases us with
 |nil=>cases h|cons a us=>obtain⟨b,rfl⟩:=Ho (Nat.succ.inj h);exact⟨a,b,rfl⟩
theorem len3{d:Type}{us:List d}(h:us.length=3):∃a b c,us=[a,b,c]:=by
 cases us with
 |nil=>cases h|cons a us=>obtain⟨b,c,rfl⟩:=Bx (Nat.succ.inj h);exact⟨a,b,c,rfl⟩
theorem qA{set:PV->En->Option En}{body:En->Option Fl}(I:Nat->En->Prop)(R:Fl->Prop):∀(xs ys:List PV)(τ:En),I xs.length τ -> (∀(i:Nat)(x:PV)(τ:En),(xs++ys)[i]? =some x->xs.length<=i->I i τ->∃τ1 f,set x τ=some τ1/\body τ1=some f/\(match f with| .nx τ2=>I (i+1) τ2| .ct τ2=>I (i+1) τ2| .bk τ2=>R (.nx τ2)| .rt v=>R (.rt v))) -> (∀τ,I (xs++ys).length τ->R (.nx τ))->∃fl,kr set body ys τ=some fl/\R fl
 |xs,[],τ,h0,hs,he=>⟨.nx τ,rfl,he τ (by rw[KG];exact h0)⟩|xs,y::ys,τ,h0,hs,he=>by
  obtain⟨τ1,f,h1,h2,h3⟩:=hs xs.length y τ (by simp) (JH _) h0;have e:xs++y::ys=(xs++[y])++ys:=by simp
  have ih:=λτ2 (h:I (xs.length+1) τ2)=>qA (set:=set) (body:=body) I R (xs++[y]) ys τ2 (by rw[JM];exact h) (λi x τ hx hi=>hs i x τ (by rw[e];exact hx) (by rw[JM]at hi;omega)) (by rw[<- e];exact he);unfold kr;rw[h1];dsimp only[Option.bind];rw[h2];cases f with
  |nx τ2=>exact ih τ2 h3|ct τ2=>exact ih τ2 h3|bk τ2=>exact⟨_,rfl,h3⟩|rt v=>exact⟨_,rfl,h3⟩
theorem CC{set:PV->En->Option En}(I:Nat->En->Prop)(R:Fl->Prop)(d:I 0 τ)
  (g:∀(i:Nat)(x:PV)(τ:En),xs[i]? =some x->I i τ->∃b f,set x τ=some b/\body b=some f/\(match f with| .nx a=>I (i+1) a| .ct a=>I (i+1) a| .bk a=>R (.nx a)| .rt v=>R (.rt v)))
  (e:∀τ,I xs.length τ->R (.nx τ)):∃c,kr set body xs τ=some c/\R c :=
 qA I R [] xs τ d (λi x τ hx _ hI=>g i x τ hx hI) e
theorem cD{f:PV->Option (Option (PV×Bool))}{g:PV->PV}{n:Bool}:∀{a:List PV},(∀x∈a,f x=some (some (g x,true)))->bq f a=some (a.map g,true)
 |[],_=>rfl|x::a,h=>by unfold bq;rw[h x JL,cD (n:=n) λy hy=>h y (JF _ hy)];rfl
section
variable{v:PV}{n m:Bool}{xs ys:List PV}{i j:Int}{z y:Str}{a b:RV}{τ:En}{t:TV}{k:Nat}
theorem cE:(RV.frz v n).val=v:=rfl
theorem Aj:(RV.bor v).val=v:=rfl
theorem Ai:(RV.own xs n).val=.lst xs:=rfl
theorem yo:(RV.frz v n).keep=some (v,n):=rfl
theorem yn:(RV.own xs n).keep=some (.lst xs,n):=rfl
theorem Bz:(RV.owd (.dK c) xs n).keep=some (.dK c xs,n):=rfl
theorem Bw:fH (.lst xs)=some xs.length:=rfl
theorem Bu:fH (.tup xs)=some xs.length:=rfl
theorem len_str:fH (.str z)=if z.length<=LN then some z.length else none:=rfl
theorem CM:fK (some (.rt v))=some v:=rfl
theorem kl:nP (.frz v n::τ) 0=some (.frz v n):=rfl
theorem FN:nP (.own xs n::τ) 0=some (.bor (.lst xs)):=rfl
theorem km:nP (t::τ) (k+1)=nP τ k:=rfl
theorem dR:au [] τ=τ:=rfl
theorem fc:au (k::c) τ=au c (nR τ k):=rfl
theorem CB:nR (.own xs n::τ) 0=.frz (.lst xs) n::τ:=rfl
theorem jv:nR (.frz v n::τ) 0=.frz v n::τ:=rfl
theorem nQ:nR (t::τ) (k+1)=t::nR τ k:=by
 unfold nR;rw[Kg];cases τ[k]? with
 |none=>rfl|some t=>cases t<;>rfl
theorem Cj:cN .Add (.frz (.int i) n) (.frz (.int j) m)=some (sc (.int (i+j))):=rfl
theorem Cd:cN .Sub (.frz (.int i) n) (.frz (.int j) m)=some (sc (.int (i-j))):=rfl
theorem Cg:cN .Mult (.frz (.int i) n) (.frz (.int j) m)=if(-(2^64)<i/\i<2^64)\/(-(2^64)<j/\j<2^64)then some (sc (.int (i*j)))else if i.natAbs<2^2000/\j.natAbs<2^2000 then some (sc (.int (i*j)))else none:=rfl
theorem ub:cN .FloorDiv (.frz (.int i) n) (.frz (.int j) m)=if 0<j/\j<2^200 then some (sc (.int (i/j)))else none:=rfl
theorem Ch:cN .Mod (.frz (.int i) n) (.frz (.int j) m)=if 0<j then some (sc (.int (i%j)))else none:=rfl
theorem Ce:cN .LShift (.frz (.int i) n) (.frz (.int j) m)=if 0<=j/\j<=1000000/\i.natAbs<2^64 then some (sc (.int (i*2^j.toNat)))else none:=rfl
theorem Ci:cN .Add (.frz (.str z) n) (.frz (.str y) m)=if z.length+y.length<=LN then some (sc (.str (z++y)))else none:=rfl
theorem Ff:cM .Lt (.int i) (.int j)=some (decide (i<j)):=rfl
theorem Fg:cM .Gt (.int i) (.int j)=some (decide (j<i)):=rfl
theorem CW:cM .Eq (.int i) (.int j)=some (decide (i=j)):=rfl
theorem CV:cM .Eq (.str z) (.str y)=some (decide (z=y)):=rfl
end
theorem vk:bx a b (.cons s d) c=(fe a b s c).bind λf=>j3 f (bx a b d):=by simp only[Ab,Ac]
theorem zK:bx c b .nil a=some (.nx a):=by simp only[Ab,Ac]
theorem run{P:Nat->Option FD}{k f:Nat}{d:FD}{vs:List PV}{r:PV}(hP:P f=some d)(hl:vs.length=d.np)(h:fK (bx (aC P k) 1000000 d.body (entry d vs))=some r):aC P (k+1) f vs=some r:=by
 show(P f).bind _=_;rw[hP];show(if vs.length=d.np then _ else _)=_;rw[JI hl];exact h
section
variable{a b:RV}{t:String}{n m:Bool}{xs ys:List PV}{i j:Int}{bl:Bool}
theorem tK:j3 (.nx c) k=k c:=rfl
theorem Ap:j3 (.rt v) k=some (.rt v):=rfl
theorem wv:og (.bl bl)=some bl:=rfl
theorem zn:iM (.bl bl)=some bl:=rfl
theorem yr:jI (.int i)=some i:=rfl
theorem Az:kD (.frz (.str z) n)=some (signs z,true,false):=rfl
theorem mh:kD (.frz (.lst xs) n)=some (xs,n,false):=rfl
theorem Ay:kD (.frz (.tup xs) n)=some (xs,n,false):=rfl
theorem A0:kD (.own xs n)=some (xs,n,false):=rfl
theorem HL:mw true k (.own xs n) c=some (c.set k (.own xs n)):=rfl
theorem EB:mw false k (.own xs n) c=some (c.set k (.frz (.lst xs) n)):=rfl
theorem EC:mw o k (.frz v n) c=some (c.set k (.frz v n)):=by cases o<;>rfl
theorem De:oj (.lst xs)=.own xs true:=rfl
theorem Dd:oj (.tup xs)=.frz (.tup xs) true:=rfl
theorem Df:oj (.int i)=.frz (.int i) true:=rfl
theorem Dg:oj (.bl bl)=.frz (.bl bl) true:=rfl
theorem Fz:lO .len [a]=(fH a.val).map λn=>sc (.int (n:Nat)):=rfl
theorem Cn:lO .int [.frz (.bl bl) n]=some (sc (.int (if bl then 1 else 0))):=rfl
theorem Cm:lO (.isin t) [a]=(fY t a.val).map λb=>sc (.bl b):=rfl
theorem AA:lO .list [.frz (.tup xs) n]=some (.own xs n):=rfl
theorem AB:lO .list [.frz (.lst xs) n]=some (.own xs n):=rfl
theorem v3:lO .tuple [.own xs n]=some (.frz (.tup xs) n):=rfl
theorem v4:lO .tuple [.frz (.lst xs) n]=some (.frz (.tup xs) n):=rfl
theorem Fx:lO .min [.frz (.int i) n,.frz (.int j) m]=some (sc (.int (if j<i then j else i))):=rfl
theorem Fy:lO .max [.frz (.int i) n,.frz (.int j) m]=some (sc (.int (if j>i then j else i))):=rfl
theorem zz:lO .sorted [.frz (.lst xs) n]=gf xs (.frz (.lst xs) n):=rfl
theorem ix_L(k:Int):index (.frz (.lst xs) n) (.frz (.int k) m)=(eo xs k).map λe=>.frz e (n||imm e):=rfl
theorem ix_T(k:Int):index (.frz (.tup xs) n) (.frz (.int k) m)=(eo xs k).map λe=>.frz e (n||imm e):=rfl
theorem ix_O(k:Int):index (.own xs n) (.frz (.int k) m)=(eo xs k).map λe=>.frz e (n||imm e):=rfl
theorem ix_B(k:Int):index (.bor (.lst xs)) (.frz (.int k) m)=(eo xs k).map fw:=rfl
end
theorem pj:fY "int" (.int i)=some true:=by simp[fY]
theorem nJ:fY "bool" (.int i)=some false:=by simp[fY]
theorem pi:fY "str" (.int i)=some false:=by simp[fY]
theorem pf:fY "str" (.str z)=some true:=by simp[fY]
theorem nI:fY "list" (.int i)=some false:=by simp[fY]
theorem nG:fY "list" (.str z)=some false:=by simp[fY]
theorem nH:fY "list" (.lst a)=some true:=by simp[fY]
theorem lZ:fY "tuple" (.int i)=some false:=by simp[fY]
theorem lX:fY "tuple" (.str z)=some false:=by simp[fY]
theorem lY:fY "tuple" (.lst a)=some false:=by simp[fY]
theorem lW:fY "tuple" (.tup a)=some true:=by simp[fY]
theorem sH  :cM .Is .non .non=some true:=rfl
theorem sK:cM .Is (.int i) .non=some false:=rfl
theorem sF:cM .Is (.str z) .non=some false:=rfl
theorem sI:cM .Is (.lst a) .non=some false:=rfl
theorem sE:cM .Is (.tup a) .non=some false:=rfl
theorem eU{a:Type}{f:PV->Option (Option (PV×Bool))}{h:a->PV}{g:a->PV}:∀{l:List a},(∀x∈l,f (h x)=some (some (g x,true)))->bq f (l.map h)=some (l.map g,true)
 |[],_=>rfl|x::xs,k=>by rw[JR];unfold bq;rw[k x JL,eU λy hy=>k y (JF _ hy)];rfl
noncomputable def To(o:Option Fl)(Q:Fl->Prop):Prop:=∃f,o=some f/\Q f
theorem Ao:To (some f) Q↔Q f:=⟨λ⟨g,e,h⟩=>by cases e;exact h,λh=>⟨f,rfl,h⟩⟩
theorem To.imp(h:To o Q)(k:∀f,Q f->a f):To o a :=by obtain⟨f,e,q⟩:=h;exact⟨f,e,k f q⟩
theorem DA{P:Nat->Option FD}{k f:Nat}{d:FD}{vs:List PV}{Q:PV->Prop}(hP:P f=some d)(hl:vs.length=d.np)(h:To (bx (aC P k) 1000000 d.body (entry d vs)) λfl=>∃v,fK (some fl)=some v/\Q v):∃v,aC P (k+1) f vs=some v/\Q v:=by obtain⟨fl,e,v,h1,h2⟩:=h;exact⟨v,run hP hl (by rw[e];exact h1),h2⟩
theorem cK{P:Nat->Option FD}{k f:Nat}{d:FD}{vs:List PV}{r:PV}(hP:P f=some d)(hl:vs.length=d.np)(h:To (bx (aC P k) 1000000 d.body (entry d vs)) fun fl=>fK (some fl)=some r):aC P (k+1) f vs=some r:=by
 obtain⟨fl,e,h1⟩:=h;exact run hP hl (by rw[e];exact h1)
section
variable{cd:Nat->List PV->Option PV}{fu:Nat}{τ:En}{cap:List Nat}{e e2:IE}{i j:Nat}{o one:Bool}{is:List Nat}{c:IC}{a b body:wW}{src:IT}
theorem kz:fe cd fu (.asg i o cap e) τ=(aP cd e (au cap τ)).bind λr=>(mw o i r (au cap τ)).map .nx:=by simp only[io,iU,iT,iY,ic,iR,iV,ik,ii,ip,iX,iS,ig,ie,il,iZ,iW]
theorem zJ:fe cd fu (.ret cap e) τ=(aP cd e (au cap τ)).bind λr=>r.keep.bind λ(v,n)=>if n then some (.rt v)else none:=by simp only[io,iU,iT,iY,ic,iR,iV,ik,ii,ip,iX,iS,ig,ie,il,iZ,iW]
theorem FS:fe cd fu (.ife c a b) τ=(fk cd c τ).bind λr=>if r then bx cd fu a τ else bx cd fu b τ:=by simp only[io,iU,iT,iY,ic,iR,iV,ik,ii,ip,iX,iS,ig,ie,il,iZ,iW]
noncomputable def xZ(i:Nat)(v:PV)(m:Bool)(d:En):Option Fl:=match d[i]? with
  |some (.own xs n)=>if xs.length<LN then some (.nx (d.set i (.own (xs++[v]) (n&&m))))else none|_=>none
theorem FT:fe cd fu (.app i cap e) τ=(aP cd e (au cap τ)).bind λr=>r.keep.bind λ(v,m)=>xZ i v m (au cap τ):=by simp only[io,iU,iT,iY,ic,iR,iV,ik,ii,ip,iX,iS,ig,ie,il,iZ,iW];rfl
theorem gn(h:τ[i]? =some (.own xs n))(d:xs.length<LN):xZ i v m τ=some (.nx (τ.set i (.own (xs++[v]) (n&&m)))):=by unfold xZ;rw[h];exact JI d
theorem cR(ht:nT cd src (au cap τ)=some (xs,n,false))(I:Nat->En->Prop)(h0:I 0 (au cap τ))
  (hs:∀(i:Nat)(x:PV)(τ:En),xs[i]? =some x->I i τ->∃τ1,mf is one n x τ=some τ1/\To (bx cd fu body τ1) λf=>match f with| .nx τ2=>I (i+1) τ2| .ct τ2=>I (i+1) τ2| .bk τ2=>To (k τ2) Q| .rt v=>Q (.rt v))
  (hk:∀τ',I xs.length τ' ->To (k τ') Q):To ((fe cd fu (.forr is one cap src body) τ).bind λf=>j3 f k) Q:=by
 obtain⟨fl,e,h⟩:=CC (set:=mf is one n) (body:=λτ=>bx cd fu body τ) (xs:=xs) (τ:=au cap τ) I (λfl=>To (j3 fl k) Q) h0 (λi x τ hx hI=>by
  obtain⟨τ1,h1,f,h2,h3⟩:=hs i x τ hx hI;refine⟨τ1,f,h1,h2,?_⟩;cases f with
  |nx τ2=>exact h3|ct τ2=>exact h3|bk τ2=>exact h3|rt v=>exact⟨_,rfl,h3⟩) hk
 have e2:fe cd fu (.forr is one cap src body) τ=some fl:=by simp only[io,iU,iT,iY,ic,iR,iV,ik,ii,ip,iX,iS,ig,ie,il,iZ,iW,ht,Jl];exact e
 rw[e2];exact h
end
theorem bH:∀l:List Str,imms (l.map PV.str)=true
 |[]=>rfl|x::l=>by rw[JR,imms,bH l];rfl
theorem v2:cN .Add (.frz (.lst b) n) (.own a m)=lT (b++a) (n&&m):=rfl
theorem zt:cN .Mult (.frz (.str z) n) (.frz (.int k) m)=if 0<=k/\k<=1000/\z.length<=16 then some (sc (.str ⟨(List.replicate k.toNat z.cps.toList).flatten.toArray⟩))else none:=rfl
theorem rE:slice (.frz (.lst a) n) b c=some (.own (cut a b c) (n||imms a)):=rfl
theorem sS(P:Nat->Option FD)(k f:Nat)(a:List PV):aC P (k+1) f a=(P f).bind λd=>if a.length=d.np then fK (bx (aC P k) 1000000 d.body (entry d a))else none:=rfl
section
variable{cd:Nat->List PV->Option PV}{fu:Nat}{τ:En}{e e2:IE}{i:Nat}
noncomputable def F5(i:Nat)(c:Operator)(j y:Int)(b:En):Option Fl:=match b[i]? with
  |some (.own xs n)=>(L2.lN xs.length j).bind λq=>((xs[q]?).bind jI).bind λa=>match c with
   | .Add=>some (.nx (b.set i (.own (xs.set q (.int (a+y))) n)))| .Sub=>some (.nx (b.set i (.own (xs.set q (.int (a-y))) n)))|_=>none
  |_=>none
theorem CI:fe cd fu (.augS i a e e2) τ=(aP cd e τ).bind λx=>(jI x.val).bind λj=>(aP cd e2 τ).bind λr=>(jI r.val).bind λy=>F5 i a j y τ:=by simp only[io,iU,iT,iY,ic,iR,iV,ik,ii,ip,iX,iS,ig,ie,il,iZ,iW];rfl
theorem AD(h:τ[i]? =some (.own b n))(c:L2.lN b.length j=some q)(d:b[q]? =some (.int a)):F5 i .Add j y τ=some (.nx (τ.set i (.own (b.set q (.int (a+y))) n))):=by unfold F5;rw[h];dsimp only;rw[c];dsimp only[Option.bind];rw[d];rfl
noncomputable def setO(i:Nat)(k v:PV)(m:Bool)(a:En):Option Fl:=match k,a[i]? with
  | .int j,some (.own xs n)=>(L2.lN xs.length j).map λq=>.nx (a.set i (.own (xs.set q v) (n&&m)))|y,some (.owd (.dK ks) xs n)=>(dQ y).bind λk=>if xs.length<LN then some (.nx (a.set i (.owd (.dK (gm ks k)) (putL ks xs k v) (n&&m))))else none|_,_=>none
theorem CG:fe cd fu (.seti i a e2 e) τ=(aP cd e (au a τ)).bind λr=>r.keep.bind λ(v,m)=>(aP cd e2 (au a τ)).bind λx=>setO i x.val v m (au a τ):=by simp only[io,iU,iT,iY,ic,iR,iV,ik,ii,ip,iX,iS,ig,ie,il,iZ,iW];rfl
theorem set_own(h:τ[i]? =some (.own a n))(b:L2.lN a.length j=some q):setO i (.int j) v m τ=some (.nx (τ.set i (.own (a.set q v) (n&&m)))):=by unfold setO;rw[h];dsimp only;rw[b];rfl
end
theorem yb:fw (.int i)=.frz (.int i) true:=rfl
theorem uc:lO .sum [.frz (.lst a) n]=(aQ a).map λns=>sc (.int ns.sum):=rfl
theorem zr:cN .Mult (.own a n) (.frz (.int k) m)=if 0<=k/\k<=1000000/\a.length*k.toNat<=LN then some (.own (List.replicate k.toNat a).flatten n)else none:=rfl
theorem FY:k7 (.frz (.lst a) n)=some (List.zipWith dr (List.range a.length) a,n):=rfl
theorem Ik{b:Type}{x:b}{a:List b}:L2.eo (x::a) 0=some x:=by have:=cH (xs:=x::a) (j:=0) (v:=x) (by simp);exact this
theorem at_1{b:Type}{x y:b}{a:List b}:L2.eo (x::y::a) 1=some y:=by have:=cH (xs:=x::y::a) (j:=1) (v:=y) (by simp);exact this
theorem gl(h:((List.range n).map λi=>PV.int (0+(i:Nat)))[i]? =some x):i<n/\x=.int (i:Nat):=by
 rw[JP]at h
 by_cases a:i<n
 ·rw[KD a]at h
  refine⟨a,?_⟩;have:=(Jb h).symm
  simpa using this
 ·rw[Jz (by simpa using a)]at h
  cases h
theorem mj:((List.range n).map λi=>PV.int (0+(i:Nat))).length=n:=by simp
theorem jx(h:(List.zipWith dr (List.range a.length) a)[i]? =some x):∃y,a[i]? =some y/\x=dr i y:=by
 rw[K7]at h;cases e:a[i]? with
 |none=>rw[e]at h;cases c:(List.range a.length)[i]? <;>rw[c]at h<;>cases h|some y =>rw[e]at h;have b:i<a.length:=(JK.mp e).1;rw[KD b]at h;exact⟨y,rfl,(Jb h).symm⟩
theorem iE:(List.zipWith dr (List.range a.length) a).length=a.length:=by rw[Lw,Je,LY]
theorem BX(c d:Nat):decide ((⟨#[c]⟩:Str)=⟨#[d]⟩)=decide (c=d):=by
 by_cases h:c=d;subst h;simp
 ·rw[J2 h,J2]
  intro e;have:=J1 (λz:Str=>z.cps.toList) e;simp at this;exact h this
theorem ze(c:Nat):decide ((⟨#[c]⟩:Str)="x")=(c==120):=by have:=BX c 120;rw[show(⟨#[120]⟩:Str)="x" from rfl]at this;rw[this];rfl
theorem El:fH (.dK a b)=some a.length:=rfl
theorem Ck:lO .sumv [.frz (.dK b a) n]=(aQ a).map λns=>sc (.int ns.sum):=rfl
theorem eV{a:Type}{f:PV->Option (Option (PV×Bool))}{h:a->PV}{p:a->Bool}{g:a->PV}:∀{l:List a},(∀x∈l,f (h x)=some (if p x then some (g x,true)else none))->bq f (l.map h)=some ((l.filter p).map g,true)
 |[],_=>rfl|x::xs,k=>by
  rw[JR];unfold bq;rw[k x JL,eV λy hy=>k y (JF _ hy)];cases e:p x
  ·simp[Lr,e]
  ·simp[Lr,e]
theorem ko{a:List Int}(h:a.length<=i):a.getD i 0=0:=by rw[JQ,Jz h];rfl
theorem map_set{L:Nat}{g:Nat->Int}{q:Nat}{v:Int}:((List.range L).map λk=>PV.int (g k)).set q (.int v)=(List.range L).map λk=>PV.int (if k=q then v else g k):=by
 refine LI λi=> ?_;rw[LG,JP,JP,JC,Je]
 by_cases a:i<L
 ·rw[KD a]
  by_cases e:q=i
  ·subst e
   simp[a]
  ·have b :¬i=q:=λz=>e z.symm
   simp[e,b]
 ·have:(List.range L)[i]? =none:=Jz (by simpa using a)
  rw[this]
  by_cases e:q=i
  ·subst e
   simp[a]
  ·simp[e]
theorem lu{L:Nat}{g:Nat->Int}{q:Nat}(h:q<L):((List.range L).map λk=>PV.int (g k))[q]? =some (.int (g q)):=by rw[JP,KD h];rfl
theorem uF(h:j<n):L2.lN n (j:Int)=some j:=by unfold L2.lN;rw[JI (by omega),JI (by omega)];simp
theorem int_at{a:List Int}(h:(a.map PV.int)[i]? =some y):i<a.length/\y=.int (a.getD i 0)/\a.getD i 0∈a:=by
 rw[JP]at h;cases e:a[i]? with
 |none=>rw[e]at h;cases h|some x =>
  rw[e]at h;cases h;have c:=(JK.mp e).1;have b:a.getD i 0=x:=by rw[JQ,e];rfl
  exact⟨c,by rw[b],by rw[b];exact Jd e⟩
theorem IF(n:Nat):(List.replicate n [PV.int 0]).flatten=(List.range n).map λ_=>PV.int 0:=by
 induction n with
 |zero=>rfl|succ n a=>rw[List.replicate_succ',List.flatten_concat,a,Le,Jo];rfl
noncomputable abbrev aa:=List (Int×Int)
noncomputable def hZ(c:aa)(k:Int):Option Int:=(c.find? λp=>decide (p.1=k)).map (·.2)
noncomputable def i9(c:aa)(k v:Int):aa:=if(c.any λp=>decide (p.1=k))=true then c.map (λp=>if p.1=k then(p.1,v)else p)else c++[(k,v)]
noncomputable def wA(c:aa)(k n:Int):aa:=i9 c k ((hZ c k).getD 0+n)
noncomputable def bo(t n:Int)(c:aa)(b:Int):aa:=if Builtin.bitAnd t b=0 then wA c (Builtin.bitOr t b) n else c
noncomputable def dM(B:List Int)(c:aa)(p:Int×Int):aa:=B.foldl (bo p.1 p.2) c
noncomputable def AV(B:List Int)(c a:aa):aa:=a.foldl (dM B) c
noncomputable def wl(a:List aa)(B:List Int):Nat->List aa
 |0=>a++[[]]|i+1=>(wl a B i).set (i+1) (AV B ((wl a B i).getD (i+1) []) (a.getD i []))
noncomputable def bT(c:aa):List (ag×V):=c.map λp=>(Sum.inl p.1,V.int p.2)
noncomputable def jq(c:aa):PV:=.dK (c.map λp=>Sum.inl p.1) (c.map λp=>.int p.2)
noncomputable def oC:List ag->List PV->Option aa
 |[],[]=>some []| .inl k::ks,.int v::vs=>(oC ks vs).map ((k,v)::·)|_,_=>none
noncomputable def unT:PV->Option aa
 | .dK b a=>oC b a|_=>none
noncomputable def oa:List PV->Option (List aa)
 |[]=>some []|x::xs=>(unT x).bind λc=>(oa xs).map (c::·)
noncomputable def bn:List PV->Option PV
 |[.lst ls,.lst bs]=>(oa ls).bind λLs=>(aQ bs).bind λB=>if Ls.length<=100/\B.length<=100/\(Ls.all λc=>decide (c.length<=1000))=true then some (.lst ((wl Ls B Ls.length).map jq))else none|_=>none
theorem ki:∀{a:List PV}{b:List Int},aQ a=some b->a=b.map PV.int
 |[],b,h=>by cases h;rfl|x::a,b,h=>by
  cases x with
  |int c =>
   have h:(aQ a).map (c::·)=some b:=h;cases e:aQ a with
   |none=>rw[e]at h;cases h|some d =>rw[e]at h;cases h;rw[ki e];rfl
  |_=>cases h
theorem gN:∀a:List Int,aQ (a.map PV.int)=some a
 |[]=>rfl|n::a=>by rw[JR,aQ,gN a];rfl
theorem oB:∀{a:List ag}{b:List PV}{c:aa},oC a b=some c->a=c.map (λp=>Sum.inl p.1)/\b=c.map (λp=>.int p.2)
 |[],[],c,h=>by cases h;exact⟨rfl,rfl⟩| .inl k::a,.int v::b,c,h=>by
  have h:(oC a b).map ((k,v)::·)=some c:=h;cases e:oC a b with
  |none=>rw[e]at h;cases h|some d =>rw[e]at h;cases h;obtain⟨f,g⟩:=oB e;exact⟨by rw[f];rfl,by rw[g];rfl⟩
 | .inr z::a,b,c,h=>by cases h|[],v::b,c,h=>by cases h| .inl k::a,[],c,h=>by cases h| .inl k::a,.non::b,c,h=>by cases h| .inl k::a,.bl _::b,c,h=>by cases h| .inl k::a,.str _::b,c,h=>by cases h| .inl k::a,.lst _::b,c,h=>by cases h| .inl k::a,.tup _::b,c,h=>by cases h| .inl k::a,.dK _ _::b,c,h=>by cases h| .inl k::a,.dT _ _::b,c,h=>by cases h
theorem Al(h:unT v=some c):v=jq c:=by
 cases v with
 |dK d e =>obtain⟨a,b⟩:=oB h;unfold jq;rw[a,b]
 |_=>cases h
theorem oZ:∀{d:List PV}{a:List aa},oa d=some a->d=a.map jq
 |[],a,h=>by cases h;rfl|x::xs,a,h=>by
  simp only[oa]at h;cases e:unT x with
  |none=>rw[e]at h;cases h|some c =>
   rw[e]at h;simp only[Option.bind]at h;cases b:oa xs with
   |none=>rw[b]at h;cases h|some r =>rw[b]at h;cases h;rw[Al e,oZ b];rfl
theorem sr:∀c:aa,oC (c.map λp=>Sum.inl p.1) (c.map λp=>.int p.2)=some c
 |[]=>rfl|p::c=>by simp only[JR,oC,sr c];rfl
theorem tG:∀a:List aa,oa (a.map jq)=some a
 |[]=>rfl|c::a=>by simp only[JR,oa,tG a];show(oC _ _).bind _=_;rw[sr];rfl
theorem CO(c:aa)(k:Int):fB (bT c) (Sum.inl k)=(hZ c k).map V.int:=by
 unfold fB bT hZ
 induction c with
 |nil=>rfl|cons p c a =>
  rw[JR,Kd,Kd]
  by_cases e:p.1=k;simp[e]
  ·have b :¬((Sum.inl p.1:ag)=Sum.inl k):=λz=>e (Sum.inl.inj z)
   simp only[e,b,decide_false];exact a
theorem CN(c:aa)(k v:Int):dS (bT c) (Sum.inl k) (V.int v)=bT (i9 c k v):=by
 unfold dS i9;have a:((bT c).any λkv=>decide (kv.1=Sum.inl k))=(c.any λp=>decide (p.1=k)):=by
  unfold bT;rw[List.any_map]
  congr 1
  funext p
  simp
 rw[a]
 split
 ·unfold bT
  rw[J4,J4];refine Jv λp _=> ?_
  by_cases e:p.1=k;simp[e];simp[e]
 ·unfold bT
  rw[Jo];rfl
theorem xY(c:aa)(k v:Int):(i9 c k v).length<=c.length+1:=by
 unfold i9
 split;rw[JC];omega;rw[JM];simp
theorem ux(t n:Int)(c:aa)(b:Int):(bo t n c b).length<=c.length+1:=by
 unfold bo
 split;exact xY _ _ _;omega
theorem jK(t n:Int):∀(B:List Int)(c:aa),(B.foldl (bo t n) c).length<=c.length+B.length
 |[],c=>by simp|b::B,c=>by rw[LB];have a:=jK t n B (bo t n c b);have d:=ux t n c b;rw[JY];omega
theorem mF(B:List Int):∀(a c:aa),(a.foldl (dM B) c).length<=c.length+a.length*B.length
 |[],c=>by simp|p::a,c=>by rw[LB];have b:=mF B a (dM B c p);have d:(dM B c p).length<=c.length+B.length:=jK p.1 p.2 B c;rw[JY,Nat.succ_mul];omega
theorem mS(a:List aa)(B:List Int):∀i,(wl a B i).length=a.length+1
 |0=>by simp[wl]|i+1=>by rw[wl,KI];exact mS a B i
theorem uP(c:aa)(us:List V)(h:us=c.map λp=>V.int p.2):(c.map λp=>(Sum.inl p.1:ag)).zip us=bT c:=by
 subst h;unfold bT
 induction c with
 |nil=>rfl|cons p c a=>rw[JR,JR,Kp,a,JR]
theorem o7{K:W.Frag}(c:aa):aG K b n (c.map λp=>PV.int p.2) H us↔us=c.map λp=>V.int p.2:=by
 have a:(c.map λp=>PV.int p.2)=(c.map (·.2)).map PV.int:=by rw[J4];rfl
 have d:(c.map λp=>V.int p.2)=(c.map (·.2)).map V.int:=by rw[J4];rfl
 rw[a,d];exact aG.ints
theorem D1{K:W.Frag}(h:Rp K b n (jq c) H u):∃p,u=.ref p/\H p=some (.dK (bT c)):=by unfold jq Rp at h;obtain⟨p,us,rfl,_,a,d,r⟩:=h;rw[uP c us ((o7 c).mp r)]at a;exact⟨p,rfl,a⟩
theorem vH{K:W.Frag}(b:a p=none)(h:H p=some (.dK (bT c))):Rp K a true (jq c) H (.ref p):=by unfold jq Rp;refine⟨p,c.map λp=>V.int p.2,rfl,λ_=>b,by rw[uP c _ rfl];exact h,by simp,(o7 c).mpr rfl⟩
noncomputable def qg(b:Hp)(A:Addr)(a:List Addr)(e:List aa)(H:Hp):Prop :=
 aB b H/\b A=none/\H A=some (.lst (a.map V.ref))/\A∉a/\a.Nodup/\a.length=e.length/\∀(q:Nat)(d:Addr)(c:aa),a[q]? =some d->e[q]? =some c->b d=none/\H d=some (.dK (bT c))
theorem qg.ext(h:qg f A b g H)(s:aB H e):qg f A b g e :=by obtain⟨j,k,i,n,l,m,a⟩:=h;exact⟨j.trans s,k,s _ _ i,n,l,m,λq d c e1 e2=>⟨(a q d c e1 e2).1,s _ _ (a q d c e1 e2).2⟩⟩
theorem qg.put(h:qg k A g f H)(a:g[q]? =some d):qg k A g (f.set q c') (L2.upd H d (.dK (bT c'))):=by
 obtain⟨v,r,u,n,m,y,p⟩:=h;have C:q<g.length:=(JK.mp a).1;have x:f[q]? =some (f[q]'(by omega)):=by simp[show q<f.length by omega]
 obtain⟨l,B⟩:=p q d _ a x;have w:A≠d:=λz=>n (z▸Jd a);refine⟨λb o e=>by rw[aA (aI e l)];exact v b o e,r,by rw[aA w];exact u,n,m,by rw[KI];exact y,λq' d' c e1 e2=> ?_⟩;rw[LG]at e2
 by_cases e:q=q'
 ·subst e
  rw[a]at e1;cases e1;rw[JI rfl,JI (by omega)]at e2;cases e2;exact⟨l,aF⟩
 ·rw[JE e]at e2
  obtain⟨s,t⟩:=p q' d' c e1 e2;refine⟨s,?_⟩;rw[aA λz=>e ?_]
  ·exact t
  ·subst z
   have:=(List.getElem?_inj (i:=q') (j:=q) (JK.mp e1).1 m).mp (by rw[e1,a]);exact this.symm
theorem qg.at{q:Nat}(h:qg b A a e H)(g:a[q]? =some d)(f:e[q]? =some c):b d=none/\H d=some (.dK (bT c)):=h.2.2.2.2.2.2 q d c g f
theorem qg.push(h:qg t A a g H)(j:H p=none):qg t A (a++[p]) (g++[c]) (L2.upd (L2.upd H p (.dK (bT c))) A (.lst (a.map V.ref++[.ref p]))):=by
 obtain⟨n,s,v,u,C,F,x⟩:=h;have w:A≠p:=λz=>by rw[z,j]at v;cases v
 have f:p∉a:=λz=>by obtain⟨q,l,e⟩:=List.mem_iff_getElem.mp z;obtain⟨_,i⟩:=x q p (g[q]'(by omega)) (by rw[JN l,e]) (by simp[show q<g.length by omega]);rw[j]at i;cases i
 refine⟨λb o e=> ?_,s,?_,?_,?_,by simp[F],λq d c' e1 e2=> ?_⟩
 ·rw[aA (aI e s),aA (aI e (n.free j))]
  exact n b o e
 ·rw[aF,Jo]
  rfl
 ·intro z
  rcases Jn.mp z with z|z
  ·exact u z
  ·exact w (by simpa using z)
 ·rw[Kv]
  exact⟨C,by simp,λa ha b hb e=>by
   have:b=p:=by simpa using hb
   rw[this]at e;exact f (e▸ha)⟩
 ·by_cases l:q<a.length
  ·rw[KM l]at e1
   rw[KM (by omega)]at e2;obtain⟨D,i⟩:=x q d c' e1 e2;have y:d≠A:=λz=>u (z▸Jd e1);have B:d≠p:=λz=>f (z▸Jd e1);exact⟨D,by rw[aA y,aA B];exact i⟩
  ·rw[KR (by omega)]at e1
   rw[KR (by omega)]at e2;have E:q-a.length=0:=by
    cases e:q-a.length with
    |zero=>rfl|succ m=>rw[e]at e1;simp at e1
   rw[E]at e1;rw[show q-g.length=0 by omega]at e2;have k :p=d:=by simpa using e1
   have r :c=c' :=by simpa using e2
   subst k r;exact⟨n.free j,by rw[aA (L1 w),aF]⟩
theorem vG(d:H p=none)(f:p≠a):aB (L2.upd H a u) (L2.upd (L2.upd H p o) a u):=λb x e=>by
 by_cases c:b=a
 ·subst c
  rw[aF]at e ⊢;exact e
 ·rw[aA c]at e ⊢
  rw[aA (aI e d)];exact e
theorem tO{K:W.Frag}(h:bJ K (L2.upd H a (.dK c)) b f):bJ K H b f:=by
 have d:∀u,L2.upd H a (.dK c) b=some u->(∀k,u≠.dK k)->H b=some u:=λu e n=>by
  by_cases g:b=a
  ·subst g
   rw[aF]at e;exact absurd (Jb e).symm (n _)
  ·rw[aA g]at e
   exact e
 rcases h with(h|⟨o,h⟩)|h
 ·exact .inl (.inl (d _ h λk z=>by cases z))
 ·exact .inl (.inr ⟨o,d _ h λk z=>by cases z⟩)
 ·exact .inr h
theorem CP{j:Nat}(h:(bT c)[j]? =some (k,x)):∃t n,c[j]? =some (t,n)/\k=.inl t/\x=.int n:=by
 unfold bT at h;rw[JP]at h;cases e:c[j]? with
 |none=>rw[e]at h;cases h|some p =>rw[e]at h;have:=Jb h;cases this;exact⟨p.1,p.2,rfl,rfl,rfl⟩
theorem qG(c:aa):(bT c).length=c.length:=by unfold bT;rw[JC]
theorem C1(a:List aa)(B:List Int):∀(i j:Nat),i<j->(wl a B i)[j]? =(a++[[]])[j]?
 |0,j,h=>rfl|i+1,j,h=>by rw[wl,Jj (by omega)];exact C1 a B i j (by omega)
theorem wk(h:a≠b):L2.upd (L2.upd H a x) b y=L2.upd (L2.upd H b y) a x:=by
 funext c
 unfold L2.upd
 by_cases d:c=a
 ·subst d
  rw[JE h,JI rfl,JI rfl]
 ·by_cases e:c=b
  ·subst e
   rw[JI rfl,JE d,JI rfl]
  ·rw[JE e,JE d,JE d,JE e]
theorem o6{K:W.Frag}{e:Hp}{H:Hp}:∀{b:List aa}{a:List Addr},a.length=b.length->(∀(q:Nat)(d:Addr)(c:aa),a[q]? =some d->b[q]? =some c->e d=none/\H d=some (.dK (bT c)))->aG K e true (b.map jq) H (a.map V.ref)
 |[],[],_,_=>.nil|c::b,d::a,hl,h=>by obtain⟨f,g⟩:=h 0 d c rfl rfl;exact .cons (vH f g) (o6 (by simpa using hl) λq d' c' e1 e2=>h (q+1) d' c' (by simpa using e1) (by simpa using e2))
 |[],_::_,hl,_=>by cases hl|_::_,[],hl,_=>by cases hl
section
variable{X:Cx}{Hi:Hp}{τ:En}{cd:Nat->List PV->Option PV}{ct:Ct}{O:List Addr}{σ:L2.St}{H H' :Hp}{D:dz}
noncomputable def Gr(O:List Addr)(A:Addr)(g:List (List Str))(H:Hp):Prop:=∃a:List Addr,A∈O/\H A=some (.lst (a.map V.ref))/\A∉a/\a.Nodup/\a.length=g.length/\∀(q:Nat)(d:Addr)(r:List Str),a[q]? =some d->g[q]? =some r->d∈O/\H d=some (.lst (r.map V.str))
theorem Gr.ext(h:Gr O A g H)(s:aB H H'):Gr O A g H' :=by obtain⟨c,e,f,b,j,i,a⟩:=h;exact⟨c,e,s _ _ f,b,j,i,λq d r e1 e2=>⟨(a q d r e1 e2).1,s _ _ (a q d r e1 e2).2⟩⟩
theorem aT.hides{K:W.Frag}(R:aT K Hi O τ σ H)(s:aB H H')(h:∀d∈L,H d=none/\∃us,H' d=some (.lst us)):aT K Hi (L++O) τ σ H' /\aB (aK H O) (aK H' (L++O)):=by
 have j:aB (aK H O) (aK H' (L++O)):=λb o e=>by
  unfold aK at e ⊢
  split at e;cases e
  ·rename_i y
   rw[JE λz=> ?_]
   ·exact s b o e
   ·rcases Jn.mp z with z|z
    ·rw[(h b z).1]at e
     cases e
    ·exact y z
 refine⟨⟨R.same.trans s,λl a=> ?_,λi v n e=> ?_,λi t b xs n e ht=> ?_,R.dst⟩,j⟩
 ·rcases Jn.mp a with a|a
  ·obtain⟨w,us,x⟩:=h l a
   exact⟨R.same.free w,_,x,.lst⟩
  ·obtain⟨q,c,e,m⟩:=R.own l a
   exact⟨q,c,s _ _ e,m⟩
 ·obtain⟨u,g,f⟩:=R.frz i v n e
  exact⟨u,g,f.mono j⟩
 ·obtain⟨l,c,o,g,f,k,p,r⟩:=R.obs i t b xs n e ht
  exact⟨l,c,o,g,Jy _ f,s _ _ k,p,r.mono j⟩
theorem uG(c:d∈O):aK (L2.upd H d o) O=aK H O:=by
 funext b
 unfold aK
 split;rfl
 ·rename_i a
  exact aA λz=>a (z▸c)
theorem aT.within{K:W.Frag}{d:Addr}{us:List V}(R:aT K Hi O τ σ H)(f:∀(i:Nat) (t:TV),τ[i]? =some t->t.ob=none)(a:d∈O):aT K Hi O τ σ (L2.upd H d (.lst us)) where
 same:=R.same.upd (R.own d a).1
 own:=λl hl=>by
  obtain⟨q,o,e,c⟩:=R.own l hl
  by_cases z:l=d;exact⟨q,_,by rw[z,aF],.lst⟩
  ·exact⟨q,o,by rw[aA z];exact e,c⟩
 frz:=λi v n e=>by rw[uG a];exact R.frz i v n e
 obs:=λi t b xs n e ht=>by rw[f i t e]at ht;cases ht
 dst:=R.dst
theorem kq(C:bL cd X ct)(hfn:X.fn=λ_=>true)(hx:loc ct x=some i)(ti:ur n ct false it=it')(hi:nT cd it' τ=some (xs,k,false))
  (R:aT X.K Hi O τ σ H) (hl:σ.length=X.N.length) (W:Nat->En->L2.St->Hp->Prop) (wm:∀j υ σ' G G',aB G G' ->W j υ σ' G->W j υ σ' G') (w0:W 0 τ σ H)
  (step:∀(j:Nat)(y:PV)(υ:En)(σ' :L2.St)(G:Hp)(u:V)(D' :dz),xs[j]? =some y->aT X.K Hi O (υ.set i (.frz y (k||imm y))) (σ'.set i (some u)) G->(σ'.set i (some u)).length=X.N.length->W j υ σ' G -> (∀(υ2:En)(σ2:L2.St)(G2:Hp),aT X.K Hi O υ2 σ2 G2->σ2.length=X.N.length->aB (aK G O) (aK G2 O)->W (j+1) υ2 σ2 G2->D'.nx σ2 G2)->Cy X body D' (σ'.set i (some u)) G)
  (fin:∀(υ:En)(σ' :L2.St)(G:Hp),aT X.K Hi O υ σ' G->σ'.length=X.N.length->aB (aK H O) (aK G O)->W xs.length υ σ' G->D.nx σ' G):WS X (.For (.Name x xp) it body [] pos) D σ H:=by
 obtain⟨h1,h2,h3,h4⟩:=cP C hx;rw[<- ti]at hi;obtain⟨jX,hset⟩:=(bN n).t X ct Hi τ false it (.Name x xp) xs k false C (λz=>by cases z) hi;refine ws (kL C.xe C.calm rP (bW (by rw[C.N];exact C.nd) h1 h2 (.inl (by rw[hfn]))) cQ (eQ hset)) ?_;refine jX O σ H _ R λJ H1 sJ En=> ?_;rw[JE JS]at En;refine⟨λj m σ' G=>m=xs.length-j/\j<=xs.length/\∃υ:IR.En,aT X.K Hi O υ σ' G/\σ'.length=X.N.length/\aB (aK H1 O) (aK G O)/\W j υ σ' G,⟨xs.length,by simp,J0 _,_,R.ext sJ,hl,aB.refl _,wm _ _ _ _ _ sJ w0⟩,?_⟩;rintro j m σ' G ⟨rfl,hj,υ,RP,hlP,sP,w⟩;have DH:AX (aK H1 O) G O:=⟨RP.lsts,sP⟩;have s01:aB (aK H O) (aK H1 O):=aD sJ
 by_cases hlt:j<xs.length
 ·refine .inr ⟨En.go G O j DH hlt,λσ2 G2=>∃m',m' <xs.length-j/\(m' =xs.length-(j+1)/\j+1<=xs.length/\∃υ:IR.En,aT X.K Hi O υ σ2 G2/\σ2.length=X.N.length/\aB (aK H1 O) (aK G2 O)/\W (j+1) υ σ2 G2),λσ2 G2 h=>h,λu G' y=> ?_⟩
  obtain⟨sG,z,hz,rz⟩:=En.yld G O j u G' DH hlt y;have s3:aB (aK H1 O) (aK G' O):=sP.trans (aD sG);have hi' :i<σ'.length:=by rw[hlP];exact(JK.mp h1).1
  exact step j z υ σ' G' u _ hz ((RP.ext sG).setF hi' rz.up) (by rw[KI];exact hlP) (wm _ _ _ _ _ sG w) λυ2 σ2 G2 R2 hl2 s2 w2=>⟨_,by omega,rfl,hlt,υ2,R2,hl2,s3.trans s2,w2⟩
 ·have e:j=xs.length:=by omega
  subst e;exact .inl ⟨En.stop G O DH,fin υ σ' G RP hlP (s01.trans sP) w⟩
theorem Bb(C:bL cd X ct)(a:X.fn=λ_=>true)(d:oh n ct b=s')(h:fe cd fu s' τ=some (.nx τ'))(R:aT X.K Hi O τ σ H)(c:σ.length=X.N.length)(q:oA X Hi O H τ' D.nx):WS X b D σ H:=by subst d;exact(Cq n).s X ct Hi τ b _ C a h O σ H D R c q
theorem rt_w(C:bL cd X ct)(a:X.fn=λ_=>true)(e:oh n ct c=s')(h:fe cd fu s' τ=some (.rt v))(R:aT X.K Hi O τ σ H)(d:σ.length=X.N.length)(q:∀u b,aB Hi b ->Rp X.K Hi true v b u->D.rt u b):WS X c D σ H:=by subst e;exact(Cq n).s X ct Hi τ c _ C a h O σ H D R d q
theorem if_w(C:bL cd X ct)(g:lQ n ct c=c')(d:fk cd c' τ=some t)(R:aT X.K Hi O τ σ H)(f:t=true->∀G,aB H G->Cy X a D σ G)(e:t=false->∀G,aB H G->Cy X b D σ G):WS X (.If c a b pos) D σ H:=by
 refine ws (xi kK cQ cQ) ?_;rw[<- g]at d;refine(bN n).c X ct Hi τ c t C d O σ H _ R λG s=> ?_;cases t with
 |true=>exact rh (f rfl G s)|false=>exact rj (e rfl G s)
theorem aG.strs2{K:W.Frag}{n:Bool}{H:Hp}:∀{a:List Str},aG K Hi n (a.map PV.str) H (a.map V.str)
 |[]=>.nil|x::a=>.cons (Rp.str.mpr rfl) aG.strs2
theorem gw{e:Type}{l:List e}{i j:Nat}{x:e}(h:l.Nodup)(f:l[i]? =some x)(g:l[j]? =some x):i=j:=by obtain⟨a,b⟩:=JK.mp f;obtain⟨c,d⟩:=JK.mp g;exact(List.getElem_inj h).mp (b.trans d.symm)
theorem aG.strs'{K:W.Frag}{n:Bool}{H:Hp}:∀{c:List Str}{us:List V},aG K Hi n (c.map PV.str) H us->us=c.map V.str
 |[],us,h=>by unfold aG at h;exact h|x::c,us,h=>by rw[JR,aG]at h;obtain⟨u,r,rfl,a,b⟩:=h;rw[Rp.str.mp a,aG.strs' b];rfl
theorem uk(C:bL cd X ct){n:Nat}{x:Str}{i:Nat}{e ka kb:Expr}{e' ka' kb' :IE}{xp sp sp1 pos:Pos}{ra rb:RV}{z:Str}{m:Bool}{a b:Nat}{A:Addr}{g:List (List Str)}{r:List Str}(hx:loc ct x=some i)(ha1:bh ka=false)(hb1:bh kb=false)(hnc:isComp e=false)
  (te:aY n ct e=e') (ta:aY n ct ka=ka') (tb:aY n ct kb=kb') (hr:aP cd e' τ=some (.frz (.str z) m)) (hra:aP cd ka' τ=some ra) (hva:ra.val=.int a) (hrb:aP cd kb' τ=some rb) (hvb:rb.val=.int b)
  (R:aT X.K Hi O τ σ H) (no:∀(i:Nat)(t:TV),τ[i]? =some t->t.ob=none) (hA:σ[i]? =some (some (.ref A))) (hg:Gr O A g H) (hr0:g[a]? =some r) (hb0:b<r.length)
  (q:∀H',aT X.K Hi O τ σ H' ->aB (aK H O) (aK H' O)->Gr O A (g.set a (r.set b z)) H' ->D.nx σ H'):WS X (.Assign [.Subscript (.Subscript (.Name x xp) ka sp1) kb sp] e pos) D σ H:=by
 obtain⟨h1,h2,h3,h4⟩:=cP C hx;obtain⟨o1,o2,o3⟩:=bQ h3;rw[<- te]at hr;rw[<- ta]at hra;rw[<- tb]at hrb
 have ha:∀v,assign (.Subscript (.Subscript (.Name x xp) ka sp1) kb sp) X.env v=(do
   let ov<-holding [v] (eval (.Subscript (.Name x xp) ka sp1) X.env)
   let iv<-holding [v,ov] (eval kb X.env)
   standAt sp
   holding [v,ov,iv] (setItem ov iv v)
   release [v,ov,iv] []):=by
  intro v;cases kb<;>first|rfl|cases hb1
 refine ws (xk aS (xz (yE hE (eP h1 (fA C.S h4) o1 o2) aS (tZ ha1)) aS kC ha) (by cases e<;>first|rfl|cases hnc) (by cases e<;>rfl) rfl) ?_;refine(bN n).e X ct Hi _ e _ C hr O σ H _ R fun u H1 s1 ok=> ?_;have ok:Rp X.K Hi m (.str z) (aK H1 O) u:=ok;have eu:u=.str z:=Rp.str.mp ok;subst eu;refine⟨_,hA,?_⟩;refine(bN n).e X ct Hi _ ka _ C hra O σ H1 _ (R.ext s1) fun w H2 s2 ok2=> ?_;obtain⟨ds,d1,d2,d3,d4,d5,d6⟩:=hg.ext (s1.trans s2);have hal:a<ds.length:=by rw[d5];exact(JK.mp hr0).1
 have had:ds[a]? =some ds[a]:=JN hal;obtain⟨d,hd⟩:∃d,d=ds[a]:=⟨_,rfl⟩;rw[<- hd]at had;obtain⟨e1,e2⟩:=d6 a d r had hr0;refine⟨A,_,(a:Nat),.ref d,rfl,ok2.int (R.ext s1) s2 hva,bJ.of d2,cH (by rw[JP,had];rfl),?_⟩;refine(bN n).e X ct Hi _ kb _ C hrb O σ H2 _ (R.ext (s1.trans s2)) fun w3 H3 s3 ok3=> ?_;have e3:=s3 _ _ e2;refine⟨d,_,(b:Nat),b,rfl,ok3.int (R.ext (s1.trans s2)) s3 hvb,e3,?_,?_⟩
 ·unfold lN
  rw[JI (Int.natCast_nonneg b),JI (by rw[JC];omega)];rfl
 have R3:=R.ext (s1.trans (s2.trans s3));refine q _ (R3.within no e1) (by rw[uG e1];exact aD (s1.trans (s2.trans s3))) ?_;have dA:A≠d:=fun z=>d3 (z▸Jd had);refine⟨ds,d1,by rw[aA dA];exact s3 _ _ d2,d3,d4,by rw[KI];exact d5,fun p c y g1 g2=> ?_⟩;rw[LG]at g2
 by_cases hp:a=p
 ·subst hp
  rw[had]at g1;cases g1;rw[JI rfl,JI (by rw[<- d5];exact hal)]at g2;cases g2;exact⟨e1,by rw[aF,List.map_set]⟩
 ·rw[JE hp]at g2
  obtain⟨f1,f2⟩:=d6 p c y g1 g2;have ne:c≠d:=fun w=>hp (gw d4 had (by rw[w]at g1;exact g1));exact⟨f1,by rw[aA ne];exact s3 _ _ f2⟩
theorem CA(C:bL cd X ct)(I:X.fn=λ_=>true)(Q:loc ct x=some i)
  (h:re ct t scope=true) (hc:slots ct.N (frees scope)=some caps) (ti:ur n ct false a=iter') (te:aY n (blk ct t scope) s=elt') (hi:nT cd iter' τ=some (xs,k,false)) (hz:xs.length<=LN)
  (he:∀y∈xs,aP cd elt' (.frz y (k||imm y)::caps.map λi=>τ.getD i .un)=some (.own (row.map .str) true))
  (R:aT X.K Hi O τ σ H) (hl:σ.length=X.N.length)
  (q:∀(A:Addr)(O' :List Addr)(T :Hp),aT X.K Hi O' (τ.set i .un) (σ.set i (some (.ref A))) T ->aB (aK H O) (aK T O')->Gr O' A (List.replicate xs.length row) T ->D.nx (σ.set i (some (.ref A))) T) :
  WS X (.Assign [.Name x xp] (.ListComp s [⟨.Name t W,a,[],0⟩] scope lp) pos) D σ H:=by
 obtain⟨h1,h2,h3,h4,h5,h6,h7⟩:=g0 h;obtain⟨x1,x2,x3,x4⟩:=cP C Q;rw[<- ti]at hi;subst te;obtain⟨jX,w⟩:=(bN n).t X ct Hi τ false a (.Name t W) xs k false C (λz=>by cases z) hi;have a0:∀x∈frees scope,(x,NameKind.free)∈scope.names:=λx Q=>Jx (h7 x Q);have B:bY X scope (t::frees scope) (none::caps.map some):=gc C hc λx Q=>⟨h7 x Q,h4 _ (a0 x Q) rfl⟩;have M:eG X.env.scope scope=true:=by
  unfold eG;rw[Jh];intro y hy;rw[C.S]
  by_cases e:y.2=.free
  ·rcases h4 y hy e with z|z<;>simp[e,z]
  ·simp[e]
 have Z:=fT hc;have hN:X.N.Nodup:=by rw[C.N];exact C.nd
 have v:C9 X (t::frees scope) (none::caps.map some) scope (.Name t W) [] s (λσ H R=>WI X (.Name t W) a σ H R) σ H (λu T =>D.nx (σ.set i (some u)) T):=by
  refine jX O σ H _ R λJ H1 s1 En=> ?_;intro A Y;rw[JE JS]at En;have ok:∀(G:Hp)(U:List V),aB H1 G->G A=some (.lst U)->AX (aK H1 O) G (A::O):=by
   intro G U F gD;refine⟨λl hl=> ?_,λc o e=> ?_⟩
   ·rcases JU.mp hl with rfl|hl
    ·exact⟨_,gD,.lst⟩
    ·obtain⟨us,e,mo⟩:=(R.own l hl).2
     exact⟨us,F _ _ (s1 _ _ e),mo⟩
   ·unfold aK at e ⊢
    split at e;cases e
    ·rename_i nb
     have ne:c≠A:=aI e Y;rw[JE (by simp[ne,nb])];exact F c o e
  refine⟨λj m U G=>m=xs.length-j/\j<=xs.length/\aB H1 G/\∃E:List Addr,U=E.map V.ref/\G A=some (.lst U)/\A∉E/\E.Nodup/\E.length=j/\∀d∈E,H1 d=none/\G d=some (.lst (row.map V.str)),⟨xs.length,by simp,J0 _,aJ Y _,[],rfl,aF,by simp,by simp,rfl,by simp⟩,?_⟩
  rintro j m U G ⟨rfl,hj,F,E,rfl,P,dA,dn,dl,dd⟩
  by_cases J:j<xs.length
  ·refine .inr ⟨En.go G (A::O) j (ok G _ F P) J,λu G' y=> ?_⟩
   obtain⟨g,y,hy,ry⟩:=En.yld G (A::O) j u G' (ok G _ F P) J y;intro Cf s2 H2 fp cl;have C' :=C.blk h Cf s2 H2 fp cl;have L :=g _ _ P
   have RB:aT X.K Hi (A::O) (.frz y (k||imm y)::caps.map λi=>τ.getD i .un) (some u::bX (caps.map some) σ) G' :=
    (R.hide (s1.trans (F.trans g)) (s1.free Y) L).block (eW hc (J9.mp h5).2) ry.up
   refine⟨mE 0,wy,_,bW h5 rfl (jm h6) (mX h6),gq,aS,?_⟩;refine⟨lG (by simp[Z]),?_⟩;refine(bN n).e _ _ Hi _ s _ C' (he y (Jd hy)) (A::O) _ G' _ RB λw G5 s5 r5=> ?_;obtain⟨p,us,rfl,p0,p1,pr⟩:=r5;have eu:us=row.map V.str:=aG.strs' pr;subst eu;have pA:p≠A:=λz=>by rw[z,L]at p0;cases p0
   have pd:p∉E:=λz=>by rw[g _ _ (dd p z).2]at p0;cases p0
   have a1:=s5 _ _ L;have sT:=F.trans (g.trans s5);have a3 :xs.length<=16777216:=hz;refine⟨a1,by rw[cJ,JC];omega,xs.length-(j+1),by omega,rfl,J,sT.upd Y,E++[p],by rw[Jo];rfl,aF,?_,?_,by rw[JM,dl];rfl,λd f=> ?_⟩
   ·rw[Jn,Jr]
    exact λz=>z.elim dA (L1 pA)
   ·exact Kv.mpr ⟨dn,by simp,λa ha b hb z=>pd (by rw[Jr]at hb;rw[<- hb,<-z];exact ha)⟩
   ·rcases Jn.mp f with f|f
    ·obtain⟨f1,f2⟩:=dd d f
     exact⟨f1,by rw[aA (show d≠A from λz=>dA (by rw[<- z];exact f))];exact s5 _ _ (g _ _ f2)⟩
    ·rw[Jr]at f
     subst f;exact⟨(F.trans g).free p0,by rw[aA pA];exact p1⟩
  ·have e:j=xs.length:=by omega
   subst e;refine .inl ⟨En.stop G (A::O) (ok G _ F P),?_⟩;have f:∀d∈A::E,H d=none/\∃us,G d=some (.lst us):=λd f=>by
    rcases JU.mp f with rfl|f
    ·exact⟨s1.free Y,_,P⟩
    ·exact⟨s1.free (dd d f).1,_,(dd d f).2⟩
   obtain⟨R',sh⟩:=R.hides (s1.trans F) f;refine q A _ G R'.setN sh ⟨E,JL,P,dA,dn,by rw[KA];exact dl,λp d r e1 e2=> ?_⟩;have hm:=Jd e1;rw[L5]at e2
   split at e2
   ·cases e2
    exact⟨Kf _ (JF _ hm),(dd d hm).2⟩
   ·cases e2
 by_cases a2:X.env.kindOf x=some .local
 ·obtain⟨b,hb⟩:∃b,swapsWith (.ListComp s [⟨.Name t W,a,[],0⟩] scope lp) (some (.Name x xp)) pos.line X.env=pure b:=⟨_,rfl⟩
  cases b with
  |true=>exact ws (pE C.calm rP B h1 h2 h3 M (eQ w) hN x1 x2 (.inl (by rw[I])) hb) v|false=>exact ws (jA hN x1 x2 (tf C.calm rP B h1 h2 h3 M (eQ w)) hb (.inl (by rw[I]))) v
 ·exact ws (jA hN x1 x2 (tf C.calm rP B h1 h2 h3 M (eQ w)) (yR (.inr a2)) (.inl (by rw[I]))) v
theorem aT.shown{K:W.Frag}{i:Nat}{A:Addr}{g:List (List Str)}(R:aT K Hi O τ σ H)(F:∀(i:Nat) (t:TV),τ[i]? =some t->t.ob=none)(o:σ[i]? =some (some (.ref A)))(I:Gr O A g H) :
  aT K Hi [] (τ.set i (.frz (.lst (g.map λr=>.lst (r.map .str))) true)) σ H/\aB (aK H O) (aK H []):=by
 have x:aB (aK H O) (aK H []):=nL λb hb=>by cases hb
 have N:aT K Hi [] τ σ H:=⟨R.same,λl f=>(by cases f),λj v n e=>(by obtain⟨u,M,B⟩:=R.frz j v n e;exact⟨u,M,B.mono x⟩),λj t b xs n e ht=>(by rw[F j t e]at ht;cases ht),R.dst⟩;obtain⟨p,C,w,P,Q,J,E⟩:=I;have m:∀(g:List (List Str))(a:List Addr),a.length=g.length->(∀(q:Nat)(d:Addr)(r:List Str),a[q]? =some d->g[q]? =some r->Hi d=none/\del H A d=some (.lst (r.map V.str)))->aG K Hi true (g.map λr=>.lst (r.map .str)) (del H A) (a.map V.ref):=by
  intro g
  induction g with
  |nil =>
   intro a f _;cases a with
   |nil=>exact .nil|cons _ _=>cases f
  |cons r g L =>
   intro a f h;cases a with
   |nil=>cases f|cons d a =>obtain⟨l,k⟩:=h 0 d r rfl rfl;refine .cons (Rp.lst.mpr ⟨d,_,rfl,λ_=>⟨l,k⟩,bJ.of k,?_⟩) (L a (Nat.succ.inj f) λq c y e1 e2=>h (q+1) c y e1 e2);exact aG.strs2
 have G:∀(q:Nat)(d:Addr)(r:List Str),p[q]? =some d->g[q]? =some r->Hi d=none/\del H A d=some (.lst (r.map V.str)):=λq d r e1 e2=>by obtain⟨l,k⟩:=E q d r e1 e2;refine⟨(R.own d l).1,?_⟩;unfold del;rw[JE (show d≠A from λz=>P (by rw[<- z];exact Jd e1))];exact k
 have s:i<σ.length:=(JK.mp o).1
 have:=N.setF (i:=i) (v:=.lst (g.map λr=>.lst (r.map .str))) (n:=true) (u:=.ref A) s (by rw[uI];exact Rp.lst.mpr ⟨A,_,rfl,λ_=>⟨(R.own A C).1,w⟩,bJ.of w,m g p J G⟩)
 have e:σ.set i (some (.ref A))=σ:=by
  refine LI λj=> ?_;rw[LG]
  split
  ·rename_i z
   subst z
   first|rw[JI s,o]|rw[o]
  ·rfl
 rw[e]at this;exact⟨this,x⟩
end
end IR
namespace IR
open PySem
theorem AC(a b:Nat):Builtin.bitAnd (a:Int) (b:Int)=((a &&& b:Nat):Int):=by
 unfold Builtin.bitAnd;have c:decide ((0:Int)<=(a:Int))=true:=by simp
 have d:decide ((0:Int)<=(b:Int))=true:=by simp
 rw[c,d];simp
theorem qU(a:Nat):Builtin.bitNot (a:Int)= -(a:Int)-1:=by unfold Builtin.bitNot;omega
theorem uY(a b:Nat):Builtin.bitOr (a:Int) (b:Int)=((a ||| b:Nat):Int):=by
 unfold Builtin.bitOr Builtin.bitAnd;rw[qU,qU];have d:decide ((0:Int)<= -(a:Int)-1)=false:=by simp;omega
 have e:decide ((0:Int)<= -(b:Int)-1)=false:=by simp;omega
 rw[d,e];dsimp only;have c:(Builtin.bitNot (-(a:Int)-1)).toNat=a:=by unfold Builtin.bitNot;omega
 have f:(Builtin.bitNot (-(b:Int)-1)).toNat=b:=by unfold Builtin.bitNot;omega
 rw[c,f];unfold Builtin.bitNot;omega
theorem fE:∀(n:Nat)(l:List Nat),l.Nodup->(∀x∈l,x<n)->l.length<=n
 |0,l,_,h=>by
  cases l with
  |nil=>simp|cons x l=>exact absurd (h x JL) (by omega)
 |n+1,l,nd,h=>by
  by_cases a:n∈l
  ·have b:=fE n (l.erase n) (nd.erase n) λx hx=>by
    have:=(nd.mem_erase_iff).mp hx;have:=h x this.2;omega
   rw[List.length_erase_of_mem a]at b;omega
  ·have:=fE n l nd λx hx=>by
    have c:=h x hx;have:x≠n:=λz=>a (z▸hx);omega
   omega
noncomputable def bD(c:aa):Prop:=(c.map (·.1)).Nodup/\∀p∈c,(∃n:Nat,p.1=(n:Int)/\n<256)/\0<p.2
theorem bD.len(h:bD c):c.length<=256:=by
 have j:((c.map (·.1)).map Int.toNat).Nodup:=by rw[List.nodup_iff_pairwise_ne,Li];refine(List.nodup_iff_pairwise_ne.mp h.1).imp_of_mem λ{a b} ha hb hne e=>hne ?_;obtain⟨p,d,rfl⟩:=JX.mp ha;obtain⟨q,g,rfl⟩:=JX.mp hb;obtain⟨⟨m,f,_⟩,_⟩:=h.2 p d;obtain⟨⟨n,k,_⟩,_⟩:=h.2 q g;rw[f,k]at e ⊢;omega
 have:=fE 256 _ j λx hx=>by obtain⟨y,i,rfl⟩:=JX.mp hx;obtain⟨p,d,rfl⟩:=JX.mp i;obtain⟨⟨m,f,l⟩,_⟩:=h.2 p d;rw[f];omega
 simpa using this
noncomputable def dC(a:Int->Int):aa->Int
 |[]=>0|p::c=>p.2*a p.1+dC a c
theorem tF(a:Int->Int):∀c d:aa,dC a (c++d)=dC a c+dC a d
 |[],d=>by simp[dC]|p::c,d=>by rw[List.cons_append,dC,dC,tF a c d];omega
theorem ue{c:aa}:(c.any λp=>decide (p.1=k))=true↔k∈c.map (·.1):=by
 rw[Lu,JX]
 constructor
 ·rintro⟨p,a,e⟩
  exact⟨p,a,Lh e⟩
 ·rintro⟨p,a,e⟩
  exact⟨p,a,K2 e⟩
theorem A7{c:aa}(h:k∉c.map (·.1)):c.map (λp=>if p.1=k then(p.1,v)else p)=c:=by
 induction c with
 |nil=>rfl|cons p c a =>rw[JR]at h ⊢;have b:¬p.1=k:=λz=>h (by rw[z];exact JL);rw[JE b,a λz=>h (JF _ z)]
theorem uL(h:k∈c.map (·.1)):∃v,hZ c k=some v/\(k,v)∈c:=by
 unfold hZ
 induction c with
 |nil=>cases h|cons p c b =>
  rw[Kd]
  by_cases e:p.1=k
  ·refine⟨p.2,by simp[e],?_⟩
   subst e;exact JL
  ·have d :k∈c.map (·.1):=by
    rw[JR]at h
    rcases JU.mp h with z|z
    ·exact absurd z.symm e
    ·exact z
   obtain⟨v,a,f⟩:=b d;refine⟨v,?_,JF _ f⟩;simp only[e,decide_false];exact a
theorem pz(h:k∉c.map (·.1)):hZ c k=none:=by
 unfold hZ;rw[List.find?_eq_none.mpr];rfl
 ·intro p a e
  exact h (JX.mpr ⟨p,a,Lh e⟩)
theorem oS(b:Int->Int){k v w:Int}:∀{c:aa},(c.map (·.1)).Nodup->hZ c k=some v->dC b (c.map (λp=>if p.1=k then(p.1,w)else p))=dC b c+(w-v)*b k
 |[],_,h=>by cases h|p::c,nd,h=>by
  rw[JR]at nd ⊢;have a:=J9.mp nd
  by_cases e:p.1=k
  ·subst e
   rw[JI rfl,A7 a.1];have d:v=p.2:=by unfold hZ at h;rw[Kd]at h;simp at h;exact h.symm
   subst d;rw[dC,dC,Int.sub_mul];dsimp only;omega
  ·have f :hZ c k=some v:=by
    unfold hZ at h ⊢;rw[Kd]at h;simp only[e,decide_false]at h;exact h
   rw[JE e,dC,dC,oS b a.2 f];omega
theorem tW(h:k∈c.map (·.1)):i9 c k v=c.map (λp=>if p.1=k then(p.1,v)else p):=by unfold i9;rw[JI (ue.mpr h)]
theorem pD(h:k∉c.map (·.1)):i9 c k v=c++[(k,v)]:=by unfold i9;rw[JE λz=>h (ue.mp z)]
theorem Cw(a:Int->Int)(d:(c.map (·.1)).Nodup)(k n:Int):dC a (wA c k n)=dC a c+n*a k:=by
 unfold wA
 by_cases h:k∈c.map (·.1)
 ·obtain⟨v,b,_⟩:=uL h
  rw[tW h,b,oS a d b]
  congr 2
  simp;omega
 ·rw[pD h,pz h,tF]
  simp[dC]
theorem v9(h:bD c){m:Nat}(o:m<256){n:Int}(q:0<n):bD (wA c (m:Int) n):=by
 unfold wA
 by_cases d:((m:Int))∈c.map (·.1)
 ·obtain⟨v,j,a⟩:=uL d
  rw[tW d,j];have e:(c.map (λp=>if p.1=(m:Int)then(p.1,(some v).getD 0+n)else p)).map (·.1)=c.map (·.1):=by
   rw[J4];refine Jv λp _=> ?_;dsimp only[Function.comp]
   split<;>rfl
  refine⟨by rw[e];exact h.1,λp hp=> ?_⟩;obtain⟨k,f,rfl⟩:=JX.mp hp;obtain⟨i,l⟩:=h.2 k f
  split
  ·refine⟨i,?_⟩
   have:=(h.2 _ a).2;show 0<v+n;omega
  ·exact⟨i,l⟩
 ·rw[pD d,pz d]
  refine⟨?_,λp hp=> ?_⟩
  ·rw[Jo,Kv]
   refine⟨h.1,by simp,λa ha b g e=> ?_⟩;have g:b=(m:Int):=by simpa using g
   rw[g]at e;rw[e]at ha;exact d ha
  ·rcases Jn.mp hp with z|z
   ·exact h.2 p z
   ·have:p=((m:Int),none.getD 0+n):=by simpa using z
    rw[this];exact⟨⟨m,rfl,o⟩,by show 0<0+n;omega⟩
noncomputable def dj(B:List Int):Prop:=∀b∈B,∃n:Nat,b=((2^n:Nat):Int)/\n<8
theorem HV(c:a<256)(d:b<256):a ||| b<256:=Nat.or_lt_two_pow (n:=8) c d
theorem j8(h:bD c){t:Nat}(a:t<256){n:Int}(d:0<n){j:Nat}(b:j<8):bD (bo (t:Int) n c ((2^j:Nat):Int)):=by
 unfold bo
 split
 ·rw[uY]
  exact v9 h (HV a (Nat.pow_lt_pow_right (by decide) (show j<8 from b))) d
 ·exact h
theorem gO{t:Nat}(a:t<256){n:Int}(d:0<n):∀{B:List Int}{c:aa},dj B->bD c->bD (B.foldl (bo (t:Int) n) c)
 |[],c,_,h=>h|b::B,c,hB,h=>by obtain⟨j,rfl,e⟩:=hB b JL;exact gO (B:=B) a d (λb hb=>hB b (JF _ hb)) (j8 h a d e)
theorem oY{B:List Int}(a:dj B):∀{lev c:aa},bD lev->bD c->bD (AV B c lev)
 |[],c,_,h=>h|p::lev,c,hl,h=>by
  obtain⟨⟨t,f,e⟩,d⟩:=hl.2 p JL;have b:bD (dM B c p):=by unfold dM;rw[f];exact gO e d a h
  exact oY (lev:=lev) a ⟨(J9.mp (show(p.1::lev.map (·.1)).Nodup from hl.1)).2,λq hq=>hl.2 q (JF _ hq)⟩ b
theorem hV:bD []:=⟨by simp,λp hp=>by cases hp⟩
theorem tB{a:List aa}{B:List Int}(b:dj B)(h:∀c∈a,bD c):∀i,∀c∈wl a B i,bD c
 |0,c,hc=>by
  rcases Jn.mp hc with z|z
  ·exact h c z
  ·have:c=[]:=by simpa using z
   rw[this];exact hV
 |i+1,c,hc=>by
  rw[wl]at hc;have f:=tB b h i
  rcases MT hc with z|z
  ·exact f c z
  ·rw[z]
   refine oY b ?_ ?_
   ·rw[JQ]
    cases e:a[i]? with
    |none=>exact hV|some d=>exact h d (Jd e)
   ·rw[JQ]
    cases e:(wl a B i)[i+1]? with
    |none=>exact hV|some d=>exact f d (Jd e)
noncomputable def cV(a:List (List Int)):List aa:=a.foldl (λLs B=>wl Ls B Ls.length) [[(0,1)]]
theorem jG(a:List (List Int))(B:List Int):cV (a++[B])=wl (cV a) B (cV a).length:=by unfold cV;rw[MW];rfl
theorem fJ{a:Type}{P:List a->Prop}(b:P [])(d:∀l x,P l->P (l++[x])):∀l,P l:=by
 intro l;have:∀r:List a,P r.reverse:=by
  intro r
  induction r with
  |nil=>exact b|cons x r c=>rw[List.reverse_cons];exact d _ _ c
 have:=this l.reverse
 rwa [List.reverse_reverse]at this
theorem fX(h:∀B∈Bs,dj B):(cV Bs).length=Bs.length+1/\∀c∈cV Bs,bD c:=by
 revert h
 refine fJ (P:=λBs=>(∀B∈Bs,dj B)->(cV Bs).length=Bs.length+1/\∀c∈cV Bs,bD c) ?_ ?_ Bs
 ·intro _
  refine⟨rfl,λc hc=> ?_⟩;have:c=[(0,1)]:=by simpa [cV]using hc
  rw[this];refine⟨by simp,λp hp=> ?_⟩;have:p=(0,1):=by simpa using hp
  rw[this];exact⟨⟨0,rfl,by decide⟩,by decide⟩
 ·intro l B ih h
  obtain⟨h1,h2⟩:=ih λB hB=>h B (Kf _ hB);rw[jG];refine⟨by rw[mS,h1,JM];simp,tB (h B (by simp)) h2 _⟩
noncomputable def iz(c:aa):Int:=(c.map (·.2)).sum
noncomputable def xR(a:List aa):List Int:=(a.filter λc=>decide (0<c.length)).map iz
noncomputable def gb{a:Type}(l:List a)(f:a->Int):Int:=(l.map f).sum
theorem eC{a:Type}(x:a)(l:List a)(f:a->Int):gb (x::l) f=f x+gb l f:=by unfold gb;rw[JR,Kz]
theorem gZ{a:Type}(f:a->Int):gb ([]:List a) f=0:=rfl
theorem j7{a:Type}{l:List a}{f g:a->Int}(h:∀x∈l,f x=g x):gb l f=gb l g:=by unfold gb;rw[Jv h]
noncomputable def cnt:List (List Nat)->List Nat->Nat->Int
 |[],_,0=>1|[],_,_+1=>0|_::rs,T,0=>cnt rs T 0|r::rs,T,k+1=>cnt rs T (k+1)+gb (r.filter λc=> !T.contains c) λc=>cnt rs (c::T) k
theorem lA:∀(a:List (List Nat))(T:List Nat),cnt a T 0=1
 |[],_=>rfl|_::a,T=>by rw[cnt];exact lA a T
theorem ff:∀(a:List (List Nat)){T b :List Nat}(k:Nat),(∀r∈a,∀c∈r,T.contains c=b.contains c)->cnt a T k=cnt a b k
 |[],_,_,0,_=>rfl|[],_,_,_+1,_=>rfl|_::a,T,b,0,h=>by rw[cnt,cnt];exact ff a 0 λr hr=>h r (JF _ hr)|r::a,T,b,k+1,h=>by
  rw[cnt,cnt,ff a (k+1) λr hr=>h r (JF _ hr)];have e:(r.filter λc=> !T.contains c)=r.filter λc=> !b.contains c:=LH λc hc=>by rw[h r JL c hc]
  rw[e];refine J1 (_+·) (j7 λc _=>ff a k λr' hr' d hd=> ?_);rw[L3,L3,h r' (JF _ hr') d hd]
theorem mT(b a:Int->Int):∀c:aa,dC (λm=>b m+a m) c=dC b c+dC a c
 |[]=>by simp[dC]|p::c=>by rw[dC,dC,dC,mT b a c,Int.mul_add];omega
theorem ir{a χ:Int->Int}:∀{c:aa},(∀p∈c,a p.1=χ p.1)->dC a c=dC χ c
 |[],_=>rfl|p::c,h=>by rw[dC,dC,h p JL,ir λq hq=>h q (JF _ hq)]
noncomputable def Sb(B:List Int)(a:Int->Int)(m:Int):Int:=gb B λb=>if Builtin.bitAnd m b=0 then a (Builtin.bitOr m b)else 0
theorem mG(a:Int->Int){t:Nat}(d:t<256){n:Int}(f:0<n):∀{B:List Int}{c:aa},dj B->bD c->dC a (B.foldl (bo (t:Int) n) c)=dC a c+n*Sb B a (t:Int)
 |[],c,_,_=>by rw[List.foldl_nil];unfold Sb;rw[gZ];omega
 |b::B,c,hB,h=>by
  obtain⟨j,rfl,g⟩:=hB b JL;rw[LB,mG a d f (B:=B) (λb hb=>hB b (JF _ hb)) (j8 h d f g)];have e:dC a (bo (t:Int) n c ((2^j:Nat):Int))=dC a c+n*(if Builtin.bitAnd (t:Int) ((2^j:Nat):Int)=0 then a (Builtin.bitOr (t:Int) ((2^j:Nat):Int))else 0):=by
   unfold bo
   split;rw[Cw a h.1];simp
  rw[e];unfold Sb;rw[eC,Int.mul_add];omega
theorem mU(b:Int->Int){B:List Int}(d:dj B):∀{a c:aa},bD a->bD c->dC b (AV B c a)=dC b c+dC (Sb B b) a
 |[],c,_,_=>by simp[AV,dC]|p::a,c,hl,h=>by
  obtain⟨⟨t,j,i⟩,g⟩:=hl.2 p JL;have f:bD a:=⟨(J9.mp (show(p.1::a.map (·.1)).Nodup from hl.1)).2,λq hq=>hl.2 q (JF _ hq)⟩;have k:bD (dM B c p):=by unfold dM;rw[j];exact gO i g d h
  have e:AV B c (p::a)=AV B (dM B c p) a:=rfl;rw[e,mU b d f k,dC];have l:dC b (dM B c p)=dC b c+p.2*Sb B b p.1:=by unfold dM;rw[j];exact mG b i g d h
  rw[l];omega
noncomputable def Ag(B:List Int):aa->List aa->List aa
 |prev,[]=>[AV B [] prev]|prev,c::Ls=>AV B c prev::Ag B c Ls
theorem tD(B:List Int):∀(a:aa)(b:List aa)(j:Nat),(Ag B a b)[j]? =if j<=b.length then some (AV B ((b++[[]]).getD j []) ((a::b).getD j []))else none
 |a,[],0=>rfl|a,[],j+1=>by simp[Ag]|a,c::b,0=>by simp[Ag]|a,c::b,j+1=>by rw[Ag,Kg,tD B c b j];simp
theorem qj(a:List aa)(B:List Int):∀(i j:Nat),i<=a.length->(wl a B i)[j]? =if j=0\/i<j then(a++[[]])[j]? else some (AV B ((a++[[]]).getD j []) (a.getD (j-1) []))
 |0,j,_=>by
  rw[wl]
  by_cases h:j=0\/0<j;rw[JI h];omega
 |i+1,j,hi=>by
  rw[wl,LG,mS]
  by_cases h:i+1=j
  ·subst h
   rw[JI rfl,JI (by omega),JE (by omega),JQ,qj a B i (i+1) (by omega),JI (.inr (by omega)),<-JQ];rfl
  ·rw[JE h,qj a B i j (by omega)]
   by_cases b:j=0\/i<j;rw[JI b,JI (by omega)]
   ·rw[JE b,JE (by omega)]
theorem DX(c:aa)(r:List aa)(B:List Int):wl (c::r) B (c::r).length=c::Ag B c r:=by
 refine LI λj=> ?_;rw[qj _ _ _ _ (JH _)];cases j with
 |zero=>simp|succ j =>
  rw[Kg,tD,JY]
  by_cases h:j<=r.length
  ·rw[JE (by omega),JI h]
   simp
  ·rw[JI (.inr (by omega)),JE h]
   rw[Jz (by simp;omega)]
noncomputable def cB(a:Nat->Int->Int):List aa->Int
 |[]=>0|c::Ls=>dC (a 0) c+cB (λq=>a (q+1)) Ls
theorem gK:∀{e b:Nat->Int->Int}{a:List aa},(∀q,∀c∈a,∀p∈c,e q p.1=b q p.1)->cB e a=cB b a
 |_,_,[],_=>rfl|e,b,c::a,h=>by rw[cB,cB,ir λp hp=>h 0 c JL p hp,gK λq d hd p hp=>h (q+1) d (JF _ hd) p hp]
theorem oi{B:List Int}(e:dj B):∀(r:List aa)(b:Nat->Int->Int)(a:aa),bD a->(∀c∈r,bD c)->cB b (Ag B a r)=dC (Sb B (b 0)) a+cB (λq m=>b q m+Sb B (b (q+1)) m) r
 |[],b,a,hp,_=>by rw[Ag,cB,cB,cB,mU _ e hp hV];simp[dC]
 |c::r,b,a,hp,hr=>by have f:=hr c JL;rw[Ag,cB,cB,mU _ e hp f,oi e r (λq=>b (q+1)) c f λd hd=>hr d (JF _ hd),mT];omega
theorem Am{B:List Int}(hB:dj B){Ls:List aa}(h0:Ls≠[])(h:∀c∈Ls,bD c)(ψ:Nat->Int->Int):cB ψ (wl Ls B Ls.length)=cB (fun q m=>ψ q m+Sb B (ψ (q+1)) m) Ls:=by
 cases Ls with
 | nil=>exact absurd rfl h0
 | cons c r =>
  rw[DX,cB,oi hB r _ c (h c JL) fun d hd=>h d (JF _ hd),cB,mT];omega
noncomputable def iH(m:Nat):List Nat:=(List.range 8).filter λc=>m.testBit c
theorem jO(a:c<8):(iH m).contains c=m.testBit c:=by unfold iH;rw[KU,List.contains_iff_mem,J7,Js];exact⟨λh=>h.2,λh=>⟨a,h⟩⟩
theorem Cp(m c:Nat):(m &&& 2^c=0)↔m.testBit c=false:=by
 constructor
 ·intro h
  have:=J1 (λx=>Nat.testBit x c) h
  simpa [Nat.testBit_and,Nat.testBit_two_pow_self]using this
 ·intro h
  refine Nat.eq_of_testBit_eq λi=> ?_;rw[Nat.testBit_and,Nat.zero_testBit,Nat.testBit_two_pow]
  by_cases e:c=i
  ·subst e
   simp[h]
  ·simp[e]
noncomputable def b9(r:List Nat):List Int:=r.map λc=>((2^c:Nat):Int)
theorem gT(h:∀c∈r,c<8):dj (b9 r):=λb hb=>by obtain⟨c,a,rfl⟩:=JX.mp hb;exact⟨c,rfl,h c a⟩
noncomputable def wC(a:List (List Nat))(k q:Nat)(m:Int):Int:=if q<=k then cnt a (iH m.toNat) (k-q)else 0
theorem Dv(j:∀c∈r,c<8)(a:∀r∈b,∀c∈r,c<8)(k q:Nat)(m:Nat):Sb (b9 r) (wC b k (q+1)) (m:Int)=if q+1<=k then gb (r.filter λc=> !(iH m).contains c) (λc=>cnt b (c::iH m) (k-(q+1)))else 0:=by
 induction r with
 |nil =>
  unfold Sb b9;rw[KO,gZ,List.filter_nil,gZ]
  split<;>rfl
 |cons c r h =>
  have n:=j c JL;have h:=h λd hd=>j d (JF _ hd);have o:Sb (b9 (c::r)) (wC b k (q+1)) (m:Int)=(if Builtin.bitAnd (m:Int) ((2^c:Nat):Int)=0 then wC b k (q+1) (Builtin.bitOr (m:Int) ((2^c:Nat):Int))else 0)+Sb (b9 r) (wC b k (q+1)) (m:Int):=by unfold Sb b9;rw[JR,eC]
  rw[o,h,AC,uY,Lr,jO n];have i:(((m &&& 2^c:Nat):Int)=0)↔m.testBit c=false:=by rw[<- Cp];omega
  cases l:m.testBit c with
  |true =>rw[JE (λz=>by have:=i.mp z;rw[l]at this;cases this)];simp
  |false =>
   rw[JI (i.mpr l)];simp only[Bool.not_false,LX];unfold wC
   by_cases f:q+1<=k
   ·rw[JI f,JI f,JI f,eC]
    refine J1 (·+_) (ff b _ λr' hr' d hd=> ?_);have g:=a r' hr' d hd;rw[show((m ||| 2^c:Nat):Int).toNat=m ||| 2^c by simp,jO g,L3,jO g,Nat.testBit_or,Nat.testBit_two_pow,Bool.or_comm]
    congr 1
    by_cases e:c=d;subst e;simp
    ·have:¬d=c:=λz=>e z.symm
     simp[e,this]
   ·rw[JE f,JE f,JE f]
    rfl
theorem xc(f:∀c∈r,c<8)(a:∀r∈b,∀c∈r,c<8)(k q:Nat)(m:Nat):wC b k q (m:Int)+Sb (b9 r) (wC b k (q+1)) (m:Int)=wC (r::b) k q (m:Int):=by
 rw[Dv f a];unfold wC
 by_cases d:q<=k
 ·rw[JI d,JI d]
  cases e:k-q with
  |zero =>rw[JE (by omega),cnt];omega
  |succ j =>rw[JI (by omega),show k-(q+1)=j by omega];show _=cnt (r::b) (iH m) (j+1);rw[cnt];simp
 ·rw[JE d,JE d,JE (by omega)]
  rfl
noncomputable def lM(a:List (List Nat)):Prop:=∀r∈a,∀c∈r,c<8
theorem yW(k:Nat):∀(rows aE:List (List Nat)),lM rows->lM aE->cB (wC aE k) (cV (rows.map b9))=cnt (rows++aE) [] k:=by
 intro rows;refine fJ (P:=λrows=>∀aE,lM rows->lM aE->cB (wC aE k) (cV (rows.map b9))=cnt (rows++aE) [] k) ?_ ?_ rows
 ·intro aE _ _
  have e:cV (([]:List (List Nat)).map b9)=[[(0,1)]]:=rfl;rw[e,cB,cB,dC,dC];unfold wC;rw[JI (J0 _)];have e2:iH (Int.toNat (0,1).1)=[]:=rfl;show(1:Int)*cnt aE (iH (Int.toNat 0)) (k-0)+0+0=_;have e3:iH (Int.toNat 0)=[]:=rfl;rw[e3,Nat.sub_zero,Lf];omega
 ·intro l r ih aE h1 h2
  have hr:∀c∈r,c<8:=h1 r (by simp);have hl:lM l:=λr' hr' =>h1 r' (Kf _ hr');have hg:∀B∈l.map b9,dj B:=λB hB=>by obtain⟨r',hr',rfl⟩:=JX.mp hB;exact gT (hl r' hr')
  obtain⟨g1,g2⟩:=fX hg;rw[Jo,JR,KO,jG,Am (gT hr) (λz=>by rw[z]at g1;simp at g1) g2,Jm];have h3:lM (r::aE):=λr' hr' =>by
   rcases JU.mp hr' with z|z
   ·rw[z];exact hr
   ·exact h2 r' z
  rw[show[r]++aE=r::aE from rfl,<-ih (r::aE) hl h3];refine gK λq c hc p hp=> ?_;obtain⟨⟨m,em,_⟩,_⟩:=(g2 c hc).2 p hp;rw[em];exact xc hr h2 k q m
theorem tE:∀c:aa,dC (λ_=>1) c=iz c
 |[]=>rfl|p::c=>by rw[dC,tE c];unfold iz;rw[JR,Kz];omega
theorem jz:∀c:aa,dC (λ_=>0) c=0
 |[]=>rfl|p::c=>by rw[dC,jz c];omega
theorem tJ:∀(Ls:List aa)(k:Nat),cB (λq _=>if q=k then 1 else 0) Ls=iz (Ls.getD k [])
 |[],k=>by simp[cB,iz]|c::Ls,0=>by
  rw[cB];have e1:(λ_:Int=>if 0=0 then(1:Int)else 0)=λ_=>1:=rfl;have e2:∀Ls:List aa,cB (λq _=>if q+1=0 then(1:Int)else 0) Ls=0:=by
   intro Ls;have h:∀(Ls:List aa)(ψ:Nat->Int->Int),(∀q m,ψ q m=0)->cB ψ Ls=0:=by
    intro Ls
    induction Ls with
    |nil=>intro _ _;rfl|cons d Ls ih =>intro ψ hψ;rw[cB,ih _ λq m=>hψ (q+1) m,ir (χ:=λ_=>0) λp _=>hψ 0 p.1,jz];rfl
   exact h Ls _ λq m=>by simp
  rw[e1,e2 Ls,tE];simp
 |c::Ls,k+1=>by
  rw[cB];have e1:dC (λ_:Int=>if 0=k+1 then(1:Int)else 0) c=0:=by
   have:(λ_:Int=>if 0=k+1 then(1:Int)else 0)=λ_=>0:=by funext _;simp
   rw[this,jz]
  have e2:(λ(q:Nat) (_:Int)=>if q+1=k+1 then(1:Int)else 0)=λq _=>if q=k then 1 else 0:=by funext q _;simp
  rw[e1,e2,tJ Ls k];simp
theorem yX(a:List (List Nat))(h:lM a)(k:Nat):iz ((cV (a.map b9)).getD k [])=cnt a [] k:=by
 have e:=yW k a [] h (λr hr=>by cases hr);rw[KG]at e;rw[<- e,<-tJ];refine gK λq c _ p _=> ?_;unfold wC
 by_cases b:q=k
 ·subst b
  rw[JI rfl,JI (JH _),Nat.sub_self,cnt]
 ·rw[JE b]
  by_cases d:q<=k
  ·rw[JI d]
   cases e:k-q with
   |zero=>omega|succ j=>rw[cnt]
  ·rw[JE d]
theorem xB(h:bD c):0<c.length↔0<iz c:=by
 cases c with
 |nil=>simp[iz]|cons p c =>
  have i:=(h.2 p JL).2;have g:∀c:aa,(∀q∈c,0<q.2)->0<=iz c:=by
   intro c
   induction c with
   |nil=>intro _;exact Ks _|cons q c f =>intro d;have a:=d q JL;have b:=f λr hr=>d r (JF _ hr);unfold iz at b ⊢;rw[JR,Kz];omega
  have e:=g c λq d=>(h.2 q (JF _ d)).2
  constructor
  ·intro _
   unfold iz at e ⊢;rw[JR,Kz];omega
  ·intro _
   simp
theorem xQ(a:List (List Nat))(h:lM a):xR (cV (a.map b9))=((List.range (a.length+1)).map (cnt a [])).filter λn=>decide (0<n):=by
 have k:∀B∈a.map b9,dj B:=λB hB=>by obtain⟨l,d,rfl⟩:=JX.mp hB;exact gT (h l d)
 obtain⟨g,j⟩:=fX k;have e:(cV (a.map b9)).map iz=(List.range (a.length+1)).map (cnt a []):=by
  refine LI λi=> ?_;rw[JP,JP]
  by_cases f:i<a.length+1
  ·have b :i<(cV (a.map b9)).length:=by rw[g,JC];exact f
   rw[KD f,JN b,KF,KF,<-yX a h i,JQ,JN b];rfl
  ·rw[Jz (by rw[g,JC];omega),Jz (by simpa using f)]
   rfl
 unfold xR;rw[<- e,List.filter_map]
 congr 1
 refine LH λc hc=> ?_;rw[Function.comp_apply,ME];exact xB (j c hc)
noncomputable abbrev aX:=Nat×Nat
noncomputable def F3(cells:List aX)(k:Nat):List aX:=(cells.drop (k+1)).filter λc=>decide ((cells.getD k (0,0)).1<c.1)
noncomputable def pl:Nat->List aX->List Int->Nat->Int
 |_,_,_,0=>1|0,_,_,_+1=>0|n+1,cells,T,j+1=>gb (List.range cells.length) λk=>if T.contains ((cells.getD k (0,0)).2:Int)then 0 else pl n (F3 cells k) (T++[((cells.getD k (0,0)).2:Int)]) j
noncomputable def ft(i:Nat)(r:List Nat):List aX:=r.map λc=>(i,c)
noncomputable def bU:Nat->List (List Nat)->List aX
 |_,[]=>[]|i,r::rs=>ft i r++bU (i+1) rs
theorem gR:∀(i:Nat)(a:List (List Nat)),∀c∈bU i a,i<=c.1/\c.1<i+a.length
 |i,[],c,h=>by cases h|i,r::a,c,h=>by
  rcases Jn.mp h with z|z
  ·obtain⟨x,_,rfl⟩:=JX.mp z
   exact⟨JH _,by rw[JY];omega⟩
  ·have:=gR (i+1) a c z
   rw[JY];omega
theorem qF{l:List aX}(h:∀c∈l,p c=false):l.filter p=[]:=List.filter_eq_nil_iff.mpr λc hc=>by rw[h c hc];exact JS
theorem o9(a b:Nat):List.range (a+b)=List.range a++(List.range b).map (a+·):=by rw[List.range_add]
theorem lB:∀(a:List (List Nat))(T:List Nat)(k:Nat),a.length<k->cnt a T k=0
 |[],_,0,h=>by simp at h|[],_,_+1,_=>by rw[cnt]|r::a,T,0,h=>by simp at h|r::a,T,k+1,h=>by
  rw[JY]at h;rw[cnt,lB a T (k+1) (by omega)];have:∀l:List Nat,(gb l λc=>cnt a (c::T) k)=0:=by
   intro l
   induction l with
   |nil=>rfl|cons c l b=>rw[eC,lB a (c::T) k (by omega),b];rfl
  rw[this];rfl
noncomputable def fM(z:Str):List Nat:=(List.range z.length).filter λc=>z.cps.toList.getD c 0==120
noncomputable def aZ(a:List Str):List aX:=bU 0 (a.map fM)
noncomputable def jk(a b:aX):Bool:=a.1==b.1||a.2==b.2
theorem AE(a b:aX):jk a b=jk b a:=by unfold jk;rw[KU];simp only[KS,K3];exact⟨λh=>h.imp Eq.symm Eq.symm,λh=>h.imp Eq.symm Eq.symm⟩
noncomputable def fV(x:aX)(l:List aX):List aX:=l.filter λy=> !jk x y
noncomputable def Gz(f:aX->List aX->Int):List aX->Int
 |[]=>0|x::xs=>f x xs+Gz f xs
noncomputable def rk:Nat->List aX->Int
 |0=>λ_=>1|k+1=>Gz λx xs=>rk k (fV x xs)
theorem be(l:List aX):rk 0 l=1:=rfl
theorem kH(k:Nat):rk (k+1) []=0:=rfl
theorem az(k:Nat)(x:aX)(a:List aX):rk (k+1) (x::a)=rk (k+1) a+rk k (fV x a):=by show rk k (fV x a)+rk (k+1) a=_;omega
theorem yP(x y:aX)(l:List aX):fV x (y::l)=if jk x y then fV x l else y::fV x l:=by unfold fV;rw[Lr];cases jk x y<;>rfl
theorem BY(x y:aX)(l:List aX):fV x (fV y l)=fV y (fV x l):=by unfold fV;rw[List.filter_filter,List.filter_filter];refine LH λc _=>Bool.and_comm _ _
theorem tT:∀(k:Nat){l b :List aX},l.Perm b ->rk k l=rk k b
 |0,_,_,_=>rfl|k+1,l,b,h=>by
  induction h with
  |nil=>rfl|cons x h e=>rw[az,az,e];exact J1 (_+·) (tT k (h.filter _))|swap x y l =>
   have a:∀x y:aX,rk (k+1) (y::x::l)=rk (k+1) l+rk k (fV x l)+(if jk y x then rk k (fV y l)else rk k (x::fV y l)):=by intro x y;rw[az,az,yP];cases jk y x<;>rfl
   rw[a x y,a y x,AE x y];cases h:jk y x with
   |true=>simp only[LX];omega|false =>
    simp only[Lb,Ly];cases k with
    |zero=>rfl|succ k =>rw[az,az,BY x y];omega
  |trans _ _ d c=>rw[d,c]
theorem rH{f:aX->aX}(hf:∀a b,jk (f a) (f b)=jk a b):∀(k:Nat)(l:List aX),rk k (l.map f)=rk k l
 |0,_=>rfl|k+1,[]=>rfl|k+1,x::xs=>by
  rw[JR,az,az,rH hf (k+1) xs];have e:fV (f x) (xs.map f)=(fV x xs).map f:=by
   unfold fV;rw[List.filter_map]
   congr 1
   refine LH λc _=> ?_;rw[Function.comp_apply,hf]
  rw[e,rH hf k]
theorem xU(k i:Nat)(b:List aX)(a:∀c∈b,i<c.1):∀r:List Nat,rk (k+1) (ft i r++b)=rk (k+1) b+gb r λc=>rk k (b.filter λy=> !(c==y.2))
 |[]=>by show rk (k+1) b=_;rw[gZ];omega
 |c::r=>by
  show rk (k+1) ((i,c)::(ft i r++b))=_;rw[az,xU k i b a r,eC];have e:fV (i,c) (ft i r++b)=b.filter λy=> !(c==y.2):=by
   unfold fV;rw[K5,qF (l:=ft i r) λy hy=> ?_,Lf]
   ·refine LH λy hy=> ?_
    have:=a y hy;unfold jk;have f:(i==y.1)=false:=by simp;omega
    show(!((i==y.1)||(c==y.2)))=_;rw[f,Bool.false_or]
   ·obtain⟨d,_,rfl⟩:=JX.mp hy
    simp[jk]
  rw[e];omega
noncomputable def freeC(T:List Nat)(l:List aX):List aX:=l.filter λc=> !T.contains c.2
theorem rJ:∀(a:List (List Nat))(k i:Nat)(T:List Nat),rk k (freeC T (bU i a))=cnt a T k
 |a,0,i,T=>by rw[be,lA]|[],k+1,i,T=>by rw[cnt];rfl|r::a,k+1,i,T=>by
  have e:freeC T (bU i (r::a))=ft i (r.filter λc=> !T.contains c)++freeC T (bU (i+1) a):=by
   unfold freeC;rw[bU,K5]
   congr 1
   unfold ft;rw[List.filter_map];rfl
  rw[e,xU k i _ (λc hc=>by have:=(gR (i+1) a c (J7.mp hc).1).1;omega),rJ a (k+1) (i+1) T,cnt];refine J1 (_+·) (j7 λc _=> ?_);rw[<- rJ a k (i+1) (c::T)]
  congr 1
  unfold freeC;rw[List.filter_filter];refine LH λy _=> ?_;rw[L3,Bool.not_or]
  congr 1
  rw[KU];simp only[L7,MJ,ne_eq];exact⟨λh z=>h z.symm,λh z=>h z.symm⟩
theorem vi(l:List aX):freeC [] l=l:=by unfold freeC;exact List.filter_eq_self.mpr λc _=>rfl
noncomputable def bV(l:List aX):List Int:=((List.range 65).map λk=>rk k l).filter λn=>decide (0<n)
theorem A2(a:List (List Nat))(h:lM a)(d:a.length<=64):xR (cV (a.map b9))=bV (bU 0 a):=by
 rw[xQ a h];unfold bV;have e:∀k,rk k (bU 0 a)=cnt a [] k:=λk=>by have:=rJ a k 0 [];rw[vi]at this;exact this
 obtain⟨m,c⟩:∃m,65=(a.length+1)+m:=⟨64-a.length,by omega⟩;rw[c,o9 (a.length+1) m,Jo,K5,J4];have z:((List.range m).map ((λk=>rk k (bU 0 a))∘λx=>a.length+1+x)).filter (λn=>decide (0<n))=[]:=by
  rw[List.filter_eq_nil_iff];intro x b;obtain⟨k,_,rfl⟩:=JX.mp b;rw[Function.comp_apply,e,lB _ _ _ (by omega)]
  decide
 rw[z,KG]
 congr 1
 exact(Jv λk _=>e k).symm
theorem i6(h:l.Perm a):bV l=bV a :=by
 unfold bV
 congr 1
 exact Jv λk _=>tT k h
theorem xS(c:∀a b,jk (f a) (f b)=jk a b)(l:List aX):bV (l.map f)=bV l:=by
 unfold bV
 congr 1
 exact Jv λk _=>rH c k l
end IR
namespace IR
open PySem L2
theorem bp:∀(k:Nat)(l:List aX),0<=rk k l
 |0,l=>by rw[be];omega|k+1,[]=>by rw[kH];omega|k+1,x::xs=>by rw[az];have a:=bp (k+1) xs;have b:=bp k (fV x xs);omega
theorem ml:∀(k:Nat)(l:List aX),0<rk (k+1) l->0<rk k l
 |0,l,_=>by rw[be];omega|k+1,[],h=>by rw[kH]at h;omega|k+1,x::xs,h=>by rw[az]at h;rw[az];have b:=bp (k+1) xs;have c:=bp k (fV x xs);have a:=ml (k+1) xs;have d:=ml k (fV x xs);omega
theorem nB(x:aX)(l:List aX):(fV x l).length<=l.length:=Ko _ _
theorem jp:∀(k:Nat)(l:List aX),l.length<k->rk k l=0
 |0,l,h=>by omega|k+1,[],_=>kH k|k+1,x::xs,h=>by rw[JY]at h;have:=nB x xs;rw[az,jp (k+1) xs (by omega),jp k (fV x xs) (by omega)];rfl
theorem zH(f:Nat->Int)(i:∀k,0<=f k)(l:∀k,0<f (k+1)->0<f k):∀N,∃m,m<=N/\((List.range N).map f).filter (λn=>decide (0<n))=(List.range m).map f/\(∀k,k<m->0<f k)/\∀k,m<=k->k<N->f k=0
 |0=>⟨0,JH _,rfl,λk h=>by omega,λk _ h=>by omega⟩|N+1=>by
  obtain⟨m,s,q,o,j⟩:=zH f i l N;rw[Le,Jo,K5,q]
  by_cases g:0<f N
  ·have c:∀d k,k+d=N->0<f k:=by
    intro d
    induction d with
    |zero=>intro k e;rw[show k=N by omega];exact g|succ d p=>intro k e;exact l k (p (k+1) (by omega))
   have r:m=N:=by
    by_cases z:m=N;exact z
    ·have:=c (N-m) m (by omega)
     have:=j m (JH _) (by omega);omega
   refine⟨N+1,JH _,?_,λk hk=>c (N-k) k (by omega),λk a b=>by omega⟩;rw[r,Le,Jo];simp[g]
  ·refine⟨m,by omega,by simp[g],o,λk a b=> ?_⟩
   by_cases z:k=N
   ·subst z;have:=i k;omega
   ·exact j k a (by omega)
theorem gi(l:List aX)(d:l.length<=64):∃m,bV l=(List.range m).map (λk=>rk k l)/\(∀k,k<m->0<rk k l)/\∀k,m<=k->rk k l=0:=by
 obtain⟨m,_,b,a,c⟩:=zH (λk=>rk k l) (λk=>bp k l) (λk=>ml k l) 65;refine⟨m,b,a,λk hk=> ?_⟩
 by_cases z:k<65;exact c k hk z;exact jp k l (by omega)
theorem kU:∀(i:Nat)(d:List (List Nat))(c:aX),c∈bU i d↔i<=c.1/\c.2∈d.getD (c.1-i) []
 |i,[],c=>by simp[bU]|i,r::d,c=>by
  rw[bU,Jn,kU (i+1) d c];obtain⟨a,b⟩:=c;simp only[ft,JX,Prod.mk.injEq]
  by_cases h:a=i
  ·subst h
   simp;omega
  ·constructor
   ·rintro(⟨x,_,e,_⟩|⟨g,f⟩)
    ·exact absurd e.symm h
    ·refine⟨by omega,?_⟩
     rw[show a-i=a-(i+1)+1 by omega];exact f
   ·rintro⟨g,f⟩
    rw[show a-i=a-(i+1)+1 by omega]at f;exact .inr ⟨by omega,f⟩
theorem bR(a:List Str)(c:aX):c∈aZ a↔cd a c.1 c.2=120:=by
 unfold aZ;rw[kU];simp only[J0,true_and,Nat.sub_zero];unfold cd;cases e:a[c.1]? with
 |none =>rw[show(a.map fM).getD c.1 []=[]from by rw[List.getD,JP,e];rfl,show a.getD c.1 ⟨#[]⟩=⟨#[]⟩from by rw[List.getD,e];rfl];simp
 |some z =>
  rw[show(a.map fM).getD c.1 []=fM z from by rw[List.getD,JP,e];rfl,show a.getD c.1 ⟨#[]⟩=z from by rw[List.getD,e];rfl];simp only[fM,J7,Js,K3]
  constructor;exact λh=>h.2
  ·intro h
   refine⟨?_,h⟩
   by_cases q:c.2<z.length;exact q
   ·have b:z.cps.toList.length=z.length:=by rw[JZ];rfl
    rw[List.getD,Jz (by omega)]at h;cases h
theorem gz:∀(i:Nat)(a:List (List Nat)),(∀r∈a,r.Nodup)->(bU i a).Nodup
 |_,[],_=>.nil|i,r::a,h=>by
  rw[bU,Kv];refine⟨?_,gz (i+1) a λr' hr' =>h r' (JF _ hr'),λa ha b hb=> ?_⟩
  ·have:=h r JL
   unfold ft;exact L6 _ (λx y n z=>n (by injection z)) this
  ·obtain⟨x,_,rfl⟩:=JX.mp ha
   have:=(gR (i+1) a b hb).1;intro z;rw[<- z]at this;exact absurd this (by simp)
theorem bv(a:List Str):(aZ a).Nodup:=gz 0 _ λr hr=>by obtain⟨z,_,rfl⟩:=JX.mp hr;exact List.Pairwise.filter _ List.nodup_range
theorem gS:∀(i:Nat)(a:List (List Nat)),(∀r∈a,r.length<=8)->(bU i a).length<=8*a.length
 |_,[],_=>JH _|i,r::a,h=>by have b:=gS (i+1) a λr' hr' =>h r' (JF _ hr');have c:=h r JL;rw[bU,JM,JY];unfold ft;rw[JC];omega
theorem gQ(a:List Str)(d:a.length<=8)(b:∀z∈a,z.length<=8):(aZ a).length<=64:=by
 have:=gS 0 (a.map fM) λr hr=>by obtain⟨z,c,rfl⟩:=JX.mp hr;unfold fM;refine Jw (Ko _ _) ?_;rw[Je];exact b z c
 rw[JC]at this;unfold aZ;omega
noncomputable def bk(w j:Nat):Nat:=if j<w then w-1-j else j
noncomputable def ch:Nat->Nat->Nat
 |_,0=>1|0,_+1=>0|n+1,k+1=>ch n (k+1)+ch n k
noncomputable def fl:Nat->Nat->Nat
 |_,0=>1|n,k+1=>n*fl (n-1) k
noncomputable def fn(m n k:Nat):Int:=((ch m k*fl n k:Nat):Int)
section
variable(b:Nat->Nat->Bool)
noncomputable def jX:List Nat->List Nat->Nat->Int
 |[],_,j=>if j=0 then 1 else 0|i::L,C,j=>gb C λc=>if b i c then(if j=0 then 0 else jX L (C.erase c) (j-1))else jX L (C.erase c) j
end
noncomputable def fx(x:Int):Nat->Int
 |0=>1|m+1=>fx x m*(x-m)
end IR
namespace IR
end IR
namespace IR
end IR
namespace IR
open PySem L2
end IR
namespace IR
open PySem
end IR
namespace L2
open SQ
end L2
namespace OD
section
variable{α:Type}[DecidableEq α](ok:List α->α->Bool)
noncomputable def cnt:List α->List α->Nat->Nat
 |_,_,0=>1|_,[],_+1=>0|b,c::L,m+1=>(if ok b c then cnt (b++[c]) L m else 0)+cnt b L (m+1)
noncomputable def unr:List α->List α->Nat->Nat->List α
 |_,_,0,_=>[]|_,[],_+1,_=>[]|b,c::L,m+1,n=>if ok b c then(if n<cnt ok (b++[c]) L m then c::unr (b++[c]) L m n else unr b L (m+1) (n-cnt ok (b++[c]) L m))else unr b L (m+1) n
variable{ok}
theorem lA(b L:List α):cnt ok b L 0=1:=by cases L<;>rfl
variable(lt:α->α->Bool)
variable{lt}
end
end OD
namespace OD
section
variable{α:Type}[DecidableEq α]{ok:List α->α->Bool}{lt:α->α->Bool}
noncomputable def turn(b:List α->α->Bool)(a:List α->Int)(s:List α×Int)(c:α):List α×Int :=
 if b s.1 c then(if s.2<a (s.1++[c])then(s.1++[c],s.2)else(s.1,s.2-a (s.1++[c])))else s
end
end OD
namespace IR
open PySem
noncomputable def DH(b:List (Int×Int))(c:Int×Int):Bool:=(b.all λx=>decide (x.1<c.1))&&(b.all λx=>decide (x.2≠c.2))
structure gI(b:List (Int×Int)):Prop where
 rows:(b.map (·.1)).Pairwise (·<·)
 cols:(b.map (·.2)).Nodup
end IR
namespace OD
section
variable{α:Type}[DecidableEq α]{ok:List α->α->Bool}
noncomputable def fs{a:Type}(f:Nat->Option a):Nat->Option a
 |0=>none|n+1=>(f n).or (fs f n)
noncomputable def tr(a:List α->α->Bool):List α->List α->List α->Nat->Option (List α)
 |_,_,[],_=>none|_,[],_::_,_=>none|b,c::L,x::p,0=>if x=c then(if 0<cnt a b L (p.length+1)then some (unr a b L (p.length+1) 0)else none)else tr a b L (x::p) 0|b,c::L,x::p,i+1=>if x=c then(tr a (b++[c]) L p i).map (c::·)else tr a b L (x::p) (i+1)
end
end OD
namespace IR
open PySem
noncomputable def chR(C:List (List Int))(r:Int):List Int:=C.getD r.toNat []
noncomputable def tkL(b:aa->Int->List Int->Bool×aa×List Int)(a:Int):List Int->aa->List Int->Bool×aa×List Int
 |[],H,T=>(false,H,T)|c::cs,H,T=>if T.contains c then tkL b a cs H T else match hZ H c with
  |none=>(true,i9 H c a,T++[c])|some r=>match b H r (T++[c])with
   |(true,H',T')=>(true,i9 H' c a,T')|(false,H',T')=>tkL b a cs H' T'
noncomputable def tk(C:List (List Int)):Nat->aa->Int->List Int->Bool×aa×List Int
 |0,H,_,T=>(false,H,T)|n+1,H,row,T=>tkL (tk C n) row (chR C row) H T
noncomputable def hd(C:List (List Int)):Nat->aa
 |0=>[]|k+1=>(tk C 9 (hd C k) (k:Nat) []).2.1
section
variable{rows:List (List Nat)}(hc:lM rows)(hr:∀cs∈rows,cs.Pairwise (·<·))
include hr
end
noncomputable def br(c:Int):Nat->List Nat×Int
 |0=>([],c)|i+1=>((br c i).1.take ((br c i).2%((i:Int)+1)).toNat++i::(br c i).1.drop ((br c i).2%((i:Int)+1)).toNat,(br c i).2/((i:Int)+1))
theorem jD(c:Int):∀n,(br c n).1.Perm (List.range n)
 |0=>.nil|i+1=>by rw[Le];refine List.perm_middle.trans ?_;rw[Jk];exact((jD c i).cons i).trans (Lg (l₁:=[i]))
theorem gu(c:Int)(n:Nat):(br c n).1.length=n:=by rw[(jD c n).length_eq,Je]
theorem tu(h:r<n):(br c n).1[r]? =some ((br c n).1.getD r 0)/\(br c n).1.getD r 0<n:=by
 have a:r<(br c n).1.length:=by rw[gu];exact h
 have e:(br c n).1[r]? =some (br c n).1[r]:=JN a;have b:(br c n).1.getD r 0=(br c n).1[r]:=by rw[JQ,e];rfl
 exact⟨by rw[b];exact e,by rw[b];exact Js.mp ((jD c n).mem_iff.mp (KY a))⟩
noncomputable def mixA(c j:Int):Int:=(c%2147483647*39373+7877*j*j+60493)%2147483647
noncomputable def mixS(n:Int):Int:=n*n%2147483629
noncomputable def mixE(n j:Int):Int:=(n*48271+j)*n%2147483587
noncomputable def Ej(c j:Int):Int:=mixE (mixS (mixA c j)) j
noncomputable abbrev Gd:=List (List Str)
noncomputable def ED(g:Gd)(a b:Nat):Gd:=g.set a ((g.getD a []).set b "x")
noncomputable def vv(c:Int)(o q:List Nat)(r j:Nat)(g:Gd):Gd:=if 0<Ej c (8*(r:Int)+(j:Int))%4 then ED g (o.getD r 0) (q.getD j 0)else g
noncomputable def GU(c:Int)(o q:List Nat)(r a:Nat)(g:Gd):Nat->Gd
 |0=>g|i+1=>vv c o q r (a+i) (GU c o q r a g i)
noncomputable def GS(c:Int)(o q:List Nat)(d a b:Nat)(g:Gd):Nat->Gd
 |0=>g|i+1=>GU c o q (d+i) a (GS c o q d a b g i) b
noncomputable def Fv(c:Int)(o q s t:List Nat)(g:Gd):Nat->Gd
 |0=>g|j+1=>GS c o q (s.take j).sum (t.take j).sum (t.getD j 0) (Fv c o q s t g j) (s.getD j 0)
noncomputable def de(x:Int):List Nat:=[(1+x/8%3).toNat,(1+x/24%3).toNat,(1+x/72%2).toNat]
noncomputable def cO(x:Int):List Nat:=[(1+x/144%3).toNat,(1+x/432%3).toNat,(1+x/1296%2).toNat]
noncomputable def uJ(x c:Int):Gd:=Fv c (br c (de x).sum).1 (br (c/40320) (cO x).sum).1 (de x) (cO x) (List.replicate (de x).sum (List.replicate (cO x).sum ".")) 3
noncomputable def ef(x c:Int):List Str:=(uJ x c).map λr=>fj "" r
noncomputable def Fs:List PV->Option PV
 |[.int x,.int c]=>some (.tup ((ef x c).map .str))|_=>none
noncomputable def iq(n m:Nat)(g:Gd):Prop:=g.length=n/\∀r∈g,r.length=m/\∀z∈r,z="."\/z="x"
theorem iq.at(h:iq n m g)(d:a<n):g[a]? =some (g.getD a [])/\(g.getD a []).length=m/\∀z∈g.getD a [],z="."\/z="x":=by
 have b:a<g.length:=by rw[h.1];exact d
 have e:g[a]? =some g[a]:=JN b;have c:g.getD a []=g[a]:=by rw[JQ,e];rfl
 rw[c];exact⟨e,h.2 _ (KY b)⟩
theorem iq.put(h:iq n m g)(d:a<n):iq n m (ED g a b):=by
 obtain⟨e,l,z⟩:=h.at d;refine⟨by unfold ED;rw[KI];exact h.1,λr c=> ?_⟩
 rcases MT c with c|rfl
 ·exact h.2 r c
 ·exact⟨by rw[KI];exact l,λy hy=>(MT hy).elim (z y) .inr⟩
theorem iq.col(h:iq n m g)(a:o.getD r 0<n):iq n m (vv c o q r j g):=by
 unfold vv
 split;exact h.put a;exact h
theorem iq.ln{n m r b:Nat}{c:Int}{o q:List Nat}{g:Gd}(h:iq n m g)(a:o.getD r 0<n):∀i,iq n m (GU c o q r b g i)
 |0=>h|i+1=>(iq.ln h a i).col a
theorem iq.rw{n m a b d:Nat}{c:Int}{o q:List Nat}{g:Gd}(h:iq n m g):∀i,(∀r,r<a+i->o.getD r 0<n)->iq n m (GS c o q a b d g i)
 |0,_=>h|i+1,ho=>(iq.rw h i λr hr=>ho r (by omega)).ln (ho _ (by omega)) _
theorem j5(s:List Nat)(j:Nat):(s.take (j+1)).sum=(s.take j).sum+s.getD j 0:=by rw[Kj,JQ];cases s[j]? <;>simp
theorem mY(s:List Nat)(j:Nat):(s.take j).sum<=s.sum:=by
 have:s.sum=(s.take j).sum+(s.drop j).sum:=by rw[<- List.sum_append,Jk]
 omega
theorem iq.bk{n m:Nat}{c:Int}{o q s t:List Nat}{g:Gd}(h:iq n m g)(b:s.sum=n)(a:∀r,r<n->o.getD r 0<n):∀j,iq n m (Fv c o q s t g j)
 |0=>h|j+1=>(iq.bk h b a j).rw _ λr hr=>a r (by have:=j5 s j;have:=mY s (j+1);omega)
theorem IM(n m:Nat):iq n m (List.replicate n (List.replicate m ".")) := ⟨KA,λr hr=>by rw[(List.mem_replicate.mp hr).2];exact⟨KA,λz hz=>.inl (List.mem_replicate.mp hz).2⟩⟩
theorem wz(x:Int):3<=(de x).sum/\(de x).sum<=8:=by unfold de;simp only[Kz,List.sum_nil];omega
theorem wj(x:Int):3<=(cO x).sum/\(cO x).sum<=8:=by unfold cO;simp only[Kz,List.sum_nil];omega
theorem mD(x c:Int):iq (de x).sum (cO x).sum (uJ x c):=(IM _ _).bk rfl (λ_ hr=>(tu hr).2) 3
theorem py:∀{r:List Str},(∀z∈r,z="."\/z="x")->(fj "" r).length=r.length
 |[],_=>rfl|[z],h=>by rcases h z (by simp)with e|e<;>(rw[e];rfl)
 |z::y::r,h=>by
  have d:=py (r:=y::r) λw hw=>h w (JF _ hw);show(z++""++fj "" (y::r)).length=_;have c:∀a b:Str,(a++b).length=a.length+b.length:=λa b=>by show(a++b).cps.size=_;rw[MF,Array.size_append];rfl
  have f:z.length=1:=by rcases h z (by simp)with e|e<;>(rw[e];rfl)
  rw[c,c,d,f];show 1+0+(r.length+1)=r.length+1+1;omega
theorem xP(x c:Int):(ef x c).length=(de x).sum/\∀z∈ef x c,z.length=(cO x).sum:=by have d:=mD x c;refine⟨by unfold ef;rw[JC];exact d.1,λz hz=> ?_⟩;obtain⟨r,a,rfl⟩:=JX.mp hz;rw[py (d.2 r a).2];exact(d.2 r a).1
end IR
namespace XE
open PySem
structure Up(fs ns:List Addr)(h h' :Heap):Prop where
 keep:∀b o,h.get? b=some o->b∉fs->b∉ns->h'.get? b=some o
 slot:∀b o,h.get? b=some o->b∈fs->∃sl,h'.get? b=some {o with slots:=sl}
end XE
namespace XE
open PySem PySem.W PyProof.Rows
end XE
namespace L2.XN
open PySem PySem.Spec PyProof.Rows L2 XE
end L2.XN
namespace L2.XN
open PySem PySem.Spec PyProof.Rows L2 XE
section
variable{X:Cx}{pins:List (Addr×Obj)}{σ:St}{H:Hp}{s:Shared}{Wh:Value->Shared->Prop}{A:Around}{cm:Bool}
noncomputable abbrev HM(X:Cx)(pn:List (Addr×Obj))(a:Value->Shared->Prop):Cx:={X with pn:=pn,xe:=a}
theorem pinned(I:Inv X pins σ H s):Inv (HM X (X.pn++pins) Wh) [] σ H s := ⟨⟨I.ok.mod,I.ok.kind,I.ok.glob,I.ok.blt,I.ok.above,I.ok.inj,I.ok.has,I.ok.cab,I.ok.hd,I.ok.frames,I.ok.stk,I.ok.exf,I.ok.bs,I.ok.bsz,I.ok.noex,I.ok.exfs,I.ok.funs,I.ok.frf⟩,I.os,I.bare,I.base,I.loc,I.cell,I.free,I.freeC,λp hp=>I.pin p (by rw[KG]at hp;exact hp),I.hok,I.len⟩
theorem unpinned(a:X.Ok)(I:Inv (HM X (X.pn++pins) Wh) b σ H s):Inv X pins σ H s := ⟨a,I.os,I.bare,I.base,I.loc,I.cell,I.free,I.freeC,λp hp=>I.pin p (Kf _ hp),I.hok,I.len⟩
end
end L2.XN
namespace L2.XN
open PySem PySem.Spec PyProof.Rows L2 XE
end L2.XN
namespace XE
open PySem
end XE
namespace XE
open PySem PySem.W PyProof.Rows
end XE
namespace L2.XN
open PySem PySem.Spec PyProof.Rows L2 XE
noncomputable def XN(C:Addr)(a:Option Addr)(e:Addr):HO:=.ext λh=>∃t,h.get? e=some {cls:=.ref C,dict:=a,data:=.fields #[.ref t,.none,.none,.none,.bool false,.none]}
noncomputable def fV(H:Hp)(e:Addr):Hp:=λb=>if b=e then none else H b
end L2.XN
namespace L2.XN
open PySem PySem.Spec PyProof.Rows L2 XE
end L2.XN
namespace L2.XN
open PySem PySem.Spec PyProof.Rows L2 XE
end L2.XN
namespace L2.XN
open PySem PySem.Spec PyProof.Rows L2 XE
end L2.XN
namespace L2.XN
open PySem PySem.Spec PyProof.Rows L2 XE
end L2.XN
namespace IR
open PySem PySem.Spec PyProof.Rows L2 L2.XN
section
variable{K:W.Frag}{mg:Str->Option Value}{P:Nat->Option FD}{F:List (Str×Nat)}{G:List (Str×PV)}{B:List Str}{p:Program}{w:World}{base:Heap}{k:Nat}
variable(hG:∀x v,G.lookup x=some v->∃u w,mg x=some u/\RelV w u/\∀Hi n H,Rp K Hi n v H w)(hB:∀x,B.contains x=true->mg x=none)
include hG hB
end
end IR
namespace Law
open PySem PySem.Spec PyProof.Rows L2 IR
noncomputable def j0(i:Nat):Stmt:=PySem.Challenge.pw_unstruck_k23_row_by_parts.main.body.getD i (.Pass ⟨0,0,0,0⟩)
noncomputable def F:List (Str×Nat):=[("cells_of",3),("bits_of",46),("with_line",47),("row_of",48),("hangs_on",70),("joined",71),("parts_of",72),("product_of",41),("line_of_part",73),("board_of_part",74),("row_by_parts",75),("_law_cell",4),("_law_mixed",5),("_law_board",6),("_law_order",21),("_law_blocks",76),("_law_whole",8),("_law_same",9),("_law_all_same",10),("_law_product",77),("_law_good",78),("_law_beside",79),("law",80)]
noncomputable def G:List (Str×PV):=[("CELL",(.str "x")),("HOLE",(.str "."))]
noncomputable def B:List Str:=["len","int","list","tuple","min","max","isinstance","str","bool","range","zip","enumerate","sorted","sum","any","dict"]
noncomputable abbrev s3:Stmt:=j0 3
noncomputable abbrev N3:List Str:=["board","cells","row","line","column","sign"]
noncomputable abbrev s46:Stmt:=j0 5
noncomputable abbrev N46:List Str:=["line","bits","bit","sign"]
noncomputable abbrev s47:Stmt:=j0 6
noncomputable abbrev N47:List Str:=["levels","bits","after","size","level","above","taken","count","bit"]
noncomputable abbrev s48:Stmt:=j0 7
noncomputable abbrev N48:List Str:=["board","levels","line"]
noncomputable abbrev s70:Stmt:=j0 9
noncomputable abbrev N70:List Str:=["part","cell"]
noncomputable abbrev s71:Stmt:=j0 10
noncomputable abbrev N71:List Str:=["parts","cell","cells","part"]
noncomputable abbrev s72:Stmt:=j0 11
noncomputable abbrev N72:List Str:=["board","parts","cell","hanging","apart"]
noncomputable abbrev s41:Stmt:=j0 12
noncomputable abbrev N41:List Str:=["one","other","numbers","place","number","further","factor"]
noncomputable abbrev s73:Stmt:=j0 13
noncomputable abbrev N73:List Str:=["part","row","width"]
noncomputable abbrev s74:Stmt:=j0 14
noncomputable abbrev N74:List Str:=["board","part"]
noncomputable abbrev s75:Stmt:=j0 15
noncomputable abbrev N75:List Str:=["board","numbers","part"]
noncomputable abbrev s4:Stmt:=j0 17
noncomputable abbrev N4:List Str:=["_law_script","_law_k"]
noncomputable abbrev s5:Stmt:=j0 18
noncomputable abbrev N5:List Str:=["_law_cell_here","_law_k","_law_number"]
noncomputable abbrev s6:Stmt:=j0 19
noncomputable abbrev N6:List Str:=["_law_head","_law_cell_here","_law_most","_law_rows","_law_columns","_law_thick","_law_lines","_law_row","_law_signs","_law_column","_law_place","_law_one"]
noncomputable abbrev s21:Stmt:=j0 20
noncomputable abbrev N21:List Str:=["_law_cell_here","_law_many","_law_found","_law_k"]
noncomputable abbrev GR:Stmt:=j0 21
noncomputable abbrev GY:List Str:=["_law_head","_law_cell_here","_law_sizes","_law_wide","_law_rows","_law_columns","_law_lines","_law_k","_law_row","_law_column"]
noncomputable abbrev s8:Stmt:=j0 22
noncomputable abbrev N8:List Str:=["_law_found"]
noncomputable abbrev s9:Stmt:=j0 23
noncomputable abbrev N9:List Str:=["_law_found","_law_due"]
noncomputable abbrev s10:Stmt:=j0 24
noncomputable abbrev N10:List Str:=["_law_found","_law_due","_law_one","_law_other"]
noncomputable abbrev s77:Stmt:=j0 25
noncomputable abbrev N77:List Str:=["_law_one","_law_other","_law_found","_law_k","_law_j"]
noncomputable abbrev s78:Stmt:=j0 26
noncomputable abbrev N78:List Str:=["_law_board_here","_law_due","_law_found"]
noncomputable abbrev s79:Stmt:=j0 27
noncomputable abbrev N79:List Str:=["_law_one","_law_other","_law_lines"]
noncomputable abbrev s80:Stmt:=j0 28
noncomputable abbrev N80:List Str:=["_law_script","_law_k","_law_head","_law_board_here","_law_one","_law_other"]
noncomputable def d3:FD:=⟨6,1,(.cons (.asg 1 true [] (.lst .nil)) (.cons (.forr [2,3] false [0] (.enum (.var 0)) (.cons (.forr [4,5] false [3] (.enum (.var 3)) (.cons (.ife (.val (.cmp .Eq (.var 5) (.con (.str "x")))) (.cons (.app 1 [2,4] (.tup (.cons (.var 2) (.cons (.var 4) .nil)))) .nil) .nil) .nil)) .nil)) (.cons (.ret [1] (.var 1)) .nil)))⟩
noncomputable def d46:FD:=⟨4,1,(.cons (.asg 1 true [] (.lst .nil)) (.cons (.asg 2 false [] (.con (.int 1))) (.cons (.forr [3] true [0] (.seq (.var 0)) (.cons (.ife (.val (.cmp .Eq (.var 3) (.con (.str "x")))) (.cons (.app 1 [2] (.var 2)) .nil) .nil) (.cons (.asg 2 false [] (.bin .Mult (.var 2) (.con (.int 2)))) .nil))) (.cons (.ret [1] (.var 1)) .nil))))⟩
noncomputable def GW:FD:=⟨9,2,(.cons (.hand 2 bn) .nil)⟩
noncomputable def d48:FD:=⟨3,1,(.cons (.asg 1 false [] (.lst (.cons (.dlit (.inl 0) (.con (.int 1))) .nil))) (.cons (.forr [2] true [0] (.seq (.var 0)) (.cons (.asg 1 false [] (.call 47 (.cons (.var 1) (.cons (.call 46 (.cons (.var 2) .nil)) .nil)))) .nil)) (.cons (.ret [1] (.lc (.bf .sumv (.cons (.var 0) .nil)) (.seq (.var 1)) (.yes (.val (.cmp .Gt (.bf .len (.cons (.var 0) .nil)) (.con (.int 0))))) [])) .nil)))⟩
noncomputable def d70:FD:=⟨2,2,(.cons (.ret [] (.bf .any (.cons (.lc (.or (.cmp .Eq (.ix (.var 0) (.con (.int 0))) (.ix (.var 1) (.con (.int 0)))) (.cmp .Eq (.ix (.var 0) (.con (.int 1))) (.ix (.var 1) (.con (.int 1))))) (.seq (.var 0)) .no [1]) .nil))) .nil)⟩
noncomputable def d71:FD:=⟨4,2,(.cons (.asg 2 true [1] (.lst (.cons (.var 1) .nil))) (.cons (.forr [3] true [0] (.seq (.var 0)) (.cons (.ext 2 (.var 3)) .nil)) (.cons (.ret [2] (.bf .sorted (.cons (.var 2) .nil))) .nil)))⟩
noncomputable def d72:FD:=⟨5,1,(.cons (.asg 1 false [] (.lst .nil)) (.cons (.forr [2] true [] (.seq (.call 3 (.cons (.var 0) .nil))) (.cons (.asg 3 false [] (.lc (.var 0) (.seq (.var 1)) (.yes (.val (.call 70 (.cons (.var 0) (.cons (.var 1) .nil))))) [2])) (.cons (.asg 4 false [] (.lc (.var 0) (.seq (.var 1)) (.yes (.not (.val (.call 70 (.cons (.var 0) (.cons (.var 1) .nil)))))) [2])) (.cons (.asg 1 false [4] (.bin .Add (.var 4) (.lst (.cons (.call 71 (.cons (.var 3) (.cons (.var 2) .nil))) .nil)))) .nil)))) (.cons (.ret [1] (.bf .sorted (.cons (.var 1) .nil))) .nil)))⟩
noncomputable def d41:FD:=⟨7,2,(.cons (.asg 2 true [] (.bin .Mult (.lst (.cons (.con (.int 0)) .nil)) (.bin .Sub (.bin .Add (.bf .len (.cons (.var 0) .nil)) (.bf .len (.cons (.var 1) .nil))) (.con (.int 1))))) (.cons (.forr [3,4] false [0] (.enum (.var 0)) (.cons (.forr [5,6] false [1] (.enum (.var 1)) (.cons (.augS 2 .Add (.bin .Add (.var 3) (.var 5)) (.bin .Mult (.var 4) (.var 6))) .nil)) .nil)) (.cons (.ret [2] (.var 2)) .nil)))⟩
noncomputable def d73:FD:=⟨3,3,(.cons (.ret [] (.mth .join (.con (.str "")) (.cons (.lc (.ite (.val (.cmp .In (.tup (.cons (.var 2) (.cons (.var 0) .nil))) (.var 1))) (.con (.str "x")) (.con (.str "."))) (.rng (.cons (.var 2) .nil)) .no [0,1]) .nil))) .nil)⟩
noncomputable def d74:FD:=⟨2,2,(.cons (.ret [] (.bf .tuple (.cons (.lc2 (.call 73 (.cons (.var 2) (.cons (.var 0) (.cons (.bf .len (.cons (.var 1) .nil)) .nil)))) (.enum (.var 0)) .no [1]) .nil))) .nil)⟩
noncomputable def d75:FD:=⟨3,1,(.cons (.asg 1 false [] (.lst (.cons (.con (.int 1)) .nil))) (.cons (.forr [2] true [] (.seq (.call 72 (.cons (.var 0) .nil))) (.cons (.asg 1 false [] (.call 41 (.cons (.var 1) (.cons (.call 48 (.cons (.call 74 (.cons (.var 0) (.cons (.var 2) .nil))) .nil)) .nil)))) .nil)) (.cons (.ret [1] (.var 1)) .nil)))⟩
noncomputable def d4:FD:=⟨2,2,(.cons (.ife (.val (.cmp .Lt (.var 1) (.bf .len (.cons (.var 0) .nil)))) (.cons (.ret [] (.ix (.var 0) (.var 1))) .nil) .nil) (.cons (.ret [] (.con (.int 0))) .nil))⟩
noncomputable def d5:FD:=⟨3,2,(.cons (.asg 2 false [] (.bin .Mod (.bin .Add (.bin .Add (.bin .Mult (.bin .Mod (.var 0) (.con (.int 2147483647))) (.con (.int 39373))) (.bin .Mult (.bin .Mult (.con (.int 7877)) (.var 1)) (.var 1))) (.con (.int 60493))) (.con (.int 2147483647)))) (.cons (.asg 2 false [] (.bin .Mod (.bin .Mult (.var 2) (.var 2)) (.con (.int 2147483629)))) (.cons (.ret [2,1,2] (.bin .Mod (.bin .Mult (.bin .Add (.bin .Mult (.var 2) (.con (.int 48271))) (.var 1)) (.var 2)) (.con (.int 2147483587)))) .nil)))⟩
noncomputable def d6:FD:=⟨12,3,(.cons (.asg 3 false [] (.bin .Add (.con (.int 1)) (.bin .Mod (.var 0) (.var 2)))) (.cons (.asg 4 false [] (.bin .Add (.con (.int 1)) (.bin .Mod (.bin .FloorDiv (.var 0) (.con (.int 8))) (.var 2)))) (.cons (.asg 5 false [] (.bin .Add (.con (.int 1)) (.bin .Mod (.bin .FloorDiv (.var 0) (.con (.int 64))) (.con (.int 8))))) (.cons (.asg 6 true [] (.lst .nil)) (.cons (.forr [7] true [] (.rng (.cons (.var 3) .nil)) (.cons (.asg 8 false [] (.con (.str ""))) (.cons (.forr [9] true [] (.rng (.cons (.var 4) .nil)) (.cons (.asg 10 false [] (.bin .Add (.bin .Mult (.var 4) (.var 7)) (.var 9))) (.cons (.asg 11 false [] (.cmp .Eq (.bin .Mod (.bin .FloorDiv (.var 1) (.bin .LShift (.con (.int 1)) (.var 10))) (.con (.int 2))) (.con (.int 1)))) (.cons (.ife (.val (.cmp .Lt (.var 1) (.bin .LShift (.con (.int 1)) (.con (.int 64))))) (.cons (.asg 11 false [] (.cmp .Lt (.bin .Mod (.call 5 (.cons (.var 1) (.cons (.var 10) .nil))) (.con (.int 8))) (.var 5))) .nil) .nil) (.cons (.asg 8 false [8] (.bin .Add (.var 8) (.ix (.lst (.cons (.con (.str ".")) (.cons (.con (.str "x")) .nil))) (.bf .int (.cons (.var 11) .nil))))) .nil))))) (.cons (.app 6 [8] (.var 8)) .nil)))) (.cons (.ret [6] (.bf .tuple (.cons (.var 6) .nil))) .nil))))))⟩
noncomputable def d21:FD:=⟨4,2,(.cons (.asg 2 true [] (.lst .nil)) (.cons (.forr [3] true [] (.rng (.cons (.var 1) .nil)) (.cons (.ins 2 (.bin .Mod (.var 0) (.bin .Add (.var 3) (.con (.int 1)))) (.var 3)) (.cons (.asg 0 false [] (.bin .FloorDiv (.var 0) (.bin .Add (.var 3) (.con (.int 1))))) .nil))) (.cons (.ret [2] (.var 2)) .nil)))⟩
noncomputable def IQ:FD:=⟨10,2,(.cons (.drop (.call 20001 (.cons (.con .non) .nil))) (.cons (.hand 2 Fs) .nil))⟩
noncomputable def d8:FD:=⟨1,1,(.cons (.ret [] (.and (.bf (.isin "int") (.cons (.var 0) .nil)) (.not (.bf (.isin "bool") (.cons (.var 0) .nil))))) .nil)⟩
noncomputable def d9:FD:=⟨2,2,(.cons (.ife (.val (.cmp .Is (.var 1) (.con .non))) (.cons (.ret [] (.cmp .Is (.var 0) (.con .non))) .nil) .nil) (.cons (.ife (.val (.bf (.isin "tuple") (.cons (.var 1) .nil))) (.cons (.ret [] (.and (.bf (.isin "tuple") (.cons (.var 0) .nil)) (.and (.cmp .Eq (.bf .len (.cons (.var 0) .nil)) (.bf .len (.cons (.var 1) .nil))) (.call 10 (.cons (.bf .list (.cons (.var 0) .nil)) (.cons (.bf .list (.cons (.var 1) .nil)) .nil)))))) .nil) .nil) (.cons (.ife (.val (.bf (.isin "list") (.cons (.var 1) .nil))) (.cons (.ret [] (.and (.bf (.isin "list") (.cons (.var 0) .nil)) (.and (.cmp .Eq (.bf .len (.cons (.var 0) .nil)) (.bf .len (.cons (.var 1) .nil))) (.call 10 (.cons (.var 0) (.cons (.var 1) .nil)))))) .nil) .nil) (.cons (.ife (.val (.bf (.isin "str") (.cons (.var 1) .nil))) (.cons (.ret [] (.and (.bf (.isin "str") (.cons (.var 0) .nil)) (.cmp .Eq (.var 0) (.var 1)))) .nil) .nil) (.cons (.ret [] (.and (.call 8 (.cons (.var 0) .nil)) (.cmp .Eq (.var 0) (.var 1)))) .nil)))))⟩
noncomputable def d10:FD:=⟨4,2,(.cons (.forr [2,3] false [0,1] (.zip (.var 0) (.var 1)) (.cons (.ife (.not (.val (.call 9 (.cons (.var 2) (.cons (.var 3) .nil))))) (.cons (.ret [] (.con (.bl false))) .nil) .nil) .nil)) (.cons (.ret [] (.con (.bl true))) .nil))⟩
noncomputable def d77:FD:=⟨5,2,(.cons (.asg 2 true [] (.lc (.con (.int 0)) (.rng (.cons (.bin .Sub (.bin .Add (.bf .len (.cons (.var 0) .nil)) (.bf .len (.cons (.var 1) .nil))) (.con (.int 1))) .nil)) .no [])) (.cons (.forr [3] true [] (.rng (.cons (.bf .len (.cons (.var 0) .nil)) .nil)) (.cons (.forr [4] true [] (.rng (.cons (.bf .len (.cons (.var 1) .nil)) .nil)) (.cons (.seti 2 [] (.bin .Add (.var 3) (.var 4)) (.bin .Add (.ix (.var 2) (.bin .Add (.var 3) (.var 4))) (.bin .Mult (.ix (.var 0) (.var 3)) (.ix (.var 1) (.var 4))))) .nil)) .nil)) (.cons (.ret [2] (.var 2)) .nil)))⟩
noncomputable def d78:FD:=⟨3,1,(.cons (.asg 1 false [] (.call 48 (.cons (.var 0) .nil))) (.cons (.asg 2 true [] (.call 75 (.cons (.var 0) .nil))) (.cons (.ife (.not (.val (.call 9 (.cons (.var 2) (.cons (.var 1) .nil))))) (.cons (.ret [] (.con (.bl false))) .nil) .nil) (.cons (.app 2 [] (.con (.int 1))) (.cons (.ret [] (.call 9 (.cons (.call 75 (.cons (.var 0) .nil)) (.cons (.var 1) .nil)))) .nil)))))⟩
noncomputable def d79:FD:=⟨3,2,(.cons (.asg 2 false [] (.lc (.bin .Add (.var 0) (.bin .Mult (.con (.str ".")) (.bf .len (.cons (.ix (.var 1) (.con (.int 0))) .nil)))) (.seq (.var 0)) .no [1])) (.cons (.ret [2,1] (.bf .tuple (.cons (.bin .Add (.var 2) (.lc (.bin .Add (.bin .Mult (.con (.str ".")) (.bf .len (.cons (.ix (.var 1) (.con (.int 0))) .nil))) (.var 0)) (.seq (.var 1)) .no [0])) .nil))) .nil))⟩
noncomputable def d80:FD:=⟨6,1,(.cons (.forr [1] true [] (.rng (.cons (.con (.int 0)) (.cons (.bf .min (.cons (.bf .max (.cons (.bf .len (.cons (.var 0) .nil)) (.cons (.con (.int 1)) .nil))) (.cons (.con (.int 4)) .nil))) (.cons (.con (.int 2)) .nil)))) (.cons (.asg 2 false [] (.call 4 (.cons (.var 0) (.cons (.var 1) .nil)))) (.cons (.asg 3 false [] (.call 6 (.cons (.bin .FloorDiv (.var 2) (.con (.int 3))) (.cons (.call 4 (.cons (.var 0) (.cons (.bin .Add (.var 1) (.con (.int 1))) .nil))) (.cons (.con (.int 8)) .nil))))) (.cons (.ife (.val (.cmp .Eq (.bin .Mod (.var 2) (.con (.int 3))) (.con (.int 1)))) (.cons (.asg 3 false [] (.call 76 (.cons (.bin .FloorDiv (.var 2) (.con (.int 3))) (.cons (.call 4 (.cons (.var 0) (.cons (.bin .Add (.var 1) (.con (.int 1))) .nil))) .nil)))) .nil) .nil) (.cons (.ife (.not (.val (.call 78 (.cons (.var 3) .nil)))) (.cons (.ret [] (.con (.bl false))) .nil) .nil) .nil))))) (.cons (.asg 4 false [] (.call 6 (.cons (.call 4 (.cons (.var 0) (.cons (.con (.int 4)) .nil))) (.cons (.call 4 (.cons (.var 0) (.cons (.con (.int 5)) .nil))) (.cons (.con (.int 4)) .nil))))) (.cons (.asg 5 false [] (.call 6 (.cons (.call 4 (.cons (.var 0) (.cons (.con (.int 6)) .nil))) (.cons (.call 4 (.cons (.var 0) (.cons (.con (.int 7)) .nil))) (.cons (.con (.int 4)) .nil))))) (.cons (.ret [] (.call 9 (.cons (.call 75 (.cons (.call 79 (.cons (.var 4) (.cons (.var 5) .nil))) .nil)) (.cons (.call 77 (.cons (.call 48 (.cons (.var 4) .nil)) (.cons (.call 48 (.cons (.var 5) .nil)) .nil))) .nil)))) .nil))))⟩
noncomputable def P:Nat->Option FD:=λn=>match n with
 |3=>some d3|4=>some d4|5=>some d5|6=>some d6|8=>some d8|9=>some d9|10=>some d10|21=>some d21|41=>some d41|46=>some d46|47=>some GW|48=>some d48|70=>some d70|71=>some d71|72=>some d72|73=>some d73|74=>some d74|75=>some d75|76=>some IQ|77=>some d77|78=>some d78|79=>some d79|80=>some d80|20000=>some ⟨1,1,.cons (.ret [] (.con .non)) .nil⟩|20001=>some ⟨1,1,.cons (.ret [] (.call 20000 (.cons (.con .non) .nil))) .nil⟩|_=>none
end Law
namespace Law
open PySem IR L2
local macro_rules | `(tactic| walk_at "ev") => do
  let ids <- ("sc Option.bind_some Option.map_some Option.bind_none List.length_cons List.length_nil if_true if_false Nat.reduceAdd Nat.reduceSub List.map_cons List.map_nil List.replicate List.append_nil List.cons_append List.nil_append imm imms vk zK kz zJ FS FT CI CG zr FY El Ck List.getD_cons_zero List.getD_cons_succ Ik at_1 Ao cw cX cz cx dB cZ cc cr cy c7 cf cg cY cu cq ck ci wS wT wc wd Ae Ad AQ AR AO AS cE Aj Ai yo yn Bz Bw Bu CM kl FN km yb ym dQ uc dR fc CB jv nQ Cj Cd Cg ub Ch Ce Ci Ff Fg CW CV List.set_cons_zero List.set_cons_succ HL EB EC tK Ap wv zn yr Az mh Ay A0 Fz Cn Cm AA AB v3 v4 v2 zt Fx Fy zz setU ix_L ix_T ix_O ix_B mf dq De Dd Df Dg sH sK sF sI sE eq_self decide_true decide_false pj nJ pi pf nI nG nH lZ lX lY lW reduceCtorEq bne_self_eq_false beq_self_eq_true Bool.true_bne Bool.bne_true Bool.false_bne Bool.bne_false LN Nat.reduceLeDiff Nat.reduceLT Nat.reducePow Int.reduceLT Int.reduceLE Int.reducePow Int.reduceNeg Int.natAbs_one and_self true_and and_true or_true true_or reduceIte Bool.not_true Bool.not_false Bool.and_true Bool.or_true Bool.or_false Bool.true_or Bool.false_or Bool.true_and Bool.and_false Bool.false_and Bool.false_eq_true keeps lT pN List.getElem?_cons_zero List.getElem?_cons_succ".splitOn " ").toArray.mapM fun s => do
   let i := Lean.mkIdent s.toName
   `(Lean.Parser.Tactic.simpLemma| $i:ident)
  `(tactic| (try simp -implicitDefEqProofs only [$ids,*]))
local macro_rules | `(tactic| walk_at "go") => `(tactic| (walk_at "ev"; repeat (rw [JI (by first | omega | assumption | decide)]; walk_at "ev")))
noncomputable def zf(i j:Nat):PV:=.tup [.int (i:Nat),.int (j:Nat)]
noncomputable def kE(a:List Str)(i j:Nat):List PV:=((List.range j).filter λc=>cd a i c==120).map λc=>zf i c
noncomputable def lK(a:List Str)(w i:Nat):List PV:=(List.range i).flatMap λr=>kE a r w
theorem vJ(a:List Str)(i j:Nat):kE a i (j+1)=kE a i j++(if cd a i j==120 then[zf i j]else[]):=by unfold kE;rw[Le,K5,Jo];cases h:cd a i j==120<;>simp[h]
theorem mR(a:List Str)(w i:Nat):lK a w (i+1)=lK a w i++kE a i w:=by unfold lK;rw[Le,List.flatMap_append];simp
theorem o8(a:List Str)(i j:Nat):(kE a i j).length<=j:=by unfold kE;rw[JC];exact Jw (Ko _ _) (by rw[Je];exact JH _)
theorem lJ(a:List Str)(w:Nat):∀i,(lK a w i).length<=i*w
 |0=>by simp[lK]|i+1=>by rw[mR,JM,Nat.succ_mul];have:=lJ a w i;have:=o8 a i w;omega
theorem c4(k:Nat)(a:List Int)(j:Nat):aC P (k+1) 4 [.lst (a.map .int),.int j]=some (.int (a.getD j 0)):=by
 refine run rfl rfl ?_;simp only[d4,entry];walk_at "ev"
 by_cases h:j<a.length
 ·have b:(j:Int)<((a.map PV.int).length:Nat):=by rw[JC];omega
  have c:eo (a.map PV.int) (j:Int)=some (.int a[j]):=cH (by rw[JP,JN h];rfl);simp only[b,decide_true,LX,c];walk_at "ev";simp[h]
 ·have b:¬(j:Int)<((a.map PV.int).length:Nat):=by rw[JC];omega
  simp only[b,decide_false];walk_at "ev";simp[h]
theorem c5(k:Nat)(c j:Int)(d:0<=j)(e:j<=1000000):∃r:Int,0<=r/\r<2147483587/\aC P (k+1) 5 [.int c,.int j]=some (.int r):=by
 obtain⟨v,h,r,b,a,rfl⟩:∃v,aC P (k+1) 5 [.int c,.int j]=some v/\∃r:Int,0<=r/\r<2147483587/\v=.int r:=by refine DA rfl rfl ?_;simp only[d5,entry];walk_at "go";exact⟨_,rfl,_,Int.emod_nonneg _ (by decide),MQ _ (by decide),rfl⟩
 exact⟨r,b,a,h⟩
noncomputable def qb(z:Str)(n:Nat):Prop:=z.length=n/\∀c∈z.cps.toList,c=120\/c=46
theorem qb.more(h:qb z n)(b:y=("x":Str)\/y=(".":Str)):qb (z++y) (n+1):=by
 refine⟨?_,λc a=> ?_⟩
 ·rw[PySem.Str.length_append,h.1]
  rcases b with rfl|rfl<;>rfl
 ·rw[MF,J3,Jn]at a
  rcases a with a|a
  ·exact h.2 c a
  ·rcases b with rfl|rfl
   ·have:c∈[120]:=a
    simp at this;exact .inl this
   ·have:c∈[46]:=a
    simp at this;exact .inr this
noncomputable def pick(b:Bool):Str:=if b then "x" else "."
theorem BK(b:Bool):eo [PV.str ".",PV.str "x"] (if b then 1 else 0)=some (.str (pick b)):=by cases b<;>rfl
theorem xq(b:Bool):(pick b).length=1:=by cases b<;>rfl
theorem vL(b:Bool):pick b=("x":Str)\/pick b=(".":Str):=by cases b;exact .inr rfl;exact .inl rfl
theorem EF{j:Int}(b:0<=j)(c:j<=100):(0:Int)<1*2^j.toNat/\(1:Int)*2^j.toNat<2^200:=by
 have d:(0:Int)<2^j.toNat:=Int.pow_pos (by decide);refine⟨by omega,?_⟩;have a:(2:Nat)^j.toNat<2^200:=Nat.pow_lt_pow_right (by decide) (by omega);rw[Int.one_mul]
 exact_mod_cast a
noncomputable abbrev bI1(x c R C h:Int)(m i:Nat)(j:En):Prop:=∃(f:List Str)(a b d e g:TV),j=[.frz (.int x) true,.frz (.int c) true,.frz (.int m) true,.frz (.int R) true,.frz (.int C) true,.frz (.int h) true,.own (f.map .str) true,a,b,d,e,g]/\f.length=i/\∀r∈f,qb r C.toNat
noncomputable abbrev bI2(x c R C b:Int)(m:Nat)(a:List Str)(i:Int)(j:Nat)(f:En):Prop:=∃(z:Str)(d e g:TV),f=[.frz (.int x) true,.frz (.int c) true,.frz (.int m) true,.frz (.int R) true,.frz (.int C) true,.frz (.int b) true,.own (a.map .str) true,.frz (.int i) true,.frz (.str z) true,d,e,g]/\qb z j
theorem c6(k:Nat)(x c:Int)(m:Nat)(S:1<=m)(U:m<=8):∃v,aC P (k+2) 6 [.int x,.int c,.int m]=some v/\∃o:List Str,UM.JA m o/\v=.tup (o.map .str):=by
 have Z:0<=x%(m:Int):=Int.emod_nonneg _ (by omega);have V:x%(m:Int)<m:=MQ _ (by omega);have Y:0<=x/8%(m:Int):=Int.emod_nonneg _ (by omega);have W:x/8%(m:Int)<m:=MQ _ (by omega);have hm:(0:Int)<m:=by omega
 refine DA rfl rfl ?_;simp only[d6,entry];walk_at "go";obtain⟨R,L⟩:∃R,R=1+x%(m:Int):=⟨_,rfl⟩;obtain⟨C,M⟩:∃C,C=1+x/8%(m:Int):=⟨_,rfl⟩;obtain⟨t,G⟩:∃t,t=1+x/64%8:=⟨_,rfl⟩;rw[<- L,<-M,<-G];refine cR (xs:=(List.range R.toNat).map λi=>.int (0+(i:Nat))) (n:=true) ?_ (bI1 x c R C t m) ?_ ?_ ?_
 ·walk_at "ev"
  simp only[i7,cE];rw[JI ⟨by omega,by omega⟩];rfl
 ·exact⟨[],.un,.un,.un,.un,.un,rfl,rfl,λr hr=>by cases hr⟩
 ·rintro i y s E ⟨p,a,b,d,e,g,rfl,A,l⟩
  obtain⟨O,rfl⟩:=gl E;refine⟨_,rfl,?_⟩;walk_at "ev";refine cR (xs:=(List.range C.toNat).map λi=>.int (0+(i:Nat))) (n:=true) ?_ (bI2 x c R C t m p i) ?_ ?_ ?_
  ·walk_at "ev"
   simp only[i7,cE];rw[JI ⟨by omega,by omega⟩];rfl
  ·exact⟨_,d,e,g,rfl,rfl,λc hc=>by cases hc⟩
  ·rintro j y s E ⟨z,d,e,g,rfl,w⟩
   obtain⟨Q,rfl⟩:=gl E;refine⟨_,rfl,?_⟩;have F:0<=C*(i:Int)+(j:Int)/\C*(i:Int)+(j:Int)<=100:=by have N:(0:Int)<=C*(i:Int):=Int.mul_nonneg (by omega) (by omega);have T:C*(i:Int)<=8*8:=Int.mul_le_mul (by omega) (by omega) (by omega) (by omega);omega
   have H:=w.1;have D:∀b,z.length+(pick b).length<=LN:=λb=>by rw[xq];show z.length+1<=16777216;omega
   have I:=EF F.1 F.2;walk_at "go"
   have u:∀(b:Bool)(s:En),s=[.frz (.int x) true,.frz (.int c) true,.frz (.int m) true,.frz (.int R) true,.frz (.int C) true,.frz (.int t) true,.own (p.map .str) true,.frz (.int i) true,.frz (.str z) true,.frz (.int j) true,.frz (.int (C*(i:Int)+(j:Int))) true,.frz (.bl b) true] -> To (bx (aC P (k+1)) 1000000 (.cons (.asg 8 false [] (.bin .Add (.var 8) (.ix (.lst (.cons (.con (.str ".")) (.cons (.con (.str "x")) .nil))) (.bf .int (.cons (.var 11) .nil))))) .nil) s) λf=>match f with
      | .nx B=>bI2 x c R C t m p i (j+1) B|_=>False:=by
    rintro b s rfl;have:=D b;walk_at "go";rw[BK];walk_at "go";exact⟨_,_,_,_,rfl,w.more (vL b)⟩
   split
   ·obtain⟨q,b1,X,J⟩:=c5 k c (C*(i:Int)+(j:Int)) F.1 (by omega)
    walk_at "ev";rw[J];walk_at "go";refine(u _ _ rfl).imp λf h=> ?_;cases f<;>first|exact h|exact h.elim
   ·walk_at "ev"
    refine(u _ _ rfl).imp λf h=> ?_;cases f<;>first|exact h|exact h.elim
  ·rintro s ⟨z,d,e,g,rfl,w⟩
   rw[mj]at w;walk_at "ev";rw[gn rfl (by rw[JC];show p.length<16777216;omega)];walk_at "ev";refine⟨p++[z],_,_,_,_,_,by rw[Jo];rfl,by rw[JM,A];rfl,λr hr=> ?_⟩
   rcases Jn.mp hr with h|h
   ·exact l r h
   ·have K :r=z:=by simpa using h
    rw[K];exact w
 ·rintro s ⟨p,a,b,d,e,g,rfl,A,l⟩
  rw[mj]at A;walk_at "ev";refine⟨_,rfl,p,⟨?_,by omega,⟨C.toNat,by omega,by omega,λr hr=>(l r hr).1⟩,λr hr=>(l r hr).2⟩,rfl⟩;intro z;rw[z]at A;simp at A;omega
theorem cD{a:Type}{f:PV->Option (Option (PV×Bool))}{F:a->PV}{G:a->PV}{l:List a}(h:∀x∈l,f (F x)=some (some (G x,true))):bq f (l.map F)=some (l.map G,true):=by
 induction l with
 |nil=>rfl|cons x l b =>rw[JR,bq,h x JL,b λy hy=>h y (JF _ hy)];rfl
theorem om(a:List Nat):dc (a.map λc=>PV.str ⟨#[c]⟩)=some (a.map λc=>(⟨#[c]⟩:Str)):=by
 induction a with
 |nil=>rfl|cons c a b=>rw[JR,dc,b];rfl
theorem uv(a:List Nat):((a.map λc=>(⟨#[c]⟩:Str)).map (·.length)).sum=a.length:=by
 induction a with
 |nil=>rfl|cons c a b=>rw[JR,JR,Kz,b,JY];show 1+_=_;omega
theorem rf{a:List Nat}(h:a.length<=1000):pO .join (.frz (.str (Str.ofString "")) n) [.own (a.map λc=>.str ⟨#[c]⟩) m]=some (sc (.str ⟨a.toArray⟩)):=by
 have e:pO .join (.frz (.str (Str.ofString "")) n) [.own (a.map λc=>.str ⟨#[c]⟩) m]=(dc (a.map λc=>PV.str ⟨#[c]⟩)).bind λys=>if(ys.map (·.length)).sum+ys.length*(Str.ofString "").length<=LN then some (sc (.str (fj (Str.ofString "") ys)))else none:=rfl
 rw[e,om,Jl,uv,JI (by show a.length+_*0<=16777216;omega),<-nN];rw[show Str.join (Str.ofString "") (a.map λc=>(⟨#[c]⟩:Str))=txt a from kd a];rfl
theorem lC(h:i<a.length)(j:Nat):cd a i j=a[i].cps.toList.getD j 0:=by unfold cd;rw[show a.getD i ⟨#[]⟩=a[i]from by rw[List.getD,JN h];rfl]
theorem zg(h:¬i<rows.length)(j:Nat):cd rows i j=0:=by unfold cd;rw[show rows.getD i ⟨#[]⟩=⟨#[]⟩from by rw[List.getD,Jz (by omega)];rfl];rfl
theorem qP(d:Wd a w)(h:cd a i j=120):i<a.length/\j<w:=by
 have e:=h;unfold cd at e
 by_cases b:i<a.length
 ·refine⟨b,?_⟩
  have f:a.getD i ⟨#[]⟩=a[i]:=by rw[List.getD,JN b];rfl
  have g:a[i].cps.toList.length=w:=by rw[JZ];exact d _ (KY b)
  by_cases c:j<w;exact c
  ·rw[f,List.getD,Jz (by omega)]at e
   cases e
 ·rw[show a.getD i ⟨#[]⟩=⟨#[]⟩from by rw[List.getD,Jz (by omega)];rfl]at e
  cases e
theorem c8(k:Nat)(i:Int):aC P (k+1) 8 [.int i]=some (.bl true):=by refine run rfl rfl ?_;simp only[d8,entry];walk_at "ev"
noncomputable def plain:PV->Bool
 | .non=>true| .int _=>true| .str _=>true
 | .lst a=>plains a| .tup a=>plains a|_=>false
where plains:List PV->Bool
 |[]=>true|x::a=>plain x&&plains a
noncomputable def depth:PV->Nat
 | .lst a=>depths a+1| .tup a=>depths a+1|_=>1
where depths:List PV->Nat
 |[]=>0|x::a=>max (depth x) (depths a)
theorem kO:∀{b:List PV}{x:PV},plain.plains b=true->x∈b->plain x=true
 |[],_,_,h=>by cases h|y::ys,x,h,a=>by
  rw[plain.plains,JJ]at h
  rcases JU.mp a with rfl|a
  ·exact h.1
  ·exact kO h.2 a
theorem k8:∀{b:List PV}{x:PV},x∈b->depth x<=depth.depths b
 |[],_,h=>by cases h|y::ys,x,a=>by
  rw[depth.depths]
  rcases JU.mp a with rfl|a
  ·exact Nat.le_max_left _ _
  ·exact Jw (k8 a) (Nat.le_max_right _ _)
theorem c10(k:Nat)(c:List PV)(h:∀x∈c,aC P k 9 [x,x]=some (.bl true)):aC P (k+1) 10 [.lst c,.lst c]=some (.bl true):=by
 refine cK rfl rfl ?_;simp only[d10,entry];walk_at "ev";refine cR (xs:=List.zipWith tq c c) (n:=false) ?_ (λi f=>∃a b,f=[.frz (.lst c) false,.frz (.lst c) false,a,b]) ⟨_,_,rfl⟩ ?_ ?_
 ·walk_at "ev"
  simp only[wZ,yZ,LX,KF];rfl
 ·rintro i y f d ⟨a,b,rfl⟩
  rw[K7]at d;cases e:c[i]? with
  |none=>rw[e]at d;cases d|some x =>rw[e]at d;cases d;refine⟨_,rfl,?_⟩;walk_at "ev";rw[h x (Jd e)];walk_at "ev";exact⟨_,_,rfl⟩
 ·rintro f ⟨a,b,rfl⟩
  walk_at "ev"
theorem c9(n k:Nat)(v:PV)(hd:depth v<=n)(hp:plain v=true):aC P (2*n+k) 9 [v,v]=some (.bl true):=by
 induction n generalizing v with
 |zero =>
  cases v with
  |non=>(simp[depth]at hd)|bl b=>cases hp|int i=>(simp[depth]at hd)|str z=>(simp[depth]at hd)|lst xs=>(simp[depth]at hd)|tup xs=>(simp[depth]at hd)|dK _ _=>cases hp|dT _ _=>cases hp
 |succ n ih =>
  have e:2*(n+1)+k=(2*n+k+1)+1:=by omega
  rw[e];have inner:∀xs:List PV,depth.depths xs<=n->plain.plains xs=true->aC P (2*n+k+1) 10 [.lst xs,.lst xs]=some (.bl true):=λxs h1 h2=>c10 _ xs λx hx=>ih x (Jw (k8 hx) h1) (kO h2 hx);refine run rfl rfl ?_;cases v with
  |non =>simp only[d9,entry];walk_at "ev"
  |bl b=>cases hp|int i =>simp only[d9,entry];walk_at "ev";rw[c8];walk_at "ev"
  |str z =>simp only[d9,entry];walk_at "ev"
  |lst xs =>simp only[d9,entry];walk_at "ev";rw[inner xs (by simpa [depth]using hd) (by simpa [plain]using hp)];walk_at "ev"
  |tup xs =>simp only[d9,entry];walk_at "ev";rw[inner xs (by simpa [depth]using hd) (by simpa [plain]using hp)];walk_at "ev"
  |dK _ _=>cases hp|dT _ _=>cases hp
theorem D3{a:List Str}{i:Nat}(b:(a.map PV.str)[i]? =some x):∃z,a[i]? =some z/\z∈a/\x=.str z:=by
 rw[JP]at b;cases e:a[i]? with
 |none=>rw[e]at b;cases b|some z =>rw[e]at b;exact⟨z,rfl,Jd e,(Jb b).symm⟩
theorem c3(k:Nat)(e:List Str)(w:Nat)(s:Wd e w)(I:e.length<=8)(C:w<=8):aC P (k+1) 3 [.tup (e.map .str)]=some (.lst (lK e w e.length)):=by
 refine cK rfl rfl ?_;have q:=bH e;simp only[d3,entry];walk_at "go";rw[q];refine cR (xs:=List.zipWith dr (List.range (e.map PV.str).length) (e.map PV.str)) (n:=true) ?_ (λi g=>∃a b c d,g=[.frz (.tup (e.map .str)) true,.own (lK e w i) true,a,b,c,d]) ⟨_,_,_,_,rfl⟩ ?_ ?_
 ·walk_at "ev"
  rfl
 ·rintro i y g r ⟨a,b,c,d,rfl⟩
  obtain⟨y,h,rfl⟩:=jx r;obtain⟨z,t,D,rfl⟩:=D3 h;refine⟨_,rfl,?_⟩;have x:i<e.length:=(JK.mp t).1;have m:z.length=w:=s z D;walk_at "ev";have o:(signs z).length=w:=by rw[dE];exact m
  refine cR (xs:=List.zipWith dr (List.range (signs z).length) (signs z)) (n:=true) ?_ (λj g=>∃c d,g=[.frz (.tup (e.map .str)) true,.own (lK e w i++kE e i j) true,.frz (.int i) true,.frz (.str z) true,c,d]) ⟨c,d,by simp[kE,dR,fc,nQ,jv]⟩ ?_ ?_
  ·walk_at "ev"
   simp only[k7,KF];rw[o,m]
  ·rintro j y g r ⟨c,d,rfl⟩
   obtain⟨y,f,rfl⟩:=jx r;have A:j<w:=by have:=(JK.mp f).1;omega
   obtain⟨H,u,B,F⟩:=IZ s x A;rw[t]at u;cases u;have h:(signs z)[j]? =some (.str ⟨#[cd e i j]⟩):=by unfold signs;rw[JP,B];rfl
   rw[h]at f;cases f;refine⟨_,rfl,?_⟩;walk_at "ev";rw[ze];have l:(lK e w i++kE e i j).length<LN:=by rw[JM];have E:=lJ e w i;have G:=o8 e i j;have J:i*w<=8*8:=Nat.mul_le_mul (by omega) C;show _<16777216;omega
   have p:=vJ e i j;cases v:cd e i j==120 with
   |true =>rw[v]at p;walk_at "go";rw[gn rfl l];walk_at "ev";exact⟨.frz (.int j) true,.frz (.str ⟨#[cd e i j]⟩) true,by rw[p];simp[zf]⟩
   |false =>rw[v]at p;walk_at "ev";exact⟨.frz (.int j) true,.frz (.str ⟨#[cd e i j]⟩) true,by rw[p];simp⟩
  ·rintro g ⟨c,d,rfl⟩
   rw[iE,o];walk_at "ev";exact⟨_,_,_,_,by rw[mR]⟩
 ·rintro g ⟨a,b,c,d,rfl⟩
  rw[iE,JC];walk_at "ev"
noncomputable def cI(a:List Str)(w:Nat):List (Int×Int):=(List.range a.length).flatMap λr=>((List.range w).filter λc=>cd a r c==120).map λc:Nat=>((r:Int),(c:Int))
theorem zk(a:List Str)(w:Nat):lK a w a.length=(cI a w).map bE:=by
 unfold lK cI kE;rw[List.map_flatMap]
 congr 1
 funext r
 rw[J4];rfl
theorem zi(b:a.length<=8)(c:w<=8):(cI a w).length<=64:=by have e:=J1 List.length (zk a w);rw[JC]at e;rw[<- e];refine Jw (lJ a w a.length) ?_;exact Nat.mul_le_mul b c
theorem lE(h:q∈cI a w):∃r c:Nat,q=((r:Int),(c:Int))/\r<a.length/\c<w/\cd a r c=120:=by unfold cI at h;rw[List.mem_flatMap]at h;obtain⟨r,d,e⟩:=h;obtain⟨c,b,rfl⟩:=JX.mp e;rw[J7,Js,K3]at b;rw[Js]at d;exact⟨r,c,rfl,d,b.1,b.2⟩
theorem Fn(d:r<a.length)(b:c<w)(h:cd a r c=120):((r:Int),(c:Int))∈cI a w:=by unfold cI;rw[List.mem_flatMap];exact⟨r,Js.mpr d,JX.mpr ⟨c,J7.mpr ⟨Js.mpr b,K3.mpr h⟩,rfl⟩⟩
theorem jB:∀a:List (Int×Int),eh (a.map bE)=some a
 |[]=>rfl|p::a=>by show((xm (bE p)).bind λq=>(eh (a.map bE)).map (q::·))=_;rw[jB a];rfl
theorem vB(c:a≠[])(f:a.length<4096)(d:∀q∈a,0<=q.2/\q.2<1000):j9 (a.map bE)=some (.own ((ao a).map bE) true):=by
 unfold j9;have e:aQ (a.map bE)=none:=by
  cases a with
  |nil=>exact absurd rfl c|cons p a=>rfl
 rw[e];show oz _=_;unfold oz;rw[jB];have g:a.all (λq=>decide (0<=q.2)&&decide (q.2<1000))=true:=by
  rw[Jh];intro q b
  simpa using d q b
 show(if a.length<4096/\a.all (λq=>decide (0<=q.2)&&decide (q.2<1000))=true then some (RV.own ((ao a).map bE) true)else none)=_;rw[JI ⟨f,g⟩]
noncomputable abbrev Pr:=Int×Int
noncomputable def hg(c:Pr)(p:List Pr):Bool:=p.any λo=>decide (o.1=c.1)||decide (o.2=c.2)
noncomputable def Do(a:List (List Pr))(c:Pr):List (List Pr):=a.filter (λp=> !hg c p)++[ao (c::(a.filter (hg c)).flatten)]
noncomputable def tN(a:List (List Pr))(c:Pr):List (List Pr):=a.filter (λp=> !hg c p)++[c::(a.filter (hg c)).flatten]
noncomputable def qi(l:List Pr):Prop:=∀q∈l,0<=q.2/\q.2<1000
theorem rD(c:qi b)(p:a.Perm b):ao a=ao b:=gg c ((bO a).trans p) (o4 a)
theorem B6(h:p.Perm q):hg c p=hg c q:=by unfold hg;rw[KU,Lu,Lu];exact⟨λ⟨x,a,b⟩=>⟨x,h.mem_iff.mp a,b⟩,λ⟨x,a,b⟩=>⟨x,h.mem_iff.mpr a,b⟩⟩
theorem jL:∀L:List (List Pr),(L.map ao).flatten.Perm L.flatten
 |[]=>Kr _|p::L=>by rw[JR,Jp,Jp];exact(bO p).append (jL L)
theorem jM(f:List Pr->Bool):∀L:List (List Pr),((L.filter λp=> !f p).flatten++(L.filter f).flatten).Perm L.flatten
 |[]=>Kr _|p::L=>by
  have a:=jM f L;cases e:f p with
  |true =>rw[List.filter_cons_of_neg (by simp[e]),List.filter_cons_of_pos e,Jp,Jp];refine List.Perm.trans ?_ (a.append_left p);rw[<- Jm,<-Jm];exact Lg.append_right _
  |false =>rw[List.filter_cons_of_pos (by simp[e]),List.filter_cons_of_neg (by simp[e]),Jp,Jp,Jm];exact a.append_left p
theorem oy(L:List (List Pr))(c:Pr):(tN L c).flatten.Perm (L.flatten++[c]):=by unfold tN;rw[Lx,Jp,List.flatten_nil,KG];refine(List.perm_middle.trans ?_).trans Lg;rw[List.singleton_append];exact(jM (hg c) L).cons c
theorem Dn(g:qi L.flatten)(d:0<=c.2/\c.2<1000):Do (L.map ao) c=(tN L c).map ao:=by
 have b:∀f:Bool->Bool,(L.map ao).filter (λp=>f (hg c p))=(L.filter λp=>f (hg c p)).map ao:=λf=>by
  rw[List.filter_map]
  congr 1
  refine LH λp _=> ?_;show f (hg c (ao p))=_;rw[B6 (bO p)]
 unfold Do tN;rw[b (!·),show(L.map ao).filter (hg c)=(L.filter (hg c)).map ao from b id,Jo,JR,KO]
 congr 2
 refine rD (λq a=> ?_) ((jL _).cons c)
 rcases JU.mp a with z|z
 ·rw[z]
  exact d
 ·obtain⟨p,e,a⟩:=Kq.mp z
  exact g q (Kq.mpr ⟨p,(J7.mp e).1,a⟩)
noncomputable def Cv(a:List Pr):List (List Pr):=a.foldl tN []
noncomputable def nu(a:List Pr):List (List Pr):=a.foldl Do []
theorem v8(a:List Pr):(Cv a).flatten.Perm a:=by
 have:∀(a:List Pr)(L:List (List Pr)),(a.foldl tN L).flatten.Perm (L.flatten++a):=by
  intro a
  induction a with
  |nil =>intro L;rw[KG];exact Kr _
  |cons c a b =>intro L;refine(b (tN L c)).trans ?_;refine((oy L c).append_right a).trans ?_;rw[Jm];exact Kr _
 have:=this a []
 rwa [List.flatten_nil,Lf]at this
theorem nr(d:qi a):nu a=(Cv a).map ao:=by
 have:∀(a:List Pr)(L:List (List Pr)),qi (L.flatten++a)->a.foldl Do (L.map ao)=(a.foldl tN L).map ao:=by
  intro a
  induction a with
  |nil=>exact λL _=>rfl|cons c a b =>
   intro L h;rw[LB,LB,Dn (λq hq=>h q (by simp[hq])) (h c (by simp))];refine b (tN L c) λq hq=>h q ?_
   rcases Jn.mp hq with z|z
   ·have:=(oy L c).mem_iff.mp z
    rcases Jn.mp this with y|y
    ·exact Kf _ y
    ·rw[Jr.mp y]
     simp
   ·exact Jy _ (JF _ z)
 exact this a [] (by simpa using d)
theorem Cu(a:List Pr):∀p∈Cv a,p≠[]:=by
 have:∀(a:List Pr)(L:List (List Pr)),(∀p∈L,p≠[])->∀p∈a.foldl tN L,p≠[]:=by
  intro a
  induction a with
  |nil=>exact λL h=>h|cons c a b =>
   intro L h;refine b _ λp hp=> ?_;unfold tN at hp
   rcases Jn.mp hp with z|z
   ·exact h p ((J7.mp z).1)
   ·rw[Jr.mp z]
    exact List.cons_ne_nil _ _
 exact this a [] (λp hp=>by cases hp)
theorem xH(h:p≠[]):ao p≠[]:=λz=>by have:=(bO p).length_eq;rw[z]at this;exact h (LS.mp this.symm)
theorem yI{L:List (List Pr)}(p:L.flatten.Perm b)(c:∀p∈L,p≠[]):L.length<=b.length/\∀q∈L,q.length<=b.length:=by
 rw[<- p.length_eq]
 clear p
 induction L with
 |nil=>exact⟨JH _,λq hq=>by cases hq⟩|cons a L d =>
  obtain⟨f,e⟩:=d λp hp=>c p (JF _ hp);have:=LO.mpr (c a JL);rw[Jp,JM,JY];refine⟨by omega,λq hq=> ?_⟩
  rcases JU.mp hq with z|z
  ·rw[z]
   omega
  ·have:=e q z
   omega
theorem yx{L:List (List Pr)}(g:L.flatten.Nodup)(d:qi L.flatten)(f:∀p∈L,p≠[]):(L.map dU).Nodup:=by
 induction L with
 |nil=>exact List.nodup_nil|cons a L i =>
  rw[Jp]at g d;obtain⟨l,k,j⟩:=Kv.mp g;rw[JR,J9];refine⟨λz=> ?_,i k (λq hq=>d q (Jy _ hq)) λp hp=>f p (JF _ hp)⟩;obtain⟨b,c,e⟩:=JX.mp z
  match a,b,f a JL,f b (JF _ c)with
  |x::a,y::b,_,_ =>have e:SW.bt y=SW.bt x:=e;have h:y∈L.flatten:=Kq.mpr ⟨_,c,JL⟩;have:=pc (d y (Jy _ h)) (d x (Kf _ JL)) e;exact j x JL y h this.symm
theorem pC:∀a:List (List Pr),mv (a.map qV)=some a
 |[]=>rfl|q::a=>by show((eh (q.map bE)).bind λq=>(mv (a.map qV)).map (q::·))=_;rw[jB q,pC a];rfl
theorem xF(i:L.flatten.Nodup)(e:qi L.flatten)(d:∀p∈L,p≠[])(h:L.length<4096)(g:a.its=some (L.map qV,true)):gf (L.map qV) a=some (.own ((dk L).map qV) true):=by
 cases L with
 |nil=>simp[gf,j9,aQ,L2.sortI,dk]|cons p L =>
  have f:j9 ((p::L).map qV)=none:=rfl;have b:(p::L).all (λq=> !q.isEmpty&&q.all λp=>decide (0<=p.2)&&decide (p.2<1000))=true:=by
   rw[Jh];intro q c;rw[JJ,Jh];refine⟨?_,λx hx=> ?_⟩
   ·have:=d q c
    cases q with
    |nil=>exact absurd rfl this|cons _ _=>rfl
   ·have:=e x (Kq.mpr ⟨q,c,hx⟩)
    simpa using this
  unfold gf;rw[f,g];show o0 ((p::L).map qV) true=_;unfold o0;rw[pC,Jl,JI ⟨h,b,yx i e d⟩]
theorem uz(c:b≠[])(d:b.length<4096)(e:qi b):gf (b.map bE) a=some (.own ((ao b).map bE) true):=by unfold gf;rw[vB c d e]
theorem qT{a:Type}(f:a->Bool):∀l:List a,el (l.map λx=>.bl (f x))=some (l.map f)
 |[]=>rfl|x::l=>by show(el (l.map λx=>.bl (f x))).map (f x::·)=_;rw[qT f l];rfl
theorem B7(k:Nat)(c o:Pr):(((index (RV.frz (bE o) (imm (bE o))) (RV.frz (PV.int 0) true)).bind λx=>(index (RV.frz (bE c) (imm (bE c))) (RV.frz (PV.int 0) true)).bind λy=>Option.map (λr=>RV.frz (PV.bl r) true) (cM CmpOp.Eq x.val y.val)).bind λx_1=>(iM x_1.val).bind λt=>if t=true then some (RV.frz (PV.bl true) true)else (index (RV.frz (bE o) (imm (bE o))) (RV.frz (PV.int 1) true)).bind λx=>(index (RV.frz (bE c) (imm (bE c))) (RV.frz (PV.int 1) true)).bind λy=>Option.map (λr=>RV.frz (PV.bl r) true) (cM CmpOp.Eq x.val y.val))=some (.frz (.bl (decide (o.1=c.1)||decide (o.2=c.2))) true):=by
 unfold bE;walk_at "ev"
 by_cases e:o.1=c.1
 ·rw[K2 e]
  rfl
 ·rw[J2 e]
  rfl
theorem c70(k:Nat)(c:Pr)(a:List Pr)(b:a.length<=1000):aC P (k+1) 70 [.lst (a.map bE),bE c]=some (.bl (hg c a)):=by refine cK rfl rfl ?_;simp only[d70,entry];walk_at "ev";rw[JI (by rw[JC];omega),eU (g:=λo:Pr=>.bl (decide (o.1=c.1)||decide (o.2=c.2))) (λo _=>by rw[B7 k c o];rfl)];show To ((((el (a.map λo:Pr=>.bl (decide (o.1=c.1)||decide (o.2=c.2)))).map λbs=>sc (.bl (bs.any id))).bind _).bind _) _;rw[qT];walk_at "ev";unfold hg;rw[List.any_map];rfl
theorem FC(c:Pr):imm (bE c)=true:=rfl
theorem c71(k:Nat)(c:Pr)(b:List (List Pr))(o:b.length<=1000)(p:b.flatten.length<=1000)(m:qi (c::b.flatten)):aC P (k+1) 71 [.lst (b.map qV),bE c]=some (qV (ao (c::b.flatten))):=by
 refine cK rfl rfl ?_;simp only[d71,entry];walk_at "ev";rw[FC c];refine cR (xs:=b.map qV) (n:=false) ?_ (λi d=>∃a,d=[.frz (.lst (b.map qV)) false,.frz (bE c) true,.own ((c::(b.take i).flatten).map bE) true,a]) ⟨.un,?_⟩ ?_ ?_
 ·walk_at "ev"
 ·walk_at "ev"
  simp
 ·rintro i y d e ⟨a,rfl⟩
  obtain⟨q,h,rfl⟩:∃q,b[i]? =some q/\y=qV q:=by rw[JP]at e;obtain⟨x,j,rfl⟩:=map_some e;exact⟨x,j,rfl⟩
  refine⟨_,rfl,?_⟩;have g:=kj q;have f:(b.take (i+1)).flatten=(b.take i).flatten++q:=by rw[Kj,h];simp
  have l:(b.take (i+1)).flatten.length<=b.flatten.length:=by rw[<- Jk (i+1) b,Lx,JM];rw[Jk];omega
  rw[f,JM]at l;simp only[Ab,Ac,io,iU,iT,iY,ic,iR,iV,ik,ii,ip,iX,iS,ig,ie,il,iZ,iW,cw,cX,cz,dH,cx,dB,cZ,cc,cr,cy,c7,cf,cg,cY,dJ,cu,cq,dF,ck,ci,dG];show To ((if imms (q.map bE)=true/\((c::(b.take i).flatten).map bE).length+(q.map bE).length<=LN then some (Fl.nx _)else none).bind _) _;rw[JI ⟨g,by show _<=16777216;rw[JC,JC,JY];omega⟩];refine⟨_,rfl,.frz (qV q) (false||imm (qV q)),?_⟩;rw[f,<-List.cons_append,Jo];rfl
 ·rintro d ⟨a,rfl⟩
  walk_at "ev";rw[JC,KW,<-JR,uz (List.cons_ne_nil _ _) (by rw[JY];omega) m];walk_at "ev";rfl
noncomputable def Ig(L:List (List Pr)):Prop:=L.length<=64/\L.flatten.length<=64/\L.flatten.Nodup/\qi L.flatten/\∀p∈L,p≠[]
theorem Fq(p:L.flatten.Perm a)(c:∀p∈L,p≠[])(b:a.length<=64)(d:a.Nodup)(e:qi a):Ig L:=by have l:=yI p c;exact⟨by omega,by rw[p.length_eq];exact b,p.nodup_iff.mpr d,λq hq=>e q (p.mem_iff.mp hq),c⟩
theorem mQ(a:List Pr)(b:qi a):(nu a).flatten.Perm a:=by rw[nr b];exact(jL _).trans (v8 a)
theorem Cr(a:List Pr)(d:qi a):∀p∈nu a,p≠[]:=by rw[nr d];intro p c;obtain⟨q,b,rfl⟩:=JX.mp c;exact xH (Cu a q b)
theorem uu{d a:Type}(f:a->d->a)(b:a)(e:List d)(i:Nat)(c:d)(h:e[i]? =some c):(e.take (i+1)).foldl f b=f ((e.take i).foldl f b) c:=by rw[Kj,h,MW];rfl
theorem Dm{a:List Pr}(b:a.Nodup)(i:Nat):(a.take i).Nodup:=b.sublist (MU _ _)
theorem rC(b:qi a)(i:Nat):qi (a.take i):=λq hq=>b q (Ke hq)
theorem zo(d:a.length<=64)(c:a.Nodup)(b:qi a)(i:Nat):Ig (nu (a.take i)):=Fq (mQ _ (rC b i)) (Cr _ (rC b i)) (by rw[J6];omega) (Dm c i) (rC b i)
theorem zI{L:List (List Pr)}(f:List Pr->Bool):(L.filter f).flatten.length<=L.flatten.length:=by have:=(jM f L).length_eq;rw[JM]at this;omega
theorem part_short{L:List (List Pr)}(h:p∈L):p.length<=L.flatten.length:=by
 induction L with
 |nil=>cases h|cons a L b =>
  rw[Jp,JM]
  rcases JU.mp h with z|z
  ·rw[z]
   omega
  ·have:=b z
   omega
theorem zh(e:List Str)(w:Nat):(cI e w).Nodup:=by
 unfold cI;refine List.pairwise_flatMap.mpr ⟨λr _=> ?_,?_⟩
 ·refine L6 _ (λa b h z=>h ?_) (List.Nodup.sublist List.filter_sublist List.nodup_range)
  have:(a:Int)=(b:Int):=(LC z).2;omega
 ·refine List.Pairwise.imp (λ{a b} h x hx y hy z=>h ?_) (List.nodup_range (n:=e.length))
  obtain⟨c,_,rfl⟩:=JX.mp hx;obtain⟨d,_,rfl⟩:=JX.mp hy;have:(a:Int)=(b:Int):=(LC z).1;omega
theorem zj(d:w<=8):qi (cI rows w):=λq hq=>by obtain⟨r,c,rfl,a,b,_⟩:=lE hq;exact⟨by show(0:Int)<=(c:Int);omega,by show(c:Int)<1000;omega⟩
noncomputable def fq(a:List Str)(w:Nat):List (List Pr):=dk (nu (cI a w))
theorem c72(k:Nat)(e:List Str)(w:Nat)(J:Wd e w)(G:e.length<=8)(s:w<=8):aC P (k+3) 72 [.tup (e.map .str)]=some (.lst ((fq e w).map qV)):=by
 have H:=c3 (k+1) e w J G s;rw[zk]at H;have l:=zi G s;have E:=zh e w;have B:=zj (rows:=e) s;refine cK rfl rfl ?_;simp only[d72,entry];walk_at "ev";refine cR (xs:=(cI e w).map bE) (n:=true) ?_ (λi A=>∃a b c d,A=[.frz (.tup (e.map .str)) d,.frz (.lst ((nu ((cI e w).take i)).map qV)) true,a,b,c]) ⟨.un,.un,.un,imms (e.map PV.str),?_⟩ ?_ ?_
 ·walk_at "ev"
  rw[show k+2=k+1+1 from rfl,H];walk_at "ev"
 ·walk_at "ev"
  rfl
 ·rintro i y A D ⟨a,b,d,t,rfl⟩
  obtain⟨q,F,rfl⟩:∃q,(cI e w)[i]? =some q/\y=bE q:=by rw[JP]at D;obtain⟨x,m,rfl⟩:=map_some D;exact⟨x,m,rfl⟩
  refine⟨_,rfl,?_⟩;obtain⟨b1,u,r,j,o⟩:=zo l E B i;have K:nu ((cI e w).take (i+1))=Do (nu ((cI e w).take i)) q:=uu Do [] _ i q F;rw[K]
  generalize nu ((cI e w).take i)=L at b1 u r j o
  have C:(L.map qV).length<=16777216:=by rw[JC];omega
  have h:∀p∈L,aC P (k+2) 70 [qV p,bE q]=some (.bl (hg q p)):=λp f=>c70 (k+1) q p (by have:=part_short f;omega);have I:0<=q.2/\q.2<1000:=B q (Jd F);have M:=zI (L:=L) (hg q);have v:aC P (k+2) 71 [.lst ((L.filter (hg q)).map qV),bE q]=some (qV (ao (q::(L.filter (hg q)).flatten))):=c71 (k+1) q _ (by have:=Ko (hg q) L;omega) (by omega) λx m=>by
   rcases JU.mp m with z|z
   ·rw[z]
    exact I
   ·obtain⟨p,f,m⟩:=Kq.mp z
    exact j x (Kq.mpr ⟨p,(J7.mp f).1,m⟩)
  walk_at "ev";rw[JI C,eV (p:=hg q) (g:=qV) (λp f=>by
   rw[h p f];walk_at "ev";cases hg q p;walk_at "ev"
   ·walk_at "ev")]
  walk_at "ev";rw[JI C,eV (p:=λp=> !hg q p) (g:=qV) (λp f=>by
   rw[h p f];walk_at "ev";cases hg q p;walk_at "ev"
   ·walk_at "ev")]
  walk_at "ev";rw[v];show To (((lT ((L.filter λp=> !hg q p).map qV++[qV (ao (q::(L.filter (hg q)).flatten))]) true).bind _).bind _) _;unfold lT;rw[JI (by rw[JM,JC];have:=Ko (λp=> !hg q p) L;show _+1<=16777216;omega)];rw[show Do L q=(L.filter λp=> !hg q p)++[ao (q::(L.filter (hg q)).flatten)]from rfl,Jo];walk_at "ev";exact⟨_,_,_,_,rfl⟩
 ·rintro A ⟨a,b,c,t,rfl⟩
  obtain⟨b1,u,r,j,o⟩:=zo l E B (cI e w).length;rw[KW]at b1 u r j o;walk_at "ev";rw[JC,KW,xF r j o (by omega) rfl];walk_at "ev";rfl
section
open PySem.Spec PyProof.Rows
theorem G7:ee N47 ["levels","bits"] (aR s47):=⟨rfl,rfl,rfl,by decide +kernel,rfl,by decide +kernel,by decide +kernel⟩
theorem wf(i:f 47=some GW)(h:aC f (k+1) 47 d=some r):bn d=some r:=by
 unfold aC at h;rw[i]at h;simp only[Jl]at h
 split at h
 ·rename_i c
  have c:d.length=2:=c;obtain⟨a,b,rfl⟩:=Bx c
  ·simp only[GW,Ab,Ac,io,iU,iT,iY,ic,iR,iV,ik,ii,ip,iX,iS,ig,ie,il,iZ,iW,entry]at h
   have e:((List.map (λv=>TV.frz v (imm v)) [a,b]++List.replicate (9-[a,b].length) TV.un).take 2).map TV.valD=[a,b]:=rfl;rw[e]at h;cases g:bn [a,b]with
   |none=>rw[g]at h;cases h|some v=>rw[g]at h;cases h;rfl
 ·cases h
theorem DW(h:bn a=some r):a.length=2:=by
 unfold bn at h
 split at h;rfl;cases h
noncomputable abbrev jW1(H:Hp)(e:Addr)(a:List aa)(i m:Nat)(d:List V)(c :Hp):Prop:=m=a.length-i/\i<=a.length/\∃b,d=b.map V.ref/\qg H e b (a.take i) c
noncomputable abbrev jW2(H:Hp)(h l f:Addr)(k:List Addr)(j:List aa)(B:List Int)(i:Nat)(m:L2.St)(G:Hp):Prop:=∃a b c d e g,m=[some (.ref h),some (.ref l),some (.ref f),a,b,c,d,e,g]/\qg H f k (wl j B i) G
noncomputable abbrev jW3(H:Hp)(k m b:Addr)(h:List Addr)(l:List aa)(B:List Int)(i:Nat)(a c:Addr)(o:Obj)(ct n:aa)(j:Nat)(f:L2.St)(G:Hp):Prop:=∃d e g,f=[some (.ref k),some (.ref m),some (.ref b),some (.int (i:Nat)),some (.ref a),some (.ref c),d,e,g]/\G a=some (.frz o (.dK (bT ct)))/\qg H b h ((wl l B i).set (i+1) ((ct.take j).foldl (dM B) n)) (L2.upd G a (.dK (bT ct)))
noncomputable abbrev jW4(H:Hp)(k n c:Addr)(h:List Addr)(m:List aa)(B:List Int)(i:Nat)(a e:Addr)(o:Obj)(ct:aa)(d b:Int)(j:aa)(l:Nat)(f:L2.St)(G:Hp):Prop:=∃g,f=[some (.ref k),some (.ref n),some (.ref c),some (.int (i:Nat)),some (.ref a),some (.ref e),some (.int d),some (.int b),g]/\G a=some (.frz o (.dK (bT ct)))/\qg H c h ((wl m B i).set (i+1) ((B.take l).foldl (bo d b) j)) (L2.upd G a (.dK (bT ct)))
theorem FM{K:W.Frag}(hdi:mg "dict"=none)(hen:mg "enumerate"=none)(D:Def K mg "with_line" s47 ["levels","bits"] f fd)(p:Program)(w:World)(base:Heap)(k:Nat)(_:∀y g,F.lookup y=some g->∃b gd qs,mg y=some (.ref b)/\W.keepIn K (.ref b)=true/\Binds K gd qs []/\dZ p w K mg base n6 k b gd qs (AW K (aC P k g))):dZ p w K mg base n6 (k+1) f fd ["levels","bits"] (AW K (aC P (k+1) 47)):=by
 refine D.fn.ok G7 (λvs H Q E h=> ?_) (λcdv A outer s H vs Q E hr h=> ?_)
 ·obtain⟨pvs,r,h1,h2,_⟩:=h
  rw[<- h1.len];exact DW (wf rfl h2)
 obtain⟨pvs,r,h1,h2,q⟩:=h
 replace h2:=wf rfl h2
 unfold bn at h2
 split at h2
 case h_2=>cases h2
 rename_i ls bs;cases e1:oa ls with
 |none=>rw[e1]at h2;cases h2|some Ls =>
 cases e2:aQ bs with
 |none=>rw[e1,e2]at h2;cases h2|some B =>
 rw[e1,e2]at h2;dsimp only[Option.bind]at h2
 split at h2
 case isFalse=>cases h2
 rename_i hz;cases h2;obtain⟨z1,z2,z3⟩:=hz;have z3:∀c∈Ls,c.length<=1000:=λc hc=>by simpa using Jh.mp z3 c hc
 have hls:=oZ e1;subst hls;unfold aG at h1;obtain⟨u1,_,rfl,r1,h1⟩:=h1;unfold aG at h1;obtain⟨u2,_,rfl,r2,h1⟩:=h1;unfold aG at h1;subst h1;obtain⟨Lv,us,rfl,_,sqL,rl⟩:=Rp.lst.mp r1;obtain⟨Bt,bu,rfl,_,sqB,rb⟩:=Rp.lst.mp r2;rw[ki e2]at rb;have eb:=aG.ints.mp rb;subst eb;have lv:∀(i:Nat)(c:aa),Ls[i]? =some c->∃a,us[i]? =some (.ref a)/\H a=some (.dK (bT c)):=λi c hc=>by obtain⟨u,hu,ru⟩:=rl.at (i:=i) (x:=jq c) (by rw[JP,hc];rfl);obtain⟨a,rfl,ha⟩:=D1 ru;exact⟨a,hu,bF _ _ ha⟩
 have ulen:us.length=Ls.length:=by have:=rl.len;simpa using this.symm
 have nd:=G7.nd;have hu:=Hv hr;have hs:sizeLine=16777216:=Ka
 refine⟨_,bZ (jA (i:=2) nd rfl (Or.inl rfl) (kQ EY (tf (N' :=["level"]) (src:=[none]) rfl (gr (pv 0)) True.intro rfl (by decide +kernel) (by decide +kernel) rfl) (yD (ae pI bP))))
  (bZ (kL Lm rfl (pH rfl hen (ae (pv 0) bP)) (nA rfl (dP (bW (i:=3) nd rfl (Or.inl rfl)) (dP (bW (i:=4) nd rfl (Or.inl rfl)) jr))) (bZ (jA (i:=5) nd rfl (Or.inl rfl) (yE hE (pv 2) (kQ rS (pv 3) kR) (λ_ _=>rfl))) (cF (BC (kL Lm rfl (yV (pv 4)) (nA rfl (dP (bW (i:=6) nd rfl (Or.inl rfl)) (dP (bW (i:=7) nd rfl (Or.inl rfl)) jr))) (cF (kL Lm rfl (gr (pv 1)) (bW (i:=8) nd rfl (Or.inl rfl)) (cF (xi (tX DF (kQ EZ (pv 6) (pv 8)) kR (Eg _)) (cF (tY hu (pv 5) (kQ DE (pv 6) (pv 8)) (kQ rS (yG hu (pv 5) (kQ DE (pv 6) (pv 8)) kR ⟨rfl,rfl,rfl,rfl⟩) (pv 7)) rfl)) mx))))))))) (cF (xg (pv 2)))),?_⟩
 refine⟨_,rfl,Lv,rfl,⟨_,sqL⟩,λD0 hD0=> ?_⟩;refine⟨jW1 H D0 Ls,⟨Ls.length,by simp,J0 _,[],rfl,⟨aJ hD0 _,hD0,aF,by simp,by simp,by simp,λq d c e=>by simp at e⟩⟩,?_⟩;rintro i m ys H' ⟨rfl,hi,ds,rfl,st⟩
 by_cases hlt:i<Ls.length
 ·right
  have ec:Ls[i]? =some Ls[i]:=by simp[hlt]
  obtain⟨a,ua,ha⟩:=lv i _ ec;refine⟨⟨us,.ref a,st.1.seq sqL,ua⟩,λx H1 y=> ?_⟩;obtain⟨rfl,y⟩:=y;have ex:=y us (st.1.seq sqL);rw[ua]at ex;cases ex;intro C s2 H2 fp cl;refine⟨mE 0,wy,_,bW (by simp) rfl (.inl rfl) (.inr rfl),gq,lw qQ rfl hdi boot_dict (ae (pv 0) bP),?_⟩;refine⟨lG rfl,?_⟩;refine⟨_,rfl,a,_,rfl,.inl (st.1 _ _ ha),λpn hpn=> ?_⟩;have dl:ds.length=i:=by rw[st.2.2.2.2.2.1,J6];omega
  refine⟨by rw[aA (aI st.2.2.1 hpn)];exact st.2.2.1,by rw[JC];omega,Ls.length-(i+1),by omega,rfl,hlt,ds++[pn],by rw[Jo];rfl,?_⟩;have e:Ls.take (i+1)=Ls.take i++[Ls[i]]:=by rw[Kj,ec];rfl
  rw[e];exact st.push hpn
 ·left
  have ei:i=Ls.length:=by omega
  subst ei;rw[KW]at st;refine⟨⟨us,st.1.seq sqL,by omega⟩,?_⟩;intro p0 hp0;refine⟨by show 1<=sizeLine;decide,λl hl=> ?_⟩;have dl:ds.length=Ls.length:=st.2.2.2.2.2.1;have s1:=aJ hp0 (.dK []);have s2:=aJ hl (.lst [.ref p0]);refine⟨D0,l,ds.map V.ref,[.ref p0],rfl,rfl,s2 _ _ (s1 _ _ st.2.2.1),aF,by rw[JC,dl,hs];simp;omega,λAa hAa=> ?_⟩;have stA:qg H Aa (ds++[p0]) (wl Ls B 0) (L2.upd (L2.upd (L2.upd H' p0 (.dK [])) l (.lst [.ref p0])) Aa (.lst (ds.map V.ref++[.ref p0]))):=by
   have hDp:D0≠p0:=aI st.2.2.1 hp0;have hAl:Aa≠l:=λz=>by rw[z,aF]at hAa;cases hAa
   have hA1:L2.upd H' p0 (.dK []) Aa=none:=by rw[aA hAl]at hAa;exact hAa
   have hAp:Aa≠p0:=λz=>by rw[z,aF]at hA1;cases hA1
   have hA0:H' Aa=none:=by rw[aA hAp]at hA1;exact hA1
   have hDA:D0≠Aa:=aI st.2.2.1 hA0;obtain⟨g1,g2,g3,g4,g5,g6,g7⟩:=st.push (p:=p0) (c:=[]) hp0;have hlD:l≠D0:=λz=>by rw[z,aA hDp,st.2.2.1]at hl;cases hl
   have hlp:l≠p0:=λz=>by rw[z,aF]at hl;cases hl
   have inn:∀(qq:Nat)(d:Addr)(c:aa),(ds++[p0])[qq]? =some d->(Ls++[[]])[qq]? =some c->H d=none/\d≠Aa/\d≠l/\L2.upd H' p0 (.dK []) d=some (.dK (bT c)):=λqq d c w1 w2=>by obtain⟨m0,m1⟩:=g7 qq d c w1 w2;have dD:d≠D0:=λz=>g4 (z▸Jd w1);rw[aA dD]at m1;have m1:L2.upd H' p0 (.dK []) d=some (.dK (bT c)):=m1;exact⟨m0,(λz=>by rw[z,hA1]at m1;cases m1),(λz=>by rw[z,hl]at m1;cases m1),m1⟩
   refine⟨((st.1.trans s1).trans s2).trans (aJ hAa _),st.1.free hA0,by rw[aF,Jo];rfl,λz=> ?_,g5,g6,λqq d c w1 w2=> ?_⟩
   ·obtain⟨qq,hqq,e⟩:=List.mem_iff_getElem.mp z
    exact(inn qq Aa ((Ls++[[]])[qq]'(by rw[<- g6];exact hqq)) (by rw[JN hqq,e]) (by simp[show qq<(Ls++[[]]).length by rw[<- g6];exact hqq])).2.1 rfl
   ·obtain⟨m0,m1,m2,m3⟩:=inn qq d c w1 w2
    exact⟨m0,by rw[aA m1,aA m2];exact m3⟩
  have sqB' :∀{G:Hp},aB H G->bJ K G Bt (B.map V.int):=λs=>s.seq sqB;refine⟨_,rfl,Lv,us,rfl,(stA.1).seq sqL,zE (src:=λH xs=>bJ K H Lv xs) (jW2 H Lv Bt Aa (ds++[p0]) Ls B) ⟨_,_,_,_,_,_,rfl,stA⟩ (λi σ G _ ⟨_,_,_,_,_,_,_,st⟩=>st.1.seq sqL) ?_ ?_⟩
  ·rintro i x pt σ G ex hpt ⟨a,b,c,d,e,g,rfl,st⟩
   have hi:i<us.length:=(JK.mp ex).1;have ec:Ls[i]? =some (Ls[i]'(by omega)):=by simp[show i<Ls.length by omega]
   obtain⟨lev,ua,hlev⟩:=lv i _ ec;rw[ex]at ua;cases ua;obtain⟨ct,hct⟩:∃ct,ct=Ls[i]'(by omega):=⟨_,rfl⟩;rw[<- hct]at ec hlev;have ctl:ct.length<=1000:=z3 ct (Jd ec);have wlen:=mS Ls B i;obtain⟨ab,hab⟩:∃ab,(ds++[p0])[i+1]? =some ab:=⟨(ds++[p0])[i+1]'(by rw[st.2.2.2.2.2.1,wlen];omega),by simp[show i+1<(ds++[p0]).length by rw[st.2.2.2.2.2.1,wlen];omega]⟩;obtain⟨c0,hc0⟩:∃c0,(wl Ls B i)[i+1]? =some c0:=⟨(wl Ls B i)[i+1]'(by rw[wlen];omega),by simp[show i+1<(wl Ls B i).length by rw[wlen];omega]⟩;have st:=st.ext (aJ hpt (.tup [.int (i:Nat),.ref lev]));refine⟨pt,_,rfl,cA.of aF,rfl,_,_,rfl,_,_,rfl,rfl,?_⟩;refine⟨_,rfl,_,rfl,_,_,rfl,rfl,Aa,_,_,.ref ab,rfl,rfl,bJ.of st.2.2.1,?_,?_⟩
   ·have:=cH (xs:=(ds++[p0]).map V.ref) (j:=i+1) (v:=.ref ab) (by rw[JP,hab];rfl)
    exact this
   refine⟨_,rfl,lev,bT ct,rfl,st.1 _ _ hlev,λo nf=> ?_⟩;have abn:H ab=none:=(st.at hab hc0).1;have abl:ab≠lev:=λz=>by rw[z,hlev]at abn;cases abn
   obtain⟨G1,hG1⟩:∃G1,G1=L2.upd G pt (.tup [.int (i:Nat),.ref lev]):=⟨_,rfl⟩;rw[<- hG1]at st ⊢;have g1lev:G1 lev=some (.dK (bT ct)):=st.1 _ _ hlev;have ini:L2.upd (L2.upd G1 lev (.frz o (.dK (bT ct)))) lev (.dK (bT ct))=G1:=by
    rw[Ak]
    funext bb
    by_cases hb:bb=lev
    ·subst hb
     rw[aF,g1lev]
    ·rw[aA hb]
   refine vj (jW3 H Lv Bt Aa (ds++[p0]) Ls B i lev ab o ct c0) ⟨_,_,_,rfl,aF,?_⟩ (λj σ G _ ⟨_,_,_,_,hf,_⟩=>hf) ?_ ?_
   ·rw[ini]
    have e0:(wl Ls B i).set (i+1) c0=wl Ls B i:=by
     refine LI λn=> ?_;rw[LG]
     split
     ·rename_i en
      subst en;rw[hc0,JI (by rw[wlen];omega)]
     ·rfl
    rw[List.take_zero,List.foldl_nil,e0];exact st
   ·rintro j kk xx pp σ G2 ekv hpp ⟨d,e,g,rfl,hf,st2⟩
    obtain⟨tk,cn,etc,rfl,rfl⟩:=CP ekv;have hj:j<ct.length:=(JK.mp etc).1;have ppl:pp≠lev:=λz=>by rw[z,hf]at hpp;cases hpp
    refine⟨pp,_,rfl,cA.of aF,rfl,_,_,rfl,_,_,rfl,rfl,?_⟩;have st3:=st2.ext (vG (o:=.tup [kV (Sum.inl tk),.int cn]) (u:=.dK (bT ct)) hpp ppl);obtain⟨cj,hcj⟩:∃cj,cj=(ct.take j).foldl (dM B) c0:=⟨_,rfl⟩;rw[<- hcj]at st3;have cjl:cj.length<=1000+1000*100+1000*100:=by
     have h0:c0.length<=1000:=by
      have:=C1 Ls B i (i+1) (by omega);rw[hc0]at this
      rcases Jn.mp (Jd this.symm)with hm|hm
      ·exact z3 c0 hm
      ·have:c0=[]:=by simpa using hm
       rw[this];simp
     have h1:=mF B (ct.take j) c0;have h2:(ct.take j).length*B.length<=1000*100:=Nat.mul_le_mul (by rw[J6];omega) z2;rw[hcj];omega
    refine⟨_,rfl,Bt,rfl,⟨_,tO (sqB' st3.1)⟩,zD (xs:=B.map V.int) (jW4 H Lv Bt Aa (ds++[p0]) Ls B i lev ab o ct tk cn cj) ⟨_,rfl,by rw[aA (L1 ppl)];exact hf,by rw[List.take_zero,List.foldl_nil];exact st3⟩ (λl σ G _ ⟨_,_,_,st⟩=>tO (sqB' st.1)) ?_ ?_⟩
    ·rintro l xb σ G3 exb ⟨g,rfl,hf3,st4⟩
     obtain⟨b,eb,rfl⟩:∃b,B[l]? =some b/\xb=.int b:=by
      rw[JP]at exb;cases e:B[l]? with
      |none=>rw[e]at exb;cases exb|some b=>rw[e]at exb;exact⟨b,rfl,(Jb exb).symm⟩
     have hl:l<B.length:=(JK.mp eb).1;obtain⟨cur,hcur⟩:∃cur,cur=(B.take l).foldl (bo tk cn) cj:=⟨_,rfl⟩;have e7:(B.take (l+1)).foldl (bo tk cn) cj=bo tk cn cur b:=by rw[Kj,eb,MW,<-hcur];rfl
     rw[<- hcur]at st4;have curl:cur.length<sizeLine:=by have:=jK tk cn (B.take l) cj;rw[<- hcur,J6]at this;rw[hs];omega
     have hcs:((wl Ls B i).set (i+1) cur)[i+1]? =some cur:=by rw[KZ (by rw[wlen];omega)]
     obtain⟨_,hab1⟩:=st4.at hab hcs;rw[aA abl]at hab1;refine⟨_,rfl,_,rfl,_,_,rfl,rfl,rfl,_,rfl,ite2 (λhc=> ?_) (λhc=> ?_)⟩
     ·have hc:Builtin.bitAnd tk b=0:=V.int.inj (Lh hc)
      obtain⟨old,hold⟩:∃old,old=(hZ cur (Builtin.bitOr tk b)).getD 0:=⟨_,rfl⟩;refine⟨_,rfl,ab,rfl,.inl ⟨_,.inl hab1⟩,_,rfl,_,rfl,_,_,rfl,rfl,_,iQ.k (k:=Sum.inl (Builtin.bitOr tk b)) hab1,_,rfl,old,cn,?_,rfl,?_⟩
      ·rw[CO,hold]
       cases hZ cur (Builtin.bitOr tk b)<;>rfl
      refine⟨_,rfl,_,rfl,_,rfl,_,_,rfl,rfl,ab,_,rfl,qe.k (k:=Sum.inl (Builtin.bitOr tk b)) hab1 (by rw[qG];exact curl),_,rfl,?_,?_⟩
      ·rw[aA (L1 abl)]
       exact hf3
      ·have e8:bo tk cn cur b=i9 cur (Builtin.bitOr tk b) (old+cn):=by
        unfold bo wA;rw[JI hc,hold]
       rw[e7,e8,CN,wk abl];have:=st4.put (c' :=i9 cur (Builtin.bitOr tk b) (old+cn)) hab;rw[List.set_set]at this;exact this
     ·have hc:¬Builtin.bitAnd tk b=0:=λz=>hc (K2 (J1 V.int z))
      refine⟨_,rfl,hf3,?_⟩;have e8:bo tk cn cur b=cur:=by unfold bo;rw[JE hc]
      rw[e7,e8];exact st4
    ·rintro σ G3 ⟨g,rfl,hf3,st4⟩
     refine⟨_,_,_,rfl,hf3,?_⟩;have e5:(ct.take (j+1)).foldl (dM B) c0=((B.take (B.map V.int).length).foldl (bo tk cn) cj):=by rw[Kj,etc,MW,<-hcj,JC,KW];rfl
     rw[e5];exact st4
   ·rintro σ G2 ⟨d,e,g,rfl,hf,st2⟩
    refine⟨lev,o,bT ct,hf,nf,_,_,_,_,_,_,rfl,?_⟩;have e6:(wl Ls B i).set (i+1) ((ct.take (bT ct).length).foldl (dM B) c0)=wl Ls B (i+1):=by rw[qG,KW,wl,JQ,hc0,JQ,ec];rfl
    rw[<- e6];exact st2
  ·rintro σ G ⟨a,b,c,d,e,g,rfl,st⟩
   refine⟨_,rfl,?_⟩;refine q _ _ st.1 (Rp.lst.mpr ⟨Aa,_,rfl,λ_=>⟨st.2.1,st.2.2.1⟩,bJ.of st.2.2.1,?_⟩);have eL:us.length=Ls.length:=ulen;rw[eL]at st;refine o6 st.2.2.2.2.2.1 λqq d' c' w1 w2=> ?_;obtain⟨m0,m1⟩:=st.at w1 w2;refine⟨m0,?_⟩;unfold del;rw[JE (λz:d' =Aa=>st.2.2.2.1 (z▸Jd w1))];exact m1
end
noncomputable def gG(a:List Nat)(i:Nat):List Int:=((List.range i).filter λc=>a.getD c 0==120).map λc=>((2^c:Nat):Int)
noncomputable def bz(z:Str):List Int:=gG z.cps.toList z.length
theorem sU(a:List Nat)(i:Nat):gG a (i+1)=gG a i++(if a.getD i 0==120 then[((2^i:Nat):Int)]else[]):=by
 unfold gG;rw[Le,K5,Jo];cases h:a.getD i 0==120
 ·simp only[Lr,List.filter_nil,h]
  rfl
 ·simp only[Lr,List.filter_nil,h]
  rfl
theorem mL(a:List Nat)(i:Nat):(gG a i).length<=i:=by unfold gG;rw[JC];exact Jw (Ko _ _) (by rw[Je];exact JH _)
theorem sV(h:i<=8):dj (gG b i):=λb hb=>by unfold gG at hb;obtain⟨c,a,rfl⟩:=JX.mp hb;have:=Js.mp (J7.mp a).1;exact⟨c,rfl,by omega⟩
theorem c46(k:Nat)(z:Str)(p:z.length<=8):aC P (k+1) 46 [.str z]=some (.lst ((bz z).map .int)):=by
 refine cK rfl rfl ?_;simp only[d46,entry];walk_at "go";refine cR (xs:=signs z) (n:=true) ?_ (λi g=>∃a,g=[.frz (.str z) true,.own ((gG z.cps.toList i).map .int) true,.frz (.int ((2^i:Nat):Int)) true,a]) ⟨_,rfl⟩ ?_ ?_
 ·walk_at "ev"
 ·rintro i y g b ⟨a,rfl⟩
  have o:i<z.length:=by have:=(JK.mp b).1;rw[dE]at this;exact this
  obtain⟨c,l,rfl⟩:∃c,z.cps.toList[i]? =some c/\y=.str ⟨#[c]⟩:=by
   unfold signs at b;rw[JP]at b;cases e:z.cps.toList[i]? with
   |none=>rw[e]at b;cases b|some c=>rw[e]at b;exact⟨c,rfl,(Jb b).symm⟩
  have m:z.cps.toList.getD i 0=c:=by rw[JQ,l];rfl
  refine⟨_,rfl,?_⟩;have d:=sU z.cps.toList i;rw[m]at d;have f:((gG z.cps.toList i).map PV.int).length<LN:=by rw[JC];have:=mL z.cps.toList i;show _<16777216;omega
  have j:((2^i:Nat):Int)*2=((2^(i+1):Nat):Int):=by rw[Nat.pow_succ];push_cast;rfl
  walk_at "ev";rw[ze];cases h:c==120 with
  |true =>rw[h]at d;walk_at "ev";rw[gn rfl f];walk_at "ev";exact⟨_,by rw[d,j,Jo];rfl⟩
  |false =>rw[h]at d;walk_at "ev";exact⟨.frz (.str ⟨#[c]⟩) true,by rw[d,j];simp⟩
 ·rintro g ⟨a,rfl⟩
  rw[dE];walk_at "ev";rfl
theorem c47(k:Nat)(a:List aa)(B:List Int)(f:a.length<=100)(g:B.length<=100)(d:∀c∈a,c.length<=1000):aC P (k+1) 47 [.lst (a.map jq),.lst (B.map .int)]=some (.lst ((wl a B a.length).map jq)):=by
 refine run rfl rfl ?_;have e:bn [.lst (a.map jq),.lst (B.map .int)]=some (.lst ((wl a B a.length).map jq)):=by unfold bn;dsimp only;rw[tG,gN];simp only[Jl];rw[JI ⟨f,g,by rw[Jh];intro c b;exact K2 (d c b)⟩]
 show fK (bx (aC P k) 1000000 GW.body (entry GW [.lst (a.map jq),.lst (B.map .int)]))=_;simp only[GW,Ab,Ac,io,iU,iT,iY,ic,iR,iV,ik,ii,ip,iX,iS,ig,ie,il,iZ,iW,entry];have h:((List.map (λv=>TV.frz v (imm v)) [PV.lst (a.map jq),.lst (B.map .int)]++List.replicate (9-[PV.lst (a.map jq),.lst (B.map .int)].length) TV.un).take 2).map TV.valD=[.lst (a.map jq),.lst (B.map .int)]:=rfl;rw[h,e];rfl
noncomputable def A4(a:List Str):List Int:=xR (cV (a.map bz))
theorem c48(k:Nat)(b:List Str)(D:b.length<=8)(q:∀z∈b,z.length<=8):aC P (k+2) 48 [.tup (b.map .str)]=some (.lst ((A4 b).map .int)):=by
 refine cK rfl rfl ?_;have v:=bH b;have d:∀i,(∀B∈(b.take i).map bz,dj B):=λi B hB=>by obtain⟨z,l,rfl⟩:=JX.mp hB;exact sV (q z (Ke l))
 simp only[d48,entry];walk_at "ev";rw[v];refine cR (xs:=b.map PV.str) (n:=true) ?_ (λi r=>∃a,r=[.frz (.tup (b.map .str)) true,.frz (.lst ((cV ((b.take i).map bz)).map jq)) true,a]) ⟨_,rfl⟩ ?_ ?_
 ·walk_at "ev"
 ·rintro i y r j ⟨a,rfl⟩
  obtain⟨z,l,t,rfl⟩:∃z,b[i]? =some z/\z∈b/\y=.str z:=by
   rw[JP]at j;cases e:b[i]? with
   |none=>rw[e]at j;cases j|some z=>rw[e]at j;exact⟨z,rfl,Jd e,(Jb j).symm⟩
  have C:i<b.length:=(JK.mp l).1;obtain⟨m,o⟩:=fX (d i);have w :(cV ((b.take i).map bz)).length<=9:=by rw[m,JC,J6];omega
  have A:(bz z).length<=100:=by have:=mL z.cps.toList z.length;have:=q z t;unfold bz;omega
  refine⟨_,rfl,?_⟩;walk_at "ev";rw[c46 k z (q z t)];walk_at "ev";rw[c47 k _ _ (by omega) A (λc hc=>Jw (o c hc).len (by decide))];walk_at "ev";refine⟨.frz (.str z) true,?_⟩;rw[Kj,l,Jo];show[TV.frz (.tup (b.map .str)) true,.frz (.lst ((wl (cV ((b.take i).map bz)) (bz z) (cV ((b.take i).map bz)).length).map jq)) true,TV.frz (.str z) true]=[_,TV.frz (.lst ((cV ((b.take i).map bz++[bz z])).map jq)) true,_];rw[jG]
 ·rintro r ⟨a,rfl⟩
  rw[JC,KW];obtain⟨m,o⟩:=fX (d b.length);rw[KW]at m o;have x:((cV (b.map bz)).map jq).length<=16777216:=by rw[JC,m,JC];omega
  walk_at "ev";rw[JI x];rw[eV (p:=λc=>decide (0<List.length c)) (g:=λc=>PV.int (iz c)) (λc hc=> ?h)]
  case h =>
   have u:aQ (c.map λp=>PV.int p.2)=some (c.map (·.2)):=by have:=gN (c.map (·.2));rw[J4]at this;exact this
   unfold jq;walk_at "ev";rw[JC]
   by_cases s:0<c.length
   ·have f :(0:Int)<(c.length:Int):=by omega
    simp only[s,f,decide_true,LX];rw[u];rfl
   ·have f :¬(0:Int)<(c.length:Int):=by omega
    simp only[s,f,decide_false];rfl
  walk_at "ev";unfold A4 xR;rw[J4];rfl
theorem kF(a:List Str)(g:a.length<=8)(d:∀z∈a,z.length<=8):A4 a=bV (aZ a):=by
 have b:lM (a.map fM):=λr hr c hcc=>by obtain⟨z,f,rfl⟩:=JX.mp hr;have:=Js.mp (J7.mp hcc).1;have:=d z f;omega
 have e:a.map bz=(a.map fM).map b9:=by rw[J4];rfl
 unfold A4 aZ;rw[e];exact A2 _ b (by rw[JC];omega)
noncomputable def bC(f:Nat->Int):Nat->Int
 |0=>0|n+1=>bC f n+f n
theorem eN{f g:Nat->Int}:∀{n:Nat},(∀i,i<n->f i=g i)->bC f n=bC g n
 |0,_=>rfl|n+1,h=>by rw[bC,bC,eN λi hi=>h i (by omega),h n (by omega)]
theorem eA{f:Nat->Int}{m:Nat}:∀{n:Nat},(∀i,m<=i->i<n->f i=0)->m<=n->bC f n=bC f m
 |0,_,hm=>by rw[show m=0 by omega]|n+1,h,hm=>by
  by_cases e:m=n+1;rw[e]
  ·rw[bC,h n (by omega) (by omega),eA (n:=n) (λi h1 h2=>h i h1 (by omega)) (by omega)]
   omega
theorem fS(f:Nat->Int):∀n,bC f (n+1)=f 0+bC (λi=>f (i+1)) n
 |0=>by simp[bC]|n+1=>by rw[bC,fS f n,bC];omega
noncomputable def rA(a b:List Int)(k i:Nat):Int:=if i<=k then a.getD i 0*b.getD (k-i) 0 else 0
noncomputable def cv(a b:List Int)(k:Nat):Int:=bC (rA a b k) a.length
theorem cv_k(a b:List Int)(k:Nat):cv a b k=bC (λi=>a.getD i 0*b.getD (k-i) 0) (k+1):=by have c:cv a b k=bC (rA a b k) (a.length+(k+1)):=(eA (λi c d=>by unfold rA;split;rw[ko c];simp;rfl) (by omega)).symm;have d:bC (rA a b k) (k+1)=bC (rA a b k) (a.length+(k+1)):=(eA (λi c d=>by unfold rA;rw[JE (by omega)]) (by omega)).symm;rw[c,<-d];exact eN λi hi=>by unfold rA;rw[JI (by omega)]
noncomputable def gp(a b:List Int):List Int:=(List.range (a.length+b.length-1)).map (cv a b)
noncomputable def AM(l:List Int):Prop:=1<=l.length/\l.length<=200/\∀x∈l,0<=x/\x<10^30
theorem tR{x:Int}(h:0<=x/\x<10^30):x.natAbs<2^2000:=by
 have a:x.natAbs<2^100:=by omega
 exact Ju a (Nat.pow_le_pow_right (by decide) (by decide))
theorem yU{b:Type}{x y:Int}{A:Option b}(c:0<=x/\x<10^30)(a:0<=y/\y<10^30):(if -18446744073709551616<x/\x<18446744073709551616\/ -18446744073709551616<y/\y<18446744073709551616 then A else if x.natAbs<2^2000/\y.natAbs<2^2000 then A else none)=A:=by split;rfl;rw[JI ⟨tR c,tR a⟩]
theorem c41(k:Nat)(a b:List Int)(v:AM a)(w:AM b):aC P (k+1) 41 [.lst (a.map .int),.lst (b.map .int)]=some (.lst ((gp a b).map .int)):=by
 obtain⟨G,E,u⟩:=v;obtain⟨b1,H,A⟩:=w;refine cK rfl rfl ?_;simp only[d41,entry];walk_at "ev";simp only[JC];have t:((a.length:Int)+(b.length:Int)-1)=((a.length+b.length-1:Nat):Int):=by omega
 rw[t];obtain⟨L,o⟩:∃L,L=a.length+b.length-1:=⟨_,rfl⟩;rw[<- o];rw[JI ⟨by omega,by omega,by simp;omega⟩];walk_at "ev";rw[Kw,IF];refine cR (xs:=List.zipWith dr (List.range (a.map PV.int).length) (a.map PV.int)) (n:=false) ?_ (λi c=>∃p q r s,c=[.frz (.lst (a.map .int)) false,.frz (.lst (b.map .int)) false,.own ((List.range L).map λk=>PV.int (bC (rA a b k) i)) true,p,q,r,s]) ⟨_,_,_,_,rfl⟩ ?_ ?_
 ·walk_at "ev"
 ·rintro i y c f ⟨p,q,r,s,rfl⟩
  obtain⟨y,m,rfl⟩:=jx f;obtain⟨C,rfl,B⟩:=int_at m;refine⟨_,rfl,?_⟩;walk_at "ev";have F:∀x:Int,(false||imm (PV.int x))=true:=λ_=>rfl;refine cR (xs:=List.zipWith dr (List.range (b.map PV.int).length) (b.map PV.int)) (n:=false) ?_ (λj c=>∃r s,c=[.frz (.lst (a.map .int)) false,.frz (.lst (b.map .int)) false,.own ((List.range L).map λk=>PV.int (bC (rA a b k) i+if i<=k/\k-i<j then a.getD i 0*b.getD (k-i) 0 else 0)) true,.frz (.int i) true,.frz (.int (a.getD i 0)) true,r,s]) ⟨r,s,by simp[fc,dR,nQ,jv]⟩ ?_ ?_
  ·walk_at "ev"
  ·rintro j y c f ⟨r,s,rfl⟩
   obtain⟨y,g,rfl⟩:=jx f;obtain⟨D,rfl,l⟩:=int_at g;refine⟨_,rfl,?_⟩;walk_at "ev";rw[yU (u _ B) (A _ l)];walk_at "ev";have h:((i:Int)+(j:Int))=((i+j:Nat):Int):=by omega
   rw[h];rw[AD (q:=i+j) rfl (by rw[JC,Je];exact uF (by omega)) (lu (by omega))];walk_at "ev";rw[map_set];refine⟨_,_,by
    refine J1 (λz=>[TV.frz (.lst (a.map .int)) false,.frz (.lst (b.map .int)) false,.own z true,.frz (.int i) true,.frz (.int (a.getD i 0)) true,.frz (.int j) true,.frz (.int (b.getD j 0)) true]) (Jv λk hk=>J1 PV.int ?_)
    by_cases e:k=i+j
    ·subst e
     rw[JI rfl,JE (by omega),JI ⟨by omega,by omega⟩,show i+j-i=j by omega];omega
    ·rw[JE e]
     by_cases d:i<=k/\k-i<j;rw[JI d,JI ⟨d.1,by omega⟩]
     ·rw[JE d,JE (by omega)]⟩
  ·rintro c ⟨r,s,rfl⟩
   rw[iE,JC];walk_at "ev";refine⟨_,_,_,_,by
    refine J1 (λz=>[TV.frz (.lst (a.map .int)) false,.frz (.lst (b.map .int)) false,.own z true,.frz (.int i) true,.frz (.int (a.getD i 0)) true,r,s]) (Jv λk hk=>J1 PV.int ?_);rw[bC];refine J1 (_+·) ?_;unfold rA
    by_cases e:i<=k
    ·rw[JI e]
     by_cases d:k-i<b.length;rw[JI ⟨e,d⟩]
     ·rw[JE (by omega),ko (a:=b) (by omega)]
      simp
    ·rw[JE e,JE (by omega)]⟩
 ·rintro c ⟨p,q,r,s,rfl⟩
  rw[iE,JC];walk_at "ev";unfold gp;rw[J4,<-o];rfl
noncomputable def IU(f g:Nat->Int)(k:Nat):Int:=bC (λi=>f i*g (k-i)) (k+1)
theorem ot(f g:Nat->Int):∀n,bC (λi=>f i+g i) n=bC f n+bC g n
 |0=>rfl|n+1=>by rw[bC,bC,bC,ot f g n];omega
theorem yO{B:List aX}(h:∀b∈B,jk x b=false):fV x B=B:=by unfold fV;exact List.filter_eq_self.mpr λb hb=>by rw[h b hb];rfl
theorem BZ(x:aX)(A B:List aX):fV x (A++B)=fV x A++fV x B:=K5 _ _
theorem rK(B:List aX):∀(n:Nat)(A:List aX)(k:Nat),A.length<=n->(∀a∈A,∀b∈B,jk a b=false)->rk k (A++B)=IU (λi=>rk i A) (λi=>rk i B) k
 |_,[],k,_,_=>by
  rw[Lf];unfold IU;rw[fS];have:bC (λi=>rk (i+1) []*rk (k-(i+1)) B) k=0:=by rw[eA (m:=0) (λi _ _=>by rw[kH];simp) (J0 _)];rfl
  rw[this];show rk k B=rk 0 []*rk (k-0) B+0;rw[be];simp
 |0,_::_,_,h,_=>absurd h (by simp)|n+1,x::A,0,_,_=>by simp[IU,bC,be]|n+1,x::A,k+1,c,h=>by
  have c:A.length<=n:=by simpa using c
  have d:∀a∈A,∀b∈B,jk a b=false:=λa ha=>h a (JF _ ha);have f:=yO (h x JL);rw[List.cons_append,az,BZ,f,rK B n A (k+1) c d,rK B n (fV x A) k (Jw (nB x A) c) λa ha=>d a (J7.mp ha).1];unfold IU;dsimp only;rw[fS (λi=>rk i A*rk (k+1-i) B) (k+1),fS (λi=>rk i (x::A)*rk (k+1-i) B) (k+1)];have e:∀i,rk (i+1) (x::A)*rk (k+1-(i+1)) B=rk (i+1) A*rk (k+1-(i+1)) B+rk i (fV x A)*rk (k-i) B:=λi=>by rw[az,Int.add_mul,show k+1-(i+1)=k-i by omega]
  rw[show bC (λi=>rk (i+1) (x::A)*rk (k+1-(i+1)) B) (k+1)=_ from eN λi _=>e i,ot,be,be];omega
theorem kG:∀(n:Nat)(l:List aX)(k:Nat),l.length<=n->rk k l<=2^n
 |n,[],0,_=>by
  rw[be];have:1<=2^n:=Nat.one_le_two_pow;have:((1:Nat):Int)<=((2^n:Nat):Int):=by omega
  simpa using this
 |n,[],k+1,_=>by rw[kH];exact Kl (Int.pow_pos (by decide))
 |0,_::_,_,h=>absurd h (by simp)|n+1,x::l,0,_=>by
  rw[be];have:1<=2^(n+1):=Nat.one_le_two_pow;have:((1:Nat):Int)<=((2^(n+1):Nat):Int):=by omega
  simpa using this
 |n+1,x::l,k+1,h=>by
  have h:l.length<=n:=by simpa using h
  have a:=kG n l (k+1) h;have b:=kG n (fV x l) k (Jw (nB x l) h);rw[az,Int.pow_succ];omega
theorem tS(b:l.length<=64)(k:Nat):(bV l).getD k 0=rk k l:=by
 obtain⟨m,e,_,c⟩:=gi l b;rw[e]
 by_cases a:k<m;simp[a]
 ·rw[c k (by omega)]
  simp[a]
theorem yT{a:Int}(c:0<a)(d:0<b):0<a*b:=Int.mul_pos c d
theorem tM{f:Nat->Int}(h:∀i,0<=f i):∀n,0<=bC f n
 |0=>Ks _|n+1=>by have:=tM h n;have:=h n;rw[bC];omega
theorem oq{f:Nat->Int}(h:∀i,0<=f i):∀{n i:Nat},i<n->0<f i->0<bC f n
 |n+1,i,hi,hf=>by
  rw[bC];have a:=tM h n;have b:=h n
  by_cases e:i=n
  ·subst e
   omega
  ·have:=oq h (n:=n) (i:=i) (by omega) hf
   omega
theorem kN{A B:List aX}(C:A.length+B.length<=64)(h:∀a∈A,∀b∈B,jk a b=false):gp (bV A) (bV B)=bV (A++B):=by
 have g:(A++B).length<=64:=by rw[JM];exact C
 obtain⟨d,D,s,n⟩:=gi A (by omega);obtain⟨f,t,y,o⟩:=gi B (by omega);obtain⟨m,e,p,z⟩:=gi (A++B) g;have l:=λk=>rK B A.length A k (JH _) h;have r:∀k i,0<=rk i A*rk (k-i) B:=λk i=>Int.mul_nonneg (bp _ _) (bp _ _);have u:1<=d:=Nat.pos_of_ne_zero λq=>by have:=n 0 (by omega);rw[be]at this;cases this
 have x:1<=f:=Nat.pos_of_ne_zero λq=>by have:=o 0 (by omega);rw[be]at this;cases this
 have q:(bV A).length=d:=by rw[D];simp
 have v:(bV B).length=f:=by rw[t];simp
 have pos:∀k,k<d+f-1->0<rk k (A++B):=λk hk=>by rw[l k];refine oq (r k) (i:=min k (d-1)) (by omega) (yT (s _ (by omega)) (y _ (by omega)))
 have j:∀k,d+f-1<=k->rk k (A++B)=0:=λk hk=>by
  rw[l k];unfold IU;rw[eA (m:=0) (λi _ hi=> ?_) (J0 _)]
  ·rfl
  ·dsimp only
   by_cases c:d<=i
   ·rw[n i c]
    simp
   ·rw[o (k-i) (by omega)]
    simp
 have w:m=d+f-1:=by
  rcases Nat.lt_trichotomy m (d+f-1)with c|c|c
  ·have:=pos m c
   rw[z m (JH _)]at this;omega
  ·exact c
  ·have:=p (d+f-1) c
   rw[j _ (JH _)]at this;omega
 rw[e,w];unfold gp;rw[q,v];refine Jv λk _=> ?_;rw[cv_k,l k];exact eN λi _=>by rw[tS (by omega),tS (by omega)]
theorem vI:bV []=[1]:=by decide +kernel
theorem eE(a:l.length<=64):AM (bV l):=by
 obtain⟨m,e,p,z⟩:=gi l a;have b:1<=m:=Nat.pos_of_ne_zero λq=>by have:=z 0 (by omega);rw[be]at this;cases this
 have g:m<=65:=by
  rcases Nat.lt_or_ge 65 m with c|c
  ·have:=p 65 c
   rw[jp 65 l (by omega)]at this;omega
  ·exact c
 refine⟨by rw[e];simpa using b,by rw[e];simp;omega,λx hx=> ?_⟩;rw[e]at hx;obtain⟨k,_,rfl⟩:=JX.mp hx;have d:=bp k l;have f:=kG 64 l k a;exact⟨d,Int.lt_of_le_of_lt f (by decide)⟩
noncomputable def GT(p:List Pr)(r w:Nat):Str:=⟨((List.range w).map λc=>if p.contains ((r:Int),((c:Nat):Int))then 120 else 46).toArray⟩
theorem Bq(p:List Pr)(r w:Nat):(GT p r w).length=w:=by show(List.toArray _).size=_;simp
noncomputable def v7(p:List Pr)(n w:Nat):List Str:=(List.range n).map λr=>GT p r w
theorem F4(p:List Pr)(n w:Nat):Wd (v7 p n w) w:=λz hz=>by obtain⟨r,_,rfl⟩:=JX.mp hz;exact Bq p r w
theorem B2(p:List Pr)(q:Pr):B3 (bE q) (p.map bE)=some (p.contains q):=by
 have b:dv 12 (bE q)=true:=by simp[bE,dv]
 have e:B3 (bE q) (p.map bE)=if(dv 12 (bE q)&&(p.map bE).all (dv 12))=true then some ((p.map bE).any λy=>nU y (bE q))else none:=by unfold B3;rw[JE (by rintro⟨z,_⟩;cases z)]
 rw[e,b,jw 11,JI (show(true&&true)=true from rfl),List.any_map]
 congr 1
 rw[KU,Lu,List.contains_iff_mem]
 constructor
 ·rintro⟨x,a,h⟩
  have h:(decide (x.1=q.1)&&(decide (x.2=q.2)&&true))=true:=h;rw[Bool.and_true,JJ,Ku,Ku]at h;rw[<- show x=q from MM h.1 h.2];exact a
 ·intro h
  exact⟨q,h,by show(decide (q.1=q.1)&&(decide (q.2=q.2)&&true))=true;simp⟩
theorem mi(h:n<=1000):i7 [.frz (.int (n:Nat)) m]=some ((List.range n).map λi=>.int (0+(i:Nat))):=by simp only[i7,cE];rw[JI ⟨by omega,by omega⟩,Kw]
theorem c73(k:Nat)(p:List Pr)(r w:Nat)(a:w<=8):aC P (k+1) 73 [.lst (p.map bE),.int (r:Nat),.int (w:Nat)]=some (.str (GT p r w)):=by
 refine cK rfl rfl ?_;simp only[d73,entry];walk_at "ev";rw[mi (by omega)];walk_at "ev";rw[JI (by rw[JC,Je];omega),cD (G:=λc:Nat=>PV.str ⟨#[if p.contains ((r:Int),((c:Nat):Int))then 120 else 46]⟩) (λc _=>by
  have e:cM .In (.tup [.int (r:Nat),.int (0+(c:Nat))]) (.lst (p.map bE))=some (p.contains ((r:Int),((c:Nat):Int))):=by rw[Int.zero_add];exact B2 p ((r:Int),((c:Nat):Int))
  rw[e];walk_at "ev";cases p.contains ((r:Int),((c:Nat):Int));rfl
  ·rfl)]
 walk_at "ev";have e:((List.range w).map λc:Nat=>PV.str ⟨#[if p.contains ((r:Int),((c:Nat):Int))then 120 else 46]⟩)=((List.range w).map λc:Nat=>if p.contains ((r:Int),((c:Nat):Int))then 120 else 46).map λc=>PV.str ⟨#[c]⟩:=by rw[J4];rfl
 rw[e,rf (by rw[JC,Je];omega)];walk_at "ev";rfl
theorem FX:k7 (.frz (.tup a) n)=some (List.zipWith dr (List.range a.length) a,n):=rfl
theorem enum_rows{a:List Str}:List.zipWith dr (List.range (a.map PV.str).length) (a.map PV.str)=(List.range a.length).map λr=>dr r (.str (a.getD r ⟨#[]⟩)):=by
 refine List.ext_getElem (by simp) λi h1 h2=> ?_;have b:i<a.length:=by simpa using h2
 simp[b]
theorem c74(k:Nat)(p:List Pr)(a:List Str)(w:Nat)(e:Wd a w)(g:a.length<=8)(d:w<=8):aC P (k+2) 74 [.tup (a.map .str),.lst (p.map bE)]=some (.tup ((v7 p a.length w).map .str)):=by
 refine cK rfl rfl ?_;simp only[d74,entry];walk_at "ev";rw[bH a,FX,enum_rows];walk_at "ev";rw[JI (by rw[JC,Je];omega),cD (G:=λr:Nat=>PV.str (GT p r w)) (λr b=>by
  have b:r<a.length:=Js.mp b;have f:(a.getD r ⟨#[]⟩).length=w:=e _ (by simp[b]);have c:fH (.str (a.getD r ⟨#[]⟩))=some w:=by rw[len_str,f,JI (by show w<=16777216;omega)]
  rw[show l5 (dr r (.str (a.getD r ⟨#[]⟩)))=some (.int (r:Nat),.str (a.getD r ⟨#[]⟩))from rfl,Jl];dsimp only;rw[c];walk_at "ev";rw[c73 k p r w d];rfl)]
 walk_at "ev";unfold v7;rw[J4];rfl
noncomputable def i5(p q:List Pr):Prop:=∀a∈p,∀b∈q,a.1≠b.1/\a.2≠b.2
theorem i5.symm(h:i5 p q):i5 q p:=λa ha b hb=>⟨(h b hb a ha).1.symm,(h b hb a ha).2.symm⟩
theorem Dr{L:List (List Pr)}(h:L.Pairwise i5):∀{p q:List Pr},p∈L->q∈L->p≠q->i5 p q:=by
 induction h with
 |nil=>intro p q a;cases a|cons d _ e =>
  intro p q a b c
  rcases JU.mp a with z|z
  ·rcases JU.mp b with y|y
   ·exact absurd (z.trans y.symm) c
   ·rw[z]
    exact d q y
  ·rcases JU.mp b with y|y
   ·rw[y]
    exact(d p z).symm
   ·exact e z y c
theorem FK(h:hg c p=false):∀a∈p,a.1≠c.1/\a.2≠c.2:=λa ha=>by
 have:=List.any_eq_false.mp h a ha
 simpa using this
theorem As(c:Pr)(h:L.Pairwise i5):(tN L c).Pairwise i5:=by
 unfold tN;refine KL.mpr ⟨h.sublist List.filter_sublist,List.pairwise_singleton _ _,λp hp q hq=> ?_⟩;rw[Jr.mp hq];obtain⟨i,d⟩:=J7.mp hp;have d:hg c p=false:=by simpa using d
 intro a g b f
 rcases JU.mp f with z|z
 ·rw[z]
  exact FK d a g
 ·obtain⟨r,j,f⟩:=Kq.mp z
  obtain⟨l,k⟩:=J7.mp j;exact Dr h i l (λe=>by rw[e,k]at d;cases d) a g b f
theorem AH(a:List Pr):(Cv a).Pairwise i5:=by
 have:∀(a:List Pr)(L:List (List Pr)),L.Pairwise i5->(a.foldl tN L).Pairwise i5:=by
  intro a
  induction a with
  |nil=>exact λL h=>h|cons c a b=>exact λL h=>b _ (As c h)
 exact this a [] .nil
theorem wx(c:w<=8):(fq rows w).Pairwise i5:=by unfold fq;refine(List.Perm.pairwise_iff (λh=>i5.symm h) (df _)).mpr ?_;rw[nr (zj c)];refine Li.mpr ((AH _).imp λh a ha b hb=>h a ((bO _).mem_iff.mp ha) b ((bO _).mem_iff.mp hb))
theorem ut(a:w<=8):(fq rows w).flatten.Perm (cI rows w):=by unfold fq;exact(List.Perm.flatten (df _)).trans (mQ _ (zj a))
noncomputable def jd(q:Pr):aX:=(q.1.toNat,q.2.toNat)
theorem Fk(k:Wd d w):((cI d w).map jd).Perm (aZ d):=by
 refine(MP ?_ (bv d)).mpr λc=> ?_
 ·refine L6 _ (λa b h=>h) (List.Pairwise.imp_of_mem (R:=λa b=>a≠b) (λ{a b} ha hb h z=>h ?_) (zh d w))
  obtain⟨r,c,rfl,_⟩:=lE ha;obtain⟨n,m,rfl,_⟩:=lE hb;have i:r=n :=by simpa [jd]using(LC z).1
  have l:c=m :=by simpa [jd]using(LC z).2
  rw[i,l]
 ·rw[bR,JX]
  constructor
  ·rintro⟨q,g,rfl⟩
   obtain⟨r,c,rfl,e,f,j⟩:=lE g
   simpa [jd]using j
  ·intro h
   obtain⟨e,f⟩:=qP k h;exact⟨((c.1:Int),(c.2:Int)),Fn e f h,by simp[jd]⟩
theorem Fj(p:List Pr)(n w i j:Nat):cd (v7 p n w) i j=if i<n/\j<w then(if p.contains ((i:Int),(j:Int))then 120 else 46)else 0:=by
 by_cases a:i<n
 ·have e:cd (v7 p n w) i j=(GT p i w).cps.toList.getD j 0:=by
   unfold v7;rw[lC (by simpa using a),List.getElem_map,List.getElem_range]
  rw[e];unfold GT
  by_cases b:j<w
  ·rw[JI ⟨a,b⟩]
   simp[List.getD,b]
  ·rw[JE (λh=>b h.2)]
   simp[List.getD,b]
 ·rw[JE (λh=>a h.1),zg (by unfold v7;simpa using a)]
theorem v5(j:p.Nodup)(h:∀q∈p,∃r c:Nat,q=((r:Int),(c:Int))/\r<n/\c<w):(aZ (v7 p n w)).Perm (p.map jd):=by
 refine(MP (bv _) ?_).mpr λc=> ?_
 ·refine L6 _ (λa b h=>h) (List.Pairwise.imp_of_mem (R:=λa b=>a≠b) (λ{a b} ha hb hn z=>hn ?_) j)
  obtain⟨r,c,rfl,_⟩:=h a ha;obtain⟨m,l,rfl,_⟩:=h b hb;have f:r=m :=by simpa [jd]using(LC z).1
  have k:c=l :=by simpa [jd]using(LC z).2
  rw[f,k]
 ·rw[bR,Fj,JX]
  constructor
  ·intro e
   split at e
   ·split at e
    ·rename_i z
     exact⟨_,List.contains_iff_mem.mp z,by simp[jd]⟩
    ·cases e
   ·cases e
  ·rintro⟨q,d,rfl⟩
   obtain⟨r,c,rfl,g,i⟩:=h q d;rw[JI ⟨by simpa [jd]using g,by simpa [jd]using i⟩,JI (by simpa [jd]using d)]
theorem Fm:∀q∈cI a w,∃r c:Nat,q=((r:Int),(c:Int))/\r<a.length/\c<w:=λq hq=>by obtain⟨r,c,e,b,d,_⟩:=lE hq;exact⟨r,c,e,b,d⟩
theorem CD{L:List (List Pr)}(h:L.flatten.Nodup)(b:p∈L):p.Nodup:=by
 induction L with
 |nil=>cases b|cons a L c =>
  rw[Jp]at h
  rcases JU.mp b with z|z
  ·rw[z]
   exact(Kv.mp h).1
  ·exact c (Kv.mp h).2.1 z
theorem c75(k:Nat)(d:List Str)(w:Nat)(B:Wd d w)(D:d.length<=8)(e:w<=8):aC P (k+4) 75 [.tup (d.map .str)]=some (.lst ((bV (aZ d)).map .int)):=by
 have o:=c72 k d w B D e;have u:=ut (rows:=d) e;have J:=wx (rows:=d) e;have C:=zi D e;have G:(fq d w).flatten.Nodup:=u.nodup_iff.mpr (zh d w);have K:(fq d w).flatten.length<=64:=by rw[u.length_eq];exact C
 have m:bV ((fq d w).flatten.map jd)=bV (aZ d):=i6 ((u.map jd).trans (Fk B));rw[<- m];have A:∀p∈fq d w,∀q∈p,∃r c:Nat,q=((r:Int),(c:Int))/\r<d.length/\c<w:=λp f q v=>Fm q (u.mem_iff.mp (Kq.mpr ⟨p,f,v⟩));have L:=bH d
 generalize fq d w=T at o J G K A
 refine cK rfl rfl ?_;simp only[d75,entry];walk_at "ev";rw[L];refine cR (xs:=T.map qV) (n:=true) ?_ (λi F=>∃a,F=[.frz (.tup (d.map .str)) true,.frz (.lst ((bV ((T.take i).flatten.map jd)).map .int)) true,a]) ⟨.un,?_⟩ ?_ ?_
 ·walk_at "ev"
  rw[o];walk_at "ev"
 ·walk_at "ev"
  rw[show(T.take 0).flatten.map jd=[]from rfl,vI];rfl
 ·rintro i y F j ⟨a,rfl⟩
  obtain⟨p,f,rfl⟩:∃p,T[i]? =some p/\y=qV p:=by rw[JP]at j;obtain⟨x,g,rfl⟩:=map_some j;exact⟨x,g,rfl⟩
  refine⟨_,rfl,?_⟩;have mp:=Jd f;have E:aC P (k+3) 74 [.tup (d.map .str),qV p]=some (.tup ((v7 p d.length w).map .str)):=c74 (k+1) p d w B D e;have S:(v7 p d.length w).length=d.length:=by unfold v7;simp
  have H:∀z∈v7 p d.length w,z.length<=8:=λz hz=>by rw[F4 p d.length w z hz];exact e
  have h:=c48 (k+1) (v7 p d.length w) (by omega) H;rw[kF _ (by omega) H,i6 (v5 (CD G mp) (A p mp))]at h;have I:(T.take (i+1)).flatten=(T.take i).flatten++p:=by rw[Kj,f];simp
  have M:((T.take i).flatten.map jd).length+(p.map jd).length<=64:=by
   rw[JC,JC,<-JM,<-I];have:(T.take (i+1)).flatten.length<=T.flatten.length:=by
    conv=>rhs;rw[<- Jk (i+1) T,Lx,JM]
    omega
   omega
  have O:∀a∈(T.take i).flatten.map jd,∀b∈p.map jd,jk a b=false:=λa ha b hb=>by
   obtain⟨x,g,rfl⟩:=JX.mp ha;obtain⟨y,j,rfl⟩:=JX.mp hb;obtain⟨q,v,g⟩:=Kq.mp g;have s:i5 q p:=by have t :=J;rw[<- Jk i T]at t;refine(KL.mp t).2.2 q v p ?_;rw[KN (JK.mp f).1,(JK.mp f).2];exact JL
   have s:=s x g y j;obtain⟨r,c,rfl,_⟩:=A q (Ke v) x g;obtain⟨N,Q,rfl,_⟩:=A p mp y j;unfold jk jd;simp;have R:(r:Int)≠(N :Int):=s.1;have U:(c:Int)≠(Q :Int):=s.2;exact⟨by omega,by omega⟩
  have l:aC P (k+3) 41 [.lst ((bV ((T.take i).flatten.map jd)).map .int),.lst ((bV (p.map jd)).map .int)]=some (.lst ((gp (bV ((T.take i).flatten.map jd)) (bV (p.map jd))).map .int)):=c41 (k+2) _ _ (eE (by omega)) (eE (by omega));rw[kN M O,<-Jo,<-I]at l;walk_at "ev";rw[E];walk_at "ev";rw[h];walk_at "ev";rw[l];walk_at "ev";exact⟨_,rfl⟩
 ·rintro F ⟨a,rfl⟩
  rw[JC,KW];walk_at "ev"
theorem c77(k:Nat)(a b:List Int)(D:AM a)(E:AM b):aC P (k+1) 77 [.lst (a.map .int),.lst (b.map .int)]=some (.lst ((gp a b).map .int)):=by
 obtain⟨K,I,C⟩:=D;obtain⟨b1,J,F⟩:=E;refine cK rfl rfl ?_;simp only[d77,entry];walk_at "ev";simp only[JC];have u:((a.length:Int)+(b.length:Int)-1)=((a.length+b.length-1:Nat):Int):=by omega
 rw[u];obtain⟨L,t⟩:∃L,L=a.length+b.length-1:=⟨_,rfl⟩;rw[<- t,mi (by omega)];walk_at "ev";rw[JI (by rw[JC,Je];omega),cD (G:=λ_:Nat=>PV.int 0) (λc _=>by walk_at "ev")];walk_at "ev";refine cR (xs:=(List.range a.length).map λi=>.int (0+(i:Nat))) (n:=true) ?_ (λi c=>∃p q,c=[.frz (.lst (a.map .int)) false,.frz (.lst (b.map .int)) false,.own ((List.range L).map λk=>PV.int (bC (rA a b k) i)) true,p,q]) ⟨_,_,rfl⟩ ?_ ?_
 ·walk_at "ev"
  rw[JC,mi (by omega)];rfl
 ·rintro i y c f ⟨p,q,rfl⟩
  obtain⟨rfl,h⟩:y=.int (i:Nat)/\i<a.length:=by rw[JP]at f;obtain⟨x,r,rfl⟩:=map_some f;obtain⟨m,d⟩:=JK.mp r;rw[List.getElem_range]at d;rw[<- d,Int.zero_add];exact⟨rfl,by simpa using m⟩
  have H:eo (a.map PV.int) (i:Int)=some (.int (a.getD i 0)):=cH (by rw[JP,JN h];simp[h]);have A:a.getD i 0∈a:=by simp[h]
  refine⟨_,rfl,?_⟩;walk_at "ev";refine cR (xs:=(List.range b.length).map λi=>.int (0+(i:Nat))) (n:=true) ?_ (λj c=>∃s,c=[.frz (.lst (a.map .int)) false,.frz (.lst (b.map .int)) false,.own ((List.range L).map λk=>PV.int (bC (rA a b k) i+if i<=k/\k-i<j then a.getD i 0*b.getD (k-i) 0 else 0)) true,.frz (.int i) true,s]) ⟨q,?_⟩ ?_ ?_
  ·walk_at "ev"
   rw[JC,mi (by omega)];rfl
  ·simp[dR]
  ·rintro j y c f ⟨s,rfl⟩
   obtain⟨rfl,l⟩:y=.int (j:Nat)/\j<b.length:=by rw[JP]at f;obtain⟨x,r,rfl⟩:=map_some f;obtain⟨m,d⟩:=JK.mp r;rw[List.getElem_range]at d;rw[<- d,Int.zero_add];exact⟨rfl,by simpa using m⟩
   have v:eo (b.map PV.int) (j:Int)=some (.int (b.getD j 0)):=cH (by rw[JP,JN l];simp[l]);have w:b.getD j 0∈b:=by simp[l]
   refine⟨_,rfl,?_⟩;have o:((i:Int)+(j:Int))=((i+j:Nat):Int):=by omega
   have B:eo ((List.range L).map λk=>PV.int (bC (rA a b k) i+if i<=k/\k-i<j then a.getD i 0*b.getD (k-i) 0 else 0)) ((i+j:Nat):Int)=some (.int (bC (rA a b (i+j)) i+if i<=i+j/\i+j-i<j then a.getD i 0*b.getD (i+j-i) 0 else 0)):=cH (lu (by omega));walk_at "ev";rw[o,B,H,v];walk_at "ev";rw[yU (C _ A) (F _ w)];walk_at "ev";rw[set_own (q:=i+j) rfl (by rw[JC,Je];exact uF (by omega))];walk_at "ev";rw[map_set];refine⟨_,by
    refine J1 (λz=>[TV.frz (.lst (a.map .int)) false,.frz (.lst (b.map .int)) false,.own z true,.frz (.int i) true,.frz (.int j) true]) (Jv λk hk=>J1 PV.int ?_)
    by_cases e:k=i+j
    ·subst e
     rw[JI rfl,JE (by omega),JI ⟨by omega,by omega⟩,show i+j-i=j by omega];omega
    ·rw[JE e]
     by_cases g:i<=k/\k-i<j;rw[JI g,JI ⟨g.1,by omega⟩]
     ·rw[JE g,JE (by omega)]⟩
  ·rintro c ⟨s,rfl⟩
   rw[JC,Je];walk_at "ev";refine⟨_,_,by
    refine J1 (λz=>[TV.frz (.lst (a.map .int)) false,.frz (.lst (b.map .int)) false,.own z true,.frz (.int i) true,s]) (Jv λk hk=>J1 PV.int ?_);rw[bC];refine J1 (_+·) ?_;unfold rA
    by_cases e:i<=k
    ·rw[JI e]
     by_cases g:k-i<b.length;rw[JI ⟨e,g⟩]
     ·rw[JE (by omega),ko (a:=b) (by omega)]
      simp
    ·rw[JE e,JE (by omega)]⟩
 ·rintro c ⟨p,q,rfl⟩
  rw[JC,Je];walk_at "ev";unfold gp;rw[J4,<-t];rfl
theorem rN(l:List Int):plain.plains (l.map PV.int)=true/\depth.depths (l.map PV.int)<=1:=by
 induction l with
 |nil=>exact⟨rfl,J0 _⟩|cons x l a =>rw[JR];unfold plain.plains depth.depths;exact⟨by rw[a.1];rfl,Nat.max_le.mpr ⟨JH _,a.2⟩⟩
theorem same_ints(c:8<=k)(l:List Int):aC P k 9 [.lst (l.map .int),.lst (l.map .int)]=some (.bl true):=by
 obtain⟨a,b⟩:=rN l;have:=c9 4 (k-8) (.lst (l.map .int)) (by show depth.depths (l.map PV.int)+1<=4;omega) a
 rwa [show 2*4+(k-8)=k by omega]at this
theorem Fo(k:Nat)(a:List Str)(w:Nat)(e:Wd a w)(b:a.length<=8)(d:w<=8):aC P (k+2) 48 [.tup (a.map .str)]=some (.lst ((bV (aZ a)).map .int)):=by
 have c:∀z∈a,z.length<=8:=λz hz=>by rw[e z hz];exact d
 rw[c48 k a b c,kF a b c]
theorem c78(k:Nat)(a:List Str)(w:Nat)(g:Wd a w)(d:a.length<=8)(f:w<=8):aC P (k+12) 78 [.tup (a.map .str)]=some (.bl true):=by
 have c:aC P (k+11) 48 _=_:=Fo (k+9) a w g d f;have b:aC P (k+11) 75 _=_:=c75 (k+7) a w g d f;have e:=same_ints (k:=k+11) (by omega) (bV (aZ a));have h:=eE (l:=aZ a) (gQ a d λz hz=>by rw[g z hz];exact f);have i:=bH a
 generalize bV (aZ a)=R at c b e h
 refine cK rfl rfl ?_;simp only[d78,entry];walk_at "ev";rw[c];walk_at "ev";rw[b];walk_at "ev";rw[e];walk_at "ev";rw[gn (xs:=R.map .int) (n:=true) rfl (by rw[JC];have:=h.2.1;show _<16777216;omega)];walk_at "ev";rw[b];walk_at "ev";rw[e];walk_at "ev"
noncomputable def iG(n:Nat):Str:=⟨(List.replicate n (Str.ofString ".").cps.toList).flatten.toArray⟩
theorem nV(n:Nat):(iG n).cps.toList=List.replicate n 46:=by
 unfold iG;show(List.replicate n [46]).flatten=_
 induction n with
 |zero=>rfl|succ n a =>rw[KC,Jp,a,KC];rfl
theorem iF(n:Nat):(iG n).length=n:=by show(iG n).cps.size=n;rw[<- JZ,nV,KA]
noncomputable def zm(A B:List Str)(a b:Nat):List Str:=A.map (λz=>z++iG b)++B.map (λz=>iG a++z)
theorem at0{B:List Str}(b0:B≠[]):∃z,z∈B/\eo (B.map PV.str) 0=some (.str z):=by
 cases B with
 | nil=>exact absurd rfl b0
 | cons z B=>exact⟨z,JL,Ik⟩
theorem add_str(h:x.length+y.length<=1000):cN .Add (.frz (.str x) a) (.frz (.str y) b)=some (sc (.str (x++y))):=by
 have e:cN .Add (.frz (.str x) a) (.frz (.str y) b)=if x.length+y.length<=LN then some (sc (.str (x++y)))else none:=by rfl
 rw[e,JI (by show _<=16777216;omega)]
theorem yc(b:Wd a w)(d:w<=8)(c:z∈a):fH (.str z)=some w:=by rw[len_str,b z c,JI (by show w<=16777216;omega)]
theorem c79(k:Nat)(A B:List Str)(b a:Nat)(e:Wd A b)(f:Wd B a)(o:A≠[])(n:B≠[])(t:A.length<=8)(v:B.length<=8)(d:b<=8)(c:a<=8):aC P (k+1) 79 [.tup (A.map .str),.tup (B.map .str)]=some (.tup ((zm A B b a).map .str)):=by
 have j:=bH A;have q:=bH B;obtain⟨s,m,p⟩:=at0 o;obtain⟨u,i,h⟩:=at0 n;have g:=yc e d m;have l:=yc f c i;refine cK rfl rfl ?_;simp only[d79,entry];walk_at "ev";rw[j,q,JI (by rw[JC];omega),cD (G:=λz=>PV.str (z++iG a)) (λz hz=>by rw[h];walk_at "ev";rw[l];walk_at "ev";rw[JI ⟨by omega,by omega,by decide⟩,Kw];show(cN .Add (.frz (.str z) true) (.frz (.str (iG a)) true)).bind (λr=>Option.map some r.keep)=_;rw[add_str (by rw[e z hz,iF];omega)];rfl)]
 walk_at "ev";rw[JI (by rw[JC];omega),cD (G:=λz=>PV.str (iG b++z)) (λz hz=>by rw[p];walk_at "ev";rw[g];walk_at "ev";rw[JI ⟨by omega,by omega,by decide⟩,Kw];show(cN .Add (.frz (.str (iG b)) true) (.frz (.str z) true)).bind (λr=>Option.map some r.keep)=_;rw[add_str (by rw[f z hz,iF];omega)];rfl)]
 walk_at "ev";rw[JI (by rw[JM,JC,JC];omega)];walk_at "ev";unfold zm;rw[Jo,J4,J4];rfl
theorem sd(x y:Str):(x++y).cps.toList=x.cps.toList++y.cps.toList:=by show(x.cps++y.cps).toList=_;rw[J3]
theorem nE(x:Str):x.cps.toList.length=x.length:=by rw[JZ];rfl
theorem Ca(A B:List Str)(a b:Nat):(zm A B a b).length=A.length+B.length:=by unfold zm;rw[JM,JC,JC]
theorem Fp{A B:List Str}{wa wb:Nat}(ha:Wd A wa)(hb:Wd B wb):Wd (zm A B wa wb) (wa+wb):=fun z hz=>by
 have al:∀x y:Str,(x++y).length=x.length+y.length:=fun x y=>by rw[<- nE,sd,JM,nE,nE]
 unfold zm at hz
 rcases Jn.mp hz with h|h
 ·obtain⟨y,hy,rfl⟩:=JX.mp h
  rw[al,ha y hy,iF]
 ·obtain⟨y,hy,rfl⟩:=JX.mp h
  rw[al,hb y hy,iF]
theorem zA{a:Type}{l m:List a}{d:a}{j:Nat}(h:j<l.length):(l++m).getD j d=l.getD j d:=by rw[JQ,JQ,KM h]
theorem yz{a:Type}{l m:List a}{d:a}{j:Nat}(h:l.length<=j):(l++m).getD j d=m.getD (j-l.length) d:=by rw[JQ,JQ,KR h]
theorem xV:(List.replicate n 46).getD j 0≠120:=by
 rw[JQ,L5]
 split<;>simp
theorem Fh{A B:List Str}{wa wb:Nat}(ha:Wd A wa)(i j:Nat):cd (zm A B wa wb) i j=120↔(i<A.length/\j<wa/\cd A i j=120)\/(A.length<=i/\wa<=j/\cd B (i-A.length) (j-wa)=120):=by
 unfold zm
 by_cases hi:i<A.length
 ·have e:cd (A.map (fun z=>z++iG wb)++B.map (fun z=>iG wa++z)) i j=(A[i].cps.toList++List.replicate wb 46).getD j 0:=by
   rw[lC (by rw[JM,JC];omega),List.getElem_append_left (by rw[JC];exact hi),List.getElem_map,sd,nV]
  have lz:A[i].cps.toList.length=wa:=by rw[nE];exact ha _ (KY hi)
  rw[e,lC hi]
  by_cases hj:j<wa
  ·rw[zA (by omega)]
   exact⟨fun h=>.inl ⟨hi,hj,h⟩,fun h=>by
    rcases h with h|h
    ·exact h.2.2
    ·omega⟩
  ·rw[yz (by omega),lz]
   exact⟨fun h=>absurd h xV,fun h=>by rcases h with h|h<;>omega⟩
 ·by_cases hk:i<A.length+B.length
  ·have hb:i-A.length<B.length:=by omega
   have e:cd (A.map (fun z=>z++iG wb)++B.map (fun z=>iG wa++z)) i j=(List.replicate wa 46++B[i-A.length].cps.toList).getD j 0:=by
    rw[lC (by rw[JM,JC,JC];omega),List.getElem_append_right (by rw[JC];omega),List.getElem_map,sd,nV];simp only[JC]
   rw[e,lC hb]
   by_cases hj:j<wa
   ·rw[zA (by rw[KA];exact hj)]
    exact⟨fun h=>absurd h xV,fun h=>by rcases h with h|h<;>omega⟩
   ·rw[yz (by rw[KA];omega),KA]
    exact⟨fun h=>.inr ⟨by omega,by omega,h⟩,fun h=>by
     rcases h with h|h
     ·omega
     ·exact h.2.2⟩
  ·rw[zg (by rw[JM,JC,JC];exact hk),zg (rows:=B) (by omega)]
   refine⟨fun h=>(by cases h),fun h=> ?_⟩
   rcases h with h|h
   ·omega
   ·cases h.2.2
noncomputable def G6(n w:Nat)(c:aX):aX:=(c.1+n,c.2+w)
theorem A3{A B:List Str}{wa wb:Nat}(ha:Wd A wa)(hb:Wd B wb)(a8:A.length<=4)(b8:B.length<=4)(wa8:wa<=4)(wb8:wb<=4):bV (aZ (zm A B wa wb))=gp (bV (aZ A)) (bV (aZ B)):=by
 have pm:(aZ (zm A B wa wb)).Perm (aZ A++(aZ B).map (G6 A.length wa)):=by
  refine(MP (bv _) ?_).mpr fun c=> ?_
  ·refine Kv.mpr ⟨bv A,?_,fun x hx y hy z=> ?_⟩
   ·refine L6 _ (fun a b h z=>h ?_) (bv B)
    have z1:a.1+A.length=b.1+A.length:=(LC z).1;have z2:a.2+wa=b.2+wa:=(LC z).2;exact MM (by omega) (by omega)
   ·obtain⟨y,_,rfl⟩:=JX.mp hy
    have:=(qP ha ((bR A x).mp hx)).1;rw[z]at this;have:y.1+A.length<A.length:=this;omega
  ·rw[bR,Fh ha,Jn,bR,JX]
   constructor
   ·rintro(h|h)
    ·exact .inl h.2.2
    ·exact .inr ⟨(c.1-A.length,c.2-wa),(bR B _).mpr h.2.2,MM (by show c.1-A.length+A.length=c.1;omega) (by show c.2-wa+wa=c.2;omega)⟩
   ·rintro(h|⟨d,hd,rfl⟩)
    ·exact .inl ⟨(qP ha h).1,(qP ha h).2,h⟩
    ·refine .inr ⟨by show A.length<=d.1+A.length;omega,by show wa<=d.2+wa;omega,?_⟩
     show cd B (d.1+A.length-A.length) (d.2+wa-wa)=120;rw[Nat.add_sub_cancel,Nat.add_sub_cancel];exact(bR B d).mp hd
 have dW:∀a b:aX,jk (G6 A.length wa a) (G6 A.length wa b)=jk a b:=fun a b=>by
  unfold jk G6;rw[KU];simp
 have ln:∀{R:List Str}{w:Nat},Wd R w->R.length<=4->w<=4->(aZ R).length<=32:=fun{R w} hw h4 w4=>by
  have:=gS 0 (R.map fM) fun r hr=>by
   obtain⟨z,hz,rfl⟩:=JX.mp hr;unfold fM;refine Jw (Ko _ _) ?_;rw[Je,hw z hz];omega
  rw[JC]at this;unfold aZ;omega
 have l1:=ln ha a8 wa8;have l2:=ln hb b8 wb8;rw[i6 pm,<-kN (by rw[JC];omega) (fun a ha' b hb' => ?_),xS dW];obtain⟨d,hd,rfl⟩:=JX.mp hb';have h1:=qP ha ((bR A a).mp ha');unfold jk G6;simp;omega
theorem xT(c a:Nat)(d:0<c)(b:c<1000)(h:Builtin.Range.small 0 (a:Int) (c:Int)=true/\(Builtin.Range.rangeSize 0 (a:Int) (c:Int)).toNat=(a+(c-1))/c):i7 [sc (.int 0),sc (.int (a:Nat)),sc (.int (c:Nat))]=some ((List.range ((a+(c-1))/c)).map λm=>.int (0+(m:Nat)*(c:Nat))):=by show(if(c:Int)≠0/\(c:Int).natAbs<1073741824/\Builtin.Range.small 0 (a:Int) (c:Int)=true then some ((List.range (Builtin.Range.rangeSize 0 (a:Int) (c:Int)).toNat).map λm=>PV.int (0+(m:Nat)*(c:Int)))else none)=_;rw[JI ⟨by omega,by omega,h.1⟩,h.2]
theorem step_at{c n i:Nat}(h:((List.range n).map λm=>PV.int (0+(m:Nat)*(c:Nat)))[i]? =some y):y=.int ((c*i:Nat):Int):=by
 rw[JP]at h
 by_cases a:i<n
 ·rw[KD a]at h
  rw[<- Jb h];show PV.int (0+(i:Int)*(c:Int))=_
  congr 1
  rw[Int.zero_add,Int.mul_comm];rfl
 ·rw[Jz (by simpa using a)]at h
  cases h
theorem sm2:∀a:Nat,a<64->(Builtin.Range.small 0 (a:Int) ((2:Nat):Int)=true/\(Builtin.Range.rangeSize 0 (a:Int) ((2:Nat):Int)).toNat=(a+(2-1))/2):=by decide
noncomputable def FB(i:Nat)(x v:PV)(m:Bool)(a:En):Option Fl:=match x,a[i]? with
 | .int j,some (.own xs n)=>if 0<=j/\j<=xs.length/\xs.length<LN then some (.nx (a.set i (.own (xs.take j.toNat++v::xs.drop j.toNat) (n&&m))))else none|_,_=>none
theorem CH:fe b c (.ins i k e) a=(aP b k a).bind λx=>(aP b e a).bind λr=>r.keep.bind λp=>FB i x.val p.1 p.2 a:=rfl
theorem yt(h:b[i]? =some (.own a n))(c:0<=j)(d:j<=a.length)(e:a.length<LN) :
  FB i (.int j) v m b=some (.nx (b.set i (.own (a.take j.toNat++v::a.drop j.toNat) (n&&m)))):=by
 unfold FB;rw[h];exact JI ⟨c,d,e⟩
theorem Ie(k:Nat)(c:Int)(m:Nat)(s:m<=8):aC P (k+1) 21 [.int c,.int (m:Nat)]=some (.lst ((br c m).1.map λi=>.int (i:Nat))):=by
 refine cK rfl rfl ?_;simp only[d21,entry];walk_at "go";refine cR (xs:=(List.range m).map λi=>.int (0+(i:Nat))) (n:=true) ?_ (λi g=>∃b:TV,g=[.frz (.int (br c i).2) true,.frz (.int m) true,.own ((br c i).1.map λi=>.int (i:Nat)) true,b]) ⟨.un,rfl⟩ ?_ ?_
 ·walk_at "ev"
  simp only[i7,cE];rw[JI ⟨by omega,by omega⟩];rfl
 ·rintro i y g j ⟨b,rfl⟩
  obtain⟨q,rfl⟩:=gl j;refine⟨_,rfl,?_⟩;have f:(br c i).1.length=i:=gu c i;obtain⟨d,a⟩:∃d,d=(br c i).2:=⟨_,rfl⟩;obtain⟨o,e⟩:∃o,o=(br c i).1:=⟨_,rfl⟩;have h:0<=d%((i:Int)+1):=Int.emod_nonneg _ (by omega);have r:d%((i:Int)+1)<(i:Int)+1:=MQ _ (by omega);have p:(br c (i+1)).1=o.take (d%((i:Int)+1)).toNat++i::o.drop (d%((i:Int)+1)).toNat:=by rw[e,a];rfl
  have l:(br c (i+1)).2=d/((i:Int)+1):=by rw[a];rfl
  rw[p,l,<-e,<-a];rw[<- e]at f;walk_at "ev";rw[CH];walk_at "go";rw[yt rfl h (by rw[JC,f];omega) (by rw[JC,f];show i<16777216;omega)];walk_at "go";exact⟨.frz (.int i) true,by simp⟩
 ·rintro g ⟨b,rfl⟩
  rw[mj];walk_at "ev"
theorem c5x(k:Nat)(c j:Int)(a:0<=j)(b:j<=1000000):aC P (k+1) 5 [.int c,.int j]=some (.int (Ej c j)):=by refine cK rfl rfl ?_;simp only[d5,entry];walk_at "go";rfl
noncomputable abbrev iN(l:List Nat):PV:=.lst (l.map λi=>.int (i:Nat))
theorem nK:∀l:List Nat,aQ (l.map λi=>.int (i:Nat))=some (l.map λi:Nat=>(i:Int))
 |[]=>rfl|x::l=>by rw[JR,aQ,nK l];rfl
theorem j6:∀l:List Nat,(l.map λi:Nat=>(i:Int)).sum=(l.sum:Nat)
 |[]=>rfl|x::l=>by rw[JR,Kz,Kz,j6 l];omega
theorem xA:lO .sum [.frz (iN l) n]=some (sc (.int (l.sum:Nat))):=by rw[uc,nK,KF,j6]
theorem mZ{cd:Nat->List PV->Option PV}{τ:En}{i j:Nat}{e:IE}{l:List Nat}{n:Bool}{r:RV}(b:nP τ i=some (.frz (iN l) n))(c:aP cd e τ=some r)(d:r.val=.int (j:Nat)):aP cd (.bf .sum (.cons (.sl (.var i) .no (.yes e)) .nil)) τ=some (sc (.int ((l.take j).sum:Nat))):=by
 simp only[cw,cX,cz,dH,cx,dB,cZ,cc,cr,cy,c7,cf,cg,cY,dJ,cu,cq,dF,ck,ci,dG,wS,wT,z0t,z0u,b,c,Jl,KF];have a:pk (some r)=some (some (j:Int)):=by show(match r.val with| .int i=>some (some i)|_=>none)=_;rw[d]
 rw[show pk none=some none from rfl,Jl,a,Jl,rE];have f:cut (l.map λi=>PV.int (i:Nat)) none (some (j:Int))=(l.take j).map λi=>.int (i:Nat):=by unfold cut;rw[HT.xO,HT.A1,List.drop_zero,Nat.sub_zero,JC,<-List.map_take,<-List.take_eq_take_min]
 rw[f];show(aQ ((l.take j).map λi=>PV.int (i:Nat))).map (λns=>sc (.int ns.sum))=_;rw[nK,KF,j6]
theorem HB(c:a<1000)(d:b<1000):i7 [sc (.int (a:Nat)),sc (.int (b:Nat))]=some ((List.range (b-a)).map λk=>.int ((a:Nat)+(k:Nat))):=by simp only[i7,cE];rw[JI (by refine⟨?_,?_,?_,?_⟩<;>omega),show((b:Int)-(a:Int)).toNat=b-a by omega]
theorem yp{r:List Str}(h:∀z∈r,z="."\/z="x")(f:r.length<=8):pO .join (sc (.str "")) [.frz (.lst (r.map .str)) true]=some (sc (.str (fj "" r))):=by
 have b:∀r:List Str,dc (r.map PV.str)=some r:=by
  intro r
  induction r with
  |nil=>rfl|cons z r a=>rw[JR,dc,a];rfl
 have c:∀r:List Str,(∀z∈r,z="."\/z="x")->(r.map (·.length)).sum=r.length:=by
  intro r
  induction r with
  |nil=>intro _;rfl|cons z r a =>
   intro h;have d:z.length=1:=by rcases h z (by simp)with e|e<;>(rw[e];rfl)
   rw[JR,Kz,a λy hy=>h y (JF _ hy),d,JY];omega
 show((dc (r.map PV.str)).bind λys=>if(ys.map (·.length)).sum+ys.length*(Str.ofString "").length<=LN then some (sc (.str (fj (Str.ofString "") ys)))else none)=_;rw[b,Jl,c r h,JI (by show _+_*0<=16777216;omega)]
theorem tP(h:((List.range n).map λi=>PV.int ((a:Nat)+(i:Nat)))[i]? =some y):i<n/\y=.int ((a+i:Nat):Int):=by
 rw[JP]at h
 by_cases b:i<n
 ·rw[KD b]at h
  cases h;exact⟨b,by rw[Int.natCast_add]⟩
 ·rw[Jz (by rw[Je];omega)]at h
  cases h
section
open PySem.Spec PyProof.Rows
theorem Dt:ee GY ["_law_head","_law_cell_here"] (aR GR):=⟨rfl,rfl,rfl,by decide +kernel,rfl,by decide +kernel,by decide +kernel⟩
theorem lv1(h:aC P k 20001 [.non]=some v):2<=k:=by
 by_cases a:2<=k;exact a
 ·have e:∀k,k<2->(aC P k 20001 [.non]).isNone=true:=by decide +kernel
  have:=e k (by omega);rw[h]at this;cases this
theorem uZ(h:aC P (k+1) 76 i=some r):2<=k/\∃x c,i=[.int x,.int c]/\r=.tup ((ef x c).map .str):=by
 rw[sS]at h;have l:P 76=some IQ:=rfl;rw[l,Jl]at h
 split at h
 case isFalse=>cases h
 rename_i g;have g:i.length=2:=g;obtain⟨a,b,rfl⟩:=Bx g;simp only[IQ,Ab,Ac,io,iU,iT,iY,ic,iR,iV,ik,ii,ip,iX,iS,ig,ie,il,iZ,iW,cw,cX,cz,dH,cx,dB,cZ,cc,cr,cy,c7,cf,cg,cY,dJ,cu,cq,dF,ck,ci,dG,wS,wT,entry,Jl,KF,JR,KO,cE]at h;cases j:aC P k 20001 [.non]with
 |none=>rw[j]at h;cases h|some x =>
  rw[j]at h;refine⟨lv1 j,?_⟩;simp only[KF,Jl,tK]at h;have e:(([TV.frz a (imm a),.frz b (imm b)]++List.replicate (10-[a,b].length) TV.un).take 2).map TV.valD=[a,b]:=rfl;rw[e]at h;cases d:Fs [a,b]with
  |none=>rw[d]at h;cases h|some m =>
   rw[d]at h;have h:some m =some r:=h;cases h;unfold Fs at d
   split at d
   ·rename_i x c f
    cases f;cases d;exact⟨x,c,rfl,rfl⟩
   ·cases d
theorem c76(k:Nat)(x c:Int):aC P (k+3) 76 [.int x,.int c]=some (.tup ((ef x c).map .str)):=rfl
noncomputable abbrev zT:Ct:=⟨GY,(aR GR).names,F,G,B,[]⟩
noncomputable abbrev jh(x c:Int)(o q:List Nat)(g a b d:TV):En:=[.frz (.int x) true,.frz (.int c) true,.frz (iN (de x)) true,.frz (iN (cO x)) true,.frz (iN o) true,.frz (iN q) true,g,a,b,d]
theorem Hd(f:a.ob=none)(e:b.ob=none)(g:d.ob=none):∀(i:Nat)(t:TV),(jh x c o q .un a b d)[i]? =some t->t.ob=none:=by
 intro i t h;have:=Jd h;simp only[jh,JU,KJ,Lk]at this
 rcases this with rfl|rfl|rfl|rfl|rfl|rfl|rfl|rfl|rfl|rfl<;>first|rfl|assumption
noncomputable abbrev b76(i:Nat):Stmt:=(bM GR).getD i (.Pass ⟨0,0,0,0⟩)
noncomputable def uw:Stmt->Stmt
 | .For _ _ b _ _=>b.getD 0 (.Pass ⟨0,0,0,0⟩)| .If _ a _ _=>a.getD 0 (.Pass ⟨0,0,0,0⟩)|x=>x
section
variable{X:Cx}{Hi:Hp}{O:List Addr}{σ:L2.St}{H:Hp}{D:dz}{k:Nat}{x c:Int}{o q:List Nat}{A:Addr}{g:Gd}{n m:Nat}
theorem Cc(C:bL (aC P (k+2)) X zT)(ho:o[r]? =some (o.getD r 0))(hq:q[l]? =some (q.getD l 0))(hr:r<8)(hl8:l<8)(hn:o.getD r 0<n)(hm:q.getD l 0<m)(dm:iq n m g)
  (R:aT X.K Hi O (jh x c o q .un (.frz (.int (j:Nat)) true) (.frz (.int (r:Nat)) true) (.frz (.int (l:Nat)) true)) σ H) (hA:σ[6]? =some (some (.ref A))) (hg:Gr O A g H)
  (fin:∀G,aT X.K Hi O (jh x c o q .un (.frz (.int (j:Nat)) true) (.frz (.int (r:Nat)) true) (.frz (.int (l:Nat)) true)) σ G->aB (aK H O) (aK G O)->Gr O A (vv c o q r l g) G->D.nx σ G):Cy X [uw (uw (uw (b76 5)))] D σ H:=by
 refine sw (cF jf) ?_;have e5:=c5x (k+1) c (8*(r:Int)+(l:Int)) (by omega) (by omega);refine if_w (n:=80) (c' :=.val (.cmp .Gt (.bin .Mod (.call 5 (.cons (.var 1) (.cons (.bin .Add (.bin .Mult (.con (.int 8)) (.var 8)) (.var 9)) .nil))) (.con (.int 4))) (.con (.int 0)))) (t:=decide (0<Ej c (8*(r:Int)+(l:Int))%4)) C (by kernel_rfl) ?_ R (λht G s=> ?_) λht G s=> ?_
 ·walk_at "ev"
  rw[e5];walk_at "go"
 ·have ht:=Lh ht
  refine sw (cF jf) ?_;obtain⟨d1,d2,d3⟩:=dm.at hn;refine uk (n:=80) (i:=6) (e' :=.con (.str "x")) (ka' :=.ix (.var 4) (.var 8)) (kb' :=.ix (.var 5) (.var 9)) (z:="x") (m:=true) (a:=o.getD r 0) (b:=q.getD l 0) (ra:=.frz (.int (o.getD r 0:Nat)) true) (rb:=.frz (.int (q.getD l 0:Nat)) true) C (by kernel_rfl) rfl rfl rfl (by kernel_rfl) (by kernel_rfl) (by kernel_rfl) ?_ ?_ rfl ?_ rfl (R.ext s) (Hd rfl rfl rfl) hA (hg.ext s) d1 (by rw[d2];exact hm) λG2 R2 s2 g2=> ?_
  ·walk_at "ev"
  ·have ea:eo (o.map λi=>PV.int (i:Nat)) (r:Int)=some (.int (o.getD r 0:Nat)):=cH (by rw[JP,ho];rfl)
   walk_at "ev";rw[ea];walk_at "ev"
  ·have ea:eo (q.map λi=>PV.int (i:Nat)) (l:Int)=some (.int (q.getD l 0:Nat)):=cH (by rw[JP,hq];rfl)
   walk_at "ev";rw[ea];walk_at "ev"
  ·refine fin G2 R2 ((aD s).trans s2) ?_
   unfold vv;rw[JI ht];exact g2
 ·have ht:=of_decide_eq_false ht
  refine sw mx (fin G (R.ext s) (aD s) ?_);unfold vv;rw[JE ht];exact hg.ext s
theorem Ft(C:bL (aC P (k+2)) X zT)(w:X.fn=λ_=>true)(J:o[r]? =some (o.getD r 0))(U:r<8)(B:o.getD r 0<n)(Q:∀l,l<(cO x).sum->q[l]? =some (q.getD l 0)/\q.getD l 0<m)(F:iq n m g)(hj:j<3)(p:d.ob=none)
  (R:aT X.K Hi O (jh x c o q .un (.frz (.int (j:Nat)) true) (.frz (.int (r:Nat)) true) d) σ H) (T:σ.length=X.N.length) (W:σ[6]? =some (some (.ref A))) (L:Gr O A g H)
  (v:∀d a G,d.ob=none->aT X.K Hi O (jh x c o q .un (.frz (.int (j:Nat)) true) (.frz (.int (r:Nat)) true) d) a G->a.length=X.N.length->a[6]? =some (some (.ref A))->aB (aK H O) (aK G O)->Gr O A (GU c o q r ((cO x).take j).sum g ((cO x).getD j 0)) G->D.nx a G):Cy X [uw (uw (b76 5))] D σ H:=by
 obtain⟨a0,M⟩:=wj x;have t1:=j5 (cO x) j;have t2:=mY (cO x) (j+1);have E:=mZ (cd:=aC P (k+2)) (τ:=jh x c o q .un (.frz (.int (j:Nat)) true) (.frz (.int (r:Nat)) true) d) (i:=3) (j:=j) (e:=.var 7) (l:=cO x) (n:=true) (r:=.frz (.int (j:Nat)) true) rfl rfl rfl;have V:=mZ (cd:=aC P (k+2)) (τ:=jh x c o q .un (.frz (.int (j:Nat)) true) (.frz (.int (r:Nat)) true) d) (i:=3) (j:=j+1) (e:=.bin .Add (.var 7) (.con (.int 1))) (l:=cO x) (n:=true) (r:=.frz (.int ((j:Int)+1)) true) rfl rfl rfl;refine sw (cF jf) ?_
 refine kq (n:=80) (i:=9) (it' :=.rng (.cons (.bf .sum (.cons (.sl (.var 3) .no (.yes (.var 7))) .nil)) (.cons (.bf .sum (.cons (.sl (.var 3) .no (.yes (.bin .Add (.var 7) (.con (.int 1))))) .nil)) .nil))) (k:=true) C w (by kernel_rfl) (by kernel_rfl) ?_ R T
  (λi z a G=>a[6]? =some (some (.ref A))/\(∃d:TV,d.ob=none/\z=jh x c o q .un (.frz (.int (j:Nat)) true) (.frz (.int (r:Nat)) true) d)/\Gr O A (GU c o q r ((cO x).take j).sum g i) G)
  (λ_ _ _ _ _ s ⟨h,z2,f⟩=>⟨h,z2,f.ext s⟩) ⟨W,⟨d,p,rfl⟩,L⟩ ?_ ?_ (xs:=(List.range ((cO x).getD j 0)).map λi=>.int ((((cO x).take j).sum:Nat)+(i:Nat)))
 ·show(cC _ _ _).bind _=_
  rw[show cC (aC P (k+2)) (.cons (.bf .sum (.cons (.sl (.var 3) .no (.yes (.var 7))) .nil)) (.cons (.bf .sum (.cons (.sl (.var 3) .no (.yes (.bin .Add (.var 7) (.con (.int 1))))) .nil)) .nil)) (jh x c o q .un (.frz (.int (j:Nat)) true) (.frz (.int (r:Nat)) true) d)=some [sc (.int (((cO x).take j).sum:Nat)),sc (.int (((cO x).take (j+1)).sum:Nat))]by unfold cC;rw[E,Jl];unfold cC;rw[V,Jl];rfl,Jl,HB (by omega) (by omega),KF,show((cO x).take (j+1)).sum-((cO x).take j).sum=(cO x).getD j 0 by omega]
 ·rintro i y z a G u D' I t b ⟨h,⟨d,p,rfl⟩,f⟩ nx
  obtain⟨hi,rfl⟩:=tP I;obtain⟨Z,Y⟩:=Q (((cO x).take j).sum+i) (by omega);refine Cc (n:=n) (m:=m) (j:=j) (r:=r) (l:=((cO x).take j).sum+i) (g:=GU c o q r ((cO x).take j).sum g i) C J Z U (by omega) B Y (F.ln B i) t (by rw[Jj (by decide)];exact h) f λG2 R3 s3 g3=> ?_;exact nx _ _ G2 R3 b s3 ⟨by rw[Jj (by decide)];exact h,⟨_,rfl,rfl⟩,g3⟩
 ·rintro z a G t b S ⟨h,⟨d,p,rfl⟩,f⟩
  rw[JC,Je]at f;exact v d a G p t b h S f
theorem zp(C:bL (aC P (k+2)) X zT)(w:X.fn=λ_=>true)(t:∀r,r<(de x).sum->o[r]? =some (o.getD r 0)/\o.getD r 0<n)(U:∀l,l<(cO x).sum->q[l]? =some (q.getD l 0)/\q.getD l 0<m)(M:iq n m g)(L:j<3)(z:b.ob=none)(f:d.ob=none)
  (R:aT X.K Hi O (jh x c o q .un (.frz (.int (j:Nat)) true) b d) σ H) (W:σ.length=X.N.length) (Z:σ[6]? =some (some (.ref A))) (S:Gr O A g H)
  (E:∀b d a G,b.ob=none->d.ob=none->aT X.K Hi O (jh x c o q .un (.frz (.int (j:Nat)) true) b d) a G->a.length=X.N.length->a[6]? =some (some (.ref A))->aB (aK H O) (aK G O)->Gr O A (GS c o q ((de x).take j).sum ((cO x).take j).sum ((cO x).getD j 0) g ((de x).getD j 0)) G->D.nx a G):Cy X [uw (b76 5)] D σ H:=by
 obtain⟨a0,T⟩:=wz x;have t1:=j5 (de x) j;have t2:=mY (de x) (j+1);have J:=mZ (cd:=aC P (k+2)) (τ:=jh x c o q .un (.frz (.int (j:Nat)) true) b d) (i:=2) (j:=j) (e:=.var 7) (l:=de x) (n:=true) (r:=.frz (.int (j:Nat)) true) rfl rfl rfl;have Y:=mZ (cd:=aC P (k+2)) (τ:=jh x c o q .un (.frz (.int (j:Nat)) true) b d) (i:=2) (j:=j+1) (e:=.bin .Add (.var 7) (.con (.int 1))) (l:=de x) (n:=true) (r:=.frz (.int ((j:Int)+1)) true) rfl rfl rfl;refine sw (cF jf) ?_
 refine kq (n:=80) (i:=8) (it' :=.rng (.cons (.bf .sum (.cons (.sl (.var 2) .no (.yes (.var 7))) .nil)) (.cons (.bf .sum (.cons (.sl (.var 2) .no (.yes (.bin .Add (.var 7) (.con (.int 1))))) .nil)) .nil))) (k:=true) C w (by kernel_rfl) (by kernel_rfl) ?_ R W
  (λi F a G=>a[6]? =some (some (.ref A))/\(∃b d:TV,b.ob=none/\d.ob=none/\F=jh x c o q .un (.frz (.int (j:Nat)) true) b d)/\Gr O A (GS c o q ((de x).take j).sum ((cO x).take j).sum ((cO x).getD j 0) g i) G)
  (λ_ _ _ _ _ s ⟨v,z2,p⟩=>⟨v,z2,p.ext s⟩) ⟨Z,⟨b,d,z,f,rfl⟩,S⟩ ?_ ?_ (xs:=(List.range ((de x).getD j 0)).map λi=>.int ((((de x).take j).sum:Nat)+(i:Nat)))
 ·show(cC _ _ _).bind _=_
  rw[show cC (aC P (k+2)) (.cons (.bf .sum (.cons (.sl (.var 2) .no (.yes (.var 7))) .nil)) (.cons (.bf .sum (.cons (.sl (.var 2) .no (.yes (.bin .Add (.var 7) (.con (.int 1))))) .nil)) .nil)) (jh x c o q .un (.frz (.int (j:Nat)) true) b d)=some [sc (.int (((de x).take j).sum:Nat)),sc (.int (((de x).take (j+1)).sum:Nat))]by unfold cC;rw[J,Jl];unfold cC;rw[Y,Jl];rfl,Jl,HB (by omega) (by omega),KF,show((de x).take (j+1)).sum-((de x).take j).sum=(de x).getD j 0 by omega]
 ·rintro i y F a G u D' Q B h ⟨v,⟨b,d,z,f,rfl⟩,p⟩ nx
  obtain⟨hi,rfl⟩:=tP Q;obtain⟨q1,q2⟩:=t (((de x).take j).sum+i) (by omega);have I:iq n m (GS c o q ((de x).take j).sum ((cO x).take j).sum ((cO x).getD j 0) g i):=M.rw i λr hr=>(t r (by omega)).2;refine Ft (n:=n) (m:=m) (j:=j) (r:=((de x).take j).sum+i) C w q1 (by omega) q2 U I L f B h (by rw[Jj (by decide)];exact v) p λd σ2 G2 f R3 hl3 z4 s3 g3=> ?_;exact nx _ _ G2 R3 hl3 s3 ⟨z4,⟨_,d,rfl,f,rfl⟩,g3⟩
 ·rintro F a G B h V ⟨v,⟨b,d,z,f,rfl⟩,p⟩
  rw[JC,Je]at p;exact E b d a G z f B h v V p
theorem Fu(C:bL (aC P (k+2)) X zT)(w:X.fn=λ_=>true)(p:∀r,r<(de x).sum->o[r]? =some (o.getD r 0)/\o.getD r 0<n)(T:∀l,l<(cO x).sum->q[l]? =some (q.getD l 0)/\q.getD l 0<m)(W:(de x).sum=n)(M:iq n m g)
  (R:aT X.K Hi O (jh x c o q .un .un .un .un) σ H) (V:σ.length=X.N.length) (Y:σ[6]? =some (some (.ref A))) (S:Gr O A g H)
  (E:∀a b d e G,a.ob=none->b.ob=none->d.ob=none->aT X.K Hi O (jh x c o q .un a b d) e G->e.length=X.N.length->e[6]? =some (some (.ref A))->aB (aK H O) (aK G O)->Gr O A (Fv c o q (de x) (cO x) g 3) G->D.nx e G):WS X (b76 5) D σ H:=by
 refine kq (n:=80) (i:=7) (it' :=.rng (.cons (.con (.int 3)) .nil)) (k:=true) C w (by kernel_rfl) (by kernel_rfl) ?_ R V
  (λi F e G=>e[6]? =some (some (.ref A))/\(∃a b d:TV,a.ob=none/\b.ob=none/\d.ob=none/\F=jh x c o q .un a b d)/\Gr O A (Fv c o q (de x) (cO x) g i) G)
  (λ_ _ _ _ _ s ⟨v,z2,h⟩=>⟨v,z2,h.ext s⟩) ⟨Y,⟨_,_,_,rfl,rfl,rfl,rfl⟩,S⟩ ?_ ?_ (xs:=(List.range 3).map λi=>.int (0+(i:Nat)))
 ·rfl
 ·rintro i y F e G u Z Q B f ⟨v,⟨a,b,d,J,z,t,rfl⟩,h⟩ nx
  obtain⟨L,rfl⟩:=gl Q;have I:iq n m (Fv c o q (de x) (cO x) g i):=M.bk W (λr hr=>(p r (by omega)).2) i;refine zp (n:=n) (m:=m) (j:=i) C w p T I L z t B f (by rw[Jj (by decide)];exact v) h λb d σ2 G2 z t R3 hl3 z4 s3 g3=> ?_;exact nx _ _ G2 R3 hl3 s3 ⟨z4,⟨_,b,d,rfl,z,t,rfl⟩,g3⟩
 ·rintro F e G B f U ⟨v,⟨a,b,d,J,z,t,rfl⟩,h⟩
  rw[JC,Je]at h;exact E a b d e G J z t B f v U h
end
theorem FL{K:W.Frag}(hG:∀x v,G.lookup x=some v->∃u w,l x=some u/\RelV w u/\∀Hi n H,Rp K Hi n v H w)(hB:∀x,B.contains x=true->l x=none)(D:Def K l "_law_blocks" GR ["_law_head","_law_cell_here"] f fd)(p:Program)(w:World)(e:Heap)(k:Nat)
  (Z:∀y g,F.lookup y=some g->∃b M T,l y=some (.ref b)/\W.keepIn K (.ref b)=true/\Binds K M T []/\dZ p w K l e n6 k b M T (AW K (aC P k g))):dZ p w K l e n6 (k+1) f fd ["_law_head","_law_cell_here"] (AW K (aC P (k+1) 76)):=by
 refine D.fn.ok Dt (λvs H Q E h=> ?_) (λcdv A outer s H vs Q E hr h=> ?_)
 ·obtain⟨a0,r,R,V,_⟩:=h
  rw[<- R.len];obtain⟨_,x,c,rfl,_⟩:=uZ V;rfl
 obtain⟨a0,r,R,V,q⟩:=h;obtain⟨hk,x,c,rfl,rfl⟩:=uZ V;obtain⟨k,rfl⟩:∃k',k=k' +2:=⟨k-2,by omega⟩
 have C:bL (aC P (k+2)) (qK n6 p w K l e GY "_law_blocks" (aR GR) f cdv A outer s H E).nox zT :=
  ⟨rfl,Dt.nd,rfl,Dt.kind,rfl,hG,hB,λy g hy=>by obtain⟨b,M,T,z1,z2,z3,z4⟩:=Z y g hy;exact⟨k+2,b,M,T,z4,hr,z1,z2,z3⟩,Lm,hr.units⟩
 have R0:=mH (d:=IQ) (N:=GY) rfl R;have X:(start GY vs).length=GY.length:=by have:=R.len;unfold L2.start;rw[JM,JC,KA,<-this];rfl
 obtain⟨a2,a1⟩:=wz x;obtain⟨a4,I⟩:=wj x;obtain⟨o,O⟩:∃o,o=(br c (de x).sum).1:=⟨_,rfl⟩;obtain⟨z,j⟩:∃z,z =(br (c/40320) (cO x).sum).1:=⟨_,rfl⟩;have t:=Ie (k+1) c (de x).sum a1;have a :=Ie (k+1) (c/40320) (cO x).sum I;rw[<- O]at t;rw[<- j]at a;refine⟨_,cQ,?_⟩;refine sw (bZ jf cQ) ?_;refine Bb (fu:=0) (n:=80) C rfl (s' :=.asg 2 false [] (.lst (.cons (.bin .Add (.con (.int 1)) (.bin .Mod (.bin .FloorDiv (.var 0) (.con (.int 8))) (.con (.int 3)))) (.cons (.bin .Add (.con (.int 1)) (.bin .Mod (.bin .FloorDiv (.var 0) (.con (.int 24))) (.con (.int 3)))) (.cons (.bin .Add (.con (.int 1)) (.bin .Mod (.bin .FloorDiv (.var 0) (.con (.int 72))) (.con (.int 2)))) .nil))))) (τ' :=[.frz (.int x) true,.frz (.int c) true,.frz (iN (de x)) true,.un,.un,.un,.un,.un,.un,.un]) (by kernel_rfl) ?_ R0 X λσ1 H1 O1 R1 hl1 s1=> ?_
 ·have U:iN (de x)=.lst [.int (1+x/8%3),.int (1+x/24%3),.int (1+x/72%2)]:=by
   unfold iN de;simp -implicitDefEqProofs only[JR,KO];rw[show(((1+x/8%3).toNat:Nat):Int)=1+x/8%3 by omega,show(((1+x/24%3).toNat:Nat):Int)=1+x/24%3 by omega,show(((1+x/72%2).toNat:Nat):Int)=1+x/72%2 by omega]
  rw[U,kz];simp -implicitDefEqProofs only[IQ,entry];walk_at "go"
 refine sw (bZ jf cQ) ?_;refine Bb (fu:=0) (n:=80) C rfl (s' :=.asg 3 false [] (.lst (.cons (.bin .Add (.con (.int 1)) (.bin .Mod (.bin .FloorDiv (.var 0) (.con (.int 144))) (.con (.int 3)))) (.cons (.bin .Add (.con (.int 1)) (.bin .Mod (.bin .FloorDiv (.var 0) (.con (.int 432))) (.con (.int 3)))) (.cons (.bin .Add (.con (.int 1)) (.bin .Mod (.bin .FloorDiv (.var 0) (.con (.int 1296))) (.con (.int 2)))) .nil))))) (τ' :=[.frz (.int x) true,.frz (.int c) true,.frz (iN (de x)) true,.frz (iN (cO x)) true,.un,.un,.un,.un,.un,.un]) (by kernel_rfl) ?_ R1 hl1 λσ2 H2 O2 R2 hl2 s2=> ?_
 ·have U:iN (cO x)=.lst [.int (1+x/144%3),.int (1+x/432%3),.int (1+x/1296%2)]:=by
   unfold iN cO;simp -implicitDefEqProofs only[JR,KO];rw[show(((1+x/144%3).toNat:Nat):Int)=1+x/144%3 by omega,show(((1+x/432%3).toNat:Nat):Int)=1+x/432%3 by omega,show(((1+x/1296%2).toNat:Nat):Int)=1+x/1296%2 by omega]
  rw[U,kz];walk_at "go"
 refine sw (bZ jf cQ) ?_;refine Bb (fu:=0) (n:=80) C rfl (s' :=.asg 4 false [] (.call 21 (.cons (.var 1) (.cons (.bf .sum (.cons (.var 2) .nil)) .nil)))) (τ' :=[.frz (.int x) true,.frz (.int c) true,.frz (iN (de x)) true,.frz (iN (cO x)) true,.frz (iN o) true,.un,.un,.un,.un,.un]) (by kernel_rfl) ?_ R2 hl2 λσ3 H3 O3 R3 hl3 s3=> ?_
 ·obtain⟨L,J⟩:∃L,L=de x:=⟨_,rfl⟩
  rw[<- J]at t ⊢;rw[kz];simp -implicitDefEqProofs only[cw,cX,cz,dH,cx,dB,cZ,cc,cr,cy,c7,cf,cg,cY,dJ,cu,cq,dF,ck,ci,dG,wS,wT,dR,km,kl,Jl,KF,xA,JR,KO,cE];rw[t];walk_at "ev"
 refine sw (bZ jf cQ) ?_;refine Bb (fu:=0) (n:=80) C rfl (s' :=.asg 5 false [] (.call 21 (.cons (.bin .FloorDiv (.var 1) (.con (.int 40320))) (.cons (.bf .sum (.cons (.var 3) .nil)) .nil)))) (τ' :=jh x c o z .un .un .un .un) (by kernel_rfl) ?_ R3 hl3 λσ4 H4 O4 R4 hl4 s4=> ?_
 ·obtain⟨L,J⟩:∃L,L=cO x:=⟨_,rfl⟩
  rw[jh,<-J];rw[<- J]at a;rw[kz];simp -implicitDefEqProofs only[cw,cX,cz,dH,cx,dB,cZ,cc,cr,cy,c7,cf,cg,cY,dJ,cu,cq,dF,ck,ci,dG,wS,wT,dR,km,kl,Jl,KF,xA,JR,KO,cE,ub,sc];rw[JI (by decide)];simp -implicitDefEqProofs only[Jl,cE,JR,KO];rw[a];walk_at "ev"
 refine sw (bZ jf cQ) ?_;have ol:o.length=(de x).sum:=by rw[O];exact gu _ _
 have ql:z.length=(cO x).sum:=by rw[j];exact gu _ _
 refine CA (n:=80) (k:=true) (i:=6) (caps:=[5]) (xs:=o.map λi=>.int (i:Nat)) (row:=List.replicate (cO x).sum ".") (iter' :=.seq (.var 4)) (elt' :=.lc (.con (.str ".")) (.seq (.var 1)) .no []) C rfl (by kernel_rfl) (by kernel_rfl) (by kernel_rfl) (by kernel_rfl) (by kernel_rfl) ?_ ?_ ?_ R4 hl4 λA5 O5 H5 R5 s5 g5=> ?_
 ·walk_at "ev"
 ·rw[JC,ol]
  show _<=16777216;omega
 ·intro y _
  simp -implicitDefEqProofs only[cw,cX,cz,dH,cx,dB,cZ,cc,cr,cy,c7,cf,cg,cY,dJ,cu,cq,dF,ck,ci,dG,AQ,AR,AO,AS,AZ,Ae,Ad,km,kl,Jl,JR,KO,List.getD_cons_succ,List.getD_cons_zero,jh,mh];rw[JI (by rw[JC,ql];show _<=16777216;omega)];show Option.map (λx=>RV.own x.fst x.snd) (bq (λx=>some (some (PV.str ".",true))) (List.map (λi=>PV.int (i:Nat)) z))=_;rw[eU (g:=λ_:Nat=>PV.str ".") (λ_ _=>rfl),KF,<-ql,List.map_replicate,List.map_const']
 refine sw (bZ jf cQ) ?_;have a3:σ4.length=10:=hl4;have rg:∀(d:Int)(n:Nat),∀r,r<n->(br d n).1[r]? =some ((br d n).1.getD r 0)/\(br d n).1.getD r 0<n:=λd n r hr=>tu hr;rw[JC,ol]at g5;refine Fu (n:=(de x).sum) (m:=(cO x).sum) C rfl (by rw[O];exact rg _ _) (by rw[j];exact rg _ _) rfl (IM _ _) R5 (by rw[KI];exact hl4) (by rw[KZ (by omega)]) g5 λa b d σ6 H6 ha hb hd R6 hl6 hA6 s6 g6=> ?_;obtain⟨R7,_⟩:=R6.shown (Hd ha hb hd) hA6 g6;have eg:Fv c o z (de x) (cO x) (List.replicate (de x).sum (List.replicate (cO x).sum ".")) 3=uJ x c:=by rw[O,j];rfl
 rw[eg]at R7;have S:=mD x c;refine sw (cF jf) ?_;refine rt_w (fu:=0) (n:=80) (s' :=.ret [6] (.bf .tuple (.cons (.lc (.mth .join (.con (.str "")) (.cons (.var 0) .nil)) (.seq (.var 6)) .no []) .nil))) (v:=.tup ((ef x c).map .str)) C rfl (by kernel_rfl) ?_ R7 hl6 q;obtain⟨g,Y⟩:∃g,g=uJ x c:=⟨_,rfl⟩;have er:(ef x c).map PV.str=g.map λr=>.str (fj "" r):=by rw[Y];unfold ef;rw[J4];rfl
 rw[er,<-Y];rw[<- Y]at S;rw[zJ];simp -implicitDefEqProofs only[jh,List.set_cons_zero,List.set_cons_succ,fc,dR,nQ,jv,cw,cX,cz,dH,cx,dB,cZ,cc,cr,cy,c7,cf,cg,cY,dJ,cu,cq,dF,ck,ci,dG,wS,wT,AQ,AR,AO,AS,AZ,Ae,Ad,km,kl,Jl,KF,KO,mh];rw[JI (by rw[JC,S.1];show _<=16777216;omega),eU (g:=λr:List Str=>PV.str (fj "" r)) (λr hr=> ?_)]
 ·walk_at "ev"
 ·have ej:=yp (S.2 r hr).2 (by rw[(S.2 r hr).1];exact I)
  show((pO .join (sc (.str "")) [.frz (.lst (r.map .str)) true]).bind λr=>r.keep.map some)=_;rw[ej];rfl
end
theorem yj:∀d:List Int,d.length<=63->aC P 40 80 [.lst (d.map PV.int)]=some (.bl true):=by
 intro d a3;refine cK rfl rfl ?_;simp only[d80,entry];walk_at "ev";obtain⟨o,a8⟩:∃o:Nat,o=min (max d.length 1) 4:=⟨_,rfl⟩;refine cR (xs:=(List.range ((o+(2-1))/2)).map λm=>.int (0+(m:Nat)*(2:Nat))) (n:=true) ?_ (λi S=>∃a b c,S=[.frz (.lst (d.map PV.int)) false,a,b,c,.un,.un]) ⟨_,_,_,rfl⟩ ?_ ?_
 ·walk_at "ev"
  simp only[JC];have q:(if(4:Int)<(if(1:Int)>(d.length:Int)then 1 else(d.length:Int))then(4:Int)else(if(1:Int)>(d.length:Int)then 1 else(d.length:Int)))=(o:Int):=by split<;>split at* <;> omega
  rw[q];have:=xT 2 o (by decide) (by decide) (sm2 o (by omega));have:i7 [RV.frz (PV.int 0) true,RV.frz (PV.int (o:Int)) true,RV.frz (PV.int 2) true]=_:=this;rw[this];rfl
 ·rintro i y S hy ⟨a,b,c,rfl⟩
  have ey:=step_at hy;subst ey;refine⟨_,rfl,?_⟩;obtain⟨e,Q⟩:∃e,e=d.getD (2*i) 0:=⟨_,rfl⟩;obtain⟨g,N⟩:∃g,g=d.getD (2*i+1) 0:=⟨_,rfl⟩;obtain⟨v6,j,f,T,rfl⟩:=c6 37 (e/3) g 8 (by decide) (by decide);obtain⟨w,w1,X,hw⟩:=T.wide;have j:aC P 39 6 [.int (e/3),.int g,.int 8]=some (.tup (f.map PV.str)):=j;have jh:aC P 39 76 [.int (e/3),.int g]=some (.tup ((ef (e/3) g).map PV.str)):=c76 36 _ _;have a0:aC P 39 4 [.lst (d.map PV.int),.int ((2*i:Nat):Int)]=some (.int e):=by rw[Q];exact c4 38 d (2*i)
  have V:aC P 39 4 [.lst (d.map PV.int),.int (((2*i:Nat):Int)+1)]=some (.int g):=by rw[N];exact c4 38 d (2*i+1)
  have t1:=c78 27 f w hw T.few X;obtain⟨l1,W⟩:=xP (e/3) g;obtain⟨s1,s2⟩:=wz (e/3);obtain⟨s3,Y⟩:=wj (e/3);have J:=c78 27 (ef (e/3) g) (cO (e/3)).sum W (by omega) Y;have t1:aC P 39 78 _=_:=t1;have J:aC P 39 78 _=_:=J;have i1:=bH f;have i2:=bH (ef (e/3) g);walk_at "ev";rw[a0];walk_at "go";rw[V];walk_at "ev";rw[j];walk_at "go"
  by_cases U:e%3=1
  ·rw[K2 U]
   walk_at "ev";rw[V];walk_at "ev";rw[jh];walk_at "ev";rw[J];walk_at "ev";exact⟨_,_,_,rfl⟩
  ·rw[J2 U]
   walk_at "ev";rw[t1];walk_at "ev";exact⟨_,_,_,rfl⟩
 ·rintro S ⟨a,b,c,rfl⟩
  obtain⟨D,h4⟩:∃x,x=d.getD 4 0:=⟨_,rfl⟩;obtain⟨I,h5⟩:∃x,x=d.getD 5 0:=⟨_,rfl⟩;obtain⟨R,h6⟩:∃x,x=d.getD 6 0:=⟨_,rfl⟩;obtain⟨G,h7⟩:∃x,x=d.getD 7 0:=⟨_,rfl⟩;have a4:aC P 39 4 [.lst (d.map PV.int),.int 4]=some (.int D):=by rw[h4];exact c4 38 d 4
  have a5:aC P 39 4 [.lst (d.map PV.int),.int 5]=some (.int I):=by rw[h5];exact c4 38 d 5
  have Z:aC P 39 4 [.lst (d.map PV.int),.int 6]=some (.int R):=by rw[h6];exact c4 38 d 6
  have a7:aC P 39 4 [.lst (d.map PV.int),.int 7]=some (.int G):=by rw[h7];exact c4 38 d 7
  obtain⟨v,j,A,K,rfl⟩:=c6 37 D I 4 (by decide) (by decide);obtain⟨v',h,B,H,rfl⟩:=c6 37 R G 4 (by decide) (by decide);have j:aC P 39 6 [.int D,.int I,.int 4]=some (.tup (A.map PV.str)):=j;have h :aC P 39 6 [.int R,.int G,.int 4]=some (.tup (B.map PV.str)):=h;obtain⟨C,a2,O,r⟩:=K.wide;obtain⟨u,a9,E,s⟩:=H.wide;have na:=K.few;have nb:=H.few;have M:aC P 39 79 _=_:=c79 38 A B C u r s K.some H.some (by omega) (by omega) (by omega) (by omega);have p:aC P 39 75 _=_:=c75 35 (zm A B C u) (C+u) (Fp r s) (by rw[Ca];omega) (by omega);rw[A3 r s na nb O E]at p;have F:aC P 39 48 _=_:=Fo 37 A C r (by omega) (by omega);have t :aC P 39 48 _=_:=Fo 37 B u s (by omega) (by omega);have f1:=eE (l:=aZ A) (gQ A (by omega) λz hz=>by rw[r z hz];omega);have f2:=eE (l:=aZ B) (gQ B (by omega) λz hz=>by rw[s z hz];omega);have L:aC P 39 77 _=_:=c77 38 _ _ f1 f2;have e9:=same_ints (k:=39) (by omega) (gp (bV (aZ A)) (bV (aZ B)));have iA:=bH A;have iB:=bH B;walk_at "ev";rw[a4];walk_at "ev";rw[a5];walk_at "ev";rw[j];walk_at "ev";rw[Z];walk_at "ev";rw[a7];walk_at "ev";rw[h];walk_at "ev";rw[M];walk_at "ev";rw[p];walk_at "ev";rw[F];walk_at "ev";rw[t];walk_at "ev";rw[L];walk_at "ev";rw[e9];walk_at "ev"
noncomputable abbrev Bds(d:Str)(e:List Str)(c:Stmt):Prop:=∀(f b h:Value)(g:Option Addr)(a ct:Value)(us:List Value),us.length=e.length->bindArgs (W.fnOf d d (cW c) (bM c) (aR c) .none f b h g a ct) ⟨us,[]⟩=pure (e.zip us)
local macro_rules | `(tactic| walk_at "bd1") => `(tactic| (intro _ _ _ _ _ _ us hl; obtain ⟨_, h⟩ := Ho hl; subst h; rfl))
local macro_rules | `(tactic| walk_at "bd2") => `(tactic| (intro _ _ _ _ _ _ us hl; obtain ⟨_, _, h⟩ := Bx hl; subst h; rfl))
local macro_rules | `(tactic| walk_at "bd3") => `(tactic| (intro _ _ _ _ _ _ us hl; obtain ⟨_, _, _, h⟩ := len3 hl; subst h; rfl))
local macro_rules | `(tactic| walk_at "sc") => `(tactic| exact ⟨rfl, rfl, rfl, by decide +kernel, rfl, by decide +kernel, by decide +kernel⟩)
theorem nO(X:K.In h)(b:h.Ns mainGlobals a)(z:W.nsIn K mainGlobals x=some none):a x=none:=W.mg_none_of X b z
structure FI(K:W.Frag)(nm:Str)(st:Stmt)(f:Addr)(oc kV doc pm cd ct:Value)(od an:Option Addr)(sl:Array (Option Value)):Prop where
 a:W.nsIn K mainGlobals nm=some (some (.ref f))
 l:K.lookup f=some ⟨oc,od,.func (W.fnOf nm nm (cW st) (bM st) (aR st) .none kV doc pm an cd ct),sl⟩
 c:W.codeIn K cd nm=true
 k:W.keepIn K (.ref f)=true
section
variable{K:W.Frag}{h:Heap}{mg:Str->Option Value}{nm:Str}{ps:List Str}{st:Stmt}{f:Addr}{k:Nat}{oc kV doc pm cd ct:Value}{od an:Option Addr}{sl:Array (Option Value)}(X:K.In h)(Gh:h.Ns mainGlobals mg)(a:FI K nm st f oc kV doc pm cd ct od an sl)
include X Gh a
theorem mkD(b:Bds nm ps st):Def K mg nm st ps f (W.fnOf nm nm (cW st) (bM st) (aR st) .none kV doc pm an cd ct):=⟨zB a.l a.c a.k,W.mg_of X Gh a.a,(zB a.l a.c a.k).binds b⟩
theorem lU(N:List Str)(n:Nat)(M:List Nat)(b:Bds nm (N.take n) st)(d:ee N (N.take n) (aR st))(e:P k=some ⟨N.length,(N.take n).length,c⟩)(g:fh 80 ⟨N,(aR st).names,F,G,B,M⟩ (bM st)=c):wF K mg P F G B nm k f (W.fnOf nm nm (cW st) (bM st) (aR st) .none kV doc pm an cd ct) (N.take n):=⟨.inr ⟨st,N,M,80,c,mkD X Gh a b,d,e,g⟩⟩
end
theorem F9{l:W.OpenLaw}{w:World}{K:W.Frag}{h:Heap}{i:Str->Option Value}{fa f0 f1 f2 f3 f4 f5 f6 f7 f8 f9 f' c8 d3 n7 g7 j n2 e3 n1 n3 n4 l2 g5:Addr}(X:K.In h)(c:h.Ns mainGlobals i)(c':i "law"=some (.ref fa))
  {q0 x0 q1 x1 q2 x2 q3 x3 q4 x4 q5 x5 q6 x6 q7 x7 q8 x8 q9 x9 s1 l8 t' L c1 l9 j8 i9 h9 g3 l6 d8 o7 b8 k' k4 j2 g0 d6 b4 e2 l3 c5 g9 b' q:Option Addr} {r0 r1 r2 r3 r4 r5 r6 r7 r8 r9 h5 o9 k3 k0 j5 g6 O n' o1 j9 U d1 i4:Array (Option Value)} {p0 t0 u0 w0 y0 m0 p1 t1 u1 w1 y1 m1 p2 t2 u2 w2 y2 m2 p3 t3 u3 w3 y3 m3 p4 t4 u4 w4 y4 m4 p5 t5 u5 w5 y5 m5 p6 t6 u6 w6 y6 m6 p7 t7 u7 w7 y7 m7 p8 t8 u8 w8 y8 m8 p9 t9 u9 w9 y9 m9 e1 b5 b3 l5 u' e4 Q n9 o0 k9 d4 n0 g2 h0 o' j6 e0 i2 j0 S c6 c0 Y i5 d9 m' h3 N l4 s' i3 i6 R q' e8 s2 k8 j3 k6 i' b9 b7 d2 o4 k2 c9 o2 g' h6 b2 h1 l0 j7 i1 g1 g4 c7 d0 o3 i8 l1 h7 s0 g8 n8 o5 e6 J o6 d7 e9 e7 j' A o C r t:Value}
  {Z T:Tok}
  (a0:FI K "cells_of" s3 f0 p0 t0 u0 w0 y0 m0 q0 x0 r0)
  (a1:FI K "bits_of" s46 f1 p1 t1 u1 w1 y1 m1 q1 x1 r1)
  (a2:FI K "with_line" s47 f2 p2 t2 u2 w2 y2 m2 q2 x2 r2)
  (a3:FI K "row_of" s48 f3 p3 t3 u3 w3 y3 m3 q3 x3 r3)
  (a4:FI K "hangs_on" s70 f4 p4 t4 u4 w4 y4 m4 q4 x4 r4)
  (a5:FI K "joined" s71 f5 p5 t5 u5 w5 y5 m5 q5 x5 r5)
  (a6:FI K "parts_of" s72 f6 p6 t6 u6 w6 y6 m6 q6 x6 r6)
  (a7:FI K "product_of" s41 f7 p7 t7 u7 w7 y7 m7 q7 x7 r7)
  (a8:FI K "line_of_part" s73 f8 p8 t8 u8 w8 y8 m8 q8 x8 r8)
  (a9:FI K "board_of_part" s74 f9 p9 t9 u9 w9 y9 m9 q9 x9 r9)
  (k1:FI K "row_by_parts" s75 f' e1 b5 b3 l5 u' e4 s1 l8 h5)
  (c4:FI K "_law_cell" s4 c8 Q n9 o0 k9 d4 n0 t' L o9)
  (k5:FI K "_law_mixed" s5 d3 g2 h0 o' j6 e0 i2 c1 l9 k3)
  (l':FI K "_law_board" s6 n7 j0 S c6 c0 Y i5 j8 i9 k0)
  (j4:FI K "_law_order" s21 g7 d9 m' h3 N l4 s' h9 g3 j5)
  (c3:FI K "_law_blocks" GR j i3 i6 R q' e8 s2 l6 d8 g6)
  (h4:FI K "_law_whole" s8 n2 k8 j3 k6 i' b9 b7 o7 b8 O)
  (s7:FI K "_law_same" s9 e3 d2 o4 k2 c9 o2 g' k' k4 n')
  (h8:FI K "_law_all_same" s10 n1 h6 b2 h1 l0 j7 i1 j2 g0 o1)
  (d':FI K "_law_product" s77 n3 g1 g4 c7 d0 o3 i8 d6 b4 j9)
  (j1:FI K "_law_good" s78 n4 l1 h7 s0 g8 n8 o5 e2 l3 U)
  (d5:FI K "_law_beside" s79 l2 e6 J o6 d7 e9 e7 c5 g9 d1)
  (y:FI K "law" s80 g5 j' A o C r t b' q i4)
  (z0:W.nsIn K mainGlobals "len"=some none)
  (z1:W.nsIn K mainGlobals "int"=some none)
  (z2:W.nsIn K mainGlobals "list"=some none)
  (z3:W.nsIn K mainGlobals "tuple"=some none)
  (z4:W.nsIn K mainGlobals "min"=some none)
  (z5:W.nsIn K mainGlobals "max"=some none)
  (z6:W.nsIn K mainGlobals "isinstance"=some none)
  (z7:W.nsIn K mainGlobals "str"=some none)
  (z8:W.nsIn K mainGlobals "bool"=some none)
  (z9:W.nsIn K mainGlobals "range"=some none)
  (p':W.nsIn K mainGlobals "zip"=some none)
  (o8:W.nsIn K mainGlobals "enumerate"=some none)
  (i0:W.nsIn K mainGlobals "sorted"=some none)
  (n5:W.nsIn K mainGlobals "sum"=some none)
  (c2:W.nsIn K mainGlobals "any"=some none)
  (e':W.nsIn K mainGlobals "dict"=some none)
  (v0:W.nsIn K mainGlobals "CELL"=some (some (.str "x" Z)))
  (v1:W.nsIn K mainGlobals "HOLE"=some (some (.str "." T)))
  :
  ∃E:FuncData,(∀(s:Shared)(v:Value),BindsTo s E ⟨[v],[]⟩ [("_law_script",v)])/\∀d:Heap,K.In d->d.Ns mainGlobals i->dZ l.prog w K i d n6 40 fa E ["_law_script"] (tQ K):=by
 have D:∀x,B.contains x=true->i x=none:=cS (nO X c z0) (cS (nO X c z1) (cS (nO X c z2) (cS (nO X c z3) (cS (nO X c z4) (cS (nO X c z5) (cS (nO X c z6) (cS (nO X c z7) (cS (nO X c z8) (cS (nO X c z9) (cS (nO X c p') (cS (nO X c o8) (cS (nO X c i0) (cS (nO X c n5) (cS (nO X c c2) (cS (nO X c e') (bnil))))))))))))))));have e:=c'.symm.trans (W.mg_of X c y.a);cases e;have hG:∀x v,G.lookup x=some v->∃u w,i x=some u/\RelV w u/\∀Hi n H,Rp K Hi n v H w:=DO ⟨_,(.str "x"),W.mg_of X c v0,⟨_,rfl⟩,λ_ _ _=>Rp.str.mpr rfl⟩ (DO ⟨_,(.str "."),W.mg_of X c v1,⟨_,rfl⟩,λ_ _ _=>Rp.str.mpr rfl⟩ (gnil));have E0:=lU (k:=3) X c a0 N3 1 [1] (by walk_at "bd1") (by walk_at "sc") rfl (by kernel_rfl);have E1:=lU (k:=46) X c a1 N46 1 [1] (by walk_at "bd1") (by walk_at "sc") rfl (by kernel_rfl);have I:=mkD X c a2 (show Bds "with_line" ["levels","bits"] _ by walk_at "bd2");have E2:wF K i P F G B "with_line" 47 f2 _ ["levels","bits"]:=⟨.inl ⟨I.nm,I.fn.kp,I.bd,λp w b k z=>FM (D "dict" rfl) (D "enumerate" rfl) I p w b k (z k (JH k))⟩⟩;have E3:=lU (k:=48) X c a3 N48 1 [] (by walk_at "bd1") (by walk_at "sc") rfl (by kernel_rfl);have E4:=lU (k:=70) X c a4 N70 2 [] (by walk_at "bd2") (by walk_at "sc") rfl (by kernel_rfl);have E5:=lU (k:=71) X c a5 N71 2 [2] (by walk_at "bd2") (by walk_at "sc") rfl (by kernel_rfl);have E6:=lU (k:=72) X c a6 N72 1 [] (by walk_at "bd1") (by walk_at "sc") rfl (by kernel_rfl);have E7:=lU (k:=41) X c a7 N41 2 [2] (by walk_at "bd2") (by walk_at "sc") rfl (by kernel_rfl);have E8:=lU (k:=73) X c a8 N73 3 [] (by walk_at "bd3") (by walk_at "sc") rfl (by kernel_rfl);have E9:=lU (k:=74) X c a9 N74 2 [] (by walk_at "bd2") (by walk_at "sc") rfl (by kernel_rfl);have h':=lU (k:=75) X c k1 N75 1 [] (by walk_at "bd1") (by walk_at "sc") rfl (by kernel_rfl);have a':=lU (k:=4) X c c4 N4 2 [] (by walk_at "bd2") (by walk_at "sc") rfl (by kernel_rfl);have l7:=lU (k:=5) X c k5 N5 2 [] (by walk_at "bd2") (by walk_at "sc") rfl (by kernel_rfl);have b6:=lU (k:=6) X c l' N6 3 [6] (by walk_at "bd3") (by walk_at "sc") rfl (by kernel_rfl);have b0:=lU (k:=21) X c j4 N21 2 [2] (by walk_at "bd2") (by walk_at "sc") rfl (by kernel_rfl);have g:=mkD X c c3 (show Bds "_law_blocks" ["_law_head","_law_cell_here"] _ by walk_at "bd2");have M:wF K i P F G B "_law_blocks" 76 j _ ["_law_head","_law_cell_here"]:=⟨.inl ⟨g.nm,g.fn.kp,g.bd,λp w b k z=>FL hG D g p w b k (z k (JH k))⟩⟩;have e5:=lU (k:=8) X c h4 N8 1 [] (by walk_at "bd1") (by walk_at "sc") rfl (by kernel_rfl);have r':=lU (k:=9) X c s7 N9 2 [] (by walk_at "bd2") (by walk_at "sc") rfl (by kernel_rfl);have V:=lU (k:=10) X c h8 N10 2 [] (by walk_at "bd2") (by walk_at "sc") rfl (by kernel_rfl);have k7:=lU (k:=77) X c d' N77 2 [2] (by walk_at "bd2") (by walk_at "sc") rfl (by kernel_rfl);have h2:=lU (k:=78) X c j1 N78 1 [2] (by walk_at "bd1") (by walk_at "sc") rfl (by kernel_rfl);have i7:=lU (k:=79) X c d5 N79 2 [] (by walk_at "bd2") (by walk_at "sc") rfl (by kernel_rfl);have m:=lU (k:=80) X c y N80 1 [] (by walk_at "bd1") (by walk_at "sc") rfl (by kernel_rfl);have hF:∀x f,F.lookup x=some f->∃a E ps,wF K i P F G B x f a E ps:=bS ⟨_,_,_,E0⟩ (bS ⟨_,_,_,E1⟩ (bS ⟨_,_,_,E2⟩ (bS ⟨_,_,_,E3⟩ (bS ⟨_,_,_,E4⟩ (bS ⟨_,_,_,E5⟩ (bS ⟨_,_,_,E6⟩ (bS ⟨_,_,_,E7⟩ (bS ⟨_,_,_,E8⟩ (bS ⟨_,_,_,E9⟩ (bS ⟨_,_,_,h'⟩ (bS ⟨_,_,_,a'⟩ (bS ⟨_,_,_,l7⟩ (bS ⟨_,_,_,b6⟩ (bS ⟨_,_,_,b0⟩ (bS ⟨_,_,_,M⟩ (bS ⟨_,_,_,e5⟩ (bS ⟨_,_,_,r'⟩ (bS ⟨_,_,_,V⟩ (bS ⟨_,_,_,k7⟩ (bS ⟨_,_,_,h2⟩ (bS ⟨_,_,_,i7⟩ (bS ⟨_,_,_,m⟩ (fnil)))))))))))))))))))))));exact⟨W.fnOf "law" "law" (cW s80) (bM s80) (aR s80) .none A o C q r t,λs v=>.of_eq rfl,λbase _ _=>Em (FP hG D hF 40 "law" 80 fa _ _ m) yj⟩
theorem walk{l:W.OpenLaw}{q:Program}{c:List Str}{p:(Str->Option Value)->Heap->Prop}{m:World->Heap->Prop}{d:DefRec}{K:Params->W.Frag}(r:l.most=some 63)(g:d.params.defaults=[])
  (o:∀(w:World)(h:Heap),m w h->(K w.params).In h)
  (F:∀(w:World)(e:Str->Option Value)(j:Addr)(h:Heap),(K w.params).In h->h.Ns mainGlobals e->e d.name=some (.ref j) -> ∃i:FuncData,(∀(s:Shared)(u:Value),BindsTo s i ⟨[u],[]⟩ [("_law_script",u)])/\∀b:Heap,(K w.params).In b->b.Ns mainGlobals e->dZ l.prog w (K w.params) e b n6 40 j i ["_law_script"] (tQ (K w.params))) :
  W.WalkO q c p m l.row.toRowW d [] (λf vs=>PySem.call f vs) :=
 L2.Ah (n:=63) (k:=40) (x:="_law_script") (CX:=λ_=>n6) (sp:=λw=>tQ (K w.params)) r (by decide) g ⟨rfl,by decide,by decide⟩ o F (λ_ _ a ns hl _ hS=>⟨a,ns,rfl,hS,hl,λ_=>rfl⟩) λ_ _ _ _ _ z=>z
end Law
open PySem PySem.W PyProof.Rows
noncomputable def LH.vw:Program:={ PySem.Challenge.pw_unstruck_k23_row_by_parts with main:={ PySem.Challenge.pw_unstruck_k23_row_by_parts.main with body:=((PySem.Challenge.pw_unstruck_k23_row_by_parts.main.body.drop 1).take 3)++((PySem.Challenge.pw_unstruck_k23_row_by_parts.main.body.drop 5).take 3)++((PySem.Challenge.pw_unstruck_k23_row_by_parts.main.body.drop 9).take 7)++((PySem.Challenge.pw_unstruck_k23_row_by_parts.main.body.drop 17).take 12) } }
theorem LH.two {A B C:Type} {o:Option A} {f:A→B} {g:A→C} {a:B} {b:C} (h:o.map f=some a) (k:o.map g=some b):o.map (fun s=>(f s, g s))=some (a, b):=by
  cases o with
  | none => cases h
  | some x => cases h; cases k; rfl
noncomputable abbrev LH.xt (s:Shared):Bool:=xlAt LH.vw [] s&&recOk [] s
theorem LH.h1 (w:World):(openEnds treeTable PySem.Challenge.pw_unstruck_k23_row_by_parts w 9999).map (fun s=>openSeen LH.vw [] (importedModules PySem.Challenge.pw_unstruck_k23_row_by_parts.main.body) LH.xt true s)=some (openGood LH.vw []):=by kernel_rfl
local macro_rules|`(tactic|o_head $H)=>do
  let hw:=Lean.mkIdent `hw
  let hc:=Lean.mkIdent `hc
  `(tactic|(refine holds_open (q:=LH.vw) (loose:=[]) (Xt:=LH.xt) (XP:=XL LH.vw []) (Yf:=Hook.obs $H) (Ya:=Hook.val $H) (YP:=Hook.says $H) (N:=9999) (fun w=>LH.two (LH.h1 w) (by kernel_rfl)) (Hook.of $H) (Hook.keeps $H) (fun s e=>xl_of s (Bool.and_eq_true_iff.mp e).1) XL.keeps rfl rfl rfl (fun s e=>recFacts_of (Bool.and_eq_true_iff.mp e).2) rfl (by first|assumption|decide +kernel) (by decide +kernel) ⟨rfl, rfl, rfl, rfl, rfl, by decide +kernel⟩ ?$hw ?$hc))
set_option maxRecDepth 100000 in
set_option maxHeartbeats 0 in
theorem PySem.Challenge.cw_unstruck_k23_row_by_parts_holds : PySem.Challenge.rw_unstruck_k23_row_by_parts.Holds := by
 w_on;o_law;k_head;(case hw=>w_witness2)
 k_fill
 refine Law.walk (l:=PySem.Challenge.rw_unstruck_k23_row_by_parts) rfl rfl (fun w h Y=>PySem.W.kIn_of Y) ?F
 case F =>
  intro w mg fa h KX G hmg;refine' Law.F9 KX G hmg ?a0 ?a1 ?a2 ?a3 ?a4 ?a5 ?a6 ?a7 ?a8 ?a9 ?a10 ?a11 ?a12 ?a13 ?a14 ?a15 ?a16 ?a17 ?a18 ?a19 ?a20 ?a21 ?a22 ?z0 ?z1 ?z2 ?z3 ?z4 ?z5 ?z6 ?z7 ?z8 ?z9 ?z10 ?z11 ?z12 ?z13 ?z14 ?z15 ?v0 ?v1
  (case a0|a1|a2|a3|a4|a5|a6|a7|a8|a9|a10|a11|a12|a13|a14|a15|a16|a17|a18|a19=>exact⟨by k_is,by k_is,by k_is,by k_is⟩)
  (case a20|a21|a22=>exact⟨by k_is,by k_is,by k_is,by k_is⟩)
  (case z0|z1|z2|z3|z4|z5|z6|z7|z8|z9|z10|z11|z12|z13|z14|z15|v0|v1=>k_is)
#print axioms PySem.Challenge.cw_unstruck_k23_row_by_parts_holds
