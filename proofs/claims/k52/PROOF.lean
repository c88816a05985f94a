import PyProof.Rows.All
import Wide.All
import OpenK.AllK
import Wide.FinOn
import Lean
import PyProof.EqAt
import PyProof.EqKinds
import PyProof.TupleCall
import PyProof.StrLawsTight
import PyProof.StrLawsChain
import PyProof.StrLawsOcc
import PyProof.Cells
import OpenK.KLine
import PyProof.SumAny
import PyProof.Rows.SortShell
import PyProof.DictItems
import PyProof.DictWalks
import KE.KRevIter
import PyProof.JoinWalk
import PyProof.CollectIter
import PyProof.StrLawsIn
import PyProof.Rows.SetFrom
import PyProof.CollectWalk
import PyProof.Rows.SortWalk
import KE.KSortTup
import KE.KxPercent
import PyProof.TupleOfGen
import KE.KDictList
import PyProof.P3In
import PyProof.NeData
import PyProof.FactsAll.tuple_2
import KE.KTryMore
import PyProof.ExcArgsOwn
import PyProof.ExcAttrAll.ValueError
import PyProof.ExcBaseAll.ValueError
import PySem.Challenge.RW_unstruck_k52_next_in_order
noncomputable section
set_option genSizeOf false
set_option genSizeOfSpec false
local macro_rules | `(tactic| omega) => `(tactic| first | lia | omega (config := {}))
set_option Elab.async false
set_option linter.all false
set_option maxRecDepth 100000
def MQ:=@PySem.wpAny_bind
def MR:=@List.length_map
def MS:=@List.mem_cons_of_mem
def MT:=@List.mem_cons_self
def MU:=@PySem.wpAny_pure
def MV:=@if_neg
def MW:=@PySem.Heap.get?_push_of_some
def MX:=@if_pos
def MY:=@Bool.and_eq_true
def MZ:=@List.mem_map
def Ma:=@List.length_cons
def Mc:=@Bool.false_ne_true
def Md:=@Nat.le_refl
def Me:=@List.getD_eq_getElem?_getD
def Mf:=@List.getElem?_eq_getElem
def Mg:=@List.map_cons
def Mh:=@List.mem_cons
def Mi:=@List.getElem?_map
def Mj:=@decide_eq_true
def Mk:=@List.getElem?_eq_some_iff
def Ml:=@List.length_append
def Mm:=@List.all_eq_true
def Mn:=@List.size_toArray
def Mq:=@decide_eq_false
def Mr:=@PySem.Heap.get?_push_size
def Ms:=@List.map_append
def Mu:=@PySem.Heap.lt_size
def Mv:=@Option.some.inj
def Mw:=@List.mem_of_getElem?
def Mx:=@List.nodup_cons
def My:=@List.contains_iff_mem
def Mz:=@Nat.ne_of_lt
def M0:=@LawfulBEq.eq_of_beq
def M3:=@of_decide_eq_true
def M4:=@List.map_map
def M5:=@Array.length_toList
def M6:=@List.mem_filter
def M7:=@List.mem_append
def M8:=@Nat.le_trans
def M9:=@List.mem_append_left
def NA:=@List.mem_singleton
def NC:=@List.mem_range
def ND:=@congrArg
def NE:=@List.mem_append_right
def NG:=@List.length_filter_le
def NH:=@Nat.zero_le
def NI:=@Bool.eq_iff_iff
def NJ:=@PySem.mem_of_lookup
def NK:=@List.length_range
def NL:=@decide_eq_true_eq
def NM:=@Nat.lt_of_lt_of_le
def NO:=@PySem.wpAny_newObj_type
def NP:=@PySem.wpAny_call_entry
def NQ:=@PySem.Heap.get?_update_self
def NR:=@PySem.Heap.get?_update_other
def NS:=@List.not_mem_nil
def NT:=@List.lookup_cons
def NU:=@List.append_nil
def NV:=@List.map_congr_left
def NW:=@List.getElem?_range
def NX:=@PyProof.Rows.slot_tuple_getitem
def NY:=@PyProof.Rows.callWith_type1
def NZ:=@List.getElem?_set_ne
def Na:=@List.nodup_append
def Nb:=@List.append_assoc
def Nc:=@List.getElem?_eq_none
def Nd:=@PySem.Obj.data_mapFields
def Nf:=@PySem.wpAny_callSpecial?_slot
def Ng:=@Option.bind_some
def Nh:=@List.find?_cons
def Ni:=@List.foldl_cons
def Nj:=@Bool.not_eq_true'
def Nk:=@PySem.PassesOwn.never
def Nl:=@Array.getD_eq_getD_getElem?
def Nm:=@PySem.wpAny_truthy_bool
def No:=@List.any_eq_true
def Np:=@PySem.sizeLine_eq
def Nq:=@Classical.byContradiction
def Nr:=@Nat.lt_succ_of_lt
def Nt:=@Int.toNat_natCast
def Nu:=@Array.getElem?_toList
def Nv:=@Ne.symm
def Nw:=@Nat.zero_add
def Nx:=@List.take_length
def Ny:=@List.pairwise_append
def Nz:=@List.length_take
def N0:=@List.filter_cons
def N1:=@Nat.ne_of_gt
def N2:=@List.map_nil
def N6:=@List.getElem?_set_self
def N7:=@List.length_set
def OA:=@PySem.wpAny_holding
def OB:=@List.drop_eq_getElem_cons
def OC:=@PySem.wpAny_mono
def OE:=@List.length_singleton
def OF:=@PySem.Heap.SameBut.update
def OG:=@List.pairwise_cons
def OH:=@PySem.wpAny_loadPart'
def OI:=@PySem.Obj.isFreed_of_fields
def OJ:=@List.mem_of_mem_drop
def OK:=@List.getElem?_cons_succ
def OL:=@List.foldl_append
def OM:=@PySem.AutoSeq1.wpAny_loadPart'
def ON:=@List.length_nil
def OO:=@Bool.or_eq_true
def OP:=@beq_eq_false_iff_ne
def OQ:=@PySem.wpAny_setField
def OR:=@PySem.Heap.size_push
def OS:=@List.replicate_succ
def OT:=@PySem.codeAny_builtin
def OU:=@List.length_drop
def OV:=@Bool.not_eq_true
def OX:=@PySem.boot_len
def OY:=@List.lookup_append
def OZ:=@List.filter_append
def Oa:=@List.contains_cons
def Ob:=@List.getElem?_zipWith
def Oc:=@PySem.wpAny_of_eq
def Od:=@PySem.wpAny_field
def Oe:=@List.getElem?_append_left
def Of:=@Option.map_some
def Og:=@List.range_succ
def Oh:=@or_false
def Oi:=@List.take_add_one
def Oj:=@Bool.eq_false_iff
def Ol:=@PySem.builtinLookup_eq_fast
def Om:=@Nat.lt_irrefl
def On:=@List.all_cons
def Oo:=@List.length_zipWith
def Op:=@PySem.Around.under_plainId
def Oq:=@List.getElem_mem
def Os:=@Nat.lt_trans
def Ot:=@Nat.le_of_lt
def Ou:=@PySem.W.kia_one
def Ov:=@PySem.wpAny_typeNameOfWhole_keyiter
def Ow:=@List.getElem?_set
def Ox:=@List.flatten_cons
def Oy:=@PySem.wpAny_specialOf
def Oz:=@PySem.wpAny_passesOwn
def O0:=@List.getElem?_append_right
def O3:=@decide_false
def O4:=@Nat.lt_or_ge
def O5:=@List.getElem_map
def O6:=@Int.zero_add
def O7:=@PySem.wpAny_pyIter_slot
def O8:=@PySem.wpAny_dictEntries
def O9:=@Array.getElem?_eq_getElem
def PB:=@PyProof.Rows.F.plain_set_update_loop
def PD:=@List.length_reverse
def PF:=@List.any_cons
def PH:=@beq_iff_eq
def PJ:=@PySem.wpAny_isInstance
def PK:=@PySem.wpAny_askSetting
def PL:=@Nat.add_sub_cancel
def PM:=@Bool.false_eq_true
def PN:=@decide_eq_false_iff_not
def PP:=@List.filter_cons_of_pos
def PQ:=@List.filter_cons_of_neg
def PR:=@if_false
def PU:=@PySem.wpAny_typeNameOf_keyiter
def PX:=@PySem.wpAny_attempt
def PY:=@PySem.AutoSeq1.sub_tuple_tuple
def PZ:=@List.ext_getElem?
def Pa:=@PySem.typeLookup_type
def Pb:=@Bool.beq_eq_decide_eq
def Pc:=@List.perm_middle
def Pd:=@List.drop_length
def Pe:=@if_true
def Pf:=@PySem.wpAny_typeOf
def Pg:=@PySem.wpAny_setState_of
def Ph:=@PySem.richCompare_meets_room
def Pi:=@PySem.isSubtype_type
def Pj:=@PySem.Obj.cls_mapFields
def Pk:=@PySem.Calls.callWith_builtin
def Pm:=@Nat.le_succ
def Pn:=@List.mem_of_mem_take
def Po:=@not_or
def Pp:=@Array.Perm.refl
def Pq:=@PySem.wpAny_rule
def Pr:=@Nat.min_self
def Ps:=@List.all_map
def Pt:=@PySem.Paired.length
def Pu:=@Nat.mul_le_mul
def Px:=@Nat.lt_of_le_of_lt
def Py:=@List.zip_nil_right
def Pz:=@List.zip_cons_cons
def P0:=@List.find?_eq_none
def P2:=@Int.emod_lt_of_pos
def P4:=@Bool.false_and
def P5:=@List.take_sublist
def P6:=@List.pairwise_map
def P7:=@Int.le_refl
def P8:=@PySem.F.args_tuple_add_2
def P9:=@List.map_drop
def QA:=@List.length_erase_of_mem
def QB:=@PySem.wpAny_pyIter_tuple
def QC:=@PySem.tupleKind_room_in1
def QD:=@PySem.wpAny_pyIter_list
def QE:=@PySem.wpAny_pyIter_enum
def QF:=@PySem.plainId_quiet
namespace L2
open PySem PySem.Spec PyProof.Rows
noncomputable abbrev ak:=Sum Int Str
noncomputable def nu:ak->Value->Bool
 | .inl k,v=>Value.isInt k v| .inr x,v=>Value.isStrOf x v
noncomputable def keyH(w:World):ak->Int
 | .inl k=>hashInt k| .inr x=>hashStr w x
set_option tactic.hygienic false
theorem bD:∀{k:ak}{v:Value},nu k v=true->(∃i t,k=Sum.inl i/\v=Value.int i t)\/(∃x t,k=Sum.inr x/\v=Value.str x t)
 | .inl i,v,h=>by
  obtain⟨t,e⟩:=Value.isInt_shape (k:=i) (v:=v) h;exact .inl ⟨i,t,rfl,e⟩
 | .inr x,v,h=>by
  obtain⟨t,e⟩:=Value.isStrOf_shape (x:=x) (v:=v) h;exact .inr ⟨x,t,rfl,e⟩
theorem yW(i:Int)(t:Tok):nu (.inl i) (.int i t)=true:=by simp[nu,Value.isInt]
theorem yV(x:Str)(t:Tok):nu (.inr x) (.str x t)=true:=by simp[nu,Value.isStrOf]
theorem HW(a b:Int):decide ((Sum.inl a:ak)=Sum.inl b)=(a==b):=by
 by_cases e:a=b;subst e;simp
 ·have h:¬(Sum.inl a:ak)=Sum.inl b:=λq=>e (Sum.inl.inj q)
  rw[Mq h];exact(OP.mpr e).symm
theorem HS(a b:Str):decide ((Sum.inr a:ak)=Sum.inr b)=decide (a=b):=by
 by_cases e:a=b;subst e;simp
 ·have h:¬(Sum.inr a:ak)=Sum.inr b:=λq=>e (Sum.inr.inj q)
  rw[Mq h,Mq e]
theorem HV(a:Int)(b:Str):decide ((Sum.inl a:ak)=Sum.inr b)=false:=Mq (λq=>nomatch q)
theorem HU(a:Str)(b:Int):decide ((Sum.inr a:ak)=Sum.inl b)=false:=Mq (λq=>nomatch q)
noncomputable def aY(prog:Program)(w:World):PySem.KeyKind prog w ak where
 is:=nu
 hash:=keyH w
 inj:=λv a b f d=>by
  rcases bD f with⟨i,t,rfl,rfl⟩|⟨x,t,rfl,rfl⟩
  ·rcases bD d with⟨j,u,rfl,e⟩|⟨y,u,rfl,e⟩
   ·injection e with e1 _;rw[e1]
   ·exact nomatch e
  ·rcases bD d with⟨j,u,rfl,e⟩|⟨y,u,rfl,e⟩
   ·exact nomatch e
   ·injection e with e1 _;rw[e1]
 byValue:=λk v h=>by
  rcases bD h with⟨i,t,rfl,rfl⟩|⟨x,t,rfl,rfl⟩<;>rfl
 pyHash:=λc h=>by
  rcases bD c with⟨i,t,rfl,rfl⟩|⟨x,t,rfl,rfl⟩
  ·exact wpAny_pyHash_int h
  ·exact wpAny_pyHash_str h
 eqBool:=λg c h=>by
  rcases bD g with⟨i,t,rfl,rfl⟩|⟨x,t,rfl,rfl⟩
  ·rcases bD c with⟨j,u,rfl,rfl⟩|⟨y,u,rfl,rfl⟩
   ·rw[HW]at h;exact wpAny_eqBool_int h
   ·rw[HV]at h;exact SeqAt.EqAt.int_str i t y u _ _ _ _ h
  ·rcases bD c with⟨j,u,rfl,rfl⟩|⟨y,u,rfl,rfl⟩
   ·rw[HU]at h;exact SeqAt.EqAt.str_int x t j u _ _ _ _ h
   ·rw[HS]at h;exact wpAny_eqBool_str h
 «strs»:=λk x t v h=>by
  rcases bD h with⟨i,u,rfl,e⟩|⟨y,u,rfl,e⟩
  ·exact nomatch e
  ·injection e with e1 _
   subst e1;cases v<;>rfl
theorem rm(prog:Program)(w:World)(i:Int)(t:Tok):(aY prog w).is (.inl i) (.int i t)=true:=yW i t
theorem rj(prog:Program)(w:World)(x:Str)(t:Tok):(aY prog w).is (.inr x) (.str x t)=true:=yV x t
inductive V where
 | non|bl (b:Bool)|int (i:Int)|str (x:Str)|byt (b:Array UInt8)|flt (b:UInt64)|ref (a:Addr)|ty (n:String)
 deriving DecidableEq
noncomputable def RelV:V->Value->Prop
 | .non,u=>u=Value.none| .bl b,u=>u=Value.bool b| .int i,u=>∃t,u=Value.int i t| .str x,u=>∃t,u=Value.str x t| .byt b,u=>∃t,u=Value.bytes b t| .flt b,u=>∃t,u=Value.float b t| .ref a,u=>u=Value.ref a| .ty n,u=>u=Value.type n
noncomputable abbrev aU:List V->List Value->Prop:=Paired RelV
theorem aU.length(r:aU xs a):xs.length=a.length:=Pt r
theorem aU.get:∀{xs:List V}{a:List Value}{i:Nat}{x:V},aU xs a->xs[i]? =some x->∃u,a[i]? =some u/\RelV x u
 |_,_,_,_,.nil,e=>by simp at e|_,_,0,_,.cons r _,e=>by simp at e;subst e;exact⟨_,rfl,r⟩|_,_,i+1,x,.cons _ t,e=>by
  obtain⟨u,b,c⟩:=aU.get (i:=i) (x:=x) t (by simpa using e);exact⟨u,by simpa using b,c⟩
theorem aU.set{x:V}{u:Value}(r:RelV x u):∀{xs:List V}{a:List Value}(i:Nat),aU xs a->aU (xs.set i x) (a.set i u)
 |_,_,_,.nil=>.nil|_,_,0,.cons _ t=>.cons r t|_,_,i+1,.cons q t=>.cons q (aU.set r i t)
theorem aU.append(h:aU xs a)(k:aU b c):aU (xs++b) (a++c):=by
 induction h with
 |nil=>exact k|cons r t d=>exact .cons r d
theorem aU.take:∀{xs:List V}{a:List Value}(n:Nat),aU xs a->aU (xs.take n) (a.take n)
 |_,_,0,_=>.nil|_,_,_+1,.nil=>.nil|_,_,n+1,.cons r t=>.cons r (aU.take n t)
theorem aU.drop:∀{xs:List V}{a:List Value}(n:Nat),aU xs a->aU (xs.drop n) (a.drop n)
 |_,_,0,r=>r|_,_,_+1,.nil=>.nil|_,_,n+1,.cons _ t=>aU.drop n t
noncomputable def jk:Option V->Option Value->Prop
 |some v,some u=>RelV v u|none,none=>True|_,_=>False
noncomputable def KV{a:Type}:List (a×V)->List (a×Value)->Prop:=Paired fun(p:a×V)(q:a×Value)=>p.1=q.1/\RelV p.2 q.2
noncomputable def kV:ak->V
 | .inl i=>.int i| .inr x=>.str x
inductive HO where
 | lst (xs:List V)
 | tup (xs:List V)
 | dK (kvs:List (ak×V))|dT (kvs:List (List ak×V))
 | set (S:Int->Bool) (n:Nat)
 | ins (C dx:Addr) (fs:List (Str×V))
 | own (x:Addr)
 | xd (fs:List (Str×V))
 | met (f x:Addr)
 | rng (lo hi:Int)
 | frz (o:Obj) (u:HO)
 | tbl (ps:Array Value)
 | ext (φ:Heap->Prop)
noncomputable abbrev Hp:=Addr->Option HO
noncomputable def upd(H:Hp)(a:Addr)(o:HO):Hp:=λb=>if b=a then some o else H b
theorem aC:upd H a o a=some o:=by unfold upd;rw[MX rfl]
theorem aB(h:b≠a):upd H a o b=H b:=by unfold upd;rw[MV h]
theorem Cn:upd (upd H a o) a u=upd H a u:=by funext b;unfold upd;split<;>rfl
theorem A0{H:Hp}(h:H a=some o)(h' :H b=some u)(d:o≠u):a≠b:=by intro e;subst e;rw[h]at h';exact d (Mv h')
theorem aF{H:Hp}(h:H a=some o)(h' :H b=none):a≠b:=by intro e;subst e;rw[h]at h';cases h'
def fX(h:Heap)(a:Addr)(b:Array Value):Prop:=∃o,h.get? a=some o/\o.cls=.type "tuple"/\∃n,o.data=.seq b n/\o.dict=none
theorem fX.tup{h:Heap}{a:Addr}{b:Array Value}(x:fX h a b):IsTup h a b:=let⟨o,e,c,n,d,_⟩:=x;⟨o,e,c,n,d⟩
theorem fX.new(h:Heap)(a:Array Value):fX (h.push {cls:=.type "tuple",data:=.seq a}) h.objs.size a:=⟨_,Mr _ rfl,rfl,_,rfl,rfl⟩
section
variable(P:Program)(w:World)
noncomputable def ao(H:Hp)(h:Heap)(a:Addr):HO->Prop
 | .lst xs=>xs.length<=sizeLine/\∃(b:List Value)(n:Nat),aU xs b/\h.get? a=some {cls:=.type "list",data:=.seq b.toArray n}| .tup xs=>xs.length<=sizeLine/\∃b:List Value,aU xs b/\fX h a b.toArray| .dK c=>c.length<=sizeLine/\(a==sysModules)=false/\∃vs,KV c vs/\h.DictOf (aY P w) a vs| .dT c=>c.length<=sizeLine/\(a==sysModules)=false/\∃xs:List (List ak×Addr×Value),Paired (fun(p:List ak×V) (q:List ak×Addr×Value)=>p.1=q.1/\H q.2.1=some (.tup (p.1.map kV))/\RelV p.2 q.2.2) c xs /\ ∃o es ep,h.get? a=some o/\o.ExactDict/\o.data=.dict es ep/\es.toList=xs.map (entryOfKey (tupleKind (aY P w)))/\(xs.map (·.1)).Nodup| .set S n=>h.SetOf (intKind P w) a S n| .ins C g e=>H g=some (.own a)/\e.length<=1000/\g≠a/\h.get? a=some (W.instObj C g) /\ ∃d,h.Ns1 g d/\(∀f,jk (e.lookup f) (d f))/\PySem.Within d (e.map (·.1))| .own _=>∃o,h.get? a=some o| .xd e=>∃d,h.Ns1 a d/\∀f,jk (e.lookup f) (d f)| .rng lo m=>∃t u v,h.get? a=some {cls:=.type "range",data:=.fields #[.int lo t,.int m u,.int 1 v]}| .frz o u=>h.get? a=some o/\ao H h a u| .tbl l=>h.get? a=some {cls:=.none,data:=.fields l}| .met f x=>h.get? a=some (W.methodObj (.ref f) (.ref x))| .ext i=>i h/\(∃o,h.get? a=some o)/\∀j k:Heap,i j->(∀o,j.get? a=some o->k.get? a=some o)->i k
def fY(H:Hp)(h:Heap):Prop:=∀a o,H a=some o->ao P w H h a o
end
section
variable{P:Program}{w:World}{H H' :Hp}{h h' :Heap}{a:Addr}{o:HO}
theorem ao.lt(x:ao P w H h a o):a<h.objs.size:=by
 cases o with
 |lst xs=>obtain⟨_,_,_,_,e⟩:=x;exact Mu e
 |tup xs=>obtain⟨_,_,_,p⟩:=x;exact p.tup.lt
 |dK b=>obtain⟨_,_,_,_,o,_,_,e,_⟩:=x;exact Mu e
 |dT b=>obtain⟨_,_,_,_,o,_,_,e,_⟩:=x;exact Mu e
 |set S n=>obtain⟨o,_,_,_,e,_⟩:=x;exact Mu e
 |ins C g c=>obtain⟨_,_,_,e,_⟩:=x;exact Mu e
 |own y=>obtain⟨_,e⟩:=x;exact Mu e
 |xd c=>obtain⟨_,⟨_,_,_,e,_⟩,_⟩:=x;exact Mu e
 |rng lo k=>obtain⟨_,_,_,e⟩:=x;exact Mu e
 |frz j u=>obtain⟨e,_⟩:=x;exact Mu e
 |tbl i=>exact Mu (show h.get? a=some _ from x)|met f y=>exact Mu (show h.get? a=some _ from x)|ext d=>obtain⟨_,⟨_,e⟩,_⟩:=x;exact Mu e
theorem Paired.mapP{c d:Type}{F G:c->d->Prop}{l₁:List c}{l₂:List d}(h:Paired F l₁ l₂)(f:∀a b,F a b->G a b):Paired G l₁ l₂:=by
 induction h with
 |nil=>exact .nil|cons r t e=>exact .cons (f _ _ r) e
theorem Paired.imp'{c d:Type}{F G:c->d->Prop}(f:∀a b,F a b->G a b){l₁:List c}{l₂:List d}(r:Paired F l₁ l₂):Paired G l₁ l₂:=Paired.mapP r f
theorem ao.stay(x:ao P w H h a o)(k:∀b u,(b=a\/H b=some (.own a))->h.get? b=some u->h'.get? b=some u)
  (F:∀b,H b=some (.own a)->H' b=some (.own a)) (I:∀b xs,H b=some (.tup xs)->H' b=some (.tup xs)):ao P w H' h' a o:=by
 induction o with
 |lst xs=>obtain⟨z,i,n,r,e⟩:=x;exact⟨z,i,n,r,k _ _ (.inl rfl) e⟩
 |tup xs=>obtain⟨z,i,r,g,e,c⟩:=x;exact⟨z,i,r,g,k _ _ (.inl rfl) e,c⟩
 |dK m=>obtain⟨z,y,vs,r,g,es,ep,e,c⟩:=x;exact⟨z,y,vs,r,g,es,ep,k _ _ (.inl rfl) e,c⟩
 |dT m =>
  obtain⟨z,y,xs,r,g,es,ep,e,c⟩:=x;exact⟨z,y,xs,Paired.mapP r λp q z=>⟨z.1,I _ _ z.2.1,z.2.2⟩,g,es,ep,k _ _ (.inl rfl) e,c⟩
 |set S n=>obtain⟨g,es,ep,t,e,c⟩:=x;exact⟨g,es,ep,t,k _ _ (.inl rfl) e,c⟩
 |ins C K G =>
  obtain⟨d,z,D,e,j,⟨l,es,ep,B,c⟩,r⟩:=x;exact⟨F _ d,z,D,k _ _ (.inl rfl) e,j,⟨l,es,ep,k _ _ (.inr d) B,c⟩,r⟩
 |own y=>obtain⟨g,e⟩:=x;exact⟨g,k _ _ (.inl rfl) e⟩
 |xd G=>obtain⟨j,⟨l,es,ep,e,c⟩,r⟩:=x;exact⟨j,⟨l,es,ep,k _ _ (.inl rfl) e,c⟩,r⟩
 |rng lo L=>obtain⟨t,u,v,e⟩:=x;exact⟨t,u,v,k _ _ (.inl rfl) e⟩
 |frz g u E=>obtain⟨e,q⟩:=x;exact⟨k _ _ (.inl rfl) e,E q⟩
 |tbl s =>
  have e:h.get? a=some {cls:=.none,data:=.fields s}:=x;show h'.get? a=some {cls:=.none,data:=.fields s};exact k a _ (.inl rfl) e
 |met f y =>
  have e:h.get? a=some (W.methodObj (.ref f) (.ref y)):=x;show h'.get? a=some (W.methodObj (.ref f) (.ref y));exact k a _ (.inl rfl) e
 |ext J=>obtain⟨p,⟨o,e⟩,A⟩:=x;exact⟨A _ _ p λo q=>k _ _ (.inl rfl) q,⟨o,k _ _ (.inl rfl) e⟩,A⟩
theorem fY.lt(x:fY P w H h)(e:H a=some o):a<h.objs.size:=(x a o e).lt
theorem fY.fresh(x:fY P w H h)(e:h.objs.size<=a):H a=none:=by
 cases q:H a with
 |none=>rfl|some u=>exact absurd (NM (x.lt q) e) (Om _)
theorem fY.kept(x:fY P w H h)(k:∀b u,h.get? b=some u->h'.get? b=some u):fY P w H h' :=λa o e =>
 (x a o e).stay (λb u _ q=>k b u q) (λ_ q=>q) λ_ _ q=>q
theorem fY.laid(x:fY P w H h)(k:∀b u,h.get? b=some u->h'.get? b=some u)(i:h.objs.size<=a)(d:ao P w (upd H a o) h' a o):fY P w (upd H a o) h' :=λb u e=>by
 have f:=x.fresh i
 by_cases g:b=a;subst g;rw[aC]at e;cases e;exact d
 ·rw[aB g]at e
  exact(x b u e).stay (λc v _ q=>k c v q) (λc q=>by rw[aB (aF q f)];exact q) λc xs q=>by rw[aB (aF q f)];exact q
end
def Rd(H:Hp)(a:Addr)(u:HO):Prop:=H a=some u\/∃o,H a=some (.frz o u)
theorem Rd.ok(r:Rd H a u)(x:fY P w H h):ao P w H h a u:=by
 rcases r with r|⟨o,r⟩
 ·exact x a u r
 ·obtain⟨_,q⟩:=x a _ r
  exact q
noncomputable def ME:Option HO->Prop
 |some (.lst _)=>True|some (.dK _)=>True|some (.dT _)=>True|some (.set _ _)=>True|some (.ins _ _ _)=>True|some (.ext _)=>True|_=>False
section
variable{P:Program}{w:World}{H:Hp}{h h' :Heap}{x e:Addr}{o' :HO}
theorem fY.write(ok:fY P w H h)(j:ME (H x))(n:e=x\/H e=some (.own x))(k:∀b u,b≠e->h.get? b=some u->h'.get? b=some u)(m:∃u,h'.get? e=some u)
  (l:ao P w (upd H x o') h' x o'):fY P w (upd H x o') h' :=λb u q=>by
 have d:∀c y,H c=some (.own y)->c≠x:=λc y r z=>by subst z;rw[r]at j;exact j
 have f:∀c xs,H c=some (.tup xs)->c≠x:=λc xs r z=>by subst z;rw[r]at j;exact j
 by_cases i:b=x;subst i;rw[aC]at q;cases q;exact l
 ·rw[aB i]at q
  by_cases a:b=e
  ·have o :H b=some (.own x):=by
    rcases n with z|z
    ·exact absurd (a.trans z) i
    ·rw[a];exact z
   rw[q]at o;cases o;obtain⟨v,p⟩:=m;exact⟨v,by rw[a];exact p⟩
  ·refine(ok b u q).stay (λc v g r=>k c v ?_ r) (λc r=>by rw[aB (d c b r)];exact r) λc xs r=>by rw[aB (f c xs r)];exact r
   rcases g with rfl|g
   ·exact a
   ·rintro rfl
    rcases n with z|z
    ·exact d c b g z
    ·rw[g]at z;cases z;exact i rfl
end
structure Un(fs ex:List Addr)(H H' :Hp)(h h' :Heap):Prop where
 keep:∀b o,h.get? b=some o->H b=none->b∉fs->b∉ex->h'.get? b=some o
 slot:∀b o,h.get? b=some o->H b=none->b∈fs->b∉ex->∃sl,h'.get? b=some {o with slots:=sl}
 free:∀b o,h.get? b=some o->H b=none->b∉ex->H' b=none
 there:∀b o,h.get? b=some o->b∉ex->∃o',h'.get? b=some o'
 tups:∀b xs,H b=some (.tup xs)->H' b=some (.tup xs)
 frzs:∀b o u,H b=some (.frz o u)->H' b=some (.frz o u)
 tbls:∀b ps,H b=some (.tbl ps)->∃more,H' b=some (.tbl (ps++more))
section
variable{fs fs' ex ex' :List Addr}{H H1 H2:Hp}{h h1 h2 h' :Heap}{a x e:Addr}{o:HO}
theorem Un.any(u:Un fs ex H H1 h h1)(q:h.get? b=some c)(n:H b=none)(d:b∉ex):∃g,h1.get? b=some {c with slots:=g}:=by by_cases f:b∈fs;exact u.slot b c q n f d;exact⟨c.slots,u.keep b c q n f d⟩
theorem Un.kept(k:∀b u,h.get? b=some u->h'.get? b=some u):Un fs ex H H h h' := ⟨λb c q _ _ _=>k b c q,λb c q _ _ _=>⟨c.slots,k b c q⟩,λ_ _ _ n _=>n,λb c q _=>⟨c,k b c q⟩,λ_ _ q=>q,λ_ _ _ q=>q,λ_ d q=>⟨#[],by rw[q];simp⟩⟩
theorem Un.refl:Un fs ex H H h h:=Un.kept λ_ _ q=>q
theorem Un.laid(k:∀b u,h.get? b=some u->h'.get? b=some u)(d:h.objs.size<=a)(c:H a=none):Un fs ex H (upd H a o) h h' where
 keep:=λb u q _ _ _=>k b u q
 slot:=λb u q _ _ _=>⟨u.slots,k b u q⟩
 free:=λb u q n _=>by rw[aB (Mz (NM (Mu q) d))];exact n
 there:=λb u q _=>⟨u,k b u q⟩
 tups:=λb xs q=>by rw[aB (aF q c)];exact q
 frzs:=λb u xs q=>by rw[aB (aF q c)];exact q
 tbls:=λb f q=>⟨#[],by rw[aB (aF q c),q];simp⟩
theorem Un.write(d:ME (H x))(l:e=x\/H e=some (.own x))(k:∀b u,b≠e->h.get? b=some u->h'.get? b=some u)(f:∃u,h'.get? e=some u):Un fs ex H (upd H x o) h h' :=by
 have i:∀b,H b=none->b≠x:=λb n z=>by subst z;rw[n]at d;exact d
 have j:∀b,H b=none->b≠e:=λb n z=>by
  subst z
  rcases l with r|r
  ·exact i b n r
  ·rw[n]at r;cases r
 have g:∀b u,H b=some u->¬ME (some u)->b≠x:=λb u q m z=>by subst z;rw[q]at d;exact m d
 refine⟨λb u q n _ _=>k b u (j b n) q,λb u q n _ _=>⟨u.slots,k b u (j b n) q⟩,λb u q n _=>by rw[aB (i b n)];exact n,λb u q _=> ?_,λb xs q=>by rw[aB (g b _ q λz=>z)];exact q,λb u xs q=>by rw[aB (g b _ q λz=>z)];exact q,λb p q=>⟨#[],by rw[aB (g b _ q λz=>z),q];simp⟩⟩
 by_cases c:b=e;subst c;exact f;exact⟨u,k b u c q⟩
end
noncomputable def trk(h:Heap)(H:Hp):List Addr:=(List.range h.objs.size).filter λa=>(H a).isSome
noncomputable def pY(h:Heap)(H:Hp):Heap:=W.hideAll h (trk h H)
theorem ya(h:Heap)(H:Hp):(pY h H).objs.size=h.objs.size:=W.hideAll_size _ _
theorem BS(e:h.get? b=some o)(n:H b=none):(pY h H).get? b=some o :=
 W.hideAll_get _ e λa=>by
  have q:(H b).isSome=true:=(M6.mp a).2;rw[n]at q;simp at q
theorem Dd(e:(pY h H).get? b=some o):h.get? b=some o/\H b=none:=by
 have a :h.get? b=some o:=W.of_hideAll (trk h H) e;refine⟨a,?_⟩;cases q:H b with
 |none=>rfl|some x =>
  have c:b∈trk h H:=M6.mpr ⟨NC.mpr (Mu a),by simp[q]⟩;have z:(pY h H).get? b=none:=W.hideAll_none (trk h H) c;rw[z]at e;cases e
noncomputable def Es(g h:Heap)(L:Addr):List (Addr×Obj):=(List.range h.objs.size).filterMap λa=>if a=L\/(g.get? a).isSome=true then none else(h.get? a).map λo=>(a,o)
noncomputable def aO(g h:Heap)(L d:Addr):List (Addr×Obj):=(Es g h L).filter λp=>decide (p.1≠d)
structure Mod(K:W.Frag)(mg:Str->Option Value)(base:Heap):Prop where
 kin:K.In base
 glob:base.Ns mainGlobals mg
 blt:∃mb,base.Ns builtinsNs mb/\∀x:Str,x≠"__name__"->mb x=bootBuiltins x
 nolimit:base.NoLimit
structure Cx where
 prog:Program
 w:World
 K:W.Frag
 mg:Str->Option Value
 base:Heap
 A:Around
 N:List Str
 s₀:Shared
 H₀:Hp
 env:Env
 outer:List Env
 stack:List Env
 ex:List Addr
 fn:Str->Bool
 calm:Bool
 pn:List (Addr×Obj)
 xe:Value->Shared->Prop
noncomputable def vB(l:List Env):List Addr:=l.filterMap (·.frame)
noncomputable abbrev Cx.fs(X:Cx):List Addr:=vB X.outer
def JW(a:Scope)(x:Str):Prop:=a.names.lookup x=some .local\/a.names.lookup x=some .cell\/a.names.lookup x=some .free
def Loc(a:Scope)(x:Str):Prop:=a.names.lookup x=some .local\/a.names.lookup x=some .cell
def Look(env:Env)(h:Heap)(m:Str->Option Value)(x:Str)(u:Value):Prop :=
 (env.kindOf x=some .local/\m x=some u)\/((env.kindOf x=some .cell\/env.kindOf x=some .free)/\∃c,env.cells.lookup x=some c/\h.IsCell c (some u))
structure Cx.Ok(X:Cx):Prop where
 mod:Mod X.K X.mg X.base
 kind:X.env.scope.kind=.function
 glob:X.env.globals=mainGlobals
 blt:X.env.builtins=builtinsNs
 above:X.s₀.heap.objs.size<=X.env.locals
 inj:∀x y c,X.env.cells.lookup x=some c->X.env.cells.lookup y=some c->x=y
 has:∀x,(X.env.kindOf x=some .cell\/X.env.kindOf x=some .free)->∃c,X.env.cells.lookup x=some c
 cab:∀x c,X.fn x=true->X.env.cells.lookup x=some c->X.s₀.heap.objs.size<=c
 hd:X.calm=true->X.A.handled=none
 frames:X.A.frames=some X.stack
 stk:X.stack=X.outer\/(X.stack=X.env::X.outer/\X.env.frame=some X.env.locals)
 exf:∀b∈X.ex,b≠X.env.locals/\∀x c,X.env.cells.lookup x=some c->c≠b
 bs:∀b o,X.base.get? b=some o->X.s₀.heap.get? b=some o/\X.H₀ b=none
 bsz:X.base.objs.size<=X.s₀.heap.objs.size
 noex:∀b o,X.base.get? b=some o->b∉X.ex
 exfs:∀b∈X.ex,b∉X.fs
 funs:X.s₀.heap.FunFrames X.base X.outer
 frf:∀b∈X.fs,X.H₀ b=none
structure Inv(X:Cx)(pins:List (Addr×Obj))(σ:List (Option V))(H:Hp)(s:Shared):Prop where
 ok:X.Ok
 os:s.os=X.s₀.os
 bare:AllBare s.gens
 base:Un X.fs X.ex X.H₀ H X.s₀.heap s.heap
 loc:∃m,s.heap.Ns X.env.locals m/\∀(i:Nat)(x:Str)(v:V),X.N[i]? =some x->σ[i]? =some (some v)->JW X.env.scope x->∃u,RelV v u/\Look X.env s.heap m x u
 cell:∀x c,X.env.cells.lookup x=some c->∃v,s.heap.IsCell c v
 free:H X.env.locals=none
 freeC:∀x c,X.env.cells.lookup x=some c->H c=none
 pin:∀p∈X.pn++pins,s.heap.get? p.1=some p.2/\H p.1=none/\p.1≠X.env.locals/\p.1∉X.fs/\∀v,p.2.data≠.cell v
 hok:fY X.prog X.w H s.heap
 len:σ.length=X.N.length
section
variable{X:Cx}{pins:List (Addr×Obj)}{σ:List (Option V)}{H H' :Hp}{s:Shared}{h' :Heap}
theorem Cx.Ok.nofr(ok:X.Ok)(e:X.base.get? b=some o):b∉X.fs:=λa=>by
 have:=(ok.funs.mem a).1;rw[e]at this;cases this
theorem Inv.bs(I:Inv X pins σ H s):∀b o,X.base.get? b=some o->s.heap.get? b=some o/\H b=none:=λb o e =>
 ⟨I.base.keep b o (I.ok.bs b o e).1 (I.ok.bs b o e).2 (I.ok.nofr e) (I.ok.noex b o e),I.base.free b o (I.ok.bs b o e).1 (I.ok.bs b o e).2 (I.ok.noex b o e)⟩
theorem Inv.bk(I:Inv X pins σ H s):∀b o,X.base.get? b=some o->s.heap.get? b=some o:=λb o e=>(I.bs b o e).1
theorem Inv.mod(I:Inv X pins σ H s):Mod X.K X.mg X.base:=I.ok.mod
theorem Inv.kIn(I:Inv X pins σ H s):X.K.In s.heap:=I.ok.mod.kin.keeps I.bk
theorem Inv.lt(I:Inv X pins σ H s):X.env.locals<s.heap.objs.size:=let⟨_,hn,_⟩:=I.loc;hn.lt
theorem Inv.sz(I:Inv X pins σ H s):X.s₀.heap.objs.size<=s.heap.objs.size:=M8 I.ok.above (Ot I.lt)
theorem Inv.nofs(I:Inv X pins σ H s)(h:s.heap.objs.size<=a):a∉X.fs:=λb=>by
 obtain⟨_,o,c,_⟩:=I.ok.funs.mem b;exact absurd (NM (Mu c) (M8 I.sz h)) (Om _)
theorem Inv.cne(I:Inv X pins σ H s):∀x c,X.env.cells.lookup x=some c->c≠X.env.locals:=λx c e z=>by
 obtain⟨v,o,f,d⟩:=I.cell x c e;obtain⟨m,⟨g,es,ep,a,b,_⟩,_⟩:=I.loc;rw[z,a]at f;cases f;rw[b]at d;cases d
theorem Inv.funs(I:Inv X pins σ H s):s.heap.FunFrames X.base X.outer:=by
 have a:∀(l:List Env),(∀b∈vB l,b∈X.fs)->X.s₀.heap.FunFrames X.base l->s.heap.FunFrames X.base l:=by
  intro l
  induction l with
  |nil=>intro _ _;trivial|cons env r m =>
   intro g k;obtain⟨h,⟨L,o,f,j,n,i⟩,p⟩:=k;have c:L∈X.fs:=g L (by unfold vB;rw[List.filterMap_cons,f];exact MT);obtain⟨q,e⟩:=I.base.slot L o n (I.ok.frf L c) c λz=>I.ok.exfs L z c;exact⟨h,⟨L,_,f,j,e,i⟩,m (λb d=>g b (by unfold vB;rw[List.filterMap_cons,f];exact MS _ d)) p⟩
 exact a X.outer (λ_ d=>d) I.ok.funs
theorem Inv.stack(I:Inv X pins σ H s):s.heap.FunFrames X.base X.stack:=by
 rcases I.ok.stk with e|⟨e,a⟩
 ·rw[e];exact I.funs
 ·rw[e]
  obtain⟨m,b,_⟩:=I.loc;refine .cons (by rw[I.ok.kind];decide) a b ?_ I.funs;exact Heap.get?_none_of_le (M8 I.ok.bsz I.ok.above)
theorem Inv.stkSub(I:Inv X pins σ H s):∀b∈vB X.stack,b∈X.env.locals::X.fs:=λb a=>by
 rcases I.ok.stk with e|⟨e,c⟩
 ·rw[e]at a;exact MS _ a
 ·rw[e]at a
  unfold vB at a;rw[List.filterMap_cons,c]at a;exact a
theorem Inv.stkFree(I:Inv X pins σ H s):∀b∈vB X.stack,H b=none:=λb a=>by
 rcases Mh.mp (I.stkSub b a)with e|a
 ·rw[e];exact I.free
 ·obtain⟨_,o,c,_⟩:=I.ok.funs.mem a
  exact I.base.free b o c (I.ok.frf b a) λz=>I.ok.exfs b z a
theorem Inv.step{g' :Array GenState}{t' :Nat}{d' :Drawn}{ch:List Addr}(I:Inv X pins σ H s)
  (t:∀b∈ch,(b∈X.ex\/X.s₀.heap.objs.size<=b)/\b≠X.env.locals/\(∀x c,X.env.cells.lookup x=some c->c≠b)/\∀p∈X.pn++pins,p.1≠b)
  (j:∀b o,b≠X.env.locals->b∉X.fs->b∉ch->s.heap.get? b=some o->H b=none->h'.get? b=some o)
  (B:∀b o,b≠X.env.locals->b∈X.fs->b∉ch->s.heap.get? b=some o->H b=none->∃R,h'.get? b=some {o with slots:=R}) (f:∀b o,b∉ch->s.heap.get? b=some o->H b=none->H' b=none)
  (C:∀b o,b∉ch->s.heap.get? b=some o->∃F,h'.get? b=some F)
  (L:∀b xs,H b=some (.tup xs)->H' b=some (.tup xs)) (M:∀b o u,H b=some (.frz o u)->H' b=some (.frz o u)) (N:∀b O,H b=some (.tbl O)->∃G,H' b=some (.tbl (O++G)))
  (ns:∀m,s.heap.Ns X.env.locals m->h'.Ns X.env.locals m) (Q:fY X.prog X.w H' h') (hg:AllBare g') :
  Inv X pins σ H' {s with heap:=h',gens:=g',drawn:=d',toks:=t'}:=by
 have J:∀b o,X.s₀.heap.get? b=some o->b≠X.env.locals:=λb o e=>Mz (NM (Mu e) I.ok.above);have A:∀b o,X.s₀.heap.get? b=some o->b∉X.ex->b∉ch:=λb o e a D=>by
  rcases(t b D).1 with z|z
  ·exact a z
  ·exact absurd (NM (Mu e) z) (Om _)
 have h:∀x c,X.env.cells.lookup x=some c->∀v,s.heap.IsCell c v->h'.IsCell c v:=λx c e v ⟨o,E,P⟩=>by
  have g:c∉ch:=λz=>(t c z).2.2.1 x c e rfl
  by_cases T:c∈X.fs
  ·obtain⟨R,q⟩:=B c o (I.cne x c e) T g E (I.freeC x c e)
   exact⟨_,q,P⟩
  ·exact⟨o,j c o (I.cne x c e) T g E (I.freeC x c e),P⟩
 refine⟨I.ok,I.os,hg,⟨λb o e n D a=> ?_,λb o e n D a=> ?_,λb o e n a=> ?_,λb o e a=> ?_,λb xs e=>L b xs (I.base.tups b xs e),λb o xs e=>M b o xs (I.base.frzs b o xs e),λb O e=> ?_⟩,?_,λx c e=> ?_,?_,λx c e=> ?_,λp V=> ?_,Q,I.len⟩
 ·exact j b o (J b o e) D (A b o e a) (I.base.keep b o e n D a) (I.base.free b o e n a)
 ·obtain⟨R,y⟩:=I.base.slot b o e n D a
  obtain⟨S,K⟩:=B b _ (J b o e) D (A b o e a) y (I.base.free b o e n a);exact⟨S,K⟩
 ·obtain⟨F,y⟩:=I.base.there b o e a
  exact f b F (A b o e a) y (I.base.free b o e n a)
 ·obtain⟨F,y⟩:=I.base.there b o e a
  exact C b F (A b o e a) y
 ·obtain⟨Y,y⟩:=I.base.tbls b O e
  obtain⟨m2,K⟩:=N b _ y;exact⟨Y++m2,by rw[K,Array.append_assoc]⟩
 ·obtain⟨m,Z,hl⟩:=I.loc
  refine⟨m,ns m Z,λi x v y K e3=> ?_⟩;obtain⟨u,r,l⟩:=hl i x v y K e3;refine⟨u,r,?_⟩
  rcases l with l|⟨k,c,e,z⟩
  ·exact .inl l
  ·exact .inr ⟨k,c,e,h x c e _ z⟩
 ·obtain⟨v,z⟩:=I.cell x c e
  exact⟨v,h x c e v z⟩
 ·obtain⟨m,⟨o,_,_,E,_⟩,_⟩:=I.loc
  exact f _ o (λz=>(t _ z).2.1 rfl) E I.free
 ·obtain⟨v,o,E,P⟩:=I.cell x c e
  exact f c o (λz=>(t c z).2.2.1 x c e rfl) E (I.freeC x c e)
 ·obtain⟨e,n,U,W,d⟩:=I.pin p V
  have g:p.1∉ch:=λz=>(t p.1 z).2.2.2 p V rfl;exact⟨j p.1 p.2 U W g e n,f p.1 p.2 g e n,U,W,d⟩
theorem Inv.un(I:Inv X pins σ H s)(u:Un X.fs [] H H' s.heap h')(c:fY X.prog X.w H' h'):Inv X pins σ H' {s with heap:=h',toks:=t'}:=by
 obtain⟨m,⟨o,es,ep,h,r⟩,_⟩:=id I.loc;obtain⟨p,k⟩:=u.any h I.free (by simp);exact I.step (g' :=s.gens) (d' :=s.drawn) (ch:=[]) (λ_ z=>nomatch z) (λb o _ f _ e n=>u.keep b o e n f (by simp)) (λb o _ f _ e n=>u.slot b o e n f (by simp)) (λb o _ e n=>u.free b o e n (by simp)) (λb o _ e=>u.there b o e (by simp)) u.tups u.frzs u.tbls (λq i=>by
  obtain⟨l,g,d,a,j⟩:=i;rw[h]at a;cases a;exact⟨_,g,d,k,j⟩) c I.bare
theorem Inv.call(I:Inv X pins σ H s)(u:Un (vB X.stack) ch H H' s.heap h')(g:fY X.prog X.w H' h')(v:AllBare g')
  (f:∀b∈ch,(b∈X.ex\/X.s₀.heap.objs.size<=b)/\b≠X.env.locals/\(∀x c,X.env.cells.lookup x=some c->c≠b)/\∀p∈X.pn++pins,p.1≠b) :
  Inv X pins σ H' {s with heap:=h',gens:=g',drawn:=d',toks:=t'}:=by
 obtain⟨m,⟨o,es,ep,k,r⟩,_⟩:=id I.loc;obtain⟨A,i⟩:=u.any k I.free λz=>(f _ z).2.1 rfl;exact I.step (ch:=ch) f (λb o i t a e n=>u.keep b o e n (λz=>(Mh.mp (I.stkSub b z)).elim i t) a) (λb o _ _ a e n=>u.any e n a) (λb o a e n=>u.free b o e n a) (λb o a e=>u.there b o e a) u.tups u.frzs u.tbls (λB l=>by
  obtain⟨y,j,h,d,q⟩:=l;rw[k]at d;cases d;exact⟨_,j,h,i,q⟩) g v
theorem Inv.turned(I:Inv X pins σ H s)(k:∀b o,b≠it->s.heap.get? b=some o->h'.get? b=some o)(i:H it=none)(f:it≠X.env.locals)
  (t:it∈X.ex\/X.s₀.heap.objs.size<=it) (w:∀x c,X.env.cells.lookup x=some c->c≠it) (g:∀p∈X.pn++pins,p.1≠it):Inv X pins σ H {s with heap:=h',toks:=t'}:=by
 have d:∀b u,H b=some u->b≠it:=λb u e z=>by rw[z,i]at e;cases e
 refine I.step (g' :=s.gens) (d' :=s.drawn) (ch:=[it]) (λb j=> ?_) (λb o _ _ a e _=>k b o (λz=>a (by simp[z])) e) (λb o _ _ a e _=>⟨o.slots,k b o (λz=>a (by simp[z])) e⟩) (λ_ _ _ _ n=>n)
  (λb o a e=>⟨o,k b o (λz=>a (by simp[z])) e⟩) (λ_ _ e=>e) (λ_ _ _ e=>e) (λb y e=>⟨#[],by rw[e];simp⟩) (λm h=> ?_) (λb u e=> ?_) I.bare
 ·have e:b=it:=by simpa using j
  subst e;exact⟨t,f,w,g⟩
 ·obtain⟨o,es,ep,l,r⟩:=h
  exact⟨o,es,ep,k _ o (Nv f) l,r⟩
 ·refine(I.hok b u e).stay (λc v a q=>k c v ?_ q) (λ_ q=>q) λ_ _ q=>q
  rcases a with z|z
  ·rw[z];exact d b u e
  ·exact d c _ z
theorem Inv.tok(I:Inv X pins σ H s)(t:Nat):Inv X pins σ H {s with toks:=t}:=I.un (h' :=s.heap) (t' :=t) Un.refl I.hok
theorem Inv.kept(I:Inv X pins σ H s)(k:∀b u,s.heap.get? b=some u->h'.get? b=some u):Inv X pins σ H {s with heap:=h',toks:=t'}:=I.un (Un.kept k) (I.hok.kept k)
theorem Inv.laid(I:Inv X pins σ H s)(k:∀b u,s.heap.get? b=some u->h'.get? b=some u)(c:s.heap.objs.size<=a)(d:ao X.prog X.w (upd H a o) h' a o) :
  Inv X pins σ (upd H a o) {s with heap:=h',toks:=t'}:=I.un (Un.laid k c (I.hok.fresh c)) (I.hok.laid k c d)
theorem Inv.write(I:Inv X pins σ H s)(f:ME (H x))(d:e=x\/H e=some (.own x))(k:∀b u,b≠e->s.heap.get? b=some u->h'.get? b=some u)(a:∃u,h'.get? e=some u)
  (c:ao X.prog X.w (upd H x o) h' x o):Inv X pins σ (upd H x o) {s with heap:=h',toks:=t'}:=I.un (Un.write f d k a) (I.hok.write f d k a c)
theorem Inv.weak(I:Inv X pins σ H s)(b:a.length=σ.length)(w:∀(i:Nat) v,a[i]? =some (some v)->σ[i]? =some (some v)):Inv X pins a H s := ⟨I.ok,I.os,I.bare,I.base,let⟨m,hn,hl'⟩:=I.loc;⟨m,hn,λi x v c e d=>hl' i x v c (w i v e) d⟩,I.cell,I.free,I.freeC,I.pin,I.hok,b.trans I.len⟩
theorem Inv.pins_of(I:Inv X pins σ H s)(h:∀p∈a,s.heap.get? p.1=some p.2/\H p.1=none/\p.1≠X.env.locals/\p.1∉X.fs/\∀v,p.2.data≠.cell v):Inv X a σ H s := ⟨I.ok,I.os,I.bare,I.base,I.loc,I.cell,I.free,I.freeC,λp b=>(M7.mp b).elim (λz=>I.pin p (M9 _ z)) (h p),I.hok,I.len⟩
theorem lK{N:List Str}(d:N.Nodup){i j:Nat}(a:N[i]? =some x)(b:N[j]? =some x):i=j:=by obtain⟨f,c⟩:=Mk.mp a;obtain⟨g,e⟩:=Mk.mp b;exact(List.getElem_inj d).mp (c.trans e.symm)
theorem nQ(I:Inv X pins σ H s)(hN:X.N.Nodup)(W:X.N[i]? =some x)(B:Loc X.env.scope x)(r:RelV v u)
  (h:∀s',Inv X pins (σ.set i (some v)) H s' ->(∃a,Heap.SameBut a s.heap s'.heap/\(a=X.env.locals\/X.env.cells.lookup x=some a))->Q () s') (hf:X.fn x=true\/X.env.scope.names.lookup x=some .local:=by first|exact .inl rfl|exact .inr rfl|assumption):wpAny M A (storeName X.env x u) Q E s:=by
 obtain⟨m,hn,hl⟩:=id I.loc;have T:(X.env.scope.kind== .class||(X.env.scope.kind== .module&&X.env.locals !=X.env.globals))=false:=by rw[I.ok.kind];rfl
 have G:i<σ.length:=by rw[I.len];exact(Mk.mp W).1
 have O:=I.cne;have g:∀{a:Addr}{h' :Heap},(∃o,s.heap.get? a=some o/\H a=none)->Heap.SameBut a s.heap h' ->fY X.prog X.w H h' :=fun{a h'} ha f b ob e=>by
  obtain⟨_,_,C⟩:=ha;refine(I.hok b ob e).stay (λc Z t q=>(f.2 c ?_).trans q) (λ_ q=>q) λ_ _ q=>q;rintro rfl
  rcases t with rfl|t
  ·rw[C]at e;cases e
  ·rw[C]at t;cases t
 rcases B with F|F
 ·refine wpAny_storeName_local F hn (λh' a1 f=> ?_) T
  obtain⟨oL,_,_,a0,_⟩:=id hn;refine h _ ⟨I.ok,I.os,I.bare,⟨λb o e n L B=> ?_,λb o e n L B=> ?_,I.base.free,λb o e B=> ?_,I.base.tups,I.base.frzs,I.base.tbls⟩,⟨_,a1,λj y v' l D e3=> ?_⟩,λy c e=> ?_,I.free,I.freeC,λp hp=> ?_,g ⟨oL,a0,I.free⟩ f,by simpa using I.len⟩ ⟨_,f,.inl rfl⟩
  ·exact(f.2 b (Mz (NM (Mu e) I.ok.above))).trans (I.base.keep b o e n L B)
  ·obtain⟨sl,l⟩:=I.base.slot b o e n L B
   exact⟨sl,(f.2 b (Mz (NM (Mu e) I.ok.above))).trans l⟩
  ·obtain⟨o',l⟩:=I.base.there b o e B
   exact⟨o',(f.2 b (Mz (NM (Mu e) I.ok.above))).trans l⟩
  ·by_cases K:j=i
   ·subst K
    rw[W]at l;cases l;rw[N6 G]at D;cases D;exact⟨u,r,.inl ⟨F,by simp⟩⟩
   ·rw[NZ (Nv K)]at D
    obtain⟨u',r',q⟩:=hl j y v' l D e3;refine⟨u',r',?_⟩
    rcases q with⟨k,e⟩|⟨k,c,e,z⟩
    ·refine .inl ⟨k,?_⟩
     have:y≠x:=λe=>K (lK hN l (e▸W));simp[this,e]
    ·exact .inr ⟨k,c,e,z.sameBut f (O y c e)⟩
  ·obtain⟨Z,z⟩:=I.cell y c e
   exact⟨Z,z.sameBut f (O y c e)⟩
  ·obtain⟨e,n,Y,nf,d⟩:=I.pin p hp
   exact⟨(f.2 p.1 Y).trans e,n,Y,nf,d⟩
 ·have J:X.fn x=true:=by
   rcases hf with z|z
   ·exact z
   ·rw[z]at F;cases F
  obtain⟨c,t⟩:=I.ok.has x (.inl F);obtain⟨Z,z⟩:=I.cell x c t;refine wpAny_storeName_cell I.ok.kind F t z (λh' R f=> ?_);obtain⟨oc,U,S⟩:=id z;refine h {s with heap:=h'} ⟨I.ok,I.os,I.bare,⟨λb o e n L B=> ?_,λb o e n L B=> ?_,I.base.free,λb o e B=> ?_,I.base.tups,I.base.frzs,I.base.tbls⟩,⟨m,hn.sameBut f (Nv (O x c t)),λj y v' l D e3=> ?_⟩,λy c' e=> ?_,I.free,I.freeC,λp hp=> ?_,g ⟨oc,U,I.freeC x c t⟩ f,by simpa using I.len⟩ ⟨c,f,.inr t⟩
  ·exact(f.2 b (Mz (NM (Mu e) (I.ok.cab x c J t)))).trans (I.base.keep b o e n L B)
  ·obtain⟨sl,l⟩:=I.base.slot b o e n L B
   exact⟨sl,(f.2 b (Mz (NM (Mu e) (I.ok.cab x c J t)))).trans l⟩
  ·obtain⟨o',l⟩:=I.base.there b o e B
   exact⟨o',(f.2 b (Mz (NM (Mu e) (I.ok.cab x c J t)))).trans l⟩
  ·by_cases K:j=i
   ·subst K
    rw[W]at l;cases l;rw[N6 G]at D;cases D;exact⟨u,r,.inr ⟨.inl F,c,t,R⟩⟩
   ·rw[NZ (Nv K)]at D
    obtain⟨u',r',q⟩:=hl j y v' l D e3;refine⟨u',r',?_⟩
    rcases q with q|⟨k,c',e,z'⟩
    ·exact .inl q
    ·refine .inr ⟨k,c',e,z'.sameBut f ?_⟩
     rintro rfl;exact K (lK hN l (I.ok.inj _ _ _ e t▸W))
  ·by_cases P:c' =c
   ·subst P;exact⟨_,R⟩
   ·obtain⟨w2,z2⟩:=I.cell y c' e
    exact⟨w2,z2.sameBut f P⟩
  ·obtain⟨e,n,Y,nf,d⟩:=I.pin p hp
   refine⟨(f.2 p.1 ?_).trans e,n,Y,nf,d⟩;intro q;rw[q,U]at e;have q' :oc=p.2:=Mv e;exact d Z (by rw[<- q'];exact S)
theorem kj(I:Inv X pins σ H s)(b:X.N.Nodup)(d:X.N[i]? =some x)(a:Loc X.env.scope x)(r:RelV v u)
  (h:∀s',Inv X pins (σ.set i (some v)) H s' ->Q () s') (c:X.fn x=true\/X.env.scope.names.lookup x=some .local:=by first|exact .inl rfl|exact .inr rfl|assumption):wpAny M A (storeName X.env x u) Q E s :=
 nQ I b d a r (λs' e _=>h s' e) c
theorem Inv.call'(I:Inv X pins σ H s)(g:s'.os=s.os)(u:Un (vB X.stack) ch H H' s.heap s'.heap)(a:fY X.prog X.w H' s'.heap)(h:AllBare s'.gens)
  (d:∀b∈ch,(b∈X.ex\/X.s₀.heap.objs.size<=b)/\b≠X.env.locals/\(∀x c,X.env.cells.lookup x=some c->c≠b)/\∀p∈X.pn++pins,p.1≠b):Inv X pins σ H' s' :=by
 obtain⟨h',g',d',t',f⟩:=s';have e:f =s.os:=g;subst e;exact I.call (g' :=g') (t' :=t') (d' :=d') u a h d
end
noncomputable abbrev XK:=Value->Option Addr->Hp->Prop
noncomputable abbrev St:=List (Option V)
noncomputable abbrev VK:=V->Hp->Prop
noncomputable abbrev TE:=St->Hp->VK->Prop
noncomputable abbrev TT:=St->Hp->(Bool->Hp->Prop)->Prop
noncomputable abbrev TA:=St->Hp->(List V->Hp->Prop)->Prop
structure ci where
 nx:St->Hp->Prop
 rt:VK
 bk:St->Hp->Prop:=λ_ _=>False
 ct:St->Hp->Prop:=λ_ _=>False
noncomputable abbrev TS:=ci->St->Hp->Prop
def EP(X:Cx)(a:List (Addr×Obj))(c:St)(Q:VK)(u:Value)(s' :Shared):Prop:=∃v b,Inv X a c b s' /\RelV v u/\Q v b
def TP(X:Cx)(a:List (Addr×Obj))(d:St)(Q:Bool->Hp->Prop)(b:Bool)(s' :Shared):Prop:=∃c,Inv X a d c s' /\Q b c
def AP(X:Cx)(a:List (Addr×Obj))(c:St)(Q:List V->Hp->Prop)(d:List Value)(s' :Shared):Prop:=∃vs b,Inv X a c b s' /\aU vs d/\Q vs b
def SP(X:Cx)(b:List (Addr×Obj))(D:ci)(f:Flow)(s' :Shared):Prop :=
 match f with
 | .next=>∃a c,Inv X b a c s' /\D.nx a c| .brk=>∃a c,Inv X b a c s' /\D.bk a c| .cont=>∃a c,Inv X b a c s' /\D.ct a c| .ret u=>∃v a c,Inv X b a c s' /\RelV v u/\D.rt v c
def PE(X:Cx)(e:Expr)(t:TE):Prop :=
 ∀(a:List (Addr×Obj))(s:Shared)(b:St)(H:Hp)(Q:VK),Inv X a b H s->t b H Q->wpAny (model X.prog X.w) X.A (eval e X.env) (EP X a b Q) X.xe s
def PT(X:Cx)(e:Expr)(t:TT):Prop :=
 ∀(a:List (Addr×Obj))(s:Shared)(b:St)(H:Hp)(Q:Bool->Hp->Prop),Inv X a b H s->t b H Q->wpAny (model X.prog X.w) X.A (isTrue e X.env (eval e X.env)) (TP X a b Q) X.xe s
def PW(X:Cx)(e:Expr)(t:TT):Prop :=
 ∀(b:Sem Value)(a:List (Addr×Obj))(s:Shared)(c:St)(H:Hp)(Q:Bool->Hp->Prop),Inv X a c H s->t c H Q->wpAny (model X.prog X.w) X.A (isTrue e X.env b) (TP X a c Q) X.xe s
theorem PW.pt(h:PW X e t):PT X e t:=h _
def PA(X:Cx)(es:List Expr)(t:TA):Prop :=
 ∀(pos:Pos)(a:List (Addr×Obj))(s:Shared)(b:St)(H:Hp)(Q:List V->Hp->Prop),Inv X a b H s->t b H Q->wpAny (model X.prog X.w) X.A (spliced (backTo pos (starEach es X.env))) (AP X a b Q) X.xe s
def PS(X:Cx)(c:Stmt)(t:TS):Prop :=
 ∀(a:List (Addr×Obj))(s:Shared)(b:St)(H:Hp)(D:ci),Inv X a b H s->t D b H->wpAny (model X.prog X.w) X.A (exec c X.env) (SP X a D) X.xe s
def vk(X:Cx)(c:List Stmt)(t:TS):Prop :=
 ∀(a:List (Addr×Obj))(s:Shared)(b:St)(H:Hp)(D:ci),Inv X a b H s->t D b H->wpAny (model X.prog X.w) X.A (execs c X.env) (SP X a D) X.xe s
theorem al{b:Type}{t:Sem b}{Q c :b->Shared->Prop}{M:Model}{A:Around}{E:Value->Shared->Prop}{s:Shared}(h:wpAny M A t Q E s)(d:∀a s,Q a s->c a s):wpAny M A t c E s:=OC h d λ_ _ x=>x
section
variable{X:Cx}
theorem bin{a b:Expr}{n o:TE}(q:PE X a n)(z:PE X b o){c:List (Addr×Obj)}{s:Shared}{g:St}{H:Hp}{R:V->V->Hp->Prop}(I:Inv X c g H s)(h:n g H λx l=>o g l λy e=>R x y e)
  {m:Type} {Q:m->Shared->Prop} {f:Value->Value->Sem m}
  (E:∀v u k x y e,Inv X c g e k->RelV x v->RelV y u->R x y e->wpAny (model X.prog X.w) X.A (f v u) Q X.xe k) :
  wpAny (model X.prog X.w) X.A (eval a X.env) (λv j=>wpAny (model X.prog X.w) X.A (eval b X.env) (λu i=>wpAny (model X.prog X.w) X.A (f v u) Q X.xe i) X.xe j) X.xe s:=by
 refine al (q c s g H _ I h) λv r d=> ?_;obtain⟨x,l,C,D,F⟩:=d;refine al (z c r g l _ C F) λu k d=> ?_;obtain⟨y,e,p,B,t⟩:=d;exact E v u k x y e p D B t
def Jt(i:Nat):TE:=λa H Q=>∃v,a[i]? =some (some v)/\Q v H
def tC(v:V):TE:=λ_ H Q=>Q v H
theorem ub(w:X.N[i]? =some x)(p:JW X.env.scope x)(g:(x==("__debug__":Str))=false:=by decide)(j:(x==("__classdict__":Str))=false:=by decide):PE X (.Name x pos) (Jt i):=by
 intro f s t H Q I h;obtain⟨v,e,h⟩:=h;obtain⟨m,o,q⟩:=I.loc;obtain⟨u,r,l⟩:=q i x v w e p;have d:EP X f t Q u s:=⟨v,H,I,r,h⟩
 rcases l with⟨b,n⟩|⟨b,c,k,a⟩
 ·exact wpAny_Name (wpAny_loadName_local I.ok.kind b o n d) g
 ·rcases b with b|b
  ·exact wpAny_Name (wpAny_loadName_cell I.ok.kind b k a d) g
  ·exact wpAny_Name (wpAny_loadName_free I.ok.kind b k a d j) g
theorem dA{i j pos}:PE X (.Constant (.int i) j pos) (tC (.int i)):=λ_ _ _ H _ I h=>wpAny_Constant_int ⟨.int i,H,I.tok _,⟨_,rfl⟩,h⟩
theorem wL{b j pos}:PE X (.Constant (.bool b) j pos) (tC (.bl b)):=λ_ _ _ H _ I h=>Constant_bool ⟨.bl b,H,I,rfl,h⟩
theorem Gm{j pos}:PE X (.Constant .none j pos) (tC .non):=λ_ _ _ H _ I h=>Constant_none ⟨.non,H,I,rfl,h⟩
theorem ud{x j pos}:PE X (.Constant (.str x) j pos) (tC (.str x)):=λ_ _ _ H _ I h=>Calls.Constant_str ⟨.str x,H,I.tok _,⟨_,rfl⟩,h⟩
def Gl(X:Cx)(x:Str):Prop:=X.env.kindOf x=some .globalImplicit
theorem wj(I:Inv X a b H s)(e:Gl X x)(c:X.mg x=some u)(h:Q u s)
  (d:(x==("__debug__":Str))=false:=by decide):wpAny (model X.prog X.w) X.A (eval (.Name x pos) X.env) Q E s :=
 Calls.Name_function_global I.ok.kind e (Calls.loadGlobal_global (by rw[I.ok.glob];exact I.mod.glob.keeps I.bk) c h) d
theorem dE(I:Inv X a c H s)(b:Gl X x)(e:X.mg x=none)(j:bootBuiltins x=some u)(h:Q u s)
  (g:x≠"__name__":=by decide) (f:(x==("__debug__":Str))=false:=by decide):wpAny (model X.prog X.w) X.A (eval (.Name x pos) X.env) Q E s:=by
 obtain⟨k,d,i⟩:=I.mod.blt;exact Calls.Name_function_global I.ok.kind b (Calls.loadGlobal_builtin (by rw[I.ok.glob];exact I.mod.glob.keeps I.bk) e (by rw[I.ok.blt];exact d.keeps I.bk) ((i x g).trans j) h) f
theorem DQ(c:Gl X x)(a:X.mg x=some u)(r:RelV v u)(b:(x==("__debug__":Str))=false:=by decide):PE X (.Name x pos) (tC v) := λ_ _ _ H _ I h=>wj I c a ⟨v,H,I,r,h⟩ b
theorem DT(d:Gl X x)(a:X.mg x=none)(e:bootBuiltins x=some u)(r:RelV v u)(c:x≠"__name__":=by decide)(b:(x==("__debug__":Str))=false:=by decide):PE X (.Name x pos) (tC v) := λ_ _ _ H _ I h=>dE I d a e ⟨v,H,I,r,h⟩ c b
variable{a b:Expr}{ta tb:TE}{pos:Pos}
def PC(X:Cx)(op:CmpOp)(a b:Expr)(t:TE):Prop :=
 ∀(c:List (Addr×Obj))(s:Shared)(f:St)(H:Hp)(Q:VK),Inv X c f H s->t f H Q -> wpAny (model X.prog X.w) X.A (eval a X.env) (λv e=>wpAny (model X.prog X.w) X.A (eval b X.env) (λu d=>wpAny (model X.prog X.w) X.A (compareOp op v u) (EP X c f Q) X.xe d) X.xe e) X.xe s
theorem Aw(b:Expr)(h:op≠.In)(d:op≠.NotIn):behindInMarks op b=false:=by
 have c:(op==CmpOp.In)=false:=by cases op<;>first|rfl|exact absurd rfl h
 have e:(op==CmpOp.NotIn)=false:=by cases op<;>first|rfl|exact absurd rfl d
 cases b<;>simp[behindInMarks,c,e]
def tB(t:TE):TT:=λd H Q=>t d H λx e=>∃c,x=.bl c/\Q c e
theorem AS(h:PC X op a b t)(f:behindInMarks op b=false:=by first|exact Aw _ (by decide) (by decide)|rfl):PT X (.Compare a [op] [b] pos) (tB t):=by intro e s g H Q I j;refine wpAny_isTrue_Compare1 (al (h e s g H _ I j) λv r f=>al f λu o n=>al n λc p ⟨x,i,k,l,m⟩=> ?_) f;obtain⟨d,rfl,q⟩:=m;cases l;exact Nm ⟨i,k,q⟩
theorem GV(h:PE X e t)(g:∀c,isTrue e X.env c=(do let v<-c;standAt e.pos;holding [v] (truthy v)):=by intro _;rfl):PT X e (tB t):=by intro f s i H Q I k;refine isTrue_plain (al (h f s i H _ I k) λv o ⟨x,j,l,m,n⟩=> ?_) (g _);obtain⟨d,rfl,q⟩:=n;cases m;exact Nm ⟨j,l,q⟩
variable{tA tB' :TT}{aO:List Expr}
def tAnd(t u:TT):TT:=λd H Q=>t d H λc e=>if c=true then u d e Q else Q false e
def tOr(t u:TT):TT:=λd H Q=>t d H λc e=>if c=true then Q true e else u d e Q
def tNot(t:TT):TT:=λd H Q=>t d H λc e=>Q (!c) e
theorem wG(g:PT X a tA):PW X (.BoolOp .And [a] pos) tA:=by
 intro j d s f H Q I h;refine isTrue_and (al (g d s f H Q I h) λc i e=> ?_);cases c with
 |true=>exact isTrue_and_nil e|false=>exact e
theorem AL(g:PT X a tA):PW X (.BoolOp .Or [a] pos) tA:=by
 intro j d s f H Q I h;refine isTrue_or (al (g d s f H Q I h) λc i e=> ?_);cases c with
 |false=>exact isTrue_or_nil e|true=>exact e
theorem AM(k:PT X a tA)(n:PW X (.BoolOp .And (b::aO) pos) tB'):PW X (.BoolOp .And (a::b::aO) pos) (tAnd tA tB'):=by
 intro m d s f H Q I h;refine isTrue_and (al (k d s f H _ I h) λc l e=> ?_);obtain⟨j,g,i⟩:=e;cases c with
 |true=>exact n m d l f j Q g i|false=>exact⟨j,g,i⟩
theorem FM(k:PT X a tA)(n:PW X (.BoolOp .Or (b::aO) pos) tB'):PW X (.BoolOp .Or (a::b::aO) pos) (tOr tA tB'):=by
 intro m d s f H Q I h;refine isTrue_or (al (k d s f H _ I h) λc l e=> ?_);obtain⟨j,g,i⟩:=e;cases c with
 |true=>exact⟨j,g,i⟩|false=>exact n m d l f j Q g i
theorem GW(f:PT X a tA):PT X (.UnaryOp .Not a pos) (tNot tA):=by intro d s e H Q I h;exact isTrue_not (f d s e H (λc g=>Q (!c) g) I h)
def J3(f g:TE):TE:=λd H Q=>f d H λx e=>∃c,x=.bl c/\if c=true then g d e Q else Q (.bl false) e
def tOrV(f g:TE):TE:=λd H Q=>f d H λx e=>∃c,x=.bl c/\if c=true then Q (.bl true) e else g d e Q
def Jw(e:TE):TE:=λd H Q=>e d H λx f=>∃c,x=.bl c/\Q (.bl (!c)) f
theorem Gj{op}(h:PE X a t):PE X (.BoolOp op [a] pos) t:=λc s d H Q I e=>BoolOp_one (h c s d H Q I e)
theorem Ai(k:PE X a ta)(m:PE X (.BoolOp .And (b::aO) pos) tb):PE X (.BoolOp .And (a::b::aO) pos) (J3 ta tb):=by
 intro d s g H Q I h;refine BoolOp_and (al (k d s g H _ I h) λv l f=> ?_);obtain⟨x,i,j,n,e⟩:=f;obtain⟨c,rfl,e⟩:=e;cases n;refine Nm ?_;cases c with
 |true=>exact m d l g i Q j e|false=>exact⟨.bl false,i,j,rfl,e⟩
theorem FO(k:PE X a ta)(m:PE X (.BoolOp .Or (b::aO) pos) tb):PE X (.BoolOp .Or (a::b::aO) pos) (tOrV ta tb):=by
 intro d s g H Q I h;refine BoolOp_or (al (k d s g H _ I h) λv l f=> ?_);obtain⟨x,i,j,n,e⟩:=f;obtain⟨c,rfl,e⟩:=e;cases n;refine Nm ?_;cases c with
 |false=>exact m d l g i Q j e|true=>exact⟨.bl true,i,j,rfl,e⟩
theorem Gk(i:PE X a ta):PE X (.UnaryOp .Not a pos) (Jw ta):=by intro d s g H Q I h;refine UnaryOp_ (al (i d s g H _ I h) λv m e=> ?_);obtain⟨x,l,j,k,f⟩:=e;obtain⟨c,rfl,f⟩:=f;cases k;exact not_of (Nm ⟨.bl (!c),l,j,rfl,f⟩)
def tIf(t:TT)(f g:TE):TE:=λd H Q=>t d H λc e=>if c=true then f d e Q else g d e Q
theorem Ah(o:PT X c tA)(m:PE X a ta)(n:PE X b tb):PE X (.IfExp c a b pos) (tIf tA ta tb):=by
 intro e s f H Q I h;refine wpAny_IfExp (al (o e s f H _ I h) λd j g=> ?_);obtain⟨l,i,k⟩:=g;cases d with
 |true=>exact m e j f l Q i k|false=>exact n e j f l Q i k
end
def bR(K:W.Frag)(H:Hp)(a:Addr)(xs:List V):Prop :=
 Rd H a (.lst xs) \/ ∃(o:Obj)(b:Array Value)(n:Nat),K.lookup a=some o/\o.cls=.type "list"/\o.dict=none/\o.data=.seq b n/\b.size<=sizeLine/\aU xs b.toList
def bg(K:W.Frag)(H:Hp)(a:Addr)(xs:List V):Prop :=
 Rd H a (.tup xs) \/ ∃(o:Obj)(b:Array Value)(n:Nat),K.lookup a=some o/\o.cls=.type "tuple"/\o.dict=none/\o.data=.seq b n/\b.size<=sizeLine/\aU xs b.toList
noncomputable def absV:Value->Option V
 | .none=>some .non| .bool b=>some (.bl b)| .int i _=>some (.int i)| .str x _=>some (.str x)| .bytes b _=>some (.byt b)| .float b _=>some (.flt b)| .ref a=>some (.ref a)| .type n=>some (.ty n)|_=>none
theorem RelV.abs(r:RelV x u):absV u=some x:=by
 cases x with
 |non=>cases r;rfl|bl _=>cases r;rfl|int _=>obtain⟨t,rfl⟩:=r;rfl
 |str _=>obtain⟨t,rfl⟩:=r;rfl
 |byt _=>obtain⟨t,rfl⟩:=r;rfl
 |flt _=>obtain⟨t,rfl⟩:=r;rfl
 |ref _=>cases r;rfl|ty _=>cases r;rfl
theorem RelV.inj(r:RelV x u)(q:RelV y u):x=y:=Mv (r.abs.symm.trans q.abs)
theorem aU.inj(h:aU xs b)(k:aU a b):xs=a:=by
 induction h generalizing a with
 |nil=>cases k;rfl|cons r t d =>
  cases k with
  |cons c t' =>rw[r.inj c,d t']
section
variable{X:Cx}{pins:List (Addr×Obj)}{σ:St}{H:Hp}{s:Shared}{a:Addr}{xs ys:List V}
theorem bR.of{K:W.Frag}(h:H a=some (.lst xs)):bR K H a xs:=.inl (.inl h)
theorem bg.of{K:W.Frag}(h:H a=some (.tup xs)):bg K H a xs:=.inl (.inl h)
theorem Inv.list(I:Inv X pins σ H s)(h:bR X.K H a xs):∃b:List Value,aU xs b/\PlainL s.heap a b.toArray/\xs.length<=sizeLine:=by
 rcases h with h|⟨o,b,n,d,g,f,c,i,r⟩
 ·obtain⟨z,b,n,r,e⟩:=h.ok I.hok
  exact⟨b,r,⟨_,n,e,rfl,rfl,rfl⟩,z⟩
 ·refine⟨b.toList,r,⟨o,n,I.kIn a o d,g,f,by simpa using c⟩,?_⟩
  have e:=r.length;simp only[M5]at e;omega
theorem Inv.tuple(I:Inv X pins σ H s)(h:bg X.K H a xs):∃b:List Value,aU xs b/\IsTup s.heap a b.toArray/\xs.length<=sizeLine:=by
 rcases h with h|⟨o,b,n,d,f,_,c,g,r⟩
 ·obtain⟨z,b,r,p⟩:=h.ok I.hok
  exact⟨b,r,p.tup,z⟩
 ·refine⟨b.toList,r,⟨o,I.kIn a o d,f,n,by simpa using c⟩,?_⟩
  have e:=r.length;simp only[M5]at e;omega
theorem Inv.tupleD(I:Inv X pins σ H s)(h:bg X.K H a xs):∃o,s.heap.get? a=some o/\o.cls=.type "tuple"/\o.dict=none:=by
 rcases h with h|⟨o,b,n,f,i,g,_⟩
 ·obtain⟨z,b,r,o,e,c,n,_,d⟩:=h.ok I.hok
  exact⟨o,e,c,d⟩
 ·exact⟨o,I.kIn a o f,i,g⟩
theorem Inv.list_inj(I:Inv X pins σ H s)(h:bR X.K H a xs)(h' :bR X.K H a ys):xs=ys:=by
 obtain⟨b,r,⟨o,n,e,_,_,d⟩,_⟩:=I.list h;obtain⟨its',f,⟨g,i,c,_,_,d'⟩,_⟩:=I.list h';rw[e]at c;cases c;rw[d]at d'
 injection d' with d1 _
 have:b=its' :=by simpa using ND Array.toList d1
 subst this;exact r.inj f
theorem Inv.tuple_inj(I:Inv X pins σ H s)(h:bg X.K H a xs)(h' :bg X.K H a ys):xs=ys:=by
 obtain⟨b,r,⟨o,e,_,n,d⟩,_⟩:=I.tuple h;obtain⟨its',f,⟨g,c,_,i,d'⟩,_⟩:=I.tuple h';rw[e]at c;cases c;rw[d]at d'
 injection d' with d1 _
 have:b=its' :=by simpa using ND Array.toList d1
 subst this;exact r.inj f
end
noncomputable abbrev Cx.wish(X:Cx)(E:Value->Shared->Prop):Cx:={X with xe:=E}
noncomputable abbrev Cx.nox(X:Cx):Cx:=X.wish λ_ _=>False
theorem Cx.Ok.wish{X:Cx}(ok:X.Ok)(E:Value->Shared->Prop):(X.wish E).Ok := ⟨ok.mod,ok.kind,ok.glob,ok.blt,ok.above,ok.inj,ok.has,ok.cab,ok.hd,ok.frames,ok.stk,ok.exf,ok.bs,ok.bsz,ok.noex,ok.exfs,ok.funs,ok.frf⟩
theorem Cx.Ok.unwish{X:Cx}(ok:(X.wish E).Ok):X.Ok := ⟨ok.mod,ok.kind,ok.glob,ok.blt,ok.above,ok.inj,ok.has,ok.cab,ok.hd,ok.frames,ok.stk,ok.exf,ok.bs,ok.bsz,ok.noex,ok.exfs,ok.funs,ok.frf⟩
section
variable{X:Cx}{pins:List (Addr×Obj)}{σ:St}{H:Hp}{s:Shared}{E:Value->Shared->Prop}
theorem Inv.wish(I:Inv X pins σ H s)(E:Value->Shared->Prop):Inv (X.wish E) pins σ H s:=⟨I.ok.wish E,I.os,I.bare,I.base,I.loc,I.cell,I.free,I.freeC,I.pin,I.hok,I.len⟩
theorem Inv.unwish(I:Inv (X.wish E) pins σ H s):Inv X pins σ H s:=⟨I.ok.unwish,I.os,I.bare,I.base,I.loc,I.cell,I.free,I.freeC,I.pin,I.hok,I.len⟩
theorem SP.unwish(h:SP (X.wish E) pins D f s'):SP X pins D f s' :=by
 cases f with
 |next=>obtain⟨a,b,I,q⟩:=h;exact⟨a,b,I.unwish,q⟩
 |brk=>obtain⟨a,b,I,q⟩:=h;exact⟨a,b,I.unwish,q⟩
 |cont=>obtain⟨a,b,I,q⟩:=h;exact⟨a,b,I.unwish,q⟩
 |ret u=>obtain⟨v,a,b,I,r,q⟩:=h;exact⟨v,a,b,I.unwish,r,q⟩
theorem vk.nox(h:vk X.nox b t):vk X b t:=λa s c H D I d =>
 OC (h a s c H D (I.wish _) d) (λ_ _ q=>q.unwish) λ_ _ z=>False.elim z
end
section
variable{X:Cx}{st:Stmt}{aO:List Stmt}{t u:TS}{e:Expr}{te:TE}{pos:Pos}
def FI:TS:=λD a H=>D.nx a H
def tSeq(t u:TS):TS:=λD a H=>t {D with nx:=u D} a H
theorem g0:vk X [] FI:=λ_ _ a H _ I h=>wpAny_execs_nil ⟨a,H,I,h⟩
theorem am(d:PS X k t)(i:vk X aO u):vk X (k::aO) (tSeq t u):=by
 intro a s c H D I h;refine wpAny_execs_cons (al (d a s c H {D with nx:=u D} I h) λf g q=> ?_);cases f with
 |next =>
  obtain⟨b,l,j,q⟩:=q;exact i a g b l D j q
 |ret v=>exact q|brk=>exact q|cont=>exact q
theorem az(c:PS X st t):vk X [st] t:=by
 intro a s b H D I h;refine wpAny_execs_cons (al (c a s b H D I h) λf d q=> ?_);cases f with
 |next=>exact wpAny_execs_nil q|ret v=>exact q|brk=>exact q|cont=>exact q
def F5:TS:=λD a H=>D.bk a H
def J0:TS:=λD a H=>D.ct a H
theorem DJ:PS X (.Pass pos) FI:=λ_ _ a H _ I h=>wpAny_Pass ⟨a,H,I,h⟩
theorem AU:PS X (.Break pos) F5:=λ_ _ a H _ I h=>wpAny_Break ⟨a,H,I,h⟩
theorem rO:PS X (.Continue pos) J0:=λ_ _ a H _ I h=>wpAny_Continue ⟨a,H,I,h⟩
theorem Inv.quiet(I:Inv X a b H s):interactive X.env=false:=by simp[interactive,I.ok.kind]
def Jx(c:TE):TS:=λD a H=>c a H λ_ b=>D.nx a b
theorem o9(d:PE X e te)(c:swapsWith e none pos.line X.env=pure false:=by rfl):PS X (.Expr e pos) (Jx te):=by intro a s b H D I h;exact wpAny_Expr_any (al (d a s b H _ I h) λv j ⟨x,i,f,k,g⟩=>⟨b,i,f,g⟩) I.quiet c
def tRet(a:TE):TS:=λD b H=>a b H D.rt
theorem jK(c:PE X e te):PS X (.Return (some e) pos) (tRet te):=by intro a s b H D I h;exact wpAny_Return_some (al (c a s b H _ I h) λv j ⟨x,i,d,f,g⟩=>⟨x,b,i,d,f,g⟩)
def Ju:TS:=λD _ H=>D.rt .non H
theorem DI:PS X (.Return none pos) Ju:=λ_ _ a H _ I h=>wpAny_Return_none ⟨.non,a,H,I,rfl,h⟩
def tIfS(c:TT)(t u:TS):TS:=λD a H=>c a H λb d=>if b=true then t D a d else u D a d
theorem rN(o:PT X c n)(p:vk X a t)(q:vk X b u):PS X (.If c a b pos) (tIfS n t u):=by
 intro f s g H D I h;refine wpAny_If (al (o f s g H _ I h) λd j i=> ?_);obtain⟨k,l,m⟩:=i;cases d with
 |true=>exact p f j g k D l m|false=>exact q f j g k D l m
end
noncomputable abbrev TG:=V->St->Hp->(St->Hp->Prop)->Prop
noncomputable abbrev JG:=List V->St->Hp->(St->Hp->Prop)->Prop
def PG(X:Cx)(a:Expr)(t:TG):Prop :=
 ∀(b:List (Addr×Obj))(s:Shared)(d:St)(H:Hp)(v:V)(u:Value)(Q:St->Hp->Prop),Inv X b d H s->RelV v u->t v d H Q -> wpAny (model X.prog X.w) X.A (assign a X.env u) (λ_ s' =>∃c e,Inv X b c e s' /\Q c e) X.xe s
def Lu(X:Cx)(f:List Expr)(t:JG):Prop :=
 ∀(a:List (Addr×Obj))(s:Shared)(c:St)(H:Hp)(vs:List V)(d:List Value)(Q:St->Hp->Prop),Inv X a c H s->aU vs d->t vs c H Q -> wpAny (model X.prog X.w) X.A (assignInOrder ((assignEach f X.env).map (·.2)) d) (λ_ s' =>∃b e,Inv X a b e s' /\Q b e) X.xe s
noncomputable abbrev JF:=V->V->V->Hp->(Hp->Prop)->Prop
def Lr(X:Cx)(t:JF):Prop :=
 ∀(a:List (Addr×Obj))(s:Shared)(c:St)(H:Hp)(o i v:V)(b e u:Value)(Q:Hp->Prop),Inv X a c H s->RelV o b->RelV i e->RelV v u->t o i v H Q -> wpAny (model X.prog X.w) X.A (setItem b e u) (λ_ s' =>∃d,Inv X a c d s' /\Q d) X.xe s
noncomputable abbrev TIp:=V->V->Hp->VK->Prop
def PIp(X:Cx)(op:Operator)(t:TIp):Prop :=
 ∀(a:List (Addr×Obj))(s:Shared)(b:St)(H:Hp)(x y:V)(v u:Value)(Q:VK),Inv X a b H s->RelV x v->RelV y u->t x y H Q -> wpAny (model X.prog X.w) X.A (inplaceOp op v u) (EP X a b Q) X.xe s
section
variable{X:Cx}{pos:Pos}
def sX(i:Nat):TG:=λv a H Q=>Q (a.set i (some v)) H
theorem aw(c:X.N.Nodup)(e:X.N[i]? =some x)(b:Loc X.env.scope x)(d:X.fn x=true\/X.env.scope.names.lookup x=some .local:=by first|exact .inl rfl|exact .inr rfl|assumption):PG X (.Name x pos) (sX i):=by intro a s g H v u Q I r h;exact wpAny_assign_Name (kj I c e b r (λs' f =>⟨_,H,f,h⟩) d)
noncomputable def gNil:JG:=λvs a H Q=>vs=[]/\Q a H
noncomputable def K8(t:TG)(u:JG):JG:=λvs b H Q=>∃v r,vs=v::r/\t v b H λa c =>u r a c Q
theorem hJ:Lu X [] gNil:=by intro a s b H vs c Q I r h;obtain⟨e,h⟩:=h;subst e;cases r;exact assignInOrder_nil ⟨b,H,I,h⟩
theorem cC(l:PG X e t)(o:Lu X es u)
  (f:(assignEach (e::es) X.env).map (·.2)=assign e X.env::(assignEach es X.env).map (·.2):=by rfl):Lu X (e::es) (K8 t u):=by
 intro a s g H vs p Q I r h;obtain⟨v,q,i,h⟩:=h;subst i;cases r with
 |cons r k =>
  rw[f];refine assignInOrder_cons (al (l a s g H _ _ _ I r h) λ_ d c=> ?_);obtain⟨b,j,m,n⟩:=c;exact o a d b j _ _ Q m k n
def gTup(K:W.Frag)(n:Nat)(t:JG):TG:=λv b H Q=>∃a xs,v=.ref a/\bg K H a xs/\xs.length=n/\t xs b H Q
theorem lH(l:X.calm=true)(h:Lu X es t)
  (j:(assignEach es X.env).length=n:=by rfl) (d:(assignEach es X.env).findIdx? (·.1)=none:=by rfl):PG X (.Tuple es k pos) (gTup X.K n t):=by
 intro c s i H v u Q I r f;obtain⟨a,xs,x,m,w,f⟩:=f;subst x;cases r;obtain⟨q,g,z,A⟩:=I.tuple m;refine assign_Tuple_tuple (I.ok.hd l) z (by simp[j,<-w,g.length]) d λh' p=> ?_;have y:Inv X c i H {s with heap:=h'}:=I.kept (t' :=s.toks) λb o e=>p b o (Mz (Mu e)) e;exact h c _ i H xs _ Q y (by simpa using g) f
def gSub(d b:TE)(t:JF):TG:=λv a H Q=>d a H λo e=>b a e λi f=>t o i v f λc=>Q a c
theorem Gi(C:PE X o g)(J:PE X i f)(z:Lr X t)
  (p:∀v,assign (.Subscript o i pos) X.env v=(do
   let c<-holding [v] (eval o X.env)
   let d<-holding [v,c] (eval i X.env)
   standAt pos
   holding [v,c,d] (setItem c d v)
   release [v,c,d] []):=by intro _;rfl):PG X (.Subscript o i pos) (gSub g f t):=by
 intro a s e H v u Q I r h;rw[p];refine MQ (OA (al (C a s e H _ I h) λc q b=> ?_));obtain⟨x,B,E,F,G⟩:=b;refine MQ (OA (al (J a q e B _ E G) λd j b=> ?_));obtain⟨y,m,l,D,w⟩:=b;refine MQ (wpAny_standAt (MQ (OA (al (z a j e m x y v c d u _ l F D r w) λ_ K b=> ?_))));obtain⟨A,k,n⟩:=b;exact wpAny_release ⟨e,A,k,n⟩
def F6(c:TE)(g:TG):TS:=λD a H=>c a H λx b=>g x a b D.nx
theorem GY(d:PE X e b)(p:PG X tg g)(i:swapsWithSole [tg] e pos.line X.env=pure false:=by rfl)(k:swappedStores [tg] e X.env=pure none:=by rfl)
  (l:(assignEach [tg] X.env).map (·.2)=[assign tg X.env]:=by rfl):PS X (.Assign [tg] e pos) (F6 b g):=by
 intro a s c H D I h;refine wpAny_Assign_stores (al (d a s c H _ I h) λv f ⟨x,j,m,n,o⟩=> ?_) i k;rw[l];exact al (p a f c j x v _ m n o) λ_ r q=>q
theorem dv(m:X.N.Nodup)(q:X.N[i]? =some x)(g:Loc X.env.scope x)(f:PE X e c)(j:swapsWith e (some (.Name x a)) pos.line X.env=pure false:=by rfl)(p:X.fn x=true\/X.env.scope.names.lookup x=some .local:=by first|exact .inl rfl|exact .inr rfl|assumption) :
  PS X (.Assign [.Name x a] e pos) (F6 c (sX i)):=by
 intro b s k H D I h;refine wpAny_Assign_Name (al (f b s k H _ I h) λv u ⟨y,l,n,o,r⟩=> ?_) j;exact kj n m q g o (λt d=>⟨_,l,d,r⟩) p
def tAug(i:Nat)(d:TE)(b:TIp):TS:=λD a H=>∃x,a[i]? =some (some x)/\d a H λy c=>b x y c λz e=>D.nx (a.set i (some z)) e
theorem GX(W:X.N.Nodup)(C:X.N[i]? =some x)(o:Loc X.env.scope x)(M:PE X e q)(T:PIp X op t)(hf:X.fn x=true\/X.env.scope.names.lookup x=some .local:=by first|exact .inl rfl|exact .inr rfl|assumption) :
  PS X (.AugAssign (.Name x j) op e pos) (tAug i q t):=by
 intro a s B H D I h;obtain⟨v,R,h⟩:=h;obtain⟨m,F,P⟩:=I.loc;have U:JW X.env.scope x:=by rcases o with k|k;exact .inl k;exact .inr (.inl k)
 obtain⟨u,r,l⟩:=P i x v C R U;refine wpAny_AugAssign_Name ?_;have p:wpAny (model X.prog X.w) X.A (eval e X.env) (λw g=>wpAny (model X.prog X.w) X.A (inplaceOp op u w) (λr n=>wpAny (model X.prog X.w) X.A (storeName X.env x r) (λ_=>SP X a D .next) X.xe n) X.xe g) X.xe s:=by
  refine al (M a s B H _ I h) λw O f=> ?_;obtain⟨y,S,Y,Z,q1⟩:=f;refine al (T a O B S v y u w _ Y r Z q1) λz s2 f=> ?_;obtain⟨zv,L,K,V,Q⟩:=f;exact kj K W C o V (λs3 G=>⟨_,L,G,Q⟩) hf
 rcases l with⟨b,E⟩|⟨b,c,J,d⟩
 ·exact wpAny_loadName_local I.ok.kind b F E p
 ·rcases b with b|b
  ·exact wpAny_loadName_cell I.ok.kind b J d p
  ·rcases o with k|k
   ·have:X.env.scope.names.lookup x=some .free:=b
    rw[k]at this;cases this
   ·have:X.env.scope.names.lookup x=some .free:=b
    rw[k]at this;cases this
noncomputable def ipI(f:Int->Int->Int):TIp:=λx y H Q=>∃i j,x=.int i/\y=.int j/\Q (.int (f i j)) H
theorem Hd:PIp X .Add (ipI λi j=>i+j):=by intro a s f H x y v u Q I e d h;obtain⟨i,j,c,b,q⟩:=h;subst c;subst b;obtain⟨t,rfl⟩:=e;obtain⟨t',rfl⟩:=d;exact iadd_int ⟨.int _,H,I.tok _,⟨_,rfl⟩,q⟩
theorem Hc:PIp X .Sub (ipI λi j=>i-j):=by intro a s f H x y v u Q I e d h;obtain⟨i,j,c,b,q⟩:=h;subst c;subst b;obtain⟨t,rfl⟩:=e;obtain⟨t',rfl⟩:=d;exact isub_int ⟨.int _,H,I.tok _,⟨_,rfl⟩,q⟩
def F1(c:TT)(h:TS):TS:=λD a H=>∃W:Nat->St->Hp->Prop,(∃m,W m a H)/\∀m a H,W m a H -> c a H λb f=>if b=true then∃N:St->Hp->Prop,(∀d e,N d e ->∃g,g <m/\W g d e)/\h {D with nx:=N,ct:=N,bk:=D.nx} a f else D.nx a f
theorem rL(z:PassesOwn (model X.prog X.w) X.A X.env X.xe)(J:PT X c F)(P:vk X body y):PS X (.While c body [] pos) (F1 F y):=by
 intro d s O H D I h;obtain⟨W,⟨R,M⟩,g⟩:=h;refine wpAny_While (codeAny_whileLoop (λn s' =>∃j E,Inv X d j E s' /\W n j E) ?_ R ⟨O,H,I,M⟩);rintro n L ⟨e,B,Q,K⟩;refine Oz z (al (J d L e B _ Q (g n e B K)) λb G t=> ?_);obtain⟨x,u,l⟩:=t;cases b with
 |true =>
  obtain⟨N,C,l⟩:=l;rw[MX rfl];refine Oz z (al (P d G e x _ u l) λf S k=> ?_);cases f with
  |next =>
   obtain⟨a,i,p,m⟩:=k;obtain⟨r,o,q⟩:=C a i m;exact⟨r,o,a,i,p,q⟩
  |cont =>
   obtain⟨a,i,p,m⟩:=k;obtain⟨r,o,q⟩:=C a i m;exact⟨r,o,a,i,p,q⟩
  |brk=>exact k|ret v=>exact k
 |false =>
  rw[MV Mc];exact wpAny_execs_nil ⟨e,x,u,l⟩
end
structure It where
 go:Nat->Hp->Prop
 yld:Nat->Hp->V->Hp->Prop
 stop:Nat->Hp->Prop
def jm(X:Cx)(a:List (Addr×Obj))(H:Hp)(b:Addr):Prop :=
 H b=none/\b≠X.env.locals/\b∉X.fs/\(b∈X.ex\/X.s₀.heap.objs.size<=b)/\(∀x c,X.env.cells.lookup x=some c->c≠b)/\∀p∈X.pn++a,p.1≠b
theorem Inv.fpOk(I:Inv X a g H s)(d:s.heap.objs.size<=b)(i:f b=none):jm X a f b:=by
 refine⟨i,N1 (NM I.lt d),I.nofs d,.inr (M8 I.sz d),λx c e z=> ?_,λp h z=> ?_⟩
 ·obtain⟨v,q⟩:=I.cell x c e
  exact absurd (NM q.lt (by rw[z];exact d)) (Om _)
 ·exact absurd (NM (Mu (I.pin p h).1) (by rw[z];exact d)) (Om _)
structure nJ(P:Program)(w:World)(K:W.Frag)(tg:Expr)(J:It)(fp:List Addr)(it:Addr)(tn:Nat->Heap->Prop):Prop where
 mem:it∈fp
 obj:∀i h,tn i h->∀b∈fp,∃o,h.get? b=some o/\∀v,o.data≠.cell v
 keep:∀i h h',tn i h->(∀b∈fp,∀o,h.get? b=some o->h'.get? b=some o)->tn i h'
 item:∀(X:Cx),X.prog=P->X.w=w->X.K=K->X.calm=true->∀(i:Nat)(pins:List (Addr×Obj))(s:Shared)(σ:St)(H:Hp)(E:Value->Shared->Prop),Inv X pins σ H s->(∀b∈fp,jm X pins H b)->tn i s.heap->J.go i H ->
  wpAny (model P w) X.A (pyNext (.ref it)) (λr s1=>∃u,r=some u /\
   wpAny (model P w) X.A (letOwnedTupleGo tg (.ref it) u) (λ_ s2=>∃x H',Inv X pins σ H' s2/\RelV x u/\J.yld i H x H' /\tn (i+1) s2.heap/\∀b∈fp,H' b=none) E s1) E s
 done:∀(X:Cx),X.prog=P->X.w=w->X.K=K->X.calm=true->∀(i:Nat)(pins:List (Addr×Obj))(s:Shared)(σ:St)(H:Hp)(E:Value->Shared->Prop),Inv X pins σ H s->(∀b∈fp,jm X pins H b)->tn i s.heap->J.stop i H ->
  wpAny (model P w) X.A (pyNext (.ref it)) (λr s1=>r=none/\Inv X pins σ H s1) E s
 self:∀(A:Around)(i:Nat)(s:Shared)(Q:Value->Shared->Prop)(E:Value->Shared->Prop),tn i s.heap->Q (.ref it) s->wpAny (model P w) A (pyIter (.ref it)) Q E s
noncomputable abbrev TI:=St->Hp->(It->Hp->Prop)->Prop
def PIE(X:Cx)(a:List (Addr×Obj))(h:St)(tg:Expr)(R:It->Hp->Prop)(c:Value)(f:Shared):Prop :=
 ∃(it:Addr)(g:List Addr)(e:Nat->Heap->Prop)(J:It)(d :Hp),c=.ref it/\Inv X a h d f/\nJ X.prog X.w X.K tg J g it e/\e 0 f.heap/\(∀b∈g,jm X a d b)/\R J d
def PI(X:Cx)(tg b:Expr)(e:TI):Prop :=
 ∀(a:List (Addr×Obj))(s:Shared)(c:St)(H:Hp)(R:It->Hp->Prop),Inv X a c H s->e c H R -> wpAny (model X.prog X.w) X.A (eval b X.env) (λv d=>wpAny (model X.prog X.w) X.A (pyIter v) (PIE X a c tg R) X.xe d) X.xe s
theorem nz(ho:s.heap.get? it=some o)(hc:o.cls=.type n)(hd:o.data=.fields vs)
    (hn:["enumerate","zip","dict_itemiterator","dict_reverseitemiterator","odict_iterator","itertools.zip_longest","itertools.pairwise"].contains n=false) (hQ:Q () s):wpAny M A (letOwnedTupleGo tg (.ref it) u) Q E s:=by
  unfold letOwnedTupleGo
  cases tg<;>first
    | exact MU hQ
    | (cases u<;>first
        | exact MU hQ
        | (refine MQ (wpAny_load ho ?_)
           rw[hc,hd];show wpAny M A (if(["enumerate","zip","dict_itemiterator","dict_reverseitemiterator","odict_iterator","itertools.zip_longest","itertools.pairwise"].contains n&&vs[0]? ==some (rawInt _))=true then _ else _) Q E s;rw[MV (by intro h;rw[hn,P4]at h;cases h)];exact MU hQ))
noncomputable def JO(K:W.Frag)(a:Addr):It :=
 ⟨λi H=>∃xs x,bR K H a xs/\xs[i]? =some x,λi H x b =>b =H/\∀xs,bR K H a xs->xs[i]? =some x,λi H=>∃xs,bR K H a xs/\xs.length<=i⟩
noncomputable def JN(K:W.Frag)(a:Addr):It :=
 ⟨λi H=>∃xs x,bg K H a xs/\xs[i]? =some x,λi H x b =>b =H/\∀xs,bg K H a xs->xs[i]? =some x,λi H=>∃xs,bg K H a xs/\xs.length<=i⟩
noncomputable def Fa(lo:Int)(n:Nat):It:=⟨λi _=>i<n,λi H x a =>a =H/\x=.int (lo+i),λi _=>n<=i⟩
theorem xo{P:Program}{w:World}{K:W.Frag}{tg:Expr}(a it:Addr):nJ P w K tg (JO K a) [it] it (λi h=>h.IsListIter it a i) where
 mem:=by simp
 obj:=λi h f b j=>by
  have e:b=it:=by simpa using j
  subst e;obtain⟨o,e,c,d⟩:=f;exact⟨o,e,λv z=>by rw[d]at z;cases z⟩
 keep:=λi h h' f k=>f.at λo e=>k it (by simp) o e
 item:=by
  intro X C G B M i g s N H E I n f L;subst C G B;obtain⟨xs,x,m,r⟩:=L;obtain⟨y,t,p,T⟩:=I.list m;obtain⟨u,O,V⟩:=t.get r;obtain⟨D,J,R,F,A,q⟩:=n it (by simp);refine wpAny_pyNext_list_item f p.isList (x:=u) (by simpa using O) λh' l Q=> ?_;have U:Inv X g N H {s with heap:=h'}:=I.turned (t' :=s.toks) (λb o j e=>(Q.2 b j).trans e) D J F A q;obtain⟨o,e,c,d⟩:=id l;exact⟨u,rfl,nz (s:={s with heap:=h'}) e c d (by decide) ⟨x,H,U,V,⟨rfl,λys S=>by rw[I.list_inj S m];exact r⟩,l,λb j=>(n b j).1⟩⟩
 done:=by
  intro X C G B M i g s N H E I n f L;subst C G B;obtain⟨xs,m,r⟩:=L;obtain⟨y,t,p,T⟩:=I.list m;obtain⟨D,J,R,F,A,q⟩:=n it (by simp);have Z:=t.length;exact wpAny_pyNext_list_end (I.ok.hd M) f p.isList (by simp;omega) λh' Y=>⟨rfl,I.turned (t' :=s.toks) (λb o j e=>Y b o j e) D J F A q⟩
 self:=λ_ _ _ _ _ f h=>wpAny_pyIter_listiter f h
theorem tu{P:Program}{w:World}{K:W.Frag}{tg:Expr}(a it:Addr):nJ P w K tg (JN K a) [it] it (λi h=>h.IsTupleIter it a i) where
 mem:=by simp
 obj:=λi h f b l=>by
  have e:b=it:=by simpa using l
  subst e;obtain⟨o,e,c,d⟩:=f;exact⟨o,e,λv z=>by rw[d]at z;cases z⟩
 keep:=λi h h' f k=>f.at λo e=>k it (by simp) o e
 item:=by
  intro X C G B M i g s N H E I q f L;subst C G B;obtain⟨xs,x,n,t⟩:=L;obtain⟨j,y,p,T⟩:=I.tuple n;obtain⟨u,O,V⟩:=y.get t;obtain⟨D,J,R,F,A,r⟩:=q it (by simp);refine wpAny_pyNext_tuple_item f (show s.heap.IsTuple a j.toArray from p) (x:=u) (by simpa using O) λh' m Q=> ?_;have U:Inv X g N H {s with heap:=h'}:=I.turned (t' :=s.toks) (λb o l e=>(Q.2 b l).trans e) D J F A r;obtain⟨o,e,c,d⟩:=id m;exact⟨u,rfl,nz (s:={s with heap:=h'}) e c d (by decide) ⟨x,H,U,V,⟨rfl,λys S=>by rw[I.tuple_inj S n];exact t⟩,m,λb l=>(q b l).1⟩⟩
 done:=by
  intro X C G B M i g s N H E I q f L;subst C G B;obtain⟨xs,n,t⟩:=L;obtain⟨j,y,p,T⟩:=I.tuple n;obtain⟨D,J,R,F,A,r⟩:=q it (by simp);have Z:=y.length;exact wpAny_pyNext_tuple_end (I.ok.hd M) f (show s.heap.IsTuple a j.toArray from p) (by simp;omega) λh' Y=>⟨rfl,I.turned (t' :=s.toks) (λb o l e=>Y b o l e) D J F A r⟩
 self:=λ_ _ _ _ _ f h=>wpAny_pyIter_tupleiter f h
theorem tw{P:Program}{w:World}{K:PySem.W.Frag}{tg:Expr}(it:Addr)(lo:Int)(n:Nat):nJ P w K tg (Fa lo n) [it] it (λi h=>IsRangeIter h it (lo+(i:Nat)*1) ((n:Int)-(i:Nat)) 1) where
 mem:=by simp
 obj:=λi h a b d=>by
  have e:b=it:=by simpa using d
  subst e;exact⟨_,a,λv z=>by
   have M :Data.fields _=Data.cell v:=z;cases M⟩
 keep:=λi h h' a k=>k it (by simp) _ a
 item:=by
  intro X q x p j i c s C H E I g a A;subst q x p;obtain⟨r,y,D,u,m,l⟩:=g it (by simp);have W:=Walks.range (prog:=X.prog) (w:=X.w) (I.ok.hd j) it lo 1 n;refine W.item i s _ _ A a λv h' B F f J=> ?_;obtain⟨t,rfl⟩:=F;have G:Inv X c C H {s with heap:=h',toks:=B}:=I.turned (λb o d e=>J b o (by simpa using d) e) r y u m l;refine⟨_,rfl,nz (s:={s with heap:=h',toks:=B}) (n:="range_iterator") f rfl rfl (by decide) ⟨.int (lo+i),H,G,⟨t,?_⟩,⟨rfl,rfl⟩,f,λb d=>(g b d).1⟩⟩;rw[Int.mul_one]
 done:=by
  intro X q x p j i c s C H E I g a A;subst q x p;obtain⟨r,y,D,u,m,l⟩:=g it (by simp);exact wpAny_pyNext_range_end (I.ok.hd j) a (by have:n<=i:=A;omega) λh' L=>⟨rfl,I.turned (t' :=s.toks) (λb o d e=>L b o d e) r y u m l⟩
 self:=λ_ _ _ _ _ a h=>wpAny_pyIter_rangeiter a h
section
variable{X:Cx}{tg:Expr}
def K3(K:W.Frag)(d:TE):TI:=λc H R=>d c H λx b=>∃a,x=.ref a/\(∃xs,bR K b a xs)/\R (JO K a) b
def iTup(K:W.Frag)(d:TE):TI:=λc H R=>d c H λx b=>∃a,x=.ref a/\(∃xs,bg K b a xs)/\R (JN K a) b
theorem fi(m:PE X l i):PI X tg l (K3 X.K i):=by
 intro c s n H R I h;refine al (m c s n H _ I h) λv d g=> ?_;obtain⟨x,t,f,u,w⟩:=g;obtain⟨a,e,⟨xs,j⟩,q⟩:=w;subst e;cases u;obtain⟨k,y,p,z⟩:=f.list j;refine QD p.isList ?_;refine⟨d.heap.objs.size,[d.heap.objs.size],_,_,t,rfl,f.kept (t' :=d.toks) λb o e=>MW _ e,xo a _,⟨_,Mr _ rfl,rfl,rfl⟩,λb r=> ?_,q⟩;have e:b=d.heap.objs.size:=by simpa using r
 subst e;exact f.fpOk (Md _) (f.hok.fresh (Md _))
theorem uZ(m:PE X l j):PI X tg l (iTup X.K j):=by
 intro c s n H R I h;refine al (m c s n H _ I h) λv d i=> ?_;obtain⟨x,t,f,u,w⟩:=i;obtain⟨a,e,⟨xs,k⟩,q⟩:=w;subst e;cases u;obtain⟨g,y,p,z⟩:=f.tuple k;refine QB (show d.heap.IsTuple a g.toArray from p) ?_;refine⟨d.heap.objs.size,[d.heap.objs.size],_,_,t,rfl,f.kept (t' :=d.toks) λb o e=>MW _ e,tu a _,⟨_,Mr _ rfl,rfl,rfl⟩,λb r=> ?_,q⟩;have e:b=d.heap.objs.size:=by simpa using r
 subst e;exact f.fpOk (Md _) (f.hok.fresh (Md _))
theorem rG{s:Shared}{lo a:Int}{d:Nat}(I:Inv X c f H s)(l: -(2^62)<=lo)(n:lo<2^62)(h: -(2^62)<=a)(m:a<2^62)
  (q:R (Fa lo (a-lo).toNat) H):wpAny (model X.prog X.w) X.A (pyIter (.ref s.heap.objs.size)) (PIE X c f tg R) E {s with heap:=s.heap.push {cls:=.type "range",data:=.fields #[.int lo t,.int a u,.int 1 v]},toks:=d}:=by
 refine wpAny_pyIter_range (IsRange.new ..) (small_one l n h m) ?_;have g:Inv X c f H {s with heap:=s.heap.push {cls:=.type "range",data:=.fields #[.int lo t,.int a u,.int 1 v]},toks:=d}:=I.kept λb o e=>MW _ e
 refine⟨(s.heap.push {cls:=.type "range",data:=.fields #[.int lo t,.int a u,.int 1 v]}).objs.size,[(s.heap.push {cls:=.type "range",data:=.fields #[.int lo t,.int a u,.int 1 v]}).objs.size],_,_,H,rfl,g.kept (t' :=d) λb o e=>MW _ e,tw _ lo (a-lo).toNat,?_,λb k=> ?_,q⟩
 ·have j:lo+((0:Nat):Int)*1=lo:=by simp
  have i:(((a-lo).toNat:Nat):Int)-((0:Nat):Int)=Builtin.Range.rangeSize lo a 1:=by rw[rangeSize_one];split<;>omega
  show IsRangeIter _ _ (lo+((0:Nat):Int)*1) ((((a-lo).toNat:Nat):Int)-((0:Nat):Int)) 1;rw[j,i];exact Mr _ rfl
 ·have e:b=(s.heap.push {cls:=.type "range",data:=.fields #[.int lo t,.int a u,.int 1 v]}).objs.size:=by simpa using k
  subst e;exact g.fpOk (Md _) (g.hok.fresh (Md _))
def Kz(b:TA):TI:=λa H R=>b a H λvs c=>∃j:Int,vs=[.int j]/\ -(2^62)<=j/\j<2^62/\R (Fa 0 j.toNat) c
def Ky(b:TA):TI:=λa H R=>b a H λvs c=>∃i j:Int,vs=[.int i,.int j]/\(-(2^62)<=i/\i<2^62/\ -(2^62)<=j/\j<2^62)/\R (Fa i (j-i).toNat) c
theorem jM(u:Gl X "range")(f:X.mg "range"=none)(g:PA X [a] d)(k:starEach [a] X.env=[(false,eval a X.env)]:=by rfl):PI X tg (.Call (.Name "range" p) [a] [] pos) (Kz d):=by
 intro b s l H R I h;refine Call_ (dE I u f boot_range (NY (al (g pos b s l H _ I h) λx v ⟨vs,w,n,o,c⟩=> ?_) k rfl));obtain⟨j,e,c,i,q⟩:=c;subst e;cases o with
 |cons r m =>
  cases m;obtain⟨t,rfl⟩:=r;exact call_range_1 (rG n (by omega) (by omega) c i (by simpa using q))
theorem yI(A:Gl X "range")(l:X.mg "range"=none)(o:PA X [a,b] k)(v:starEach [a,b] X.env=[(false,eval a X.env),(false,eval b X.env)]:=by rfl)(d:starEach [b] X.env=[(false,eval b X.env)]:=by rfl) :
  PI X tg (.Call (.Name "range" p) [a,b] [] pos) (Ky k):=by
 intro c s w H R I h;refine Call_ (dE I A l boot_range (NY (al (o pos c s w H _ I h) λD B ⟨vs,C,x,y,g⟩=> ?_) (by rw[v,d]) (by rw[d];rfl)));obtain⟨i,j,e,⟨g,u,n,z⟩,q⟩:=g;subst e;cases y with
 |cons r f =>
  cases f with
  |cons m f =>
   cases f;obtain⟨t,rfl⟩:=r;obtain⟨t',rfl⟩:=m;exact call_range_2 (rG x g u n z q)
def tFor(h:TI)(g:TG)(f:TS):TS:=λD a H=>h a H λJ j=>∃W:Nat->Nat->St->Hp->Prop,(∃m,W 0 m a j)/\∀i m a H,W i m a H -> (J.stop i H/\D.nx a H)\/(J.go i H/\∃N:St->Hp->Prop,(∀b c,N b c ->∃e,e <m/\W (i+1) e b c)/\∀x c,J.yld i H x c ->g x a c λd k=>f {D with nx:=N,ct:=N,bk:=D.nx} d k)
noncomputable def lE(a:List Addr)(h:Heap):List (Addr×Obj):=a.filterMap λb=>(h.get? b).map λo=>(b,o)
theorem eR(c:b∈a)(e:h.get? b=some o):(b,o)∈lE a h:=List.mem_filterMap.mpr ⟨b,c,by rw[e];rfl⟩
theorem yK(c:p∈lE a h):p.1∈a/\h.get? p.1=some p.2:=by
 obtain⟨b,d,e⟩:=List.mem_filterMap.mp c;cases q:h.get? b with
 |none=>rw[q]at e;cases e|some o =>
  rw[q]at e;have f :(b,o)=p:=Mv e;subst f;exact⟨d,q⟩
theorem Inv.pinned(I:Inv X a f H s)(m:∀b∈c,jm X a H b)(l:∀b∈c,∃o,s.heap.get? b=some o/\∀v,o.data≠.cell v):Inv X (a++lE c s.heap) f H s :=
 I.pins_of λp k=>(M7.mp k).elim (λz=>I.pin p (NE _ z)) λz=>by
  obtain⟨g,e⟩:=yK z;obtain⟨j,n,i,_⟩:=m p.1 g;obtain⟨o,h,d⟩:=l p.1 g;rw[e]at h;cases h;exact⟨e,j,n,i,d⟩
theorem Inv.unpinned(I:Inv X (a++d) b H s):Inv X a b H s:=I.pins_of λp c=>I.pin p (NE _ (M9 _ c))
theorem dw(O:PassesOwn (model X.prog X.w) X.A X.env X.xe)(hc:X.calm=true)(hi:PI X tg B wi)(hg:PG X tg g)(q:vk X body tb)
  (hs:∀x,foldedSetIterable B X.env x=pure x:=by intro _;rfl):PS X (.For tg B body [] pos) (tFor wi g tb):=by
 intro c s σ H D I h;refine wpAny_For (al (hi c s σ H _ I h) λv s1 h1=>al h1 λa1 s2 h2=> ?_) hs;obtain⟨it,G,tn,J,H2,e,I2,T,Y,f2,W,⟨m0,w0⟩,R⟩:=h2;subst e;have k:∀{C :Hp},(∀b∈G,C b=none)->∀b∈G,jm X c C b:=λhn b q=>⟨hn b q,(f2 b q).2⟩;refine codeAny_forLoop_any (λn s' =>∃i t C,Inv X c t C s' /\tn i s'.heap/\(∀b∈G,C b=none)/\W i n t C) ?_ m0 ⟨0,σ,H2,I2,Y,λb q=>(f2 b q).1,w0⟩;rintro n s3 ⟨i,y,S,I3,P,K,w3⟩
 rcases R i n y S w3 with⟨M,qn⟩|⟨go,N,hN,Q⟩
 ·refine Oz O (al (T.done X rfl rfl rfl hc i c s3 y S X.xe I3 (k K) P M) λr s4 j=> ?_)
  obtain⟨Z,I4⟩:=j;subst Z;exact wpAny_execs_nil ⟨y,S,I4,qn⟩
 ·refine Oz O (al (T.item X rfl rfl rfl hc i c s3 y S X.xe I3 (k K) P go) λr s4 j=> ?_)
  obtain⟨u,Z,h4⟩:=j;subst Z;refine Oz O (al h4 λ_ s5 j=> ?_);obtain⟨x,H5,I5,r5,y5,F,a0⟩:=j;have U :=I5.pinned (k a0) (T.obj _ _ F);refine Oz O (al (hg _ s5 y H5 x u _ U r5 (Q x H5 y5)) λ_ s6 j=> ?_);obtain⟨V,H6,I6,q6⟩:=j;refine Oz O (al (q _ s6 V H6 _ I6 q6) λf s7 E=> ?_);have l:∀{a:St}{z:Hp},Inv X (c++lE G s5.heap) a z s7->N a z->∃m,m<n/\∃i t C,Inv X c t C s7/\tn i s7.heap/\(∀b∈G,C b=none)/\W i m t C :=fun{a z} p L=>by
   obtain⟨m',hm,w7⟩:=hN a z L;refine⟨m',hm,i+1,a,z,p.unpinned,T.keep _ _ _ F λb q o e=>(p.pin (b,o) (NE _ (NE _ (eR q e)))).1,λb q=> ?_,w7⟩;obtain⟨o,e,d⟩:=T.obj _ _ F b q;exact(p.pin (b,o) (NE _ (NE _ (eR q e)))).2.1
  cases f with
  |next=>obtain⟨a,z,p,L⟩:=E;exact l p L
  |cont=>obtain⟨a,z,p,L⟩:=E;exact l p L
  |brk=>obtain⟨a,z,p,E⟩:=E;exact⟨a,z,p.unpinned,E⟩
  |ret v=>obtain⟨x7,a,z,p,r7,E⟩:=E;exact⟨x7,a,z,p.unpinned,r7,E⟩
end
theorem sd{K:PySem.W.Frag}{a:Addr}{xs:List V}{g:TG}{l:TS}{D:ci}{b:St}{H:Hp}(c:Nat->St->Hp->Prop)(h0:c 0 b H)(s:∀i b H,i<=xs.length->c i b H->bR K H a xs)
  (t:∀i x b H,xs[i]? =some x->c i b H->g x b H λd k=>l {D with nx:=c (i+1),ct:=c (i+1),bk:=D.nx} d k) (o:∀b H,c xs.length b H->D.nx b H) :
  ∃W:Nat->Nat->St->Hp->Prop,(∃m,W 0 m b H)/\∀i m b H,W i m b H -> ((JO K a).stop i H/\D.nx b H)\/((JO K a).go i H/\∃N:St->Hp->Prop,(∀f h,N f h ->∃n,n <m/\W (i+1) n f h)/\∀x h,(JO K a).yld i H x h ->g x b h λd k=>l {D with nx:=N,ct:=N,bk:=D.nx} d k):=by
 refine⟨λi m b H=>m=xs.length-i/\i<=xs.length/\c i b H,⟨xs.length,by simp,NH _,h0⟩,?_⟩;rintro i m b H ⟨rfl,u,p⟩;have q:=s i b H u p
 by_cases j:i<xs.length
 ·refine .inr ⟨⟨xs,xs[i],q,by simp[j]⟩,c (i+1),λf h r =>⟨xs.length-(i+1),by omega,rfl,j,r⟩,λx h y=> ?_⟩
  obtain⟨e,y⟩:=y;subst e;exact t i x b _ (y xs q) p
 ·have e:i=xs.length:=by omega
  subst e;exact .inl ⟨⟨xs,q,Md _⟩,o b H p⟩
theorem D9{K:PySem.W.Frag}{a:Addr}{xs:List V}{g:TG}{l:TS}{D:ci}{b:St}{H:Hp}(c:Nat->St->Hp->Prop)(h0:c 0 b H)(s:∀i b H,i<=xs.length->c i b H->bg K H a xs)
  (t:∀i x b H,xs[i]? =some x->c i b H->g x b H λd k=>l {D with nx:=c (i+1),ct:=c (i+1),bk:=D.nx} d k) (o:∀b H,c xs.length b H->D.nx b H) :
  ∃W:Nat->Nat->St->Hp->Prop,(∃m,W 0 m b H)/\∀i m b H,W i m b H -> ((JN K a).stop i H/\D.nx b H)\/((JN K a).go i H/\∃N:St->Hp->Prop,(∀f h,N f h ->∃n,n <m/\W (i+1) n f h)/\∀x h,(JN K a).yld i H x h ->g x b h λd k=>l {D with nx:=N,ct:=N,bk:=D.nx} d k):=by
 refine⟨λi m b H=>m=xs.length-i/\i<=xs.length/\c i b H,⟨xs.length,by simp,NH _,h0⟩,?_⟩;rintro i m b H ⟨rfl,u,p⟩;have q:=s i b H u p
 by_cases j:i<xs.length
 ·refine .inr ⟨⟨xs,xs[i],q,by simp[j]⟩,c (i+1),λf h r =>⟨xs.length-(i+1),by omega,rfl,j,r⟩,λx h y=> ?_⟩
  obtain⟨e,y⟩:=y;subst e;exact t i x b _ (y xs q) p
 ·have e:i=xs.length:=by omega
  subst e;exact .inl ⟨⟨xs,q,Md _⟩,o b H p⟩
theorem n8{lo:Int}{n:Nat}{g:TG}{k:TS}{D:ci}{a:St}{H:Hp}(b:Nat->St->Hp->Prop)(h0:b 0 a H)
  (r:∀i a H,i<n->b i a H->g (.int (lo+i)) a H λd j=>k {D with nx:=b (i+1),ct:=b (i+1),bk:=D.nx} d j) (o:∀a H,b n a H->D.nx a H) :
  ∃W:Nat->Nat->St->Hp->Prop,(∃m,W 0 m a H)/\∀i m a H,W i m a H -> ((Fa lo n).stop i H/\D.nx a H)\/((Fa lo n).go i H/\∃N:St->Hp->Prop,(∀f h,N f h ->∃l,l <m/\W (i+1) l f h)/\∀x h,(Fa lo n).yld i H x h ->g x a h λd j=>k {D with nx:=N,ct:=N,bk:=D.nx} d j):=by
 refine⟨λi m a H=>m=n-i/\i<=n/\b i a H,⟨n,by simp,NH _,h0⟩,?_⟩;rintro i m a H ⟨rfl,s,p⟩
 by_cases c:i<n
 ·refine .inr ⟨c,b (i+1),λf h q =>⟨n-(i+1),by omega,rfl,c,q⟩,λx h y=> ?_⟩
  obtain⟨e,y⟩:=y;subst e y;exact r i a _ c p
 ·have e:i=n:=by omega
  subst e;exact .inl ⟨Md _,o a H p⟩
noncomputable abbrev R2:=V->V->Hp->VK->Prop
def dk(X:Cx)(f:Value->Value->Sem Value)(r:R2):Prop :=
 ∀(a:List (Addr×Obj))(s:Shared)(b:St)(H:Hp)(x y:V)(v u:Value)(Q:VK),Inv X a b H s->RelV x v->RelV y u->r x y H Q -> wpAny (model X.prog X.w) X.A (f v u) (EP X a b Q) X.xe s
def UnR(X:Cx)(f:Value->Sem Value)(r:V->Hp->VK->Prop):Prop :=
 ∀(a:List (Addr×Obj))(s:Shared)(b:St)(H:Hp)(x:V)(v:Value)(Q:VK),Inv X a b H s->RelV x v->r x H Q -> wpAny (model X.prog X.w) X.A (f v) (EP X a b Q) X.xe s
def bV(X:Cx)(f:Value)(r:List V->Hp->VK->Prop):Prop :=
 ∀(a:List (Addr×Obj))(s:Shared)(b:St)(H:Hp)(xs:List V)(c:List Value)(Q:VK),Inv X a b H s->aU xs c->r xs H Q -> wpAny (model X.prog X.w) X.A (call f c) (EP X a b Q) X.xe s
def TruR(X:Cx)(r:V->Hp->(Bool->Hp->Prop)->Prop):Prop :=
 ∀(a:List (Addr×Obj))(s:Shared)(b:St)(H:Hp)(x:V)(v:Value)(Q:Bool->Hp->Prop),Inv X a b H s->RelV x v->r x H Q -> wpAny (model X.prog X.w) X.A (truthy v) (TP X a b Q) X.xe s
def tOp(r:R2)(b c:TE):TE:=λa H Q=>b a H λx d=>c a d λy e=>r x y e Q
def tUn(r:V->Hp->VK->Prop)(b:TE):TE:=λa H Q=>b a H λx c=>r x c Q
def rI(C:Int->Int->Prop)(g:Int->Int->V):R2:=λx y H Q=>∃i j,x=.int i/\y=.int j/\C i j/\Q (g i j) H
def AK(g:Int->Int->V):R2:=λx y H Q=>∃i j,x=.int i/\y=.int j/\Q (g i j) H
noncomputable def rU(g:Int->V):V->Hp->VK->Prop:=λx H Q=>∃i,x=.int i/\Q (g i) H
section
variable{X:Cx}{a b c:Expr}{ta tb tc:TE}{pos:Pos}
theorem Ir(o:PE X a ta)(r:PE X b tb){d:List (Addr×Obj)}{s:Shared}{i:St}{H:Hp}{R:V->V->Hp->Prop}(I:Inv X d i H s)
  (h:ta i H λx m=>tb i m λy g=>R x y g) {Q:Value->Shared->Prop} {f:Value->Value->Sem Value}
  (C:∀v u l x y g,Inv X d i g l->RelV x v->RelV y u->R x y g->wpAny (model X.prog X.w) X.A (f v u) Q X.xe l) :
  wpAny (model X.prog X.w) X.A (eval a X.env) (λv k=>wpAny (model X.prog X.w) X.A (eval b X.env) (λu j=>wpAny (model X.prog X.w) X.A (f v u) Q X.xe j) X.xe k) X.xe s:=by
 refine al (o d s i H _ I h) λv p e=> ?_;obtain⟨x,m,z,B,D⟩:=e;refine al (r d p i m _ z D) λu l e=> ?_;obtain⟨y,g,n,t,q⟩:=e;exact C v u l x y g n B t q
theorem fI(n:dk X (binaryOp op) r)(j:PE X a ta)(m:PE X b tb):PE X (.BinOp a op b pos) (tOp r ta tb):=by intro d s k H Q I h;exact wpAny_BinOp (Ir j m I h λv u e x y i g l f q=>n d e k i x y v u Q g l f q)
theorem FN(m:UnR X (unaryOp op) r)(f:PE X a ta):PE X (.UnaryOp op a pos) (tUn r ta):=by intro d s e H Q I h;exact UnaryOp_ (al (f d s e H _ I h) λv i ⟨x,l,g,j,k⟩=>m d i e l x v Q g j k)
theorem Ko{f:Value->Value->Sem Value}{C:Int->Int->Prop}{g:Int->Int->Int}
  (d:∀(i j:Int)(t u:Tok)(s:Shared)(Q:Value->Shared->Prop)(E:Value->Shared->Prop),C i j->Q (.int (g i j) s.toks) {s with toks:=s.toks+1}->wpAny (model X.prog X.w) X.A (f (.int i t) (.int j u)) Q E s) :
  dk X f (rI C λi j=>.int (g i j)):=by
 intro e s n H x y v u Q I m k h;obtain⟨i,j,rfl,rfl,l,q⟩:=h;obtain⟨t,rfl⟩:=m;obtain⟨t',rfl⟩:=k;exact d i j t t' s _ _ l ⟨.int (g i j),H,I.tok _,⟨_,rfl⟩,q⟩
theorem DX{g:Int->Int->Int}
  (d:∀(i j:Int)(t u:Tok)(s:Shared)(Q:Value->Shared->Prop)(E:Value->Shared->Prop),Q (.int (g i j) s.toks) {s with toks:=s.toks+1}->wpAny (model X.prog X.w) X.A (f (.int i t) (.int j u)) Q E s) :
  dk X f (AK λi j=>.int (g i j)):=by
 intro e s m H x y v u Q I l k h;obtain⟨i,j,rfl,rfl,q⟩:=h;obtain⟨t,rfl⟩:=l;obtain⟨t',rfl⟩:=k;exact d i j t t' s _ _ ⟨.int (g i j),H,I.tok _,⟨_,rfl⟩,q⟩
theorem DY{g:Int->Int->Bool}
  (d:∀(i j:Int)(t u:Tok)(s:Shared)(Q:Value->Shared->Prop)(E:Value->Shared->Prop),Q (.bool (g i j)) s->wpAny (model X.prog X.w) X.A (f (.int i t) (.int j u)) Q E s) :
  dk X f (AK λi j=>.bl (g i j)):=by
 intro e s m H x y v u Q I l k h;obtain⟨i,j,rfl,rfl,q⟩:=h;obtain⟨t,rfl⟩:=l;obtain⟨t',rfl⟩:=k;exact d i j t t' s _ _ ⟨.bl (g i j),H,I,rfl,q⟩
def CPow(i j:Int):Prop:=0<=j/\j<=1000000/\i.natAbs<2^64
def JR(i j:Int):Prop:=(-(2^64)<i/\i<2^64)\/(-(2^64)<j/\j<2^64)
theorem JR.ok(h:JR i j):IntMulOk i j:=by
 rcases h with⟨d,e⟩|⟨d,e⟩
 ·exact .of_left (intBits_le_64 d e)
 ·exact .of_right (intBits_le_64 d e)
theorem lJ:dk X (binaryOp .Add) (AK λi j=>.int (i+j)):=DX λ_ _ _ _ _ _ _ q=>add_int q
theorem Gp:dk X (binaryOp .Sub) (AK λi j=>.int (i-j)):=DX λ_ _ _ _ _ _ _ q=>sub_int q
theorem Gu:dk X (binaryOp .Mult) (rI JR λi j=>.int (i*j)):=Ko λ_ _ _ _ _ _ _ d q=>mul_int q d.ok
theorem Gv:dk X (binaryOp .Mod) (rI (λ_ j=>0<j) λi j=>.int (i%j)):=Ko λi j _ _ _ _ _ d q=>by
 have e:(0:Int)<j:=d;exact mod_int' (by omega) (by rw[Int.fmod_eq_emod_of_nonneg i (by omega)];exact q)
theorem Gq:dk X (binaryOp .LShift) (rI CPow λi j=>.int (i*2^j.toNat)):=Ko λ_ _ _ _ _ _ _ d q=>lshift_int_small d.1 d.2.1 d.2.2 q
theorem An:dk X (binaryOp .BitAnd) (AK λi j=>.int (Builtin.bitAnd i j)):=DX λ_ _ _ _ _ _ _ q=>and_int q
theorem FQ:dk X (binaryOp .BitOr) (AK λi j=>.int (Builtin.bitOr i j)):=DX λ_ _ _ _ _ _ _ q=>or_int q
theorem unI{g:Int->Int}
  (d:∀(i:Int)(t:Tok)(s:Shared)(Q:Value->Shared->Prop)(E:Value->Shared->Prop),Q (.int (g i) s.toks) {s with toks:=s.toks+1}->wpAny (model X.prog X.w) X.A (f (.int i t)) Q E s) :
  UnR X f (rU λi=>.int (g i)):=by
 intro e s k H x v Q I j h;obtain⟨i,rfl,q⟩:=h;obtain⟨t,rfl⟩:=j;exact d i t s _ _ ⟨.int (g i),H,I.tok _,⟨_,rfl⟩,q⟩
theorem zV:UnR X (unaryOp .USub) (rU λi=>.int (-i)):=unI λ_ _ _ _ _ q=>neg_int q
end
noncomputable def F9:V->V->Bool
 | .non,.non=>true| .non,.int _=>true| .int _,.non=>true| .non,.bl _=>true| .bl _,.non=>true| .non,.str _=>true| .str _,.non=>true
 | .int _,.int _=>true| .bl _,.bl _=>true| .str _,.str _=>true| .byt _,.byt _=>true
 | .int _,.str _=>true| .str _,.int _=>true| .bl _,.str _=>true| .str _,.bl _=>true
 |_,_=>false
def rEq:R2:=λx y H Q=>F9 x y=true/\Q (.bl (decide (x=y))) H
def rNe:R2:=λx y H Q=>F9 x y=true/\Q (.bl (!decide (x=y))) H
theorem xK:decide (V.int i=V.int j)=(i==j):=by rw[NI];simp
theorem Bx:decide (V.bl i=V.bl j)=(i==j):=by rw[NI];simp
theorem xJ:decide (V.str i=V.str j)=(i==j):=by rw[NI];simp
theorem xM:decide (V.byt i=V.byt j)=(i.toList==j.toList):=by rw[NI];cases i;cases j;simp
section
variable{X:Cx}{a b c:Expr}{ta tb tc:TE}{pos:Pos}
theorem ai(I:Inv X d f H s)(q:Q (.bl k) H)(e:k=g):EP X d f Q (.bool g) s:=by subst e;exact⟨.bl k,H,I,rfl,q⟩
theorem wQ:dk X (compareOp .Eq) rEq:=by
 intro g s k H x y v u Q I f d h;obtain⟨e,q⟩:=h;cases x with
 |non =>
  cases f;cases y with
  |non=>cases d;exact PySem.EqNone.eq_none_none (ai I q (by simp))|bl j=>cases d;exact PySem.EqNone.eq_none_bool (ai I q (by simp))|int j=>obtain⟨t',rfl⟩:=d;exact PySem.EqNone.eq_none_int (ai I q (by simp))
  |str j=>obtain⟨t',rfl⟩:=d;exact PySem.EqNone.eq_none_str (ai I q (by simp))
  |_=>exact absurd (show false=true from e) Mc
 |bl i =>
  cases f;cases y with
  |non=>cases d;exact PySem.EqNone.eq_bool_none (ai I q (by simp))|bl j=>cases d;exact eq_bool (ai I q Bx)|str j=>obtain⟨t',rfl⟩:=d;exact PySem.EqMixed.eq_bool_str (ai I q (by simp))
  |_=>exact absurd (show false=true from e) Mc
 |int i =>
  obtain⟨t,rfl⟩:=f;cases y with
  |non=>cases d;exact PySem.EqNone.eq_int_none (ai I q (by simp))|int j=>obtain⟨t',rfl⟩:=d;exact eq_int (ai I q xK)
  |str j=>obtain⟨t',rfl⟩:=d;exact PySem.EqMixed.eq_int_str (ai I q (by simp))
  |_=>exact absurd (show false=true from e) Mc
 |str i =>
  obtain⟨t,rfl⟩:=f;cases y with
  |non=>cases d;exact PySem.EqNone.eq_str_none (ai I q (by simp))|bl j=>cases d;exact PySem.EqMixed.eq_str_bool (ai I q (by simp))|int j=>obtain⟨t',rfl⟩:=d;exact PySem.EqMixed.eq_str_int (ai I q (by simp))
  |str j=>obtain⟨t',rfl⟩:=d;exact eq_str (ai I q xJ)
  |_=>exact absurd (show false=true from e) Mc
 |byt i =>
  obtain⟨t,rfl⟩:=f;cases y with
  |byt j=>obtain⟨t',rfl⟩:=d;exact W.eq_bytes (ai I q xM)
  |_=>exact absurd (show false=true from e) Mc
 |_=>cases y<;>exact absurd (show false=true from e) Mc
theorem Ki:dk X (compareOp .NotEq) rNe:=by
 intro g s k H x y v u Q I f d h;obtain⟨e,q⟩:=h;cases x with
 |non =>
  cases f;cases y with
  |non=>cases d;exact PySem.EqNone.ne_none_none (ai I q (by simp))|bl j=>cases d;exact PySem.EqNone.ne_none_bool (ai I q (by simp))|int j=>obtain⟨t',rfl⟩:=d;exact PySem.EqNone.ne_none_int (ai I q (by simp))
  |str j=>obtain⟨t',rfl⟩:=d;exact PySem.EqNone.ne_none_str (ai I q (by simp))
  |_=>exact absurd (show false=true from e) Mc
 |bl i =>
  cases f;cases y with
  |non=>cases d;exact PySem.EqNone.ne_bool_none (ai I q (by simp))|bl j=>cases d;exact ne_bool (ai I q (ND not Bx))|str j=>obtain⟨t',rfl⟩:=d;exact PySem.EqMixed.ne_bool_str (ai I q (by simp))
  |_=>exact absurd (show false=true from e) Mc
 |int i =>
  obtain⟨t,rfl⟩:=f;cases y with
  |non=>cases d;exact PySem.EqNone.ne_int_none (ai I q (by simp))|int j=>obtain⟨t',rfl⟩:=d;exact ne_int (ai I q (ND not xK))
  |str j=>obtain⟨t',rfl⟩:=d;exact PySem.EqMixed.ne_int_str (ai I q (by simp))
  |_=>exact absurd (show false=true from e) Mc
 |str i =>
  obtain⟨t,rfl⟩:=f;cases y with
  |non=>cases d;exact PySem.EqNone.ne_str_none (ai I q (by simp))|bl j=>cases d;exact PySem.EqMixed.ne_str_bool (ai I q (by simp))|int j=>obtain⟨t',rfl⟩:=d;exact PySem.EqMixed.ne_str_int (ai I q (by simp))
  |str j=>obtain⟨t',rfl⟩:=d;exact ne_str (ai I q (ND not xJ))
  |_=>exact absurd (show false=true from e) Mc
 |byt i =>
  obtain⟨t,rfl⟩:=f;cases y with
  |byt j=>obtain⟨t',rfl⟩:=d;exact W.ne_bytes (ai I q (ND not xM))
  |_=>exact absurd (show false=true from e) Mc
 |_=>cases y<;>exact absurd (show false=true from e) Mc
theorem Kj:dk X (compareOp .Lt) (AK λi j=>.bl (decide (i<j))):=DY λ_ _ _ _ _ _ _ q=>lt_int q
theorem Kk:dk X (compareOp .LtE) (AK λi j=>.bl (decide (i<=j))):=DY λ_ _ _ _ _ _ _ q=>le_int q
theorem Km:dk X (compareOp .Gt) (AK λi j=>.bl (decide (j<i))):=DY λ_ _ _ _ _ _ _ q=>gt_int q
theorem Kn:dk X (compareOp .GtE) (AK λi j=>.bl (decide (j<=i))):=DY λ_ _ _ _ _ _ _ q=>ge_int q
theorem Al:dk X (compareOp .Is) (λx y H Q=>y=.non/\Q (.bl (decide (x=.non))) H):=by
 intro e s g H x y v u Q I d f h;obtain⟨rfl,q⟩:=h;cases f;refine is_none_gen (ai I q ?_)
 cases x<;>first
  |(cases d;rfl)
  |(obtain⟨t,rfl⟩:=d;rfl)
theorem um(b:Expr)(h:op≠.In:=by decide)(e:op≠.NotIn:=by decide):behindInMarks op b=false:=by
 have d:(op==CmpOp.In)=false:=by cases op<;>first|rfl|exact absurd rfl h
 have f:(op==CmpOp.NotIn)=false:=by cases op<;>first|rfl|exact absurd rfl e
 cases b<;>simp[behindInMarks,d,f]
theorem DS(o:dk X (compareOp op) r)(k:PE X a ta)(n:PE X b tb)(e:behindInMarks op b=false):PE X (.Compare a [op] [b] pos) (tOp r ta tb):=by intro d s l H Q I h;exact wpAny_Compare1 (Ir k n I h λv u f x y j i m g q=>o d f l j x y v u Q i m g q) e
def FH(t:TE):TT:=λd H Q=>t d H λx e =>∃k,x=.bl k/\Q k e
theorem gz(C:dk X (compareOp op) r)(p:PE X a ta)(w:PE X b tb)(g:behindInMarks op b=false):PT X (.Compare a [op] [b] pos) (FH (tOp r ta tb)):=by
 intro d s f H Q I h
 refine wpAny_isTrue_Compare1 (al (p d s f H _ I h) λv q ⟨x,B,E,F,G⟩=>al (w d q f B _ E G) λu i ⟨y,n,l,D,t⟩ =>
  al (C d i f n x y v u _ l F D t) λc J ⟨z,A,j,m,k,e,o⟩=> ?_) g
 subst e;cases m;exact Nm ⟨A,j,o⟩
def zn(r f :R2)(g h j:TE):TE:=λd H Q=>g d H λx m=>h d m λy n=>r x y n λz e=>∃k,z=.bl k /\ (if k=true then j d e λl i=>f y l i Q else Q (.bl false) e)
theorem rV(R:dk X (compareOp op) r)(j :dk X (compareOp g) m)(E:PE X a ta)(N:PE X b tb)(w:PE X c tc)
  (q:lastMarks [op,g] [b,c]=false:=by with_unfolding_all rfl):PE X (.Compare a [op,g] [b,c] pos) (zn r m ta tb tc):=by
 intro f s i H Q I h
 refine Compare_chain (al (E f s i H _ I h) λv F ⟨x,P,S,T,U⟩=>chain_link (al (N f F i P _ S U) λu t ⟨y,C,A,p,J⟩ =>
  al (R f t i C x y v u _ A T p J) λd D ⟨z,o,l,B,k,e,n⟩=> ?_)) q
 subst e;cases B;refine Nm ?_;cases k with
 |false=>exact ite_ff ⟨.bl false,o,l,rfl,n⟩|true=>exact ite_tt (chain_last (al (w f D i o _ l n) λG M ⟨W,O,K,L,V⟩=>j f M i O y W u G Q K p L V))
theorem rK(U:dk X (compareOp op) r)(j :dk X (compareOp g) m)(G:PE X a ta)(R:PE X b tb)(w:PE X c tc)
  (q:lastMarks [op,g] [b,c]=false:=by with_unfolding_all rfl):PT X (.Compare a [op,g] [b,c] pos) (FH (zn r m ta tb tc)):=by
 intro f s i H Q I h
 refine isTrue_chain (al (G f s i H _ I h) λv J ⟨x,T,W,Y,q1⟩=>test_link (al (R f J i T _ W q1) λu t ⟨y,D,B,p,M⟩ =>
  al (U f t i D x y v u _ B Y p M) λd E ⟨z,o,l,C,k,e,n⟩=> ?_)) q
 subst e;cases C;refine Nm ?_;cases k with
 |false =>
  obtain⟨k',e',F⟩:=n;cases e';exact ite_ff ⟨o,l,F⟩
 |true =>
  refine ite_tt (test_last (al (w f E i o _ l n) λL P ⟨z',S,N,O,q4⟩=>al (j f P i S y z' u L _ N p O q4) λd' s5 ⟨z2,K,Z,V,k2,A,q5⟩=> ?_));subst A;cases V;exact Nm ⟨K,Z,q5⟩
def JE(K:W.Frag)(x:V)(H:Hp)(k:Bool):Prop :=
 match x with
 | .non=>k=false| .bl b=>k=b| .int i=>k=(i !=0)| .str y=>y.length<=sizeLine/\k=((y.length:Int) !=0)| .byt y=>y.size<=sizeLine/\k=((y.size:Int) !=0)| .ref p=>(∃xs,bR K H p xs/\k= !xs.isEmpty)\/(∃xs,bg K H p xs/\k= !xs.isEmpty)\/∃d,H p=some (.dK d)/\k= !d.isEmpty|_=>False
theorem uy{e:Type}{d:List (e×V)}{vs:List (e×Value)}(r:KV d vs):(!vs.isEmpty)= !d.isEmpty:=by cases r<;>rfl
theorem lh(r:aU xs d):(!d.toArray.isEmpty)= !xs.isEmpty:=by cases r<;>simp
theorem gS:(sizeLine:Nat)<2^63:=by rw[Np];decide
theorem Ft:TruR X (λx H Q=>∃k,JE X.K x H k/\Q k H):=by
 intro u s D H x v Q I j h;obtain⟨k,e,q⟩:=h;have C:=gS;have E:sizeLine=16777216:=Np;cases x with
 |non =>
  cases j;have d :k=false:=e;subst d;exact truthy_none ⟨H,I,q⟩
 |bl b =>
  cases j;have d :k=b:=e;subst d;exact Nm ⟨H,I,q⟩
 |int i =>
  obtain⟨t,rfl⟩:=j;have d :k=(i !=0):=e;subst d;exact PySem.P.truthy_int ⟨H,I,q⟩
 |str y =>
  obtain⟨t,rfl⟩:=j;obtain⟨A,d⟩:y.length<=sizeLine/\k=((y.length:Int) !=0):=e;subst d;exact PySem.P.truthy_str (by omega) ⟨H,I.tok _,q⟩
 |byt y =>
  obtain⟨t,rfl⟩:=j;obtain⟨A,d⟩:y.size<=sizeLine/\k=((y.size:Int) !=0):=e;subst d;exact W.truthy_bytes (by omega) ⟨H,I.tok _,q⟩
 |ref p =>
  cases j;have d :(∃xs,bR X.K H p xs/\k= !xs.isEmpty)\/(∃xs,bg X.K H p xs/\k= !xs.isEmpty)\/∃f,H p=some (.dK f)/\k= !f.isEmpty:=e
  rcases d with⟨xs,l,d⟩|⟨xs,l,d⟩|⟨f,l,d⟩
  ·subst d
   obtain⟨n,r,o,z⟩:=I.list l;have g:=r.length;exact wpAny_truthy_list o.isList (by simp only[Mn];omega) ⟨H,I.tok _,by rw[lh r];exact q⟩
  ·subst d
   obtain⟨n,r,o,z⟩:=I.tuple l;have g:=r.length;exact truthy_tuple o (by simp only[Mn];omega) ⟨H,I.tok _,by rw[lh r];exact q⟩
  ·subst d
   obtain⟨z,B,vs,r,m⟩:f.length<=sizeLine/\(p==sysModules)=false/\∃vs,KV f vs/\s.heap.DictOf (aY X.prog X.w) p vs:=I.hok p _ l;have g:f.length=vs.length:=Pt r;exact wpAny_truthy_dict B m (by omega) ⟨H,I.tok _,by rw[uy r];exact q⟩
 |_=>exact(show False from e).elim
theorem AR(j:PE X a ta)(i:∀d,isTrue a X.env d=(do let v<-d;standAt a.pos;holding [v] (truthy v))) :
  PT X a (λf H Q=>ta f H λx g =>∃k,JE X.K x g k/\Q k g):=by
 intro e s f H Q I h;exact isTrue_plain (al (j e s f H _ I h) λv l ⟨x,m,n,o,p⟩=>Ft e l f m x v Q n o p) (i _)
theorem ug:dk X (binaryOp .Add) (λx y H Q=>∃i j,x=.str i/\y=.str j/\i.length+j.length<=sizeLine/\Q (.str (i++j)) H):=by intro d s l H x y v u Q I f e h;obtain⟨i,j,rfl,rfl,g,q⟩:=h;obtain⟨t,rfl⟩:=f;obtain⟨t',rfl⟩:=e;exact add_str (λt' k=>⟨.str (i++j),H,I.tok _,⟨_,rfl⟩,q⟩) g
theorem vals1(r:aU [x] d):∃u,d=[u]/\RelV x u:=by
 cases r with
 |cons f e=>cases e;exact⟨_,rfl,f⟩
theorem vals2(r:aU [x,y] e):∃u d,e=[u,d]/\RelV x u/\RelV y d :=by
 cases r with
 |cons g f =>
  cases f with
  |cons i h=>cases h;exact⟨_,_,rfl,g,i⟩
theorem yt(f:X.calm=true):bV X (.builtin "max") (λxs H Q=>∃i j,xs=[.int i,.int j]/\Q (.int (if j>i then j else i)) H):=by
 intro e s m H xs n Q I r h;obtain⟨i,j,rfl,q⟩:=h;obtain⟨u,l,rfl,⟨t,rfl⟩,⟨t',rfl⟩⟩:=vals2 r;refine max_two_ints (I.ok.hd f) λh' g k=>⟨_,H,I.kept k,?_,q⟩
 by_cases d:j>i;rw[MX d,MX d];exact⟨_,rfl⟩;rw[MV d,MV d];exact⟨_,rfl⟩
theorem yr(f:X.calm=true):bV X (.builtin "min") (λxs H Q=>∃i j,xs=[.int i,.int j]/\Q (.int (if j<i then j else i)) H):=by
 intro e s m H xs n Q I r h;obtain⟨i,j,rfl,q⟩:=h;obtain⟨u,l,rfl,⟨t,rfl⟩,⟨t',rfl⟩⟩:=vals2 r;refine min_two_ints (I.ok.hd f) λh' g k=>⟨_,H,I.kept k,?_,q⟩
 by_cases d:j<i;rw[MX d,MX d];exact⟨_,rfl⟩;rw[MV d,MV d];exact⟨_,rfl⟩
theorem oM:bV X (.type "int") (λxs H Q=>(∃i,xs=[.int i]/\Q (.int i) H)\/∃k,xs=[.bl k]/\Q (.int (if k then 1 else 0)) H):=by
 intro d s f H xs g Q I r h
 rcases h with⟨i,rfl,q⟩|⟨k,rfl,q⟩
 ·obtain⟨u,rfl,t,rfl⟩:=vals1 r
  exact call_int_int ⟨.int i,H,I,⟨_,rfl⟩,q⟩
 ·obtain⟨u,rfl,e⟩:=vals1 r
  cases e;exact call_int_bool ⟨.int (if k then 1 else 0),H,I.tok _,⟨_,rfl⟩,q⟩
end
structure JJ(h:Heap)(x dx C:Addr)(mA:Str->Option Value):Prop where
 obj:h.get? x=some (W.instObj C dx)
 ns:h.Ns1 dx mA
 ne:dx≠x
set_option tactic.hygienic true in
theorem yP{h:Heap}(n:h.Ns1 d c):∃f,h.get? d=some f/\∀name,W.lookIn name f=some (c name):=by
 obtain⟨o,es,ep,m,j,g,_,i⟩:=n;refine⟨o,m,λname=> ?_⟩;have e:=i name;unfold nsFind findBy at e;rw[<- Array.find?_toList]at e;unfold W.lookIn;rw[j];dsimp only
 split
 ·rename_i y q
  rw[q]at e;exact ND some e
 ·rename_i q
  rw[q]at e;have a:es.toList.any (·.refKey)=false:=by
   rw[List.any_eq_false];intro y k;obtain⟨z,t,b⟩:=g y (Array.mem_toList_iff.mp k);simp[DictEntry.refKey,b]
  have l :¬es.toList.any (·.refKey)=true:=by rw[a];exact Mc
  rw[MV l];exact ND some e
theorem JJ.look(I:JJ h x c C b):∃a,W.InstAt h x (W.instObj C c) C (some a)/\∀name,W.lookIn name a=some (b name) :=
 let⟨a,ho,hl⟩:=yP I.ns
 ⟨a,⟨I.obj,rfl,rfl,ho⟩,hl⟩
theorem jk.some_of(r:jk (some v) o):∃u,o=some u/\RelV v u:=by
 cases o with
 |none=>exact(show False from r).elim|some u=>exact⟨u,rfl,r⟩
section
variable{P:Program}{w:World}{H H' :Hp}{h h' :Heap}{a C dx:Addr}{fs fs' :List (Str×V)}
theorem Dv(c:fY P w H h)(e:H a=some (.ins C dx fs)):∃b,JJ h a dx C b/\(∀f,jk (fs.lookup f) (b f))/\PySem.Within b (fs.map (·.1))/\fs.length<=1000/\H dx=some (.own a):=by obtain⟨d,z,i,g,b,n,r,q⟩:=(show ao P w H h a (.ins C dx fs)from c a _ e);exact⟨b,⟨g,n,i⟩,r,q,z,d⟩
end
structure Cls(K:W.Frag)(C:Addr):Prop where
 pg:W.plainGet K C Str.empty=true
 hd:W.hasDictIn K C=true
 po:W.plainOver K C=true
 sa:W.findIn K (.ref C) "__setattr__"=some (some (.builtin "object.__setattr__"))
theorem Cls.get{K:W.Frag}(c:Cls K C)(f:Str):W.plainGet K C f=true:=c.pg
section
variable{X:Cx}{pins:List (Addr×Obj)}{σ:St}{H:Hp}{s:Shared}{A:Around}{E:Value->Shared->Prop}{Q:Value->Shared->Prop}{c:Value}{b:Bool}
inductive jj(K:W.Frag)(H:Hp):V->Value->Prop where
 | non:jj K H .non (.type "NoneType")
 | bl (x:Bool):jj K H (.bl x) (.type "bool")
 | int (i:Int):jj K H (.int i) (.type "int")
 | str (x:Str):jj K H (.str x) (.type "str")
 | flt (x:UInt64):jj K H (.flt x) (.type "float")
 | lst {a:Addr} {xs:List V} (e:H a=some (.lst xs)):jj K H (.ref a) (.type "list")
 | frz {a:Addr} {o:Obj} {xs:List V} (e:H a=some (.frz o (.lst xs))):jj K H (.ref a) (.type "list")
 | tup {a:Addr} {xs:List V} (e:H a=some (.tup xs)):jj K H (.ref a) (.type "tuple")
 | dK {a:Addr} {kvs:List (ak×V)} (e:H a=some (.dK kvs)):jj K H (.ref a) (.type "dict")
 | dT {a:Addr} {kvs:List (List ak×V)} (e:H a=some (.dT kvs)):jj K H (.ref a) (.type "dict")
 | ins {a C dx:Addr} {fs:List (Str×V)} (e:H a=some (.ins C dx fs)) (cl:Cls K C) (ha:W.findIn K (.ref C) "__class__"=some (some (.builtin "object.__class__")))
   (hn:W.specialIn K (.builtin "object.__class__") "__get__"=some (some (.builtin "getset_descriptor.__get__"))) (htk:W.takesIn K (.builtin "object.__class__")=some true)
   (hm:W.mroIn K C (.type "object")=some true):jj K H (.ref a) (.ref C)
theorem yY(I:Inv X pins σ H s)(d:RelV x u)(G:jj X.K H x t)(e:W.kitOne X.K t c=some b)(h:∀D,Q (.bool b) {s with toks:=D}) :
  wpAny (model X.prog X.w) A (call (.builtin "isinstance") [u,c]) Q E s:=by
 cases G with
 |non=>cases(show u=Value.none from d);exact Ou W.kitx_none I.kIn True.intro e (λz=>nomatch z) h|bl y=>cases(show u=Value.bool y from d);exact Ou W.kitx_bool I.kIn True.intro e (λz=>nomatch z) h|int i=>obtain⟨t,q⟩:=(show∃t,u=Value.int i t from d);cases q;exact Ou W.kitx_int I.kIn True.intro e (λz=>nomatch z) h
 |str y=>obtain⟨t,q⟩:=(show∃t,u=Value.str y t from d);cases q;exact Ou W.kitx_str I.kIn True.intro e (λz=>nomatch z) h
 |flt y=>obtain⟨t,q⟩:=(show∃t,u=Value.float y t from d);cases q;exact Ou W.kitx_float I.kIn True.intro e (λz=>nomatch z) h
 | @lst a xs f =>
  cases(show u=Value.ref a from d);obtain⟨_,_,n,_,g⟩:=(show ao X.prog X.w H s.heap a (.lst xs)from I.hok a _ f);exact Ou W.kitx_list I.kIn ⟨_,g,rfl⟩ e (λz=>nomatch z) h
 | @frz a F xs f =>
  cases(show u=Value.ref a from d);obtain⟨_,_,_,n,_,g⟩:=(show ao X.prog X.w H s.heap a (.frz F (.lst xs))from I.hok a _ f);exact Ou W.kitx_list I.kIn ⟨_,g,rfl⟩ e (λz=>nomatch z) h
 | @tup a xs f =>
  cases(show u=Value.ref a from d);obtain⟨_,_,_,p⟩:=(show ao X.prog X.w H s.heap a (.tup xs)from I.hok a _ f);obtain⟨o,g,k,_⟩:=p;exact Ou W.kitx_tuple I.kIn ⟨o,g,k⟩ e (λz=>nomatch z) h
 | @dK a j f =>
  cases(show u=Value.ref a from d);obtain⟨_,_,vs,_,p⟩:=(show ao X.prog X.w H s.heap a (.dK j)from I.hok a _ f);obtain⟨o,es,ep,g,k,_⟩:=p;exact Ou W.kitx_dict I.kIn ⟨o,g,k.1⟩ e (λz=>nomatch z) h
 | @dT a j f =>
  cases(show u=Value.ref a from d);obtain⟨_,_,xs,_,o,es,ep,g,k,_⟩:=(show ao X.prog X.w H s.heap a (.dT j)from I.hok a _ f);exact Ou W.kitx_dict I.kIn ⟨o,g,k.1⟩ e (λz=>nomatch z) h
 | @ins a C M P f m B v l r =>
  cases(show u=Value.ref a from d);obtain⟨L,O,_⟩:=Dv I.hok f;obtain⟨N,J,_⟩:=O.look;exact Ou (W.kitx_own (m.get _) m.hd B v l r) I.kIn J e (λz=>nomatch z) h
end
structure eY(k:Nat)(A:Around):Prop where
 hd:A.handled=none
 dp:A.depth+3*k+5<recursionLimit
 un:A.units+16*k+200<cLine
theorem eY.mono(r:eY k A)(h:j<=k):eY j A:=⟨r.hd,by have:=r.dp;omega,by have:=r.un;omega⟩
theorem eY.deeper(r:eY (k+1) A)(env:Env):eY k (A.deeper env) := ⟨r.hd,by have:=r.dp;show A.depth+1+3*k+5<_;omega,by have:=r.un;show A.units+3+16*k+200<_;omega⟩
theorem eY.depth(r:eY k A):A.depth<recursionLimit:=by have:=r.dp;omega
theorem eY.units(r:eY k A):A.units+64<cLine:=by have:=r.un;omega
def tNil:TA:=λ_ H Q=>Q [] H
def J1(b:TE)(c:TA):TA:=λa H Q=>b a H λx d=>c a d λxs e=>Q (x::xs) e
section
variable{X:Cx}{e:Expr}{es:List Expr}{te:TE}{t:TA}{pos:Pos}
theorem ag:PA X [] tNil:=λ_ _ _ _ H Q I h=>Calls.spliced_nil ⟨[],H,I,.nil,h⟩
theorem aL(g:PE X e te)(q:PA X es t)(k:starEach (e::es) X.env=(false,eval e X.env)::starEach es X.env:=by rfl):PA X (e::es) (J1 te t):=by intro pos a s c H Q I h;rw[k];show wpAny _ _ (spliced ((false,eval e X.env)::backTo pos (starEach es X.env))) _ _ s;refine Calls.spliced_cons (al (g a s c H _ I h) λu i b=> ?_);obtain⟨x,l,n,o,p⟩:=b;exact al (q pos a i c l _ n p) λv r ⟨xs,f,d,m,j⟩=>⟨x::xs,f,d,.cons o m,j⟩
def tTup(t:TA):TE:=λb H Q=>t b H λxs a=>xs.length<=sizeLine/\∀p,a p=none->Q (.ref p) (upd a p (.tup xs))
def tLst(t:TA):TE:=λb H Q=>t b H λxs a=>xs.length<=sizeLine/\∀p,a p=none->Q (.ref p) (upd a p (.lst xs))
theorem uc{x1}(h:PA X es t):PE X (.Tuple es x1 pos) (tTup t):=by intro a s i H Q I g;refine wpAny_Tuple_spliced (al (h pos a s i H _ I g) λj c ⟨xs,d,f,r,z,q⟩=>⟨by rw[<- r.length];exact z,?_⟩);have k:d c.heap.objs.size=none:=f.hok.fresh (Md _);refine⟨.ref c.heap.objs.size,upd d c.heap.objs.size (.tup xs),f.laid (t' :=c.toks) (λb u e=>MW _ e) (Md _) ?_,rfl,q _ k⟩;exact⟨z,j,r,⟨_,Mr _ rfl,rfl,_,rfl,rfl⟩⟩
theorem ue(h:PA X es t):PE X (.List es pos) (tLst t):=by intro a s i H Q I g;refine wpAny_List_spliced (al (h pos a s i H _ I g) λj c ⟨xs,d,f,r,z,q⟩=>⟨by rw[<- r.length];exact z,?_⟩);have k:d c.heap.objs.size=none:=f.hok.fresh (Md _);refine⟨.ref c.heap.objs.size,upd d c.heap.objs.size (.lst xs),f.laid (t' :=c.toks) (λb u e=>MW _ e) (Md _) ?_,rfl,q _ k⟩;exact⟨z,j,0,r,Mr _ rfl⟩
end
noncomputable abbrev Sp:=List V->Hp->VK->XK->Prop
noncomputable abbrev zG:=List Env->Hp->Shared->XK->Value->Shared->Prop
structure Ex(P:Program)(w:World)(K:W.Frag)(mg:Str->Option Value)(base:Heap)(A:Around)(outer:List Env)(s:Shared)(H:Hp):Prop where
 frames:A.frames=some outer
 mod:Mod K mg base
 bs:∀b o,base.get? b=some o->s.heap.get? b=some o/\H b=none
 bsz:base.objs.size<=s.heap.objs.size
 funs:s.heap.FunFrames base outer
 frf:∀b∈vB outer,H b=none
 hok:fY P w H s.heap
 bare:AllBare s.gens
def CE(a:List Env)(P:Program)(w:World)(H:Hp)(s:Shared)(Q:VK)(u:Value)(s' :Shared):Prop :=
 ∃v b,s'.os=s.os/\AllBare s'.gens/\Un (vB a) [] H b s.heap s'.heap/\fY P w b s'.heap/\RelV v u/\Q v b
def CR(CX:zG)(a:List Env)(P:Program)(w:World)(H:Hp)(s:Shared)(Q:VK)(E:XK)(r:Result)(s' :Shared):Prop :=
 match r with
 | .ok (.ret u)=>CE a P w H s Q u s'| .ok _=>False| .error e=>CX a H s E e s'
structure bt(P:Program)(w:World)(K:W.Frag)(mg:Str->Option Value)(base:Heap)(CX:zG)(k:Nat)(f:Addr)(fd:FuncData)(ps:List Str)(sp:Sp):Prop where
 len:∀vs H Q E,sp vs H Q E->vs.length=ps.length
 run:∀(A:Around)(outer:List Env)(s:Shared)(H:Hp)(args:Args)(us:List Value)(vs:List V)(Q:VK)(E:XK),eY k A->Ex P w K mg base A outer s H->BindsTo s fd args (ps.zip us)->aU vs us->sp vs H Q E ->
  codeAny (model P w) A (.call (.ref f) args) (CR CX outer P w H s Q E) s
theorem bt.mono{P:Program}{w:World}{K:W.Frag}{b:Str->Option Value}{base:Heap}{CX:zG}{j k:Nat}{f:Addr}{c:FuncData}{d:List Str}{sp:Sp}(F:bt P w K b base CX j f c d sp)(h:j<=k) :
  bt P w K b base CX k f c d sp:=⟨F.len,λA a s H args e vs Q E g=>F.run A a s H args e vs Q E (g.mono h)⟩
theorem bt.imp{P:Program}{w:World}{K:W.Frag}{c:Str->Option Value}{base:Heap}{CX:zG}{k:Nat}{f:Addr}{d:FuncData}{e:List Str}{sp b :Sp}(F:bt P w K c base CX k f d e sp)
  (h:∀vs H Q E,b vs H Q E->sp vs H Q E):bt P w K c base CX k f d e b :=
 ⟨λvs H Q E q=>F.len vs H Q E (h _ _ _ _ q),λA a s H args m vs Q E n g l i j=>F.run A a s H args m vs Q E n g l i (h _ _ _ _ j)⟩
section
variable{X:Cx}{pins:List (Addr×Obj)}{σ:St}{H:Hp}{s s' :Shared}
theorem Inv.env0(I:Inv X pins σ H s):Ex X.prog X.w X.K X.mg X.base X.A X.stack s H := ⟨I.ok.frames,I.ok.mod,I.bs,M8 I.ok.bsz I.sz,I.stack,I.stkFree,I.hok,I.bare⟩
theorem Inv.after(I:Inv X pins σ H s)(h:CE X.stack X.prog X.w H s Q u s'):EP X pins σ Q u s' :=by obtain⟨v,j,k,a,f,c,r,q⟩:=h;obtain⟨i,g,d,t,e⟩:=s';obtain rfl:e =s.os:=k;exact⟨v,j,I.call (h' :=i) (g' :=g) (d' :=d) (t' :=t) (ch:=[]) f c a (λb z=>absurd z (by simp)),r,q⟩
end
def J2(sp:Sp)(a:List V)(E:XK)(t:TA):TE:=λb H Q=>t b H λvs c=>sp (vs++a) c Q E
def Binds(K:W.Frag)(d:FuncData)(c:List Str)(b:List Value):Prop :=
 ∀(s:Shared)(a:List Value),K.In s.heap->(a++b).length=c.length->BindsTo s d ⟨a,[]⟩ (c.zip (a++b))
theorem Binds.all{K:W.Frag}(h:∀a:List Value,a.length=b.length->bindArgs d ⟨a,[]⟩=pure (b.zip a)):Binds K d b []:=λs a _ c=>by
 rw[NU]at c ⊢;exact .of_eq (h a c)
def vi(CX:zG)(X:Cx)(E:XK):Prop:=∀(a:List (Addr×Obj))(b:St)(H:Hp)(s:Shared)(e:Value)(s' :Shared),Inv X a b H s->CX X.stack H s E e s' ->X.xe e s'
section
variable{X:Cx}{CX:zG}{k:Nat}{f C:Addr}{fd:FuncData}{ps:List Str}{sp:Sp}{dvs:List V}{ds:List Value}{E:XK}{x m:Str}{p pos apos:Pos}{e o:Expr}{es:List Expr}{ta:TE}{t:TA}
theorem GK(F:bt X.prog X.w X.K X.mg X.base CX k f fd ps sp)(v:eY k X.A)(q:Binds X.K fd ps ds)(j:aU dvs ds)(l:vi CX X E)
  (I:Inv X a d H s) (r:aU vs b) (h:sp (vs++dvs) H Q E):wpAny (model X.prog X.w) X.A (call (.ref f) b) (EP X a d Q) X.xe s:=by
 have g:aU (vs++dvs) (b++ds):=r.append j;have n:(b++ds).length=ps.length:=by rw[<- g.length];exact F.len _ _ _ _ h
 refine wpAny_call (codeAny_mono (F.run X.A X.stack s H ⟨b,[]⟩ (b++ds) (vs++dvs) Q E v I.env0 (q s b I.kIn n) g h) λr s' c=> ?_);cases r with
 |error e=>exact l a d H s e s' I c|ok i =>
  cases i with
  |ret u=>exact I.after c|next=>exact False.elim c|brk=>exact False.elim c|cont=>exact False.elim c
theorem pC(F:bt X.prog X.w X.K X.mg X.base CX k f fd ps sp)(z:eY k X.A)(B:Gl X x)(i:X.mg x=some (.ref f))(g:W.keepIn X.K (.ref f)=true)(y:Binds X.K fd ps ds)(j:aU dvs ds)(n:vi CX X E)
  (u:PA X (e::es) t) (b:(x==("__debug__":Str))=false:=by decide) (l:starEach (e::es) X.env=(false,eval e X.env)::starEach es X.env:=by rfl) (c:(backTo pos (starEach es X.env)).any (·.1)=false:=by rfl) :
  PE X (.Call (.Name x p) (e::es) [] pos) (J2 sp dvs E t):=by
 intro a s v H Q I h;refine wpAny_Call_Name_kw (wj I B i ?_ b);refine W.callWith_K (h₀:=X.base) I.ok.mod.kin g (al (u pos a s v H _ I h) λJ D ⟨vs,G,d,r,q⟩=>⟨d.kIn,?_⟩) l c;exact GK F z y j n d r q
end
structure aP(N P:List Str)(sc:Scope):Prop where
 kind:sc.kind=.function
 co:sc.isCoroutine=false
 gen:sc.isGenerator=false
 nd:N.Nodup
 pre:N.take P.length=P
 par:∀x∈P,sc.names.lookup x=some .local\/sc.names.lookup x=some .cell
 nofree:∀y∈sc.names,y.2≠.free
theorem oQ{b:Str->Option NameKind}{x:Str}:∀{a:List (Str×Value)}{m:Str->Option Value},(∀v,(x,v)∉a)->bindL b a m x=m x
 |[],_,_=>rfl|(n,v)::r,m,h=>by
  unfold bindL;rw[oQ λw c=>h w (MS _ c)]
  split
  ·have:x≠n:=by rintro rfl;exact h v MT
   simp[this]
  ·rfl
theorem oS{b:Str->Option NameKind}{x:Str}:∀{a:List (Str×Value)}{m:Str->Option Value},(∀v,(x,v)∉a)->bindC b a m x=m x
 |[],_,_=>rfl|(n,v)::r,m,h=>by
  unfold bindC;rw[oS λw c=>h w (MS _ c)]
  split;rfl
  ·have:x≠n:=by rintro rfl;exact h v MT
   simp[this]
theorem oR{a:Str->Option NameKind}{x:Str}{v:Value}:∀{P:List Str}{vs:List Value}{i:Nat}{m:Str->Option Value},P.Nodup->P[i]? =some x->vs[i]? =some v->a x=some .local -> bindL a (P.zip vs) m x=some v
 |[],_,_,_,_,h,_,_=>by simp at h|_::_,[],_,_,_,_,h,_=>by simp at h|p::P,w::vs,0,m,nd,h1,h2,hk=>by
  simp at h1 h2;subst h1;subst h2;show bindL a ((p,w)::P.zip vs) m p=_;unfold bindL;rw[oQ λv b=>(Mx.mp nd).1 (List.of_mem_zip b).1,MX hk];simp
 |p::P,w::vs,i+1,m,nd,h1,h2,hk=>by
  show bindL a ((p,w)::P.zip vs) m x=_;unfold bindL;exact oR (i:=i) (Mx.mp nd).2 (by simpa using h1) (by simpa using h2) hk
theorem oT{a:Str->Option NameKind}{x:Str}{v:Value}:∀{P:List Str}{vs:List Value}{i:Nat}{m:Str->Option Value},P.Nodup->P[i]? =some x->vs[i]? =some v->a x≠some .local -> bindC a (P.zip vs) m x=some v
 |[],_,_,_,_,h,_,_=>by simp at h|_::_,[],_,_,_,_,h,_=>by simp at h|p::P,w::vs,0,m,nd,h1,h2,hk=>by
  simp at h1 h2;subst h1;subst h2;show bindC a ((p,w)::P.zip vs) m p=_;unfold bindC;rw[oS λv b=>(Mx.mp nd).1 (List.of_mem_zip b).1,MV hk];simp
 |p::P,w::vs,i+1,m,nd,h1,h2,hk=>by
  show bindC a ((p,w)::P.zip vs) m x=_;unfold bindC;exact oT (i:=i) (Mx.mp nd).2 (by simpa using h1) (by simpa using h2) hk
noncomputable def start(N:List Str)(vs:List V):St:=vs.map some++List.replicate (N.length-vs.length) none
noncomputable def sw(CX:zG)(P:Program)(w:World)(K:W.Frag)(mg:Str->Option Value)(base:Heap)(N:List Str)(qual:Str)(scope:Scope)(f:Addr)(cd:Value)(A:Around)(outer:List Env)(s:Shared)(H:Hp)(E:XK):Cx where
 prog:=P
 w:=w
 K:=K
 mg:=mg
 base:=base
 A:=A.deeper (envOfC qual scope s.heap.objs.size f cd)
 N:=N
 s₀:=s
 H₀:=H
 env:=envOfC qual scope s.heap.objs.size f cd
 outer:=outer
 stack:=envOfC qual scope s.heap.objs.size f cd::outer
 ex:=[]
 calm:=true
 fn:=λ_=>true
 pn:=[]
 xe:=λe s' =>wpAny (model P w) (A.deeper (envOfC qual scope s.heap.objs.size f cd)) (leaving (envOfC qual scope s.heap.objs.size f cd) e) (λ_ s'' =>CX outer H s E e s'') (λe' s'' =>CX outer H s E e' s'') s'
theorem tE{a:Scope}(h:a.names.lookup x=some .cell):∃c,(cellsFrom n a.names []).lookup x=some c:=by have q:=W.cellsFrom_some a.names n [] (.inl h);exact Option.isSome_iff_exists.mp q
theorem yZ{CX:zG}{P:Program}{w:World}{K:W.Frag}{mg:Str->Option Value}{base:Heap}{N ps:List Str}{qual:Str}{scope:Scope}{f:Addr}{cd:Value}{A:Around}{outer:List Env}{s s1:Shared}{H:Hp}{E:XK}{us:List Value}{vs:List V}
  (S:aP N ps scope) (hd:A.handled=none) (e0:Ex P w K mg base A outer s H) (hl:vs.length=ps.length) (r:aU vs us)
  (x:InCallC s s.heap.objs.size (bindL (envOfC qual scope s.heap.objs.size f cd).kindOf (ps.zip us) λ_=>none) (cellsFrom (s.heap.objs.size+1) scope.names []) (bindC (envOfC qual scope s.heap.objs.size f cd).kindOf (ps.zip us) λ_=>none) s1) :
  Inv (sw CX P w K mg base N qual scope f cd A outer s H E) [] (start N vs) H s1:=by
 have hpl:ps.length<=N.length:=by have:=ND List.length S.pre;rw[Nz]at this;omega
 obtain⟨h1,tk,rfl,hk⟩:=x.done;have noA:∀b:Addr,b∉(sw CX P w K mg base N qual scope f cd A outer s H E).ex:=λb z=>absurd (show b∈([]:List Addr)from z) (by simp)
 refine⟨⟨e0.mod,S.kind,rfl,rfl,Md _,λy z c h1 h2=> ?_,λy hy=> ?_,λy c _ h=> ?_,λ_=>hd,Around.frames_deeper e0.frames,.inr ⟨rfl,rfl⟩,λb z=>absurd z (noA b),e0.bs,e0.bsz,λb _ _=>noA b,λb z=>absurd z (noA b),e0.funs,e0.frf⟩,rfl,e0.bare,Un.kept hk,⟨_,x.toInCall.ns,λi y v h1 h2 h3=> ?_⟩,λy c h=>⟨_,x.cell y c h⟩,e0.hok.fresh (Md _),λy c h=> ?_,λp hp=>absurd (show p∈([]:List (Addr×Obj))from hp) (by simp),e0.hok.kept hk,?_⟩
 ·exact name_of_addr x.apart (NJ h1) (NJ h2)
 ·have hy:scope.names.lookup y=some .cell\/scope.names.lookup y=some .free:=hy
  rcases hy with hy|hy
  ·exact tE hy
  ·exact absurd rfl (S.nofree _ (NJ hy))
 ·exact Ot (x.above y c (NJ h))
 ·have hi:i<vs.length:=by
   unfold start at h2
   by_cases hi:i<vs.length;exact hi
   ·rw[O0 (by simpa using hi)]at h2
    rw[List.getElem?_replicate]at h2
    split at h2<;>cases h2
  have ha:vs[i]? =some v:=by
   unfold start at h2;rw[Oe (by simpa using hi),Mi]at h2;cases e:vs[i]? with
   |none=>rw[e]at h2;cases h2|some a=>rw[e]at h2;cases h2;rfl
  obtain⟨u,hu,rv⟩:=r.get ha;have hp:ps[i]? =some y:=by
   rw[<- S.pre,List.getElem?_take_of_lt (by omega)];exact h1
  have ndP:ps.Nodup:=by rw[<- S.pre];exact S.nd.sublist (P5 _ _)
  refine⟨u,rv,?_⟩
  rcases S.par y (Mw hp)with k|k
  ·exact .inl ⟨k,oR ndP hp hu k⟩
  ·obtain⟨c,e⟩:=tE (n:=s.heap.objs.size+1) k
   refine .inr ⟨.inl k,c,e,?_⟩;have q:=x.cell y c e;rw[oT ndP hp hu (by show scope.names.lookup y≠_;rw[k];decide)]at q;exact q
 ·exact e0.hok.fresh (Ot (x.above y c (NJ h)))
 ·unfold start
  show _=N.length;rw[Ml,MR,List.length_replicate];omega
theorem K9{K:W.Frag}
   {F:List Str}  (lk:K.lookup f=some ⟨oc,od,.func (W.fnOf name qual d body scope U Z C pm X c ct),M⟩) (L:W.codeIn K c qual=true) (S:aP N F scope)
  (B:∀vs H Q E,sp vs H Q E->vs.length=F.length)
  (i:∀(A:Around)(a:List Env)(s:Shared)(H:Hp)(vs:List V)(Q:VK)(E:XK),eY k (A.deeper (envOfC qual scope s.heap.objs.size f c))->sp vs H Q E -> ∃t,vk (sw CX P w K D base N qual scope f c A a s H E) body t/\t {nx:=λ_ h =>Q .non h,rt:=Q} (start N vs) H) :
  bt P w K D base CX (k+1) f (W.fnOf name qual d body scope U Z C pm X c ct) F sp:=by
 refine⟨B,λA a s H args us vs Q E R z hb r m=> ?_⟩;have hl:=B _ _ _ _ m;have Y:K.In s.heap:=z.mod.kin.keeps λb o e=>(z.bs b o e).1;have O:s.heap.NoLimit:=z.mod.nolimit.keeps λb o e=>(z.bs b o e).1;have j:∀y∈F.zip us,scope.names.lookup y.1=some .local\/(scope.names.lookup y.1=some .cell/\((cellsFrom (s.heap.objs.size+1) scope.names []).lookup y.1).isSome=true):=fun⟨n,v⟩ hy=>by
  rcases S.par n (List.of_mem_zip hy).1 with q|q
  ·exact .inl q
  ·exact .inr ⟨q,W.cellsFrom_some _ _ _ (.inl q)⟩
 refine codeAny_call_function R.depth (Y _ _ lk) rfl S.co S.gen rfl (W.codeRec_of Y L) (hb _ _ _ _ ?_);refine wpAny_newFunctionEnv_cells S.kind j λenv he T x=> ?_;subst he;refine⟨O.keeps x.toInCall.keep,codeAny_func ?_⟩;obtain⟨t,ht,hq⟩:=i A a s H vs Q E (R.deeper _) m;have I:Inv (sw CX P w K D base N qual scope f c A a s H E) [] (start N vs) H T:=yZ S R.hd z hl r x;refine OC (ht [] T (start N vs) H _ I hq) (λfl s' l=> ?_) λe s' l=>l
 have p:∀{g :St}{h :Hp}{v:V}{u:Value},Inv (sw CX P w K D base N qual scope f c A a s H E) [] g h s' ->RelV v u->Q v h ->CE a P w H s Q u s' :=
  fun{g h v u} J G q=>⟨v,h,J.os,J.bare,J.base,J.hok,G,q⟩
 cases fl with
 |ret u =>
  obtain⟨v,g,h,J,G,q⟩:=l;exact p J G q
 |next =>
  obtain⟨g,h,J,q⟩:=l;exact p (v:=V.non) (u:=Value.none) J rfl q
 |brk =>
  obtain⟨_,_,_,q⟩:=l;exact False.elim q
 |cont =>
  obtain⟨_,_,_,q⟩:=l;exact False.elim q
section
variable{X:Cx}{x:Str}{p pos:Pos}{e:Expr}{es:List Expr}{t:TA}{id T:String}{r:List V->Hp->VK->Prop}
def tCB(r:List V->Hp->VK->Prop)(t:TA):TE:=λa H Q=>t a H λvs b=>r vs b Q
theorem bi(i:bV X (.builtin id) r)(w:Gl X x)(f:X.mg x=none)(m:bootBuiltins x=some (.builtin id))(k:PA X (e::es) t)(g:x≠"__name__":=by decide)(b:(x==("__debug__":Str))=false:=by decide)
  (j:starEach (e::es) X.env=(false,eval e X.env)::starEach es X.env:=by rfl) (c:(backTo pos (starEach es X.env)).any (·.1)=false:=by rfl):PE X (.Call (.Name x p) (e::es) [] pos) (tCB r t):=by
 intro a s d H Q I h;refine wpAny_Call_Name_kw (dE I w f m ?_ g b);exact PyProof.Rows.callWith_builtin1 (al (k pos a s d H _ I h) λu l ⟨vs,n,o,q,v⟩=>i a l d n vs u Q o q v) j c
theorem cq(i:bV X (.type T) r)(w:Gl X x)(f:X.mg x=none)(m:bootBuiltins x=some (.type T))(k:PA X (e::es) t)(g:x≠"__name__":=by decide)(b:(x==("__debug__":Str))=false:=by decide)
  (j:starEach (e::es) X.env=(false,eval e X.env)::starEach es X.env:=by rfl) (c:(backTo pos (starEach es X.env)).any (·.1)=false:=by rfl):PE X (.Call (.Name x p) (e::es) [] pos) (tCB r t):=by
 intro a s d H Q I h;refine wpAny_Call_Name_kw (dE I w f m ?_ g b);exact NY (al (k pos a s d H _ I h) λu l ⟨vs,n,o,q,v⟩=>i a l d n vs u Q o q v) j c
end
end L2
namespace HT
open PySem PyProof.Rows
noncomputable def lexLt:List Int->List Int->Bool
 |[],[]=>false|[],_::_=>true|_::_,[]=>false|x::xs,y::ys=>if x=y then lexLt xs ys else decide (x<y)
theorem ur(x y:Int)(xs a:List Int):lexLt (x::xs) (y::a)=if x=y then lexLt xs a else decide (x<y):=rfl
theorem mr:lexLt [] []=false:=rfl
theorem lX(y:Int)(a:List Int):lexLt [] (y::a)=true:=rfl
theorem lY(x:Int)(xs:List Int):lexLt (x::xs) []=false:=rfl
set_option tactic.hygienic false
theorem Bn(A:Around)(s:Shared)(a:Int)(t:Tok)(c:Int)(u:Tok):∃e,SeqAt.EqAt A s (.int a t) (.int c u) e/\(e=true↔a=c) := ⟨(a==c),SeqAt.EqAt.int_int a t c u,by simp⟩
theorem AH(A:Around)(s:Shared)(a:Int)(t:Tok)(c:Int)(u:Tok)(prog:Program)(w:World)(E:Value->Shared->Prop)(Q:Value->Shared->Prop)(h:Q (.bool (decide (a<c))) s) :
  wpAny (model prog w) A (richCompare .Lt (.int a t) (.int c u)) Q E s :=
 (PyProof.Rows.lt_int h:wpAny (model prog w) A (compareOp .Lt (.int a t) (.int c u)) Q E s)
section
open PySem.SeqAt
open PySem.AutoSeq1 (wpAny_loadPart')
open PySem.MeetsSeq PySem.MeetsSeq2 PySem.MeetsSeq3
theorem me(l b:Addr)(i f:Array Value)(n Y:Nat)(T K:Option Addr)(V M:Array (Option Value))(I G:List Int)(Q:IntsAre i.toList I)(N:IntsAre f.toList G) :
  Meets (Builtin.«tuple.__lt__» ⟨[.ref l,.ref b],[]⟩)
   (λ_ R s=>s.heap.get? l=some {cls:=.type "tuple",dict:=T,data:=.seq i n,slots:=V}/\s.heap.get? b=some {cls:=.type "tuple",dict:=K,data:=.seq f Y,slots:=M} /\ R (.ok (.ret (.bool (lexLt I G)))) s) :=
 .of_wp λprog w A R s h=>by
  obtain⟨H,g,d,F,J⟩:=s;obtain⟨U,W,h⟩:=h;have f2:=PY;have Z:i.size=I.length:=by rw[<- Q.length];simp
  have z2:f.size=G.length:=by rw[<- N.length];simp
  wp_walk using OH U,OH W,wpAny_forIn_list _ (λP b s' =>b.1=none/\s' =⟨H,g,d,F,J⟩/\∃(vs E:List Value)(m k :List Int),P=vs.zip E /\ IntsAre vs m /\IntsAre E k /\m.length+f.size=k.length+i.size/\R (.ok (.ret (.bool (lexLt m k)))) ⟨H,g,d,F,J⟩) _
  case turn =>
   rintro⟨y,x⟩ P b s' ⟨B,rfl,vs,E,m,k,p,z,o,j,r⟩;cases z with
   |nil=>rw[List.zip_nil_left]at p;cases p|cons a t D =>
    cases o with
    |nil=>rw[Py]at p;cases p|cons c u C =>
     rw[Pz]at p
     injection p with hyx hrest
     injection hyx with hy hx
     subst hy hx;rw[ur]at r;simp only[Ma]at j;obtain⟨e,S,v⟩:=Bn A.in1 ⟨H,g,d,F,J⟩ a t c u;refine MQ (S prog w _ _ ?_);cases e with
     |true =>
      rw[MX (v.mp rfl)]at r
      wp_walk
      exact⟨rfl,rfl,_,_,_,_,hrest,D,C,by omega,r⟩
     |false =>
      rw[MV (λq=>absurd (v.mpr q) Mc)]at r;have L:=AH A.in1 ⟨H,g,d,F,J⟩ a t c u prog w
      wp_walk using L
      exact⟨_,rfl,by simpa using r⟩
  case fin =>
   rintro⟨b1,b2⟩ s' ⟨B,rfl,vs,E,m,k,p,z,o,j,r⟩;simp only at B;subst B;have O:lexLt m k =decide (i.size<f.size):=by
    cases z with
    |nil =>
     cases o with
     |nil =>
      simp only[ON]at j;rw[mr];exact(Mq (by omega)).symm
     |cons c u X =>
      simp only[ON,Ma]at j;rw[lX];exact(Mj (by omega)).symm
    |cons a t O =>
     cases o with
     |nil =>
      simp only[ON,Ma]at j;rw[lY];exact(Mq (by omega)).symm
     |cons c u X =>
      rw[Pz]at p;cases p
   rw[O]at r
   wp_walk
   exact⟨_,rfl,by simpa [Builtin.Tuple.tupleCompareSizes]using r⟩
  case h =>
   exact⟨rfl,rfl,i.toList,f.toList,I,G,rfl,Q,N,by omega,h⟩
end
section
variable{prog:Program}{w:World}{A:Around}{E:Value->Shared->Prop}{s:Shared}
theorem uq(v:IsTup s.heap l c)(B:IsTup s.heap b a)(C:IntsAre c.toList g)(u:IntsAre a.toList f)
  (t:A.units<cLine) (h:Q (.bool (lexLt g f)) s):wpAny (model prog w) A (compareOp .Lt (.ref l) (.ref b)) Q E s:=by
 obtain⟨⟨cls,y,data,z⟩,r,p,n,o⟩:=id v;obtain⟨⟨q,k,j,m⟩,i,e,D,d⟩:=id B;simp only at p o e d;subst p o e d
 exact Ph (op:=.Lt) ⟨_,r,rfl⟩ ⟨_,i,rfl⟩ PySem.F.slot_tuple_lt PySem.F.entry_tuple_lt (PySem.F.args_tuple_lt_2 _ _) (me l b c a n D y k z m g f C u)
  ⟨r,i,show Value.bool (lexLt g f)≠Value.notImplemented/\Q (.bool (lexLt g f)) s from⟨(λx=>nomatch x),h⟩⟩ t
theorem EV(z:IsTup s.heap t vs.toArray)(v:IsTup s.heap b a.toArray)(o:vs≠[])
  (x:a=[]->Q (.ref t) s) (y:a≠[]->Q (.ref s.heap.objs.size) {s with heap:=s.heap.push {cls:=.type "tuple",data:=.seq (vs++a).toArray}})
  (hsz:vs.length+a.length<=sizeLine):wpAny (model prog w) A (binaryOp .Add (.ref t) (.ref b)) Q E s:=by
 obtain⟨⟨cls,p,data,q⟩,i,m,n,l⟩:=id z;obtain⟨⟨r,g,k,h⟩,c,f,u,d⟩:=id v;simp only at m l f d;subst m l f d;have e:vs.toArray++a.toArray=(vs++a).toArray:=by simp
 by_cases j:a=[]
 ·exact concat_meets ⟨_,i,rfl⟩ ⟨_,c,rfl⟩ noFill_tuple_add seq_tuple_add PySem.F.slot_tuple_add PySem.F.entry_tuple_add (P8 _ _)
   (tuple_addW1 t b vs.toArray a.toArray n u p g q h (by simpa using o) (by simp[j])) ⟨i,c,x j⟩
 ·refine concat_meets ⟨_,i,rfl⟩ ⟨_,c,rfl⟩ noFill_tuple_add seq_tuple_add PySem.F.slot_tuple_add PySem.F.entry_tuple_add (P8 _ _)
   (tuple_addW2 t b vs.toArray a.toArray n u p g q h (by simpa using o) (by simpa using j) (by rw[Mn,Mn];exact hsz)) ⟨i,c,?_⟩
  rw[e];exact y j
noncomputable def bh(n d:Nat):Option Int->Nat
 |none=>d|some v=>if v<0 then(v+(n:Int)).toNat else min v.toNat n
theorem qy(n d:Nat):bh n d none=d:=rfl
theorem kL(n d k:Nat):bh n d (some (k:Int))=min k n:=by show(if(k:Int)<0 then((k:Int)+(n:Int)).toNat else min (k:Int).toNat n)=min k n;rw[MV (by omega),Nt]
theorem GA(n d:Nat)(b:d<=n)(o:Option Int):bh n d o<=n:=by
 cases o with
 |none=>exact b|some v =>
  show(if v<0 then(v+(n:Int)).toNat else min v.toNat n)<=n
  by_cases a:v<0;rw[MX a];omega;rw[MV a];exact Nat.min_le_right _ _
theorem xN(v:Int)(n d:Nat):(if v<0 then max (v+(n:Int)) 0 else min v (n:Int))=((bh n d (some v):Nat):Int):=by
 show(if v<0 then max (v+(n:Int)) 0 else min v (n:Int))=(((if v<0 then(v+(n:Int)).toNat else min v.toNat n):Nat):Int)
 by_cases a:v<0;simp only[MX a];omega;simp only[MV a];omega
theorem vf(lo hi:Option Int)(n:Nat):Builtin.Slice.sliceAdjust lo hi 1 (n:Int)=(((bh n 0 lo:Nat):Int),((bh n n hi:Nat):Int)):=by
 have h1:¬((1:Int)<0):=by omega
 unfold Builtin.Slice.sliceAdjust;simp only[h1,PR];refine Prod.ext ?_ ?_
 ·cases lo with
  |none=>rfl|some v=>exact xN v n 0
 ·cases hi with
  |none=>rfl|some v=>exact xN v n n
theorem uX(i j:Nat):Builtin.Slice.slicePlaces (i:Int) (j:Int) 1=j-i:=by
 unfold Builtin.Slice.slicePlaces;have a:(1:Int)>0:=by omega
 simp only[a,Pe,Int.ediv_one]
 split<;>omega
theorem kq(p:IsPart v o)(h:Q o s):wpAny (model prog w) A (Builtin.Slice.slicePartIndex v) Q E s:=by
 cases p with
 |none=>exact slicePart_none h|int i t=>exact slicePart_int h
theorem eB{sl:Addr}{vl vu:Value}{lo hi:Option Int}{n:Nat}{Q:Int×Int×Nat->Shared->Prop}(hs:s.heap.IsSliceOf sl vl vu .none)(pl:IsPart vl lo)(pu:IsPart vu hi)
  (h:Q (((bh n 0 lo:Nat):Int),1,bh n n hi-bh n 0 lo) s):wpAny (model prog w) A (Builtin.Slice.sliceApplied (.ref sl) (pure (n:Int))) Q E s:=by
 obtain⟨os,hos,hcs,hds⟩:=id hs;unfold Builtin.Slice.sliceApplied Builtin.Slice.sliceFields;refine MQ (MQ (Od hos hds (x:=vl) rfl (MQ (Od hos hds (x:=vu) rfl (MQ (Od hos hds (x:=.none) rfl (MU ?_)))))));refine MQ (slicePart_none ?_);show wpAny _ _ (if((1:Int)==0)=true then _ else _) _ _ s;rw[MV (by decide)];refine MQ (kq pl (MQ (kq pu (MQ (MU ?_)))));show wpAny _ _ (match Builtin.Slice.sliceAdjust lo hi 1 (n:Int)with|(lo,hi)=>pure (lo,(1:Int),Builtin.Slice.slicePlaces lo hi 1)) _ _ s;rw[vf lo hi n];show wpAny _ _ (pure (((bh n 0 lo:Nat):Int),(1:Int),Builtin.Slice.slicePlaces ((bh n 0 lo:Nat):Int) ((bh n n hi:Nat):Int) 1)) _ _ s;rw[uX];exact MU h
theorem Ab(xs:Array Value)(i k:Nat):((List.range k).filterMap fun(m:Nat)=>xs[((i:Int)+(m:Int)*1).toNat]?).toArray=((xs.toList.drop i).take k).toArray:=by
 have e:(fun(m:Nat)=>xs[((i:Int)+(m:Int)*1).toNat]?)=λm=>xs[i+m]? :=by
  funext m
  have:((i:Int)+(m:Int)*1).toNat=i+m:=by omega
  rw[this]
 rw[e];have:=pick_run xs i k;rw[List.filterMap_map]at this;have a:((λx=>xs[x]?)∘λx=>i+x)=λm=>xs[i+m]? :=rfl;rw[a]at this;rw[this]
theorem iI{t j:Addr}{a:Array Value}{n k:Value}{lo c:Option Int}{Q:Value->Shared->Prop}(d:IsTup s.heap t a)(l:s.heap.IsSliceOf j n k .none)(o:IsPart n lo)(r:IsPart k c)
  (p:¬(bh a.size 0 lo=0/\bh a.size a.size c=a.size))
  (h:Q (.ref s.heap.objs.size) {s with heap:=s.heap.push {cls:=.type "tuple",data:=.seq ((a.toList.drop (bh a.size 0 lo)).take (bh a.size a.size c-bh a.size 0 lo)).toArray}})
  (hsz:a.size<=sizeLine):wpAny (model prog w) A (getItem (.ref t) (.ref j)) Q E s:=by
 have b:sizeOk (.seq ((a.toList.drop (bh a.size 0 lo)).take (bh a.size a.size c-bh a.size 0 lo)).toArray):=by
  show((a.toList.drop (bh a.size 0 lo)).take (bh a.size a.size c-bh a.size 0 lo)).toArray.size<=sizeLine;rw[Mn,Nz,OU,M5];omega
 have x:bh a.size a.size c<=a.size:=GA _ _ (Md _) c;obtain⟨v,g,i,u⟩:=id l;have e:s.TypeIs (.ref j) "slice":=⟨v,g,i⟩;unfold getItem
 try with_reducible refine OA ?_
 first|refine MQ (MU ?_)|skip
 refine MQ (wpAny_sequenceKey d.typeIs (by decide) ?_)
 refine MQ (Nf (name:=Str.ofString "__getitem__") d.typeIs NX (NP NX d.typeIs entry_tuple_getitem ?_ (args_tuple_getitem _ _)))
 show wpAny _ _ (Builtin.Tuple.tupleItemsOf (.ref t) >>= _) _ _ s;refine MQ (tupleItemsOf_ d ?_);refine MQ (Pf e ?_);rw[MX (by decide)];refine MQ (eB l o r ?_);have f:¬((((bh a.size 0 lo:Nat):Int)==0&&(1:Int)==1&&(bh a.size a.size c-bh a.size 0 lo)==a.size)=true):=by
  intro q;rw[MY,MY]at q;have z:((bh a.size 0 lo:Nat):Int)=0:=M0 q.1.1;have y:bh a.size a.size c-bh a.size 0 lo=a.size:=M0 q.2;exact p ⟨by omega,by omega⟩
 show wpAny _ _ (if(((bh a.size 0 lo:Nat):Int)==0&&(1:Int)==1&&(bh a.size a.size c-bh a.size 0 lo)==a.size)=true then _ else _) _ _ s;rw[MV f,Ab]
 first
  |exact MQ (m:=Builtin.Tuple.tupleExact _) (NO (MU ⟨_,rfl,MU h⟩) b)
  |exact MQ (m:=Builtin.Tuple.tupleExact _) (NO (MQ (MU (MU ⟨_,rfl,MU h⟩))) b)
  |exact MQ (MQ (m:=Builtin.Tuple.tupleExact _) (NO (MU (MU ⟨_,rfl,MU h⟩)) b))
  |exact MQ (MQ (m:=Builtin.Tuple.tupleExact _) (NO (MU ⟨_,rfl,MU h⟩) b))
end
end HT
namespace L2
open PySem PySem.Spec PyProof.Rows
noncomputable abbrev TO:=St->Hp->(Option Int->Hp->Prop)->Prop
def PO(X:Cx)(e:Option Expr)(t:TO):Prop :=
 ∀(a:List (Addr×Obj))(s:Shared)(b:St)(H:Hp)(Q:Option Int->Hp->Prop),Inv X a b H s->t b H Q -> wpAny (model X.prog X.w) X.A (evalPart e X.env) (λu s' =>∃o c,Inv X a b c s' /\IsPart u o/\Q o c) X.xe s
noncomputable def Cv:TO:=λ_ H Q=>Q none H
noncomputable def Jv(t:TE):TO:=λa H Q=>t a H λx b=>∃i,x=.int i/\Q (some i) b
set_option tactic.hygienic false
theorem intsAre_of:∀{b:List Value},aU (a.map V.int) b->IntsAre b a:=by
 induction a with
 |nil=>intro b r;rw[N2]at r;cases r;exact .nil|cons n a f =>
  intro b r;rw[Mg]at r;cases r with
  |cons d c =>
   obtain⟨t,e⟩:=d;subst e;exact .cons n t (f c)
section
variable{X:Cx}{e:Expr}{te:TE}{lo hi:Option Expr}{tl th:TO}{pos p2:Pos}
theorem DM:PO X none Cv:=by intro a s b H Q I h;rw[evalPart_none];exact MU ⟨none,H,I,.none,h⟩
theorem DL(h:PE X e te):PO X (some e) (Jv te):=by intro a s c H Q I f;rw[evalPart_some];refine al (h a s c H _ I f) λu l b=> ?_;obtain⟨x,d,g,j,k⟩:=b;obtain⟨i,rfl,q⟩:=k;obtain⟨t,rfl⟩:=j;exact⟨some i,d,g,.int i t,q⟩
def Lp(X:Cx)(r:V->Option Int->Option Int->Hp->VK->Prop):Prop :=
 ∀(a:List (Addr×Obj))(s:Shared)(b:St)(H:Hp)(x:V)(v c f:Value)(lo g:Option Int)(d:Addr)(Q:VK),Inv X a b H s->RelV x v->s.heap.IsSliceOf d c f .none->IsPart c lo->IsPart f g->r x lo g H Q -> ∃T h,typeLookup (.type T) "__getitem__"=pure (some (.builtin h))/\s.TypeIs v T/\wpAny (model X.prog X.w) X.A (getItem v (.ref d)) (EP X a b Q) X.xe s
def tSl(r:V->Option Int->Option Int->Hp->VK->Prop)(g:TE)(b c:TO):TE:=λa H Q=>g a H λx f=>b a f λl h=>c a h λu d=>r x l u d Q
theorem Af(N:Lp X r)(t:PE X e te)(C:PO X lo tl)(k:PO X hi th):PE X (.Subscript e (.Slice lo hi none p2) pos) (tSl r te tl th):=by intro a s f H Q I h;refine Subscript_ (al (t a s f H _ I h) λv z d=> ?_);obtain⟨x,F,J,K,M⟩:=d;refine wpAny_Slice (al (C a z f F _ J M) λi m ⟨l,p,o,G,D⟩=>al (k a m f p _ o D) λg c d=> ?_);obtain⟨u,j,n,L,y⟩:=d;rw[evalPart_none];refine MU ?_;have E:Inv X a f j {c with heap:=c.heap.push {cls:=.type "slice",data:=.fields #[i,g,.none]}}:=n.kept (t' :=c.toks) λb S q=>MW _ q;obtain⟨T,R,B,O,P⟩:=N a {c with heap:=c.heap.push {cls:=.type "slice",data:=.fields #[i,g,.none]}} f j x v i g l u c.heap.objs.size Q E K (Heap.IsSliceOf.new ..) G L y;show wpAny (model X.prog X.w) X.A (subscriptTail e (.Slice lo hi none p2) v (.ref c.heap.objs.size)) (EP X a f Q) X.xe {c with heap:=c.heap.push {cls:=.type "slice",data:=.fields #[i,g,.none]}};exact tail_any (ops:=[.ref c.heap.objs.size,v]) O B P (by with_unfolding_all rfl)
noncomputable def sx(xs:List V)(lo a:Option Int):List V:=(xs.drop (HT.bh xs.length 0 lo)).take (HT.bh xs.length xs.length a-HT.bh xs.length 0 lo)
theorem jz(xs:List V)(lo a:Option Int):(sx xs lo a).length<=xs.length:=by unfold sx;rw[Nz,OU];omega
noncomputable def rSlT(K:W.Frag):V->Option Int->Option Int->Hp->VK->Prop:=λx lo b H Q=>∃a xs,x=.ref a/\bg K H a xs /\ ¬(HT.bh xs.length 0 lo=0/\HT.bh xs.length xs.length b=xs.length)/\∀p,H p=none->Q (.ref p) (upd H p (.tup (sx xs lo b)))
theorem F7:Lp X (rSlT X.K):=by
 intro g s y H x v z u lo f A Q I m l n t h;obtain⟨a,xs,rfl,k,p,q⟩:=h;cases m;obtain⟨d,r,j,i⟩:=I.tuple k;have c:d.toArray.size=xs.length:=by rw[Mn];exact r.length.symm
 refine⟨"tuple",_,NX.lookup,j.typeIs,?_⟩;refine HT.iI j l n t (by rw[c];exact p) ?_ (by rw[c];exact i);rw[c];refine⟨.ref s.heap.objs.size,_,I.laid (t' :=s.toks) (o:=.tup (sx xs lo f)) (λb w q=>MW _ q) (Md _) ?_,rfl,q _ (I.hok.fresh (Md _))⟩;exact⟨M8 (jz xs lo f) i,_,(r.drop (HT.bh xs.length 0 lo)).take (HT.bh xs.length xs.length f-HT.bh xs.length 0 lo),fX.new _ _⟩
def GR(K:W.Frag):R2:=λx y H Q=>∃a b d c,x=.ref a/\y=.ref b/\bg K H a (d.map V.int)/\bg K H b (c.map V.int)/\Q (.bl (HT.lexLt d c)) H
theorem Ak(j:X.A.units<cLine):dk X (compareOp .Lt) (GR X.K):=by intro f s B H x y v u Q I n k h;obtain⟨a,b,i,g,rfl,rfl,l,o,q⟩:=h;cases n;cases k;obtain⟨d,t,p,_⟩:=I.tuple l;obtain⟨c,r,w,_⟩:=I.tuple o;have m:IntsAre d.toArray.toList i:=intsAre_of t;have z:IntsAre c.toArray.toList g:=intsAre_of r;exact HT.uq p w m z j ⟨.bl (HT.lexLt i g),H,I,rfl,q⟩
def KZ(K:W.Frag):R2:=λx y H Q=>∃a b xs c,x=.ref a/\y=.ref b/\bg K H a xs/\bg K H b c/\xs≠[]/\xs.length+c.length<=sizeLine /\ (c=[]->Q (.ref a) H)/\(c≠[]->∀p,H p=none->Q (.ref p) (upd H p (.tup (xs++c))))
theorem aU.nil_iff(r:aU xs a):a=[]↔xs=[]:=by
 cases r with
 |nil=>simp|cons _ _=>simp
theorem DV:dk X (binaryOp .Add) (KZ X.K):=by intro g s E H x y v u Q I p j h;obtain⟨a,b,xs,C,rfl,rfl,k,r,l,i,B,n⟩:=h;cases p;cases j;obtain⟨m,d,t,_⟩:=I.tuple k;obtain⟨f,c,A,_⟩:=I.tuple r;refine HT.EV t A (λz=>l (d.nil_iff.mp z)) (λz=>⟨.ref a,H,I,rfl,B (c.nil_iff.mp z)⟩) (λz=> ?_) (by rw[<- d.length,<-c.length];exact i);refine⟨.ref s.heap.objs.size,_,I.laid (t' :=s.toks) (o:=.tup (xs++C)) (λb D q=>MW _ q) (Md _) ?_,rfl,n (λw=>z (c.nil_iff.mpr w)) _ (I.hok.fresh (Md _))⟩;exact⟨by rw[Ml];exact i,_,d.append c,fX.new _ _⟩
end
noncomputable def tY(n:Nat)(i:Int):Option Nat:=if 0<=i then(if i<n then some i.toNat else none)else if -(n:Int)<=i then some (i+n).toNat else none
noncomputable def dI{a:Type}(xs:List a)(i:Int):Option a:=(tY xs.length i).bind λj=>xs[j]?
theorem wm(h:tY n i=some j):seqIndex? i n=some j/\j<n/\ -(n:Int)<=i/\i<n:=by
 unfold tY at h
 by_cases h0:0<=i
 ·rw[MX h0]at h
  by_cases a:i<n
  ·rw[MX a]at h
   have e:i.toNat=j:=Mv h;exact⟨by rw[seqIndex_of h0 a,e],by omega,by omega,a⟩
  ·rw[MV a]at h;cases h
 ·rw[MV h0]at h
  by_cases a: -(n:Int)<=i
  ·rw[MX a]at h
   have e:(i+n).toNat=j:=Mv h;exact⟨by rw[seqIndex_neg (by omega) a,e],by omega,a,by omega⟩
  ·rw[MV a]at h;cases h
theorem qC{a:Type}{xs:List a}{i:Int}{v:a}(h:dI xs i=some v):∃j,seqIndex? i xs.length=some j/\xs[j]? =some v/\j<xs.length/\ -(xs.length:Int)<=i/\i<xs.length:=by
 unfold dI at h;cases e:tY xs.length i with
 |none=>rw[e]at h;cases h|some j =>
  rw[e]at h;obtain⟨c,f,b,d⟩:=wm e;exact⟨j,c,h,f,b,d⟩
theorem bI{a:Type}{xs:List a}{j:Nat}{v:a}(h:xs[j]? =some v):dI xs (j:Int)=some v:=by
 have b:j<xs.length:=(Mk.mp h).1;have e:tY xs.length (j:Int)=some j:=by
  unfold tY;rw[MX (by omega),MX (by omega)];simp
 unfold dI;rw[e];exact h
theorem CM{a:Type}(xs:List a)(v:a):dI (xs++[v]) (-1)=some v:=by
 have b:(xs++[v]).length=xs.length+1:=by simp
 have e:tY (xs++[v]).length (-1)=some xs.length:=by
  unfold tY;rw[b,MV (by decide),MX (by omega)]
  congr 1
  omega
 unfold dI;rw[e];show(xs++[v])[xs.length]? =some v;simp
def xS(b:Expr):Prop:=∀o i,subscripted b false o i=operate [o,i] (getItem o i)
def MG(X:Cx)(r:R2):Prop :=
 ∀(c a:Expr)(b:List (Addr×Obj))(s:Shared)(d:St)(H:Hp)(x y:V)(v u:Value)(Q:VK),Inv X b d H s->RelV x v->RelV y u->r x y H Q -> subscripted a false v u=operate [v,u] (getItem v u)->wpAny (model X.prog X.w) X.A (subscriptTail c a v u) (EP X b d Q) X.xe s
def MtR(X:Cx)(d:String)(r:V->List V->Hp->VK->Prop):Prop :=
 ∀(a:List (Addr×Obj))(s:Shared)(b:St)(H:Hp)(x:V)(xs:List V)(v:Value)(c:List Value)(Q:VK),Inv X a b H s->RelV x v->aU xs c->r x xs H Q -> wpAny (model X.prog X.w) X.A (call (.builtin d) (v::c)) (EP X a b Q) X.xe s
section
variable{X:Cx}{a b:Expr}{ta tb:TE}{pos:Pos}
theorem nY(n:MG X r)(i:PE X a ta)(m:PE X b tb)(j:xS b):PE X (.Subscript a b pos) (tOp r ta tb):=by intro c s k H Q I h;exact Subscript_ (Ir i m I h λv u d x y g f l e q=>n a b c d k g x y v u Q f l e q (j _ _))
def rIxL(K:W.Frag):R2:=λx y H Q=>∃p xs i v,x=.ref p/\y=.int i/\bR K H p xs/\dI xs i=some v/\Q v H
def rIxT(K:W.Frag):R2:=λx y H Q=>∃p xs i v,x=.ref p/\y=.int i/\bg K H p xs/\dI xs i=some v/\Q v H
def rIxS:R2:=λx y H Q=>∃z i c,x=.str z/\y=.int i/\z.length<=sizeLine/\dI z.cps.toList i=some c/\Q (.str ⟨#[c]⟩) H
theorem eS:MG X (rIxL X.K):=by
 intro m g c s A H x y v u Q I G C h B;obtain⟨p,xs,i,z,rfl,rfl,D,E,q⟩:=h;cases G;obtain⟨t,rfl⟩:=C;obtain⟨k,r,n,P⟩:=I.list D;obtain⟨j,e,M,N,L,J⟩:=qC E;obtain⟨w,o,f⟩:=r.get M;have F:=r.length;have O:=gS;have d:EP X c A Q w s:=⟨z,H,I,f,q⟩
 by_cases h0:0<=i
 ·have l:i.toNat=j:=by
   rw[seqIndex_of h0 J]at e;exact Mv e
  exact item_listR n.isList h0 (by omega) (by rw[l];simpa using o) d B
 ·have l:(i+(k.toArray.size:Int)).toNat=j:=by
   rw[seqIndex_neg (by omega) L]at e;rw[Mn,<-F];exact Mv e
  exact subscriptTail_builtinR (x:=w) n.isList.typeIs slot_list_getitem.lookup
   (wpAny_getItem_list_neg (Q:=λr s' =>r=w/\EP X c A Q r s') n.isList (by omega) (by rw[Mn]<;>omega) (by omega) (by rw[l];simpa using o) ⟨rfl,d⟩) B
theorem BJ:MG X (rIxT X.K):=by
 intro g e c s k H x y v u Q I E m h D;obtain⟨p,xs,i,z,rfl,rfl,n,o,q⟩:=h;cases E;obtain⟨t,rfl⟩:=m;obtain⟨A,r,l,N⟩:=I.tuple n;obtain⟨j,F,G,J,O,M⟩:=qC o;obtain⟨w,B,d⟩:=r.get G;have C:=r.length;have L:=gS;have f:EP X c k Q w s:=⟨z,H,I,d,q⟩
 exact subscriptTail_builtinR (x:=w) l.typeIs slot_tuple_getitem.lookup
  (getItem_tuple (j:=j) (Q:=λr s' =>r=w/\EP X c k Q r s') l (by omega) (by omega) (by rw[Mn,<-C];exact F) (by simpa using B) ⟨rfl,f⟩) D
theorem BK:MG X rIxS:=by
 intro e d f s E H x y v u Q I p k h o;obtain⟨z,i,c,rfl,rfl,F,m,q⟩:=h;obtain⟨t,rfl⟩:=p;obtain⟨t',rfl⟩:=k;obtain⟨j,g,B,C,A,w⟩:=qC m;have n:z.cps.toList.length=z.length:=by simp[Str.length]
 rw[n]at g A w;have D:=gS
 exact tail_any (typeIs_str s z t) slot_str_getitem.lookup (getItem_str (c:=c) (by
  have r:decide (i< -(2^63:Int))=false:=Mq (by omega);have l:decide (i ≥ 2^63)=false:=Mq (by omega);rw[r,l,Bool.or_false]) (by rw[g];simpa using B) ⟨.str ⟨#[c]⟩,H,I.tok _,⟨_,rfl⟩,q⟩) o
theorem uo(c:List Value)(n j:Nat)(u:Value):Obj.mapSeq (·.setIfInBounds j u) {cls:=.type "list",data:=.seq c.toArray n}={cls:=.type "list",data:=.seq (c.set j u).toArray n}:=by simp[Obj.mapSeq]
theorem Inv.lst{d:List (Addr×Obj)}{f:St}{H:Hp}{s:Shared}{p:Addr}{xs:List V}(I:Inv X d f H s)(h:H p=some (.lst xs)) :
  ∃(c:List Value)(n:Nat),aU xs c/\s.heap.get? p=some {cls:=.type "list",data:=.seq c.toArray n}/\xs.length<=sizeLine:=by
 obtain⟨z,c,n,r,e⟩:=I.hok p _ h;exact⟨c,n,r,e,z⟩
theorem Inv.lstUpd{s:Shared}{g:List V}{d its':List Value}(I:Inv X c j H s)(h:H p=some (.lst xs))
  (o:s.heap.get? p=some {cls:=.type "list",data:=.seq d.toArray n}) (k:f {cls:=.type "list",data:=.seq d.toArray n}={cls:=.type "list",data:=.seq its'.toArray i}) (r:aU g its') (m:g.length<=sizeLine) (t:Nat) :
  Inv X c j (upd H p (.lst g)) {s with heap:=s.heap.update p f,toks:=t}:=by
 have e:(s.heap.update p f).get? p=some {cls:=.type "list",data:=.seq its'.toArray i}:=by
  rw[NQ f o (by rw[k]<;>rfl),k]
 refine I.write (x:=p) (e:=p) (by rw[h];trivial) (.inl rfl) (λb u l q=>(NR _ _ (Nv l)).trans q) ⟨_,e⟩ ?_;exact⟨m,its',i,r,e⟩
noncomputable def KW:V->V->V->Hp->(Hp->Prop)->Prop:=λo i v H Q=>∃p xs k j,o=.ref p/\i=.int k/\H p=some (.lst xs)/\tY xs.length k=some j/\Q (upd H p (.lst (xs.set j v)))
theorem zy:Lr X KW:=by
 intro c s C H o i v G J u Q I E B z h;obtain⟨p,xs,k,j,rfl,rfl,w,A,q⟩:=h;cases E;obtain⟨t,rfl⟩:=B;obtain⟨d,n,r,l,D⟩:=I.lst w;obtain⟨e,K,m,x⟩:=wm A;have g:=r.length;have F:=gS
 have y :Inv X c C (upd H p (.lst (xs.set j v))) {s with heap:=s.heap.update p (Obj.mapSeq (·.setIfInBounds j u))} :=
  I.lstUpd w l (uo d n j u) (r.set z j) (by rw[N7];exact D) s.toks
 by_cases h0:0<=k
 ·have f:k.toNat=j:=by
   rw[seqIndex_of h0 x]at e;exact Mv e
  exact W.ki_setAt l h0 (by omega) (by rw[Mn,<-g];exact x) (by rw[f];exact⟨_,y,q⟩)
 ·have f:(k+(d.toArray.size:Int)).toNat=j:=by
   rw[seqIndex_neg (by omega) m]at e;rw[Mn,<-g];exact Mv e
  exact W.ki_setBack l (by omega) (by rw[Mn,<-g];exact m) (by omega) (by rw[f];exact⟨_,y,q⟩)
theorem oq(lo c:Option Int)(n:Nat):(sliceBounds lo c none n).1=((HT.bh n 0 lo:Nat):Int)/\(sliceBounds lo c none n).2.1=((HT.bh n n c:Nat):Int)/\(sliceBounds lo c none n).2.2=1:=by
 refine⟨?_,?_,rfl⟩
 ·cases lo with
  |none=>simp[sliceBounds,HT.bh]|some i =>
   simp only[sliceBounds,HT.bh,Option.getD_none,show(1:Int)>0 by decide,Pe]
   by_cases h:i<0;simp only[h,Pe]<;>omega;simp only[h,PR]<;>omega
 ·cases c with
  |none=>simp[sliceBounds,HT.bh]|some i =>
   simp only[sliceBounds,HT.bh,Option.getD_none,show(1:Int)>0 by decide,Pe]
   by_cases h:i<0;simp only[h,Pe]<;>omega;simp only[h,PR]<;>omega
theorem mh(c:List Value)(lo d:Option Int):slicePick c.toArray lo d none=((c.drop (HT.bh c.length 0 lo)).take (HT.bh c.length c.length d-HT.bh c.length 0 lo)).toArray:=by obtain⟨f,g,e⟩:=oq lo d c.toArray.size;unfold slicePick;rw[f,g,e];simp only[sliceRange_one,pick_run,Mn]<;>rfl
noncomputable def rSlL(K:W.Frag):V->Option Int->Option Int->Hp->VK->Prop:=λx lo c H Q=>∃a xs,x=.ref a/\bR K H a xs/\∀p,H p=none->Q (.ref p) (upd H p (.lst (sx xs lo c)))
theorem C3:Lp X (rSlL X.K):=by intro e s u H x v w p lo d y Q I k j m n h;obtain⟨a,xs,rfl,g,q⟩:=h;cases k;obtain⟨i,r,f,l⟩:=I.list g;have c:=r.length;refine⟨"list",_,slot_list_getitem.lookup,f.isList.typeIs,?_⟩;refine wpAny_getItem_list_slice f.isList j m n .none (by simp) ?_ (by rw[Mn]<;>omega);rw[mh,<-c];refine⟨.ref s.heap.objs.size,_,I.laid (t' :=s.toks) (o:=.lst (sx xs lo d)) (λb t q=>MW _ q) (Md _) ?_,rfl,q _ (I.hok.fresh (Md _))⟩;exact⟨M8 (jz xs lo d) l,_,0,(r.drop (HT.bh xs.length 0 lo)).take (HT.bh xs.length xs.length d-HT.bh xs.length 0 lo),Mr _ rfl⟩
noncomputable def fz:V->Bool
 | .non=>true| .bl _=>true| .int _=>true| .str _=>true|_=>false
noncomputable def zJ:V->V->Bool
 | .non,.non=>true| .bl a,.bl b=>a==b| .bl a,.int b=>(if a then 1 else 0)==b| .int a,.bl b=>a==(if b then 1 else 0)| .int a,.int b=>a==b| .str a,.str b=>a==b|_,_=>false
theorem IJ(e:RelV y u)(c:RelV x v)(f:fz y=true)(d:fz x=true):SeqAt.EqAt A s u v (zJ y x):=by
 cases y with
 |non =>
  cases e;cases x with
  |non=>cases c;exact SeqAt.EqAt.same _|bl b=>cases c;exact SeqAt.EqAt.none_bool b|int b=>obtain⟨t,rfl⟩:=c;exact SeqAt.EqAt.none_int b t
  |str b=>obtain⟨t,rfl⟩:=c;exact SeqAt.EqAt.none_str b t
  |_=>exact absurd (show false=true from d) Mc
 |bl a =>
  cases e;cases x with
  |non=>cases c;exact SeqAt.EqAt.bool_none a|bl b=>cases c;exact SeqAt.EqAt.bool_bool a b|int b=>obtain⟨t,rfl⟩:=c;exact SeqAt.EqAt.bool_int a b t
  |str b=>obtain⟨t,rfl⟩:=c;exact SeqAt.EqAt.bool_str a b t
  |_=>exact absurd (show false=true from d) Mc
 |int a =>
  obtain⟨t',rfl⟩:=e;cases x with
  |non=>cases c;exact SeqAt.EqAt.int_none a t'|bl b=>cases c;exact SeqAt.EqAt.int_bool a t' b|int b=>obtain⟨t,rfl⟩:=c;exact SeqAt.EqAt.int_int a t' b t
  |str b=>obtain⟨t,rfl⟩:=c;exact SeqAt.EqAt.int_str a t' b t
  |_=>exact absurd (show false=true from d) Mc
 |str a =>
  obtain⟨t',rfl⟩:=e;cases x with
  |non=>cases c;exact SeqAt.EqAt.str_none a t'|bl b=>cases c;exact SeqAt.EqAt.str_bool a t' b|int b=>obtain⟨t,rfl⟩:=c;exact SeqAt.EqAt.str_int a t' b t
  |str b=>obtain⟨t,rfl⟩:=c;exact SeqAt.EqAt.str_str a t' b t
  |_=>exact absurd (show false=true from d) Mc
 |_=>exact absurd (show false=true from f) Mc
noncomputable def EC(x:V)(u:Value):Bool:=match u with
 | .none=>zJ .non x| .bool b=>zJ (.bl b) x| .int i _=>zJ (.int i) x| .str z _=>zJ (.str z) x|_=>false
theorem Bm(r:RelV y u)(f:fz y=true):EC x u=zJ y x:=by
 cases y with
 |non=>cases r;rfl|bl b=>cases r;rfl|int i=>obtain⟨t,rfl⟩:=r;rfl
 |str z=>obtain⟨t,rfl⟩:=r;rfl
 |_=>exact absurd (show false=true from f) Mc
theorem qD{x:V}:∀{xs:List V}{c:List Value},aU xs c->xs.all fz=true->c.any (EC x)=xs.any λy=>zJ y x
 |_,_,.nil,_=>rfl|y::xs,u::c,.cons r t,f=>by
  rw[On,MY]at f;rw[PF,PF,Bm r f.1,qD t f.2]
theorem lU{A:Around}{s:Shared}{x:V}{v:Value}(e:RelV x v)(g:fz x=true):∀{xs:List V}{d:List Value},aU xs d->xs.all fz=true->∀u∈d,SeqAt.EqAt A s u v (EC x u)
 |_,_,.nil,_=>λu c=>by cases c|y::xs,u::d,.cons r t,f=>λh c=>by
  rw[On,MY]at f
  rcases Mh.mp c with rfl|c
  ·rw[Bm r f.1];exact IJ r e f.1 g
  ·exact lU e g t f.2 h c
noncomputable def inV(x:V)(xs:List V):Bool:=xs.any λy=>zJ y x
def rIn(K:W.Frag)(neg:Bool):R2:=λx y H Q=>∃p xs,y=.ref p/\(bR K H p xs\/bg K H p xs)/\fz x=true/\xs.all fz=true/\Q (.bl (if neg then !inV x xs else inV x xs)) H
theorem hV:dk X (compareOp .NotIn) (rIn X.K true):=by
 intro j s n H x y v u Q I k l h;obtain⟨p,xs,rfl,d,i,e,q⟩:=h;cases l
 rcases d with d|d
 ·obtain⟨c,r,f,m⟩:=I.list d
  refine SeqAt.notIn_listAt (EC x) f.isList (λw g=>lU k i r e w (by simpa using g)) ⟨.bl _,H,I,rfl,?_⟩;rw[show c.toArray.any (EC x)=c.any (EC x)by simp,qD r e];exact q
 ·obtain⟨c,r,f,m⟩:=I.tuple d
  refine SeqAt.notIn_tupleAt (EC x) f (λw g=>lU k i r e w (by simpa using g)) ⟨.bl _,H,I,rfl,?_⟩;rw[show c.toArray.any (EC x)=c.any (EC x)by simp,qD r e];exact q
theorem cF:bV X (.builtin "len") (λxs H Q=>∃p d,xs=[.ref p]/\(bR X.K H p d\/bg X.K H p d)/\Q (.int d.length) H):=by
 intro j s n H xs o Q I r h;obtain⟨p,d,rfl,e,q⟩:=h;obtain⟨u,rfl,k⟩:=vals1 r;cases k;have m:=gS
 rcases e with e|e
 ·obtain⟨g,f,i,l⟩:=I.list e
  have c:=f.length;exact Calls.call_len_list i.isList (by simp only[Mn]<;>omega) ⟨.int d.length,H,I.tok _,⟨s.toks+1,by rw[Mn,c]⟩,q⟩
 ·obtain⟨g,f,i,l⟩:=I.tuple e
  have c:=f.length;exact len_tuple i (by simp only[Mn]<;>omega) ⟨.int d.length,H,I.tok _,⟨s.toks+1,by rw[Mn,c]⟩,q⟩
theorem iS:bV X (.builtin "len") (λxs H Q=>∃z,xs=[.str z]/\z.length<=sizeLine/\Q (.int z.length) H):=by intro c s d H xs e Q I r h;obtain⟨z,rfl,g,q⟩:=h;obtain⟨u,rfl,t,rfl⟩:=vals1 r;have f:=gS;exact len_str (by omega) ⟨.int z.length,H,I.tok _,⟨_,rfl⟩,q⟩
theorem pz:bV X (.type "list") (λxs H Q=>∃p f,xs=[.ref p]/\(bR X.K H p f\/bg X.K H p f)/\∀l,H l=none->Q (.ref l) (upd H l (.lst f))):=by
 intro i s B H xs D Q I r h;obtain⟨p,f,rfl,g,q⟩:=h;obtain⟨u,rfl,C⟩:=vals1 r;cases C
 have j:∀(c:List Value),aU f c->f.length<=sizeLine->∀(h' :Heap)(c' :Nat),(∀b A,s.heap.get? b=some A ->h'.get? b=some A) -> h'.get? s.heap.objs.size=some {cls:=.type "list",dict:=none,data:=.seq c.toArray c',slots:= #[]}->EP X i B Q (.ref s.heap.objs.size) {s with heap:=h'}:=λc d m h' c' t e =>
  ⟨.ref s.heap.objs.size,_,I.laid (t' :=s.toks) t (Md _) (show ao X.prog X.w _ h' _ (.lst f)from⟨m,c,c',d,e⟩),rfl,q _ (I.hok.fresh (Md _))⟩
 rcases g with g|g
 ·obtain⟨c,d,z,m⟩:=I.list g
  have k:=d.length;obtain⟨o,y,x,n,v⟩:=z.isList;exact call_list_seq p (.inl rfl) y x v (λh' c' t e=>j c d m h' c' t e) (by simp only[Mn]<;>omega)
 ·obtain⟨c,d,z,m⟩:=I.tuple g
  have k:=d.length;obtain⟨o,y,x,n,v⟩:=z;exact call_list_seq p (.inr rfl) y x v (λh' c' t e=>j c d m h' c' t e) (by simp only[Mn]<;>omega)
theorem gF:bV X (.type "tuple") (λxs H Q=>∃p f,xs=[.ref p]/\((bR X.K H p f/\∀l,H l=none->Q (.ref l) (upd H l (.tup f)))\/(bg X.K H p f/\Q (.ref p) H))):=by
 intro c s k H xs z Q I r h;obtain⟨p,f,rfl,h⟩:=h;obtain⟨u,rfl,x⟩:=vals1 r;cases x
 rcases h with⟨g,q⟩|⟨g,q⟩
 ·obtain⟨d,i,j,n⟩:=I.list g
  have m:=i.length;refine call_tuple_list j.isList (λh' y=> ?_) (by simp only[Mn]<;>omega);have t:Inv X c k H {s with heap:=h'}:=I.kept (t' :=s.toks) y
  have v:Inv X c k (upd H h'.objs.size (.tup f)) {s with heap:=h'.push {cls:=.type "tuple",data:=.seq d.toArray}} :=
   t.laid (t' :=s.toks) (λb o e=>MW _ e) (Md _) (show ao X.prog X.w _ _ _ (.tup f)from⟨n,d,i,fX.new _ _⟩)
  exact⟨.ref h'.objs.size,_,v,rfl,q _ (t.hok.fresh (Md _))⟩
 ·obtain⟨d,i,j,n⟩:=I.tuple g
  exact call_tuple_same j ⟨.ref p,H,I,rfl,q⟩
def tyV(K:W.Frag)(T:String)(x:V)(H:Hp):Prop:=match x with
 | .str _=>T="str"| .int _=>T="int"| .ref p=>(T="list"/\∃xs,bR K H p xs)\/(T="tuple"/\∃xs,bg K H p xs) \/ (T="dict"/\((∃c,H p=some (.dK c))\/∃c,H p=some (.dT c)))\/(T="set"/\∃S n,H p=some (.set S n))|_=>False
theorem zW(I:Inv X h A H s)(r:RelV x v)(j:tyV X.K T x H) :
  s.TypeIs v T/\∀a,v=.ref a->∃m,s.heap.get? a=some m/\m.dict=none:=by
 cases x with
 |str z =>
  obtain⟨t,rfl⟩:=r;cases(show T="str" from j);exact⟨typeIs_str s z t,λ_ e=>nomatch e⟩
 |int i =>
  obtain⟨t,rfl⟩:=r;cases(show T="int" from j);exact⟨typeIs_int s i t,λ_ e=>nomatch e⟩
 |ref p =>
  cases r
  rcases j with⟨rfl,xs,k⟩|⟨rfl,xs,k⟩|⟨rfl,f⟩|⟨rfl,S,n,f⟩
  ·obtain⟨y,_,u,_⟩:=I.list k
   refine⟨u.isList.typeIs,λa e=> ?_⟩;cases e;obtain⟨o,n,e,c,w,_⟩:=u;exact⟨o,e,w⟩
  ·obtain⟨o,q,g,B⟩:=I.tupleD k
   refine⟨⟨o,q,g⟩,λa e=> ?_⟩;cases e;exact⟨o,q,B⟩
  ·have z:∃o,s.heap.get? p=some o/\o.ExactDict:=by
    rcases f with⟨l,f⟩|⟨l,f⟩
    ·obtain⟨_,_,_,_,o,_,_,e,d,_⟩:=I.hok p _ f
     exact⟨o,e,d⟩
    ·obtain⟨_,_,_,_,o,_,_,e,d,_⟩:=I.hok p _ f
     exact⟨o,e,d⟩
   obtain⟨o,e,d⟩:=z;refine⟨⟨o,e,d.1⟩,λa g=> ?_⟩;cases g;exact⟨o,e,d.2.1⟩
  ·obtain⟨o,_,_,_,e,d,_⟩:=I.hok p _ f
   refine⟨⟨o,e,d.1⟩,λa g=> ?_⟩;cases g;exact⟨o,e,d.2.1⟩
 |_=>exact False.elim j
def tBM0(K:W.Frag)(T:String)(r:V->List V->Hp->VK->Prop)(e:TE):TE:=λd H Q=>e d H λx c=>tyV K T x c/\r x [] c Q
def tBM(K:W.Frag)(T:String)(r:V->List V->Hp->VK->Prop)(e:TE)(t:TA):TE:=λc H Q=>e c H λx d=>tyV K T x d/\t c d λxs f=>r x xs f Q
variable{o e:Expr}{es:List Expr}{to:TE}{t:TA}{name:Str}{apos cpos:Pos}{T id:String}{r:V->List V->Hp->VK->Prop}
theorem Gn(p:PlainAttrs T)(g:Slot T name id)(i:typeOf (.builtin id)=pure (.type "method_descriptor"))(n:MtR X id r)(w:PE X o to)
  (d:attributeBase o name X.env (eval o X.env)=eval o X.env:=by rfl) (f:(apos.endLine==cpos.line)=true:=by rfl):PE X (.Call (.Attribute o name apos) [] [] cpos) (tBM0 X.K T r to):=by
 intro c s k H Q I h;refine wpAny_Call_method0_late d f (al (w c s k H _ I h) λv q j=> ?_);obtain⟨x,u,l,m,z,A⟩:=j;obtain⟨y,B⟩:=zW l m z;exact⟨T,id,p,g,i,y,B,Pk rfl (PySem.evalArgs_none (n c q k u x [] v [] Q l m .nil A))⟩
theorem Kf(z:PlainAttrs T)(j:Slot T name id)(l:typeOf (.builtin id)=pure (.type "method_descriptor"))(u:MtR X id r)(G:PE X o to)(B:PA X (e::es) t)
  (f:attributeBase o name X.env (eval o X.env)=eval o X.env:=by rfl)
  (i:((backTo cpos (starEach (e::es) X.env)).all (λx=> !x.1)&&(backToKw cpos (keywordEach [] X.env)).all (λx=>x.1.isSome) && decide ((e::es).length+([]:List Keyword).length+(if([]:List Keyword).isEmpty then 0 else 1)<30))=true:=by rfl)
  (g:(apos.endLine==cpos.line)=true:=by rfl) (E:starEach (e::es) X.env=(false,eval e X.env)::starEach es X.env:=by rfl) (d:(backTo cpos (starEach es X.env)).any (·.1)=false:=by rfl) :
  PE X (.Call (.Attribute o name apos) (e::es) [] cpos) (tBM X.K T r to t):=by
 intro c s k H Q I h;refine wpAny_Call_method_late f i g rfl (al (G c s k H _ I h) λv C m=> ?_);obtain⟨x,F,n,p,N,O⟩:=m;obtain⟨J,P⟩:=zW n p N;refine⟨T,id,z,j,l,J,P,?_⟩;have q:=B cpos c C k F _ n O;rw[E]at q ⊢;refine Pk (by show(false||(backTo cpos (starEach es X.env)).any (·.1))=false;rw[d]<;>rfl) (Calls.evalArgs_plain ?_);exact al q λM w ⟨vs,A,y,L,D⟩=>u c w k A x vs v M Q y p L D
end
def MtM(X:Cx)(d:String)(r:V->List V->Hp->VK->Prop):Prop :=
 ∀(a:List (Addr×Obj))(s:Shared)(b:St)(H:Hp)(x:V)(xs:List V)(v:Value)(c:List Value)(Q:VK),Inv X a b H s->RelV x v->aU xs c->r x xs H Q -> wpAny (model X.prog X.w) X.A (call (.builtin d) (v::c)) (EP X a b Q) X.xe s
theorem aU.one(h:aU [x] a):∃u,a=[u]/\RelV x u:=vals1 h
theorem aU.two(h:aU [x,y] a):∃u v,a=[u,v]/\RelV x u/\RelV y v:=vals2 h
theorem aU.zero:∀{a:List Value},aU [] a->a=[]
 |_,.nil=>rfl
theorem aU.dropLast(h:aU xs a):aU xs.dropLast a.dropLast:=by
 induction h with
 |nil=>exact .nil|cons r t b =>
  cases t with
  |nil=>exact .nil|cons q t' =>exact .cons r b
theorem aU.reverse(h:aU xs a):aU xs.reverse a.reverse:=by
 induction h with
 |nil=>exact .nil|cons r t b=>rw[List.reverse_cons,List.reverse_cons];exact aU.append b (.cons r .nil)
theorem aU.rep{xs:List V}{a:List Value}(h:aU xs a):∀k:Nat,aU (List.replicate k xs).flatten (List.replicate k a).flatten
 |0=>.nil|k+1=>by
  rw[OS,OS,Ox,Ox];exact aU.append h (aU.rep h k)
theorem vC{c:Type}(l:List c):l.eraseIdx (l.length-1)=l.dropLast:=by
 induction l with
 |nil=>rfl|cons a r d =>
  cases r with
  |nil=>rfl|cons b r =>
   have e:(a::b::r).length-1=((b::r).length-1)+1:=by
    have f:(a::b::r).length=r.length+2:=rfl;have g:(b::r).length=r.length+1:=rfl;omega
   rw[e,List.eraseIdx_cons_succ,d]
   all_goals rfl
theorem foldl_rep(a:List Value):∀(k:Nat)(acc:List Value),List.foldl (λd b=>d++b) acc.toArray (List.replicate k a.toArray)=(acc++(List.replicate k a).flatten).toArray
 |0,acc=>by simp|k+1,acc=>by
  have e:acc.toArray++a.toArray=(acc++a).toArray:=by simp
  have c:(acc++a)++(List.replicate k a).flatten=acc++(List.replicate (k+1) a).flatten:=by
   rw[OS,Ox,Nb]
  rw[<- c,<-foldl_rep a k (acc++a),<-e,OS,Ni]
section
variable{X:Cx}{pins:List (Addr×Obj)}{σ:St}{H:Hp}{s:Shared}{l b:Addr}{xs ys zs:List V}
theorem Inv.lset{a its':List Value}(I:Inv X pins σ H s)(c:H l=some (.lst xs))
  (e:s.heap.get? l=some {cls:=.type "list",data:=.seq a.toArray n}) (g:f a.toArray=its'.toArray) (j:aU ys its') (i:ys.length<=sizeLine) :
  Inv X pins σ (upd H l (.lst ys)) {s with heap:=s.heap.update l (Obj.mapSeq f),toks:=t'}:=by
 have q:=PySem.IsL.update e f;rw[g]at q;refine I.write (x:=l) (e:=l) (by rw[c];exact trivial) (.inl rfl) (λk u h d=>(NR s.heap (Obj.mapSeq f) (Nv h)).trans d) ⟨_,q⟩ ?_;exact⟨i,its',_,j,q⟩
theorem Inv.lnew(I:Inv X pins σ H s)(d:aU ys a)(c:ys.length<=sizeLine) :
  Inv X pins σ (upd H s.heap.objs.size (.lst ys)) {s with heap:=s.heap.push {cls:=.type "list",data:=.seq a.toArray},toks:=t'} :=
 I.laid (λ_ _ q=>MW _ q) (Md _) ⟨c,a,0,d,Mr _ rfl⟩
theorem Inv.fresh(I:Inv X pins σ H s):H s.heap.objs.size=none:=I.hok.fresh (Md _)
theorem Inv.lstM(I:Inv X pins σ H s)(c:H l=some (.lst xs)):xs.length<=sizeLine/\∃(a:List Value)(n:Nat),aU xs a/\xs.length=a.length/\s.heap.get? l=some {cls:=.type "list",data:=.seq a.toArray n}:=by obtain⟨z,a,n,r,e⟩:=I.hok l _ c;exact⟨z,a,n,r,r.length,e⟩
theorem Au(h:n<=sizeLine):Builtin.List.listTooLong n=false:=by unfold Builtin.List.listTooLong;exact Mq (by omega)
end
section
variable{X:Cx}
noncomputable def DG:V->List V->Hp->VK->Prop:=λx vs H Q=>∃l xs y,x=.ref l/\vs=[y]/\H l=some (.lst xs)/\xs.length<sizeLine/\Q .non (upd H l (.lst (xs++[y])))
theorem nj:MtM X "list.append" DG:=by intro b s j H x vs v m Q I f d h;obtain⟨l,xs,y,rfl,rfl,c,k,q⟩:=h;cases f;obtain⟨u,rfl,g⟩:=d.one;obtain⟨z,a,n,r,i,e⟩:=I.lstM c;refine call_meets F.slot_list_append ⟨_,e,rfl⟩ F.entry_list_append (F.args_list_append_2 _ _) (PySem.list_append l a.toArray n u (by rw[Mn];omega)) ⟨e,?_⟩;refine⟨.non,_,I.lset (its' :=a++[u]) c e (by simp) (r.append (.cons g .nil)) ?_,rfl,q⟩;rw[Ml,OE];omega
noncomputable def rPop:V->List V->Hp->VK->Prop:=λx vs H Q=>∃l xs y,x=.ref l/\vs=[]/\H l=some (.lst xs)/\xs[xs.length-1]? =some y/\Q y (upd H l (.lst xs.dropLast))
theorem HF:MtM X "list.pop" rPop:=by
 intro d s p H x vs v t Q I m i h;obtain⟨l,xs,y,rfl,rfl,f,j,q⟩:=h;cases m;have c:=i.zero;subst c;obtain⟨z,a,n,r,k,e⟩:=I.lstM f;obtain⟨u,g,o⟩:=r.get j;have b :a.toArray[a.toArray.size-1]? =some u:=by
  show a.toArray[a.length-1]? =some u;rw[<- Nu,<-k];exact g
 refine call_meets F.slot_list_pop ⟨_,e,rfl⟩ F.entry_list_pop (F.args_list_pop_1 _) (MeetsSeq.list_pop_last l a.toArray n u b (by rw[Mn];omega)) ⟨e,?_⟩;refine⟨y,_,I.lset (its' :=a.dropLast) f e ?_ r.dropLast ?_,o,q⟩
 ·show a.toArray.eraseIdxIfInBounds (a.toArray.size-1)=a.dropLast.toArray
  rw[Mn,List.eraseIdxIfInBounds_toArray,vC]
 ·rw[List.length_dropLast]
  omega
def rCat:R2:=λx y H Q=>∃l b xs a,x=.ref l/\y=.ref b/\H l=some (.lst xs)/\H b=some (.lst a)/\xs.length+a.length<=sizeLine/\∀p,H p=none->Q (.ref p) (upd H p (.lst (xs++a)))
theorem Gz:dk X (binaryOp .Add) rCat:=by
 intro d s B H x y v u Q I j f h;obtain⟨l,b,xs,w,rfl,rfl,i,p,C,q⟩:=h;cases j;cases f;obtain⟨z,c,n,r,A,e⟩:=I.lstM i;obtain⟨t,a,D,m,k,g⟩:=I.lstM p;refine PySem.P.add_list e g ?_ (by rw[Mn,Mn];omega);have o:c.toArray++a.toArray=(c++a).toArray:=by simp
 rw[o];exact⟨.ref _,_,I.lnew (t' :=s.toks) (r.append m) (by rw[Ml];omega),rfl,q _ I.fresh⟩
def rRep:R2:=λx y H Q=>∃l k xs,x=.ref l/\y=.int k/\H l=some (.lst xs)/\ -(2^63)<=k/\k<2^63/\xs.length*k.toNat<=sizeLine /\ ∀p,H p=none->Q (.ref p) (upd H p (.lst (List.replicate k.toNat xs).flatten))
theorem Dl{a:Type}(xs:List a)(k:Nat):(List.replicate k xs).flatten.length=k*xs.length:=by
 induction k with
 |zero=>simp|succ k b=>rw[OS,Ox,Ml,b,Nat.succ_mul,Nat.add_comm]
theorem Gr:dk X (binaryOp .Mult) rRep:=by
 intro pins s σ H x y v u Q I rx ry h;obtain⟨l,k,xs,rfl,rfl,hH,h1,h2,hz,q⟩:=h;cases rx;obtain⟨t,rfl⟩:=ry;obtain⟨z,its,n,r,hl,e⟩:=I.lstM hH;have hlen:its.toArray.size*k.toNat<=sizeLine:=by rw[Mn,<-hl];exact hz
 have hcap:¬its.toArray.size*k.toNat>(2^63-1)/8:=by
  have:(sizeLine:Nat)<=(2^63-1)/8:=by decide
  omega
 have hfit:¬(!Builtin.List.listFitsIndex k)=true:=by
  rw[fitsIndex_both h1 h2];exact Mc
 have hlong:¬Builtin.List.listTooLong (its.toArray.size*k.toNat)=true:=by
  rw[Au hlen];exact Mc
 have hnew:List.foldl (λx1 x2=>x1++x2) #[] (List.replicate (if its.toArray.isEmpty=true then 0 else k.toNat) its.toArray)=(List.replicate k.toNat its).flatten.toArray:=by
  have f0:∀m:Nat,List.foldl (λx1 x2=>x1++x2) #[] (List.replicate m its.toArray)=(List.replicate m its).flatten.toArray:=λm=>by
   have:=foldl_rep its m [];rw[List.nil_append]at this;exact this
  rw[f0];cases its with
  |nil=>simp|cons a r' =>rw[MV (by simp)]
 refine wpAny_binaryOp_repeat_ref (T:="list") (U:="int") (by decide) ⟨_,e,rfl⟩ (λs' =>typeIs_int s' k t) noFill_list_mul F.fills_int_mul F.slot_int_rmul repeat_list F.slot_int_index.lookup
  (call_meets F.slot_int_rmul (typeIs_int s k t) F.entry_int_rmul (F.args_int_rmul_2 _ _) (int___rmul___int_list k t l its.toArray n) ⟨e,rfl,⟨_,e,rfl⟩,call_meets F.slot_list_mul ⟨_,e,rfl⟩ F.entry_list_mul (F.args_list_mul_2 _ _) (AutoListH.list___mul___list_int_3 l its.toArray n k t hfit hcap hlong) ⟨e,?_⟩⟩)
 rw[hnew];exact⟨.ref _,_,I.lnew (t' :=s.toks) (r.rep k.toNat) (by rw[Dl,Nat.mul_comm];exact hz),rfl,q _ I.fresh⟩
end
end L2
namespace Att
open PySem PySem.W PySem.Calls PyProof.Rows
set_option tactic.hygienic false
theorem kF:∀(c:List Int)(vs:List Value),WellAll P h vs (c.map WData.int)->IntsAre vs c:=by
 intro c
 induction c with
 |nil =>
  intro vs w;rw[N2]at w;cases w;exact .nil
 |cons n c d =>
  intro vs w;rw[Mg]at w;cases w with
  |cons a b =>
   cases a;exact .cons _ _ (d _ b)
theorem yB{l:OpenLaw}(s:l.most=some n){h:Heap}
  (e:l.row.toRowW.claim.pre args=true) (m:WellAll P h c args) :
  ∃a vs b,c=[Value.ref a]/\args=[WData.list (b.map WData.int)]/\h.get? a=some {cls:=.type "list",data:=.seq vs.toArray}/\IntsAre vs b/\b.length<=n:=by
 have k:WShape.hasAll [] args [.list .int]=true:=(pre_splitW e).1;have o:l.pre.holds [] {args:=args}=true:=(pre_splitW e).2;obtain⟨d,r,rfl,x,y⟩:=hasAllW_cons k;obtain rfl:=hasAllW_nil y;obtain⟨xs,rfl,p⟩:=hasW_list x;obtain⟨b,rfl⟩:=items_int p;have g:b.length<=n:=by
  unfold OpenLaw.pre at o;have j:(WTm.not (.lt (.lit (.int (n:Int))) (.len (.arg 0)))).holds [] {args:=[.list (b.map .int)]}=true:=by
   have j:=(holds_andW o).1;rw[s]at j;exact j
  have i:=condW_of j (w_not (w_lt w_lit (w_len_list (w_arg rfl))));rw[MR]at i;refine Nat.le_of_not_lt λq=> ?_;have t :(n:Int)<((b.length:Nat):Int):=by omega
  first
   |(rw[Mj t]at i;exact absurd i (by decide))
   |(simp at i;omega)
 cases m with
 |cons u v =>
  cases v;cases u with
  |list w f=>exact⟨_,_,b,rfl,rfl,w,kF b _ f,g⟩
theorem yF(l:OpenLaw)(args:List WData):l.row.toRowW.claim.post args (.bool true) args=true :=
 postW_of (r:=l.row.toRowW) (X:=(true==true))
  (show WShape.has [] (.bool true) .bool=true by first|rfl|decide|simp[WShape.has,WShape.arms,WShape.armsAll])
  (show(WTm.eq .res (.lit (.bool true))).value [] {args:=args,res:=some (.bool true),after:=args}=some (.bool (true==true))from w_eq_bool (w_res rfl) w_lit) rfl
theorem tS{l:OpenLaw}{d:DefRec}
  (K:l.most=some n) (z:d.params.defaults=[])
  (k:∀(w:World)(e b:Shared)(s u:Str->Option Value)(i:Addr)(o:Obj)(A cd h:Value)(a:Addr)(vs:List Value)(t:List Int),Ground q c [] D w e s u b.heap->B w b.heap -> b.heap.get? i=some o->o.data=.func (docDef d.name d.params d.body d.scope A cd h)->b.heap.CodeRec cd d.name->s d.name=some (.ref i) -> b.heap.get? a=some {cls:=.type "list",data:=.seq vs.toArray}->IntsAre vs t->t.length<=n->b.gens= #[] -> codeAny (model l.prog w) callerA (.call (.ref i) ⟨[.ref a],[]⟩) (λr s' =>r=.ok (.ret (.bool true))/\OldK b.heap s'.heap/\s'.os=b.os/\AllBare s'.gens) b) :
  WalkO q c D B l.row.toRowW d [] (λf vs=>PySem.call f vs):=by
 intro w e b s u G Y i o A cd h N Q O J x F v T args E as p C P y M;obtain rfl:N=.none:=Dflts.none F z;obtain rfl:Q=.none:=Dflts.noKw F;obtain⟨a,vs,t,rfl,rfl,j,g,m⟩:=yB K p y;refine enter_call (codeAny_mono (k w e b s u i o A cd h a vs t G Y O (fd_plain J) x v j g m T) λr s' L=> ?_);obtain⟨rfl,S,H,R⟩:=L;exact⟨.inl ⟨.bool true,.bool true,[],rfl,λ_=>rfl,.bool true,yF l _,λ_=>⟨List.Pairwise.nil,λ_ I=>(nomatch I)⟩⟩,S,H,R⟩
end Att
namespace L2
open PySem PySem.Spec PyProof.Rows
set_option tactic.hygienic false
theorem xl(h:IntsAre vs a):aU (a.map V.int) vs:=by
 induction h with
 |nil=>exact .nil|cons n t h b=>exact .cons ⟨t,rfl⟩ b
def JI(H:Hp):Prop:=∀b,H b=none\/∃o xs,H b=some (.frz o (.lst xs))
theorem BD{K:W.Frag}{c:Shared}{vs:List Value}{t:List Int}
  (KX:K.In c.heap) (y:c.heap.Ns mainGlobals G) (g:c.heap.Ns builtinsNs N) (O:∀x:Str,x≠"__name__"->N x=bootBuiltins x) (D:c.heap.NoLimit) (hg:c.gens= #[])
  (I:c.heap.get? a=some {cls:=.type "list",data:=.seq vs.toArray}) (hi:IntsAre vs t) (T:t.length<=sizeLine) (hr:eY k callerA)
  (F:∀base:Heap,K.In base->base.Ns mainGlobals G->bt P w K G base CX k S X [x] sp) (l:∀(s:Shared)(u:Value),BindsTo s X ⟨[u],[]⟩ [(x,u)])
  (J:∀H:Hp,JI H->bR K H a (t.map V.int)->sp [.ref a] H (λv _=>v=.bl true) λ_ _ _=>False)
  (L:∀H e s',CX [] H c (λ_ _ _=>False) e s' ->False) :
  codeAny (model P w) callerA (.call (.ref S) ⟨[.ref a],[]⟩) (λr s' =>r=.ok (.ret (.bool true))/\OldK c.heap s'.heap/\s'.os=c.os/\AllBare s'.gens) c:=by
 have Y:=xl hi;have Kt:=hi.length
 have j:∀H:Hp,JI H->bR K H a (t.map V.int)->fY P w H c.heap->(∀b,H b≠none->b=a)->(H a≠none->K.lookup a=none) -> codeAny (model P w) callerA (.call (.ref S) ⟨[.ref a],[]⟩) (λr s' =>r=.ok (.ret (.bool true))/\OldK c.heap s'.heap/\s'.os=c.os/\AllBare s'.gens) c:=by
  intro H hO hS E U hK;have f:∀{b:Addr}{o:Obj},c.heap.get? b=some o->H b=none->(pY c.heap H).get? b=some o:=λe n=>BS e n;have M:∀{b:Addr}{o:Obj}{es:Array DictEntry}{ep:Nat},c.heap.get? b=some o->o.data=.dict es ep->H b=none:=fun{b o es ep} e d=>by
   cases q:H b with
   |none=>rfl|some u =>
    have Q :b=a:=U b (by rw[q];simp);subst Q;rw[I]at e;cases e;have d' :Data.seq vs.toArray _=Data.dict es ep:=d;cases d'
  have i:∀{b:Addr}{m:Str->Option Value},c.heap.Ns b m->(pY c.heap H).Ns b m:=fun{b m} ⟨o,es,ep,e,d,r⟩=>⟨o,es,ep,f e (M e d),d,r⟩
  have A:K.In (pY c.heap H):=λb o e=>f (KX b o e) (by
   cases q:H b with
   |none=>rfl|some u =>
    have Q :b=a:=U b (by rw[q];simp);subst Q;rw[hK (by rw[q];simp)]at e;cases e)
  have hM:Mod K G (pY c.heap H):=⟨A,i y,⟨N,i g,O⟩,let⟨mc,h1,h2⟩:=D;⟨mc,i h1,h2⟩⟩;have e0:Ex P w K G (pY c.heap H) callerA [] c H:=⟨rfl,hM,λb o e=>Dd e,Nat.le_of_eq (ya _ _),trivial,λb g=>absurd (show b∈([]:List Addr)from g) (by simp),E,.of_eq hg⟩;refine codeAny_mono ((F _ A (i y)).run callerA [] c H ⟨[.ref a],[]⟩ [.ref a] [.ref a] _ _ hr e0 (l c (.ref a)) (.cons rfl .nil) (J H hO hS)) λr s' h=> ?_;cases r with
  |error e=>exact(L H e s' h).elim|ok fl =>
   cases fl with
   |next=>exact False.elim h|brk=>exact False.elim h|cont=>exact False.elim h|ret u =>
    obtain⟨v,H',os,C,un,p,r',q⟩:=h;have q' :v=.bl true:=q;subst q';obtain rfl:u=Value.bool true:=r';refine⟨rfl,OldK.of_keep λb o e=> ?_,os,C⟩;cases q:H b with
    |none=>exact un.keep b o e q (by intro z;exact absurd (show b∈([]:List Addr)from z) (by simp)) (by simp)|some u =>
     rcases hO b with z|⟨ob,xs,z⟩
     ·rw[q]at z;cases z
     ·have z2:=un.frzs b ob _ z
      obtain⟨Z,_⟩:=E b _ z;obtain⟨e2,_⟩:=p b _ z2;rw[e]at Z;cases Z;exact e2
 cases R:K.lookup a with
 |some o =>
  have e:=KX a o R;rw[I]at e;cases e;refine j (λ_=>none) (λ_=>.inl rfl) (.inr ⟨_,vs.toArray,_,R,rfl,rfl,rfl,by rw[Mn,Kt];exact T,by simpa using Y⟩) (λb u z=>by have B :(none:Option HO)=some u:=z;cases B) (λb z=>absurd rfl z) λz=>absurd rfl z
 |none =>
  refine j (λb=>if b=a then some (.frz {cls:=.type "list",data:=.seq vs.toArray} (.lst (t.map V.int)))else none) (λb=> ?_) (.inl (.inr ⟨{cls:=.type "list",data:=.seq vs.toArray},MX rfl⟩)) (λb u z=> ?_) (λb z=> ?_) λ_=>R
  ·by_cases g:b=a
   ·exact .inr ⟨_,_,MX g⟩
   ·exact .inl (MV g)
  ·by_cases g:b=a
   ·have B :=(MX g).symm.trans z
    cases B;subst g;exact⟨I,by rw[MR];exact T,vs,_,Y,I⟩
   ·have B :=(MV g).symm.trans z
    cases B
  ·by_cases g:b=a
   ·exact g
   ·exact absurd (MV g) z
theorem Cj{l:W.OpenLaw}{n k:Nat}{q:Program}{i:List Str}{N:(Str->Option Value)->Heap->Prop}{I:World->Heap->Prop}{d:DefRec}{K:Params->W.Frag}{CX:World->zG}{sp:World->Sp}{x:Str}
  (M:l.most=some n) (D:n<=sizeLine) (E:d.params.defaults=[]) (Z:eY k callerA)
  (R:∀(w:World)(h:Heap),I w h->(K w.params).In h)
  (F:∀(w:World)(m:Str->Option Value)(t:Addr)(h:Heap),(K w.params).In h->h.Ns mainGlobals m->m d.name=some (.ref t) -> ∃A:FuncData,(∀(s:Shared)(u:Value),BindsTo s A ⟨[u],[]⟩ [(x,u)]) /\ ∀base:Heap,(K w.params).In base->base.Ns mainGlobals m->bt l.prog w (K w.params) m base (CX w) k t A [x] (sp w))
  (z:∀(w:World)(H:Hp)(a:Addr)(y:List Int),y.length<=n->JI H->bR (K w.params) H a (y.map V.int)->sp w [.ref a] H (λv _=>v=.bl true) λ_ _ _=>False)
  (B:∀(w:World)(H:Hp)(s:Shared)(e:Value)(s' :Shared),CX w [] H s (λ_ _ _=>False) e s' ->False) :
  W.WalkO q i N I l.row.toRowW d [] (λf vs=>PySem.call f vs):=by
 refine Att.tS M E λw L r m mb t o pm cd S a vs y G Y ho hd O C p j c hg=> ?_;have J:=R w _ Y;obtain⟨A,Q,P⟩:=F w m t _ J G.T.g C;exact BD J G.T.g G.T.b G.T.builtins G.T.nolimit hg p j (M8 c D) Z P Q (λH U X=>z w H a y c U X) λH e s' =>B w H r e s'
noncomputable def aN(s:Stmt):Arguments:=match s with
 | .FunctionDef _ a _ _ _ _ _ _ _ _=>a|_=>{posonlyargs:=[],args:=[],vararg:=none,kwonlyargs:=[],kw_defaults:=[],kwarg:=none,defaults:=[]}
noncomputable def aD(s:Stmt):List Stmt:=match s with
 | .FunctionDef _ _ b _ _ _ _ _ _ _=>b|_=>[]
noncomputable def aA(s:Stmt):Scope:=match s with
 | .FunctionDef _ _ _ _ _ _ a _ _ _=>a|_=>{kind:=.function,names:=[],isGenerator:=false,isCoroutine:=false}
noncomputable abbrev kJ:zG:=λ_ _ _ _ _ _=>False
abbrev E0:XK:=λ_ _ _=>False
theorem Aj:vi kJ X E0:=λ_ _ _ _ _ _ _ h=>h.elim
structure JX(K:W.Frag)(x qual:Str)(st:Stmt)(f:Addr)(fd:FuncData):Prop where
 ex:∃(oc:Value)(od:Option Addr)(kV doc pm:Value)(an:Option Addr)(cdv ct:Value)(osl:Array (Option Value)),
  fd=W.fnOf x qual (aN st) (aD st) (aA st) .none kV doc pm an cdv ct/\K.lookup f=some ⟨oc,od,.func fd,osl⟩/\W.codeIn K cdv qual=true
 kp:W.keepIn K (.ref f)=true
section
variable{P:Program}{w:World}{K:W.Frag}{mg:Str->Option Value}{base:Heap}
theorem JX.ok(F:JX K x qual d f l)(S:aP N g (aA d))(j:∀vs H Q E,sp vs H Q E->vs.length=g.length)
  (c:∀(b:Value)(A:Around)(a:List Env)(s:Shared)(H:Hp)(vs:List V)(Q:VK)(E:XK),eY k (A.deeper (envOfC qual (aA d) s.heap.objs.size f b))->sp vs H Q E -> ∃t,vk (sw kJ P w K mg base N qual (aA d) f b A a s H E).nox (aD d) t/\t {nx:=λ_ r =>Q .non r,rt:=Q} (start N vs) H):bt P w K mg base kJ (k+1) f l g sp:=by
 obtain⟨y,u,z,n,B,v,b,ct,m,rfl,o,i⟩:=F.ex;refine K9 o i S j λA a s H vs Q E p e=> ?_;obtain⟨t,h,q⟩:=c b A a s H vs Q E p e;exact⟨t,h.nox,q⟩
theorem JX.binds(F:JX K x qual c f k)
  (h:∀(i b j:Value)(d:Option Addr)(a ct:Value)(g:List Value),g.length=e.length->bindArgs (W.fnOf x qual (aN c) (aD c) (aA c) .none i b j d a ct) ⟨g,[]⟩=pure (e.zip g)):Binds K k e []:=by
 obtain⟨o,n,i,b,j,d,a,ct,m,rfl,p,l⟩:=F.ex;exact .all (h i b j d a ct)
theorem BY(l:K.lookup f=some ⟨j,m,.func (W.fnOf x qual (aN b) (aD b) (aA b) .none g d i h a ct),e⟩)
  (c:W.codeIn K a qual=true) (k:W.keepIn K (.ref f)=true):JX K x qual b f (W.fnOf x qual (aN b) (aD b) (aA b) .none g d i h a ct):=⟨⟨j,m,g,d,i,h,a,ct,e,rfl,l,c⟩,k⟩
end
theorem BR(a:eY k A):A.units+1<cLine:=Px (Nat.add_le_add_left (by decide:1<=64) _) a.units
section
variable{X:Cx}
theorem pv(i:Nat)(b:X.N[i]? =some x:=by rfl)(d:JW X.env.scope x:=by first|exact Or.inl rfl|exact Or.inr (Or.inl rfl)|exact Or.inr (Or.inr rfl))(c:(x==("__debug__":Str))=false:=by decide)
  (a:(x==("__classdict__":Str))=false:=by decide):PE X (.Name x pos) (Jt i):=ub b d c a
end
theorem pK{A B:Prop}(h:B):if false=true then A else B:=by rw[MV Mc];exact h
theorem mw{A B:Prop}(h:A):if true=true then A else B:=by rw[MX rfl];exact h
theorem Dt{c A B:Prop}[Decidable c](a:c->A)(b:¬c->B):if c then A else B:=by
 by_cases h:c
 ·rw[MX h]
  exact a h
 ·rw[MV h]
  exact b h
def aE(H a :Hp):Prop:=∀b o,H b=some o->a b=some o
theorem aE.refl(H:Hp):aE H H:=λ_ _ h=>h
theorem aE.trans(a:aE H d)(b:aE d e):aE H e:=λc o h=>b c o (a c o h)
theorem aE.free(e:aE H a)(h:a l=Option.none):H l=Option.none:=by
 cases q:H l with
 |none=>rfl|some o =>
  rw[e l o q]at h;cases h
theorem aE.seq{K:W.Frag}(e:aE H b)(h:bR K H a xs):bR K b a xs:=by
 rcases h with(h|⟨o,h⟩)|h
 ·exact .inl (.inl (e _ _ h))
 ·exact .inl (.inr ⟨o,e _ _ h⟩)
 ·exact .inr h
end L2
set_option maxHeartbeats 4000000
namespace UM
open PySem PySem.Builtin PySem.Builtin.Str
structure MO(m:Nat)(rows:List Str):Prop where
 some:rows≠[]
 few:rows.length<=m
 wide:∃k,1<=k/\k<=m/\∀r∈rows,r.length=k
 signs:∀r∈rows,∀c∈r.cps.toList,c=120\/c=46
end UM
namespace L2
open PySem PySem.Spec PyProof.Rows
noncomputable def iO(env:Env):List (Str×NameKind)->List (Str×Addr)->List (Str×Addr)
 |[],acc=>acc|(n,k)::r,acc=>if(k==NameKind.free)=true then iO env r ((n,(env.cells.lookup n).getD 0)::acc)else iO env r acc
set_option tactic.hygienic false
theorem jY(h:(k==NameKind.free)=true) :
  iO env ((n,k)::r) acc=iO env r ((n,(env.cells.lookup n).getD 0)::acc):=by
 show(if(k==NameKind.free)=true then _ else _)=_;rw[MX h]
theorem gZ(h:¬(k==NameKind.free)=true) :
  iO env ((n,k)::r) acc=iO env r acc:=by
 show(if(k==NameKind.free)=true then _ else _)=_;rw[MV h]
theorem tF(h:env.cells.lookup n=some c):cellOf env n=pure c:=by unfold cellOf;rw[h]
theorem vS(h:∀x∈scope.names,x.2=.free->∃c,env.cells.lookup x.1=some c):closureFor scope env=pure (iO env scope.names []):=by
 unfold closureFor
 suffices q:∀(l:List (Str×NameKind))(acc:List (Str×Addr)),(∀x∈l,x.2=.free->∃c,env.cells.lookup x.1=some c) -> (forIn l acc (fun(x:Str×NameKind) (r:List (Str×Addr))=>if(x.2==NameKind.free)=true then(do let a<-cellOf env x.1;pure (ForInStep.yield ((x.1,a)::r)))else pure (ForInStep.yield r)):Sem (List (Str×Addr)))=pure (iO env l acc)by
  exact(ND (λm=>m >>= pure) (q scope.names [] h)).trans (by rfl)
 intro l
 induction l with
 |nil=>intro acc _;rfl|cons x l i =>
  intro acc f;obtain⟨n,k⟩:=x;rw[List.forIn_cons]
  by_cases b:(k==NameKind.free)=true
  ·obtain⟨c,g⟩:=f (n,k) MT (by simpa using b)
   rw[jY b];simp only[b,Pe];rw[tF g];have e:(env.cells.lookup n).getD 0=c:=by rw[show env.cells.lookup n=some c from g];rfl
   rw[e];exact i _ λy d=>f y (MS _ d)
  ·rw[gZ b]
   simp only[b,PR];exact i _ λy d=>f y (MS _ d)
theorem eN{env:Env}:∀{l:List (Str×NameKind)}{acc:List (Str×Addr)}{x:Str}{c:Addr},(∀y∈l,y.2=.free->∃c,env.cells.lookup y.1=some c) -> (iO env l acc).lookup x=some c->acc.lookup x=some c\/env.cells.lookup x=some c
 |[],acc,x,c,_,h=>.inl h|(n,k)::l,acc,x,c,hl,h=>by
  have a :∀y∈l,y.2=.free->∃c,env.cells.lookup y.1=some c:=λy i=>hl y (MS _ i)
  by_cases d:(k==NameKind.free)=true
  ·rw[jY d]at h
   rcases eN a h with q|q
   ·rw[NT]at q
    cases e:(x==n)with
    |true =>
     rw[e]at q;have g:x=n:=by simpa using e
     subst g;obtain⟨c',f⟩:=hl (x,k) MT (by simpa using d);have b:env.cells.lookup x=some c' :=f;rw[b]at q
     right
     rw[b]
     simpa using q
    |false =>
     rw[e]at q;exact .inl q
   ·exact .inr q
  ·rw[gZ d]at h
   exact eN a h
theorem iN{env:Env}:∀{l:List (Str×NameKind)}{acc:List (Str×Addr)}{x:Str},((x,NameKind.free)∈l\/∃c,acc.lookup x=some c)->∃c,(iO env l acc).lookup x=some c
 |[],acc,x,h=>by
  rcases h with h|h
  ·cases h
  ·exact h
 |(n,k)::l,acc,x,h=>by
  by_cases a:(k==NameKind.free)=true
  ·rw[jY a]
   refine iN ?_
   rcases h with h|⟨c,h⟩
   ·rcases Mh.mp h with e|e
    ·right
     injection e with e1 e2
     subst e1;exact⟨(env.cells.lookup x).getD 0,by rw[NT];simp⟩
    ·exact .inl e
   ·right
    rw[NT];cases b:(x==n)with
    |true=>exact⟨_,rfl⟩|false=>exact⟨c,h⟩
  ·rw[gZ a]
   refine iN ?_
   rcases h with h|h
   ·rcases Mh.mp h with e|e
    ·injection e with e1 e2
     subst e2;exact absurd rfl a
    ·exact .inl e
   ·exact .inr h
section
variable{prog:Program}{w:World}{A:Around}{R:Result->Shared->Prop}{s:Shared}
theorem px(I:Nat->Shared->Prop)
  (q:∀n s,I n s->wpAny (model prog w) A (pyNext it) (λr d=>match r with
   |none=>R (.ok .next) d|some v=>wpAny (model prog w) A (letOwnedTupleGo a it v) (λ_ b =>wpAny (model prog w) A (assign a env v) (λ_ j =>
     wpAny (model prog w) A (forIn ifs true λc r=>if r=true then do let ok<-isTrue c env (eval c env);pure (ForInStep.yield ok)else pure (ForInStep.yield r)) (λok f =>
      if ok=true then wpAny (model prog w) A (eval elt env) (λx k =>
       wpAny (model prog w) A (call (.builtin "list.append") [acc,x]) (λ_ g=>∃m,m<n/\I m g) (notedBy (model prog w) A env λe s' =>R (.error e) s') k) (notedBy (model prog w) A env λe s' =>R (.error e) s') f else∃m,m<n/\I m f) (notedBy (model prog w) A env λe s' =>R (.error e) s') j) (notedBy (model prog w) A env λe s' =>R (.error e) s') b)
       (notedBy (model prog w) A env λe s' =>R (.error e) s') d) (notedBy (model prog w) A env λe s' =>R (.error e) s') s)
  (n:Nat) (h:I n s) :
  codeAny (model prog w) A (.compLoop (.ListComp elt [⟨a,l,ifs,0⟩] scope pos) 0 it acc env) R s:=by
 refine codeAny_loop rfl I (λn s z=> ?_) n h;show wpAny _ A ((compTurn (.ListComp elt [⟨a,l,ifs,0⟩] scope pos) 0 it acc env).onRaise (λx=>do noteFrame x env;theTreesLotGoes x)) _ _ s;refine wpAny_noted ?_;rw[compTurn_list];refine MQ (wpAny_standAt (MQ (OC (q n s z) (λr d i=> ?_) λ_ _ h' =>h')));cases r with
 |none=>exact MU i|some v =>
  refine MQ (OC i (λ_ b p => ?_) λ_ _ h' =>h');refine MQ (OC p (λ_ j y=>MQ (OC y (λok f o=> ?_) λ_ _ h' =>h')) λ_ _ h' =>h');cases ok with
  |false=>exact MU ⟨rfl,o⟩|true =>
   exact MQ (MQ (OC o (λx k u=>MQ (OC u (λ_ g t=>MU (MU ⟨rfl,t⟩)) λ_ _ h' =>h')) λ_ _ h' =>h'))
end
noncomputable abbrev bK(X:Cx)(N' :List Str)(scope:Scope)(C:Addr)(b:Shared)(d:Hp)(c:List Addr)(a:List (Str×Addr)):Cx where
 prog:=X.prog
 w:=X.w
 K:=X.K
 mg:=X.mg
 base:=X.base
 A:=X.A
 N:=N'
 s₀:=b
 H₀:=d
 env:=compEnvC scope a C X.env
 outer:=X.stack
 stack:=X.stack
 ex:=c
 fn:=λx=>scope.names.lookup x==some .cell
 calm:=X.calm
 pn:=[]
 xe:=λ_ _=>False
noncomputable def bY(X:Cx)(scope:Scope):List Str->List (Option Nat)->Prop
 |[],[]=>True|_::ns,none::r=>bY X scope ns r|x::ns,some i::r=>(X.N[i]? =some x/\scope.names.lookup x=some .free/\(X.env.scope.names.lookup x=some .cell\/X.env.scope.names.lookup x=some .free))/\bY X scope ns r|_,_=>False
noncomputable def bU(src:List (Option Nat))(a:St):St:=src.map λo=>match o with
 |none=>none|some i=>(a[i]?).join
theorem bY.len{X:Cx}{scope:Scope}:∀{N' :List Str}{src:List (Option Nat)},bY X scope N' src->src.length=N'.length
 |[],[],_=>rfl|_::_,none::_,h=>ND (·+1) (bY.len (show bY X scope _ _ from h))|_::_,some _::_,h=>ND (·+1) (bY.len h.2)|[],_::_,h=>by cases h|_::_,[],h=>by cases h
theorem bY.at{X:Cx}{scope:Scope}{a:St}:∀{N' :List Str}{src:List (Option Nat)}{j:Nat}{x:Str}{v:V},bY X scope N' src->N'[j]? =some x->(bU src a)[j]? =some (some v) -> ∃i:Nat,X.N[i]? =some x/\a[i]? =some (some v)/\scope.names.lookup x=some .free/\(X.env.scope.names.lookup x=some .cell\/X.env.scope.names.lookup x=some .free)
 |[],[],j,x,v,_,h,_=>by simp at h|y::ns,none::r,0,x,v,_,_,h=>by simp[bU]at h|y::ns,none::r,j+1,x,v,s,h,h' =>bY.at (N' :=ns) (src:=r) (j:=j) s (by simpa using h) (by simpa [bU]using h')|y::ns,some i::r,0,x,v,s,h,h' =>by
  have e:y=x:=by simpa using h
  subst e;have q:(a[i]?).join=some v:=by simpa [bU]using h'
  refine⟨i,s.1.1,?_,s.1.2.1,s.1.2.2⟩;cases z:a[i]? with
  |none=>rw[z]at q;cases q|some o=>rw[z]at q;exact ND some q
 |y::ns,some i::r,j+1,x,v,s,h,h' =>bY.at (N' :=ns) (src:=r) (j:=j) s.2 (by simpa using h) (by simpa [bU]using h')|[],_::_,_,_,_,s,_,_=>by cases s|_::_,[],_,_,_,s,_,_=>by cases s
def zC(X:Cx)(ifs:List Expr)(t:TT):Prop :=
 ∀(a:List (Addr×Obj))(s:Shared)(b:St)(H:Hp)(Q:Bool->Hp->Prop),Inv X a b H s->t b H Q -> wpAny (model X.prog X.w) X.A (forIn ifs true λc r=>if r=true then do let ok<-isTrue c X.env (eval c X.env);pure (ForInStep.yield ok)else pure (ForInStep.yield r)) (TP X a b Q) X.xe s
def FG:TT:=λ_ H Q=>Q true H
theorem lG:zC X [] FG:=λ_ _ _ H _ I h=>wpAny_tests_nil ⟨H,I,h⟩
theorem lF(h:PT X c t):zC X [c] t:=λa s b H Q I d=>wpAny_tests_one (h a s b H Q I d)
def JM(X:Cx)(N' :List Str)(src:List (Option Nat))(scope:Scope)(c:Expr)(ifs:List Expr)(elt:Expr)(D:Addr)(l:St)(x:V)(d:List V)(q :Hp)(N:List V->Hp->Prop):Prop :=
 ∀(C:Addr)(e:Shared)(f:Hp)(h:List Addr)(i:List (Str×Addr)),∃(g:TG)(n:TT)(k:TE),PG (bK X N' scope C e f h i) c g/\zC (bK X N' scope C e f h i) ifs n/\PE (bK X N' scope C e f h i) elt k /\ g x (bU src l) q λa p=>(a.length=N'.length/\∀(j:Nat)(v:V),(bU src l)[j]? =some (some v)->a[j]? =some (some v)) /\ n a p λb m=>if b=true then k a m λv o=>o D=some (.lst d)/\d.length<sizeLine/\N (d++[v]) (upd o D (.lst (d++[v])))else N d m
def F2(X:Cx)(N' :List Str)(src:List (Option Nat))(scope:Scope)(a:Expr)(ifs:List Expr)(elt:Expr)(j:TI):TE:=λd H Q=>j d H λJ e=>∀D,e D=none -> ∃W:Nat->Nat->List V->Hp->Prop,(∃m,W 0 m [] (upd e D (.lst [])))/\∀i m g H,W i m g H -> (J.stop i H/\Q (.ref D) H)\/(J.go i H/\∀x h,J.yld i H x h ->JM X N' src scope a ifs elt D d x g h λb c =>∃f,f <m/\W (i+1) f b c)
section
variable{X:Cx}{pins:List (Addr×Obj)}{σ:St}{H:Hp}{s:Shared}
structure zF(X:Cx)(scope:Scope)(C:Addr)(cl:List (Str×Addr)):Prop where
 ex:∃own,cl=own++iO X.env scope.names []/\(∀n c,(n,c)∈own->C<c/\scope.names.lookup n=some .cell)/\(∀x,(x,NameKind.cell)∈scope.names->∃c,own.lookup x=some c)/\own.Pairwise λx y=>x.2≠y.2
theorem zF.sub(k:zF X scope C d)(a:∀y∈scope.names,y.2=.free->∃c,X.env.cells.lookup y.1=some c)(e:d.lookup x=some c) :
  (C<c/\scope.names.lookup x=some .cell)\/(scope.names.lookup x≠some .cell\/True)/\X.env.cells.lookup x=some c:=by
 obtain⟨b,rfl,f,h,g⟩:=k.ex;rw[OY]at e;cases z:b.lookup x with
 |some c' =>
  rw[z]at e;cases e;exact .inl (f x c (NJ z))
 |none =>
  rw[z]at e
  rcases eN a e with q|q
  ·cases q
  ·exact .inr ⟨.inr trivial,q⟩
theorem EM(I:Inv X pins σ H s)(p:scope.kind=.function)(k:zF X scope C E)
  (j:∀y∈scope.names,y.2=.free->∃c,X.env.cells.lookup y.1=some c) (t:s.heap.objs.size<=C) (K:∀b∈O,jm X pins H b) (u:∀b∈O,b<s.heap.objs.size):(bK X N' scope C s H O E).Ok:=by
 have D:∀x c,X.env.cells.lookup x=some c->c<s.heap.objs.size:=λx c e=>let⟨_,q⟩:=I.cell x c e;q.lt
 obtain⟨g,r,G,R,T⟩:=k.ex;have f:∀x c,E.lookup x=some c->(x,c)∈g\/X.env.cells.lookup x=some c:=λx c e=>by
  rw[r,OY]at e;cases z:g.lookup x with
  |some c' =>rw[z]at e;cases e;exact .inl (NJ z)|none =>
   rw[z]at e
   rcases eN j e with q|q
   ·cases q
   ·exact .inr q
 refine⟨I.ok.mod,p,I.ok.glob,I.ok.blt,t,λx y c e1 Y=> ?_,λx Z=> ?_,λx c h e=> ?_,I.ok.hd,I.ok.frames,.inl rfl,λb i=>⟨?_,λx c e=> ?_⟩,I.bs,M8 I.ok.bsz I.sz,λb o e i=> ?_,λb i hs=> ?_,I.stack,I.stkFree⟩
 ·rcases f x c e1 with F|F<;>rcases f y c Y with B|B
  ·exact PySem.name_of_addr T F B
  ·exact absurd (Os (D y c B) (Px t (G x c F).1)) (Om _)
  ·exact absurd (Os (D x c F) (Px t (G y c B).1)) (Om _)
  ·exact I.ok.inj x y c F B
 ·-- a name of the block's that is no local of it is one that it closes over,or has a cell of its g
  have P :(relabel scope X.env).names.lookup x=some .cell\/(relabel scope X.env).names.lookup x=some .free:=Z;have Q:∀k,(k=NameKind.cell\/k=NameKind.free)->(relabel scope X.env).names.lookup x=some k->(x,NameKind.free)∈scope.names\/(x,NameKind.cell)∈scope.names:=λk U e=>by
   have m:=NJ e;obtain⟨⟨n,J⟩,M,S⟩:=MZ.mp m
   by_cases A:J =NameKind.free
   ·subst A
    have d :(if(NameKind.free==NameKind.free&&X.env.scope.kind== .function&&X.env.kindOf n==some .cell)=true then(n,NameKind.cell)else(n,NameKind.free))=(x,k):=S;have W:n=x:=by split at d <;>exact(Prod.mk.inj d).1
    rw[<- W];exact .inl M
   ·have d :(if(J ==NameKind.free&&X.env.scope.kind== .function&&X.env.kindOf n==some .cell)=true then(n,NameKind.cell)else(n,J))=(x,k):=S
    have L:(J ==NameKind.free)=false:=by simpa using A
    rw[L,P4,P4,MV Mc]at d;obtain⟨g1,V⟩:=Prod.mk.inj d;subst g1 V
    rcases U with rfl|rfl
    ·exact .inr M
    ·exact .inl M
  have v:(x,NameKind.free)∈scope.names\/(x,NameKind.cell)∈scope.names->∃c,E.lookup x=some c:=by
   intro z;rw[r]
   rcases z with z|z
   ·obtain⟨c,N⟩:=iN (env:=X.env) (l:=scope.names) (acc:=[]) (x:=x) (.inl z)
    rw[OY];cases g.lookup x with
    |some c' =>exact⟨c',rfl⟩|none=>exact⟨c,N⟩
   ·obtain⟨c,N⟩:=R x z
    exact⟨c,by rw[OY,N];rfl⟩
  rcases P with e|e
  ·exact v (Q _ (.inl rfl) e)
  ·exact v (Q _ (.inr rfl) e)
 ·have h:scope.names.lookup x=some .cell:=by simpa using h
  obtain⟨c',w⟩:=R x (NJ h);have e:E.lookup x=some c:=e;rw[r,OY,w]at e;cases e;exact M8 t (Ot (G x c (NJ w)).1)
 ·exact λe=>absurd (u b i) (by show¬b<_;rw[e];exact Nat.not_lt.mpr t)
 ·rcases f x c e with q|q
  ·exact λz=>absurd (Os (u b i) (Px t (G x c q).1)) (by rw[z];exact Om _)
  ·exact(K b i).2.2.2.2.1 x c q
 ·rcases(K b i).2.2.2.1 with q|q
  ·exact I.ok.noex b o e q
  ·exact absurd (Mu e) (Nat.not_lt.mpr (M8 I.ok.bsz q))
 ·rcases Mh.mp (I.stkSub b hs)with q|q
  ·exact(K b i).2.1 q
  ·exact(K b i).2.2.1 q
theorem cO:∀(names:List (Str×NameKind))(n:Nat)(a b:List (Str×Addr)),cellsFrom n names (a++b)=cellsFrom n names a++b
 |[],_,_,_=>rfl|(x,k)::r,n,a,b=>by
  unfold cellsFrom
  split;exact cO r (n+1) ((x,n)::a) b;exact cO r n a b
set_option tactic.hygienic true in
theorem d0:∀(names:List (Str×NameKind))(n:Nat)(acc:List (Str×Addr))(x:Str)(c:Addr),(x,c)∈cellsFrom n names acc->(x,c)∈acc\/(x,NameKind.cell)∈names
 |[],_,_,_,_,h=>.inl h|(y,k)::r,n,acc,x,c,h=>by
  unfold cellsFrom at h
  split at h
  ·rename_i a
   have a:k=.cell:=by simpa using a
   rcases d0 r (n+1) ((y,n)::acc) x c h with q|q
   ·rcases Mh.mp q with e|e
    ·cases e
     rw[a];exact .inr MT
    ·exact .inl e
   ·exact .inr (MS _ q)
  ·rcases d0 r n acc x c h with q|q
   ·exact .inl q
   ·exact .inr (MS _ q)
theorem ET(a:∀y∈scope.names,y.2=.cell->scope.names.lookup y.1=some .cell)(h:Heap)(d:h.objs.size=C+1):zF X scope C (cellsFrom (C+1) scope.names (iO X.env scope.names [])):=by
 have ok:=cellsFrom_ok scope.names h (C+1) [] ⟨λ_ _ b=>(nomatch b),List.Pairwise.nil⟩ (by rw[d];exact Md _);rw[d]at ok;refine⟨cellsFrom (C+1) scope.names [],by rw[<- cO];rfl,λn c b=>⟨(ok.empty n c b).2,?_⟩,λx e=> ?_,ok.apart⟩
 ·rcases d0 _ _ _ _ _ b with q|q
  ·cases q
  ·exact a _ q rfl
 ·have:=W.cellsFrom_some (x:=x) scope.names (C+1) [] (.inl (a _ e rfl))
  exact Option.isSome_iff_exists.mp this
theorem Bo
  (h:Q {scope:=scope,locals:=s.heap.objs.size,globals:=globals,cells:=cellsFrom (s.heap.objs.size+1) scope.names b,qual:=qual,func:=none,code:=env.code,frame:=env.frame,builtins:=env.builtins} {s with heap:=pushCells (s.heap.push {cls:=.type "dict",data:=.dict #[]}) scope.names}) :
  wpAny M A (newFunctionEnv scope globals b [] qual none .none (some env)) Q E s:=by
 simp only[newFunctionEnv,Option.isSome_some,Pe];refine MQ (wpAny_alloc ?_);refine MQ (wpAny_layCells _ (λname kind cells=>by cases a:kind==NameKind.cell<;>simp[a]) _ _ _ _ ?_);rw[show({s with heap:=s.heap.push {cls:=.type "dict",data:=.dict #[]}}:Shared).heap.objs.size=s.heap.objs.size+1 from OR ..];rw[List.forIn_nil];exact MQ (MU (MU h))
end
theorem gw{env:Env}:∀{names:List (Str×NameKind)}{x:Str},names.lookup x=some .free -> (names.map fun(n,k)=>if(k==NameKind.free&&env.scope.kind== .function&&env.kindOf n==some .cell)then(n,NameKind.cell)else(n,k)).lookup x=some .cell \/ (names.map fun(n,k)=>if(k==NameKind.free&&env.scope.kind== .function&&env.kindOf n==some .cell)then(n,NameKind.cell)else(n,k)).lookup x=some .free
 |[],_,h=>by simp at h|(n,k)::r,x,h=>by
  have c:= @gw env r x;show List.lookup x ((if(k==NameKind.free&&env.scope.kind== .function&&env.kindOf n==some .cell)=true then(n,NameKind.cell)else(n,k))::_)=_\/List.lookup x ((if(k==NameKind.free&&env.scope.kind== .function&&env.kindOf n==some .cell)=true then(n,NameKind.cell)else(n,k))::_)=_;cases a:x==n with
  |true =>
   simp only[NT,a]at h;cases h
   by_cases b:(NameKind.free==NameKind.free&&env.scope.kind== .function&&env.kindOf n==some .cell)=true;left;rw[MX b];simp only[NT,a];right;rw[MV b];simp only[NT,a]
  |false =>
   simp only[NT,a]at h
   by_cases b:(k==NameKind.free&&env.scope.kind== .function&&env.kindOf n==some .cell)=true;rw[MX b];simp only[NT,a];exact c h;rw[MV b];simp only[NT,a];exact c h
section
variable{X:Cx}{pins:List (Addr×Obj)}{σ:St}{H:Hp}{s:Shared}
theorem vJ(I:Inv X pins σ H s)(n:scope.kind=.function)(k:zF X scope C w)
  (a:∀y∈scope.names,y.2=.free->∃c,X.env.cells.lookup y.1=some c) (g:bY X scope N' src) (hf:∀b∈O,jm X pins H b) (M:∀b∈O,b<s.heap.objs.size)
  (t:D=s.heap.objs.size) (L:s.heap.objs.size<C) (S:d.Ns C m) (f:∀b o,s.heap.get? b=some o->d.get? b=some o) (K:d.get? D=some {cls:=.type "list",data:=.seq #[]})
  (N:∀x c,w.lookup x=some c->C<c->∃v,d.IsCell c v) :
  Inv (bK X N' scope C s H O w) [] (bU src σ) (upd H D (.lst [])) {s with heap:=d,toks:=Z}:=by
 have V:H D=none:=by rw[t];exact I.hok.fresh (Md _)
 have ok:=EM (N' :=N') I n k a (Ot L) hf M;have P:D≠C:=by rw[t];exact Mz L
 refine⟨ok,rfl,I.bare,Un.laid f (by rw[t];exact Md _) V,⟨m,S,λj x v h1 h2 h3=> ?_⟩,λx c e=> ?_,?_,λx c e=> ?_,λp hp=>(by cases hp),I.hok.laid f (by rw[t];exact Md _) ?_,?_⟩
 ·obtain⟨i,e1,Y,Q,h⟩:=g.at h1 h2
  obtain⟨m0,_,hl⟩:=I.loc;obtain⟨u,r,l⟩:=hl i x v e1 Y (.inr h);refine⟨u,r,?_⟩;obtain⟨A,R,o1,o2,o3⟩:=k.ex;have J:A.lookup x=none:=by
   cases z:A.lookup x with
   |none=>rfl|some c =>
    have:=(o1 x c (NJ z)).2;rw[Q]at this;cases this
  obtain⟨c',B⟩:=iN (env:=X.env) (l:=scope.names) (acc:=[]) (x:=x) (.inl (NJ Q));have T:X.env.cells.lookup x=some c' :=by
   rcases eN a B with q|q
   ·cases q
   ·exact q
  have F :w.lookup x=some c' :=by rw[R,OY,J];exact B
  rcases l with⟨U,_⟩|⟨U,c,W,E⟩
  ·have G :X.env.scope.names.lookup x=some .local:=U
   rcases h with h|h
   ·rw[G]at h;cases h
   ·rw[G]at h;cases h
  ·have ec:c' =c:=Mv (T.symm.trans W)
   subst ec
   right
   exact⟨gw Q,c',F,E.keeps f⟩
 ·rcases k.sub a (show w.lookup x=some c from e)with q|q
  ·exact N x c e q.1
  ·obtain⟨v,z⟩:=I.cell x c q.2
   exact⟨v,z.keeps f⟩
 ·show upd H D (.lst []) C=none
  rw[aB (Nv P)];exact I.hok.fresh (Ot L)
 ·show upd H D (.lst []) c=none
  rcases k.sub a (show w.lookup x=some c from e)with q|q
  ·have:s.heap.objs.size<c:=Os L q.1
   rw[aB (by rw[t];exact N1 this)];exact I.hok.fresh (Ot this)
  ·obtain⟨v,z⟩:=I.cell x c q.2
   rw[aB (by rw[t];exact Mz z.lt)];exact I.freeC x c q.2
 ·exact⟨NH _,[],0,.nil,K⟩
 ·show(src.map _).length=N'.length
  rw[MR];exact g.len
theorem fY.but(x:fY P w H h)(k:∀b u,H b≠none->h.get? b=some u->h'.get? b=some u):fY P w H h' :=λa o e =>
 (x a o e).stay (λb u c q=>k b u (by rcases c with rfl|c;(rw[e];simp);(rw[c];simp)) q) (λ_ q=>q) λ_ _ q=>q
noncomputable def eI(a scope:Scope):Bool:=scope.names.all λy=> !(y.2==NameKind.free)||(a.names.lookup y.1==some .cell||a.names.lookup y.1==some .free)
theorem Bc(h:eI a scope=true):∀y∈scope.names,y.2=.free->(a.names.lookup y.1=some .cell\/a.names.lookup y.1=some .free):=λy c b=>by
 have z:=Mm.mp h y c;rw[b]at z
 simpa using z
theorem wk(hc:X.calm=true)(hi:PI X f F wi)(a7:bY X scope N' src)
  (a0:scope.kind=.function) (b4:∀y∈scope.names,y.2=.cell->scope.names.lookup y.1=some .cell) (a3:∀y∈scope.names,y.2=.local->scope.names.lookup y.1=some .local)
  (c9:eI X.env.scope scope=true)
  (hs:∀x,foldedSetIterable F X.env x=pure x) (I:Inv X pins σ H s) (h:F2 X N' src scope f ifs elt wi σ H Q)
  (c8:∀(C a:Addr)(k s4:Shared)(N H3:Hp)(L:List Addr)(M:List (Str×Addr))(m:Str->Option Value),Inv X pins σ N k->(∀b∈L,jm X pins N b)->(∀b,b<k.heap.objs.size->b≠C)->k.heap.objs.size<=C->Inv (bK X N' scope C k N L M) [] (bU src σ) H3 s4->s4.heap.Ns C m->Q (.ref a) H3->∀v,compPost (model X.prog X.w) X.A X.xe use P (.ref a) C (.ok v) s4) :
  wpAny (model X.prog X.w) X.A (comprehension (.ListComp elt [⟨f,F,ifs,0⟩] scope pos) scope X.env (firstIterPos [⟨f,F,ifs,0⟩] pos) (newList []) (firstAsync [⟨f,F,ifs,0⟩]) (firstIter [⟨f,F,ifs,0⟩] X.env) use) P X.xe s:=by
 have K:∀y∈scope.names,y.2=.free->∃c,X.env.cells.lookup y.1=some c:=λy hy hf=>I.ok.has y.1 (Bc c9 y hy hf);refine wpAny_comprehension_free (use:=use) rfl hs (vS K) a0 a3 ?_;refine al (hi pins s σ H _ I h) λxv s1 h1=>al h1 λd7 k h2=> ?_;obtain⟨it,L,tn,J,N,e,I2,T,b9,f2,q⟩:=h2;subst e;have a6:∀b∈L,b<k.heap.objs.size:=λb G=>by
  obtain⟨o,e,_⟩:=T.obj _ _ b9 b G;exact Mu e
 refine NO (Bo ?_);dsimp only
 generalize a9:k.heap.push {cls:=.type "list",dict:=none,data:=.seq ([]:List Value).toArray}=G2
 have hC:G2.objs.size=k.heap.objs.size+1:=by rw[<- a9,OR]
 have b':k.heap.objs.size<=G2.objs.size:=by rw[hC];exact Pm _
 have Y:k.heap.objs.size<G2.objs.size:=by rw[hC];exact Nat.lt_succ_self _
 have Z:∀b,b<k.heap.objs.size->b≠G2.objs.size:=λb G=>by rw[hC];exact Mz (Nr G)
 obtain⟨M,S⟩:∃M,M=cellsFrom (G2.objs.size+1) scope.names (iO X.env scope.names []):=⟨_,rfl⟩;obtain⟨B,D⟩:∃B,B=pushCells (G2.push {cls:=.type "dict",data:=.dict #[]}) scope.names:=⟨_,rfl⟩;rw[<- S,<-D];have U:(G2.push {cls:=.type "dict",data:=.dict #[]}).objs.size=G2.objs.size+1:=OR ..;have c7:zF X scope G2.objs.size M:=by rw[S];exact ET b4 _ U
 have a5:B.Ns G2.objs.size (λ_=>none):=by rw[D];exact(Heap.Ns.new G2 (.type "dict")).keeps (pushCells_keeps _ _)
 have b7:∀b o,k.heap.get? b=some o->B.get? b=some o:=λb o e=>by rw[D];exact pushCells_keeps _ _ b o (MW _ (a9▸MW _ e))
 have c0:B.get? k.heap.objs.size=some {cls:=.type "list",data:=.seq #[]}:=by rw[D];exact pushCells_keeps _ _ _ _ (MW _ (a9▸Mr _ rfl))
 have d4:∀x c,M.lookup x=some c->G2.objs.size<c->∃v,B.IsCell c v:=λx c e b6 =>by
  have c4:=cellsFrom_ok scope.names (G2.push {cls:=.type "dict",data:=.dict #[]}) (G2.objs.size+1) [] ⟨λ_ _ hm=>(nomatch hm),List.Pairwise.nil⟩ (by rw[U];exact Md _);rw[U]at c4;have e1:M=cellsFrom (G2.objs.size+1) scope.names []++iO X.env scope.names []:=by rw[S,<-cO];rfl
  rw[e1,OY]at e;cases z:(cellsFrom (G2.objs.size+1) scope.names []).lookup x with
  |some c' =>
   rw[z]at e;cases e;exact⟨none,by rw[D];exact(c4.empty x c (NJ z)).1⟩
  |none =>
   rw[z]at e
   rcases eN K e with q|q
   ·cases q
   ·obtain⟨v,zc⟩:=I2.cell x c q
    exact absurd (Os zc.lt Y) (Nat.not_lt.mpr (Ot b6))
 have d3:N k.heap.objs.size=none:=I2.hok.fresh (Md _);obtain⟨W,⟨m0,w0⟩,c6⟩:=q k.heap.objs.size d3;have c5:tn 0 B:=T.keep _ _ _ b9 λb G o e=>b7 b o e;have c2:∀b∈L,b∉vB X.stack:=λb G hz=>by
  rcases Mh.mp (I2.stkSub b hz)with z|z
  ·exact(f2 b G).2.1 z
  ·exact(f2 b G).2.2.1 z
 have d0:∀x c,M.lookup x=some c->G2.objs.size<c\/X.env.cells.lookup x=some c:=λx c e=>by
  rcases c7.sub K e with q|q
  ·exact .inl q.1
  ·exact .inr q.2
 have O:∀{H' :Hp},(∀b∈L,H' b=none)->∀b∈L,jm (bK X N' scope G2.objs.size k N L M) [] H' b:=λhn b G =>
  ⟨hn b G,Z b (a6 b G),c2 b G,.inl G,λx c e=>(by rcases d0 x c e with q|q;(exact λz=>absurd (Os (a6 b G) (Os Y q)) (by rw[z];exact Om _));exact(f2 b G).2.2.2.2.1 x c q),λp hp=>by cases hp⟩
 have a8:∀s3:Shared,s3={k with heap:=B} -> codeAny (model X.prog X.w) X.A (.compLoop (.ListComp elt [⟨f,F,ifs,0⟩] scope pos) 0 (.ref it) (.ref k.heap.objs.size) (compEnvC scope M G2.objs.size X.env))
    (compPost (model X.prog X.w) X.A X.xe use P (.ref k.heap.objs.size) G2.objs.size) s3:=by
  rintro s3 rfl
  refine px (λn s' =>∃i ys H',Inv (bK X N' scope G2.objs.size k N L M) [] (bU src σ) H' s' /\tn i s'.heap/\(∀b∈L,H' b=none)/\W i n ys H') ?_ m0
   ⟨0,[],_,vJ I2 a0 c7 K a7 f2 a6 rfl Y a5 b7 c0 d4,c5,λb G=>by rw[aB (Mz (a6 b G))];exact(f2 b G).1,w0⟩
  rintro n s' ⟨i,ys,H3,I3,c1,b5,w3⟩
  rcases c6 i n ys H3 w3 with⟨b8,qn⟩|⟨go,c3⟩
  ·refine al (T.done (bK X N' scope G2.objs.size k N L M) rfl rfl rfl hc i [] s' _ H3 _ I3 (O b5) c1 b8) λr s4 l=> ?_
   obtain⟨hr,I4⟩:=l;subst hr;obtain⟨m,hn,_⟩:=I4.loc;exact c8 _ _ k s4 N H3 L M m I2 f2 Z b' I4 hn qn _
  ·refine al (T.item (bK X N' scope G2.objs.size k N L M) rfl rfl rfl hc i [] s' _ H3 _ I3 (O b5) c1 go) λr s4 l=> ?_
   obtain⟨u,hr,h4⟩:=l;subst hr;refine al h4 λ_ s5 l=> ?_;obtain⟨x,H5,I5,r5,y5,b2,d5⟩:=l;obtain⟨g,tt,te,hg,ht,he,rd⟩:=c3 x H5 y5 G2.objs.size k N L M;have d2 :=I5.pinned (O d5) (T.obj _ _ b2);have a4:∀{α:Type}{t:Sem α}{Q' :α->Shared->Prop}{s' :Shared}{E:Value->Shared->Prop},wpAny (model X.prog X.w) X.A t Q' (λ_ _=>False) s' ->wpAny (model X.prog X.w) X.A t Q' E s' :=λz=>OC z (λ_ _ y=>y) λ_ _ y=>y.elim
   have R:∀{a2:St}{H7:Hp}{s7:Shared}{a' :List V},Inv (bK X N' scope G2.objs.size k N L M) ([]++lE L s5.heap) a2 H7 s7->(a2.length=N'.length/\∀(j:Nat)(v:V),(bU src σ)[j]? =some (some v)->a2[j]? =some (some v)) -> (∃m',m' <n/\W (i+1) m' a' H7)->∃m,m<n/\∃i ys H',Inv (bK X N' scope G2.objs.size k N L M) [] (bU src σ) H' s7/\tn i s7.heap/\(∀b∈L,H' b=none)/\W i m ys H' :=fun{a2 H7 s7 a'} I7 a1 ⟨m',hm,w7⟩=>by
    refine⟨m',hm,i+1,a',H7,(I7.unpinned).weak (by rw[show(bU src σ).length=N'.length by(show(src.map _).length=_;rw[MR];exact a7.len)];exact a1.1.symm) a1.2,T.keep _ _ _ b2 λb G o e=>(I7.pin (b,o) (NE _ (NE _ (eR G e)))).1,λb G=> ?_,w7⟩;obtain⟨o,e,d⟩:=T.obj _ _ b2 b G;exact(I7.pin (b,o) (NE _ (NE _ (eR G e)))).2.1
   refine a4 (al (hg _ s5 _ H5 x u _ d2 r5 rd) λ_ s6 l=> ?_);obtain⟨b3,H6,I6,a1,q6⟩:=l;refine a4 (al (ht _ s6 b3 H6 _ I6 q6) λb s7 l=> ?_);obtain⟨H7,I7,q7⟩:=l;cases b with
   |false=>exact R I7 a1 q7|true =>
    rw[MX rfl]at q7 ⊢;refine a4 (al (he _ s7 b3 H7 _ I7 q7) λy s8 l=> ?_);obtain⟨v,H8,I8,r8,d6,d1,q8⟩:=l;refine a4 (al (nj _ s8 b3 H8 (.ref k.heap.objs.size) [v] (.ref k.heap.objs.size) [y] (λ_ H9=>∃m',m' <n/\W (i+1) m' (ys++[v]) H9) I8 rfl (.cons r8 .nil) ⟨_,_,_,rfl,rfl,d6,d1,q8⟩) λ_ s9 l=> ?_);obtain⟨_,H9,I9,_,q9⟩:=l;exact R I9 a1 q9
 exact codeAny_compStart_list (a8 _ rfl) (T.self X.A 0 _ _ _ c5 (a8 _ rfl))
theorem Ag(S:X.calm=true)(Y:PI X c d M)(r:bY X scope N' src)
  (p:scope.kind=.function) (l:∀y∈scope.names,y.2=.cell->scope.names.lookup y.1=some .cell) (i:∀y∈scope.names,y.2=.local->scope.names.lookup y.1=some .local)
  (K:eI X.env.scope scope=true)
  (W:∀x,foldedSetIterable d X.env x=pure x:=by intro _;rfl) :
  PE X (.ListComp elt [⟨c,d,ifs,0⟩] scope pos) (F2 X N' src scope c ifs elt M):=by
 intro O s Z H Q I h;rw[eval_ListComp];refine wk S Y r p l i K W I h λC a D L N v J cl m T A k P t R V _=> ?_;refine⟨m,R,λh' g => ?_⟩;have G:∀b o,D.heap.get? b=some o->b≠C:=λb o e=>k b (Mu e);have f:v C=none:=t.free;have j:Un (vB X.stack) J N v D.heap L.heap:=t.base
 have U:Un (vB X.stack) J N v D.heap h' :=⟨λb o e n B F=>(g.2 b (G b o e)).trans (j.keep b o e n B F),λb o e n B F=>let⟨sl,z⟩:=j.slot b o e n B F;⟨sl,(g.2 b (G b o e)).trans z⟩,j.free,λb o e z=>let⟨o',z'⟩:=j.there b o e z;⟨o',(g.2 b (G b o e)).trans z'⟩,j.tups,j.frzs,j.tbls⟩
 have E:fY X.prog X.w v h' :=fY.but (h:=L.heap) t.hok λb u q z=>(g.2 b (λw=>q (by rw[w];exact f))).trans z;exact⟨.ref a,v,T.call' (s' :={L with heap:=h'}) (ch:=J) t.os U E t.bare λb q=>⟨(A b q).2.2.2.1,(A b q).2.1,(A b q).2.2.2.2.1,(A b q).2.2.2.2.2⟩,rfl,V⟩
end
section
variable{X:Cx}
theorem all_range(d:List Bool):(List.range d.length).all (λi=>d.getD i true)=d.all id:=by
 rw[NI,Mm,Mm]
 constructor
 ·intro h b f
  obtain⟨i,c,e⟩:=List.mem_iff_getElem.mp f;have z:=h i (NC.mpr c);rw[Me,Mf c,e]at z;exact z
 ·intro h i c
  have a :=NC.mp c;rw[Me,Mf a];exact h _ (Oq a)
theorem tm{a:List Bool}(r:aU (a.map V.bl) b){i:Nat}(e:b[i]? =some v):v=.bool (a.getD i true):=by
 have d:=r.length;rw[MR]at d;have h:i<b.length:=(Mk.mp e).1;have g:(a.map V.bl)[i]? =some (.bl (a.getD i true)):=by
  rw[Mi,Me,Mf (by omega)];rfl
 obtain⟨u,c,f⟩:=r.get g;rw[e]at c;cases c;exact f
theorem tJ(l:X.calm=true):bV X (.builtin "all") (λxs H Q=>∃(p:Addr)(d:List Bool),xs=[.ref p]/\bR X.K H p (d.map V.bl)/\Q (.bl (d.all id)) H):=by
 intro j s B H xs D Q I r h;obtain⟨p,d,rfl,m,q⟩:=h;obtain⟨u,rfl,w⟩:=vals1 r;cases w;obtain⟨c,g,f,C⟩:=I.list m;have a:=g.length;rw[MR]at a;have x:p<s.heap.objs.size:=by
  obtain⟨o,e,_⟩:=f.isList;exact Mu e
 refine call_all_walk (QD f.isList ?_);refine⟨s.heap.objs.size,_,_,c.toArray.size,_,_,(λi=>d.getD i true),rfl,Walks.list (A:=X.A.in1) (I.ok.hd l) s.heap.objs.size p (Mz x) c.toArray,⟨⟨_,Mr _ rfl,rfl,rfl⟩,f.isList.push _⟩,?_,?_⟩
 ·intro i v s' E z t y
  have e:=tm g (i:=i) (v:=v) (by simpa using t);subst e;exact Nm y
 ·intro h' n k
  refine⟨.bl (d.all id),H,I.kept (t' :=n) (λb o e=>k b o (by simpa using Mz (Mu e)) (MW _ e)),?_,q⟩;rw[Mn,<-a,all_range];rfl
noncomputable def MI(x:Str):It:=⟨λi _=>i<x.cps.size,λi H v a =>a =H/\∃c,x.cps[i]? =some c/\v=.str ⟨#[c]⟩,λi _=>i=x.cps.size⟩
def iStr(b:TE):TI:=λa H R=>b a H λx c=>∃z,x=.str z/\R (MI z) c
theorem gH{P:Program}{w:World}{K:W.Frag}{tg:Expr}{it:Addr}{n:Nat}{V:Nat->Value->Prop}{p:Nat->Heap->Prop}{J:It}(B:∀A:Around,A.handled=none->Walks P w A it [it] [it] n V p)
  (m:∀i h,p i h->∃(o:Obj)(r:String)(vs:Array Value),h.get? it=some o/\o.cls=.type r/\o.data=.fields vs/\["enumerate","zip","dict_itemiterator","dict_reverseitemiterator","odict_iterator","itertools.zip_longest","itertools.pairwise"].contains r=false)
  (O:∀i H,J.go i H->i<n) (t:∀i H,J.stop i H->i=n) (hy:∀i H v,V i v->∃x,RelV x v/\J.yld i H x H)
  (g:∀(A:Around)(i:Nat)(s:Shared)(Q:Value->Shared->Prop)(E:Value->Shared->Prop),p i s.heap->Q (.ref it) s->wpAny (model P w) A (pyIter (.ref it)) Q E s):nJ P w K tg J [it] it p where
 mem:=by simp
 obj:=λi h j b f=>by
  have e:b=it:=by simpa using f
  subst e;obtain⟨o,r,vs,e,_,d,_⟩:=m i h j;exact⟨o,e,λv z=>by rw[d]at z;cases z⟩
 keep:=λi h h' j k=>(B {callerA with handled:=none} rfl).frame i h h' j k
 item:=by
  intro X L R G u i a s Y H E I q j U;subst L R G;obtain⟨M,T,f2,N,D,C⟩:=q it (by simp);refine(B X.A (I.ok.hd u)).item i s _ _ (O i H U) j λv h' F hv l S=> ?_;obtain⟨x,rx,y⟩:=hy i H v hv;have I1:Inv X a Y H {s with heap:=h',toks:=F}:=I.turned (λb o f e=>S b o (by simpa using f) e) M T N D C;obtain⟨o,r,vs,e,c,d,Z⟩:=m (i+1) h' l;exact⟨_,rfl,nz (s:={s with heap:=h',toks:=F}) e c d Z ⟨x,H,I1,rx,y,l,λb f=>(q b f).1⟩⟩
 done:=by
  intro X L R G u i a s Y H E I q j U;subst L R G;obtain⟨M,T,f2,N,D,C⟩:=q it (by simp);have e:=t i H U;subst e;exact(B X.A (I.ok.hd u)).done s _ _ j λh' F S=>⟨rfl,I.turned (λb o f e=>S b o (by simpa using f) e) M T N D C⟩
 self:=g
theorem Gf(D:PE X l r):PI X tg l (iStr r):=by
 intro f s F H R I h;refine al (D f s F H _ I h) λv a n=> ?_;obtain⟨x,m,k,J,K⟩:=n;obtain⟨z,rfl,q⟩:=K;obtain⟨t,rfl⟩:=J;have B:∀b∈[a.heap.objs.size],jm X f m b:=λb G=>by
  have e:b=a.heap.objs.size:=by simpa using G
  subst e;exact k.fpOk (Md _) (k.hok.fresh (Md _))
 have w:∀(i:Nat)(H:Hp)(v:Value),SignAt z i v->∃x,RelV x v/\(MI z).yld i H x H:=λi H v C=>by
  obtain⟨c,u,e,rfl⟩:=C;exact⟨.str ⟨#[c]⟩,⟨_,rfl⟩,rfl,c,e,rfl⟩
 cases y:z.cps.all (·<128)with
 |false =>
  refine wpAny_pyIter_wide y ?_
  refine⟨a.heap.objs.size,[a.heap.objs.size],λi h=>h.IsStrIter a.heap.objs.size "str_iterator" z t i,MI z,m,rfl,k.kept (t' :=a.toks) λb o e=>MW _ e,gH (λA p=>Walks.strWide p _ z t) (λi h j=> ?_) (λi H g=>g) (λi H g=>g) w (λA i s Q E j h=>wpAny_pyIter_striter_wide j h),⟨_,Mr _ rfl,rfl,rfl⟩,B,q⟩
  obtain⟨o,e,c,d⟩:=j;exact⟨o,_,_,e,c,d,by decide⟩
 |true =>
  refine wpAny_pyIter_ascii y ?_
  refine⟨a.heap.objs.size,[a.heap.objs.size],λi h=>h.IsStrIter a.heap.objs.size "str_ascii_iterator" z t i,MI z,m,rfl,k.kept (t' :=a.toks) λb o e=>MW _ e,gH (λA p=>Walks.strAscii p _ z t) (λi h j=> ?_) (λi H g=>g) (λi H g=>g) w (λA i s Q E j h=>wpAny_pyIter_striter_ascii j h),⟨_,Mr _ rfl,rfl,rfl⟩,B,q⟩
  obtain⟨o,e,c,d⟩:=j;exact⟨o,_,_,e,c,d,by decide⟩
noncomputable def Itc(lo c:Int)(n:Nat):It:=⟨λi _=>i<n,λi H x a =>a =H/\x=.int (lo+i*c),λi _=>i=n⟩
def Kx(b:TA):TI:=λa H R=>b a H λvs d=>∃i j c:Int,vs=[.int i,.int j,.int c]/\c≠0/\c.natAbs<1073741824/\Builtin.Range.small i j c=true/\R (Itc i c (Builtin.Range.rangeSize i j c).toNat) d
theorem o7(i j c:Int):0<=Builtin.Range.rangeSize i j c:=by
 unfold Builtin.Range.rangeSize
 split
 ·split
  ·have:=Int.ediv_nonneg (a:=j-i-1) (b:=c) (by omega) (by omega)
   omega
  ·exact P7 _
 ·split
  ·by_cases d:c=0
   ·subst d
    simp
   ·have:=Int.ediv_nonneg (a:=i-j-1) (b:= -c) (by omega) (by omega)
    omega
  ·exact P7 _
theorem yH(Z:Gl X "range")(K:X.mg "range"=none)(N:PA X [a,b,c] D)(P:starEach [a,b,c] X.env=(false,eval a X.env)::starEach [b,c] X.env:=by rfl)
  (z:(backTo pos (starEach [b,c] X.env)).any (·.1)=false:=by rfl):PI X tg (.Call (.Name "range" p) [a,b,c] [] pos) (Kx D):=by
 intro d s F H R I h;refine Call_ (dE I Z K boot_range (NY (al (N pos d s F H _ I h) λus l ⟨vs,G,U,V,W⟩=> ?_) P z));obtain⟨i,j,k,e,J,w,B,q⟩:=W;subst e;cases V with
 |cons r n =>
  cases n with
  |cons M n =>
   cases n with
   |cons y n =>
    cases n;obtain⟨t,rfl⟩:=r;obtain⟨t',rfl⟩:=M;obtain⟨f,rfl⟩:=y;refine call_range_3 J ?_ (.inl (PyProof.noPylong_small w));refine wpAny_pyIter_range (IsRange.new ..) B ?_;have x:Inv X d F G {l with heap:=l.heap.push {cls:=.type "range",data:=.fields #[.int i t,.int j t',.int k f]}}:=U.kept (t' :=l.toks) λb o e=>MW _ e
    refine⟨_,[_],_,_,G,rfl,x.kept (t' :=l.toks) λb o e=>MW _ e,gH (λA Y=>Walks.range Y _ i k (Builtin.Range.rangeSize i j k).toNat) (λm h C=>⟨_,_,_,C,rfl,rfl,by decide⟩) (λm H g=>g) (λm H g=>g) (λm H v O=> ?_) (λA m s Q E C h=>wpAny_pyIter_rangeiter C h),?_,λb T=> ?_,q⟩
    ·obtain⟨u,rfl⟩:=O
     exact⟨.int (i+m*k),⟨_,rfl⟩,rfl,rfl⟩
    ·have S:i+((0:Nat):Int)*k=i:=by simp
     have L:(((Builtin.Range.rangeSize i j k).toNat:Nat):Int)-((0:Nat):Int)=Builtin.Range.rangeSize i j k:=by
      have:=o7 i j k;omega
     show IsRangeIter _ _ (i+((0:Nat):Int)*k) ((((Builtin.Range.rangeSize i j k).toNat:Nat):Int)-((0:Nat):Int)) k;rw[S,L];exact Mr _ rfl
    ·have e:b=(l.heap.push {cls:=.type "range",data:=.fields #[.int i t,.int j t',.int k f]}).objs.size:=by simpa using T
     subst e;exact x.fpOk (Md _) (x.hok.fresh (Md _))
theorem Inv.drew{d:List (Addr×Obj)}{t:St}{H:Hp}{s:Shared}{h' :Heap}{j:List Addr}{p:Addr}{o:HO}{t' :Nat}(I:Inv X d t H s)(h:∀b∈j,jm X d H b)(k:∀b a,b∉j->s.heap.get? b=some a->h'.get? b=some a)
  (x:s.heap.objs.size<=p) (l:ao X.prog X.w (upd H p o) h' p o):Inv X d t (upd H p o) {s with heap:=h',toks:=t'}:=by
 have i:∀b u,H b=some u->b≠p:=λb u e=>Mz (NM (I.hok.lt e) x);have y:∀b u,H b=some u->b∉j:=λb u e f=>by rw[(h b f).1]at e;cases e
 refine I.step (g' :=s.gens) (d' :=s.drawn) (ch:=j) (λb f=>⟨(h b f).2.2.2.1,(h b f).2.1,(h b f).2.2.2.2.1,(h b f).2.2.2.2.2⟩) (λb a _ _ g e _=>k b a g e) (λb a _ _ g e _=>⟨a.slots,k b a g e⟩)
  (λb a g e n=>by rw[aB (Mz (NM (Mu e) x))];exact n) (λb a g e=>⟨a,k b a g e⟩) (λb xs e=>by rw[aB (i b _ e)];exact e) (λb a u e=>by rw[aB (i b _ e)];exact e)
  (λb B e=>⟨#[],by rw[aB (i b _ e),e];simp⟩) (λm z=> ?_) (λb u e=> ?_) I.bare
 ·obtain⟨a,es,ep,A,r⟩:=z
  exact⟨a,es,ep,k _ _ (λf=>(h _ f).2.1 rfl) A,r⟩
 ·by_cases f:b=p
  ·subst f
   rw[aC]at e;cases e;exact l
  ·rw[aB f]at e
   refine(I.hok b u e).stay (λc v g q=>k c v ?_ q) (λc q=>by rw[aB (i c _ q)];exact q) (λc xs q=>by rw[aB (i c _ q)];exact q)
   rcases g with rfl|g
   ·exact y _ _ e
   ·exact y _ _ g
theorem Inv.drew0{d:List (Addr×Obj)}{j:St}{H:Hp}{s:Shared}{h' :Heap}{i:List Addr}{t' :Nat}(I:Inv X d j H s)(h:∀b∈i,jm X d H b)(k:∀b a,b∉i->s.heap.get? b=some a->h'.get? b=some a) :
  Inv X d j H {s with heap:=h',toks:=t'}:=by
 have l:∀b u,H b=some u->b∉i:=λb u e g=>by rw[(h b g).1]at e;cases e
 refine I.step (g' :=s.gens) (d' :=s.drawn) (ch:=i) (λb g=>⟨(h b g).2.2.2.1,(h b g).2.1,(h b g).2.2.2.2.1,(h b g).2.2.2.2.2⟩) (λb a _ _ f e _=>k b a f e) (λb a _ _ f e _=>⟨a.slots,k b a f e⟩)
  (λb a f e n=>n) (λb a f e=>⟨a,k b a f e⟩) (λb xs e=>e) (λb a u e=>e) (λb t e=>⟨#[],by rw[e];simp⟩) (λm o=> ?_) (λb u e=> ?_) I.bare
 ·obtain⟨a,es,ep,p,r⟩:=o
  exact⟨a,es,ep,k _ _ (λg=>(h _ g).2.1 rfl) p,r⟩
 ·refine(I.hok b u e).stay (λc v f q=>k c v ?_ q) (λc q=>q) (λc xs q=>q)
  rcases f with rfl|f
  ·exact l _ _ e
  ·exact l _ _ f
noncomputable def Itz(K:W.Frag)(a b:Addr):It :=
  ⟨λi H=>∃xs c x y,bR K H a xs/\bR K H b c/\xs[i]? =some x/\c[i]? =some y,λi H v d =>∃p,H p=none/\v=.ref p/\∀xs c x y,bR K H a xs->bR K H b c->xs[i]? =some x->c[i]? =some y->d =upd H p (.tup [x,y]),λi H=>∃xs c,bR K H a xs/\bR K H b c/\(xs.length<=i\/c.length<=i)⟩
def Ll(z d f c e a b:Addr)(i:Nat)(h:Heap):Prop:=IsZip h z d f .none/\IsPair h d (.ref c) (.ref e)/\(∃u v,IsPair h f u v)/\h.IsListIter c a i/\h.IsListIter e b i
theorem zY{P:Program}{w:World}{K:W.Frag}{es:List Expr}{kt:Nat}{M:Pos}{z r B t A a b:Addr}(D:ZipApart z r B t A a b) :
  nJ P w K (.Tuple es kt M) (Itz K a b) [z,r,B,t,A] z (Ll z r B t A a b) where
 mem:=by simp
 obj:=λi h m c f=>by
  obtain⟨p,d,⟨u,v,g⟩,⟨o1,e1,_,d1⟩,⟨o2,e2,_,d2⟩⟩:=m;simp only[Mh,NS,Oh]at f
  rcases f with rfl|rfl|rfl|rfl|rfl
  ·exact⟨_,p,λv z=>by cases z⟩
  ·exact⟨_,d,λv z=>by cases z⟩
  ·exact⟨_,g,λv z=>by cases z⟩
  ·exact⟨_,e1,λv z=>by rw[d1]at z;cases z⟩
  ·exact⟨_,e2,λv z=>by rw[d2]at z;cases z⟩
 keep:=λi h h' m k=>by
  obtain⟨p,d,⟨u,v,g⟩,C,F⟩:=m;exact⟨k z (by simp) _ p,k r (by simp) _ d,⟨u,v,k B (by simp) _ g⟩,C.at λo e=>k t (by simp) o e,F.at λo e=>k A (by simp) o e⟩
 item:=by
  intro X V hw U f i n s σ H E I S m Y;subst V hw U;obtain⟨xs,ys,x,y,Q,O,ex,ey⟩:=Y;obtain⟨a7,ra,T,_⟩:=I.list Q;obtain⟨its',Z,pb,_⟩:=I.list O;obtain⟨u,eu,ru⟩:=ra.get ex;obtain⟨v,ev,rv⟩:=Z.get ey;obtain⟨p,d,⟨u0,v0,g⟩,C,F⟩:=m;refine wpAny_pyNext_zip_item D p d g C F T.isList pb.isList (x:=u) (y:=v) (by simpa using eu) (by simpa using ev) λh' a1 a2 a3 a4 a5 a6 R=> ?_;refine⟨_,rfl,wpAny_letOwnedTupleGo_zip a1 λl a0 j => ?_⟩;have J:z<s.heap.objs.size:=Mu p;have kk:∀c o,c∉[z,r,B,t,A]->s.heap.get? c=some o->l.get? c=some o:=λc o f e=>by
   simp only[Mh,NS,Oh,Po]at f;obtain⟨c1,c2,c3,c4,c5⟩:=f;exact(j.2 c c1).trans (R c o c1 c3 c4 c5 e)
  have tI:l.get? r=some _:=(j.2 r D.TIz).trans (R r _ D.TIz D.TITO D.TIi1 D.TIi2 d);have a':l.get? s.heap.objs.size=some {cls:=.type "tuple",data:=.seq #[u,v]}:=(j.2 _ (N1 J)).trans a5;have I1:Inv X n σ (upd H s.heap.objs.size (.tup [x,y])) {s with heap:=l}:=I.drew (t' :=s.toks) S kk (Md _) ⟨by show 2<=sizeLine;decide,[u,v],.cons ru (.cons rv .nil),⟨_,a',rfl,_,rfl,rfl⟩⟩;refine⟨.ref s.heap.objs.size,upd H s.heap.objs.size (.tup [x,y]),I1,rfl,⟨s.heap.objs.size,I.hok.fresh (Md _),rfl,λb3 b2 x' y' a9 a8 G N => ?_⟩,⟨a0,tI,⟨_,_,(j.2 B D.TOz).trans a2⟩,a3.at λo e=>(j.2 t D.i1z).trans e,a4.at λo e=>(j.2 A D.i2z).trans e⟩,λc f=> ?_⟩
  ·have q1:=I.list_inj Q a9
   have q2:=I.list_inj O a8;subst q1 q2;rw[ex]at G;rw[ey]at N;cases G;cases N;rfl
  ·rw[aB ?_]
   ·exact(S c f).1
   ·intro e
    have lt:c<s.heap.objs.size:=by
     simp only[Mh,NS,Oh]at f;obtain⟨o1,e1,_⟩:=id C;obtain⟨o2,e2,_⟩:=id F
     rcases f with rfl|rfl|rfl|rfl|rfl
     ·exact J
     ·exact Mu d
     ·exact Mu g
     ·exact Mu e1
     ·exact Mu e2
    exact absurd e (Mz lt)
 done:=by
  intro X V hw U f i n s σ H E I S m Y;subst V hw U;obtain⟨xs,ys,Q,O,L⟩:=Y;obtain⟨a7,ra,T,_⟩:=I.list Q;obtain⟨its',Z,pb,_⟩:=I.list O;obtain⟨p,d,⟨u0,v0,g⟩,C,F⟩:=m;have l1:=ra.length;have l2:=Z.length;refine wpAny_pyNext_zip_end (I.ok.hd f) D p d g C F T.isList pb.isList ?_ λh' R=>⟨rfl,I.drew0 (t' :=s.toks) S λc o f e=> ?_⟩
  ·rcases L with q|q
   ·exact .inl (by simp;omega)
   ·exact .inr (by simp;omega)
  ·simp only[Mh,NS,Oh,Po]at f
   exact R c o f.1 f.2.2.1 f.2.2.2.1 f.2.2.2.2 e
 self:=λ_ _ _ _ _ m h=>wpAny_pyIter_zip m.1 h
def iZip(K:W.Frag)(e:TA):TI:=λd H R=>e d H λvs c=>∃a b xs f,vs=[.ref a,.ref b]/\bR K c a xs/\bR K c b f/\R (Itz K a b) c
theorem Gd(W:Gl X "zip")(E:X.mg "zip"=none)(J:PA X [a,b] y)(O:starEach [a,b] X.env=(false,eval a X.env)::starEach [b] X.env:=by rfl)
  (m:(backTo pos (starEach [b] X.env)).any (·.1)=false:=by rfl):PI X (.Tuple es Q i) (.Call (.Name "zip" p) [a,b] [] pos) (iZip X.K y):=by
 intro f s z H R I h;refine Call_ (dE I W E boot_zip (NY (al (J pos f s z H _ I h) λus d ⟨vs,B,k,T,V⟩=> ?_) O m));obtain⟨M,P,xs,ys,e,S,F,q⟩:=V;subst e;obtain⟨u,v,rfl,U,L⟩:=vals2 T;cases U;cases L;obtain⟨N,Z,x,_⟩:=k.list S;obtain⟨its',Y,C,_⟩:=k.list F;have r:M<d.heap.objs.size:=by obtain⟨o,e,_⟩:=x.isList;exact Mu e
 have t:P<d.heap.objs.size:=by obtain⟨o,e,_⟩:=C.isList;exact Mu e
 refine call_zip_2 x.isList C.isList λh' A n l j g hsz D=> ?_;refine wpAny_pyIter_zip A ?_;have G:Inv X f z B {d with heap:=h'}:=k.kept (t' :=d.toks) D;refine⟨d.heap.objs.size+4,[d.heap.objs.size+4,d.heap.objs.size+2,d.heap.objs.size+3,d.heap.objs.size,d.heap.objs.size+1],_,_,B,rfl,G,zY (zipApart_new r t),⟨A,n,⟨_,_,l⟩,j,g⟩,λc w=> ?_,q⟩;have le:d.heap.objs.size<=c:=by
  simp only[Mh,NS,Oh]at w
  rcases w with rfl|rfl|rfl|rfl|rfl<;>omega
 exact k.fpOk le (k.hok.fresh le)
theorem Am:dk X (binaryOp .FloorDiv) (rI (λ_ j=>0<j/\j.natAbs.log2<9000) λi j=>.int (i/j)):=Ko λi j _ _ _ _ _ a q=>by
 have b:(0:Int)<j:=a.1;exact floordiv_int (by omega) (by rw[Int.fdiv_eq_ediv_of_nonneg i (by omega)];exact q) (.inl (PyProof.noPylong_of_log2 a.2))
end
theorem aE.tup{K:W.Frag}{H b :Hp}{a:Addr}{xs:List V}(e:aE H b)(h:bg K H a xs):bg K b a xs:=by
 rcases h with(h|⟨o,h⟩)|h
 ·exact .inl (.inl (e _ _ h))
 ·exact .inl (.inr ⟨o,e _ _ h⟩)
 ·exact .inr h
theorem aJ(h:H p=none)(o:HO):aE H (upd H p o):=λb u q=>by rw[aB (aF q h)];exact q
set_option tactic.hygienic true in
theorem aE.upd{H H' :Hp}{D:Addr}{o:HO}(e:aE H H')(h:H D=none):aE H (upd H' D o):=λb u q=>by rw[aB (aF q h)];exact e b u q
noncomputable def cw(z:Str):List V:=z.cps.toList.map λc=>V.str ⟨#[c]⟩
theorem kr(z:Str):(cw z).length=z.length:=by unfold cw;rw[MR,M5];rfl
noncomputable def FR(n:Nat):List V:=(List.range n).map λi=>V.int (i:Nat)
section
variable{X:Cx}{N' :List Str}{scope:Scope}{elt:Expr}{σ:St}{H1:Hp}{J:It}{xs:List V}
theorem tN(h:r.length+1=N'.length) :
  ((bU (none::r) a).set 0 (some x)).length=N'.length/\∀(j:Nat)(v:V),(bU (none::r) a)[j]? =some (some v)->((bU (none::r) a).set 0 (some x))[j]? =some (some v):=by
 refine⟨by rw[N7];simp[bU,h],λj v e=> ?_⟩;cases j with
 |zero=>simp[bU]at e|succ j=>simpa [bU]using e
end
structure Fc(K:W.Frag)(mg:Str->Option Value)(x:Str)(st:Stmt)(ps:List Str)(f:Addr)(fd:FuncData):Prop where
 fn:JX K x x st f fd
 nm:mg x=some (.ref f)
 bd:Binds K fd ps []
theorem Ke(d:Gl X x)(a:X.mg x=none)(e:bootBuiltins x=some (.type n))(c:x≠"__name__":=by decide)(b:(x==("__debug__":Str))=false:=by decide):PE X (.Name x pos) (tC (.ty n)) := DT (v:=.ty n) d a e rfl c b
section
variable{K:W.Frag}
theorem fN(n:String):W.kitOne K (.type n) (.type n)=some true:=by unfold W.kitOne;rw[MX (by simp)]
end
noncomputable def Kt:V->Nat
 | .str z=>z.length|_=>0
def v8(K:W.Frag):Sp:=λvs H Q _=>∃(a:Addr)(b:List Int),vs=[.ref a]/\bR K H a (b.map V.int)/\b.length<=63/\∀c,Q (.bl true) c
section
variable{κ:Type}[DecidableEq κ]
noncomputable def d6(a:List (κ×V))(k:κ):Option V:=(a.find? λb=>decide (b.1=k)).map (·.2)
noncomputable def cz(a:List (κ×V))(k:κ)(v:V):List (κ×V) :=
 if(a.any λb=>decide (b.1=k))=true then a.map (λb=>if b.1=k then(b.1,v)else b)else a++[(k,v)]
theorem kT{p:κ×V}(e:p.1=k):d6 (p::r) k=some p.2:=by simp[d6,Nh,e]
theorem kU{p:κ×V}(e:¬p.1=k):d6 (p::r) k=d6 r k:=by simp[d6,Nh,e]
theorem qb(k:κ):∀a:List (κ×V),(a.any λb=>decide (b.1=k))=(d6 a k).isSome
 |[]=>rfl|p::r=>by
  rw[PF]
  by_cases e:p.1=k;simp only[kT e,Mj e,Bool.true_or,Option.isSome_some];rw[kU e,Mq e,Bool.false_or];exact qb k r
theorem fL(a:List (κ×V))(k:κ)(v:V):(cz a k v).length<=a.length+1:=by
 unfold cz
 split;rw[MR];omega;rw[Ml,Ma,ON];omega
theorem jk.isSome_eq(r:jk o u):o.isSome=u.isSome:=by
 cases o with
 |none=>cases u with
  |none=>rfl|some _=>exact(show False from r).elim
 |some _=>cases u with
  |none=>exact(show False from r).elim|some _=>rfl
theorem jk.getD(r:jk o u)(a:RelV d d'):RelV (o.getD d) (u.getD d'):=by
 cases o with
 |none=>cases u with
  |none=>exact a|some _=>exact(show False from r).elim
 |some _=>cases u with
  |none=>exact(show False from r).elim|some _=>exact r
theorem KV.val(r:KV a vs)(k:κ):jk (d6 a k) (valueAt vs k):=by
 unfold KV at r
 induction r with
 |nil=>exact True.intro| @cons p q j d h t i =>
  obtain⟨f,g⟩:=h
  by_cases e:p.1=k
  ·have c :q.1=k:=f.symm.trans e
   have b:valueAt (q::d) k=some q.2:=by simp[valueAt,Nh,c]
   rw[kT e,b];exact g
  ·have c :¬q.1=k:=λz=>e (f.trans z)
   have b:valueAt (q::d) k=valueAt d k:=by simp[valueAt,Nh,c]
   rw[kU e,b];exact i
theorem KV.any(r:KV a vs)(k:κ):(a.any λb=>decide (b.1=k))=vs.any λb=>decide (b.1=k):=by
 unfold KV at r
 induction r with
 |nil=>rfl|cons h t c=>rw[PF,PF,c,h.1]
theorem KV.repl(r:KV b vs)(k:κ)(d:RelV y u) :
  KV (b.map λa=>if a.1=k then(a.1,y)else a) (vs.map λa=>if a.1=k then(a.1,u)else a):=by
 unfold KV at r ⊢
 induction r with
 |nil=>exact .nil| @cons p q j i h t f =>
  rw[Mg,Mg];refine .cons ?_ f;obtain⟨c,g⟩:=h
  by_cases e:p.1=k;rw[MX e,MX (c.symm.trans e)];exact⟨c,d⟩;rw[MV e,MV (λz=>e (c.trans z))];exact⟨c,g⟩
theorem KV.put(r:KV a vs)(k:κ)(b:RelV y u):KV (cz a k y) (stored vs k u):=by
 unfold cz stored;rw[r.any k]
 by_cases e:(vs.any λc=>decide (c.1=k))=true
 ·rw[MX e,MX e];exact r.repl k b
 ·rw[MV e,MV e];exact Paired.snoc r ⟨rfl,b⟩
theorem KV.length{a:List (κ×V)}(r:KV a vs):a.length=vs.length:=Pt r
end
theorem nw(r:RelV (kV k) u):(aY P w).is k u=true:=by
 cases k with
 |inl i=>obtain⟨t,e⟩:=(show∃t,u=Value.int i t from r);subst e;exact rm P w i t
 |inr x=>obtain⟨t,e⟩:=(show∃t,u=Value.str x t from r);subst e;exact rj P w x t
theorem ny{P:Program}{w:World}:∀{a:List ak}{b:List Value},aU (a.map kV) b->ItemsAre (aY P w) a b
 |[],_,r=>by rw[N2]at r;cases r;exact .nil|k::a,_,r=>by
  rw[Mg]at r;cases r with
  |cons h t=>exact .cons (nw h) (ny t)
noncomputable abbrev KT(H:Hp):List (List ak×V)->List (List ak×Addr×Value)->Prop:=Paired λp q=>p.1=q.1/\H q.2.1=some (.tup (p.1.map kV))/\RelV p.2 q.2.2
theorem KT.val(r:KT H a xs)(k:List ak):jk (d6 a k) ((atKey xs k).map (·.2)):=by
 induction r with
 |nil=>exact True.intro| @cons p q j d h t i =>
  obtain⟨f,_,g⟩:=h
  by_cases e:p.1=k
  ·have c :q.1=k:=f.symm.trans e
   have b:atKey (q::d) k=some q.2:=by simp[atKey,Nh,c]
   rw[kT e,b];exact g
  ·have c :¬q.1=k:=λz=>e (f.trans z)
   have b:atKey (q::d) k=atKey d k:=by simp[atKey,Nh,c]
   rw[kU e,b];exact i
theorem KT.repl(r:KT H a xs)(k:List ak)(g:RelV y u) :
  KT H (a.map λc=>if c.1=k then(c.1,y)else c) (xs.map (putAt k u)):=by
 induction r with
 |nil=>exact .nil| @cons p q l j h t i =>
  rw[Mg,Mg];refine .cons ?_ i;obtain⟨b,d,f⟩:=h;unfold putAt
  by_cases e:p.1=k;rw[MX e,MX (b.symm.trans e)];exact⟨b,d,g⟩;rw[MV e,MV (λz=>e (b.trans z))];exact⟨b,d,f⟩
theorem KT.put(r:KT H a xs)(k:List ak)(d:H b=some (.tup (k.map kV)))(c:RelV y u) :
  KT H (cz a k y) (storedH xs k b u):=by
 have e:(a.any λf=>decide (f.1=k))=(atKey xs k).isSome:=by
  rw[qb,(r.val k).isSome_eq,Option.isSome_map]
 unfold cz storedH;rw[e]
 by_cases q:(atKey xs k).isSome=true;rw[MX q,MX q];exact r.repl k c;rw[MV q,MV q];exact Paired.snoc r ⟨rfl,d,c⟩
theorem KT.keeps(r:KT H a xs)(e:∀b c,H b=some (.tup c)->d b=some (.tup c)):KT d a xs := Paired.mapP r λ_ _ z=>⟨z.1,e _ _ z.2.1,z.2.2⟩
section
variable{P:Program}{w:World}{H:Hp}{h:Heap}{a:Addr}
theorem FL(ok:fY P w H h)(e:Rd H a u):ao P w H h a u:=e.ok ok
theorem jy(ok:fY P w H h)(e:Rd H a (.dK b)):b.length<=sizeLine/\(a==sysModules)=false/\∃vs,KV b vs/\h.DictOf (aY P w) a vs := show ao P w H h a (.dK b)from FL ok e
theorem Bw(ok:fY P w H h)(e:H a=some (.dK b)):b.length<=sizeLine/\(a==sysModules)=false/\∃vs,KV b vs/\h.DictOf (aY P w) a vs:=jy ok (.inl e)
theorem jP(ok:fY P w H h)(e:H a=some (.tup (c.map kV))):(tupleKind (aY P w)).is h c a:=by obtain⟨_,b,r,o,f,g,n,d,_⟩:=(show ao P w H h a (.tup (c.map kV))from ok a _ e);exact⟨o,b.toArray,n,f,g,d,by simpa using ny r⟩
theorem oE(ok:fY P w H h)(e:Rd H a (.dT b)):b.length<=sizeLine/\(a==sysModules)=false /\ ∃xs,KT H b xs/\h.DictOfH (tupleKind (aY P w)) a xs:=by
 obtain⟨z,y,xs,r,o,es,ep,k,s,g,n,i⟩:=(show ao P w H h a (.dT b)from FL ok e);refine⟨z,y,xs,r,o,es,ep,k,s,g,n,λx c=> ?_,i⟩;have d:∀{l:List (List ak×V)}{m:List (List ak×Addr×Value)},KT H l m->∀x∈m,(tupleKind (aY P w)).is h x.1 x.2.1:=by
  intro l m q
  induction q with
  |nil=>intro x c;exact nomatch c| @cons p q v u f t j =>
   intro x c
   rcases Mh.mp c with e|c
   ·subst e
    exact jP ok (by rw[<- f.1];exact f.2.1)
   ·exact j x c
 exact d r x c
theorem FX(ok:fY P w H h)(e:H a=some (.dT b)):b.length<=sizeLine/\(a==sysModules)=false /\ ∃xs,KT H b xs/\h.DictOfH (tupleKind (aY P w)) a xs:=oE ok (.inl e)
end
def eh(H:Hp)(a:Addr)(y:V)(r:Option V):Prop :=
 (∃c k,Rd H a (.dK c)/\y=kV k/\r=d6 c k)\/∃c k b,Rd H a (.dT c)/\y=.ref b/\H b=some (.tup (k.map kV))/\r=d6 c k
def tW(H:Hp)(a:Addr)(y v:V)(d :Hp):Prop :=
 (∃c k,H a=some (.dK c)/\y=kV k/\c.length<sizeLine/\d =upd H a (.dK (cz c k v))) \/ ∃c k b,H a=some (.dT c)/\y=.ref b/\H b=some (.tup (k.map kV))/\c.length<sizeLine/\d =upd H a (.dT (cz c k v))
theorem eh.k{H:Hp}{a:Addr}{b:List (ak×V)}{k:ak}(e:H a=some (.dK b)):eh H a (kV k) (d6 b k):=.inl ⟨b,k,.inl e,rfl,rfl⟩
theorem eh.t{k:List ak}(e:H a=some (.dT c))(d:H b=some (.tup (k.map kV))):eh H a (.ref b) (d6 c k):=.inr ⟨c,k,b,.inl e,rfl,d,rfl⟩
theorem tW.k{H:Hp}{a:Addr}{b:List (ak×V)}{k:ak}{v:V}(e:H a=some (.dK b))(c:b.length<sizeLine):tW H a (kV k) v (upd H a (.dK (cz b k v))):=.inl ⟨b,k,e,rfl,c,rfl⟩
theorem tW.t{c:List (List ak×V)}{k:List ak}(e:H a=some (.dT c))(f:H b=some (.tup (k.map kV)))(d:c.length<sizeLine) :
  tW H a (.ref b) v (upd H a (.dT (cz c k v))):=.inr ⟨c,k,b,e,rfl,f,d,rfl⟩
section
variable{X:Cx}{pins:List (Addr×Obj)}{σ:St}{H:Hp}{s:Shared}{a:Addr}{y v:V}{u r:Value}{o:Option V}{A:Around}{E:Value->Shared->Prop}
theorem Inv.big(I:Inv X pins σ H s):sysModules<s.heap.objs.size:=by have h:mainGlobals<s.heap.objs.size:=(I.mod.glob.keeps I.bk).lt;exact Os (by decide) h
theorem yk(x:A.units+1<cLine)(I:Inv X pins σ H s)(g:eh H a y (some v))(t:RelV y u)(h:∀f s',Inv X pins σ H s' ->RelV v f ->Q f s') :
  wpAny (model X.prog X.w) A (getItem (.ref a) u) Q E s:=by
 rcases g with⟨j,k,e,n,l⟩|⟨j,k,b,e,n,D,l⟩
 ·subst n
  obtain⟨z,B,vs,d,i⟩:=jy I.hok e;obtain⟨f,m,c⟩:=jk.some_of (v:=v) (o:=valueAt vs k) (by rw[l];exact d.val k);exact wpAny_getItem_of (nw t) i.mapOf m (h f _ (I.tok _) c)
 ·subst n
  cases(show u=Value.ref b from t);obtain⟨z,B,xs,d,i⟩:=oE I.hok e;obtain⟨f,m,c⟩:=jk.some_of (v:=v) (o:=(atKey xs k).map (·.2)) (by rw[l];exact d.val k);obtain⟨p,C,q⟩:=Option.map_eq_some_iff.mp m;refine wpAny_getItem_heap (QC x) (jP I.hok D) i C ?_;rw[q];exact h f _ (I.tok _) c
theorem EJ(n:A.units+1<cLine)(I:Inv X pins σ H s)(g:eh H a y o)(m:RelV y u)(h:∀s',Inv X pins σ H s' ->Q (.bool (!o.isSome)) s') :
  wpAny (model X.prog X.w) A (compareOp .NotIn u (.ref a)) Q E s:=by
 rcases g with⟨i,k,e,j,l⟩|⟨i,k,b,e,j,p,l⟩
 ·subst j
  obtain⟨z,d,vs,c,f⟩:=jy I.hok e;refine wpAny_notIn_of (nw m) d f.mapOf ?_;rw[<- (c.val k).isSome_eq,<-l];exact h _ (I.tok _)
 ·subst j
  cases(show u=Value.ref b from m);obtain⟨z,d,xs,c,f⟩:=oE I.hok e;refine wpAny_notIn_heap (QC n) (jP I.hok p) d f ?_;have q:=(c.val k).isSome_eq;rw[Option.isSome_map]at q;rw[<- q,<-l];exact h _ (I.tok _)
theorem kR(I:Inv X pins σ H s)(h:ME (H a))(f:Heap.SameBut a s.heap h')(g:∃q,h'.get? a=some q)(d:ao X.prog X.w (upd H a c) h' a c) :
  Inv X pins σ (upd H a c) {s with heap:=h',toks:=t'} :=
 I.write (x:=a) (e:=a) h (.inl rfl) (λb q i z=>(f.2 b i).trans z) g d
theorem vH(z:b.length<=sizeLine)(e:(a==sysModules)=false)(c:KV b vs)(d:h'.DictOf (aY P w) a vs) :
  ao P w f h' a (.dK b):=⟨z,e,vs,c,d⟩
theorem yj{K:Hp}(M:A.units+1<cLine)(I:Inv X pins σ H s)(g:tW H a y v K)(D:RelV y u)(F:RelV v r)(h:∀s',Inv X pins σ K s' ->Q () s') :
  wpAny (model X.prog X.w) A (setItem (.ref a) u r) Q E s:=by
 rcases g with⟨d,k,e,C,l,n⟩|⟨d,k,b,e,C,J,l,n⟩
 ·subst C n
  obtain⟨z,m,vs,f,p⟩:=Bw I.hok e;have B:vs.length<=sizeLine:=by rw[<- f.length];exact z
  have x:(cz d k v).length<=sizeLine:=by have:=fL d k v;omega
  refine wpAny_setItem_pairs (hsz:=B) (nw D) p λh' i t=>h _ ?_;have N:∃q,h'.get? a=some q:=let⟨q,_,_,j,_⟩:=i;⟨q,j⟩
  exact kR I (by rw[e];exact True.intro) t N (vH x m (f.put k F) i)
 ·subst C n
  cases(show u=Value.ref b from D);obtain⟨z,m,xs,f,p⟩:=FX I.hok e;have B:xs.length<=sizeLine:=by rw[<- Pt f];exact z
  have x:(cz d k v).length<=sizeLine:=by have:=fL d k v;omega
  refine wpAny_setItem_heap (hsz:=B) (QC M) (jP I.hok J) p λh' i t=>h _ ?_;obtain⟨q,es,ep,j,R,L,P,_,O⟩:=i;refine kR I (by rw[e];exact True.intro) t ⟨q,j⟩ ⟨x,m,_,(f.put k J F).keeps λc S G=> ?_,q,es,ep,j,R,L,P,O⟩;rw[aB (A0 G e (λz=>nomatch z))];exact G
end
section
variable{X:Cx}{pins:List (Addr×Obj)}{σ:St}{H:Hp}{s:Shared}{a:Addr}{kvs:List (ak×V)}{k:ak}{u:Value}{A:Around}{E:Value->Shared->Prop}
theorem LC(I:Inv X pins σ H s)(e:Rd H a (.dK kvs))(h:∀t s',Inv X pins σ H s' ->Q (.int kvs.length t) s'):wpAny (model X.prog X.w) A (call (.builtin "len") [.ref a]) Q E s:=by obtain⟨z,d,vs,b,c⟩:=jy I.hok e;refine call_len_dict d c (by rw[<- b.length];rw[Np]at z;omega) ?_;rw[<- b.length];exact h _ _ (I.tok _)
end
def Lw(i:Expr):Prop:=∀a b,subscripted i false a b=operate [a,b] (getItem a b)
theorem Cz
  (n:typeLookup (.type T) "__getitem__"=pure (some (.builtin m))) (p:Lw a)
  (h:wpAny (model prog w) A (eval b env) (λo e=>wpAny (model prog w) A (eval a env) (λi c=>c.TypeIs o T/\wpAny (model prog w) A (getItem o i) Q E c) E e) E s) :
  wpAny (model prog w) A (eval (.Subscript b a pos) env) Q E s:=by
 refine Subscript_ (OC h (λo e j=>OC j (λi c d=> ?_) λ_ _ x=>x) λ_ _ x=>x);obtain⟨l,d⟩:=d;unfold subscriptTail;refine MQ ?_;rw[getitemInPython_of_ne l.not_modules];refine MQ (Oy l n ?_);have g:wpAny (model prog w) A (subscripted a false o i) (λr f=>wpAny (model prog w) A (letTemporaryGo b o r >>= λ_=>pure r) Q E f) E c:=by
  rw[p o i];exact wpAny_operating (OC d (λr f k=>MQ (wpAny_letTemporaryGo (MU k))) λ_ _ x=>x)
 first
  |exact MU (MQ g)
  |exact MQ (MU (MQ g))
  |exact MQ g
theorem sv(I:Inv X c h H s)(g:eh H a y o):s.TypeIs (.ref a) "dict":=by
 rcases g with⟨f,k,e,_,_⟩|⟨f,k,b,e,_,_,_⟩
 ·obtain⟨_,_,vs,_,d⟩:=jy I.hok e
  exact d.typeIs
 ·obtain⟨_,_,xs,_,d⟩:=oE I.hok e
  exact d.typeIs
def Jz(d e:TE):TE:=λb H Q=>d b H λx f=>e b f λy c=>∃a v,x=.ref a/\eh c a y (some v)/\Q v c
def Cw(e d:TE):TE:=λb H Q=>e b H λy f=>d b f λx c=>∃a o,x=.ref a/\eh c a y o/\Q (.bl (!o.isSome)) c
def KR(g d f:TE):TS:=λD b H=>f b H λv h=>g b h λx i=>d b i λy e=>∃a c,x=.ref a/\tW e a y v c/\D.nx b c
section
variable{X:Cx}{o i e value:Expr}{pos pos' tpos:Pos}{td ty tv:TE}
theorem pB(k:X.A.units+1<cLine)(B:PE X o td)(E:PE X i ty)(t:Lw i):PE X (.Subscript o i pos) (Jz td ty):=by intro b s j H Q I h;refine Cz PySem.F.slot_dict_getitem.lookup t (al (B b s j H _ I h) λu p ⟨x,z,C,w,D⟩=>al (E b p j z _ C D) λL G d=> ?_);obtain⟨y,n,f,m,a,v,q,g,r⟩:=d;subst q;obtain rfl:u=Value.ref a:=w;exact⟨sv f g,yk k f g m λK J l c =>⟨v,n,l,c,r⟩⟩
theorem nZ(f:X.A.units+1<cLine)(C:PE X i ty)(w:PE X o td):PC X .NotIn i o (Cw ty td):=by intro b s d H Q I h;refine al (C b s d H _ I h) λF p ⟨y,v,z,j,B⟩=>al (w b p d v _ z B) λu D c=> ?_;obtain⟨x,m,l,t,a,n,q,g,r⟩:=c;subst q;obtain rfl:u=Value.ref a:=t;exact EJ f l g j λE k=>⟨.bl (!n.isSome),m,k,rfl,r⟩
theorem kN(d:X.A.units+1<cLine)(J:PE X o td)(M:PE X i ty)(w:PE X value tv)(B:swapsWith value (some (.Subscript o i pos')) pos.line X.env=pure false) :
  PS X (.Assign [.Subscript o i pos'] value pos) (KR td ty tv):=by
 intro b s c H D I h;refine wpAny_Assign_Subscript (al (w b s c H _ I h) λr q ⟨v,G,K,p,L⟩=>al (J b q c G _ K L) λu f ⟨x,m,l,E,z⟩=>al (M b f c m _ l z) λO N ⟨y,Q,j,k,a,F,t,g,n⟩=> ?_) B;subst t;obtain rfl:u=Value.ref a:=E;exact yj d j g k p λP C=>⟨c,F,C,n⟩
end
theorem su(h:Heap)(a:sysModules<h.objs.size):ao P w H (h.push {cls:=.type "dict",data:=.dict #[]}) h.objs.size (.dK []) := ⟨NH _,OP.mpr (Nv (Mz a)),[],.nil,Heap.DictOf.new h⟩
theorem Bv(h:Heap)(a:sysModules<h.objs.size):ao P w H (h.push {cls:=.type "dict",data:=.dict #[]}) h.objs.size (.dT []) := ⟨NH _,OP.mpr (Nv (Mz a)),[],.nil,_,#[],0,Mr _ rfl,⟨rfl,rfl,rfl⟩,rfl,rfl,List.nodup_nil⟩
def F3:TE:=λ_ H Q=>∀p,H p=none->Q (.ref p) (upd H p (.dK []))
section
variable{X:Cx}{pos:Pos}
theorem hU:PE X (.Dict [] [] pos) F3:=λb s c H Q I h =>
 wpAny_Dict_empty ⟨.ref s.heap.objs.size,_,I.laid (a:=s.heap.objs.size) (o:=.dK []) (t' :=s.toks) (λ_ _ q=>MW _ q) (Md _) (su s.heap I.big),rfl,h _ (I.hok.fresh (Md _))⟩
end
noncomputable def uE:List (TE×TE)->St->Hp->(List (V×V)->Hp->Prop)->Prop
 |[],_,H,Q=>Q [] H|(tk,tv)::r,σ,H,Q=>tk σ H λx b=>tv σ b λy c=>uE r σ c λd a=>Q ((x,y)::d) a
noncomputable abbrev VV:List (V×V)->List (Value×Value)->Prop:=Paired λp q=>RelV p.1 q.1/\RelV p.2 q.2
def PPs(X:Cx)(pos:Pos)(c:List (Option Expr))(a:List Expr)(e:List (TE×TE)):Prop :=
 ∀(b:List (Addr×Obj))(s:Shared)(d:St)(H:Hp)(Q:List (V×V)->Hp->Prop),Inv X b d H s->uE e d H Q -> wpAny (model X.prog X.w) X.A (evalPairs (pairTrees c a X.env pos)) (λvs s' =>∃g f,Inv X b d f s' /\VV g vs/\Q g f) X.xe s
theorem DK:PPs X pos [] [] []:=λa s b H Q I h=>pairTrees_nil_walk ⟨[],H,I,.nil,h⟩
theorem AW(i:PE X k e)(r:PE X v f)(E:PPs X pos g vs b) :
  PPs X pos (some k::g) (v::vs) ((e,f)::b):=λa s c H Q I h =>
 pairTrees_cons_walk (al (i a s c H _ I h) λu q ⟨x,B,C,z,D⟩=>al (r a q c B _ C D) λJ j ⟨y,o,n,l,w⟩ =>
  al (E a j c o _ n w) λF G ⟨t,A,m,d,p⟩=>⟨(x,y)::t,A,m,.cons ⟨z,l⟩ d,p⟩)
noncomputable def gR(b a:List (ak×V)):List (ak×V):=a.foldl (λacc c=>cz acc c.1 c.2) b
theorem KV.merge:∀{a:List (ak×V)}{rs:List (ak×Value)}{b:List (ak×V)}{vs:List (ak×Value)},KV a rs->KV b vs->KV (gR b a) (merged vs rs):=by
 intro a rs b vs r;unfold KV at r
 induction r generalizing b vs with
 |nil=>intro q;exact q| @cons p q f g h t d =>
  intro c;have e:KV (cz b p.1 p.2) (stored vs q.1 q.2):=by
   have:=c.put p.1 h.2;rw[<- h.1];exact this
  exact d e
theorem fw:∀(b a:List (ak×V)),(gR a b).length<=a.length+b.length
 |[],a=>by show a.length<=a.length+0;omega|p::r,a=>by
  have d:=fw r (cz a p.1 p.2);have c:=fL a p.1 p.2;show(gR (cz a p.1 p.2) r).length<=_;rw[Ma];omega
theorem mQ{P:Program}{w:World}:∀{d:List (ak×V)}{f:List (Value×Value)},VV (d.map λe=>(kV e.1,e.2)) f->∃rs,Carries (aY P w) f rs/\KV d rs
 |[],_,r=>by rw[N2]at r;cases r;exact⟨[],True.intro,.nil⟩|p::d,_,r=>by
  rw[Mg]at r;cases r with
  | @cons a b as i h t =>
   obtain⟨rs,c,q⟩:=mQ (P:=P) (w:=w) t;obtain⟨b1,g⟩:=b;exact⟨(p.1,g)::rs,⟨nw h.1,rfl,c⟩,.cons ⟨rfl,h.2⟩ q⟩
def Jy(b:List (TE×TE)):TE:=λe H Q=>∀p,H p=none->uE b e (upd H p (.dK [])) λf d=>d p=some (.dK [])/\∃a:List (ak×V),f=a.map (λc=>(kV c.1,c.2))/\a.length<=15/\Q (.ref p) (upd d p (.dK (gR [] a)))
theorem DR(h:PPs X pos b d g)(i:b.all (·.isSome)=true)(x:b.length=d.length)(h0:b≠[])
  (l:b.length<=15):PE X (.Dict b d pos) (Jy g):=by
 intro j s A H Q I q;have t:=I.hok.fresh (Md s.heap.objs.size);have J:=I.laid (a:=s.heap.objs.size) (o:=.dK []) (h' :=s.heap.push {cls:=.type "dict",data:=.dict #[]}) (t' :=s.toks) (λ_ _ q=>MW _ q) (Md _) (su s.heap I.big);refine wpAny_Dict_walk (knd:=aY X.prog X.w) i x h0 l (al (h j _ A _ _ J (q _ t)) λL K n=> ?_);obtain⟨N,M,p,m,e,k,ep,O,B⟩:=n;subst ep;obtain⟨rs,c,C⟩:=mQ (P:=X.prog) (w:=X.w) m;obtain⟨z,r,v,F,D⟩:=Bw p.hok e;cases F;refine⟨rs,c,D,λh' f y=>⟨.ref s.heap.objs.size,_,?_,rfl,B⟩⟩;have E:(gR [] k).length<=sizeLine:=by
  have G:=fw k [];rw[ON]at G;rw[Np];omega
 have u:∃q,h'.get? s.heap.objs.size=some q:=let⟨q,_,_,hq,_⟩:=f;⟨q,hq⟩
 exact kR p (by rw[e];exact True.intro) y u (vH E r (C.merge .nil) f)
structure M1(X:Cx)(o:Expr)(m:Str)(apos:Pos)(e:Expr)(cpos:Pos):Prop where
 base:attributeBase o m X.env (eval o X.env)=eval o X.env
 few:((backTo cpos (starEach [e] X.env)).all (λx=> !x.1)&&(backToKw cpos (keywordEach [] X.env)).all (λx=>x.1.isSome)
  && decide (([e]:List Expr).length+([]:List Keyword).length+(if([]:List Keyword).isEmpty then 0 else 1)<30))=true
 line:(apos.endLine==cpos.line)=true
 trees:backTo cpos (starEach [e] X.env)=[(false,eval e X.env)]
structure M2(X:Cx)(o:Expr)(m:Str)(apos:Pos)(e f:Expr)(cpos:Pos):Prop where
 base:attributeBase o m X.env (eval o X.env)=eval o X.env
 few:((backTo cpos (starEach [e,f] X.env)).all (λx=> !x.1)&&(backToKw cpos (keywordEach [] X.env)).all (λx=>x.1.isSome)
  && decide (([e,f]:List Expr).length+([]:List Keyword).length+(if([]:List Keyword).isEmpty then 0 else 1)<30))=true
 line:(apos.endLine==cpos.line)=true
 trees:backTo cpos (starEach [e,f] X.env)=[(false,eval e X.env),(false,eval f X.env)]
def IsD(H:Hp)(a:Addr):Prop:=(∃b,Rd H a (.dK b))\/∃b,Rd H a (.dT b)
theorem Hb(I:Inv X f l H s)(d:IsD H a) :
  s.TypeIs (.ref a) "dict"/\(∀b,Value.ref a=.ref b->∃c,s.heap.get? b=some c/\c.dict=none)/\(a==sysModules)=false:=by
 rcases d with⟨i,e⟩|⟨i,e⟩
 ·obtain⟨_,h,vs,_,g⟩:=jy I.hok e
  refine⟨g.typeIs,λb q=> ?_,h⟩;cases q;obtain⟨c,_,_,j,k,_⟩:=g;exact⟨c,j,k.2.1⟩
 ·obtain⟨_,h,xs,_,g⟩:=oE I.hok e
  refine⟨g.typeIs,λb q=> ?_,h⟩;cases q;obtain⟨c,_,_,j,k,_⟩:=g;exact⟨c,j,k.2.1⟩
section
variable{X:Cx}{pins:List (Addr×Obj)}{σ:St}{H:Hp}{s:Shared}{a:Addr}{y d:V}{u r:Value}{o:Option V}{A:Around}{E:Value->Shared->Prop}
theorem IM(t:A.units+1<cLine)(I:Inv X pins σ H s)(g:eh H a y o)(n:RelV y u)(q:RelV d r)(h:∀p s',Inv X pins σ H s' ->RelV (o.getD d) p ->Q p s') :
  wpAny (model X.prog X.w) A (call (.builtin "dict.get") [.ref a,u,r]) Q E s:=by
 rcases g with⟨j,k,e,m,l⟩|⟨j,k,b,e,m,v,l⟩
 ·subst m
  obtain⟨z,i,vs,c,f⟩:=jy I.hok e;refine call_meetsIn PySem.F.slot_dict_get f.typeIs PySem.F.entry_dict_get (PySem.F.args_dict_get_3 _ _ _) (meets_dict_get_default (aY X.prog X.w) a (nw n) i r) ⟨_,f.mapOf,h _ _ (I.tok _) ?_⟩;rw[l];exact(c.val k).getD q
 ·subst m
  cases(show u=Value.ref b from n);obtain⟨z,i,xs,c,f⟩:=oE I.hok e;refine call_meetsIn PySem.F.slot_dict_get f.typeIs PySem.F.entry_dict_get (PySem.F.args_dict_get_3 _ _ _) (meetsH_dict_get_default (tupleKind (aY X.prog X.w)) a b i r) ⟨QC t,k,xs,jP I.hok v,f,h _ _ (I.tok _) ?_⟩;rw[l];exact(c.val k).getD q
end
def F4(f g e:TE):TE:=λb H Q=>f b H λx d=>∃a,x=.ref a/\IsD d a/\g b d λy h=>e b h λz c=>∃o,eh c a y o/\Q (o.getD z) c
section
variable{X:Cx}{o e f:Expr}{apos cpos:Pos}{td ty tx:TE}
theorem rT(l:X.A.units+1<cLine)(N:PE X o td)(w:PE X e ty)(O:PE X f tx)(m:M2 X o "get" apos e f cpos):PE X (.Call (.Attribute o "get" apos) [e,f] [] cpos) (F4 td ty tx):=by
 intro b s i H Q I h;refine wpAny_Call_method m.base m.few m.line PySem.F.plainAttrs_dict PySem.F.slot_dict_get PySem.F.type_dict_get (al (N b s i H _ I h) λu C j=> ?_);obtain⟨x,M,k,J,a,D,d,P⟩:=j;subst D;obtain rfl:u=Value.ref a:=J;obtain⟨K,t2,_⟩:=Hb k d;refine⟨K,t2,?_⟩;rw[m.trees]
 refine Pk rfl (Calls.evalArgs_plain (Calls.spliced_cons (al (w b C i M _ k P) λU n ⟨y,v,t,p,E⟩ =>
  Calls.spliced_cons (al (O b n i v _ t E) λW R ⟨z,L,q,r,S,g,B⟩=>Calls.spliced_nil ?_))))
 exact IM l q g p r λT V G c =>⟨_,L,G,c,B⟩
end
section
variable{X:Cx}{pins:List (Addr×Obj)}{σ:St}{H:Hp}{s:Shared}{a:Addr}{kvs:List (ak×V)}{A:Around}{E:Value->Shared->Prop}
theorem By(I:Inv X pins σ H s)(e:Rd H a (.dK kvs))(h:∀p s',H p=none->Inv X pins σ (upd H p (.dK kvs)) s' ->Q (.ref p) s'):wpAny (model X.prog X.w) A (call (.type "dict") [.ref a]) Q E s:=by obtain⟨z,j,vs,c,i⟩:=jy I.hok e;refine kt_call_dict j i (by rw[<- c.length];exact z) λh' d g=> ?_;refine h _ _ (I.hok.fresh (Md _)) (I.laid (a:=s.heap.objs.size) (o:=.dK kvs) (t' :=s.toks) (λb q f=> ?_) (Md _) (vH z (OP.mpr (Nv (Mz I.big))) c d));exact(g.2 b (Mz (Mu f))).trans (MW _ f)
end
noncomputable def cd(rows:List Str)(i j:Nat):Nat:=((rows.getD i ⟨#[]⟩).cps.toList).getD j 0
noncomputable def fl(c:Nat):Nat:=if c=120 then 46 else 120
def Wd(rows:List Str)(w:Nat):Prop:=∀r∈rows,r.length=w
theorem CB(d:Wd rows w)(b:i<rows.length)(f:j<w):∃z,rows[i]? =some z/\z.cps.toList[j]? =some (cd rows i j)/\z.length=w:=by
 have e:rows[i]? =some rows[i]:=Mf b;have c:=d rows[i] (Oq b);have a :j<rows[i].cps.toList.length:=by
  rw[M5];show j<rows[i].length;omega
 refine⟨rows[i],e,?_,c⟩;unfold cd;rw[Me,Me,e,Option.getD_some,Mf a,Option.getD_some]
open AutoSeq1 (wpAny_loadPart')
open AutoSeq1 (wpAny_loadPart')
section
variable{P:Program}{w:World}{A:Around}{E:Value->Shared->Prop}{s:Shared}
theorem G8(e:s.heap.IsTupleIter it a i)(g:s.heap.IsTuple a b)(h:b[i]? =some v)
  (k:∀h',h'.IsTupleIter it a (i+1)->Heap.SameBut it s.heap h' ->Q v {s with heap:=h'}):wpAny (model P w) A (Builtin.SmallTypes.nextOf (.ref it)) Q E s:=by
 obtain⟨r,d,j,c⟩:=id e;obtain⟨q,f,_,m,l⟩:=g;unfold Builtin.SmallTypes.nextOf;refine MQ (Nf (name:=Str.ofString "__next__") e.typeIs F.slot_tuple_iterator_next (NP F.slot_tuple_iterator_next e.typeIs F.entry_tuple_iterator_next ?_ (F.args_tuple_iterator_next_1 _)));show wpAny _ _ (field (.ref it) 0 >>= λ_=>_) _ _ s;refine MQ (Od d c (x:=.ref a) rfl ?_);show wpAny _ _ (if(Value.ref a==Value.none)=true then _ else _) _ _ s;rw[MV (by exact Mc)];show wpAny _ _ (field (.ref it) 1 >>= λ_=>_) _ _ s;refine MQ (Od d c (x:=.int i 0) rfl ?_);show wpAny _ _ (seqItems? (.ref a) >>= λ_=>_) _ _ s;refine MQ (wpAny_seqItems f l ?_);simp only[Nt,h];refine MQ (OQ d c (by simp) (MU ⟨v,rfl,MU (k _ ?_ (OF ..))⟩));exact⟨_,NQ _ d (OI (Nd c _)),(Pj ..).trans j,by rw[Nd c];simp[rawInt]⟩
theorem uk(g:A.handled=none)(c:s.heap.IsTupleIter it a i)(j:s.heap.IsTuple a b)(l:b[i]? =none)
  (k:∀h' e,Heap.ExtBut it s.heap h' ->(∃o,h'.get? e=some o/\o.cls=.type "StopIteration")->E (.ref e) {s with heap:=h'}):wpAny (model P w) A (Builtin.SmallTypes.nextOf (.ref it)) Q E s:=by
 obtain⟨r,f,t,d⟩:=id c;obtain⟨q,h,_,p,n⟩:=j;unfold Builtin.SmallTypes.nextOf;refine MQ (Nf (name:=Str.ofString "__next__") c.typeIs F.slot_tuple_iterator_next (NP F.slot_tuple_iterator_next c.typeIs F.entry_tuple_iterator_next ?_ (F.args_tuple_iterator_next_1 _)));show wpAny _ _ (field (.ref it) 0 >>= λ_=>_) _ _ s;refine MQ (Od f d (x:=.ref a) rfl ?_);show wpAny _ _ (if(Value.ref a==Value.none)=true then _ else _) _ _ s;rw[MV (by exact Mc)];show wpAny _ _ (field (.ref it) 1 >>= λ_=>_) _ _ s;refine MQ (Od f d (x:=.int i 0) rfl ?_);show wpAny _ _ (seqItems? (.ref a) >>= λ_=>_) _ _ s;refine MQ (wpAny_seqItems h n ?_);simp only[Nt,l];refine MQ (Pq (MQ (OQ f d (by simp) ?_)));show wpAny _ _ (newExc (.type "StopIteration") [] >>= λ_=>_) _ _ _;refine MQ ?_;simp only[newExc,newTuple];refine MQ (NO ?_ (by size_fits));refine MQ (m:=firstArgMember _ _) (Oc (a:=Value.none) (by first|(simp only[firstArgMember];rfl)|rfl) ?_);refine NO ?_ (by size_fits);simp only[raiseNew];refine MQ (wpAny_handled ?_)
 first|rw[g]|rw[show A.in1.handled=none by exact g]
 refine MQ (MU (wpAny_throw ?_));exact k _ _ (((OF ..).extBut.push _).push _) ⟨_,Mr _ rfl,rfl⟩
end
theorem yi{P:Program}{w:World}{A:Around}(g:A.handled=none)(it a:Addr)(j:a≠it)(c:Array Value) :
  Draws P w A it [it,a] c.size (λi v=>c[i]? =some v) (λi h=>h.IsTupleIter it a i/\h.IsTuple a c) where
 live:=λ_ _ b=>by obtain⟨⟨r,l,_⟩,_⟩:=b;exact⟨r,l⟩
 frame:=λ_ _ _ b k=>⟨b.1.at λo e=>k it (by simp) o e,b.2.at λo e=>k a (by simp) o e⟩
 item:=λi s Q E f b q=>by
  refine G8 b.1 b.2 (v:=c[i]) (by simp[f]) λh' t' d=>q _ h' s.toks (by simp[f]) ⟨t',b.2.extBut d.extBut j⟩ d
 done:=λs Q E b q=>uk g b.1 b.2 (by simp) q
open AutoSeq1 (wpAny_loadPart')
set_option tactic.hygienic true in
theorem rp(a:Addr)(e:Array Value)(n:Nat)(k:Option Addr)(l:Array (Option Value)) :
  Meets (Builtin.«enumerate.__new__» ⟨[.type "enumerate",.ref a],[]⟩) (λ_ R s=>s.heap.get? a=some {cls:=.type "tuple",dict:=k,data:=.seq e n,slots:=l} /\ R (.ok (.ret (.ref (s.heap.push {cls:=.type "tuple_iterator",data:=.fields #[.ref a,.int 0 0]}).objs.size))) {s with heap:=(s.heap.push {cls:=.type "tuple_iterator",data:=.fields #[.ref a,.int 0 0]}).push {cls:=.type "enumerate",data:=.fields #[.none,.bool false,.ref s.heap.objs.size,rawInt 0,.none,.none]}}) :=
 .of_wp λprog w A R s h=>by
  obtain⟨m,g,d,j,o⟩:=s;obtain⟨b,h⟩:=h;have i:=sub_enumerate;have f:Heap.IsTuple (Shared.heap ⟨m,g,d,j,o⟩) a e:=⟨_,b,rfl,n,rfl⟩
  wp_walk using OH b
  refine wpAny_stack_any λ_=>MU ?_
  split
  ·rename_i c _ _ _ _ _
   cases(c==Value.type "enumerate")
   ·wp_walk using OH b,QB f
    exact⟨_,rfl,h⟩
   ·wp_walk using OH b,QB f
    exact⟨_,rfl,h⟩
  ·wp_walk using OH b,QB f
   exact⟨_,rfl,h⟩
theorem vW(j:s.heap.IsTuple a d)
  (k:∀h',IsEnum h' (s.heap.objs.size+1) s.heap.objs.size 0 .none->h'.IsTupleIter s.heap.objs.size a 0->(∀b o,s.heap.get? b=some o->h'.get? b=some o)->Q (.ref (s.heap.objs.size+1)) {s with heap:=h'}) :
  wpAny (model P w) A (call (.type "enumerate") [.ref a]) Q E s:=by
 obtain⟨⟨c,m,r,p⟩,i,f,n,e⟩:=j;simp only at f e;subst f e;refine callType_new F.called_enumerate (by decide) (F.typeCall_enumerate_1 _) (F.newCall_enumerate_1 _) (λl=>F.args_object_init_2 l _) F.entry_enumerate_new (rp a d n m p) ⟨i,?_⟩;have h:(s.heap.push {cls:=.type "tuple_iterator",data:=.fields #[.ref a,.int 0 0]}).objs.size=s.heap.objs.size+1:=OR ..;show _/\_;rw[h];have g:IsEnum ((s.heap.push {cls:=.type "tuple_iterator",data:=.fields #[.ref a,.int 0 0]}).push {cls:=.type "enumerate",data:=.fields #[.none,.bool false,.ref s.heap.objs.size,rawInt 0,.none,.none]}) (s.heap.objs.size+1) s.heap.objs.size 0 .none:=by
  have q:=Mr (s.heap.push {cls:=.type "tuple_iterator",data:=.fields #[.ref a,.int 0 0]}) (o:={cls:=.type "enumerate",data:=.fields #[.none,.bool false,.ref s.heap.objs.size,rawInt 0,.none,.none]}) rfl;rw[h]at q;exact q
 exact⟨⟨_,g,rfl⟩,k _ g ⟨_,MW _ (Mr _ rfl),rfl,rfl⟩ λb o y=>MW _ (MW _ y)⟩
noncomputable def JP(src:Hp->List V->Prop):It :=
 ⟨λi H=>∃xs x,src H xs/\xs[i]? =some x,λi H v a =>∃p,H p=none/\v=.ref p/\∀xs x,src H xs->xs[i]? =some x->a =upd H p (.tup [.int (i:Nat),x]),λi H=>∃xs,src H xs/\xs.length=i⟩
structure xT(P:Program)(w:World)(K:W.Frag)(src:Hp->List V->Prop)(e it:Addr)(tn:Nat->Heap->Prop):Prop where
 ne:e≠it
 obj:∀i h,tn i h->∃o,h.get? it=some o/\∀v,o.data≠.cell v
 keep:∀i h h',tn i h->(∀o,h.get? it=some o->h'.get? it=some o)->tn i h'
 inj:∀(X:Cx) pins s σ H xs ys,X.K=K->Inv X pins σ H s->src H xs->src H ys->xs=ys
 draws:∀(X:Cx) pins s σ H xs (i:Nat),X.prog=P->X.w=w->X.K=K->X.calm=true->Inv X pins σ H s->src H xs->tn i s.heap->∃(fp:List Addr)(Pw:Nat->Value->Prop)(St:Nat->Heap->Prop),
  Draws P w X.A.in1 it fp xs.length Pw St/\e∉fp/\St i s.heap/\(∀j v x,Pw j v->xs[j]? =some x->RelV x v)/\∀j h,St j h->tn j h
theorem jE{P:Program}{w:World}{K:W.Frag}{es:List Expr}{kt:Nat}{G:Pos}{src:Hp->List V->Prop}{e it:Addr}{tn:Nat->Heap->Prop}(S:xT P w K src e it tn) :
  nJ P w K (.Tuple es kt G) (JP src) [e,it] e (λi h=>(∃d,IsEnum h e it (i:Nat) d)/\tn i h) where
 mem:=by simp
 obj:=λi h j c t=>by
  obtain⟨⟨d,g⟩,m⟩:=j;simp only[Mh,NS,Oh]at t
  rcases t with rfl|rfl
  ·exact⟨_,g,λv z=>by cases z⟩
  ·exact S.obj i h m
 keep:=λi h h' j k=>by
  obtain⟨⟨d,g⟩,m⟩:=j;exact⟨⟨d,k e (by simp) _ g⟩,S.keep i h h' m λo q=>k it (by simp) o q⟩
 item:=by
  intro X L O J t i b s M H E I R j hg;obtain⟨⟨d,g⟩,m⟩:=j;obtain⟨xs,x,Q,B⟩:=hg;obtain⟨fp,Pw,St,D,C,n,l,f⟩:=S.draws X b s M H xs i L O J t I Q m;subst L O J;have T:i<xs.length:=(Mk.mp B).1;have elt:e<s.heap.objs.size:=Mu g;have a1:it<s.heap.objs.size:=by obtain⟨o,ho,_⟩:=S.obj i _ m;exact Mu ho
  refine wpAny_pyNext_enum_itemD D g n T S.ne C λu h' F hu ho N hT hsz U=> ?_;refine⟨_,rfl,wpAny_letOwnedTupleGo_enum ho λr Y p => ?_⟩;have kk:∀c o,c∉[e,it]->s.heap.get? c=some o->r.get? c=some o:=λc o a y=>by
   simp only[Mh,NS,Oh,Po]at a;exact(p.2 c a.1).trans (U c o a.1 a.2 y)
  have Z:r.get? s.heap.objs.size=some {cls:=.type "tuple",data:=.seq #[.int i F,u]}:=(p.2 _ (N1 elt)).trans hT
  have I1:Inv X b M (upd H s.heap.objs.size (.tup [.int (i:Nat),x])) {s with heap:=r,toks:=F+1} :=
   I.drew (t' :=F+1) R kk (Md _) ⟨by show 2<=sizeLine;decide,[.int i F,u],.cons ⟨F,rfl⟩ (.cons (l i u x hu B) .nil),⟨_,Z,rfl,_,rfl,rfl⟩⟩
  refine⟨.ref s.heap.objs.size,_,I1,rfl,⟨s.heap.objs.size,I.hok.fresh (Md _),rfl,λa2 x' a0 A=> ?_⟩,⟨⟨u,by simpa using Y⟩,S.keep _ _ _ (f _ _ N) λo y=>(p.2 it S.ne.symm).trans y⟩,λc a => ?_⟩
  ·have q:=S.inj X b s M H _ _ rfl I Q a0
   subst q;rw[B]at A;cases A;rfl
  ·rw[aB ?_]
   ·exact(R c a).1
   ·simp only[Mh,NS,Oh]at a
    rcases a with rfl|rfl
    ·exact Mz elt
    ·exact Mz a1
 done:=by
  intro X L O J t i b s M H E I R j hg;obtain⟨⟨d,g⟩,m⟩:=j;obtain⟨xs,Q,B⟩:=hg;obtain⟨fp,Pw,St,D,C,n,l,f⟩:=S.draws X b s M H xs i L O J t I Q m;subst L O J;subst B;exact wpAny_pyNext_enum_endD D g n λh' U=>⟨rfl,I.drew0 (t' :=s.toks) R λc o a y=>U c o (by simp only[Mh,NS,Oh,Po]at a;exact a.2) y⟩
 self:=λ_ _ _ _ _ j h=>by
  obtain⟨⟨d,g⟩,_⟩:=j;exact QE g h
theorem yg{P:Program}{w:World}{K:W.Frag}{a e it:Addr}(g:e≠it)(n:a≠it)(q:a≠e):xT P w K (λH xs=>bg K H a xs) e it (λi h=>h.IsTupleIter it a i) where
 ne:=g
 obj:=λi h f=>by
  obtain⟨o,J,_,d⟩:=f;exact⟨o,J,λv z=>by rw[d]at z;cases z⟩
 keep:=λi h h' f k=>f.at k
 inj:=λX b s F H xs O m I g n=>by
  subst m;exact I.tuple_inj g n
 draws:=λX b s F H xs i E L m y I G N=>by
  subst E L m;obtain⟨c,r,p,_⟩:=I.tuple G;have l:=r.length;have D:=yi (P:=X.prog) (w:=X.w) (A:=X.A.in1) (I.ok.hd y) it a n c.toArray;rw[Mn,<-l]at D;refine⟨_,_,_,D,by simp[g,q.symm],⟨N,p⟩,λj v x C B=> ?_,λj h f=>f.1⟩;obtain⟨u,t,M⟩:=r.get B;have e:c[j]? =some v:=by simpa using C
  rw[t]at e;cases e;exact M
theorem yh{P:Program}{w:World}{K:W.Frag}{z:Str}{t:Tok}{e it:Addr}(f:e≠it):xT P w K (λ_ xs=>xs=cw z) e it (λi h=>h.IsStrIter it (strIterType z) z t i) where
 ne:=f
 obj:=λi h a=>by
  obtain⟨o,q,_,d⟩:=a;exact⟨o,q,λv z=>by rw[d]at z;cases z⟩
 keep:=λi h h' a k=>by
  obtain⟨o,q,r⟩:=a;exact⟨o,k o q,r⟩
 inj:=λX b s F H xs M C I f L=>by rw[f,L]
 draws:=λX b s F H xs i E J C y I G m=>by
  subst E J C G;have l:(cw z).length=z.cps.size:=by rw[kr];rfl
  have g:∀(j:Nat)(v:Value)(x:V),(∃c u,z.cps[j]? =some c/\v=.str ⟨#[c]⟩ u)->(cw z)[j]? =some x->RelV x v:=λj v x D n=>by
   obtain⟨c,u,p,rfl⟩:=D;unfold cw at n;rw[Mi,Nu,p]at n;cases n;exact⟨u,rfl⟩
  rw[l];cases B:z.cps.all (·<128)with
  |true =>
   have e:strIterType z="str_ascii_iterator":=by unfold strIterType;rw[MX B]
   rw[e]at m ⊢;exact⟨_,_,_,Draws.strAscii (prog:=X.prog) (w:=X.w) (A:=X.A.in1) (I.ok.hd y) it z t,by simp[f],m,g,λj h a=>a⟩
  |false =>
   have e:strIterType z="str_iterator":=by unfold strIterType;rw[MV (by rw[B];exact Mc)]
   rw[e]at m ⊢;exact⟨_,_,_,Draws.strWide (prog:=X.prog) (w:=X.w) (A:=X.A.in1) (I.ok.hd y) it z t,by simp[f],m,g,λj h a=>a⟩
section
variable{X:Cx}
def Hk(K:W.Frag)(d:TA):TI:=λc H R=>d c H λvs b=>∃a xs,vs=[.ref a]/\bg K b a xs/\R (JP λH xs=>bg K H a xs) b
def Hl(b:TA):TI:=λa H R=>b a H λvs c=>∃z,vs=[.str z]/\R (JP λ_ xs=>xs=cw z) c
theorem Ac(L:Gl X "enumerate")(x:X.mg "enumerate"=none)(z:PA X [a] k)(C:starEach [a] X.env=[(false,eval a X.env)]:=by rfl) :
  PI X (.Tuple es D f) (.Call (.Name "enumerate" p) [a] [] pos) (Hk X.K k):=by
 intro b s m H R I h;refine Call_ (dE I L x boot_enumerate (NY (al (z pos b s m H _ I h) λM d ⟨vs,n,g,F,J⟩=> ?_) C rfl));obtain⟨l,xs,e,E,q⟩:=J;subst e;obtain⟨u,rfl,G⟩:=vals1 F;cases G;obtain⟨A,r,t,_⟩:=g.tuple E;have v:l<d.heap.objs.size:=by obtain⟨o,e,_⟩:=id t;exact Mu e
 refine vW t λh' j B w=> ?_;refine QE j ?_;have y:Inv X b m n {d with heap:=h'}:=g.kept (t' :=d.toks) w;refine⟨d.heap.objs.size+1,[d.heap.objs.size+1,d.heap.objs.size],_,_,n,rfl,y,jE (yg (Nat.succ_ne_self _) (Mz v) (Mz (Nr v))),⟨⟨_,j⟩,B⟩,λc i=> ?_,q⟩;have le:d.heap.objs.size<=c:=by
  simp only[Mh,NS,Oh]at i
  rcases i with rfl|rfl<;>omega
 exact g.fpOk le (g.hok.fresh le)
theorem Ad(C:Gl X "enumerate")(o:X.mg "enumerate"=none)(v:PA X [a] k)(x:starEach [a] X.env=[(false,eval a X.env)]:=by rfl) :
  PI X (.Tuple es y f) (.Call (.Name "enumerate" p) [a] [] pos) (Hl k):=by
 intro b s l H R I h;refine Call_ (dE I C o boot_enumerate (NY (al (v pos b s l H _ I h) λD d ⟨vs,m,g,A,B⟩=> ?_) x rfl));obtain⟨z,e,q⟩:=B;subst e;obtain⟨u,rfl,t,rfl⟩:=vals1 A;refine call_enumerate_str λh' j w _ n=> ?_;refine QE j ?_;have r:Inv X b l m {d with heap:=h'}:=g.kept (t' :=d.toks) n;refine⟨d.heap.objs.size+1,[d.heap.objs.size+1,d.heap.objs.size],_,_,m,rfl,r,jE (yh (Nat.succ_ne_self _)),⟨⟨_,j⟩,w⟩,λc i=> ?_,q⟩;have le:d.heap.objs.size<=c:=by
  simp only[Mh,NS,Oh]at i
  rcases i with rfl|rfl<;>omega
 exact g.fpOk le (g.hok.fresh le)
theorem Be{src:Hp->List V->Prop}{xs:List V}{g:TG}{n:TS}{D:ci}{a:St}{H:Hp}(b:Nat->St->Hp->Prop)(h0:b 0 a H)(t:∀i a H,i<=xs.length->b i a H->src H xs)
  (v:∀i x p a H,xs[i]? =some x->H p=none->b i a H->g (.ref p) a (upd H p (.tup [.int (i:Nat),x])) λc j=>n {D with nx:=b (i+1),ct:=b (i+1),bk:=D.nx} c j) (r:∀a H,b xs.length a H->D.nx a H) :
  ∃W:Nat->Nat->St->Hp->Prop,(∃m,W 0 m a H)/\∀i m a H,W i m a H -> ((JP src).stop i H/\D.nx a H)\/((JP src).go i H/\∃N:St->Hp->Prop,(∀d f,N d f ->∃o,o <m/\W (i+1) o d f)/\∀x f,(JP src).yld i H x f ->g x a f λc j=>n {D with nx:=N,ct:=N,bk:=D.nx} c j):=by
 refine⟨λi m a H=>m=xs.length-i/\i<=xs.length/\b i a H,⟨xs.length,by simp,NH _,h0⟩,?_⟩;rintro i m a H ⟨rfl,w,p⟩;have k:=t i a H w p
 by_cases h:i<xs.length
 ·have l:xs[i]? =some xs[i]:=by simp[h]
  refine .inr ⟨⟨xs,_,k,l⟩,b (i+1),λd f u =>⟨xs.length-(i+1),by omega,rfl,h,u⟩,λx f y=> ?_⟩;obtain⟨q,s,rfl,y⟩:=y;have e:=y xs _ k l;subst e;exact v i _ q a H l s p
 ·have e:i=xs.length:=by omega
  subst e;exact .inl ⟨⟨xs,k,rfl⟩,r a H p⟩
theorem jn{a:List Int}{i:Nat}(r:aU (a.map V.int) b)(h:b[i]? =some v):∃t,v=.int (a.getD i 0) t:=by have c:=r.length;rw[MR]at c;have g:i<b.length:=(Mk.mp h).1;obtain⟨u,d,f⟩:=r.get (i:=i) (x:=.int (a[i]'(by omega))) (by simp[show i<a.length by omega]);rw[d]at h;cases h;obtain⟨t,e⟩:=f;refine⟨t,?_⟩;rw[e];simp[List.getD,show i<a.length by omega]
theorem ju(a:List Int):∀k,k<=a.length->preSum (λi=>a.getD i 0) k=(a.take k).sum
 |0,_=>by simp[preSum]|k+1,h=>by
  have e:a.take (k+1)=a.take k++[a[k]'(by omega)]:=by rw[Oi];simp[show k<a.length by omega]
  rw[preSum,ju a k (by omega),e,List.sum_append];simp[List.getD,show k<a.length by omega]
theorem nF(y:X.calm=true):bV X (.builtin "sum") (λxs H Q=>∃(p:Addr)(c:List Int),xs=[.ref p]/\bR X.K H p (c.map V.int)/\Q (.int c.sum) H):=by
 intro l s E H xs G Q I r h;obtain⟨p,c,rfl,B,q⟩:=h;obtain⟨u,rfl,D⟩:=vals1 r;cases D;obtain⟨d,k,f,F⟩:=I.list B;have a:=k.length;rw[MR]at a;have m:p<s.heap.objs.size:=by
  obtain⟨o,e,_⟩:=f.isList;exact Mu e
 refine call_sum_walkAnyS (QD f.isList ?_);refine⟨s.heap.objs.size,_,_,_,d.toArray.size,_,_,(λi=>c.getD i 0),rfl,(Walks.list (A:=X.A.in1) (I.ok.hd y) s.heap.objs.size p (Mz m) d.toArray).toS,⟨⟨_,Mr _ rfl,rfl,rfl⟩,f.isList.push _⟩,?_,?_,?_⟩
 ·intro b n
  simp at n
  rcases n with rfl|rfl
  ·rw[size_push'];exact Nat.lt_succ_self _
  ·rw[size_push'];exact Nr m
 ·intro i v C
  exact jn k (by simpa using C)
 ·intro s' t' w
  obtain⟨x,j,g,t,J⟩:=w;have e:s' ={s with heap:=s'.heap,toks:=s'.toks}:=by
   cases s';simp only at j g t;subst j g t;rfl
  rw[e];refine⟨.int c.sum,H,I.kept (t' :=s'.toks) (λb o z=>x b o (by simpa using Mz (Mu z)) (MW _ z)),⟨t',?_⟩,q⟩;rw[Mn,<-a,ju c _ (Md _),Nx]
theorem cX:∀{a:List Value}{b:List Int},IntsAre a b->aU (b.map V.int) a
 |_,_,.nil=>.nil|_,_,.cons n t r=>.cons ⟨t,rfl⟩ (cX r)
noncomputable def sortI(c:List Int):List Int:=c.mergeSort (λa b=>decide (a<=b))
theorem sortI_perm(a:List Int):(sortI a).Perm a:=List.mergeSort_perm _ _
theorem qv(d:List Int):(sortI d).Pairwise (·<=·):=by have:=List.pairwise_mergeSort (le:=λa b:Int=>decide (a<=b)) (λa b c e f=>by simp at *;omega) (λa b=>by simp;omega) d;exact this.imp λh=>by simpa using h
theorem gp(h:d.Perm c)(s:d.Pairwise (·<=·)):d=sortI c := List.Perm.eq_of_pairwise (le:=(·<=·)) (λa b _ _ e f=>Int.le_antisymm e f) s (qv c) (h.trans (sortI_perm c).symm)
theorem jb:bV X (.builtin "sorted") (λxs H Q=>∃(p:Addr)(d:List Int),xs=[.ref p]/\bR X.K H p (d.map V.int)/\d.length<64/\∀a,H a=none->Q (.ref a) (upd H a (.lst ((sortI d).map V.int)))):=by intro j s A H xs C Q I r h;obtain⟨p,d,rfl,t,l,q⟩:=h;obtain⟨u,rfl,w⟩:=vals1 r;cases w;obtain⟨g,i,y,B⟩:=I.list t;have f:=i.length;rw[MR]at f;refine sorted_ints y.isList (intsAre_of i) (by omega) λout v k m x=> ?_;have e:=gp m x;subst e;obtain⟨c,n⟩:=sortedAll_at s.heap g out;refine⟨.ref (s.heap.objs.size+1),_,I.laid (t' :=s.toks) (o:=.lst ((sortI d).map V.int)) (λb o z=>sortedAll_old z) (Pm _) ?_,rfl,q _ (I.hok.fresh (Pm _))⟩;refine⟨?_,out.toList,c,cX k,by simpa [seqObj]using n⟩;rw[MR,(sortI_perm d).length_eq];have:=Np;omega
theorem vG{P:Program}{w:World}{K:W.Frag}{a e it:Addr}(g:e≠it)(n:a≠it)(q:a≠e):xT P w K (λH xs=>bR K H a xs) e it (λi h=>h.IsListIter it a i) where
 ne:=g
 obj:=λi h f=>by
  obtain⟨o,J,_,d⟩:=f;exact⟨o,J,λv z=>by rw[d]at z;cases z⟩
 keep:=λi h h' f k=>f.at k
 inj:=λX b s F H xs O m I g n=>by
  subst m;exact I.list_inj g n
 draws:=λX b s F H xs i E L m y I G N=>by
  subst E L m;obtain⟨c,r,p,_⟩:=I.list G;have l:=r.length;have D:=Draws.list (prog:=X.prog) (w:=X.w) (A:=X.A.in1) (I.ok.hd y) it a n c.toArray;rw[Mn,<-l]at D;refine⟨_,_,_,D,by simp[g,q.symm],⟨N,p.isList⟩,λj v x C B=> ?_,λj h f=>f.1⟩;obtain⟨u,t,M⟩:=r.get B;have e:c[j]? =some v:=by simpa using C
  rw[t]at e;cases e;exact M
def Hm(K:W.Frag)(d:TA):TI:=λc H R=>d c H λvs b=>∃a xs,vs=[.ref a]/\bR K b a xs/\R (JP λH xs=>bR K H a xs) b
theorem rS(L:Gl X "enumerate")(x:X.mg "enumerate"=none)(z:PA X [a] k)(C:starEach [a] X.env=[(false,eval a X.env)]:=by rfl) :
  PI X (.Tuple es D f) (.Call (.Name "enumerate" p) [a] [] pos) (Hm X.K k):=by
 intro b s m H R I h;refine Call_ (dE I L x boot_enumerate (NY (al (z pos b s m H _ I h) λN d ⟨vs,n,g,F,J⟩=> ?_) C rfl));obtain⟨l,xs,e,E,q⟩:=J;subst e;obtain⟨u,rfl,G⟩:=vals1 F;cases G;obtain⟨A,r,t,_⟩:=g.list E;have v:l<d.heap.objs.size:=by obtain⟨o,e,_⟩:=t.isList;exact Mu e
 refine call_enumerate_list t.isList λh' j B M w=> ?_;refine QE j ?_;have y:Inv X b m n {d with heap:=h'}:=g.kept (t' :=d.toks) w;refine⟨d.heap.objs.size+1,[d.heap.objs.size+1,d.heap.objs.size],_,_,n,rfl,y,jE (vG (Nat.succ_ne_self _) (Mz v) (Mz (Nr v))),⟨⟨_,j⟩,B⟩,λc i=> ?_,q⟩;have le:d.heap.objs.size<=c:=by
  simp only[Mh,NS,Oh]at i
  rcases i with rfl|rfl<;>omega
 exact g.fpOk le (g.hok.fresh le)
def CV(i j:Int):Prop:=i.natAbs<2^2000/\j.natAbs<2^2000
theorem intBits_le(h:k.natAbs<2^2000):Builtin.Int.intBits k<=2000:=by
 unfold Builtin.Int.intBits
 split;exact NH _
 ·have:k.natAbs.log2<2000:=by
   rcases Nat.eq_zero_or_pos k.natAbs with h0|a
   ·rw[h0];decide
   ·exact(Nat.log2_lt (N1 a)).mpr h
  omega
theorem CV.ok(h:CV i j):IntMulOk i j:=by
 unfold IntMulOk;have h1:=intBits_le h.1;have h2:=intBits_le h.2;have h3:Builtin.Int.intTooBig (Builtin.Int.intBits i+Builtin.Int.intBits j)=false:=by
  unfold Builtin.Int.intTooBig;have:((4000:Nat):Int)<=(bitsLine:Nat):=by decide
  exact Mq (by omega)
 rw[h3];simp
theorem DU:dk X (binaryOp .Mult) (rI CV λi j=>.int (i*j)):=Ko λ_ _ _ _ _ _ _ a q=>mul_int q a.ok
theorem vU:bV X (.builtin "len") (λxs H Q=>∃a b,xs=[V.ref a]/\Rd H a (.dK b)/\Q (.int b.length) H):=by intro c s g H xs i Q I r h;obtain⟨a,b,rfl,d,q⟩:=h;obtain⟨u,rfl,e⟩:=vals1 r;cases e;exact LC I d λt s' f =>⟨.int b.length,H,f,⟨t,rfl⟩,q⟩
theorem tH:bV X (.type "dict") (λxs H Q=>∃a b,xs=[V.ref a]/\Rd H a (.dK b)/\∀p,H p=none->Q (.ref p) (upd H p (.dK b))):=by intro c s i H xs j Q I r h;obtain⟨a,b,rfl,d,q⟩:=h;obtain⟨u,rfl,f⟩:=vals1 r;cases f;exact By I d λp s' e g =>⟨.ref p,_,g,rfl,q p e⟩
theorem Inv.known(I:Inv X f k H s)(d:H a=some (.dK g))(y:s.heap.get? a=some o):Inv X f k (upd H a (.frz o (.dK g))) s:=by
 have i:∀b xs,H b=some (.tup xs)->upd H a (.frz o (.dK g)) b=some (.tup xs):=λb xs e=>by rw[aB (λz=>by subst z;rw[d]at e;cases e)];exact e
 refine⟨I.ok,I.os,I.bare,⟨I.base.keep,I.base.slot,λb h e n t=> ?_,I.base.there,λb xs e=>i b xs (I.base.tups b xs e),λb h u e=> ?_,λb v e=> ?_⟩,I.loc,I.cell,?_,λx c e=> ?_,λp w=> ?_,λb u e=> ?_,I.len⟩
 ·have:=I.base.free b h e n t
  rw[aB (λz=>by subst z;rw[d]at this;cases this)];exact this
 ·have:=I.base.frzs b h u e
  rw[aB (λz=>by subst z;rw[d]at this;cases this)];exact this
 ·obtain⟨m,e⟩:=I.base.tbls b v e
  exact⟨m,by rw[aB (λz=>by subst z;rw[d]at e;cases e)];exact e⟩
 ·rw[aB (λz=>by have:=I.free;rw[z,d]at this;cases this)]
  exact I.free
 ·have:=I.freeC x c e
  rw[aB (λz=>by rw[z,d]at this;cases this)];exact this
 ·obtain⟨A,j,r⟩:=I.pin p w
  exact⟨A,by rw[aB (λz=>by rw[z,d]at j;cases j)];exact j,r⟩
 ·by_cases l:b=a
  ·subst l
   rw[aC]at e;cases e;refine⟨y,?_⟩;exact(I.hok b _ d).stay (λ_ _ _ q=>q) (λc q=>by rw[aB (λz=>by subst z;rw[d]at q;cases q)];exact q) i
  ·rw[aB l]at e
   exact(I.hok b u e).stay (λ_ _ _ q=>q) (λc q=>by rw[aB (λz=>by subst z;rw[d]at q;cases q)];exact q) i
def NF(X:Cx)(a:Addr):Prop:=∀o u,X.H₀ a≠some (.frz o u)
theorem Inv.nf(I:Inv X b d H s)(f:H a=some (.dK c)):NF X a:=λo u e=>by
 have:=I.base.frzs a o u e;rw[f]at this;cases this
theorem Inv.unknown(I:Inv X f k H s)(y:NF X a)(d:H a=some (.frz o (.dK g))):Inv X f k (upd H a (.dK g)) s:=by
 have i:∀b xs,H b=some (.tup xs)->upd H a (.dK g) b=some (.tup xs):=λb xs e=>by rw[aB (λz=>by subst z;rw[d]at e;cases e)];exact e
 refine⟨I.ok,I.os,I.bare,⟨I.base.keep,I.base.slot,λb h e n t=> ?_,I.base.there,λb xs e=>i b xs (I.base.tups b xs e),λb h u e=> ?_,λb v e=> ?_⟩,I.loc,I.cell,?_,λx c e=> ?_,λp w=> ?_,λb u e=> ?_,I.len⟩
 ·have:=I.base.free b h e n t
  rw[aB (λz=>by subst z;rw[d]at this;cases this)];exact this
 ·have:=I.base.frzs b h u e
  rw[aB (λz=>by subst z;exact y _ _ e)];exact this
 ·obtain⟨m,e⟩:=I.base.tbls b v e
  exact⟨m,by rw[aB (λz=>by subst z;rw[d]at e;cases e)];exact e⟩
 ·rw[aB (λz=>by have:=I.free;rw[z,d]at this;cases this)]
  exact I.free
 ·have:=I.freeC x c e
  rw[aB (λz=>by rw[z,d]at this;cases this)];exact this
 ·obtain⟨A,j,r⟩:=I.pin p w
  exact⟨A,by rw[aB (λz=>by rw[z,d]at j;cases j)];exact j,r⟩
 ·by_cases l:b=a
  ·subst l
   rw[aC]at e;cases e;exact(I.hok b _ d).2.stay (λ_ _ _ q=>q) (λc q=>by rw[aB (λz=>by subst z;rw[d]at q;cases q)];exact q) i
  ·rw[aB l]at e
   exact(I.hok b u e).stay (λ_ _ _ q=>q) (λc q=>by rw[aB (λz=>by subst z;rw[d]at q;cases q)];exact q) i
noncomputable def MK(a:Addr)(o:Obj)(b:List (ak×V)):It :=
 ⟨λi H=>H a=some (.frz o (.dK b))/\i<b.length,λi H v c =>∃p,H p=none/\v=.ref p/\∀k x,b[i]? =some (k,x)->c =upd H p (.tup [kV k,x]),λi H=>H a=some (.frz o (.dK b))/\i=b.length⟩
theorem HX(h:(aY P w).is k v=true):RelV (kV k) v:=by
 cases k with
 |inl i =>
  obtain⟨t,e⟩:=Value.isInt_shape h;exact⟨t,e⟩
 |inr z =>
  obtain⟨t,e⟩:=Value.isStrOf_shape h;exact⟨t,e⟩
theorem fr:entryFor table "dict_itemiterator.__iter__"=some Builtin.«dict_keyiterator.__iter__» := entryFor_alias (id' :="dict_keyiterator.__iter__") (by kernel_rfl) rfl (by decide +kernel) (by kernel_rfl)
set_option tactic.hygienic true in
theorem tz{P:Program}{w:World}{K:W.Frag}{es:List Expr}{kt:Nat}{N:Pos}{a it:Addr}{o:Obj}{d:List (ak×V)}{vs:List (ak×Value)}{ep:Nat}{h0:Heap}(a3:a≠it)(B:KV d vs)(L:h0.DictAt (aY P w) a vs ep)(ho:h0.get? a=some o) :
  nJ P w K (.Tuple es kt N) (MK a o d) [it] it (λi h=>∃ok u,IsItemIter h it a i vs.length ep ok u) where
 mem:=by simp
 obj:=λi h l b hb=>by
  have e:b=it:=by simpa using hb
  subst e;obtain⟨ok,u,e⟩:=l;exact⟨_,e,λv z=>by cases z⟩
 keep:=λi h h' l k=>by
  obtain⟨ok,u,e⟩:=l;exact⟨ok,u,k it (by simp) _ e⟩
 item:=by
  intro X T Y S hc i m s σ H E I R l U;subst T Y S;obtain⟨p,a0⟩:=U;obtain⟨ok,u,n⟩:=l;have so:s.heap.get? a=some o:=(I.hok a _ p).1;have g :s.heap.DictAt (aY X.prog X.w) a vs ep:=L.at' λo' e=>by rw[ho]at e;cases e;exact so
  have hl:d.length=vs.length:=B.length;obtain⟨⟨k,x⟩,hx⟩:∃q,d[i]? =some q:=⟨d[i],by simp[a0]⟩;have key:∀{d:List (ak×V)}{vs:List (ak×Value)}{i:Nat}{q:ak×V},KV d vs->d[i]? =some q->∃v,vs[i]? =some (q.1,v)/\RelV q.2 v:=by
   intro d vs i q r
   induction r generalizing i with
   |nil=>intro e;simp at e|cons a t ih =>
    intro e;cases i with
    |zero =>
     simp at e;subst e;rename_i c _ _;exact⟨c.2,by simp[a.1],a.2⟩
    |succ i=>simpa using ih (by simpa using e)
  obtain⟨v,hv,rv⟩:=key B hx;have J:it<s.heap.objs.size:=Mu n;refine wpAny_pyNext_items_item n g hv λkv h' D O hT hsz Z=> ?_;refine⟨_,rfl,wpAny_letOwnedTupleGo_items (s:={s with heap:=h'}) O λC a2 M => ?_⟩;have kk:∀c o,c∉[it]->s.heap.get? c=some o->C.get? c=some o:=λc o f y=>by
   have j:c≠it:=by simpa using f
   exact(M.2 c j).trans (Z c o j y)
  have a1:C.get? s.heap.objs.size=some {cls:=.type "tuple",data:=.seq #[kv,v]}:=(M.2 _ (N1 J)).trans hT
  have I1:Inv X m σ (upd H s.heap.objs.size (.tup [kV k,x])) {s with heap:=C} :=
   I.drew (t' :=s.toks) R kk (Md _) ⟨by show 2<=sizeLine;decide,[kv,v],.cons (HX D) (.cons rv .nil),⟨_,a1,rfl,_,rfl,rfl⟩⟩
  refine⟨.ref s.heap.objs.size,_,I1,rfl,⟨s.heap.objs.size,I.hok.fresh (Md _),rfl,λk' x' G => ?_⟩,⟨_,_,a2⟩,λc f => ?_⟩
  ·rw[hx]at G
   cases G;rfl
  ·have j:c=it:=by simpa using f
   subst j;rw[aB (Mz J)];exact(R c (by simp)).1
 done:=by
  intro X T Y S hc i m s σ H E I R l U;subst T Y S;obtain⟨p,rfl⟩:=U;obtain⟨ok,u,n⟩:=l;have so:s.heap.get? a=some o:=(I.hok a _ p).1;have g :s.heap.DictAt (aY X.prog X.w) a vs ep:=L.at' λo' e=>by rw[ho]at e;cases e;exact so
  have hl:d.length=vs.length:=B.length;exact wpAny_pyNext_items_end (I.ok.hd hc) n g (by rw[hl];simp) λh' Z=>⟨rfl,I.drew0 (t' :=s.toks) R λc o f y=>Z c o (by simpa using f) y⟩
 self:=λA i s Q E l h=>by
  obtain⟨ok,u,n⟩:=l;refine O7 ⟨_,n,rfl⟩ PySem.F.slot_dict_itemiterator_iter (NP PySem.F.slot_dict_itemiterator_iter ⟨_,n,rfl⟩ fr ?_ (PySem.F.args_dict_itemiterator_iter_1 _));show wpAny _ _ (ret (.ref it)) _ _ s;exact MU ⟨_,rfl,"dict_itemiterator",_,⟨_,n,rfl⟩,PySem.F.slot_dict_itemiterator_next.lookup,h⟩
def Hh(X:Cx)(e:TE):TI:=λd H R=>e d H λx c=>∃a b,x=.ref a/\c a=some (.dK b)/\∀o,NF X a->R (MK a o b) (upd c a (.frz o (.dK b)))
theorem rg{es:List Expr}{T:Nat}{m:Pos}{o:Expr}{K:TE}{j g:Pos}(U:PE X o K)(k:attributeBase o "items" X.env (eval o X.env)=eval o X.env:=by rfl)(l:(j.endLine==g.line)=true:=by rfl) :
  PI X (.Tuple es T m) (.Call (.Attribute o "items" j) [] [] g) (Hh X K):=by
 intro i s J H R I h;refine wpAny_Call_method0_late k l (al (U i s J H _ I h) λv d E=> ?_);obtain⟨x,V,B,W,Y⟩:=E;obtain⟨a,Q,rfl,y,q⟩:=Y;cases W;obtain⟨z,M,vs,C,p⟩:=Bw B.hok y;obtain⟨ep,D⟩:=p.dictAt;obtain⟨r,P,f,A,_⟩:=id D;refine⟨"dict","dict.items",PySem.F.plainAttrs_dict,PySem.F.slot_dict_items,PySem.F.type_dict_items,p.typeIs,λb e=> ?_,Pk rfl (PySem.evalArgs_none ?_)⟩
 ·cases e
  exact⟨r,f,A.2.1⟩
 refine call_meetsIn PySem.F.slot_dict_items p.typeIs PySem.F.entry_dict_items (PySem.F.args_dict_items_1 _) (meets_dict_items (aY X.prog X.w) a M) ⟨⟨vs,p⟩,?_⟩;have t:Inv X i J V {d with heap:=d.heap.push {cls:=.type "dict_items",data:=.fields #[.ref a]}}:=B.kept (t' :=d.toks) λb u e=>MW _ e;have G:=D.push {cls:=.type "dict_items",data:=.fields #[.ref a]};refine wpAny_pyIter_items ⟨_,Mr _ rfl,rfl,rfl⟩ G ?_;have L:a<d.heap.objs.size:=Mu f;have O:=t.kept (t' :=d.toks) (h' :=(d.heap.push {cls:=.type "dict_items",data:=.fields #[.ref a]}).push {cls:=.type "dict_itemiterator",data:=.fields #[.none,.bool false,.ref a,.int 0 0,.int vs.length 0,.int ep 0,.none,.none]}) λb u e=>MW _ e;have n:((d.heap.push {cls:=.type "dict_items",data:=.fields #[.ref a]}).push {cls:=.type "dict_itemiterator",data:=.fields #[.none,.bool false,.ref a,.int 0 0,.int vs.length 0,.int ep 0,.none,.none]}).get? a=some r:=MW _ (MW _ f);have S:=O.known y n;refine⟨(d.heap.push {cls:=.type "dict_items",data:=.fields #[.ref a]}).objs.size,[(d.heap.push {cls:=.type "dict_items",data:=.fields #[.ref a]}).objs.size],_,_,_,rfl,S,tz (o:=r) (h0:=d.heap) (Mz (by rw[size_push'];exact Nr L)) C D f,⟨_,_,Mr _ rfl⟩,λc N=> ?_,q r (B.nf y)⟩;have e:c=(d.heap.push {cls:=.type "dict_items",data:=.fields #[.ref a]}).objs.size:=by simpa using N
 subst e;refine(t.fpOk (Md _) ?_);rw[aB (N1 (by rw[size_push'];exact Nr L))];exact t.hok.fresh (Md _)
noncomputable def thaw(X:Cx)(D:ci):ci where
 nx:=λc H=>∃a o b,H a=some (.frz o (.dK b))/\NF X a/\D.nx c (upd H a (.dK b))
 bk:=λc H=>∃a o b,H a=some (.frz o (.dK b))/\NF X a/\D.bk c (upd H a (.dK b))
 ct:=λc H=>∃a o b,H a=some (.frz o (.dK b))/\NF X a/\D.ct c (upd H a (.dK b))
 rt:=λv H=>∃a o b,H a=some (.frz o (.dK b))/\NF X a/\D.rt v (upd H a (.dK b))
theorem DH(h:PS X l t):PS X l (λD j H=>t (thaw X D) j H):=by
 intro i s j H D I n;refine al (h i s j H _ I n) λf p q=> ?_;cases f with
 |next =>
  obtain⟨b,k,g,a,o,d,c,e,q⟩:=q;exact⟨b,_,g.unknown e c,q⟩
 |brk =>
  obtain⟨b,k,g,a,o,d,c,e,q⟩:=q;exact⟨b,_,g.unknown e c,q⟩
 |cont =>
  obtain⟨b,k,g,a,o,d,c,e,q⟩:=q;exact⟨b,_,g.unknown e c,q⟩
 |ret v =>
  obtain⟨b,x,k,g,m,a,o,d,c,e,q⟩:=q;exact⟨b,x,_,g.unknown e c,m,q⟩
theorem yd{a:Addr}{o:Obj}{b:List (ak×V)}{g:TG}{q:TS}{D:ci}{c:St}{H:Hp}(d:Nat->St->Hp->Prop)(h0:d 0 c H)(z:∀i c H,i<=b.length->d i c H->H a=some (.frz o (.dK b)))
  (B:∀i k x p c H,b[i]? =some (k,x)->H p=none->d i c H->g (.ref p) c (upd H p (.tup [kV k,x])) λh n=>q {D with nx:=d (i+1),ct:=d (i+1),bk:=D.nx} h n) (v:∀c H,d b.length c H->D.nx c H) :
  ∃W:Nat->Nat->St->Hp->Prop,(∃m,W 0 m c H)/\∀i m c H,W i m c H -> ((MK a o b).stop i H/\D.nx c H)\/((MK a o b).go i H/\∃N:St->Hp->Prop,(∀j l,N j l ->∃t,t <m/\W (i+1) t j l)/\∀x l,(MK a o b).yld i H x l ->g x c l λh n=>q {D with nx:=N,ct:=N,bk:=D.nx} h n):=by
 refine⟨λi m c H=>m=b.length-i/\i<=b.length/\d i c H,⟨b.length,by simp,NH _,h0⟩,?_⟩;rintro i m c H ⟨rfl,C,p⟩;have r:=z i c H C p
 by_cases f:i<b.length
 ·have s:b[i]? =some b[i]:=by simp[f]
  refine .inr ⟨⟨r,f⟩,d (i+1),λj l A =>⟨b.length-(i+1),by omega,rfl,f,A⟩,λx l y=> ?_⟩;obtain⟨u,w,rfl,y⟩:=y;have e:=y b[i].1 b[i].2 s;subst e;exact B i _ _ u c H s w p
 ·have e:i=b.length:=by omega
  subst e;exact .inl ⟨⟨r,rfl⟩,v c H p⟩
end
namespace RV
end RV
end L2
namespace L2
open PySem PySem.Spec PyProof.Rows
namespace RV
def ML(h:Heap)(a:Addr)(x:Str)(t:Tok)(i:Int):Prop:=∃o,h.get? a=some o/\o.cls=.type "reversed"/\o.data=.fields #[.str x t,rawInt i]
section
variable{prog:Program}{w:World}{A:Around}{E:Value->Shared->Prop}{s:Shared}{x:Str}{t:Tok}{a:Addr}
set_option tactic.hygienic false
theorem ML.ty(r:ML s.heap a x t i):s.TypeIs (.ref a) "reversed":=by obtain⟨o,e,c,_⟩:=r;exact⟨o,e,c⟩
end
end RV
end L2
namespace L2
open PySem PySem.Spec PyProof.Rows
namespace RV
end RV
end L2
namespace L2
open PySem PySem.Spec PyProof.Rows
namespace RV
open Builtin Builtin.Str Builtin.Int
end RV
end L2
namespace L2
open PySem PySem.Spec PyProof.Rows
section
variable{X:Cx}
set_option tactic.hygienic false
theorem Inv.knownT(I:Inv X f k H s)(d:H a=some (.dT g))(y:s.heap.get? a=some o):Inv X f k (upd H a (.frz o (.dT g))) s:=by
 have i:∀b xs,H b=some (.tup xs)->upd H a (.frz o (.dT g)) b=some (.tup xs):=λb xs e=>by rw[aB (λz=>by subst z;rw[d]at e;cases e)];exact e
 refine⟨I.ok,I.os,I.bare,⟨I.base.keep,I.base.slot,λb h e n t=> ?_,I.base.there,λb xs e=>i b xs (I.base.tups b xs e),λb h u e=> ?_,λb v e=> ?_⟩,I.loc,I.cell,?_,λx c e=> ?_,λp w=> ?_,λb u e=> ?_,I.len⟩
 ·have:=I.base.free b h e n t
  rw[aB (λz=>by subst z;rw[d]at this;cases this)];exact this
 ·have:=I.base.frzs b h u e
  rw[aB (λz=>by subst z;rw[d]at this;cases this)];exact this
 ·obtain⟨m,e⟩:=I.base.tbls b v e
  exact⟨m,by rw[aB (λz=>by subst z;rw[d]at e;cases e)];exact e⟩
 ·rw[aB (λz=>by have:=I.free;rw[z,d]at this;cases this)]
  exact I.free
 ·have:=I.freeC x c e
  rw[aB (λz=>by rw[z,d]at this;cases this)];exact this
 ·obtain⟨A,j,r⟩:=I.pin p w
  exact⟨A,by rw[aB (λz=>by rw[z,d]at j;cases j)];exact j,r⟩
 ·by_cases l:b=a
  ·subst l
   rw[aC]at e;cases e;refine⟨y,?_⟩;exact(I.hok b _ d).stay (λ_ _ _ q=>q) (λc q=>by rw[aB (λz=>by subst z;rw[d]at q;cases q)];exact q) i
  ·rw[aB l]at e
   exact(I.hok b u e).stay (λ_ _ _ q=>q) (λc q=>by rw[aB (λz=>by subst z;rw[d]at q;cases q)];exact q) i
theorem Inv.nfT(I:Inv X b d H s)(f:H a=some (.dT c)):NF X a:=λo u e=>by
 have:=I.base.frzs a o u e;rw[f]at this;cases this
theorem Inv.unknownT(I:Inv X f k H s)(y:NF X a)(d:H a=some (.frz o (.dT g))):Inv X f k (upd H a (.dT g)) s:=by
 have i:∀b xs,H b=some (.tup xs)->upd H a (.dT g) b=some (.tup xs):=λb xs e=>by rw[aB (λz=>by subst z;rw[d]at e;cases e)];exact e
 refine⟨I.ok,I.os,I.bare,⟨I.base.keep,I.base.slot,λb h e n t=> ?_,I.base.there,λb xs e=>i b xs (I.base.tups b xs e),λb h u e=> ?_,λb v e=> ?_⟩,I.loc,I.cell,?_,λx c e=> ?_,λp w=> ?_,λb u e=> ?_,I.len⟩
 ·have:=I.base.free b h e n t
  rw[aB (λz=>by subst z;rw[d]at this;cases this)];exact this
 ·have:=I.base.frzs b h u e
  rw[aB (λz=>by subst z;exact y _ _ e)];exact this
 ·obtain⟨m,e⟩:=I.base.tbls b v e
  exact⟨m,by rw[aB (λz=>by subst z;rw[d]at e;cases e)];exact e⟩
 ·rw[aB (λz=>by have:=I.free;rw[z,d]at this;cases this)]
  exact I.free
 ·have:=I.freeC x c e
  rw[aB (λz=>by rw[z,d]at this;cases this)];exact this
 ·obtain⟨A,j,r⟩:=I.pin p w
  exact⟨A,by rw[aB (λz=>by rw[z,d]at j;cases j)];exact j,r⟩
 ·by_cases l:b=a
  ·subst l
   rw[aC]at e;cases e;exact(I.hok b _ d).2.stay (λ_ _ _ q=>q) (λc q=>by rw[aB (λz=>by subst z;rw[d]at q;cases q)];exact q) i
  ·rw[aB l]at e
   exact(I.hok b u e).stay (λ_ _ _ q=>q) (λc q=>by rw[aB (λz=>by subst z;rw[d]at q;cases q)];exact q) i
section
variable{prog:Program}{w:World}{A:Around}{E:Value->Shared->Prop}{s:Shared}{d:Addr}{od:Obj}{es:Array DictEntry}{ep:Nat}
theorem BL(e:(d==sysModules)=false)(c:s.heap.get? d=some od)(f:od.ExactDict)(a:od.data=.dict es ep)
  (g:Q (.ref s.heap.objs.size) {s with heap:=s.heap.push ⟨.type "dict_keyiterator",none,.fields #[.ref d,.int 0 0,.int es.size 0,.int ep 0],#[]⟩}):wpAny (model prog w) A (pyIter (.ref d)) Q E s:=by
 have b:s.TypeIs (.ref d) "dict":=⟨od,c,f.1⟩
 refine O7 b F.slot_dict_iter
  (NP F.slot_dict_iter b F.entry_dict_iter ?_ (F.args_dict_iter_1 _))
 unfold Builtin.«dict.__iter__» Builtin.Dict.dictSlotNone;refine MQ (MQ (wpAny_notOrdered_dict b (MU ?_)));show wpAny _ _ (Builtin.Dict.showsAll d >>= _) _ _ s;unfold Builtin.Dict.showsAll;rw[MV (by rw[e];simp)];refine MQ (MU (MQ (O8 c a (MQ (wpAny_dictEpoch c a ?_)))))
 refine MQ (NO (MU ⟨_,rfl,"dict_keyiterator",_,⟨_,Mr _ rfl,rfl⟩,F.slot_dict_keyiterator_next.lookup,?_⟩))
 simpa [rawInt]using g
theorem Ay(m:s.heap.IsKeyIter it d i es.size ep)(j:s.heap.get? d=some od)(h:od.data=.dict es ep)(k:es[i]? =some e)
  (o:∀h',h'.IsKeyIter it d (i+1) es.size ep->Heap.SameBut it s.heap h' ->Q (some e.key) {s with heap:=h'}):wpAny (model prog w) A (pyNext (.ref it)) Q E s:=by
 obtain⟨q,c,l,a⟩:=id m;have f:=m.typeIs;unfold pyNext
 refine MQ (PX (Nf (name:=Str.ofString "__next__") f F.slot_dict_keyiterator_next (NP F.slot_dict_keyiterator_next f F.entry_dict_keyiterator_next ?_ (F.args_dict_keyiterator_next_1 _))))
 refine MQ (MU (MQ (MQ ?_)))
 first
  |refine MQ (Ov f (MU ?_))
  |refine MQ (PU f (MU ?_))
 refine MQ (wpAny_fieldsOf c a ?_);have g:Builtin.Dict_items.ownsTuple "dict_keyiterator"=false:=by decide
 simp only[g,PM,PR];show wpAny _ _ (ite ((Value.ref d==Value.none)=true) _ _) _ _ s;rw[MV (show¬((Value.ref d==Value.none)=true)by intro z;cases z)];refine MQ (MU (MQ (O8 j h ?_)));rw[MV (by simp)];refine MQ (MU (MQ (wpAny_dictEpoch j h ?_)));rw[MV (by simp)];refine MU ?_;have n:i<es.size:=by
  rcases O4 i es.size with z|z
  ·exact z
  ·rw[Array.getElem?_eq_none z]at k
   cases k
 have p:es[i]=e:=by rw[O9 n]at k;exact Mv k
 simp only[show¬((i:Int)<0)from by omega,PR,Nt,O9 n];refine MQ ?_
 first
  |refine MQ (Ov f (MU ?_))
  |refine MQ (PU f (MU ?_))
 refine MQ (wpAny_isOneOf_keyiter f ?_);show wpAny _ _ (setField (.ref it) 1 (rawInt ((i:Int)+1)) >>= _) _ _ s;refine MQ (OQ c a (by simp) ?_)
 have b:(s.heap.update it (Obj.mapFields (·.setIfInBounds 1 (rawInt ((i:Int)+1))))).IsKeyIter it d (i+1) es.size ep :=
  ⟨_,NQ _ c (OI (Nd a _)),(Pj ..).trans l,by rw[Nd a];simp[rawInt]⟩
 refine MQ (OA (MQ (wpAny_isOneOf_keyiter (s:={s with heap:=s.heap.update it (Obj.mapFields (·.setIfInBounds 1 (rawInt ((i:Int)+1))))}) b.typeIs ?_)));show wpAny _ _ (pure es[i].key) _ _ _;rw[p];exact MU (MU ⟨_,rfl,MU (o _ b (OF ..))⟩)
theorem EF(n:A.handled=none)(k:s.heap.IsKeyIter it d i es.size ep)(h:s.heap.get? d=some od)(j:od.data=.dict es ep)(l:es.size<=i)
  (p:∀h',Heap.ExtBut it s.heap h' ->Q none {s with heap:=h'}):wpAny (model prog w) A (pyNext (.ref it)) Q E s:=by
 obtain⟨q,e,o,g⟩:=id k;have c:=k.typeIs;unfold pyNext
 refine MQ (PX (Nf (name:=Str.ofString "__next__") c F.slot_dict_keyiterator_next (NP F.slot_dict_keyiterator_next c F.entry_dict_keyiterator_next ?_ (F.args_dict_keyiterator_next_1 _))))
 refine MQ (MU (MQ (MQ ?_)))
 first
  |refine MQ (Ov c (MU ?_))
  |refine MQ (PU c (MU ?_))
 refine MQ (wpAny_fieldsOf e g ?_);have f:Builtin.Dict_items.ownsTuple "dict_keyiterator"=false:=by decide
 simp only[f,PM,PR];show wpAny _ _ (ite ((Value.ref d==Value.none)=true) _ _) _ _ s;rw[MV (show¬((Value.ref d==Value.none)=true)by intro z;cases z)];refine MQ (MU (MQ (O8 h j ?_)));rw[MV (by simp)];refine MQ (MU (MQ (wpAny_dictEpoch h j ?_)));rw[MV (by simp)];refine MU ?_;simp only[show¬((i:Int)<0)from by omega,PR,Nt,Array.getElem?_eq_none l];refine MQ ?_
 first
  |refine MQ (Ov c (MU ?_))
  |refine MQ (PU c (MU ?_))
 show wpAny _ _ (setField (.ref it) 0 .none >>= _) _ _ s;refine MQ (OQ e g (by simp) ?_);show wpAny _ _ (newExc (.type "StopIteration") [] >>= _) _ _ _;refine MQ ?_;simp only[newExc,newTuple];refine MQ (NO ?_ (by size_fits))
 refine MQ (m:=firstArgMember _ _)
  (Oc (a:=Value.none) (by first|rfl|(simp only[firstArgMember];rfl)) ?_)
 refine NO ?_ (by size_fits);simp only[raiseNew];refine MQ (wpAny_handled ?_);rw[show A.in1.handled=none from n];refine MQ (MU (wpAny_throw ?_))
 refine MQ
  (PJ (T:="StopIteration") (b:=true) ⟨_,Mr _ rfl,rfl⟩ isSubtype_stop ?_)
 exact MU (p _ (((OF ..).extBut.push _).push _))
theorem Bi{l:List DictEntry}:∀(_:(l.map (·.hash)).Nodup)(x:_),(l.filter λe=>e.hash==x).length<=1:=by
 induction l with
 |nil=>intro _ x;simp|cons a l c =>
  intro b x;rw[Mg,Mx]at b;rw[N0]
  by_cases h:a.hash=x
  ·have e:l.filter (λe=>e.hash==x)=[]:=by
    rw[List.filter_eq_nil_iff];intro y f z;exact b.1 (MZ.mpr ⟨y,f,by rw[h];exact M0 z⟩)
   rw[e,MX (by rw[h];exact beq_self_eq_true _)];exact Md _
  ·rw[MV (λz=>h (M0 z))]
   exact c b.2 x
theorem sq(p:s.heap.get? d=some od)(j:od.data=.dict es ep)(r:∀e∈es,∃b a,e.key=.ref b/\IsTup s.heap b a)(l:(es.toList.map (·.hash)).Nodup)(h:Q es s) :
  wpAny (model prog w) A (Builtin.Dict.entriesForEmpty n d) Q E s:=by
 unfold Builtin.Dict.entriesForEmpty;refine MQ (O8 p j ?_);refine MQ (PySem.MeetsSeq2.wpAny_forIn_array _ (λi _ s' =>s' =s/\∀e∈i,e∈es) _ ?_ ?_ es PUnit.unit ⟨rfl,λe m=>Array.mem_toList_iff.mp m⟩)
 ·rintro e i b s' ⟨rfl,g⟩
  obtain⟨k,a,o,it⟩:=r e (g e MT);rw[o];unfold Builtin.Dict.quietEq;dsimp only;refine MQ (MQ (Oy it.typeIs F.slot_tuple_eq.lookup (MU ?_)));rw[MX (by decide)];have c:¬(Array.filter (λx=>x.hash==e.hash) es).size>1:=by
   have:=Bi l e.hash;rw[<- Array.toList_filter]at this;have q:(Array.filter (λx=>x.hash==e.hash) es).toList.length=(Array.filter (λx=>x.hash==e.hash) es).size:=M5;omega
  rw[MV c];exact MU ⟨rfl,λt f =>g t (MS _ f)⟩
 ·rintro b s' ⟨rfl,_⟩
  exact MU h
theorem B1(j:(d==sysModules)=false)(n:s.heap.get? d=some od)(r:od.ExactDict)(l:od.data=.dict es ep)(h0:0<es.size)(hsz:es.size<=sizeLine)
  (o:∀e∈es,∃b a,e.key=.ref b/\IsTup s.heap b a) (p:(es.toList.map (·.hash)).Nodup)
  (h:∀h',h'.get? s.heap.objs.size=some ⟨.type "dict",none,.dict es 1,#[]⟩->(∀b q,s.heap.get? b=some q->h'.get? b=some q)->Q (.ref s.heap.objs.size) {s with heap:=h'}) :
  wpAny (model prog w) A (call (.type "dict") [.ref d]) Q E s:=by
 refine callType_codes (Q₁:=λi f=>i=.ref s.heap.objs.size/\f={s with heap:=s.heap.push ⟨.type "dict",none,.dict #[] 0,#[]⟩})
  F.kt_called_dict (F.kt_typeCall_dict_1 _) F.entry_dict_init (kt_code_dict_new _ ⟨rfl,rfl⟩) ?_
 rintro i f ⟨rfl,rfl⟩;have D:d<s.heap.objs.size:=Mu n;have c:(s.heap.push ⟨.type "dict",none,.dict #[] 0,#[]⟩).get? s.heap.objs.size=some ⟨.type "dict",none,.dict #[] 0,#[]⟩:=Mr _ rfl;have g :(s.heap.push ⟨.type "dict",none,.dict #[] 0,#[]⟩).get? d=some od:=MW _ n;have m:Shared.TypeIs {s with heap:=s.heap.push ⟨.type "dict",none,.dict #[] 0,#[]⟩} (.ref s.heap.objs.size) "dict":=⟨_,c,rfl⟩;have k:Shared.TypeIs {s with heap:=s.heap.push ⟨.type "dict",none,.dict #[] 0,#[]⟩} (.ref d) "dict":=⟨_,g,r.1⟩;refine⟨m,F.args_dict_init_2 _ _,?_⟩;unfold Builtin.«dict.__init__»;refine MQ ?_;unfold Builtin.Dict.selfAndRest;refine MQ (wpAny_notOrdered_dict m (MU ?_));show wpAny _ _ (Builtin.Dict.updateFrom "dict.__init__" s.heap.objs.size (.ref d) [] .none) _ _ _;unfold Builtin.Dict.updateFrom;refine MQ (Pf k ?_);rw[MV (by decide)];refine MQ ?_;unfold Builtin.Dict.merge;refine MQ ?_;unfold Builtin.Dict.readDirectly;refine MQ (PJ k isSubtype_dict_dict ?_);simp only[Bool.not_true,PM,PR];refine MQ (Oy k F.slot_dict_iter.lookup (MU ?_));simp only[beq_self_eq_true,Pe];refine MQ (MU ?_);unfold Builtin.Dict.mergeDict;rw[MV (λz=>absurd (M0 z) (N1 D))];unfold Builtin.Dict.showsAll;rw[MV (by rw[j];simp)];refine MQ (MU (MQ (O8 g l ?_)));have y:(decide (es.size<=8)&&es.all λe=>(keyPart e.key).isSome)=false:=by
  rw[Bool.and_eq_false_iff];refine .inr ?_;rw[Array.all_eq_false];obtain⟨b,a,e,_⟩:=o es[0] (Array.getElem_mem h0);exact⟨0,h0,by rw[e];simp[keyPart]⟩
 dsimp only;rw[y,MX (by decide)];refine MQ (O8 c rfl ?_);rw[MX (by decide)];refine MQ (sq g l (λe u=> ?_) p ?_)
 ·obtain⟨b,a,x,C,t,B⟩:=o e u
  exact⟨b,a,x,C,MW _ t,B⟩
 rw[MX (by simp only[Nj,Array.isEmpty_eq_false_iff];intro z;rw[z]at h0;exact absurd h0 (by decide))];refine MQ (wpAny_updateDictKeysTo c rfl (MU ?_) (by omega));show wpAny _ _ (Builtin.Dict.addKeywords s.heap.objs.size [] >>= _) _ _ _;refine MQ (MU (MU ⟨rfl,h _ ?_ λb q e=> ?_⟩))
 ·exact NQ _ c rfl
 ·have v:b≠s.heap.objs.size:=Mz (Mu e)
  exact((OF _ s.heap.objs.size _).2 b v).trans (MW _ e)
end
def Apart(P:Program)(w:World)(a:List (List ak)):Prop:=(a.map (tupleKeyHash (aY P w))).Nodup
theorem Paired.mem2{d e:Type}{F:d->e->Prop}:∀{l₁:List d}{l₂:List e},Paired F l₁ l₂->∀b∈l₂,∃a∈l₁,F a b:=by
 intro l₁ l₂ h b c
 induction h with
 |nil=>cases c|cons r t g =>
  rcases Mh.mp c with rfl|c
  ·exact⟨_,MT,r⟩
  ·obtain⟨a,f,h⟩:=g c
   exact⟨a,MS _ f,h⟩
theorem Paired.keys:∀{a:List (List ak×V)}{xs:List (List ak×Addr×Value)},KT H a xs->xs.map (·.1)=a.map (·.1):=by
 intro a xs h
 induction h with
 |nil=>rfl|cons r t b=>rw[Mg,Mg,b,r.1]
theorem Paired.at1{c d:Type}{F:c->d->Prop}:∀{l₁:List c}{l₂:List d}{i:Nat}{a:c},Paired F l₁ l₂->l₁[i]? =some a->∃b,l₂[i]? =some b/\F a b
 |_,_,_,_,.nil,h=>by simp at h|_,_,0,_,.cons r t,h=>by
  simp at h;subst h;exact⟨_,by simp,r⟩
 |_,_,i+1,_,.cons r t,h=>by simpa using Paired.at1 t (by simpa using h)
theorem tG:bV X (.type "dict") (λxs H Q=>∃a c,xs=[V.ref a]/\H a=some (.dT c)/\c≠[]/\Apart X.prog X.w (c.map (·.1))/\∀p,H p=none->Q (.ref p) (upd H p (.dT c))):=by
 intro v s P H xs R Q I r h;obtain⟨a,c,rfl,F,h0,l,q⟩:=h;obtain⟨u,rfl,L⟩:=vals1 r;cases L;obtain⟨z,D,i,d,o,es,ep,K,M,B,k,J⟩:=(show ao X.prog X.w H s.heap a (.dT c)from I.hok a _ F);have A:c.length=i.length:=Pt d;have t:es.size=i.length:=by
  have:=ND List.length k;rw[M5,MR]at this;exact this
 have m:∀e∈es,∃b g,e.key=.ref b/\IsTup s.heap b g:=λe j=>by
  have j:=Array.mem_toList_iff.mpr j;rw[k]at j;obtain⟨y,G,rfl⟩:=MZ.mp j;obtain⟨O,_,f⟩:=Paired.mem2 d y G;obtain⟨_,g,_,it⟩:=(show ao X.prog X.w H s.heap y.2.1 (.tup _)from I.hok _ _ f.2.1);exact⟨y.2.1,_,rfl,it.tup⟩
 have N:(es.toList.map (·.hash)).Nodup:=by
  rw[k,M4];have e:(i.map ((λx:DictEntry=>x.hash)∘entryOfKey (tupleKind (aY X.prog X.w))))=(i.map (·.1)).map (tupleKeyHash (aY X.prog X.w)):=by rw[M4];rfl
  rw[e,Paired.keys d];exact l
 have pos:0<es.size:=by
  rw[t,<-A];exact List.length_pos_iff.mpr h0
 refine B1 D K M B pos (by rw[t,<-A];exact z) m N λh' E C=> ?_;have n:s.heap.objs.size≠sysModules:=N1 I.big;refine⟨.ref s.heap.objs.size,_,I.laid (a:=s.heap.objs.size) (o:=.dT c) (t' :=s.toks) C (Md _) ⟨z,OP.mpr n,i,Paired.imp' (λp y f=>⟨f.1,?_,f.2.2⟩) d,_,es,1,E,⟨rfl,rfl,rfl⟩,rfl,k,J⟩,rfl,q _ (I.hok.fresh (Md _))⟩;rw[aB (Mz (I.hok.lt f.2.1))];exact f.2.1
noncomputable def MJ(a:Addr)(o:Obj)(c:List (List ak×V)):It :=
 ⟨λi H=>H a=some (.frz o (.dT c))/\i<c.length,λi H v d =>d =H/\∃b,v=.ref b/\∀k x,c[i]? =some (k,x)->H b=some (.tup (k.map kV)),λi H=>H a=some (.frz o (.dT c))/\i=c.length⟩
theorem xq{P:Program}{w:World}{K:W.Frag}{tg:Expr}{a it:Addr}{o:Obj}{c:List (List ak×V)}{es:Array DictEntry}{ep:Nat}(A:o.data=.dict es ep)(hz:es.size=c.length) :
  nJ P w K tg (MJ a o c) [it] it (λi h=>h.IsKeyIter it a i es.size ep) where
 mem:=by simp
 obj:=λi h g b m=>by
  have e:b=it:=by simpa using m
  subst e;obtain⟨S,e,_,d⟩:=g;exact⟨S,e,λv z=>by rw[d]at z;cases z⟩
 keep:=λi h h' g k=>g.at λo e=>k it (by simp) o e
 item:=by
  intro X G M F T i j s Y H E I t g Q;subst G M F;obtain⟨l,u⟩:=Q;obtain⟨so,ok⟩:=(show ao X.prog X.w H s.heap a (.frz o (.dT c))from I.hok a _ l);obtain⟨z,_,ys,N,o2,r,D,h1,h2,R,h4,h5⟩:=ok;have eo:o2=o:=Mv (h1.symm.trans so);subst eo;have ed:r=es/\D=ep:=by rw[A]at R;cases R;exact⟨rfl,rfl⟩
  obtain⟨rfl,rfl⟩:=ed;obtain⟨⟨k,x⟩,U⟩:∃q,c[i]? =some q:=⟨c[i],by simp[u]⟩;obtain⟨y,hy,f⟩:=Paired.at1 N U;have he:r[i]? =some (entryOfKey (tupleKind (aY X.prog X.w)) y):=by rw[<- Nu,h4,Mi,hy];rfl
  obtain⟨J,O,f2,L,C,B⟩:=t it (by simp);refine Ay g so A he λh' n Z=> ?_;have I1:Inv X j Y H {s with heap:=h'}:=I.turned (t' :=s.toks) (λb o m e=>(Z.2 b m).trans e) J O L C B;obtain⟨S,e',c',d'⟩:=id n;refine⟨_,rfl,nz (s:={s with heap:=h'}) e' c' d' (by decide) ⟨.ref y.2.1,H,I1,rfl,⟨rfl,y.2.1,rfl,λk' x' p => ?_⟩,n,λb m=>(t b m).1⟩⟩;rw[U]at p;cases p;exact f.2.1
 done:=by
  intro X G M F T i j s Y H E I t g Q;subst G M F;obtain⟨l,rfl⟩:=Q;obtain⟨so,_⟩:=(show ao X.prog X.w H s.heap a (.frz o (.dT c))from I.hok a _ l);obtain⟨J,O,f2,L,C,B⟩:=t it (by simp);exact EF (I.ok.hd T) g so A (by rw[hz];exact Md _) λh' eb=>⟨rfl,I.turned (t' :=s.toks) (λb o m e=>eb b o m e) J O L C B⟩
 self:=λ_ _ _ _ _ g h=>wpAny_pyIter_keyiter g h
def K4(X:Cx)(e:TE):TI:=λd H R=>e d H λx c=>∃a b,x=.ref a/\c a=some (.dT b)/\∀o,NF X a->R (MJ a o b) (upd c a (.frz o (.dT b)))
theorem wK(A:PE X l p):PI X tg l (K4 X p):=by
 intro d s B H R I h;refine al (A d s B H _ I h) λv c m=> ?_;obtain⟨x,D,g,E,G⟩:=m;obtain⟨a,f,rfl,i,q⟩:=G;cases E;obtain⟨z,r,M,k,o,es,ep,j,J,n,F,L⟩:=(show ao X.prog X.w D c.heap a (.dT f)from g.hok a _ i);have y:es.size=f.length:=by
  have:=ND List.length F;rw[M5,MR]at this;rw[this];exact(Pt k).symm
 refine BL r j J n ?_;have K:a<c.heap.objs.size:=Mu j;have u:=g.kept (t' :=c.toks) (h' :=c.heap.push ⟨.type "dict_keyiterator",none,.fields #[.ref a,.int 0 0,.int es.size 0,.int ep 0],#[]⟩) λb o e=>MW _ e;have t:=u.knownT i (MW _ j);refine⟨c.heap.objs.size,[c.heap.objs.size],_,_,_,rfl,t,xq n y,⟨_,Mr _ rfl,rfl,rfl⟩,λb C=> ?_,q o (g.nfT i)⟩;have e:b=c.heap.objs.size:=by simpa using C
 subst e;refine(g.fpOk (Md _) ?_);rw[aB (N1 K)];exact g.hok.fresh (Md _)
theorem yJ(W:X.A.units+1<cLine)(C:PE X k r)(J:PE X v w):PE X (.Dict [some k] [v] pos) (λe H Q=>∀p,H p=none->r e (upd H p (.dT [])) λy R=>w e R λx f =>
  ∃b g,y=.ref b/\f b=some (.tup (g.map kV))/\f p=some (.dT [])/\Q (.ref p) (upd f p (.dT [(g,x)]))):=by
 intro d s e H Q I q;have E:=I.hok.fresh (Md s.heap.objs.size);have S:=I.laid (a:=s.heap.objs.size) (o:=.dT []) (h' :=s.heap.push {cls:=.type "dict",data:=.dict #[]}) (t' :=s.toks) (λ_ _ q=>MW _ q) (Md _) (Bv s.heap I.big);refine wpAny_Dict_any rfl rfl (by simp) (by show 1<=15;decide) (pairTrees_cons_walk (al (C d _ e _ _ S (q _ E)) λZ Y ⟨y,f,G,F,K⟩=>al (J d _ e _ _ G K) λvx s3 ⟨x,P,i,M,j⟩=>pairTrees_nil_walk ?_));obtain⟨b,g,rfl,t,l,j⟩:=j;cases F;obtain⟨z,D,xs,m,N⟩:=FX i.hok l;cases m;unfold storeAll;rw[List.forIn_cons];refine MQ (MQ (wpAny_dictSet_heap (hsz:=NH _) (show X.A.units<cLine by omega) (jP i.hok t) N λh' h L=>MU ?_));dsimp only;rw[List.forIn_nil];refine MU ⟨.ref s.heap.objs.size,_,?_,rfl,j⟩;obtain⟨q,es,ep,n,U,B,T,_,O⟩:=h;have nil:KT P ([]:List (List ak×V)) []:=.nil;refine kR i (by rw[l];exact True.intro) L ⟨q,n⟩ ⟨by show 1<=sizeLine;decide,D,_,(nil.put g t M).keeps λc ys u=> ?_,q,es,ep,n,U,B,T,O⟩;rw[aB (A0 u l (λz=>nomatch z))];exact u
section
variable{prog:Program}{w:World}{A:Around}{E:Value->Shared->Prop}{s:Shared}
theorem tD(c:IsTup s.heap l vs.toArray)(hsz:vs.length<=sizeLine)
  (h:Q vs {s with heap:=(s.heap.push (seqObj "list" #[] 0)).update s.heap.objs.size (Obj.mapSeq (·++vs.toArray))}):wpAny (model prog w) A (collect (.ref l)) Q E s:=by
 obtain⟨o,f,e,n,d⟩:=id c;unfold collect;refine MQ (wpAny_runValue (OT entry_proto_collect' ?_));show wpAny _ _ (do again (.builtin "list.__iadd__" ⟨[<- newList [],.ref l],[]⟩)) _ _ s
 refine MQ (wpAny_newList (MU ⟨Code.quiet_builtin _ (by decide +kernel),OT entry_list_iadd' ?_⟩))
 show wpAny _ _ (Builtin.List.listExtendWith (.ref s.heap.objs.size) (.ref l) (.ref s.heap.objs.size))
  _ _ {s with heap:=s.heap.push (seqObj "list" #[] 0)}
 unfold Builtin.List.listExtendWith;have b:(s.heap.push (seqObj "list" #[] 0)).get? l=some o:=MW _ f;have a:(s.heap.push (seqObj "list" #[] 0)).get? s.heap.objs.size=some (seqObj "list" #[] 0):=Mr _ rfl;refine MQ (Pf (T:="tuple") ⟨o,b,e⟩ ?_);rw[MX (by rw[show(Value.type "tuple"==Value.type "tuple")=true from rfl];simp)];refine MQ (listItems_at b d (MQ (listItems_at (xs:= #[]) (n:=0) a rfl ?_)));rw[MV (by simp)]
 refine MQ (listUpdate_at (xs:= #[]) (n:=0) a rfl (MU ?_) (NH _) (by show(#[]++vs.toArray).size<=sizeLine+1;simp only[Array.size_append,Mn,ON];omega))
 show wpAny (model prog w) A (load s.heap.objs.size >>= _) Q E _;refine MQ (wpAny_load (get?_update_seq a _) ?_);show wpAny _ _ (pure ((#[]:Array Value)++vs.toArray).toList) Q E _;rw[show((#[]:Array Value)++vs.toArray).toList=vs by simp];exact MU h
theorem qu(f:IsTup s.heap l vs.toArray)(j:IntsAre vs d)(c:vs.length<64)
  (h:∀(out:Array Value)(a:List Int),IntsAre out.toList a->a.Perm d->a.Pairwise (·<=·)->Q (.ref (s.heap.objs.size+1)) {s with heap:=sortedAll s.heap vs out}):wpAny (model prog w) A (call (.builtin "sorted") [.ref l]) Q E s:=by
 refine Calls.call_function_entry kind_sorted plain_sorted entry_sorted (args_sorted1 _) ?_;unfold Builtin.«sorted»;have k:vs.length<=sizeLine:=by have:=Np;omega
 refine MQ (m:=checkCount "sorted" 1 1 _) (MU (MQ (tD f k (MQ (wpAny_newList ?_)))));have e:((s.heap.push (seqObj "list" #[] 0)).update s.heap.objs.size (Obj.mapSeq (·++vs.toArray))).objs.size=s.heap.objs.size+1:=by rw[Heap.size_update,size_push']
 have b:(((s.heap.push (seqObj "list" #[] 0)).update s.heap.objs.size (Obj.mapSeq (·++vs.toArray))).push (seqObj "list" vs.toArray 0)).get? (s.heap.objs.size+1)=some (seqObj "list" vs.toArray 0):=by
  rw[<- e];exact Mr _ rfl
 show wpAny _ _ _ _ _ {s with heap:=((s.heap.push (seqObj "list" #[] 0)).update s.heap.objs.size (Obj.mapSeq (·++vs.toArray))).push (seqObj "list" vs.toArray 0)};rw[e]
 refine MQ (OA (NP slot_list_sort ⟨_,b,rfl⟩ entry_list_sort (list_sort_tree b j c λout a g i n=>⟨_,rfl,MU ⟨_,rfl,h out a g i n⟩⟩) (args_list_sort _)))
end
theorem kG:bV X (.builtin "sorted") (λxs H Q=>∃(p:Addr)(d:List Int),xs=[.ref p]/\bg X.K H p (d.map V.int)/\d.length<64/\∀a,H a=none->Q (.ref a) (upd H a (.lst ((sortI d).map V.int)))):=by intro j s A H xs C Q I r h;obtain⟨p,d,rfl,t,l,q⟩:=h;obtain⟨u,rfl,v⟩:=vals1 r;cases v;obtain⟨g,i,x,B⟩:=I.tuple t;have f:=i.length;rw[MR]at f;refine qu x (intsAre_of i) (by omega) λout y k m w=> ?_;have e:=gp m w;subst e;obtain⟨c,n⟩:=sortedAll_at s.heap g out;refine⟨.ref (s.heap.objs.size+1),_,I.laid (t' :=s.toks) (o:=.lst ((sortI d).map V.int)) (λb o z=>sortedAll_old z) (Pm _) ?_,rfl,q _ (I.hok.fresh (Pm _))⟩;refine⟨?_,out.toList,c,cX k,by simpa [seqObj]using n⟩;rw[MR,(sortI_perm d).length_eq];have:=Np;omega
noncomputable def Jr(X:Cx)(D:ci):ci where
 nx:=λc H=>∃a o b,H a=some (.frz o (.dT b))/\NF X a/\D.nx c (upd H a (.dT b))
 bk:=λc H=>∃a o b,H a=some (.frz o (.dT b))/\NF X a/\D.bk c (upd H a (.dT b))
 ct:=λc H=>∃a o b,H a=some (.frz o (.dT b))/\NF X a/\D.ct c (upd H a (.dT b))
 rt:=λv H=>∃a o b,H a=some (.frz o (.dT b))/\NF X a/\D.rt v (upd H a (.dT b))
theorem rM(h:PS X l t):PS X l (λD j H=>t (Jr X D) j H):=by
 intro i s j H D I n;refine al (h i s j H _ I n) λf p q=> ?_;cases f with
 |next =>
  obtain⟨b,k,g,a,o,d,c,e,q⟩:=q;exact⟨b,_,g.unknownT e c,q⟩
 |brk =>
  obtain⟨b,k,g,a,o,d,c,e,q⟩:=q;exact⟨b,_,g.unknownT e c,q⟩
 |cont =>
  obtain⟨b,k,g,a,o,d,c,e,q⟩:=q;exact⟨b,_,g.unknownT e c,q⟩
 |ret v =>
  obtain⟨b,x,k,g,m,a,o,d,c,e,q⟩:=q;exact⟨b,x,_,g.unknownT e c,m,q⟩
theorem se{a:Addr}{o:Obj}{c:List (List ak×V)}{g:TG}{r:TS}{D:ci}{d:St}{H:Hp}(f:Nat->St->Hp->Prop)(h0:f 0 d H)(w:∀i d H,i<=c.length->f i d H->H a=some (.frz o (.dT c)))
  (A:∀i k x b d H,c[i]? =some (k,x)->H b=some (.tup (k.map kV))->f i d H->g (.ref b) d H λj q=>r {D with nx:=f (i+1),ct:=f (i+1),bk:=D.nx} j q) (v:∀d H,f c.length d H->D.nx d H) :
  ∃W:Nat->Nat->St->Hp->Prop,(∃m,W 0 m d H)/\∀i m d H,W i m d H -> ((MJ a o c).stop i H/\D.nx d H)\/((MJ a o c).go i H/\∃N:St->Hp->Prop,(∀l n,N l n ->∃u,u <m/\W (i+1) u l n)/\∀x n,(MJ a o c).yld i H x n ->g x d n λj q=>r {D with nx:=N,ct:=N,bk:=D.nx} j q):=by
 refine⟨λi m d H=>m=c.length-i/\i<=c.length/\f i d H,⟨c.length,by simp,NH _,h0⟩,?_⟩;rintro i m d H ⟨rfl,B,p⟩;have s:=w i d H B p
 by_cases h:i<c.length
 ·have t:c[i]? =some c[i]:=by simp[h]
  refine .inr ⟨⟨s,h⟩,f (i+1),λl n z =>⟨c.length-(i+1),by omega,rfl,h,z⟩,λx n y=> ?_⟩;obtain⟨rfl,b,rfl,y⟩:=y;exact A i _ _ b d _ t (y c[i].1 c[i].2 t) p
 ·have e:i=c.length:=by omega
  subst e;exact .inl ⟨⟨s,rfl⟩,v d H p⟩
end
end L2
namespace SQ
open PySem
noncomputable def lst(m:Nat):List Nat:=(List.range 8).filter λv=>m/2^v%2==1
noncomputable def put(m v:Nat):Nat:=if m/2^v%2=1 then m else m+2^v
noncomputable def gK(led:Bool)(m:Nat):SetTable:={mask:=if(lst m).length<5 then 7 else 31,place:=(lst m).toArray,dummies:= #[],finger:=0,led:=led,moves:=if(lst m).length<5 then 0 else 1,plain:=true}
noncomputable def kH(m v:Nat):Nat:=((lst m).filter (·<v)).length
noncomputable def cu(led:Bool)(m v:Nat):SetTable:={gK led m with place:=(lst (put m v)).toArray}
noncomputable def rq(a b:SetTable):Bool:=a.mask==b.mask&&a.place.toList==b.place.toList&&a.dummies.toList==b.dummies.toList&&a.finger==b.finger&&a.led==b.led&&a.moves==b.moves&&a.plain==b.plain
set_option tactic.hygienic false
theorem iA(h:rq a b=true):a=b:=by obtain⟨k,⟨l⟩,⟨r⟩,u,v,s,m⟩:=a;obtain⟨b1,⟨o⟩,⟨q⟩,p,t,n,w⟩:=b;simp only[rq,MY,PH]at h;obtain⟨⟨⟨⟨⟨⟨g,j⟩,d⟩,i⟩,f⟩,c⟩,e⟩:=h;subst g j d i f c e;rfl
noncomputable def pJ(led:Bool)(m v:Nat):Bool :=
 if m/2^v%2==1 then true else
 (match(gK led m).freeSlot (v:Int)with
  |some (j,d)=>j==v&& !d|none=>false) &&
 rq ((gK led m).put v).1 (cu led m v)&&((gK led m).put v).2==kH m v&&lst (put m v)==(lst m).take (kH m v)++v::(lst m).drop (kH m v)&&(cu led m v).fits (lst (put m v)).length &&
 (if(cu led m v).tooFull then(match(cu led m v).relaid ((lst (put m v)).map Int.ofNat).toArray (SetTable.grown (lst (put m v)).length)with
  |some (t,o)=>rq t (gK led (put m v))&&o.toList==List.range (lst (put m v)).length&&(gK led (put m v)).fits (lst (put m v)).length|none=>false)else rq (cu led m v) (gK led (put m v)))
theorem BB:(List.range 256).all (λm=>(List.range 8).all λv=>pJ true m v&&pJ false m v&&decide (put m v<256))=true:=by decide +kernel
noncomputable def Fi(m:Nat):Bool:=(List.range (lst m).length).all λi=>SetTable.below (lst m).toArray (if i=0 then 0 else(lst m).getD (i-1) 0+1)==i
theorem zS:(List.range 256).all (λm=>Fi m&&SetTable.below (lst m).toArray (if(lst m).length=0 then 0 else(lst m).getD ((lst m).length-1) 0+1)==(lst m).length)=true:=by decide +kernel
theorem Bg:(List.range 256).all (λm=>(gK true m).fits (lst m).length&&(gK false m).fits (lst m).length)=true:=by decide +kernel
theorem fits(a:m<256)(led:Bool):(gK led m).fits (lst m).length=true:=by have h:=Mm.mp Bg m (NC.mpr a);rw[MY]at h;cases led;exact h.2;exact h.1
theorem Dq(a:m<256)(b:v<8)(led:Bool):pJ led m v=true/\put m v<256:=by have h:=Mm.mp (Mm.mp BB m (NC.mpr a)) v (NC.mpr b);rw[MY,MY,NL]at h;refine⟨?_,h.2⟩;cases led;exact h.1.2;exact h.1.1
theorem pH:v∈lst m↔v<8/\m/2^v%2=1:=by unfold lst;rw[M6,NC,PH]
theorem AN(h:v∈lst m):put m v=m:=by unfold put;rw[MX (pH.mp h).2]
theorem la(n:m<256)(i:v<8)(q:v∉lst m)(led:Bool) :
  (gK led m).freeSlot (v:Int)=some (v,false)/\(gK led m).put v=(cu led m v,kH m v)/\lst (put m v)=(lst m).take (kH m v)++v::(lst m).drop (kH m v)/\(cu led m v).fits (lst (put m v)).length=true /\ (if(cu led m v).tooFull then(cu led m v).relaid ((lst (put m v)).map Int.ofNat).toArray (SetTable.grown (lst (put m v)).length)=some (gK led (put m v),(List.range (lst (put m v)).length).toArray)/\(gK led (put m v)).fits (lst (put m v)).length=true else cu led m v=gK led (put m v)):=by
 have h:=(Dq n i led).1;unfold pJ at h;have w:(m/2^v%2==1)=false:=by
  cases e:m/2^v%2==1
  ·rfl
  ·exact absurd (pH.mpr ⟨i,by simpa using e⟩) q
 rw[w]at h;simp only[PM,PR,MY,PH]at h;obtain⟨⟨⟨⟨⟨g,u⟩,l⟩,s⟩,r⟩,f⟩:=h;refine⟨?_,Prod.ext (iA u) l,s,r,?_⟩
 ·cases e:(gK led m).freeSlot (v:Int)with
  |none=>rw[e]at g;cases g|some p =>
   obtain⟨j,d⟩:=p;rw[e]at g;simp only[MY,PH,Nj]at g;rw[g.1,g.2]
 ·by_cases k:(cu led m v).tooFull=true
  ·rw[MX k]at f ⊢
   cases e:(cu led m v).relaid ((lst (put m v)).map Int.ofNat).toArray (SetTable.grown (lst (put m v)).length)with
   |none=>rw[e]at f;cases f|some p =>
    obtain⟨t,o⟩:=p;rw[e]at f;simp only[MY,PH]at f;obtain⟨⟨a,b⟩,c⟩:=f;refine⟨?_,c⟩;obtain⟨o⟩:=o;rw[iA a];have b:o=_:=b;rw[b]
  ·rw[MV k]at f ⊢
   exact iA f
noncomputable def kD:Value->Option Int
 | .int i _=>some i|_=>none
theorem nh(h:kD x=some i):∃t,x=.int i t:=by cases x<;>simp[kD]at h;subst h;exact⟨_,rfl⟩
def fZ(es:List (Int×Value))(m:Nat):Prop:=es.map (λe=>(e.1,kD e.2))=(lst m).map λv:Nat=>((v:Int),some (v:Int))
def SX(w:World)(a:Addr)(m:Nat)(h:Heap):Prop:=∃o es ep,h.get? a=some o/\o.ExactSet/\o.data=.set es ep (gK (!w.params.followText "set-order") m)/\fZ es.toList m
theorem li:∀v,v<8->hashInt (v:Nat)=(v:Nat):=by decide +kernel
theorem fZ.len(h:fZ es m):es.length=(lst m).length:=by
 have:=ND List.length h
 simpa using this
theorem HI(h:v∈lst m):v<8:=(pH.mp h).1
theorem fZ.at(h:fZ es m)(a:e∈es):∃v t,v∈lst m/\e=((v:Int),.int (v:Int) t):=by have:(e.1,kD e.2)∈es.map (λe=>(e.1,kD e.2)):=MZ.mpr ⟨e,a,rfl⟩;rw[h]at this;obtain⟨v,b,q⟩:=MZ.mp this;obtain⟨c,d⟩:=e;simp only[Prod.mk.injEq]at q;obtain⟨t,z⟩:=nh q.2.symm;exact⟨v,t,b,by rw[z,<-q.1]⟩
theorem fZ.has(h:fZ es m)(b:v∈lst m):∃t,((v:Int),Value.int (v:Int) t)∈es:=by
 have:((v:Int),some (v:Int))∈(lst m).map λv:Nat=>((v:Int),some (v:Int)):=MZ.mpr ⟨v,b,rfl⟩;rw[<- h]at this;obtain⟨e,a,q⟩:=MZ.mp this;obtain⟨u,t,-,rfl⟩:=h.at a;simp only[kD,Prod.mk.injEq]at q;have:u=v:=by omega
 subst this;exact⟨t,a⟩
section
variable{prog:Program}{w:World}{A:Around}{E:Value->Shared->Prop}{s:Shared}
theorem fZ.elems(h:fZ es m):ElemsOf (intKind prog w) es:=by intro e a;obtain⟨v,t,b,rfl⟩:=h.at a;exact⟨⟨v,by simp[intKind,Value.isInt],(li v (HI b)).symm⟩,rfl⟩
theorem fZ.insert(h:fZ es.toList m)(b:m<256)(d:v<8)(c:v∉lst m):fZ (SetTable.insertAt es (kH m v) ((v:Int),.int (v:Int) t)).toList (put m v):=by obtain⟨-,-,a,-,-⟩:=la b d c true;unfold fZ at h ⊢;rw[a,SetTable.toList_insertAt];rw[Ms,Mg,List.map_take,P9,h,Ms,Mg,List.map_take,P9];rfl
theorem Lk(H:m<256)(K:v<8)(hS:SX w a m s.heap)(h:∀h' b,Heap.SameBut a s.heap h' ->SX w a (put m v) h' ->Q b {s with heap:=h'}) :
  wpAny (model prog w) A (setAddHashed a (.int (v:Int) c) (hashInt (v:Nat))) Q E s:=by
 obtain⟨o,es,ep,q,i,g,n⟩:=hS
 generalize d:(!w.params.followText "set-order")=led at g
 have hsz:es.size=(lst m).length:=n.len;have O:(gK led m).fits es.size=true:=by rw[hsz];exact fits H led
 have y:ElemsOf (intKind prog w) es.toList:=n.elems;have h8:(lst m).length<=8:=by
  unfold lst;exact M8 (NG _ _) (by simp)
 have Z:es.size<scanBound:=by rw[hsz];unfold scanBound;omega
 have B:(intKind prog w).is (v:Int) (.int (v:Int) c)=true:=by simp[intKind,Value.isInt]
 unfold setAddHashed setAddHashedIn;refine OA (MQ (Pg q g O ?_));dsimp only;rw[byScan_of (knd:=intKind prog w) rfl Z y,MX rfl];unfold setAddByScan;refine MQ (MQ (Pq (MQ (wpAny_setScan_of (knd:=intKind prog w) B q g O y ?_))));cases P:List.findIdx? (λe=>(intKind prog w).is (v:Int) e.2) es.toList with
 |some j =>
  refine MU (MU ?_);have k:v∈lst m:=by
   obtain⟨W,F,-⟩:=List.findIdx?_eq_some_iff_getElem.mp P;obtain⟨u,t,T,z⟩:=n.at (Oq W);rw[z]at F;have F:Value.isInt (v:Int) (.int (u:Int) t)=true:=F;obtain⟨t',e⟩:=Value.isInt_shape F;have N:u=v:=by
    injection e with e1 N
    omega
   rw[<- N];exact T
  have:=h s.heap false (Heap.SameBut.refl a s.heap) (by rw[AN k];exact⟨o,es,ep,q,i,by rw[d];exact g,n⟩);exact this
 |none =>
  have M:v∉lst m:=λk=>by
   obtain⟨t,z⟩:=n.has k;have:=List.findIdx?_eq_none_iff.mp P _ z;simp[intKind,Value.isInt]at this
  obtain⟨S,U,k3,k4,r⟩:=la H K M led;have p:=n.insert (t:=c) H K M;have D:=p.len;have Y:(lst (put m v)).length<=8:=by
   unfold lst;exact M8 (NG _ _) (by simp)
  have X:layNew (gK led m) es (hashInt (v:Nat)) (.int (v:Int) c)=(SetTable.insertAt es (kH m v) ((v:Int),.int (v:Int) c),cu led m v,false,false):=by
   unfold layNew;rw[li v K,S];dsimp only;rw[U];dsimp only;have z:(cu led m v).fits (SetTable.insertAt es (kH m v) ((v:Int),.int (v:Int) c)).size=true:=by rw[<- M5,D];exact k4
   unfold SetTable.orStandIn;rw[z];rfl
  dsimp only;rw[X];dsimp only;refine MQ ((MU ?_:wpAny (model prog w) A (pure ()) _ E _));have f:(cu led m v).plain=true:=rfl;rw[f,MX rfl,hashByValue_scannable 8 rfl];refine MQ (MU ?_);have J:plainKind (.int (v:Int) c)=true:=rfl;simp only[J,Pe];have x:(SetTable.insertAt es (kH m v) ((v:Int),.int (v:Int) c)).size<=sizeLine:=by
   rw[<- M5,D,Np];omega
  refine MQ (wpAny_storeSet_of q g ?_ x);have l:(s.heap.update a (Obj.putSet (SetTable.insertAt es (kH m v) ((v:Int),.int (v:Int) c)) (cu led m v))).get? a=some {o with data:=.set (SetTable.insertAt es (kH m v) ((v:Int),.int (v:Int) c)) (ep+1) (cu led m v)}:=by
   have z:=NQ (Obj.putSet (SetTable.insertAt es (kH m v) ((v:Int),.int (v:Int) c)) (cu led m v)) q (by rw[putSet_of _ _ g];rfl);rw[putSet_of _ _ g]at z;exact z
  have C:=OF s.heap a (Obj.putSet (SetTable.insertAt es (kH m v) ((v:Int),.int (v:Int) c)) (cu led m v));have nd:(!false&&(cu led m v).tooFull)=(cu led m v).tooFull:=rfl;rw[nd]
  by_cases R:(cu led m v).tooFull=true
  ·rw[MX R]at r ⊢
   have V:relayAll (cu led m v) (SetTable.insertAt es (kH m v) ((v:Int),.int (v:Int) c)) (SetTable.grown (SetTable.insertAt es (kH m v) ((v:Int),.int (v:Int) c)).size)=(SetTable.insertAt es (kH m v) ((v:Int),.int (v:Int) c),gK led (put m v),false):=by
    generalize hg:SetTable.insertAt es (kH m v) ((v:Int),.int (v:Int) c)=es1 at p D ⊢
    have G:es1.map (·.1)=((lst (put m v)).map Int.ofNat).toArray:=by
     apply Array.toList_inj.mp
     rw[Array.toList_map];have:=ND (List.map Prod.fst) p;rw[M4,M4]at this;exact this
    have L:es1.size=(lst (put m v)).length:=by rw[<- M5,D]
    unfold relayAll;rw[G,L,r.1];dsimp only;have I:(List.range (lst (put m v)).length).toArray.filterMap (es1[·]?)=es1:=by
     apply Array.toList_inj.mp
     rw[Array.toList_filterMap,<-L];exact filterMap_getElem?_range es1
    rw[I,L,r.2];have:coversAll (List.range (lst (put m v)).length).toArray (lst (put m v)).length=true:=by
     unfold coversAll;exact List.isPerm_iff.mpr (List.Perm.refl _)
    rw[this];rfl
   rw[V];dsimp only;refine MQ ((MU ?_:wpAny (model prog w) A (pure ()) _ E _));refine MQ (wpAny_storeSet_of l rfl ?_ x);refine MU (MU ?_);have z:=NQ (Obj.putSet (SetTable.insertAt es (kH m v) ((v:Int),.int (v:Int) c)) (gK led (put m v))) l (by rw[putSet_of _ _ rfl];rfl);rw[putSet_of _ _ rfl]at z;exact h _ _ (C.trans (OF _ a _)) ⟨_,_,_,z,i,by rw[d],p⟩
  ·rw[MV R]at r ⊢
   refine MU (MU ?_);exact h _ _ C ⟨_,_,_,l,i,by rw[d,<-r],p⟩
end
noncomputable def oy(f:Nat->Nat):Nat->Nat->Nat->Nat
 |0,_,m=>m|k+1,i,m=>oy f k (i+1) (put m (f i))
theorem SX.at(x:SX w a m h)(k:∀o,h.get? a=some o->h'.get? a=some o):SX w a m h' :=
 let⟨o,es,ep,ho,r⟩:=x
 ⟨o,es,ep,k o ho,r⟩
section
variable{prog:Program}{w:World}{A:Around}{E:Value->Shared->Prop}
theorem HK(W:WalksS prog w A.in1 I K g G n P L)(N:D∉K)(f:Nat->Nat)(V:∀i v,P i v->f i<8/\∃t,v=.int (f i:Nat) t) :
  ∀(k i:Nat)(s:Shared)(m:Nat),n-i=k->i<=n->L i s->m<256->SX w D m s.heap->(∀s',Moved (D::g) G s s' ->SX w D (oy f k i m) s'.heap->R (.ok (.ret .none)) s') -> codeAny (model prog w) A (.builtin "set.update.loop" ⟨[.ref D,.ref I],[]⟩) R s:=by
 have h:D∉g:=λz=>N (W.sub _ z);have d:∀b∈g,b∈D::g:=λb z=>MS _ z;intro k
 induction k with
 |zero =>
  intro i s m Q X B j y p;have e:i=n:=by omega
  subst e;refine OT PyProof.Rows.F.entry_set_update_loop ?_;rw[Op PB _];show wpAny _ A.in1 (pyNext (.ref I) >>= _) _ _ s;refine MQ (W.done s _ _ B λs' a=> ?_);show wpAny _ A.in1 (ret Value.none) _ _ s';exact MU (p s' (a.mono d) (y.at λo z=>a.heap D o h z))
 |succ k U =>
  intro i s m Q X B j y p;have O:i<n:=by omega
  refine OT PyProof.Rows.F.entry_set_update_loop ?_;rw[Op PB _];show wpAny _ A.in1 (pyNext (.ref I) >>= _) _ _ s;refine MQ (W.item i s _ _ O B λv s' T H a=> ?_);obtain⟨M,t,rfl⟩:=V i v T;have C:SX w D m s'.heap:=y.at λo z=>a.heap D o h z;show wpAny _ A.in1 (holding [Value.int (f i:Nat) t] (setAdd D (.int (f i:Nat) t)) >>= _) _ _ s';refine MQ (OA ?_);unfold setAdd;refine OA (MQ ((intKind prog w).pyHash (k:=(f i:Nat)) (by simp[intKind,Value.isInt]) ?_));refine Lk (s:={s' with toks:=s'.toks+1}) j M C λh' b J r=> ?_;refine MU ⟨QF PB _,U (i+1) _ _ (by omega) O (W.frame _ s' h' _ H (Pm _) λc l o z=> ?_) (Dq j M true).2 r λS u x=> ?_⟩
  ·rw[J.2 c fun(q:c=D)=>N (by rw[<- q];exact l)]
   exact z
  ·refine p S (Moved.trans W.gtrans ((a.mono d).then_heap (Pm _) λc o l z=> ?_) u) x
   rw[J.2 c fun(q:c=D)=>l (by rw[q];exact MT)];exact z
variable{s:Shared}
noncomputable def bare(led:Bool):Obj:={cls:=.type "set",dict:=none,data:=.set #[] 0 (.fresh 0 0 led)}
theorem Ej(e:h.get? a=some (bare (!w.params.followText "set-order"))):SX w a 0 h:=by
 refine⟨_,#[],0,e,⟨rfl,rfl,rfl⟩,?_,by unfold fZ;rfl⟩;unfold bare;have:gK (!w.params.followText "set-order") 0=.fresh 0 0 (!w.params.followText "set-order"):=by
  cases w.params.followText "set-order"<;>exact iA (by decide +kernel)
 rw[this]
theorem Kp(v:Value)(h:Q (.ref s.heap.objs.size) {s with heap:=s.heap.push (bare (!w.params.followText "set-order"))}) :
  codeAny (model prog w) A (.call (.builtin "set.__new__") ⟨[.type "set",v],[]⟩) (wants Q E) s:=by
 refine codeAny_of_tree ?_;show wpAny _ A.in1 (do checkBuiltinCall "set.__new__" ⟨[.type "set",v],[]⟩;again (.builtin "set.__new__" ⟨[.type "set",v],[]⟩)) _ _ s;refine MQ (Oc (F.newCall_set_1 v) (MU ⟨QF F.plain_set_new _,OT F.entry_set_new ?_⟩));rw[Op F.plain_set_new _];unfold Builtin.«set.__new__» Builtin.Frozenset.newClass;have a:=sub_set_self;obtain⟨b,g,d,c,e⟩:=s;dsimp only
 wp_walk
 refine PK (MU ?_);dsimp only;simp only[newObj];refine MQ (wpAny_alloc (MU ?_));exact MU h
set_option tactic.hygienic true
set_option maxHeartbeats 3200000 in
theorem J6{l:Addr}{its:Array Value}{f:Nat->Nat}{Q:Value->Shared->Prop}(hh:A.handled=none)(hl:s.heap.IsList l its)(hi:∀i v,its[i]? =some v->f i<8/\∃t,v=.int (f i:Nat) t)
  (h:∀(h' :Heap)(tk:Nat),SX w s.heap.objs.size (oy f its.size 0 0) h' ->(∀b o,b<s.heap.objs.size->s.heap.get? b=some o->h'.get? b=some o)->Q (.ref s.heap.objs.size) {s with heap:=h',toks:=tk}) :
  wpAny (model prog w) A (call (.type "set") [.ref l]) Q E s:=by
 obtain⟨c,tl,mro⟩:=F.called_set.mro;have made:=F.called_set.made;have sub:=F.called_set.sub;refine wpAny_call (codeAny_of_tree ?_);show wpAny _ _ (callAny (.type "set") _) _ _ _;refine MU ⟨Code.quiet_builtin _ (by decide +kernel),OT F.entry_type_call ?_⟩;rw[Around.under_plain (weight_type_call_type "set" [.ref l] []) rfl];have n1:=F.called_set.notType;have n2:=F.called_set.canCreate;have n3:=F.typeCall_set_1 (.ref l)
 repeat(any_goals (first|assumption|wp_step))
 refine codeAny_mono (Kp (.ref l) (E:=E) (Q:=λob s₁=>ob=.ref s.heap.objs.size/\s₁={s with heap:=s.heap.push (bare (!w.params.followText "set-order"))}) ⟨rfl,rfl⟩) λr s₁ hr=> ?_;cases r with
 | error e=>exact hr
 | ok fl =>
  cases fl with
  | ret ob =>
   obtain⟨rfl,rfl⟩:=hr;have hS:(s.heap.push (bare (!w.params.followText "set-order"))).get? s.heap.objs.size=some (bare (!w.params.followText "set-order")):=Mr _ rfl;have hT:Shared.TypeIs {s with heap:=s.heap.push (bare (!w.params.followText "set-order"))} (.ref s.heap.objs.size) "set":=⟨_,hS,rfl⟩;have m1:=F.called_set.init.lookup;have m2:=F.called_set.init.bind (.ref s.heap.objs.size)
   repeat(any_goals (first|assumption|wp_step))
   refine codeAny_mono (codeAny_call_builtin (R:=wants (λr s₂=>r=.none/\∃h' tk,s₂={s with heap:=h',toks:=tk}/\SX w s.heap.objs.size (oy f its.size 0 0) h' /\(∀b o,b<s.heap.objs.size->s.heap.get? b=some o->h'.get? b=some o)) E) F.called_set.init.plain F.entry_set_init (check_set_init_1 hT ?_)) λr₂ s₂ hr₂=> ?_
   ·obtain⟨ol,hol,cl,nl,dl⟩:=hl
    obtain⟨oc,od,ot,os⟩:=ol;simp only at cl dl;subst cl dl;have hol' :(s.heap.push (bare (!w.params.followText "set-order"))).get? l=some {cls:=.type "list",dict:=od,data:=.seq its nl,slots:=os}:=MW _ hol;have q1:=F.sub_list_set;have q2:=F.sub_list_frozenset;have q3:(Value.type "list"==Value.type "dict")=false:=by decide
    have hl1:(s.heap.push (bare (!w.params.followText "set-order"))).IsList l its:=⟨_,hol',rfl,nl,rfl⟩;unfold Builtin.«set.__init__» noKeywords Builtin.Frozenset.updateFrom
    generalize hPI:pyIter=PI
    wp_walk
    subst hPI;refine QD hl1 (MQ (wpAny_runValue ?_));have lS:l<s.heap.objs.size:=Mu hol;have h3:A.in1.in1.in1.handled=none:=by simp[hh]
    have nI:l≠(s.heap.push (bare (!w.params.followText "set-order"))).objs.size:=by
     rw[OR];exact Mz (Nr lS)
    have nf:s.heap.objs.size∉[(s.heap.push (bare (!w.params.followText "set-order"))).objs.size,l]:=by
     rw[OR];simp only[Mh,NA,NS,Oh,Po];exact⟨Mz (Nat.lt_succ_self _),N1 lS⟩
    refine HK ((Walks.list h3 _ l nI its).toS) nf f hi its.size 0 _ 0 (by omega) (NH _) ⟨⟨_,Mr _ rfl,rfl,rfl⟩,hl1.push _⟩ (by omega) (Ej (MW _ hS)) ?_;intro s' mv hS';obtain⟨h',g',d',tk',os'⟩:=s';have e1:g' =s.gens:=mv.gens;have e2:d' =s.drawn:=mv.drawn;have e3:os' =s.os:=mv.os;subst e1 e2 e3;show wpAny _ _ _ _ _ _;refine MU ?_;show wpAny _ _ (ret Value.none) _ _ _;refine MU ⟨rfl,h',tk',rfl,hS',λb o hb e=> ?_⟩;refine mv.heap b o ?_ (MW _ (MW _ e));have z1:b≠s.heap.objs.size:=Mz hb;have z2:b≠(s.heap.push (bare (!w.params.followText "set-order"))).objs.size:=by
     rw[OR];exact Mz (Nr hb)
    simp only[Mh,NA,NS,Oh,Po];exact⟨z1,z2⟩
   ·cases r₂ with
    | error e=>exact hr₂
    | ok fl₂ =>
     cases fl₂ with
     | ret r =>
      obtain⟨rfl,h',tk,rfl,hS',hk'⟩:=hr₂
      repeat(any_goals (first|assumption|wp_step))
      exact h _ _ hS' hk'
     | _=>exact hr₂.elim
  | _=>exact hr.elim
end
theorem vF:entryFor table "set.__iter__"=some Builtin.«frozenset.__iter__» := entryFor_alias (id' :="frozenset.__iter__") (by kernel_rfl) rfl (by decide +kernel) (by kernel_rfl)
theorem ck:Slot "set_iterator" "__next__" "set_iterator.__next__" :=
 .of (owner:="set_iterator") (n:="__next__") (by rw[Pa,Ol];kernel_rfl) (by decide +kernel) (by decide +kernel) (by decide +kernel)
  (by first|exact .inl (by decide +kernel)|exact .inr (by decide +kernel)) (by rw[Pi];kernel_rfl)
theorem mE:entryFor table "set_iterator.__next__"=some Builtin.«set_iterator.__next__»:=entryFor_of_tree (by kernel_rfl)
theorem oV(a:Value):argsOk "set_iterator.__next__" ⟨[a],[]⟩:=by
 unfold argsOk
 kernel_rfl
theorem wJ{b:Type}(f:Nat->Nat):∀(k i:Nat)(l:List b)(o:Array b),l.length=k->(pickOrder.go f k i l o).toList.Perm (o.toList++l)
 |0,i,l,o,h=>by
  have:l=[]:=List.eq_nil_of_length_eq_zero h;subst this;unfold pickOrder.go;simp
 |k+1,i,l,o,h=>by
  unfold pickOrder.go;have a:f i%l.length<l.length:=Nat.mod_lt _ (by omega);rw[Mf a];dsimp only;refine(wJ f k (i+1) _ _ (by rw[List.length_eraseIdx,MX a];omega)).trans ?_;rw[Array.toList_push,Nb];refine List.Perm.append_left _ ?_;have e:l=l.take (f i%l.length)++l[f i%l.length]::l.drop (f i%l.length+1):=by
   rw[<- OB a,List.take_append_drop]
  rw[List.eraseIdx_eq_take_drop_succ];refine List.Perm.trans ?_ (List.Perm.of_eq e.symm);rw[List.singleton_append];exact Pc.symm
theorem nX{a:Type}(f:Nat->Nat)(xs:Array a):(pickOrder f xs).toList.Perm xs.toList:=by
 have:=wJ f xs.size 0 xs.toList #[] rfl
 simpa [pickOrder]using this
section
variable{prog:Program}{w:World}{A:Around}{E:Value->Shared->Prop}{s:Shared}
structure Ord(w:World)(a m ep:Nat)(es:Array (Int×Value))(vs:List Value)(sl:Nat->Nat):Prop where
 len:vs.length=es.size
 perm:vs.Perm (es.toList.map (·.2))
 go:∀{prog:Program}{A:Around}{E:Value->Shared->Prop}{s:Shared}{o:Obj}(i:Nat)(Q:Option (Value×Nat)->Shared->Prop),s.heap.get? a=some o->o.data=.set es ep (gK (!w.params.followText "set-order") m) ->
  Q ((vs[i]?).map λv=>(v,sl (i+1))) s->i<=es.size->wpAny (model prog w) A (setNext a (sl i) i ep) Q E s
theorem Jc(a:m<256):(∀i,i<(lst m).length->SetTable.below (lst m).toArray (if i=0 then 0 else(lst m).getD (i-1) 0+1)=i)/\SetTable.below (lst m).toArray (if(lst m).length=0 then 0 else(lst m).getD ((lst m).length-1) 0+1)=(lst m).length:=by
 have h:=Mm.mp zS m (NC.mpr a);rw[MY,PH]at h;refine⟨λi b=> ?_,h.2⟩;have:=Mm.mp h.1 i (NC.mpr b)
 simpa using this
set_option tactic.hygienic true in
theorem Kg(f:m<256)(p:fZ es.toList m):∃vs g,Ord w a m ep es vs g/\g 0=0:=by
 have k:es.size=(lst m).length:=p.len;cases c:w.params.followText "set-order" with
 |true =>
  refine⟨(pickOrder (w.params.setOrder a ep) es).toList.map (·.2),λ_=>0,⟨?_,(nX _ _).map _,fun{prog A E s o} i Q ho hd q hi=> ?_⟩,rfl⟩
  ·rw[MR,(nX _ _).length_eq,M5]
  ·have d:(gK (!w.params.followText "set-order") m).fits es.size=true:=by rw[k];exact fits f _
   unfold setNext;refine MQ (Pg ho hd d ?_);dsimp only;unfold setsByText;refine MQ (MQ (PK (MU ?_)));rw[show(model prog w).w.params.followText "set-order"=true from c,MX rfl,MV (by simp)];unfold setWalk;refine MQ (MQ (Pg ho hd d ?_));dsimp only;unfold setsByText;refine MQ (MQ (PK (MU ?_)));rw[show(model prog w).w.params.followText "set-order"=true from c,MX rfl];refine MQ (PK (MU (MU ?_)));have:((pickOrder (w.params.setOrder a ep) es)[i]?).map (λe=>(e.2,0))=(((pickOrder (w.params.setOrder a ep) es).toList.map (·.2))[i]?).map λv=>(v,0):=by
    rw[Mi,Nu];cases(pickOrder (w.params.setOrder a ep) es)[i]? <;>rfl
   rw[<- this]at q;exact q
 |false =>
  refine⟨es.toList.map (·.2),λi=>if i=0 then 0 else(lst m).getD (i-1) 0+1,⟨by simp,List.Perm.refl _,fun{prog A E s o} i Q ho hd q hi=> ?_⟩,rfl⟩;have d:(gK (!w.params.followText "set-order") m).fits es.size=true:=by rw[k];exact fits f _
  unfold setNext;refine MQ (Pg ho hd d ?_);dsimp only;unfold setsByText;refine MQ (MQ (PK (MU ?_)));rw[show(model prog w).w.params.followText "set-order"=false from c,MV Mc];rw[c]
  split
  ·rename_i z
   exact absurd (show(false:Bool)=true from z) Mc
  refine MQ ((MU ?_:wpAny (model prog w) A (pure ()) _ E _));have l:=Jc f;have r:(gK (!false) m).place=(lst m).toArray:=rfl;rw[r];have b:SetTable.below (lst m).toArray (if i=0 then 0 else(lst m).getD (i-1) 0+1)=i:=by
   rcases O4 i (lst m).length with h|h
   ·exact l.1 i h
   ·have e:i=(lst m).length:=by omega
    rw[e];exact l.2
  rw[b]
  have:(match es[i]?,(lst m).toArray[i]? with
   |some (_,x),some j=>some (x,j+1)|_,_=>none)=((es.toList.map (·.2))[i]?).map λv=>(v,if i+1=0 then 0 else(lst m).getD (i+1-1) 0+1):=by
   rw[Mi,Nu]
   rcases O4 i es.size with h|h
   ·have n:i<(lst m).length:=by omega
    rw[O9 h,List.getElem?_toArray,Mf n];simp[n]
   ·rw[Array.getElem?_eq_none h,List.getElem?_toArray,Nc (by omega)]
    rfl
  rw[<- this]at q;exact MU q
end
theorem nS:Slot "set_iterator" "__iter__" "set_iterator.__iter__" :=
 .of (owner:="set_iterator") (n:="__iter__") (by rw[Pa,Ol];kernel_rfl) (by decide +kernel) (by decide +kernel) (by decide +kernel)
  (by first|exact .inl (by decide +kernel)|exact .inr (by decide +kernel)) (by rw[Pi];kernel_rfl)
theorem vE:entryFor table "set_iterator.__iter__"=some Builtin.«dict_keyiterator.__iter__» := entryFor_alias (id' :="dict_keyiterator.__iter__") (by kernel_rfl) rfl (by decide +kernel) (by kernel_rfl)
theorem yx(a:Value):argsOk "set_iterator.__iter__" ⟨[a],[]⟩:=by
 unfold argsOk
 kernel_rfl
def zE(I a i n ep j:Nat)(h:Heap):Prop:=∃o,h.get? I=some o/\o.cls=.type "set_iterator"/\o.data=.fields #[.int (j:Nat) 0,.int (i:Nat) 0,.ref a,.int (n:Nat) 0,.int (ep:Nat) 0]
theorem zE.typeIs{s:Shared}(x:zE I a i n ep j s.heap):s.TypeIs (.ref I) "set_iterator":=let⟨o,ho,hc,_⟩:=x;⟨o,ho,hc⟩
theorem zE.keep(x:zE I a i n ep j h)(k:∀o,h.get? I=some o->h'.get? I=some o):zE I a i n ep j h' :=let⟨o,ho,r⟩:=x;⟨o,k o ho,r⟩
section
variable{prog:Program}{w:World}{A:Around}
set_option tactic.hygienic true
set_option maxHeartbeats 3200000 in
theorem Fh(hh:A.handled=none){I a m ep:Nat}{es:Array (Int×Value)}{vs:List Value}{sl:Nat->Nat}{so:Obj}(hne:a≠I)(hm:m<256)(he:fZ es.toList m)(hd:so.data=.set es ep (gK (!w.params.followText "set-order") m))(O:Ord w a m ep es vs sl) :
  Walks prog w A I [I,a] [I] vs.length (λi v=>vs[i]? =some v) (λi h=>zE I a i es.size ep (sl i) h/\h.get? a=some so) where
 sub:=λb hb=>by simp at hb;simp[hb]
 frame:=λ_ _ _ st hk=>⟨st.1.keep λo e=>hk I (by simp) o e,hk a (by simp) so st.2⟩
 item:=λi s Q E hi st hQ=>by
  obtain⟨it,ha⟩:=st;obtain⟨o,ho,hc,hdt⟩:=id it;have hf:(gK (!w.params.followText "set-order") m).fits es.size=true:=by rw[show es.size=(lst m).length from he.len];exact fits hm _
  have hx:vs[i]? =some vs[i]:=Mf hi;unfold pyNext;refine MQ (PX (Nf (name:=Str.ofString "__next__") it.typeIs ck (NP ck it.typeIs mE ?_ (oV _))));unfold Builtin.«set_iterator.__next__»;refine MQ (m:=slotArgs _ _ _) (MU ?_);refine MQ (wpAny_fieldsOf ho hdt ?_);dsimp only;refine MQ (wpAny_setEntries_of ha hd hf ?_);rw[MV (by simp)];refine MQ (O.go i _ ha hd ?_ (by have:=O.len;omega));rw[hx];dsimp only[Option.map];refine MQ (OQ ho hdt (by simp) ?_);have e1:=NQ (Obj.mapFields (·.setIfInBounds 0 (rawInt (sl (i+1):Nat)))) ho (OI (Nd hdt _));have d1:=Nd hdt (·.setIfInBounds 0 (rawInt (sl (i+1):Nat)));refine MQ (OQ e1 d1 (by simp) (MU ⟨_,rfl,MU ?_⟩));have e2:=NQ (Obj.mapFields (·.setIfInBounds 1 (rawInt ((i:Nat)+1)))) e1 (OI (Nd d1 _));refine hQ _ _ s.toks hx ⟨⟨_,e2,((Pj ..).trans (Pj ..)).trans hc,?_⟩,?_⟩ λb ob hb e=> ?_
  ·rw[Nd d1]
   simp[rawInt]
  ·rw[NR _ _ (Nv hne),NR _ _ (Nv hne)]
   exact ha
  ·have nb:I≠b:=λz=>hb (by simp[z])
   rw[NR _ _ nb,NR _ _ nb];exact e
 done:=λs Q E st hQ=>by
  obtain⟨it,ha⟩:=st;obtain⟨o,ho,hc,hdt⟩:=id it;have hf:(gK (!w.params.followText "set-order") m).fits es.size=true:=by rw[show es.size=(lst m).length from he.len];exact fits hm _
  unfold pyNext;refine MQ (PX (Nf (name:=Str.ofString "__next__") it.typeIs ck (NP ck it.typeIs mE ?_ (oV _))));unfold Builtin.«set_iterator.__next__»;refine MQ (m:=slotArgs _ _ _) (MU ?_);refine MQ (wpAny_fieldsOf ho hdt ?_);dsimp only;refine MQ (wpAny_setEntries_of ha hd hf ?_);rw[MV (by simp)];refine MQ (O.go vs.length _ ha hd ?_ (by have:=O.len;omega));rw[Nc (Md _)];dsimp only[Option.map];refine MQ (OQ ho hdt (by simp) ?_);refine MQ ?_;simp only[newExc,newTuple];refine MQ (NO ?_ (by size_fits));refine MQ (m:=firstArgMember _ _) (Oc (a:=Value.none) (by first|rfl|(simp only[firstArgMember];rfl)) ?_);refine NO ?_ (by size_fits);simp only[raiseNew];refine MQ (wpAny_handled ?_);rw[show A.in1.handled=none from hh];refine MQ (MU (wpAny_throw ?_));refine MQ (PJ (T:="StopIteration") (b:=true) ⟨_,Mr _ rfl,rfl⟩ isSubtype_stop ?_);refine MU (hQ _ s.toks λb ob hb e=> ?_);have nb:b≠I:=λz=>hb (by simp[z]);exact(((OF ..).extBut.push _).push _) b ob nb e
 self:=λi s Q E st hQ=>by
  refine O7 st.1.typeIs nS (NP nS st.1.typeIs vE ?_ (yx _));exact MU ⟨_,rfl,"set_iterator",_,st.1.typeIs,ck.lookup,hQ⟩
end
section
variable{prog:Program}{w:World}{A:Around}{E:Value->Shared->Prop}{s:Shared}
theorem HY(k:m<256)(l:fZ es.toList m)(c:s.heap.get? a=some o)(e:o.ExactSet)(d:o.data=.set es ep (gK (!w.params.followText "set-order") m))
  (h:Q (.ref s.heap.objs.size) {s with heap:=s.heap.push {cls:=.type "set_iterator",data:=.fields #[.int (0:Nat) 0,.int (0:Nat) 0,.ref a,.int (es.size:Nat) 0,.int (ep:Nat) 0]}}):wpAny (model prog w) A (pyIter (.ref a)) Q E s:=by
 have j:s.TypeIs (.ref a) "set":=⟨o,c,e.1⟩;have g:(gK (!w.params.followText "set-order") m).fits es.size=true:=by rw[show es.size=(lst m).length from l.len];exact fits k _
 refine O7 j F.slot_set_iter (NP F.slot_set_iter j vF ?_ (F.args_set_iter_1 _));unfold Builtin.«frozenset.__iter__»;refine MQ (m:=Builtin.Frozenset.slot0 _ _) (MU ?_);unfold Builtin.Frozenset.sizeOf;refine MQ (MQ (wpAny_setEntries_of c d g (MU ?_)));have f:wpAny (model prog w) A.in1 (setDrawn a) (λb i=>b=false/\i=s) E s:=by
  unfold setDrawn;refine MQ (Pg c d g ?_);dsimp only;unfold setsByText;refine MQ (MQ (PK (MU (MU ⟨?_,rfl⟩))));cases(model prog w).w.params.followText "set-order";rfl;rfl
 refine MQ (OC f (λb i n=> ?_) λ_ _ x=>x);obtain⟨rfl,rfl⟩:=n;rw[MV Mc];refine MQ (MU (MQ (wpAny_setEpoch_of c d g ?_)));refine MQ (NO (MU ⟨_,rfl,"set_iterator",_,⟨_,Mr _ rfl,rfl⟩,ck.lookup,h⟩))
set_option tactic.hygienic true
set_option maxHeartbeats 3200000 in
theorem yq{a m:Nat}{Q:List Value->Shared->Prop}(hh:A.handled=none)(hm:m<256)(hS:SX w a m s.heap)
  (h:∀(s' :Shared)(vs:List Value),vs.map kD=vs.map kD->(vs.map kD).Perm ((lst m).map λv:Nat=>some (v:Int))->(∀b o,s.heap.get? b=some o->s'.heap.get? b=some o)->s.heap.objs.size<s'.heap.objs.size->s'.gens=s.gens->s'.drawn=s.drawn->s'.os=s.os->Q vs s') :
  wpAny (model prog w) A (collect (.ref a)) Q E s:=by
 obtain⟨o,es,ep,ho,hex,hd,he⟩:=hS;obtain⟨vs,sl,O,hs0⟩:=Kg (w:=w) (a:=a) (ep:=ep) hm he;have ha:a<s.heap.objs.size:=Mu ho;have hz:es.size=(lst m).length:=he.len;have h8:(lst m).length<=8:=by
  unfold lst;exact M8 (NG _ _) (by simp)
 have hvl:vs.length<=8:=by rw[O.len,hz];exact h8
 unfold collect;refine MQ (wpAny_runValue (OT F.entry_proto_collect ?_));rw[Op F.plain_proto_collect _];show wpAny _ A.in1 (newList [] >>= λl=>again (.builtin "list.__iadd__" ⟨[l,.ref a],[]⟩)) _ _ s;refine MQ (NO (MU ⟨QF F.plain_list_iadd _,OT F.entry_list_iadd ?_⟩));rw[Op F.plain_list_iadd _]
 generalize hL:({cls:=.type "list",data:=.seq ([]:List Value).toArray}:Obj)=L0
 have k1:(s.heap.push L0).get? a=some o:=MW _ ho;have k2:(s.heap.push L0).get? s.heap.objs.size=some L0:=Mr _ (by rw[<- hL];rfl);have hT:Shared.TypeIs {s with heap:=s.heap.push L0} (.ref a) "set":=⟨o,k1,hex.1⟩;show wpAny _ A.in1 (Builtin.List.listExtendWith (.ref s.heap.objs.size) (.ref a) (.ref s.heap.objs.size)) _ _ _;unfold Builtin.List.listExtendWith;refine MQ (Pf hT ?_);have n1:Builtin.List.listSameRef (.ref s.heap.objs.size) (.ref a)=false:=by
  simp only[Builtin.List.listSameRef,OP];exact N1 ha
 rw[MV (by rw[n1];decide)];refine MQ (HY (s:={s with heap:=s.heap.push L0}) hm he k1 hex hd ?_);dsimp only;rw[show(s.heap.push L0).objs.size=s.heap.objs.size+1 from OR _ _]
 generalize hI:({cls:=.type "set_iterator",data:=.fields #[.int (0:Nat) 0,.int (0:Nat) 0,.ref a,.int (es.size:Nat) 0,.int (ep:Nat) 0]}:Obj)=I0
 have sz:(s.heap.push L0).objs.size=s.heap.objs.size+1:=OR _ _;have j0:((s.heap.push L0).push I0).get? (s.heap.objs.size+1)=some I0:=by rw[<- sz];exact Mr _ (by rw[<- hI];rfl)
 have j1:((s.heap.push L0).push I0).get? a=some o:=MW _ k1;have j2:((s.heap.push L0).push I0).get? s.heap.objs.size=some L0:=MW _ k2;have hT2:Shared.TypeIs {s with heap:=(s.heap.push L0).push I0} (.ref a) "set":=⟨o,j1,hex.1⟩;have hhint:wpAny (model prog w) A.in1 (Builtin.List.listLengthHint (.ref a)) (λb s1=>s1={s with heap:=(s.heap.push L0).push I0}) E {s with heap:=(s.heap.push L0).push I0}:=by
  unfold Builtin.List.listLengthHint;refine MQ (Oy hT2 F.slot_set_len.lookup ?_)
  (generalize aZ:("set.__len__":String)=id0;(fail_if_success (clear aZ id0));wp_delta;rw[show splitId id0=some ("set","__len__")from by subst aZ;decide +kernel];subst aZ)
  refine MQ (PJ (b:=true) hT2 (by rw[Pi];kernel_rfl) ?_);rw[MV (show¬((!true)=true)from Mc)];dsimp only;rw[MX (by decide)];refine MQ (Pf hT2 ?_);exact MU rfl
 refine MQ (OA (OC hhint (λb s1 hb=> ?_) λ_ _ x=>x));subst hb
 split
 case isFalse z =>
  refine absurd ?_ z;rw[OO];exact .inr (by decide)
 refine MQ (Pq ?_);have hW:=Fh (prog:=prog) (w:=w) (A:=A.in1) hh (I:=s.heap.objs.size+1) (a:=a) (so:=o) (by omega) hm he hd O;have u1:=NQ (Obj.mapSeq (·.push Value.none)) j2 (by rw[<- hL];rfl);refine MQ ?_;show wpAny _ A.in1 (updateSeq s.heap.objs.size (·.push .none) >>= λ_=>updateSeq s.heap.objs.size (·.pop)) _ _ _;subst hL;refine MQ (wpAny_updateSeq j2 rfl ?_);refine wpAny_updateSeq u1 rfl ?_;have u2:=NQ (Obj.mapSeq (·.pop)) u1 rfl
 have oth:∀b ob,b≠s.heap.objs.size->((s.heap.push {cls:=.type "list",data:=.seq ([]:List Value).toArray}).push I0).get? b=some ob ->
   ((((s.heap.push {cls:=.type "list",data:=.seq ([]:List Value).toArray}).push I0).update s.heap.objs.size (Obj.mapSeq (·.push Value.none))).update s.heap.objs.size (Obj.mapSeq (·.pop))).get? b=some ob:=λb ob nb e=>by
  rw[NR _ _ (Nv nb),NR _ _ (Nv nb)];exact e
 have nf:s.heap.objs.size∉[s.heap.objs.size+1,a]:=by
  simp only[Mh,NA,NS,Oh,Po];exact⟨by omega,N1 ha⟩
 refine MU ⟨QF F.plain_extend_loop _,codeAny_extend_loopS hW.toS (by rw[Np];omega) _ nf _ vs.length 0 _ _ _ rfl (NH _) ⟨⟨I0,oth _ _ (by omega) j0,by rw[<- hI],by rw[<- hI,hs0]⟩,oth _ _ (Mz ha) j1⟩ u2 (ItemsOf.nil _) λs' acc c mv hacc his=> ?_⟩;show wpAny _ A (load s.heap.objs.size >>= _) _ _ s';refine MQ (wpAny_load hacc ?_);have eacc:acc.toList=vs:=by
  apply PZ
  intro i;rw[Nu];cases e:acc[i]? with
  | some v=>exact(his.2 i v e).symm
  | none =>
   have:acc.size<=i:=by simpa using e
   rw[his.1]at this;exact(Nc this).symm
 show wpAny _ _ (pure acc.toList) _ _ _;rw[eacc];refine MU (h s' vs rfl ?_ (λb ob e=> ?_) (Mu hacc) mv.gens mv.drawn mv.os)
 ·have:=O.perm.map kD
  refine this.trans (List.Perm.of_eq ?_);rw[M4];have z:=ND (List.map Prod.snd) he;rw[M4,M4]at z;exact z
 ·have hb:=Mu e
  refine mv.heap b ob ?_ (oth b ob (Mz hb) (MW _ (MW _ e)));simp only[Mh,NA,NS,Oh,Po];exact⟨Mz hb,Mz (Nr hb)⟩
end
end SQ
namespace SQ
open PySem PyProof.Rows
set_option tactic.hygienic false
theorem wp:∀{vs:List Value}{a:List Int},vs.map kD=a.map some->IntsAre vs a
 |[],[],_=>.nil|[],_::_,h=>by cases h|_::_,[],h=>by cases h|v::vs,n::a,h=>by
  rw[Mg,Mg]at h
  injection h with h1 h2
  obtain⟨t,rfl⟩:=nh h1;exact .cons n t (wp h2)
theorem lV(m:Nat):(lst m).Pairwise (·<·):=by unfold lst;exact List.Pairwise.filter _ (List.pairwise_lt_range)
section
variable{prog:Program}{w:World}{A:Around}{E:Value->Shared->Prop}{s:Shared}
theorem zr(I:A.handled=none)(C:m<256)(P:SX w a m s.heap)
  (h:∀(s' :Shared)(D c:Nat)(out:Array Value),IntsAre out.toList ((lst m).map λv:Nat=>(v:Int))->s.heap.objs.size<=D->s'.heap.get? D=some (seqObj "list" out c)->(∀b o,s.heap.get? b=some o->s'.heap.get? b=some o)->s'.gens=s.gens->s'.drawn=s.drawn->s'.os=s.os->Q (.ref D) s') :
  wpAny (model prog w) A (call (.builtin "sorted") [.ref a]) Q E s:=by
 have X:(lst m).length<=8:=by
  unfold lst;exact M8 (NG _ _) (by simp)
 refine Calls.call_function_entry kind_sorted plain_sorted entry_sorted (args_sorted1 _) ?_;unfold Builtin.«sorted»;refine MQ (m:=checkCount "sorted" 1 1 _) (MU ?_);refine MQ (yq (A:=A.in1) I C P λq vs _ U k V g d W=> ?_);obtain⟨i,u,pn⟩:∃i:List Int,vs.map kD=i.map some/\i.Perm ((lst m).map λv:Nat=>(v:Int)):=by
  have:∀(j:List (Option Int))(xs:List Int),j.Perm (xs.map some)->∃i:List Int,j=i.map some/\i.Perm xs:=by
   intro j xs p;refine⟨j.filterMap id,?_,?_⟩
   ·have f:∀y∈j,y.isSome=true:=λy J=>by
     obtain⟨x,-,rfl⟩:=MZ.mp (p.mem_iff.mp J);rfl
    clear p
    induction j with
    |nil=>rfl|cons y r M =>
     cases y with
     |none=>exact absurd (f none MT) (by simp)|some v =>
      rw[List.filterMap_cons_some (by rfl),Mg,<-M λz N=>f z (MS _ N)]
   ·have:=p.filterMap id
    rw[List.filterMap_map]at this
    simpa using this
  refine this _ _ (U.trans (List.Perm.of_eq ?_));rw[M4];rfl
 have T:=wp u;have K:vs.length<64:=by
  have L:=ND List.length u;rw[MR,MR]at L;have H:=pn.length_eq;rw[MR]at H;omega
 refine MQ (wpAny_newList ?_);have n:(q.heap.push (seqObj "list" vs.toArray 0)).get? q.heap.objs.size=some (seqObj "list" vs.toArray 0):=Mr _ rfl;refine MQ (OA (NP slot_list_sort ⟨_,n,rfl⟩ entry_list_sort (list_sort_tree n T K λout l B F O=>⟨_,rfl,?_⟩) (args_list_sort _)));have e:l =(lst m).map λv:Nat=>(v:Int):=by
  refine List.Perm.eq_of_pairwise (le:=(·<=·)) (λa b _ _ R S=>Int.le_antisymm R S) O ?_ (F.trans pn);rw[P6];exact(lV m).imp λz=>by omega
 subst e;obtain⟨c,G⟩:=sortedHeap_at (vs:=vs) (out:=out) n;refine MU ⟨_,rfl,h _ _ c out B (Ot V) G (λb o z=> ?_) g d W⟩;have t:=Mu (k b o z);rw[sortedHeap_old (Mz t) (by rw[OR];exact Nr t)];exact MW _ (k b o z)
end
end SQ
namespace L2
open PySem PySem.Spec PyProof.Rows
noncomputable def maskOf(a:List Int):Nat:=SQ.oy (λi=>(a.getD i 0).toNat) a.length 0 0
noncomputable def cD(a:List Int):List Int:=(SQ.lst (maskOf a)).map λv:Nat=>(v:Int)
set_option tactic.hygienic false
theorem wB(f:Nat->Nat):∀(k i m:Nat),(∀j,j<k->f (i+j)<8)->m<256->SQ.oy f k i m<256
 |0,_,m,_,h=>h|k+1,i,m,hf,h=>by
  unfold SQ.oy;refine wB f k (i+1) _ (λj a=> ?_) (SQ.Dq h (hf 0 (by omega)) true).2;have:=hf (j+1) (by omega);rw[show i+1+j=i+(j+1)by omega];exact this
theorem wZ(h:∀n∈a,0<=n/\n<8):maskOf a<256:=by
 unfold maskOf;refine wB _ _ _ _ (λj b=> ?_) (by omega);rw[Nw];have:a.getD j 0∈a:=by
  rw[Me,Mf b];exact Oq b
 have:=h _ this;omega
section
variable{X:Cx}
theorem oK(D:X.calm=true):bV X (.type "set") (λxs H Q=>∃(p:Addr)(c:List Int),xs=[.ref p]/\bR X.K H p (c.map V.int)/\(∀n∈c,0<=n/\n<8)/\∀a,H a=none->Q (.ref a) (upd H a (.ext (SQ.SX X.w a (maskOf c))))):=by
 intro A s O H xs S Q I r h;obtain⟨p,c,rfl,E,J,q⟩:=h;obtain⟨u,rfl,G⟩:=vals1 r;cases G;obtain⟨g,y,M,P⟩:=I.list E;have d:=y.length;rw[MR]at d;refine SQ.J6 (f:=λi=>(c.getD i 0).toNat) (I.ok.hd D) M.isList (λi v j=> ?_) λh' F m l=> ?_
 ·have j:g[i]? =some v:=by simpa using j
  obtain⟨t,e⟩:=jn y j;have B:i<c.length:=by
   have:=(Mk.mp j).1;omega
  have C:c.getD i 0∈c:=by
   rw[Me,Mf B];exact Oq B
  have:=J _ C;refine⟨by omega,t,?_⟩;rw[e]
  congr 1
  omega
 ·have N:g.toArray.size=c.length:=by rw[Mn,d]
  rw[N]at m;refine⟨.ref s.heap.objs.size,_,I.laid (t' :=F) (o:=.ext (SQ.SX X.w s.heap.objs.size (maskOf c))) (λb o z=>l b o (Mu z) z) (Md _) ⟨m,?_,λR T x k=>x.at k⟩,rfl,q _ (I.hok.fresh (Md _))⟩;obtain⟨o,es,ep,L,_⟩:=m;exact⟨o,L⟩
theorem Inv.ext(I:Inv X b d H s)(h:H a=some (.ext c)):c s.heap:=(show ao X.prog X.w H s.heap a (.ext c)from I.hok a _ h).1
theorem ja(t:X.calm=true):bV X (.builtin "sorted") (λxs H Q=>∃(p:Addr)(m:Nat),xs=[.ref p]/\m<256/\H p=some (.ext (SQ.SX X.w p m))/\∀a,H a=none->Q (.ref a) (upd H a (.lst ((SQ.lst m).map λv:Nat=>V.int (v:Int))))):=by
 intro i s B H xs E Q I r h;obtain⟨p,m,rfl,n,A,q⟩:=h;obtain⟨u,rfl,y⟩:=vals1 r;cases y;refine SQ.zr (I.ok.hd t) n (I.ext A) λs' D c out l le j e g d k=> ?_;obtain⟨h',g',d',f,x⟩:=s';dsimp only at g d k j e;subst g d k;refine⟨.ref D,_,I.laid (t' :=f) (o:=.lst ((SQ.lst m).map λv:Nat=>V.int (v:Int))) (λb o z=>e b o z) le ?_,rfl,q _ (I.hok.fresh le)⟩;have C:(SQ.lst m).length<=8:=by
  unfold SQ.lst;exact M8 (NG _ _) (by simp)
 refine⟨by rw[MR,Np];omega,out.toList,c,?_,by simpa [seqObj]using j⟩;have:=cX l;rw[M4]at this;exact this
theorem nG:bV X (.builtin "len") (λxs H Q=>∃(p:Addr)(m:Nat),xs=[.ref p]/\m<256/\H p=some (.ext (SQ.SX X.w p m))/\Q (.int ((SQ.lst m).length:Nat)) H):=by
 intro c s n H xs v Q I r h;obtain⟨p,m,rfl,f,k,q⟩:=h;obtain⟨u,rfl,j⟩:=vals1 r;cases j;obtain⟨o,es,ep,l,a,g,i⟩:=I.ext k;have d:es.size=(SQ.lst m).length:=i.len;have t:(SQ.lst m).length<=8:=by
  unfold SQ.lst;exact M8 (NG _ _) (by simp)
 refine PySem.call_len_set l a g (by rw[d];exact SQ.fits f _) (by omega) ?_;refine⟨.int ((SQ.lst m).length:Nat),H,I.kept (t' :=s.toks+1+1) (λb o e=>e),?_,q⟩;rw[d];exact⟨_,rfl⟩
end
end L2
namespace SW
open PySem.W PyProof.Rows
noncomputable def run{b:Type}(f:Nat->Nat->Bool):KasT b->b
 | .ret a=>a| .ask i j k=>run f (k (f i j))
theorem fF{a b:Type}(f:Nat->Nat->Bool)(g:a->KasT b):∀t:KasT a,run f (t.bind g)=run f (g (run f t))
 | .ret _=>rfl| .ask i j k=>fF f g (k (f i j))
section
variable(key:Nat->Int)
noncomputable def F:Nat->Nat->Bool:=λi j=>decide (key i<key j)
noncomputable def K(p:Array Nat)(i:Nat):Int:=key (p.getD i 0)
def CQ(p:Array Nat)(k:Nat):Prop:=∀i,i+1<k->K key p i<=K key p (i+1)
def Ew(p:Array Nat)(k:Nat):Prop:=∀i,i+1<k->K key p (i+1)<=K key p i
variable{key}
set_option tactic.hygienic false
theorem CQ.le{p:Array Nat}{k:Nat}(h:CQ key p k):∀(d i:Nat),i+d<k->K key p i<=K key p (i+d)
 |0,_,_=>P7 _|d+1,i,hk=>Int.le_trans (CQ.le h d i (by omega)) (h (i+d) (by omega))
theorem CQ.mono(h:CQ key p k)(a:i<=j)(b:j<k):K key p i<=K key p j:=by
 have:=h.le (j-i) i (by omega)
 rwa [show i+(j-i)=j by omega]at this
theorem Ew.le{p:Array Nat}{k:Nat}(h:Ew key p k):∀(d i:Nat),i+d<k->K key p (i+d)<=K key p i
 |0,_,_=>P7 _|d+1,i,hk=>Int.le_trans (h (i+d) (by omega)) (Ew.le h d i (by omega))
theorem Ew.mono(h:Ew key p k)(a:i<=j)(b:j<k):K key p j<=K key p i:=by
 have:=h.le (j-i) i (by omega)
 rwa [show i+(j-i)=j by omega]at this
theorem CU(a:j<=p.size)(x:Nat):K key (kas_rev p i j) x=if i<=x/\x<j then K key p (i+j-1-x)else K key p x:=by
 unfold K kas_rev;rw[Nl,getElem?_mirror_all a]
 split;rw[Nl];rw[Nl]
theorem asc(p:Array Nat):∀k n,n<=run (F key) (kas_asc p k n)/\run (F key) (kas_asc p k n)<=n+k/\(∀i,n<=i->i<run (F key) (kas_asc p k n)->K key p (i-1)<=K key p i) /\ (run (F key) (kas_asc p k n)<n+k->K key p (run (F key) (kas_asc p k n))<K key p (run (F key) (kas_asc p k n)-1))
 |0,n=>⟨Md _,Md _,λi b a=>absurd (show i<n from a) (by omega),λh=>absurd (show n<n+0 from h) (by omega)⟩|k+1,n=>by
  have e:run (F key) (kas_asc p (k+1) n)=if K key p n<K key p (n-1)then n else run (F key) (kas_asc p k (n+1)):=by
   show run (F key) (if F key (p.getD n 0) (p.getD (n-1) 0)=true then .ret n else kas_asc p k (n+1))=_;unfold F K
   by_cases c:key (p.getD n 0)<key (p.getD (n-1) 0)
   ·rw[MX (by simpa using c),MX c]
    rfl
   ·rw[MV (by simpa using c),MV c]
  rw[e]
  by_cases c:K key p n<K key p (n-1)
  ·rw[MX c]
   exact⟨Md _,by omega,λi b a=>by omega,λ_=>c⟩
  ·rw[MV c]
   obtain⟨g,j,f,d⟩:=asc p k (n+1);refine⟨by omega,by omega,λi b a=> ?_,λh=>d (by omega)⟩
   rcases O4 n i with h|h
   ·exact f i h a
   ·have:i=n:=by omega
    subst this;omega
structure Dn(p:Array Nat)(n q:Nat):Prop where
 one:q+1<=n
 sz:n<=p.size
 fal:Ew key p n
 eqs:∀i,n-(q+1)<=i->i<n->K key p i=K key p (n-1)
theorem gv(p:Array Nat)(i j:Nat):(kas_rev p i j).size=p.size:=mirror_size _ _ _ _
set_option tactic.hygienic true in
theorem ma(a:j<=p.size)(h:∀x,i<=x->x<j->K key p x=K key p (j-1))(x:Nat):K key (kas_rev p i j) x=K key p x:=by
 rw[CU a]
 split
 ·rename_i c
  rw[h (i+j-1-x) (by omega) (by omega),h x c.1 c.2]
 ·rfl
theorem EI:∀(k:Nat)(p:Array Nat)(n q:Nat),Dn (key:=key) p n q->n+k<=p.size -> Dn (key:=key) (run (F key) (kas_desc k p n q)).1 (run (F key) (kas_desc k p n q)).2.1 (run (F key) (kas_desc k p n q)).2.2/\(run (F key) (kas_desc k p n q)).1.Perm p/\(run (F key) (kas_desc k p n q)).2.1<=n+k
 |0,p,n,q,h,_=>⟨h,Pp _,Md _⟩|k+1,p,n,q,h,hk=>by
  have t:=h.one;have e:run (F key) (kas_desc (k+1) p n q)=if K key p n<K key p (n-1)then(if q>0 then run (F key) (kas_desc k (kas_rev p (n-(q+1)) n) (n+1) 0)else run (F key) (kas_desc k p (n+1) 0))else if K key p (n-1)<K key p n then(p,n,q)else run (F key) (kas_desc k p (n+1) (q+1)):=by
   show run (F key) (if F key (p.getD n 0) (p.getD (n-1) 0)=true then(if q>0 then kas_desc k (kas_rev p (n-(q+1)) n) (n+1) 0 else kas_desc k p (n+1) 0)else .ask (p.getD (n-1) 0) (p.getD n 0) λd=>if d=true then .ret (p,n,q)else kas_desc k p (n+1) (q+1))=_
   by_cases c:K key p n<K key p (n-1)
   ·rw[MX (show F key (p.getD n 0) (p.getD (n-1) 0)=true by simpa [F,K]using c),MX c]
    split<;>rfl
   ·rw[MV (show¬F key (p.getD n 0) (p.getD (n-1) 0)=true by simpa [F,K]using c),MV c]
    show run (F key) (if F key (p.getD (n-1) 0) (p.getD n 0)=true then .ret (p,n,q)else kas_desc k p (n+1) (q+1))=_
    by_cases d:K key p (n-1)<K key p n
    ·rw[MX (show F key (p.getD (n-1) 0) (p.getD n 0)=true by simpa [F,K]using d),MX d]
     rfl
    ·rw[MV (show¬F key (p.getD (n-1) 0) (p.getD n 0)=true by simpa [F,K]using d),MV d]
  have a:∀b :Array Nat,b.size=p.size->(∀x,K key b x=K key p x)->K key p n<=K key p (n-1)->Ew key b (n+1):=λb z f c i u=>by
   rw[f,f]
   rcases O4 (i+1) n with y|y
   ·exact h.fal i y
   ·have:i=n-1:=by omega
    subst this;rw[show n-1+1=n by omega];exact c
  have l:∀b :Array Nat,b.size=p.size->(∀x,K key b x=K key p x)->K key p n<=K key p (n-1)->Dn (key:=key) b (n+1) 0:=λb z f c =>
   ⟨by omega,by omega,a b z f c,λi r s=>by
    have:i=n+1-1:=by omega
    rw[this]⟩
  rw[e]
  by_cases c:K key p n<K key p (n-1)
  ·rw[MX c]
   by_cases m:q>0
   ·rw[MX m]
    have f:=ma (key:=key) (i:=n-(q+1)) h.sz h.eqs;obtain⟨g,j,o⟩:=EI k (kas_rev p (n-(q+1)) n) (n+1) 0 (l _ (gv _ _ _) f (by omega)) (by rw[gv];omega);exact⟨g,j.trans (mirror_perm _ _ _ _),by omega⟩
   ·rw[MV m]
    obtain⟨g,j,o⟩:=EI k p (n+1) 0 (l p rfl (λ_=>rfl) (by omega)) (by omega);exact⟨g,j,by omega⟩
  ·rw[MV c]
   by_cases d:K key p (n-1)<K key p n
   ·rw[MX d]
    exact⟨h,Pp _,by dsimp only;omega⟩
   ·rw[MV d]
    obtain⟨g,j,o⟩:=EI k p (n+1) (q+1) ⟨by omega,by omega,a p rfl (λ_=>rfl) (by omega),λi r s=>by
     have z:K key p n=K key p (n-1):=by omega
     rw[show n+1-1=n by omega,z]
     rcases O4 i n with y|y
     ·exact h.eqs i (by omega) y
     ·have:i=n:=by omega
      rw[this,z]⟩ (by omega)
    exact⟨g,j,by omega⟩
def Good(p:Array Nat)(nrem:Nat)(r:Nat×Array Nat):Prop:=1<=r.1/\r.1<=nrem/\CQ key r.2 r.1/\r.2.Perm p
theorem tail3(e:1<=n)(f:n<=nrem)(h:nrem<=p.size)(b:Ew key p n):Good (key:=key) p nrem (run (F key) (kas_tail3 n nrem p)):=by
 unfold kas_tail3;rw[fF];obtain⟨d,g,c,-⟩:=asc (key:=key) (kas_rev p 0 n) (nrem-n) n;refine⟨by show 1<=run (F key) (kas_asc (kas_rev p 0 n) (nrem-n) n);omega,by show run (F key) (kas_asc (kas_rev p 0 n) (nrem-n) n)<=nrem;omega,λi a=> ?_,mirror_perm _ _ _ _⟩;show K key (kas_rev p 0 n) i<=K key (kas_rev p 0 n) (i+1);have a:i+1<run (F key) (kas_asc (kas_rev p 0 n) (nrem-n) n):=a
 rcases O4 (i+1) n with y|y
 ·rw[CU (by omega),CU (by omega),MX (by omega),MX (by omega)]
  exact b.mono (by omega) (by omega)
 ·have:=c (i+1) y a
  rwa [show i+1-1=i by omega]at this
theorem descPart(u:1<=n)(q:n+1<=nrem)(t:nrem<=p.size)(l:Ew key p (n+1)):Good (key:=key) p nrem (run (F key) (kas_descPart n nrem p)):=by
 unfold kas_descPart;rw[fF];obtain⟨d,b,le⟩:=EI (key:=key) (nrem-(n+1)) p (n+1) 0 ⟨by omega,by omega,l,λi s v=>by
  have:i=n+1-1:=by omega
  rw[this]⟩ (by omega)
 generalize run (F key) (kas_desc (nrem-(n+1)) p (n+1) 0)=r at d b le
 obtain⟨c,a,h⟩:=r;dsimp only at d b le ⊢;have k :=d.one;have o :c.size=p.size:=b.size_eq
 split
 ·have j:=ma (key:=key) (i:=a -(h +1)) d.sz d.eqs
  obtain⟨b1,e,g,f⟩:=tail3 (key:=key) (p:=kas_rev c (a -(h +1)) a) (n:=a) (nrem:=nrem) (by omega) (by omega) (by rw[gv];omega) (λi m=>by rw[j,j];exact d.fal i m);exact⟨b1,e,g,(f.trans (mirror_perm _ _ _ _)).trans b⟩
 ·obtain⟨b1,e,g,f⟩:=tail3 (key:=key) (p:=c) (n:=a) (nrem:=nrem) (by omega) (by omega) (by omega) d.fal
  exact⟨b1,e,g,f.trans b⟩
theorem count(z:1<=nrem)(u:nrem<=p.size):Good (key:=key) p nrem (run (F key) (kas_count nrem p)):=by
 unfold kas_count;rw[fF];obtain⟨d,o,k,m⟩:=asc (key:=key) p (nrem-1) 1
 generalize run (F key) (kas_asc p (nrem-1) 1)=n at d o k m
 have b:CQ key p n:=λi f=>by
  have:=k (i+1) (by omega) f
  rwa [show i+1-1=i by omega]at this
 by_cases e:n=nrem
 ·rw[MX (by simpa using e)]
  exact⟨d,by show n<=nrem;omega,b,Pp _⟩
 ·rw[MV (by simpa using e)]
  have g:=m (by omega)
  by_cases h:n>1
  ·rw[MX h]
   show Good p nrem (run (F key) (if F key (p.getD 0 0) (p.getD (n-1) 0)=true then .ret (n,p)else kas_descPart n nrem (kas_rev p 0 n)))
   by_cases c:K key p 0<K key p (n-1)
   ·rw[MX (show F key (p.getD 0 0) (p.getD (n-1) 0)=true by simpa [F,K]using c)]
    exact⟨d,by show n<=nrem;omega,b,Pp _⟩
   ·rw[MV (show¬F key (p.getD 0 0) (p.getD (n-1) 0)=true by simpa [F,K]using c)]
    have a:∀x,0<=x->x<n->K key p x=K key p (n-1):=λx _ q=>by
     have v:=b.mono (show 0<=x by omega) q;have w:=b.mono (show x<=n-1 by omega) (by omega);omega
    have l:=ma (key:=key) (i:=0) (j:=n) (by omega) a;obtain⟨b1,r,t,s⟩:=descPart (key:=key) (p:=kas_rev p 0 n) (n:=n) (nrem:=nrem) d (by omega) (by rw[gv];omega) (λi f=>by
     rw[l,l]
     rcases O4 (i+1) n with y|y
     ·rw[a (i+1) (by omega) y,a i (by omega) (by omega)]
      exact P7 _
     ·have:i=n-1:=by omega
      subst this;rw[show n-1+1=n by omega];omega)
    exact⟨b1,r,t,s.trans (mirror_perm _ _ _ _)⟩
  ·rw[MV h]
   have:n=1:=by omega
   subst this;exact descPart (key:=key) (by omega) (by omega) u (λi f=>by
    have:i=0:=by omega
    subst this;have g:K key p (0+1)<K key p 0:=g;exact Int.le_of_lt g)
theorem place{p:Array Nat}{n:Nat}(a:CQ key p n):∀(k l r:Nat),l<=r->r<=n->r-l<=k->(∀i,i<l->K key p i<=K key p n)->(∀i,r<=i->i<n->K key p n<K key p i) -> run (F key) (kas_place p n k l r)<=n/\(∀i,i<run (F key) (kas_place p n k l r)->K key p i<=K key p n)/\∀i,run (F key) (kas_place p n k l r)<=i->i<n->K key p n<K key p i
 |0,l,r,lr,rn,hk,h1,h2=>by
  have:l=r:=by omega
  subst this;exact⟨rn,h1,h2⟩
 |k+1,l,r,lr,rn,hk,h1,h2=>by
  unfold kas_place
  by_cases e:l ≥ r
  ·have:l=r:=by omega
   subst this;rw[MX e];exact⟨rn,h1,h2⟩
  ·rw[MV e]
   have g:(l+r)/2<r:=by omega
   have b:l<=(l+r)/2:=by omega
   show run (F key) (if F key (p.getD n 0) (p.getD ((l+r)/2) 0)=true then kas_place p n k l ((l+r)/2)else kas_place p n k ((l+r)/2+1) r)<=n/\_;show(λt=>run (F key) t<=n/\(∀i,i<run (F key) t->K key p i<=K key p n)/\∀i,run (F key) t<=i->i<n->K key p n<K key p i) (if F key (p.getD n 0) (p.getD ((l+r)/2) 0)=true then kas_place p n k l ((l+r)/2)else kas_place p n k ((l+r)/2+1) r)
   by_cases c:K key p n<K key p ((l+r)/2)
   ·rw[MX (show F key (p.getD n 0) (p.getD ((l+r)/2) 0)=true by simpa [F,K]using c)]
    refine place a k l ((l+r)/2) b (by omega) (by omega) h1 λi d f=> ?_;exact Int.lt_of_lt_of_le c (a.mono d f)
   ·rw[MV (show¬F key (p.getD n 0) (p.getD ((l+r)/2) 0)=true by simpa [F,K]using c)]
    refine place a k ((l+r)/2+1) r (by omega) rn (by omega) (λi h=> ?_) h2;exact Int.le_trans (a.mono (show i<=(l+r)/2 by omega) (by omega)) (by omega)
theorem MF(a:n<p.size)(b:L<=n)(x:Nat):K key (bubble p n (n-L)) x=if x=L then K key p n else if L<x/\x<=n then K key p (x-1)else K key p x:=by
 unfold K;rw[Nl,getElem?_bubble a _ (by omega),show n-(n-L)=L by omega];rw[Nl (i:=n),Nl (i:=x-1),Nl (i:=x)]
 split;rfl
 ·split
  ·rfl
  ·rfl
theorem bin:∀(k:Nat)(p:Array Nat)(n:Nat),n+k<=p.size->CQ key p n->CQ key (run (F key) (kas_bin k p n)) (n+k)/\(run (F key) (kas_bin k p n)).Perm p
 |0,p,n,_,h=>⟨h,Pp _⟩|k+1,p,n,hk,h=>by
  unfold kas_bin;rw[fF];obtain⟨b1,c,d⟩:=place (key:=key) h n 0 n (by omega) (by omega) (by omega) (λi m=>by omega) (λi o q=>by omega)
  generalize run (F key) (kas_place p n n 0 n)=L at b1 c d
  have e:=MF (key:=key) (p:=p) (n:=n) (L:=L) (by omega) b1;have g:CQ key (bubble p n (n-L)) (n+1):=λi m=>by
   rw[e,e]
   by_cases a:i=L
   ·rw[MX a,MV (by omega),MX (by omega)]
    have:=d (i+1-1) (by omega) (by omega);omega
   ·rw[MV a]
    by_cases f:i+1=L
    ·rw[MX f,MV (by omega)]
     exact c i (by omega)
    ·rw[MV f]
     by_cases b:L<i/\i<=n
     ·rw[MX b,MX (by omega)]
      exact h.mono (by omega) (by omega)
     ·rw[MV b,MV (by omega)]
      exact h.mono (by omega) (by omega)
  obtain⟨l,j⟩:=bin k (bubble p n (n-L)) (n+1) (by rw[bubble_size];omega) g;exact⟨by rw[show n+(k+1)=n+1+k by omega];exact l,j.trans (bubble_perm _ _ _)⟩
end
end SW
namespace SW
open PySem PySem.W PyProof.Rows
noncomputable def Ok{c:Type}(n:Nat)(P:c->Prop):KasT c->Prop
 | .ret a=>P a| .ask i j k=>i<n/\j<n/\∀b,Ok n P (k b)
theorem Ok.bind{c d:Type}{n:Nat}{P:c->Prop}{R:d->Prop}{g:c->KasT d}(e:∀a,P a->Ok n R (g a)):∀{t:KasT c},Ok n P t->Ok n R (t.bind g)
 | .ret a,h=>e a h| .ask i j k,h=>⟨h.1,h.2.1,λb=>Ok.bind e (h.2.2 b)⟩
def B(n:Nat)(p:Array Nat):Prop:=∀x,p.getD x 0<n
set_option tactic.hygienic false
theorem B.perm(f:0<n)(h:B n p)(g:a.Perm p):B n a :=λx=>by
 by_cases b:x<a.size
 ·have e:a.getD x 0=a[x]:=by simp[Array.getD,b]
  have c:a[x]∈a.toList:=Array.getElem_mem_toList b;have c:=(Array.perm_iff_toList_perm.mp g).mem_iff.mp c;obtain⟨i,d,z⟩:=List.getElem_of_mem c;have:=h i;rw[M5]at d;rw[e,<-z]
  simpa [Array.getD,d]using this
 ·have e:a.getD x 0=0:=by simp[Array.getD,b]
  rw[e];exact f
section
variable{n:Nat}(hn:0<n)
include hn
end
end SW
set_option maxHeartbeats 400000
namespace SW
open PySem PySem.W PyProof.Rows
def vj(h:Heap)(v:Value)(q:Int×Int):Prop:=∃a t u,v=.ref a/\IsTup h a #[.int q.1 t,.int q.2 u]
set_option tactic.hygienic false
theorem vj.keep(x:vj h v q)(k:∀b o,h.get? b=some o->h'.get? b=some o):vj h' v q:=by obtain⟨a,t,u,e,z⟩:=x;exact⟨a,t,u,e,z.keeps k⟩
end SW
namespace L2
open PySem PySem.Spec PyProof.Rows
inductive Lq(K:W.Frag)(H:Hp):List V->List (Int×Int)->Prop
 | nil:Lq K H [] []
 | cons {a:Addr} {q:Int×Int} {us:List V} {ps:List (Int×Int)} (h:bg K H a [.int q.1,.int q.2]) (t:Lq K H us ps):Lq K H (.ref a::us) (q::ps)
set_option tactic.hygienic false
theorem Lq.len{K:W.Frag}(h:Lq K H a b):a.length=b.length:=by
 induction h with
 |nil=>rfl|cons _ _ c=>simp[c]
theorem aU.pick{a:List V}{vs:List Value}(r:aU a vs):∀{b:List Nat},(∀j∈b,j<a.length)->aU (b.map λi=>a.getD i .non) (b.map λi=>vs.getD i Value.none)
 |[],_=>.nil|j::b,h=>by
  have c:=h j MT;obtain⟨v,f,d⟩:=r.get (i:=j) (x:=a[j]) (Mf c);refine .cons ?_ (aU.pick r λi e=>h i (MS _ e));dsimp only;rw[Me,Mf c,Me,f];exact d
end L2
namespace SR
open PySem PyProof.Rows
end SR
set_option maxHeartbeats 800000
namespace SR
open PySem PyProof.Rows
set_option tactic.hygienic false
theorem oo:Slot "reversed" "__init__" "object.__init__" :=
 .of (owner:="object") (n:="__init__") (by rw[Pa,Ol];kernel_rfl) (by decide +kernel) (by decide +kernel) (by decide +kernel)
  (by first|exact .inl (by decide +kernel)|exact .inr (by decide +kernel)) (by rw[Pi];kernel_rfl)
theorem bW:Slot "reversed" "__next__" "reversed.__next__" :=
 .of (owner:="reversed") (n:="__next__") (by rw[Pa,Ol];kernel_rfl) (by decide +kernel) (by decide +kernel) (by decide +kernel)
  (by first|exact .inl (by decide +kernel)|exact .inr (by decide +kernel)) (by rw[Pi];kernel_rfl)
theorem cY:Slot "reversed" "__iter__" "reversed.__iter__" :=
 .of (owner:="reversed") (n:="__iter__") (by rw[Pa,Ol];kernel_rfl) (by decide +kernel) (by decide +kernel) (by decide +kernel)
  (by first|exact .inl (by decide +kernel)|exact .inr (by decide +kernel)) (by rw[Pi];kernel_rfl)
theorem gB:entryFor table "reversed.__next__"=some Builtin.«reversed.__next__»:=entryFor_of_tree (by kernel_rfl)
theorem gE:entryFor table "reversed.__iter__"=some Builtin.«dict_keyiterator.__iter__» := entryFor_alias (id' :="dict_keyiterator.__iter__") (by kernel_rfl) (by first|rfl|decide +kernel) (by decide +kernel) (by kernel_rfl)
theorem iW(a:Value):argsOk "reversed.__next__" ⟨[a],[]⟩:=by unfold argsOk;kernel_rfl
theorem iX(a:Value):argsOk "reversed.__iter__" ⟨[a],[]⟩:=by unfold argsOk;kernel_rfl
theorem jZ:TypeCalled "reversed" "reversed.__new__" "object.__init__" := ⟨by decide +kernel,by decide +kernel,⟨_,_,F.mro_reversed⟩,F.made_reversed,F.plain_reversed_new,F.sub_reversed_self,oo⟩
theorem qk:typeLookup (.type "tuple") "__reversed__"=pure none:=by rw[Pa,Ol];kernel_rfl
noncomputable def rvO(t:Addr)(i:Int):Obj:={cls:=.type "reversed",data:=.fields #[.ref t,rawInt i]}
def ia(I t:Addr)(i:Int)(h:Heap):Prop:=∃o,h.get? I=some o/\o.cls=.type "reversed"/\o.data=.fields #[.ref t,rawInt i]
theorem ia.typeIs{s:Shared}(x:ia I t i s.heap):s.TypeIs (.ref I) "reversed":=let⟨o,ho,hc,_⟩:=x;⟨o,ho,hc⟩
theorem ia.keep(x:ia I t i h)(k:∀o,h.get? I=some o->h'.get? I=some o):ia I t i h' :=let⟨o,ho,r⟩:=x;⟨o,k o ho,r⟩
section
variable{prog:Program}{w:World}{A:Around}{E:Value->Shared->Prop}{s:Shared}
theorem HD(e:IsTup s.heap t c)(j:c.size<=sizeLine)(h:∀i,Q (.ref s.heap.objs.size) {s with heap:=s.heap.push (rvO t ((c.size:Int)-1)),toks:=i}) :
  codeAny (model prog w) A (.call (.builtin "reversed.__new__") ⟨[.type "reversed",.ref t],[]⟩) (wants Q E) s:=by
 refine codeAny_of_tree ?_;show wpAny _ A.in1 (do checkBuiltinCall "reversed.__new__" ⟨[.type "reversed",.ref t],[]⟩;again (.builtin "reversed.__new__" ⟨[.type "reversed",.ref t],[]⟩)) _ _ s;refine MQ (Oc (F.newCall_reversed_1 _) (MU ⟨QF F.plain_reversed_new _,OT F.entry_reversed_new ?_⟩));rw[Op F.plain_reversed_new _];unfold Builtin.«reversed.__new__»;refine MQ (Oc (newClass_reversed _) ?_)
 try dsimp only
 refine MQ (Oc (a:=()) (by first|rfl|kernel_rfl) ?_);refine MQ (Oc (a:=()) (by first|rfl|kernel_rfl) ?_)
 try dsimp only
 refine MQ (Oy e.typeIs qk ?_)
 try dsimp only
 have d:wpAny (model prog w) A.in1 (do
   if<-isInstance (.ref t) (.type "dict")then return false
   match<-specialOf (.ref t) "__getitem__" with
   |none=>return false|some (.builtin id) =>
    if["tuple.__getitem__","str.__getitem__","bytes.__getitem__","bytearray.__getitem__","memoryview.__getitem__","numpy.ndarray.__getitem__","sqlite3.Row.__getitem__"].contains id then return true
    if id=="sqlite3.Blob.__getitem__" then return false
    unsupported "reversed.__new__:is-it-a-sequence"
   |some _=>return true) (λb f=>b=true/\f=s) E s:=by
  refine MQ (PJ (b:=false) e.typeIs F.sub_tuple_dict ?_);rw[MV Mc];refine MQ (Oy e.typeIs NX.lookup ?_);dsimp only;rw[MX (by decide)];exact MU ⟨rfl,rfl⟩
 refine MQ (OC d (λb f g=> ?_) λ_ _ x=>x);obtain⟨rfl,rfl⟩:=g;rw[MV (show¬((!true)=true)from Mc)];refine MQ (len_tuple e (by rw[Np]at j;omega) ?_);refine MQ (Oc (a:=some (c.size:Int)) rfl ?_)
 try dsimp only
 refine MQ (m:=Builtin.SmallTypes.newRecord _ _) ?_;show wpAny _ _ (newObj (.type "reversed") (.fields #[.ref t,rawInt ((c.size:Int)-1)])) _ _ _;refine NO (MU ?_);exact h _
theorem EW(g:IsTup s.heap t c)(f:c.size<=sizeLine)(h:∀e,Q (.ref s.heap.objs.size) {s with heap:=s.heap.push (rvO t ((c.size:Int)-1)),toks:=e}) :
  wpAny (model prog w) A (call (.type "reversed") [.ref t]) Q E s:=by
 refine callType_codes (Q₁:=λd a=>a.TypeIs d "reversed"/\Q d a) jZ (F.typeCall_reversed_1 _) F.entry_object_init (HD g f λe=>⟨⟨_,Mr _ rfl,rfl⟩,h e⟩) λd a b=> ?_;exact⟨b.1,F.args_object_init_2 d _,object_init_meets jZ.init.lookup jZ.made (by decide) prog w A.in1 _ a ⟨b.1,rfl,b.2⟩⟩
theorem xH(j:A.handled=none)(l:ia I t ((c.size:Int)-1-(c.size:Nat)) s.heap/\IsTup s.heap t c)
  (k:∀h',(∀b o,b≠I->s.heap.get? b=some o->h'.get? b=some o)->(∃o,h'.get? I=some o)->Q none {s with heap:=h'}):wpAny (model prog w) A (pyNext (.ref I)) Q E s:=by
 obtain⟨it,q⟩:=l;obtain⟨o,f,n,d⟩:=id it;unfold pyNext;refine MQ (PX (Nf (name:=Str.ofString "__next__") it.typeIs bW (NP bW it.typeIs gB ?_ (iW _))));unfold Builtin.«reversed.__next__»;refine MQ (Oc (a:=(Value.ref I,[])) rfl ?_)
 try dsimp only
 refine MQ (Od f d (x:=.ref t) rfl ?_);refine MQ (Od f d (x:=rawInt ((c.size:Int)-1-(c.size:Nat))) rfl ?_);show wpAny _ _ (if((c.size:Int)-1-(c.size:Nat))<0 then _ else _) _ _ s;rw[MX (by omega)];refine MQ (Pq ?_);have g:=NQ (Obj.mapFields (·.setIfInBounds 1 (rawInt (-1)))) f (OI (Nd d _));have i:=Nd d (·.setIfInBounds 1 (rawInt (-1)));refine MQ (m:=(do setField (.ref I) 1 (rawInt (-1));setField (.ref I) 0 .none)) (MQ (OQ f d (by simp) (OQ g i (by simp) ?_)));unfold Builtin.SmallTypes.stopIteration;refine MQ (MQ ?_);simp only[newExc,newTuple];refine MQ (NO ?_ (by size_fits));refine MQ (m:=firstArgMember _ _) (Oc (a:=Value.none) (by first|rfl|(simp only[firstArgMember];rfl)) ?_);refine NO ?_ (by size_fits);simp only[raiseNew];refine MQ (wpAny_handled ?_);rw[show A.in1.handled=none from j];refine MQ (MU (wpAny_throw ?_));refine MQ (PJ (T:="StopIteration") (b:=true) ⟨_,Mr _ rfl,rfl⟩ isSubtype_stop ?_);refine MU (k _ (λb p h e=> ?_) ⟨_,MW _ (MW _ (NQ _ g (OI (Nd i _))))⟩);refine MW _ (MW _ ?_);rw[NR _ _ (Nv h),NR _ _ (Nv h)];exact e
theorem Ci(F:A.handled=none){I t:Addr}{c:Array Value}(n:t≠I)(G:c.size<=sizeLine) :
  Walks prog w A I [I,t] [I] c.size (λi v=>c[c.size-1-i]? =some v) (λi h=>ia I t ((c.size:Int)-1-(i:Nat)) h/\IsTup h t c) where
 sub:=λb l=>by simp at l;simp[l]
 frame:=λ_ _ _ d y=>⟨d.1.keep λo e=>y I (by simp) o e,by
  obtain⟨o,f,r⟩:=d.2;exact⟨o,y t (by simp) o f,r⟩⟩
 item:=λi s Q E J d m=>by
  obtain⟨it,q⟩:=d;obtain⟨o,f,D,g⟩:=id it;have H :c.size<=16777216:=by rw[Np]at G;omega
  have B:c[c.size-1-i]? =some c[c.size-1-i]:=O9 (by omega);unfold pyNext;refine MQ (PX (Nf (name:=Str.ofString "__next__") it.typeIs bW (NP bW it.typeIs gB ?_ (iW _))));unfold Builtin.«reversed.__next__»;refine MQ (Oc (a:=(Value.ref I,[])) rfl ?_)
  try dsimp only
  refine MQ (Od f g (x:=.ref t) rfl ?_);refine MQ (Od f g (x:=rawInt ((c.size:Int)-1-(i:Nat))) rfl ?_);show wpAny _ _ (if((c.size:Int)-1-(i:Nat))<0 then _ else _) _ _ s;rw[MV (by omega)];refine MQ (Oy q.typeIs NX.lookup ?_);rw[MV (by simp)];refine MQ (wpAny_mkInt ?_);have p :IsTup ({s with toks:=s.toks+1}:Shared).heap t c:=q;refine MQ (PX (getItem_tuple (j:=c.size-1-i) p (by omega) (by omega) ?_ B ?_))
  ·have e:((c.size:Int)-1-(i:Nat))=((c.size-1-i:Nat):Int):=by omega
   rw[e];unfold seqIndex?;simp;omega
  ·try dsimp only
   refine MQ (Od f g (x:=rawInt ((c.size:Int)-1-(i:Nat))) rfl ?_);refine MQ (OQ f g (by simp) (MU ⟨_,rfl,MU ?_⟩));refine m _ _ (s.toks+1) B ⟨⟨_,NQ _ f (OI (Nd g _)),(Pj ..).trans D,?_⟩,?_⟩ λb C l e=> ?_
   ·rw[Nd g]
    simp[rawInt];omega
   ·obtain⟨o2,u,r⟩:=q
    exact⟨o2,by rw[NR _ _ (Nv n)];exact u,r⟩
   ·rw[NR _ _ (λz=>l (by simp[z]))]
    exact e
 done:=λs Q E d m=>xH F d λh' k _=>m h' s.toks λb C l e=>k b C (λz=>l (by simp[z])) e
 self:=λi s Q E d m=>by
  refine O7 d.1.typeIs cY (NP cY d.1.typeIs gE ?_ (iX _));exact MU ⟨_,rfl,"reversed",_,d.1.typeIs,bW.lookup,m⟩
end
end SR
namespace L2
open PySem PySem.Spec PyProof.Rows
end L2
set_option maxHeartbeats 4000000
namespace L2
open PySem PySem.Spec PyProof.Rows
section
variable{X:Cx}
noncomputable def MH(K:W.Frag)(a:Addr)(n:Nat):It :=
 ⟨λi H=>i<n/\∃xs,bg K H a xs/\xs.length=n,λi H x b =>b =H/\∀xs,bg K H a xs->xs.length=n->xs[n-1-i]? =some x,λi H=>i=n/\∃xs,bg K H a xs/\xs.length=n⟩
set_option tactic.hygienic false
theorem AB(f:SR.ia it a j h)(g:IsTup h a b):a≠it:=by rintro rfl;obtain⟨o,e,c,_⟩:=f;obtain⟨i,d,c',_⟩:=g;rw[e]at d;cases d;rw[c]at c';exact absurd c' (by decide)
theorem qj{P:Program}{w:World}{K:W.Frag}{tg:Expr}(a it:Addr)(n:Nat):nJ P w K tg (MH K a n) [it] it (λi h=>SR.ia it a ((n:Int)-1-(i:Nat)) h) where
 mem:=by simp
 obj:=λi h g b m=>by
  have e:b=it:=by simpa using m
  subst e;obtain⟨o,e,c,d⟩:=g;exact⟨o,e,λv z=>by rw[d]at z;cases z⟩
 keep:=λi h h' g k=>g.keep λo e=>k it (by simp) o e
 item:=by
  intro X N T M D i l s Z H E I B g V;subst N T M;obtain⟨hi,xs,t,r⟩:=V;obtain⟨f,x,y,hz⟩:=I.tuple t;have j:=x.length;have hsz:f.toArray.size=n:=by rw[Mn,<-j];exact r
  have Y:xs[n-1-i]? =some (xs[n-1-i]'(by omega)):=Mf (by omega);obtain⟨u,hu,ru⟩:=x.get Y;obtain⟨O,U,f2,R,J,F⟩:=B it (by simp);have C:=AB g y;have p:SR.ia it a ((f.toArray.size:Int)-1-(i:Nat)) s.heap:=by rw[hsz];exact g
  refine(SR.Ci (I.ok.hd D) C (by rw[hsz,<-r];exact hz)).item i s _ _ (by rw[hsz];exact hi) ⟨p,y⟩ λv h' G L S sb=> ?_;have ev:v=u:=by
   rw[hsz]at L;have:f.toArray[n-1-i]? =some u:=by simpa using hu
   rw[this]at L;exact(Mv L).symm
  subst ev;have I1:Inv X l Z H {s with heap:=h',toks:=G}:=I.turned (t' :=G) (λb o m e=>sb b o (by simpa using m) e) O U R J F;have q:SR.ia it a ((n:Int)-1-((i+1:Nat):Int)) h' :=by
   have:=S.1;rw[hsz]at this;exact this
  obtain⟨o,e,c,d⟩:=id q;exact⟨v,rfl,nz (s:={s with heap:=h',toks:=G}) e c d (by decide) ⟨_,H,I1,ru,⟨rfl,λys hy _=>by rw[I.tuple_inj hy t];exact Y⟩,q,λb m=>(B b m).1⟩⟩
 done:=by
  intro X N T M D i l s Z H E I B g V;subst N T M;obtain⟨rfl,xs,t,r⟩:=V;obtain⟨f,x,y,hz⟩:=I.tuple t;have j:=x.length;have hsz:f.toArray.size=i:=by rw[Mn,<-j];exact r
  obtain⟨O,U,f2,R,J,F⟩:=B it (by simp);have p:SR.ia it a ((f.toArray.size:Int)-1-(f.toArray.size:Nat)) s.heap:=by rw[hsz];exact g
  exact SR.xH (I.ok.hd D) ⟨p,y⟩ λh' k _=>⟨rfl,I.turned (t' :=s.toks) (λb o m e=>k b o m e) O U R J F⟩
 self:=λA i s Q E g hQ=>by
  refine O7 g.typeIs SR.cY (NP SR.cY g.typeIs SR.gE ?_ (SR.iX _));exact MU ⟨_,rfl,"reversed",_,g.typeIs,SR.bW.lookup,hQ⟩
def iRvT(K:W.Frag)(d:TA):TI:=λc H R=>d c H λvs b=>∃a xs,vs=[.ref a]/\bg K b a xs/\R (MH K a xs.length) b
theorem Gg(J:Gl X "reversed")(v:X.mg "reversed"=none)(y:PA X [a] i)(A:starEach [a] X.env=[(false,eval a X.env)]:=by rfl) :
  PI X tg (.Call (.Name "reversed" p) [a] [] pos) (iRvT X.K i):=by
 intro d s n H R I h;refine Call_ (dE I J v boot_reversed (NY (al (y pos d s n H _ I h) λL c ⟨vs,t,f,E,G⟩=> ?_) A rfl));obtain⟨l,xs,e,C,q⟩:=G;subst e;obtain⟨u,rfl,F⟩:=vals1 E;cases F;obtain⟨g,r,z,D⟩:=f.tuple C;have m:=r.length;refine SR.EW z (by rw[Mn,<-m];exact D) λj=> ?_;have e:(((g.toArray.size:Nat):Int)-1)=(xs.length:Int)-1:=by rw[Mn,m]
 rw[e];have k:SR.ia c.heap.objs.size l ((xs.length:Int)-1) (c.heap.push (SR.rvO l ((xs.length:Int)-1))):=⟨_,Mr _ rfl,rfl,rfl⟩;refine(qj (P:=X.prog) (w:=X.w) (K:=X.K) (tg:=tg) l c.heap.objs.size xs.length).self _ 0 _ _ _ (by rw[show(xs.length:Int)-1-((0:Nat):Int)=(xs.length:Int)-1 by omega];exact k) ?_;have x:Inv X d n t {c with heap:=c.heap.push (SR.rvO l ((xs.length:Int)-1)),toks:=j}:=f.kept (t' :=j) λb o e=>MW _ e;refine⟨c.heap.objs.size,[c.heap.objs.size],_,_,t,rfl,x,qj l _ xs.length,?_,λb B=> ?_,q⟩
 ·show SR.ia c.heap.objs.size l ((xs.length:Int)-1-((0:Nat):Int)) _
  rw[show(xs.length:Int)-1-((0:Nat):Int)=(xs.length:Int)-1 by omega];exact k
 ·have e:b=c.heap.objs.size:=by simpa using B
  subst e;exact f.fpOk (Md _) (f.hok.fresh (Md _))
end
end L2
namespace L2
open PySem PySem.Spec PyProof.Rows PySem.W
end L2
set_option genInjectivity false
namespace IR
open PySem
noncomputable abbrev ak:=L2.ak
inductive PV where
 | non|bl (b:Bool)|int (i:Int)|str (z:Str)|lst (xs:List PV)|tup (xs:List PV)|dK (ks:List ak) (vs:List PV)|dT (ks:List (List ak)) (vs:List PV)
instance:Inhabited PV:=⟨.non⟩
mutual
noncomputable def imm:PV->Bool
 | .non=>true| .bl _=>true| .int _=>true| .str _=>true
 | .lst _=>false
 | .tup xs=>imms xs
 | .dK _ _=>false| .dT _ _=>false
noncomputable def imms:List PV->Bool
 | []=>true
 | x::xs=>imm x&&imms xs
end
inductive Bf where
 | len|int|str|list|tuple|sorted|min|max|sum|abs|all|any|lrange|lrange2|isin (t:String)|sumv|sset|lset|trev|lvals
mutual
inductive IE where
 | con (v:PV)|var (i:Nat)|bin (op:Operator) (a b:IE)|neg (a:IE)|cmp (op:CmpOp) (a b:IE)|chn (o1 o2:CmpOp) (a b c:IE)
 | and (a b:IE)|or (a b:IE)|not (a:IE)|ite (c:IC) (a b:IE)
 | call (f:Nat) (es:Ev)|bf (f:Bf) (es:Ev)
 | lst (es:Ev)|tup (es:Ev)|dnew|dlit (k:ak) (e:IE)|ix (a i:IE)|sl (a:IE) (lo hi:IO)
 | lc (elt:IE) (src:IT) (ifs:Fb) (caps:List Nat)|lc2 (elt:IE) (src:IT) (ifs:Fb) (caps:List Nat)|lci (a:IE) (i:Nat)|never
inductive Ev where
 | nil|cons (e:IE) (es:Ev)
inductive IO where
 | no|yes (e:IE)
inductive IC where
 | val (e:IE)|not (c:IC)|and (c d:IC)|or (c d:IC)
inductive Fb where
 | no|yes (c:IC)
inductive IT where
 | seq (e:IE)|rng (es:Ev)|zip (a b:IE)|enum (a:IE)|rvd (a:IE)|never
end
mutual
inductive IS where
 | asg (i:Nat) (o:Bool) (cap:List Nat) (e:IE)|ret (cap:List Nat) (e:IE)|retN|ife (c:IC) (a b:zK)
 | forr (is:List Nat) (one:Bool) (cap:List Nat) (src:IT) (body:zK)|whil (c:IC) (body:zK)|pass|brk|cont
 | app (i:Nat) (cap:List Nat) (e:IE)|drop (e:IE)|aug (i:Nat) (op:Operator) (e:IE)|hand (m:Nat) (g:List PV->Option PV)|rais (x:Str)|never
inductive zK where
 | nil|cons (s:IS) (ss:zK)
end
inductive Bd where
 | lst|dK (ks:List ak)|dT (ks:List (List ak))
noncomputable def Bd.pv:Bd->List PV->PV
 | .lst,xs=>.lst xs| .dK ks,xs=>.dK ks xs| .dT ks,xs=>.dT ks xs
section
variable{κ α:Type}[DecidableEq κ]
noncomputable def KU:List κ->List α->κ->α->List α
 |k' ::ks,x::xs,k,y=>(if k' =k then y else x)::KU ks xs k y|_,xs,_,_=>xs
noncomputable def putL(a:List κ)(xs:List α)(k:κ)(y:α):List α:=if k∈a then KU a xs k y else xs++[y]
noncomputable def Kc(a:List κ)(k:κ):List κ:=if k∈a then a else a++[k]
end
noncomputable def BG:PV->Option ak
 | .int i=>some (.inl i)| .str z=>some (.inr z)|_=>none
noncomputable def BF:List PV->Option (List ak)
 |[]=>some []|x::xs=>(BG x).bind λk=>(BF xs).map (k::·)
inductive TV where
 | un|frz (v:PV) (n:Bool)|own (xs:List PV) (n:Bool)|owd (b:Bd) (xs:List PV) (n:Bool)
noncomputable def TV.ob:TV->Option (Bd×List PV×Bool)
 | .own xs n=>some (.lst,xs,n)| .owd b xs n=>some (b,xs,n)|_=>none
noncomputable abbrev En:=List TV
noncomputable def TV.valD:TV->PV
 | .frz v _=>v|_=>.non
inductive RV where
 | frz (v:PV) (n:Bool)|bor (v:PV)|own (xs:List PV) (n:Bool)|owd (b:Bd) (xs:List PV) (n:Bool)
noncomputable def RV.val:RV->PV
 | .frz v _=>v| .bor v=>v| .own xs _=>.lst xs| .owd b xs _=>b.pv xs
noncomputable abbrev sc(v:PV):RV:=.frz v true
noncomputable def RV.keep:RV->Option (PV×Bool)
 | .frz v n=>some (v,n)| .bor v=>if imm v then some (v,true)else none| .own xs n=>some (.lst xs,n)| .owd b xs n=>some (b.pv xs,n)
noncomputable def wf(v:PV):RV:=if imm v then .frz v true else .bor v
noncomputable def RV.its:RV->Option (List PV×Bool)
 | .frz (.lst xs) n=>some (xs,n)| .frz (.tup xs) n=>some (xs,n)| .own xs n=>some (xs,n)| .bor (.lst xs)=>if imms xs then some (xs,true)else none| .bor (.tup xs)=>if imms xs then some (xs,true)else none|_=>none
noncomputable abbrev LN:Nat:=16777216
open L2 (tY dI)
noncomputable def signs(z:Str):List PV:=z.cps.toList.map λc=>.str ⟨#[c]⟩
noncomputable def re(xs:List PV)(n:Bool):Option RV:=if xs.length<=LN then some (.own xs n)else none
noncomputable def rZ(xs:List PV)(n:Bool):Option RV:=if xs.length<=LN then some (.frz (.tup xs) n)else none
noncomputable def vc(a b:RV):Option RV :=
 match a.val,b.val with
 | .int i,.int j=>some (sc (.int (i+j)))| .str x,.str y=>if x.length+y.length<=LN then some (sc (.str (x++y)))else none| .lst _,.lst _=>match a.its,b.its with
  |some (xs,n),some (ys,m)=>re (xs++ys) (n&&m)|_,_=>none
 | .tup _,.tup _=>match a.its,b.its with
  |some (xs,n),some (ys,m)=>rZ (xs++ys) (n&&m)|_,_=>none
 |_,_=>none
noncomputable def va(a b:RV):Option RV :=
 match a.val,b.val with
 | .int i,.int j=>some (sc (.int (i-j)))|_,_=>none
noncomputable def qB(a b:RV):Option RV :=
 match a.val,b.val with
 | .int i,.int j=>if(-(2^64)<i/\i<2^64)\/(-(2^64)<j/\j<2^64)then some (sc (.int (i*j)))else if i.natAbs<2^2000/\j.natAbs<2^2000 then some (sc (.int (i*j)))else none|_,_=>none
noncomputable def fV(a b:RV):Option RV :=
 match a.val,b.val with
 | .int i,.int j=>if 0<j/\j<2^200 then some (sc (.int (i/j)))else none|_,_=>none
noncomputable def vb(a b:RV):Option RV :=
 match a.val,b.val with
 | .int i,.int j=>if 0<j then some (sc (.int (i%j)))else none|_,_=>none
noncomputable def jf(a b:RV):Option RV :=
 match a.val,b.val with
 | .int i,.int j=>if 0<=j/\j<=1000000/\i.natAbs<2^64 then some (sc (.int (i*2^j.toNat)))else none|_,_=>none
noncomputable def jg(a b:RV):Option RV :=
 match a.val,b.val with
 | .int i,.int j=>some (sc (.int (Builtin.bitAnd i j)))|_,_=>none
noncomputable def eO(op:Operator)(a b:RV):Option RV:=match op with
 | .Add=>vc a b| .Sub=>va a b| .Mult=>qB a b| .FloorDiv=>fV a b| .Mod=>vb a b| .LShift=>jf a b| .BitAnd=>jg a b|_=>none
noncomputable def sj:PV->Bool
 | .non=>true| .bl _=>true| .int _=>true| .str _=>true|_=>false
noncomputable def eqs:PV->PV->Option Bool
 | .int i,.int j=>some (decide (i=j))| .str i,.str j=>some (decide (i=j))| .bl i,.bl j=>some (decide (i=j))| .non,.non=>some true| .non,.int _=>some false| .non,.bl _=>some false| .non,.str _=>some false| .int _,.non=>some false| .bl _,.non=>some false| .str _,.non=>some false
 | .int _,.str _=>some false| .str _,.int _=>some false| .bl _,.str _=>some false| .str _,.bl _=>some false
 |_,_=>none
noncomputable def EB:PV->PV->Bool
 | .int i,.int j=>decide (i=j)| .str i,.str j=>decide (i=j)| .bl i,.bl j=>decide (i=j)| .bl b,.int j=>decide ((if b then 1 else 0:Int)=j)| .int j,.bl b=>decide (j=(if b then 1 else 0:Int))| .non,.non=>true|_,_=>false
mutual
noncomputable def iM:PV->PyData
 | .non=>.none
 | .bl b=>.bool b
 | .int i=>.int i
 | .str z=>.str z
 | .lst xs=>.list (cf xs)
 | .tup xs=>.tuple (cf xs)
 | .dK _ _=>.dict []
 | .dT _ _=>.dict []
noncomputable def cf:List PV->List PyData
 | []=>[]
 | x::xs=>iM x::cf xs
end
mutual
noncomputable def jW:PV->PV->Bool
 | .lst xs,.lst ys=>nC xs ys
 | .tup xs,.tup ys=>nC xs ys
 | a,b=>EB a b
noncomputable def nC:List PV->List PV->Bool
 | [],[]=>true
 | x::xs,y::ys=>jW x y&&nC xs ys
 | [],_::_=>false
 | _::_,[]=>false
end
noncomputable def cT:Nat->PV->Bool
 |_,.non=>true|_,.bl _=>true|_,.int _=>true|_,.str z=>PyData.strOk z|0,.lst _=>false|0,.tup _=>false|n+1,.lst xs=>xs.all (cT n)|n+1,.tup xs=>xs.all (cT n)|_,.dK _ _=>false|_,.dT _ _=>false
noncomputable def FV(x y:PV):Option Bool:=match eqs x y with
 |some b=>some b|none=>if cT 12 x&&cT 12 y then some (jW x y)else none
noncomputable def wq(x:PV)(a:List PV):Option Bool :=
 if sj x/\a.all sj then some (a.any λy=>EB y x)else if cT 12 x&&a.all (cT 12)then some (a.any λy=>jW y x)else none
mutual
noncomputable def Ks:PV->PV->Option Bool
 | .int i,.int j=>some (decide (i<j))
 | .tup xs,.tup ys=>Dg xs ys
 | _,_=>none
noncomputable def Dg:List PV->List PV->Option Bool
 | [],ys=>some !ys.isEmpty
 | _::_,[]=>some false
 | x::xs,y::ys=>if jW x y then Dg xs ys else Ks x y
end
noncomputable def ltT(x y:PV):Option Bool:=if cT 12 x&&cT 12 y then Ks x y else none
mutual
noncomputable def K5:PV->PV->Option Bool
 | .int i,.int j=>some (decide (j<i))
 | .tup xs,.tup ys=>D2 xs ys
 | _,_=>none
noncomputable def D2:List PV->List PV->Option Bool
 | [],_=>some false
 | _::_,[]=>some true
 | x::xs,y::ys=>if jW x y then D2 xs ys else K5 x y
end
mutual
noncomputable def ut:PV->PV->Option Bool
 | .int i,.int j=>some (decide (i<=j))
 | .tup xs,.tup ys=>yR xs ys
 | _,_=>none
noncomputable def yR:List PV->List PV->Option Bool
 | [],_=>some true
 | _::_,[]=>some false
 | x::xs,y::ys=>if jW x y then yR xs ys else ut x y
end
noncomputable def gtT(x y:PV):Option Bool:=if cT 12 x&&cT 12 y then K5 x y else none
noncomputable def leT(x y:PV):Option Bool:=if cT 12 x&&cT 12 y then ut x y else none
noncomputable def B7(a b:PV):Option Bool :=
 match a,b with
 | .int i,.int j=>some (decide (i<j))| .tup xs,.tup ys=>ltT (.tup xs) (.tup ys)|_,_=>none
noncomputable def vQ(a b:PV):Option Bool :=
 match a,b with
 | .int i,.int j=>some (decide (i<=j))| .tup xs,.tup ys=>leT (.tup xs) (.tup ys)|_,_=>none
noncomputable def B9(a b:PV):Option Bool :=
 match a,b with
 | .int i,.int j=>some (decide (j<i))| .tup xs,.tup ys=>gtT (.tup xs) (.tup ys)|_,_=>none
noncomputable def vR(a b:PV):Option Bool :=
 match a,b with
 | .int i,.int j=>some (decide (j<=i))|_,_=>none
noncomputable def B8(a b:PV):Option Bool :=
 match a,b with
 | .non,.non=>some true|x,.non=>some false|_,_=>none
noncomputable def mL(a b:PV):Option Bool :=
 match a,b with
 |x,.lst ys=>(wq x ys).map (!·)|x,.tup ys=>(wq x ys).map (!·)|_,_=>none
noncomputable def ar(op:CmpOp)(a b:PV):Option Bool:=match op with
 | .Lt=>B7 a b| .LtE=>vQ a b| .Gt=>B9 a b| .GtE=>vR a b| .Eq=>FV a b| .NotEq=>(FV a b).map (!·)| .Is=>B8 a b| .NotIn=>mL a b|_=>none
noncomputable def qm:PV->Option Bool
 | .non=>some false| .bl b=>some b| .int i=>some (i !=0)| .str z=>if z.length<=LN then some ((z.length:Int) !=0)else none| .lst xs=>some !xs.isEmpty| .tup xs=>some !xs.isEmpty| .dK a _=>some !a.isEmpty| .dT _ _=>none
noncomputable def fM:PV->Option Nat
 | .str z=>if z.length<=LN then some z.length else none| .lst xs=>some xs.length| .tup xs=>some xs.length| .dK a _=>some a.length|_=>none
noncomputable def bj(t:String):PV->Option Bool
 | .non=>if t="int"\/t="str"\/t="list"\/t="tuple"\/t="bool" then some false else none| .bl _=>if t="int"\/t="bool" then some true else if t="str"\/t="list"\/t="tuple" then some false else none| .int _=>if t="int" then some true else if t="bool"\/t="str"\/t="list"\/t="tuple" then some false else none| .str _=>if t="str" then some true else if t="bool"\/t="int"\/t="list"\/t="tuple" then some false else none| .lst _=>if t="list" then some true else if t="bool"\/t="int"\/t="str"\/t="tuple" then some false else none| .tup _=>if t="tuple" then some true else if t="bool"\/t="int"\/t="str"\/t="list" then some false else none| .dK _ _=>if t="bool"\/t="int"\/t="str"\/t="list"\/t="tuple" then some false else none| .dT _ _=>none
noncomputable def iT:List PV->Option (List Bool)
 |[]=>some []| .bl b::r=>(iT r).map (b::·)|_::_=>none
noncomputable def jp:List PV->Option (List Str)
 |[]=>some []| .str z::r=>(jp r).map (z::·)|_::_=>none
noncomputable def aa:List PV->Option (List Int)
 |[]=>some []| .int i::r=>(aa r).map (i::·)|_::_=>none
noncomputable def lrng(n:Nat):List PV:=(List.range n).map λi=>.int (i:Nat)
noncomputable def mn:PV->Option (Int×Int)
 | .tup xs=>(aa xs).bind λc=>match c with
  |[a,b]=>some (a,b)|_=>none
 |_=>none
noncomputable def aX(q:Int×Int):PV:=.tup [.int q.1,.int q.2]
noncomputable def zt(xs:List PV):Option RV:=match aa xs with
 |some a=>if a.length<64 then some (.own ((L2.sortI a).map PV.int) true)else none|none=>none
noncomputable def fD:PV->Option (List Int)
 | .lst xs=>(aa xs).bind λa=>if a.all (λn=>decide (0<=n)&&decide (n<8))=true then some a else none|_=>none
noncomputable def revT(a:RV):Option RV:=match a.val with
 | .tup _=>(match a.its with
  |some (xs,n)=>if xs.isEmpty then none else some (.frz (.tup xs.reverse) n)|none=>none)
 |_=>none
noncomputable def strI:PV->Option RV
 | .int i=>if i.natAbs.log2<1920 then some (sc (.str (Str.ofString (toString i))))else none|_=>none
noncomputable def Kr:PV->Option RV
 | .dK b vs=>if b.length<=LN then(aa vs).map λa=>.own (a.map PV.int) true else none|_=>none
noncomputable def oU(f:Bf)(as:List RV):Option RV :=
 match f,as with
 | .len,[a]=>(fM a.val).map λn=>sc (.int (n:Nat))| .int,[a]=>match a.val with
  | .int i=>some (sc (.int i))| .bl b=>some (sc (.int (if b then 1 else 0)))|_=>none
 | .list,[a]=>match a.its with
  |some (xs,n)=>some (.own xs n)|none=>none
 | .tuple,[a]=>match a.its with
  |some (xs,n)=>some (.frz (.tup xs) n)|none=>none
 | .all,[a]=>match a.val with
  | .lst xs=>(iT xs).map λd=>sc (.bl (d.all id))|_=>none
 | .sum,[a]=>match a.val with
  | .lst xs=>(aa xs).map λc=>sc (.int c.sum)|_=>none
 | .sorted,[a]=>match a.val with
  | .lst xs=>zt xs|_=>none
 | .sumv,[a]=>match a.val with
  | .dK _ vs=>(aa vs).map λc=>sc (.int c.sum)|_=>none
 | .sset,[a]=>(fD a.val).map λc=>.own ((L2.cD c).map PV.int) true| .lset,[a]=>(fD a.val).map λc=>sc (.int ((L2.cD c).length:Nat))| .trev,[a]=>revT a| .lvals,[a]=>Kr a.val| .str,[a]=>strI a.val| .isin t,[a]=>(bj t a.val).map λb=>sc (.bl b)| .min,[a,b]=>match a.val,b.val with
  | .int i,.int j=>some (sc (.int (if j<i then j else i)))|_,_=>none
 | .max,[a,b]=>match a.val,b.val with
  | .int i,.int j=>some (sc (.int (if j>i then j else i)))|_,_=>none
 | .lrange,[a]=>match a.val with
  | .int i=>if 0<=i/\i<=1000 then some (.own (lrng i.toNat) true)else none|_=>none
 | .lrange2,[a,b]=>match a.val,b.val with
  | .int i,.int j=>if -1000<=i/\j<=1000/\i<=j then some (.own ((List.range (j-i).toNat).map λk=>.int (i+(k:Nat))) true)else none|_,_=>none
 |_,_=>none
noncomputable def ixK(a:RV)(k:Int):Option RV :=
 match a with
 | .frz (.lst xs) n=>(dI xs k).map λe=>.frz e (n||imm e)
 | .frz (.tup xs) n=>(dI xs k).map λe=>.frz e (n||imm e)
 | .own xs n=>(dI xs k).map λe=>.frz e (n||imm e)
 | .bor (.lst xs)=>(dI xs k).map wf| .bor (.tup xs)=>(dI xs k).map wf| .frz (.str z) _=>if z.length<=LN then(dI z.cps.toList k).map λc=>sc (.str ⟨#[c]⟩)else none|_=>none
noncomputable def jx(a i:RV):Option RV:=match i.val with
 | .int k=>ixK a k|_=>none
noncomputable def cut{a:Type}(xs:List a)(lo b:Option Int):List a:=(xs.drop (HT.bh xs.length 0 lo)).take (HT.bh xs.length xs.length b-HT.bh xs.length 0 lo)
noncomputable def slice(a:RV)(lo b:Option Int):Option RV :=
 match a.val with
 | .lst _=>match a.its with
  |some (xs,n)=>some (.own (cut xs lo b) (n||imms xs))
  |none=>none
 | .tup _=>match a.its with
  |some (xs,n)=>if HT.bh xs.length 0 lo=0/\HT.bh xs.length xs.length b=xs.length then some (.frz (.tup xs) n)else some (.frz (.tup (cut xs lo b)) n)|none=>none
 |_=>none
noncomputable def keeps:List RV->Option (List PV×Bool)
 |[]=>some ([],true)|r::rs=>r.keep.bind fun(v,n)=>(keeps rs).map fun(vs,m)=>(v::vs,n&&m)
noncomputable def vA(τ:En)(i:Nat):Option RV :=
 match τ[i]? with
 |some (.frz v n)=>some (.frz v n)|some (.own xs _)=>some (.bor (.lst xs))|some (.owd b xs _)=>some (.bor (b.pv xs))|_=>none
noncomputable def sQ:Option RV->Option (Option Int)
 |none=>some none|some r=>match r.val with
  | .int i=>some (some i)|_=>none
noncomputable def bm(f:PV->Option (Option (PV×Bool))):List PV->Option (List PV×Bool)
 |[]=>some ([],true)|x::xs=>(f x).bind λr=>(bm f xs).map fun(vs,m)=>match r with
  |none=>(vs,m)|some (v,n)=>(v::vs,n&&m)
noncomputable def lI:PV->Option (PV×PV)
 | .tup [a,b]=>some (a,b)|_=>none
noncomputable def kC:List RV->Option (List PV)
 |[a]=>match a.val with
  | .int j=>if -(2^62)<=j/\j<2^62 then some ((List.range j.toNat).map λi=>.int (0+(i:Nat)))else none|_=>none
 |[a,b]=>match a.val,b.val with
  | .int i,.int j=>if -(2^62)<=i/\i<2^62/\ -(2^62)<=j/\j<2^62 then some ((List.range (j-i).toNat).map λk=>.int (i+(k:Nat)))else none|_,_=>none
 |[a,b,c]=>match a.val,b.val,c.val with
  | .int i,.int j,.int k=>if k≠0/\k.natAbs<1073741824/\Builtin.Range.small i j k=true then some ((List.range (Builtin.Range.rangeSize i j k).toNat).map λm=>.int (i+(m:Nat)*k))else none|_,_,_=>none
 |_=>none
noncomputable def Du:PV->Option Int
 | .int i=>some i|_=>none
noncomputable def j8:PV->Option Bool
 | .bl b=>some b|_=>none
noncomputable def ku(x:RV):Option (List PV×Bool×Bool):=match x with
  | .frz (.str z) _=>some (signs z,true,false)| .bor (.lst xs)=>if imms xs then some (xs,true,true)else none| .bor (.tup xs)=>if imms xs then some (xs,true,true)else none| .bor _=>none|r=>r.its.map fun(xs,n)=>(xs,n,false)
noncomputable def wM(x y:PV):PV:=.tup [x,y]
noncomputable def fJ(i:Nat)(x:PV):PV:=.tup [.int (i:Nat),x]
noncomputable def A4:RV->Option (List PV×Bool)
 | .frz (.lst xs) n=>some (xs,n)| .own xs n=>some (xs,n)|_=>none
noncomputable def JT:RV->Option (List PV×Bool)
 | .frz (.tup xs) n=>some (xs,n)|_=>none
noncomputable def zL(x y:RV):Option (List PV×Bool) :=
 match A4 x,A4 y with
 |some (xs,n),some (ys,m)=>if xs.length=ys.length then some (List.zipWith wM xs ys,n&&m)else none|_,_=>none
noncomputable def oD(x:RV):Option (List PV×Bool) :=
 match x with
 | .frz (.str z) _=>some (List.zipWith fJ (List.range z.length) (signs z),true)| .frz (.tup xs) n=>some (List.zipWith fJ (List.range xs.length) xs,n)|x=>match A4 x with
  |some (xs,n)=>some (List.zipWith fJ (List.range xs.length) xs,n)|none=>none
noncomputable def mi(t:Int):List ak->List PV->Option (List Int)
 |[],[]=>some []| .inl k::ks,.int v::vs=>(mi t ks vs).map λr=>if Builtin.bitAnd k t=0 then v::r else r|_,_=>none
noncomputable def yT(r:RV)(t:Option TV):Option RV:=match r,t with
 | .frz (.dK ks vs) _,some (.frz (.int t) _)=>if ks.length<=LN then(mi t ks vs).map λa=>.own (a.map PV.int) true else none|_,_=>none
section
variable(cd:Nat->List PV->Option PV)
noncomputable def mf:PV->RV
 | .lst xs=>.own xs true|v=>.frz v true
mutual
noncomputable def ah:IE->En->Option RV
 | .con v,_=>some (sc v)
 | .var i,τ=>vA τ i
 | .bin op a b,τ=>(ah a τ).bind λx=>(ah b τ).bind λy=>eO op x y
 | .neg a,τ=>(ah a τ).bind λx=>(Du x.val).map λi=>sc (.int (-i))
 | .cmp op a b,τ=>(ah a τ).bind λx=>(ah b τ).bind λy=>(ar op x.val y.val).map λr=>sc (.bl r)
 | .chn o1 o2 a b c,τ=>(ah a τ).bind λx=>(ah b τ).bind λy=>(ar o1 x.val y.val).bind λr=>if r then(ah c τ).bind λz=>(ar o2 y.val z.val).map λr=>sc (.bl r)else some (sc (.bl false))
 | .and a b,τ=>(ah a τ).bind λx=>(j8 x.val).bind λt=>if t then ah b τ else some (sc (.bl false))
 | .or a b,τ=>(ah a τ).bind λx=>(j8 x.val).bind λt=>if t then some (sc (.bl true))else ah b τ
 | .not a,τ=>(ah a τ).bind λx=>(j8 x.val).map λb=>sc (.bl !b)
 | .ite c a b,τ=>(gA c τ).bind λr=>if r then ah a τ else ah b τ
 | .call f es,τ=>(fO es τ).bind λrs=>(cd f (rs.map RV.val)).map mf
 | .bf f es,τ=>(fO es τ).bind λrs=>oU f rs
 | .lst es,τ=>(fO es τ).bind λrs=>(keeps rs).bind fun(vs,n)=>re vs n
 | .tup es,τ=>(fO es τ).bind λrs=>(keeps rs).bind fun(vs,n)=>rZ vs n
 | .dnew,_=>some (.owd (.dK []) [] true)
 | .dlit k e,τ=>(ah e τ).bind λr=>r.keep.bind fun(v,_)=>if imm v then some (.owd (.dK [k]) [v] true)else none
 | .ix a i,τ=>(ah a τ).bind λx=>(ah i τ).bind λy=>jx x y
 | .sl a lo hi,τ=>(ah a τ).bind λx=>(IG lo τ).bind λl=>(IG hi τ).bind λh=>(sQ l).bind λl' =>(sQ h).bind λh' =>slice x l' h'
 | .lc elt src ifs caps,τ=>(qF src τ).bind fun(xs,n,_)=>if xs.length<=LN then(bm (λx=>(jV ifs (.frz x (n||imm x)::caps.map λi=>τ.getD i .un)).bind λb =>
   if b then(ah elt (.frz x (n||imm x)::caps.map λi=>τ.getD i .un)).bind λr=>r.keep.map some else some none) xs).map fun(vs,m)=>.own vs m else none
 | .lc2 elt src ifs caps,τ=>(qF src τ).bind fun(xs,n,_)=>if xs.length<=LN then(bm (λx=>(lI x).bind fun(a,b)=>(jV ifs (.frz a (n||imm a)::.frz b (n||imm b)::caps.map λi=>τ.getD i .un)).bind λt =>
   if t then(ah elt (.frz a (n||imm a)::.frz b (n||imm b)::caps.map λi=>τ.getD i .un)).bind λr=>r.keep.map some else some none) xs).map fun(vs,m)=>.own vs m else none
 | .lci a i,τ=>(ah a τ).bind λx=>yT x τ[i]?
 | .never,_=>none
noncomputable def fO:Ev->En->Option (List RV)
 | .nil,_=>some []
 | .cons e es,τ=>(ah e τ).bind λx=>(fO es τ).map (x::·)
noncomputable def IG:IO->En->Option (Option RV)
 | .no,_=>some none
 | .yes e,τ=>(ah e τ).map some
noncomputable def gA:IC->En->Option Bool
 | .val e,τ=>(ah e τ).bind λx=>qm x.val
 | .not c,τ=>(gA c τ).map (!·)
 | .and c d,τ=>(gA c τ).bind λr=>if r then gA d τ else some false
 | .or c d,τ=>(gA c τ).bind λr=>if r then some true else gA d τ
noncomputable def jV:Fb->En->Option Bool
 | .no,_=>some true
 | .yes c,τ=>gA c τ
noncomputable def qF:IT->En->Option (List PV×Bool×Bool)
 | .seq e,τ=>(ah e τ).bind ku
 | .rng es,τ=>(fO es τ).bind λrs=>(kC rs).map λxs=>(xs,true,false)
 | .zip a b,τ=>(ah a τ).bind λx=>(ah b τ).bind λy=>(zL x y).map fun(xs,n)=>(xs,n,false)
 | .enum a,τ=>(ah a τ).bind λx=>(oD x).map fun(xs,n)=>(xs,n,false)
 | .rvd a,τ=>(ah a τ).bind λx=>(JT x).map fun(xs,n)=>(xs.reverse,n,false)
 | .never,_=>none
end
inductive Fl where
 | nx (τ:En)|bk (τ:En)|ct (τ:En)|rt (v:PV)
noncomputable def kZ(f:Fl)(k:En->Option Fl):Option Fl:=match f with
 | .nx τ=>k τ| .bk τ=>some (.bk τ)| .ct τ=>some (.ct τ)| .rt v=>some (.rt v)
noncomputable def pc(τ:En)(i:Nat):En :=
 match τ[i]? with
 |some (.own xs n)=>τ.set i (.frz (.lst xs) n)|some (.owd b xs n)=>τ.set i (.frz (b.pv xs) n)|_=>τ
noncomputable def br(cap:List Nat)(τ:En):En:=cap.foldl pc τ
noncomputable def o8(o:Bool)(i:Nat)(r:RV)(τ:En):Option En :=
 match o,r with
 |true,.own xs n=>some (τ.set i (.own xs n))|true,.owd b xs n=>some (τ.set i (.owd b xs n))|_,r=>r.keep.map fun(v,n)=>τ.set i (.frz v n)
noncomputable def du(n:Bool):List Nat->List PV->En->Option En
 |[],[],τ=>some τ|i::is,x::xs,τ=>du n is xs (τ.set i (.frz x (n||imm x)))
 |_,_,_=>none
noncomputable def ou(b:List Nat)(a n:Bool)(x:PV)(τ:En):Option En :=
 if a then du n b [x] τ else match x with
  | .tup xs=>du n b xs τ|_=>none
noncomputable def setU(a:List Nat)(n:Bool)(x:PV)(τ:En):Option En:=match x with
 | .tup xs=>du n a xs τ| .lst xs=>du n a xs τ|_=>none
noncomputable def lm(set:PV->En->Option En)(body:En->Option Fl):List PV->En->Option Fl
 |[],τ=>some (.nx τ)|x::xs,τ=>(set x τ).bind λb=>(body b).bind λf=>match f with
  | .nx a=>lm set body xs a| .ct a=>lm set body xs a| .bk a=>some (.nx a)| .rt v=>some (.rt v)
noncomputable def FB(c:En->Option Bool)(body:En->Option Fl):Nat->En->Option Fl
 |0,_=>none|k+1,τ=>(c τ).bind λb=>if b then(body τ).bind λf=>(match f with
  | .nx a=>FB c body k a| .ct a=>FB c body k a| .bk a=>some (.nx a)| .rt v=>some (.rt v))else some (.nx τ)
variable(fu:Nat)
mutual
noncomputable def jB:IS->En->Option Fl
 | .asg i o cap e,τ=>let τ1:=br cap τ;(ah cd e τ1).bind λr=>(o8 o i r τ1).map .nx
 | .ret cap e,τ=>let τ1:=br cap τ;(ah cd e τ1).bind λr=>r.keep.bind fun(v,n)=>if n then some (.rt v)else none
 | .retN,_=>some (.rt .non)
 | .ife c a b,τ=>(gA cd c τ).bind λr=>if r then bx a τ else bx b τ
 | .forr is one cap src body,τ=>let τ1:=br cap τ;(qF cd src τ1).bind fun(xs,n,b)=>if b then none else lm (ou is one n) (λτ=>bx body τ) xs τ1
 | .whil c body,τ=>FB (λτ=>gA cd c τ) (λτ=>bx body τ) fu τ
 | .pass,τ=>some (.nx τ)
 | .brk,τ=>some (.bk τ)
 | .cont,τ=>some (.ct τ)
 | .app i cap e,τ=>let τ1:=br cap τ;(ah cd e τ1).bind λr=>r.keep.bind fun(v,m)=>match τ1[i]? with
  | some (.own xs n)=>if xs.length<LN then some (.nx (τ1.set i (.own (xs++[v]) (n&&m))))else none
  | _=>none
 | .drop e,τ=>(ah cd e τ).map λ_=>.nx τ
 | .aug i op e,τ=>(ah cd e τ).bind λr=>match τ[i]?,r.val,op with
  | some (.frz (.int x) _),.int y,.Add=>some (.nx (τ.set i (.frz (.int (x+y)) true)))
  | some (.frz (.int x) _),.int y,.Sub=>some (.nx (τ.set i (.frz (.int (x-y)) true)))
  | _,_,_=>none
 | .hand m g,τ=>(g ((τ.take m).map TV.valD)).map .rt
 | .rais _,_=>none
 | .never,_=>none
noncomputable def bx:zK->En->Option Fl
 | .nil,τ=>some (.nx τ)
 | .cons s ss,τ=>(jB s τ).bind λf=>kZ f (λτ1=>bx ss τ1)
end
end
structure FD where
 nn:Nat
 np:Nat
 body:zK
noncomputable def entry(d:FD)(vs:List PV):En:=vs.map (λv=>.frz v (imm v))++List.replicate (d.nn-vs.length) .un
noncomputable def dz:Option Fl->Option PV
 |some (.rt v)=>some v|some (.nx _)=>some .non|_=>none
noncomputable def aG(P:Nat->Option FD):Nat->Nat->List PV->Option PV
 |0,_,_=>none|k+1,f,vs=>(P f).bind λd=>if vs.length=d.np then dz (bx (aG P k) 1000000 d.body (entry d vs))else none
section
set_option autoImplicit true
set_option relaxedAutoImplicit true
variable{cd:Nat->List PV->Option PV}{fu:Nat}{τ:En}
theorem dZ:ah cd (.con v) τ=(some (sc v)):=rfl
theorem dL:ah cd (.var i) τ=(vA τ i):=rfl
theorem dg:ah cd (.bin op a b) τ=((ah cd a τ).bind λx=>(ah cd b τ).bind λy=>eO op x y):=rfl
theorem dP:ah cd (.neg a) τ=((ah cd a τ).bind λx=>(Du x.val).map λi=>sc (.int (-i))):=rfl
theorem dc:ah cd (.cmp op a b) τ=((ah cd a τ).bind λx=>(ah cd b τ).bind λy=>(ar op x.val y.val).map λr=>sc (.bl r)):=rfl
theorem de:ah cd (.chn o1 o2 a b c) τ=((ah cd a τ).bind λx=>(ah cd b τ).bind λy=>(ar o1 x.val y.val).bind λr=>if r then(ah cd c τ).bind λz=>(ar o2 y.val z.val).map λr=>sc (.bl r)else some (sc (.bl false))):=rfl
theorem di:ah cd (.and a b) τ=((ah cd a τ).bind λx=>(j8 x.val).bind λt=>if t then ah cd b τ else some (sc (.bl false))):=rfl
theorem dm:ah cd (.or a b) τ=((ah cd a τ).bind λx=>(j8 x.val).bind λt=>if t then some (sc (.bl true))else ah cd b τ):=rfl
theorem dO:ah cd (.not a) τ=((ah cd a τ).bind λx=>(j8 x.val).map λb=>sc (.bl !b)):=rfl
theorem dX:ah cd (.ite c a b) τ=((gA cd c τ).bind λr=>if r then ah cd a τ else ah cd b τ):=rfl
theorem df:ah cd (.call f es) τ=((fO cd es τ).bind λrs=>(cd f (rs.map RV.val)).map mf):=rfl
theorem dh:ah cd (.bf f es) τ=((fO cd es τ).bind λrs=>oU f rs):=rfl
theorem dQ:ah cd (.lst es) τ=((fO cd es τ).bind λrs=>(keeps rs).bind fun(vs,n)=>re vs n):=rfl
theorem dM:ah cd (.tup es) τ=((fO cd es τ).bind λrs=>(keeps rs).bind fun(vs,n)=>rZ vs n):=rfl
theorem dr:ah cd (.dnew) τ=(some (.owd (.dK []) [] true)):=rfl
theorem dY:ah cd (.dlit k e) τ=((ah cd e τ).bind λr=>r.keep.bind fun(v,_)=>if imm v then some (.owd (.dK [k]) [v] true)else none):=rfl
theorem dW:ah cd (.ix a i) τ=((ah cd a τ).bind λx=>(ah cd i τ).bind λy=>jx x y):=rfl
theorem dN:ah cd (.sl a lo hi) τ=((ah cd a τ).bind λx=>(IG cd lo τ).bind λl=>(IG cd hi τ).bind λh=>(sQ l).bind λb =>(sQ h).bind λh' =>slice x b h'):=rfl
theorem dU:ah cd (.lc elt src ifs caps) τ=((qF cd src τ).bind fun(xs,n,_)=>if xs.length<=LN then(bm (λx=>(jV cd ifs (.frz x (n||imm x)::caps.map λi=>τ.getD i .un)).bind λb =>
   if b then(ah cd elt (.frz x (n||imm x)::caps.map λi=>τ.getD i .un)).bind λr=>r.keep.map some else some none) xs).map fun(vs,m)=>.own vs m else none):=rfl
theorem dS:ah cd (.lc2 elt src ifs caps) τ=((qF cd src τ).bind fun(xs,n,_)=>if xs.length<=LN then(bm (λx=>(lI x).bind fun(a,b)=>(jV cd ifs (.frz a (n||imm a)::.frz b (n||imm b)::caps.map λi=>τ.getD i .un)).bind λt =>
   if t then(ah cd elt (.frz a (n||imm a)::.frz b (n||imm b)::caps.map λi=>τ.getD i .un)).bind λr=>r.keep.map some else some none) xs).map fun(vs,m)=>.own vs m else none):=rfl
theorem dR:ah cd (.lci a i) τ=((ah cd a τ).bind λx=>yT x τ[i]?):=rfl
theorem dq:ah cd (.never) τ=(none):=rfl
theorem Cg:fO cd (.nil) τ=(some []):=rfl
theorem Ch:fO cd (.cons e es) τ=((ah cd e τ).bind λx=>(fO cd es τ).map (x::·)):=rfl
theorem z0u:IG cd (.no) τ=(some none):=rfl
theorem z0v:IG cd (.yes e) τ=((ah cd e τ).map some):=rfl
theorem zM:gA cd (.val e) τ=((ah cd e τ).bind λx=>qm x.val):=rfl
theorem zO:gA cd (.not c) τ=((gA cd c τ).map (!·)):=rfl
theorem zP:gA cd (.and c d) τ=((gA cd c τ).bind λr=>if r then gA cd d τ else some false):=rfl
theorem zN:gA cd (.or c d) τ=((gA cd c τ).bind λr=>if r then some true else gA cd d τ):=rfl
theorem Ff:jV cd (.no) τ=(some true):=rfl
theorem Fe:jV cd (.yes c) τ=(gA cd c τ):=rfl
theorem Cb:qF cd (.seq e) τ=((ah cd e τ).bind ku):=rfl
theorem Cd:qF cd (.rng es) τ=((fO cd es τ).bind λrs=>(kC rs).map λxs=>(xs,true,false)):=rfl
theorem Ca:qF cd (.zip a b) τ=((ah cd a τ).bind λx=>(ah cd b τ).bind λy=>(zL x y).map fun(xs,n)=>(xs,n,false)):=rfl
theorem Ce:qF cd (.enum a) τ=((ah cd a τ).bind λx=>(oD x).map fun(xs,n)=>(xs,n,false)):=rfl
theorem Cc:qF cd (.rvd a) τ=((ah cd a τ).bind λx=>(JT x).map fun(xs,n)=>(xs.reverse,n,false)):=rfl
theorem Ez:qF cd (.never) τ=(none):=rfl
theorem i9:jB cd fu (.asg i o cap e) τ=(let a:=br cap τ;(ah cd e a).bind λr=>(o8 o i r a).map .nx):=rfl
theorem ij:jB cd fu (.ret cap e) τ=(let a:=br cap τ;(ah cd e a).bind λr=>r.keep.bind fun(v,n)=>if n then some (.rt v)else none):=rfl
theorem ii:jB cd fu (.retN) τ=(some (.rt .non)):=rfl
theorem iu:jB cd fu (.ife c a b) τ=((gA cd c τ).bind λr=>if r then bx cd fu a τ else bx cd fu b τ):=rfl
theorem iz:jB cd fu (.forr is one cap src body) τ=(let a:=br cap τ;(qF cd src a).bind fun(xs,n,b)=>if b then none else lm (ou is one n) (λτ=>bx cd fu body τ) xs a):=rfl
theorem ig:jB cd fu (.whil c body) τ=(FB (λτ=>gA cd c τ) (λτ=>bx cd fu body τ) fu τ):=rfl
theorem io:jB cd fu (.pass) τ=(some (.nx τ)):=rfl
theorem i7:jB cd fu (.brk) τ=(some (.bk τ)):=rfl
theorem i6:jB cd fu (.cont) τ=(some (.ct τ)):=rfl
theorem jA:jB cd fu (.app i cap e) τ=(let a:=br cap τ;(ah cd e a).bind λr=>r.keep.bind fun(v,m)=>match a[i]? with
  |some (.own xs n)=>if xs.length<LN then some (.nx (a.set i (.own (xs++[v]) (n&&m))))else none|_=>none):=rfl
theorem i5:jB cd fu (.drop e) τ=((ah cd e τ).map λ_=>.nx τ):=rfl
theorem i8:jB cd fu (.aug i op e) τ=((ah cd e τ).bind λr=>match τ[i]?,r.val,op with
  |some (.frz (.int x) _),.int y,.Add=>some (.nx (τ.set i (.frz (.int (x+y)) true)))|some (.frz (.int x) _),.int y,.Sub=>some (.nx (τ.set i (.frz (.int (x-y)) true)))|_,_,_=>none):=rfl
theorem iw:jB cd fu (.hand m g) τ=((g ((τ.take m).map TV.valD)).map .rt):=rfl
theorem ik:jB cd fu (.rais w1) τ=(none):=rfl
theorem ir:jB cd fu (.never) τ=(none):=rfl
theorem zH:bx cd fu (.nil) τ=(some (.nx τ)):=rfl
theorem zI:bx cd fu (.cons s ss) τ=((jB cd fu s τ).bind λf=>kZ f (λa=>bx cd fu ss a)):=rfl
end
end IR
namespace IR
open PySem PySem.Spec PyProof.Rows L2
noncomputable def del(H:Hp)(p:Addr):Hp:=λb=>if b=p then none else H b
noncomputable def aZ(H:Hp)(O:List Addr):Hp:=λb=>if b∈O then none else H b
theorem fP(s:aE H a):aE (del H p) (del a p):=λb o e=>by
 unfold del at e ⊢
 split at e;cases e
 ·rename_i h
  rw[MV h];exact s b o e
theorem aS(s:aE H a):aE (aZ H O) (aZ a O):=λb o e=>by
 unfold aZ at e ⊢
 split at e;cases e
 ·rename_i h
  rw[MV h];exact s b o e
theorem be:aE (del H p) H:=λb o e=>by
 unfold del at e
 split at e;cases e;exact e
theorem aT:aE (aZ H O) H:=λb o e=>by
 unfold aZ at e
 split at e;cases e;exact e
theorem wu(h:∀b∈a,b∈O):aE (aZ H O) (aZ H a):=λb o e=>by
 unfold aZ at e ⊢
 split at e;cases e
 ·rename_i n
  rw[MV λz=>n (h b z)];exact e
theorem Dy:aZ H []=H:=by funext b;unfold aZ;simp
section
variable(K:W.Frag)(Hi:Hp)
mutual
noncomputable def Rp(n:Bool):PV->Hp->V->Prop
 | .non,_,u=>u=.non
 | .bl b,_,u=>u=.bl b
 | .int i,_,u=>u=.int i
 | .str z,_,u=>u=.str z
 | .lst xs,H,u=>∃p us,u=.ref p/\(n=true->Hi p=none/\H p=some (.lst us))/\bR K H p us/\aI n xs (del H p) us
 | .tup xs,H,u=>∃p us,u=.ref p/\bg K H p us/\aI n xs H us
 | .dK ks vs,H,u=>∃p us,u=.ref p/\(n=true->Hi p=none)/\H p=some (.dK (ks.zip us))/\ks.length=us.length/\aI n vs (del H p) us
 | .dT ks vs,H,u=>∃p us,u=.ref p/\(n=true->Hi p=none)/\H p=some (.dT (ks.zip us))/\ks.length=us.length/\aI n vs (del H p) us
noncomputable def aI(n:Bool):List PV->Hp->List V->Prop
 | [],_,us=>us=[]
 | x::xs,H,us=>∃u r,us=u::r/\Rp n x H u/\aI n xs H r
end
end
section
variable{K:W.Frag}{Hi:Hp}
mutual
theorem Rp.mono{n:Bool}:∀{v:PV}{H H' :Hp}{u:V},aE H H' ->Rp K Hi n v H u->Rp K Hi n v H' u
 | .non,_,_,_,_,h=>h
 | .bl _,_,_,_,_,h=>h
 | .int _,_,_,_,_,h=>h
 | .str _,_,_,_,_,h=>h
 | .lst xs,_,_,_,s,h=>by
  show∃_,_;obtain⟨p,us,e,q,l,r⟩:=h;exact⟨p,us,e,λz=>⟨(q z).1,s _ _ (q z).2⟩,s.seq l,aI.mono (fP s) r⟩
 | .tup xs,_,_,_,s,h=>by
  show∃_,_;obtain⟨p,us,e,l,r⟩:=h;exact⟨p,us,e,s.tup l,aI.mono s r⟩
 | .dK ks vs,_,_,_,s,h=>by
  show∃_,_;obtain⟨p,us,e,q,l,z,r⟩:=h;exact⟨p,us,e,q,s _ _ l,z,aI.mono (fP s) r⟩
 | .dT ks vs,_,_,_,s,h=>by
  show∃_,_;obtain⟨p,us,e,q,l,z,r⟩:=h;exact⟨p,us,e,q,s _ _ l,z,aI.mono (fP s) r⟩
theorem aI.mono{n:Bool}:∀{xs:List PV}{H H' :Hp}{us:List V},aE H H' ->aI K Hi n xs H us->aI K Hi n xs H' us
 | [],_,_,_,_,h=>h
 | x::xs,_,_,_,s,h=>by
  show∃_,_;obtain⟨u,r,e,a,b⟩:=h;exact⟨u,r,e,Rp.mono s a,aI.mono s b⟩
end
mutual
theorem Rp.weak{n:Bool}:∀{v:PV}{H:Hp}{u:V},Rp K Hi n v H u->Rp K Hi false v H u
 | .non,_,_,h=>h
 | .bl _,_,_,h=>h
 | .int _,_,_,h=>h
 | .str _,_,_,h=>h
 | .lst xs,_,_,h=>by
  show∃_,_;obtain⟨p,us,e,q,l,r⟩:=h;exact⟨p,us,e,(λz=>absurd z Mc),l,aI.weak r⟩
 | .tup xs,_,_,h=>by
  show∃_,_;obtain⟨p,us,e,l,r⟩:=h;exact⟨p,us,e,l,aI.weak r⟩
 | .dK ks vs,_,_,h=>by
  show∃_,_;obtain⟨p,us,e,q,l,z,r⟩:=h;exact⟨p,us,e,(λz=>absurd z Mc),l,z,aI.weak r⟩
 | .dT ks vs,_,_,h=>by
  show∃_,_;obtain⟨p,us,e,q,l,z,r⟩:=h;exact⟨p,us,e,(λz=>absurd z Mc),l,z,aI.weak r⟩
theorem aI.weak{n:Bool}:∀{xs:List PV}{H:Hp}{us:List V},aI K Hi n xs H us->aI K Hi false xs H us
 | [],_,_,h=>h
 | x::xs,_,_,h=>by
  show∃_,_;obtain⟨u,r,e,a,b⟩:=h;exact⟨u,r,e,Rp.weak a,aI.weak b⟩
end
set_option tactic.hygienic false
theorem Rp.low(h:Rp K Hi n v H u)(e:m=true->n=true):Rp K Hi m v H u:=by
 cases n with
 |true=>cases m with
  |true=>exact h|false=>exact h.weak
 |false=>cases m with
  |true=>cases e rfl|false=>exact h
theorem aI.low(h:aI K Hi n v H u)(e:m=true->n=true):aI K Hi m v H u:=by
 cases n with
 |true=>cases m with
  |true=>exact h|false=>exact h.weak
 |false=>cases m with
  |true=>cases e rfl|false=>exact h
set_option tactic.hygienic true
mutual
theorem Rp.entry{Hj:Hp}{n:Bool}(k:n=true->∀p,Hi p=none->Hj p=none):∀{v:PV}{H:Hp}{u:V},Rp K Hi n v H u->Rp K Hj n v H u
 | .non,_,_,h=>h
 | .bl _,_,_,h=>h
 | .int _,_,_,h=>h
 | .str _,_,_,h=>h
 | .lst xs,_,_,h=>by
  show∃_,_;obtain⟨p,us,e,q,l,r⟩:=h;exact⟨p,us,e,λz=>⟨k z _ (q z).1,(q z).2⟩,l,aI.entry k r⟩
 | .tup xs,_,_,h=>by
  show∃_,_;obtain⟨p,us,e,l,r⟩:=h;exact⟨p,us,e,l,aI.entry k r⟩
 | .dK ks vs,_,_,h=>by
  show∃_,_;obtain⟨p,us,e,q,l,z,r⟩:=h;exact⟨p,us,e,λz=>k z _ (q z),l,z,aI.entry k r⟩
 | .dT ks vs,_,_,h=>by
  show∃_,_;obtain⟨p,us,e,q,l,z,r⟩:=h;exact⟨p,us,e,λz=>k z _ (q z),l,z,aI.entry k r⟩
theorem aI.entry{Hj:Hp}{n:Bool}(k:n=true->∀p,Hi p=none->Hj p=none):∀{xs:List PV}{H:Hp}{us:List V},aI K Hi n xs H us->aI K Hj n xs H us
 | [],_,_,h=>h
 | x::xs,_,_,h=>by
  show∃_,_;obtain⟨u,r,e,a,b⟩:=h;exact⟨u,r,e,Rp.entry k a,aI.entry k b⟩
end
def vh(H G:Hp):Prop:=(∀b xs,H b=some (.tup xs)->G b=some (.tup xs))/\∀b o xs,H b=some (.frz o (.tup xs))->G b=some (.frz o (.tup xs))
theorem vh.at(t:vh H G)(h:bg K H p xs):bg K G p xs:=by
 rcases h with(h|⟨o,h⟩)|h
 ·exact .inl (.inl (t.1 _ _ h))
 ·exact .inl (.inr ⟨o,t.2 _ _ _ h⟩)
 ·exact .inr h
mutual
theorem Rp.imm{n m:Bool}:∀{v:PV}{H G:Hp}{u:V},imm v=true->vh H G->Rp K Hi n v H u->Rp K Hi m v G u
 | .non,_,_,_,_,_,h=>h
 | .bl _,_,_,_,_,_,h=>h
 | .int _,_,_,_,_,_,h=>h
 | .str _,_,_,_,_,_,h=>h
 | .lst xs,_,_,_,i,_,h=>by unfold IR.imm at i;cases i
 | .tup xs,_,_,_,i,t,h=>by
  show∃_,_;unfold IR.imm at i;obtain⟨p,us,e,l,r⟩:=h;exact⟨p,us,e,t.at l,aI.imm i t r⟩
 | .dK ks vs,_,_,_,i,_,h=>by unfold IR.imm at i;cases i
 | .dT ks vs,_,_,_,i,_,h=>by unfold IR.imm at i;cases i
theorem aI.imm{n m:Bool}:∀{xs:List PV}{H G:Hp}{us:List V},imms xs=true->vh H G->aI K Hi n xs H us->aI K Hi m xs G us
 | [],_,_,_,_,_,h=>h
 | x::xs,_,_,_,i,t,h=>by
  show∃_,_;unfold imms at i;rw[MY]at i;obtain⟨u,r,e,a,b⟩:=h;exact⟨u,r,e,Rp.imm i.1 t a,aI.imm i.2 t b⟩
end
set_option tactic.hygienic false
theorem Rp.up(h:Rp K Hi n v H u):Rp K Hi (n||IR.imm v) v H u:=by
 cases e:IR.imm v with
 |true=>rw[Bool.or_true];exact Rp.imm e ⟨λ_ _ e=>e,λ_ _ _ e=>e⟩ h|false=>rw[Bool.or_false];exact h
theorem aI.up(h:aI K Hi n v H u):aI K Hi (n||IR.imms v) v H u:=by
 cases e:IR.imms v with
 |true=>rw[Bool.or_true];exact aI.imm e ⟨λ_ _ e=>e,λ_ _ _ e=>e⟩ h|false=>rw[Bool.or_false];exact h
theorem aI.len{n:Bool}:∀{xs:List PV}{H:Hp}{c:List V},aI K Hi n xs H c->xs.length=c.length
 |[],_,_,h=>by rw[show _=_ from h];rfl|x::xs,_,_,h=>by
  obtain⟨u,r,e,a,b⟩:=h;rw[e,Ma,Ma,aI.len b]
theorem aI.at{n:Bool}:∀{xs:List PV}{H:Hp}{c:List V}{i:Nat}{x:PV},aI K Hi n xs H c->xs[i]? =some x->∃u,c[i]? =some u/\Rp K Hi n x H u
 |[],_,_,_,_,h,e=>by simp at e|y::xs,_,_,i,x,h,e=>by
  obtain⟨u,r,rfl,a,b⟩:=h;cases i with
  |zero=>simp at e;subst e;exact⟨u,by simp,a⟩|succ i=>simpa using aI.at (i:=i) (x:=x) b (by simpa using e)
theorem aI.at'{n:Bool}:∀{xs:List PV}{H:Hp}{c:List V}{i:Nat}{u:V},aI K Hi n xs H c->c[i]? =some u->∃x,xs[i]? =some x/\Rp K Hi n x H u
 |[],_,_,_,_,h,e=>by obtain rfl:=h;simp at e|y::xs,_,_,i,x,h,e=>by
  obtain⟨u,r,rfl,a,b⟩:=h;cases i with
  |zero=>simp at e;subst e;exact⟨y,by simp,a⟩|succ i=>simpa using aI.at' (i:=i) (u:=x) b (by simpa using e)
theorem aI.nil{n:Bool}{H:Hp}:aI K Hi n [] H []:=by rfl
theorem aI.cons{n:Bool}{x:PV}{xs:List PV}{H:Hp}{u:V}{c:List V}(a:Rp K Hi n x H u)(b:aI K Hi n xs H c):aI K Hi n (x::xs) H (u::c):=by show∃_,_;exact⟨u,c,rfl,a,b⟩
theorem aI.app{n:Bool}:∀{xs d:List PV}{H:Hp}{c vs:List V},aI K Hi n xs H c->aI K Hi n d H vs->aI K Hi n (xs++d) H (c++vs)
 |[],_,_,_,_,h,g=>by obtain rfl:=h;exact g|x::xs,_,_,_,_,h,g=>by
  obtain⟨u,r,rfl,a,b⟩:=h;exact .cons a (aI.app b g)
theorem aI.take{n:Bool}:∀{xs:List PV}{H:Hp}{c:List V}(k:Nat),aI K Hi n xs H c->aI K Hi n (xs.take k) H (c.take k)
 |[],_,_,_,h=>by obtain rfl:=h;simp;exact .nil|x::xs,_,_,k,h=>by
  obtain⟨u,r,rfl,a,b⟩:=h;cases k with
  |zero=>exact .nil|succ k=>exact .cons a (aI.take k b)
theorem aI.drop{n:Bool}:∀{xs:List PV}{H:Hp}{c:List V}(k:Nat),aI K Hi n xs H c->aI K Hi n (xs.drop k) H (c.drop k)
 |[],_,_,_,h=>by obtain rfl:=h;simp;exact .nil|x::xs,_,_,k,h=>by
  obtain⟨u,r,rfl,a,b⟩:=h;cases k with
  |zero=>exact .cons a b|succ k=>exact aI.drop k b
theorem aI.set{n:Bool}:∀{xs:List PV}{H:Hp}{c:List V}(k:Nat){x:PV}{u:V},aI K Hi n xs H c->Rp K Hi n x H u->aI K Hi n (xs.set k x) H (c.set k u)
 |[],_,_,_,_,_,h,_=>by obtain rfl:=h;exact .nil|y::xs,_,_,k,_,_,h,g=>by
  obtain⟨u,r,rfl,a,b⟩:=h;cases k with
  |zero=>exact .cons g b|succ k=>exact .cons a (aI.set k b g)
theorem Rp.int:Rp K Hi n (.int i) H u↔u=.int i:=.rfl
theorem Rp.str:Rp K Hi n (.str i) H u↔u=.str i:=.rfl
theorem Rp.bl:Rp K Hi n (.bl i) H u↔u=.bl i:=.rfl
theorem Rp.non:Rp K Hi n .non H u↔u=.non:=.rfl
theorem Rp.tup{n:Bool}{xs:List PV}{H:Hp}{u:V}:Rp K Hi n (.tup xs) H u↔∃p a,u=.ref p/\bg K H p a/\aI K Hi n xs H a:=.rfl
theorem Rp.lst{n:Bool}{xs:List PV}{H:Hp}{u:V}:Rp K Hi n (.lst xs) H u↔∃p a,u=.ref p/\(n=true->Hi p=none/\H p=some (.lst a))/\bR K H p a/\aI K Hi n xs (del H p) a:=.rfl
theorem aI.ints{n:Bool}{H:Hp}:∀{xs:List Int}{c:List V},aI K Hi n (xs.map PV.int) H c↔c=xs.map V.int
 |[],c=>by rfl|x::xs,c=>by
  rw[Mg,Mg,aI]
  constructor
  ·rintro⟨u,r,rfl,a,b⟩
   rw[Rp.int.mp a,aI.ints.mp b]
  ·rintro rfl
   exact⟨_,_,rfl,Rp.int.mpr rfl,aI.ints.mpr rfl⟩
noncomputable def At:Bd->List V->HO->Prop
 | .lst,us,o=>o=.lst us| .dK ks,us,o=>o=.dK (ks.zip us)/\ks.length=us.length| .dT ks,us,o=>o=.dT (ks.zip us)/\ks.length=us.length
def Mo(o:HO):Prop:=∃b a,At b a o
theorem Mo.lst{a:List V}:Mo (.lst a):=⟨.lst,a,rfl⟩
theorem Mo.tup{xs:List V}(h:Mo (.tup xs)):False:=by
 obtain⟨b,c,h⟩:=h;cases b with
 |lst=>cases h|dK a=>cases h.1|dT a=>cases h.1
variable(K Hi)in
structure av(O:List Addr)(τ:En)(σ:L2.St)(H:Hp):Prop where
 same:aE Hi H
 own:∀l∈O,Hi l=none/\∃o,H l=some o/\Mo o
 frz:∀(i:Nat)(v:PV)(n:Bool),τ[i]? =some (.frz v n)->∃u,σ[i]? =some (some u)/\Rp K Hi n v (aZ H O) u
 obs:∀(i:Nat)(t:TV)(b:Bd)(xs:List PV)(n:Bool),τ[i]? =some t->t.ob=some (b,xs,n)->∃l us o,σ[i]? =some (some (.ref l))/\l∈O/\H l=some o/\At b us o/\aI K Hi n xs (aZ H O) us
 dst:∀(i j:Nat)(t t' :TV)(x y:Bd×List PV×Bool)(l:Addr),τ[i]? =some t->t.ob=some x->τ[j]? =some t' ->t'.ob=some y->σ[i]? =some (some (.ref l))->σ[j]? =some (some (.ref l))->i=j
section
variable{O:List Addr}{τ:En}{σ:L2.St}{H H' :Hp}
theorem av.owns(R:av K Hi O τ σ H)(i:Nat)(xs:List PV)(n:Bool)(e:τ[i]? =some (.own xs n)):∃l a,σ[i]? =some (some (.ref l))/\l∈O/\H l=some (.lst a)/\aI K Hi n xs (aZ H O) a:=by obtain⟨l,a,o,c,g,b,f,d⟩:=R.obs i _ .lst xs n e rfl;cases f;exact⟨l,a,c,g,b,d⟩
theorem av.ext(R:av K Hi O τ σ H)(s:aE H H'):av K Hi O τ σ H' where
 same:=R.same.trans s
 own:=λl d=>⟨(R.own l d).1,by obtain⟨o,e,m⟩:=(R.own l d).2;exact⟨o,s _ _ e,m⟩⟩
 frz:=λi v n e=>by obtain⟨u,a,c⟩:=R.frz i v n e;exact⟨u,a,c.mono (aS s)⟩
 obs:=λi t b xs n e k=>by obtain⟨l,h,o,a,c,f,j,g⟩:=R.obs i t b xs n e k;exact⟨l,h,o,a,c,s _ _ f,j,g.mono (aS s)⟩
 dst:=R.dst
theorem av.tups(R:av K Hi O τ σ H):vh H (aZ H O):=by
 refine⟨λb xs e=> ?_,λb o xs e=> ?_⟩
 ·unfold aZ
  rw[MV λz=> ?_]
  ·exact e
  ·obtain⟨c,a,m⟩:=(R.own b z).2
   rw[e]at a;cases a;exact m.tup
 ·unfold aZ
  rw[MV λz=> ?_]
  ·exact e
  ·obtain⟨c,a,m⟩:=(R.own b z).2
   rw[e]at a;cases a;obtain⟨b,c,m⟩:=m;cases b with
   |lst=>cases m|dK d=>cases m.1|dT d=>cases m.1
set_option tactic.hygienic true in
theorem bH{a:Type}{l:List a}{i j:Nat}{x y:a}(h:(l.set i x)[j]? =some y):(i=j/\y=x)\/(i≠j/\l[j]? =some y):=by
 rw[Ow]at h
 split at h
 ·rename_i e
  split at h;exact .inl ⟨e,(Mv h).symm⟩;cases h
 ·rename_i e
  exact .inr ⟨e,h⟩
theorem av.setF(R:av K Hi O τ σ H){i:Nat}{v:PV}{n:Bool}{u:V}(F:i<σ.length)(r:Rp K Hi n v (aZ H O) u):av K Hi O (τ.set i (.frz v n)) (σ.set i (some u)) H where
 same:=R.same
 own:=R.own
 frz:=λj w m e=>by
  rcases bH e with⟨rfl,c⟩|⟨k,c⟩
  ·cases c
   exact⟨u,by rw[N6 F],r⟩
  ·obtain⟨C,d,f⟩:=R.frz j w m c
   exact⟨C,by rw[NZ k];exact d,f⟩
 obs:=λj t b xs m e h=>by
  rcases bH e with⟨rfl,c⟩|⟨k,c⟩
  ·subst c
   cases h
  ·obtain⟨l,E,o,d,f⟩:=R.obs j t b xs m c h
   exact⟨l,E,o,by rw[NZ k];exact d,f⟩
 dst:=λa b t t' x y l D h A g d f=>by
  rcases bH D with⟨_,z⟩|⟨q,s⟩
  ·subst z
   cases h
  ·rcases bH A with⟨_,z⟩|⟨p,B⟩
   ·subst z
    cases g
   ·rw[NZ q]at d
    rw[NZ p]at f;exact R.dst a b t t' x y l s h B g d f
set_option tactic.hygienic true
theorem av.setB(R:av K Hi O τ σ H)(u:P.ob=some (b0,xs,n))(I:i<σ.length)(s:aE H H')(h0:H p=none)(Q:H' p=some o)(M:At b0 G o)(r:aI K Hi n xs (aZ H' (p::O)) G) :
  av K Hi (p::O) (τ.set i P) (σ.set i (some (.ref p))) H' :=by
 have N:aE (aZ H O) (aZ H' (p::O)):=λb o e=>by
  unfold aZ at e ⊢
  split at e;cases e
  ·rename_i Z
   have z:b≠p:=aF e h0;rw[MV (by simp[z,Z])];exact s b o e
 have T:Hi p=none:=R.same.free h0;refine⟨R.same.trans s,λl F=> ?_,λj w m e=> ?_,λj t b ys m e h=> ?_,λa b t t' x y l e1 h L B f d=> ?_⟩
 ·rcases Mh.mp F with rfl|F
  ·exact⟨T,o,Q,_,_,M⟩
  ·obtain⟨q,vs,e,m⟩:=R.own l F
   exact⟨q,vs,s _ _ e,m⟩
 ·rcases bH e with⟨rfl,v⟩|⟨z,v⟩
  ·rw[<- v]at u
   cases u
  ·obtain⟨X,f,d⟩:=R.frz j w m v
   exact⟨X,by rw[NZ z];exact f,d.mono N⟩
 ·rcases bH e with⟨rfl,v⟩|⟨z,v⟩
  ·subst v
   rw[u]at h;cases h;exact⟨p,G,o,by rw[N6 I],MT,Q,M,r⟩
  ·obtain⟨l,vs,J,f,d,S,U,g5⟩:=R.obs j t b ys m v h
   exact⟨l,vs,J,by rw[NZ z];exact f,MS _ d,s _ _ S,U,g5.mono N⟩
 ·have A:∀(c:Nat)(t:TV)(x:Bd×List PV×Bool),τ[c]? =some t->t.ob=some x->σ[c]? =some (some (.ref l))->l≠p:=λc t x e h g=>by
   obtain⟨W,zs,q⟩:=x;obtain⟨l',vs,J,q1,q2,Y,_⟩:=R.obs c t W zs q e h;rw[q1]at g;cases g;exact aF Y h0
  rcases bH e1 with⟨rfl,D⟩|⟨E,D⟩
  ·rw[N6 I]at f
   cases f
   rcases bH L with⟨rfl,_⟩|⟨k,C⟩
   ·rfl
   ·rw[NZ k]at d
    exact absurd rfl (A b t' y C B d)
  ·rw[NZ E]at f
   rcases bH L with⟨rfl,C⟩|⟨k,C⟩
   ·rw[N6 I]at d
    cases d;exact absurd rfl (A a t x D h f)
   ·rw[NZ k]at d
    exact R.dst a b t t' x y l D h C B f d
theorem av.setO(R:av K Hi O τ σ H)(c:i<σ.length)(s:aE H H')(h0:H p=none)(b:H' p=some (.lst a))(r:aI K Hi n xs (aZ H' (p::O)) a) :
  av K Hi (p::O) (τ.set i (.own xs n)) (σ.set i (some (.ref p))) H' :=R.setB (b0:=.lst) rfl c s h0 b rfl r
theorem av.updB(R:av K Hi O τ σ H)(e:τ[i]? =some t)(D:t.ob=some (b,xs,n))(p:B.ob=some (b1,M,m))(A:σ[i]? =some (some (.ref l)))(E:At b1 C o)(r:aI K Hi m M (aZ H O) C) :
  av K Hi O (τ.set i B) σ (L2.upd H l o):=by
 obtain⟨l',vs,o',J,u,g3,g4,g5⟩:=R.obs i t b xs n e D;rw[A]at J;cases J;have F:aZ (L2.upd H l o) O=aZ H O:=by
  funext b
  unfold aZ
  split;rfl
  ·rename_i nb
   exact aB λz=>nb (z▸u)
 have U:=(R.own l u).1;have hi:i<τ.length:=(Mk.mp e).1;refine⟨λb o q=> ?_,λk Q=> ?_,λj w q z=> ?_,λj t2 b2 zs q z f=> ?_,λa b t2 s x y c e1 h2 W N P T=> ?_⟩
 ·rw[aB (aF q U)]
  exact R.same b o q
 ·obtain⟨q,v,z,mo⟩:=R.own k Q
  refine⟨q,?_⟩
  by_cases c:k=l
  ·subst c
   exact⟨o,aC,_,_,E⟩
  ·exact⟨v,by rw[aB c];exact z,mo⟩
 ·rw[F]
  rcases bH z with⟨rfl,d⟩|⟨G,d⟩
  ·rw[<- d]at p
   cases p
  ·exact R.frz j w q d
 ·rw[F]
  rcases bH z with⟨rfl,d⟩|⟨G,d⟩
  ·subst d
   rw[p]at f;cases f;exact⟨l,C,o,A,u,aC,E,r⟩
  ·obtain⟨I,v,o2,L,q2,Y,q4,q5⟩:=R.obs j t2 b2 zs q d f
   refine⟨I,v,o2,L,q2,?_,q4,q5⟩;rw[aB λc=> ?_]
   ·exact Y
   ·subst c
    exact G (R.dst i j t t2 _ _ I e D d f A L)
 ·have g:∀(c:Nat)(t2:TV)(x:Bd×List PV×Bool),(τ.set i B)[c]? =some t2->t2.ob=some x->∃(s:TV)(y:Bd×List PV×Bool),τ[c]? =some s/\s.ob=some y:=λc t2 x z h=>by
   rcases bH z with⟨rfl,_⟩|⟨_,d⟩
   ·exact⟨_,_,e,D⟩
   ·exact⟨_,_,d,h⟩
  obtain⟨_,_,S,Z⟩:=g a t2 x e1 h2;obtain⟨_,_,X,w2⟩:=g b s y W N;exact R.dst a b _ _ _ _ c S Z X w2 P T
theorem av.upd(R:av K Hi O τ σ H)(e:τ[i]? =some (.own xs n))(c:σ[i]? =some (some (.ref l)))(r:aI K Hi m b (aZ H O) a) :
  av K Hi O (τ.set i (.own b m)) σ (L2.upd H l (.lst a)):=R.updB (b1:=.lst) e rfl rfl c rfl r
set_option tactic.hygienic false
theorem Rp.at(e:n=true->Hi l=none)(h:G l=some o)(d:At b a o)(r:aI K Hi n xs (del G l) a):Rp K Hi n (b.pv xs) G (.ref l):=by
 cases b with
 |lst=>cases d;exact Rp.lst.mpr ⟨l,a,rfl,λz=>⟨e z,h⟩,bR.of h,r⟩|dK f =>
  obtain⟨rfl,c⟩:=d;show Rp K Hi n (.dK f xs) G (.ref l);show∃_,_;exact⟨l,a,rfl,e,h,c,r⟩
 |dT f =>
  obtain⟨rfl,c⟩:=d;show Rp K Hi n (.dT f xs) G (.ref l);show∃_,_;exact⟨l,a,rfl,e,h,c,r⟩
set_option tactic.hygienic true in
theorem av.freezeB(R:av K Hi O τ σ H)(e:τ[i]? =some t)(F:t.ob=some (b0,xs,n)):∃A,av K Hi A (τ.set i (.frz (b0.pv xs) n)) σ H/\∀b∈A,b∈O:=by
 obtain⟨l,us,o,D,v,M,N,U⟩:=R.obs i t b0 xs n e F;refine⟨O.filter λb=>decide (b≠l),?_,λb h=>(M6.mp h).1⟩;have d:∀b,b∈O.filter (λb=>decide (b≠l))↔b∈O/\b≠l:=λb=>by simp
 have C:aE (aZ H O) (aZ H (O.filter λb=>decide (b≠l))):=wu λb h=>((d b).mp h).1;have L:aE (aZ H O) (del (aZ H (O.filter λb=>decide (b≠l))) l):=λb o z=>by
  unfold aZ at z
  split at z;cases z
  ·rename_i B
   have k:b≠l:=λc=>B (c▸v);unfold del aZ;rw[MV k,MV λc=>B ((d b).mp c).1];exact z
 have X:aZ H (O.filter λb=>decide (b≠l)) l=some o:=by
  unfold aZ;rw[MV λc=>((d l).mp c).2 rfl];exact M
 refine⟨R.same,λb h=>R.own b ((d b).mp h).1,λj w m z=> ?_,λj t2 V ys m z g=> ?_,λa b t2 W x y c Y E P s G J=> ?_⟩
 ·rcases bH z with⟨rfl,f⟩|⟨k,f⟩
  ·cases f
   exact⟨.ref l,D,Rp.at (λ_=>(R.own l v).1) X N (U.mono L)⟩
  ·obtain⟨u,p,q⟩:=R.frz j w m f
   exact⟨u,p,q.mono C⟩
 ·rcases bH z with⟨rfl,f⟩|⟨k,f⟩
  ·subst f
   cases g
  ·obtain⟨r,Q,o2,p,q,T,q4,Z⟩:=R.obs j t2 V ys m f g
   exact⟨r,Q,o2,p,(d r).mpr ⟨q,λc=>by subst c;exact k (R.dst i j _ _ _ _ r e F f g D p)⟩,T,q4,Z.mono C⟩
 ·rcases bH Y with⟨_,z⟩|⟨_,I⟩
  ·subst z
   cases E
  ·rcases bH P with⟨_,z⟩|⟨_,S⟩
   ·subst z
    cases s
   ·exact R.dst a b t2 W x y c I E S s G J
theorem av.freeze(R:av K Hi O τ σ H)(i:Nat):∃c,av K Hi c (pc τ i) σ H/\∀b∈c,b∈O:=by
 unfold pc;cases e:τ[i]? with
 |none=>exact⟨O,R,λb a=>a⟩|some t =>
  cases t with
  |un=>exact⟨O,R,λb a=>a⟩|frz v n=>exact⟨O,R,λb a=>a⟩|own xs n=>exact R.freezeB e rfl|owd b xs n=>exact R.freezeB e rfl
theorem av.freezes:∀{cap:List Nat}{O:List Addr}{τ:En},av K Hi O τ σ H->∃c,av K Hi c (br cap τ) σ H/\∀b∈c,b∈O
 |[],O,_,R=>⟨O,R,λb a=>a⟩|i::cap,_,_,R=>by
  obtain⟨c,e,h'⟩:=R.freeze i;obtain⟨d,g,f⟩:=av.freezes (cap:=cap) e;exact⟨d,g,λb a=>h' b (f b a)⟩
variable(K Hi)in
noncomputable def aj(O:List Addr)(H a :Hp):RV->V->Prop
 | .frz v n,u=>Rp K Hi n v (aZ a O) u| .bor v,u=>Rp K Hi false v a u| .own xs n,u=>∃p c,u=.ref p/\H p=none/\a p=some (.lst c)/\aI K Hi n xs (aZ (del a p) O) c| .owd b xs n,u=>∃p c o,u=.ref p/\H p=none/\a p=some o/\At b c o/\aI K Hi n xs (aZ (del a p) O) c
theorem aj.ext(h:aj K Hi O H H' r u)(s:aE H' f):aj K Hi O H f r u:=by
 cases r with
 |frz v n=>exact Rp.mono (aS s) h|bor v=>exact Rp.mono s h|own xs n =>
  obtain⟨p,c,e,h0,a,d⟩:=h;exact⟨p,c,e,h0,s _ _ a,d.mono (aS (fP s))⟩
 |owd b xs n =>
  obtain⟨p,c,o,e,h0,a,g,d⟩:=h;exact⟨p,c,o,e,h0,s _ _ a,g,d.mono (aS (fP s))⟩
theorem aj.back(h:aj K Hi O H H' r u)(s:aE f H):aj K Hi O f H' r u:=by
 cases r with
 |frz v n=>exact h|bor v=>exact h|own xs n =>
  obtain⟨p,c,e,h0,a,d⟩:=h;exact⟨p,c,e,s.free h0,a,d⟩
 |owd b xs n =>
  obtain⟨p,c,o,e,h0,a,g,d⟩:=h;exact⟨p,c,o,e,s.free h0,a,g,d⟩
theorem iE:aZ (del H' p) O=del (aZ H' O) p:=by
 funext b
 unfold aZ del;dsimp only
 split<;>split<;>(try rfl)<;>simp_all
set_option tactic.hygienic true in
theorem aj.keep(R:av K Hi O τ σ H)(h:aj K Hi O H H' r u)(s:aE H H')(e:r.keep=some (v,n)):Rp K Hi n v (aZ H' O) u:=by
 cases r with
 |frz w m =>
  cases e;exact h
 |bor w =>
  have e:(if imm w then some (w,true)else none)=some (v,n):=e
  split at e
  ·rename_i i
   cases e;exact Rp.imm i (R.ext s).tups h
  ·cases e
 |own xs m =>
  cases e;obtain⟨p,f,e,h0,d,g⟩:=h;have c:aZ H' O p=some (.lst f):=by
   unfold aZ;rw[MV λz=> ?_]
   ·exact d
   ·obtain⟨vs,a,_⟩:=(R.own p z).2
    rw[h0]at a;cases a
  exact Rp.lst.mpr ⟨p,f,e,λ_=>⟨R.same.free h0,c⟩,bR.of c,by rw[<- iE];exact g⟩
 |owd b xs m =>
  cases e;obtain⟨p,f,o,e,h0,d,j,g⟩:=h;subst e;have c:aZ H' O p=some o:=by
   unfold aZ;rw[MV λz=> ?_]
   ·exact d
   ·obtain⟨vs,a,_⟩:=(R.own p z).2
    rw[h0]at a;cases a
  exact Rp.at (λ_=>R.same.free h0) c j (by rw[<- iE];exact g)
theorem aj.val(R:av K Hi O τ σ H)(h:aj K Hi O H H' r u)(s:aE H H'):Rp K Hi false r.val H' u:=by
 cases r with
 |frz w m=>exact(Rp.mono aT h).weak|bor w=>exact h|own xs m=>exact(Rp.mono aT (h.keep R s rfl)).weak|owd b xs m=>exact(Rp.mono aT (h.keep R s rfl)).weak
set_option tactic.hygienic true in
theorem aj.its(R:av K Hi O τ σ H)(h:aj K Hi O H H' r u)(s:aE H H')(e:r.its=some (xs,n)) :
  ∃p a,u=.ref p/\((bR K H' p a/\∃c,r.val=.lst c)\/(bg K H' p a/\∃c,r.val=.tup c))/\aI K Hi n xs (aZ H' O) a:=by
 cases r with
 |frz w m =>
  cases w with
  |lst c =>
   cases e;obtain⟨p,a,e,_,l,r⟩:=Rp.lst.mp h;exact⟨p,a,e,.inl ⟨(aT (O:=O)).seq l,_,rfl⟩,r.mono be⟩
  |tup c =>
   cases e;obtain⟨p,a,e,l,r⟩:=Rp.tup.mp h;exact⟨p,a,e,.inr ⟨(aT (O:=O)).tup l,_,rfl⟩,r⟩
  |_=>cases e
 |bor w =>
  cases w with
  |lst c =>
   have e:(if imms c then some (c,true)else none)=some (xs,n):=e
   split at e
   ·rename_i i
    cases e;obtain⟨p,a,e,_,l,r⟩:=Rp.lst.mp h;exact⟨p,a,e,.inl ⟨l,_,rfl⟩,aI.imm i (R.ext s).tups (r.mono be)⟩
   ·cases e
  |tup c =>
   have e:(if imms c then some (c,true)else none)=some (xs,n):=e
   split at e
   ·rename_i i
    cases e;obtain⟨p,a,e,l,r⟩:=Rp.tup.mp h;exact⟨p,a,e,.inr ⟨l,_,rfl⟩,aI.imm i (R.ext s).tups r⟩
   ·cases e
  |_=>cases e
 |own c m =>
  cases e;obtain⟨p,a,e,h0,d,f⟩:=h;exact⟨p,a,e,.inl ⟨bR.of d,_,rfl⟩,f.mono (aS be)⟩
 |owd b c m=>cases e
end
end
end IR
namespace IR
open PySem
structure Ct where
 N:List Str
 S:List (Str×NameKind)
 F:List (Str×Nat)
 G:List (Str×PV)
 B:List Str
 M:List Nat
noncomputable def slot:List Str->Str->Option Nat
 |[],_=>none|y::ys,x=>if y==x then some 0 else(slot ys x).map (·+1)
theorem fg:∀{N:List Str}{x:Str}{i:Nat},slot N x=some i->N[i]? =some x
 |[],_,_,h=>by cases h|y::ys,x,i,h=>by
  unfold slot at h
  split at h
  ·rename_i e
   cases h;simp[M0 e]
  ·cases e:slot ys x with
   |none=>rw[e]at h;cases h|some j =>
    rw[e]at h;cases h
    simpa using fg e
noncomputable def Fj(S:List (Str×NameKind))(x:Str):Bool:=S.lookup x==some .local||S.lookup x==some .cell||S.lookup x==some .free
noncomputable def wS(x:Str):Bool:=x==("__debug__":Str)||x==("__classdict__":Str)||x==("__name__":Str)
noncomputable def bZ(ct:Ct)(x:Str):IE :=
 if wS x then .never else if Fj ct.S x then(match slot ct.N x with
  |some i=>.var i|none=>.never)else if ct.S.lookup x==some .globalImplicit then(match ct.G.lookup x with
   |some v=>.con v|none=>.never)else .never
noncomputable def cR:Expr->Bool
 | .Set .. =>true|_=>false
noncomputable def wO:CmpOp->Bool
 | .Lt=>true| .LtE=>true| .Gt=>true| .GtE=>true| .Eq=>true| .NotEq=>true|_=>false
noncomputable def wo:Expr->Bool
 | .Slice .. =>true|_=>false
noncomputable def isStar:Expr->Bool
 | .Starred .. =>true|_=>false
noncomputable def plainB:Expr->Bool
 | .Name .. =>true| .Constant .. =>true|_=>false
noncomputable def oa:Const->IE
 | .int i=>.con (.int i)| .bool b=>.con (.bl b)| .str z=>.con (.str z)| .none=>.con .non|_=>.never
noncomputable def lu(op:BoolOp):List IE->IE
 |[]=>.never|[a]=>a|a::b::r=>match op with
  | .And=>.and a (lu op (b::r))| .Or=>.or a (lu op (b::r))
noncomputable def lq(op:BoolOp):List IC->IC
 |[]=>.val .never|[a]=>a|a::b::r=>match op with
  | .And=>.and a (lq op (b::r))| .Or=>.or a (lq op (b::r))
noncomputable def tQ(x:Str)(k:Nat):Option Bf :=
 if x==("len":Str)&&k==1 then some .len else if x==("int":Str)&&k==1 then some .int else if x==("list":Str)&&k==1 then some .list else if x==("tuple":Str)&&k==1 then some .tuple
 else if x==("all":Str)&&k==1 then some .all else if x==("min":Str)&&k==2 then some .min else if x==("max":Str)&&k==2 then some .max else if x==("abs":Str)&&k==1 then some .abs
 else if x==("any":Str)&&k==1 then some .any else if x==("sum":Str)&&k==1 then some .sum else if x==("sorted":Str)&&k==1 then some .sorted else none
noncomputable def mV(x:Str)(k:Nat):Option Bf:=tQ x k
noncomputable def wU(x y:Str):Option Bf :=
 if x==("sorted":Str)&&y==("set":Str)then some .sset
 else if x==("len":Str)&&y==("set":Str)then some .lset
 else none
noncomputable def zX(x:Str):Option String :=
 if x==("int":Str)then some "int" else if x==("bool":Str)then some "bool" else if x==("str":Str)then some "str" else if x==("list":Str)then some "list" else if x==("tuple":Str)then some "tuple" else none
noncomputable def own(ct:Ct)(x:Str):Bool:=ct.B.contains x&&ct.S.lookup x==some .globalImplicit
noncomputable def fU:Expr->Option (Str×List Expr)
 | .Call (.Name x _) es [] _=>some (x,es)|_=>none
theorem yu(h:fU e=some (x,es)):∃p q,e=.Call (.Name x p) es [] q:=by
 unfold fU at h
 split at h
 ·cases h
  exact⟨_,_,rfl⟩
 ·cases h
noncomputable def zu:List Expr->Option Expr
 |[b]=>some b|_=>none
noncomputable def wF(e:Expr):Option Expr:=(fU e).bind λc=>if c.1==("reversed":Str)then zu c.2 else none
theorem yE(h:wF a=some b):∃p q,a=.Call (.Name "reversed" p) [b] [] q:=by
 unfold wF at h;cases e:fU a with
 |none=>rw[e]at h;cases h|some c =>
  rw[e]at h;have h:(if c.1==("reversed":Str)then zu c.2 else none)=some b:=h
  split at h
  ·rename_i z
   obtain⟨p,q,rfl⟩:=yu (x:=c.1) (es:=c.2) e;rw[M0 z];cases f:c.2 with
   |nil=>rw[f]at h;cases h|cons d r =>
    rw[f]at h;cases r with
    |nil=>cases h;exact⟨p,q,rfl⟩|cons g r=>cases h
  ·cases h
noncomputable def nV(S names:List (Str×NameKind)):List (Str×NameKind):=names.map fun(n,k)=>if(k== .free&&true&&S.lookup n==some .cell)then(n,.cell)else(n,k)
noncomputable def frees(scope:Scope):List Str:=(scope.names.filter λy=>y.2== .free).map (·.1)
noncomputable def slots(N:List Str):List Str->Option (List Nat)
 |[]=>some []|x::xs=>(slot N x).bind λi=>(slots N xs).map (i::·)
noncomputable def yU(ct:Ct)(t:Str)(scope:Scope):Bool :=
 scope.kind== .function&&(scope.names.all λy=> !(y.2== .cell)||scope.names.lookup y.1==some .cell)&&(scope.names.all λy=> !(y.2== .local)||scope.names.lookup y.1==some .local) &&
 (scope.names.all λy=> !(y.2== .free)||(ct.S.lookup y.1==some .cell||ct.S.lookup y.1==some .free))&&decide (t::frees scope).Nodup&&(scope.names.lookup t==some .local||scope.names.lookup t==some .cell) &&
 (frees scope).all λx=>scope.names.lookup x==some .free
noncomputable def blk(ct:Ct)(t:Str)(scope:Scope):Ct:=⟨t::frees scope,nV ct.S scope.names,ct.F,ct.G,ct.B,[]⟩
noncomputable def iC(ct:Ct)(t t2:Str)(scope:Scope):Bool :=
 scope.kind== .function&&(scope.names.all λy=> !(y.2== .cell)||scope.names.lookup y.1==some .cell)&&(scope.names.all λy=> !(y.2== .local)||scope.names.lookup y.1==some .local) &&
 (scope.names.all λy=> !(y.2== .free)||(ct.S.lookup y.1==some .cell||ct.S.lookup y.1==some .free))&&decide (t::t2::frees scope).Nodup&&(scope.names.lookup t==some .local||scope.names.lookup t==some .cell)&&(scope.names.lookup t2==some .local||scope.names.lookup t2==some .cell) &&
 (frees scope).all λx=>scope.names.lookup x==some .free
noncomputable def blk2(ct:Ct)(t t2:Str)(scope:Scope):Ct:=⟨t::t2::frees scope,nV ct.S scope.names,ct.F,ct.G,ct.B,[]⟩
noncomputable def yN:List IE->Ev
 |[]=>.nil|e::es=>.cons e (yN es)
noncomputable def kE:Expr->Option Str
 | .Name x _=>some x|_=>none
noncomputable def lN:Expr->Option (Str×Str)
 | .Tuple es _ _=>(match es with
  |[a,b]=>(kE a).bind λx=>(kE b).map λy=>(x,y)|_=>none)
 |_=>none
noncomputable def ki:Expr->Bool
 | .Subscript .. =>true|_=>false
noncomputable def pw:Expr->Option Expr
 | .Call f es c b=>if es.isEmpty&&c.isEmpty then(match f with
  | .Attribute o m a=>if m==("items":Str)&&a.endLine==b.line&&(ki o||plainB o)then some o else none
  |_=>none)else none
 |_=>none
noncomputable def Iy:Expr->Option (Str×Str)
 | .BinOp a op b _=>if op== .BitAnd then(kE a).bind λx=>(kE b).map λy=>(x,y)else none|_=>none
noncomputable def ux:Expr->Bool
 | .Constant c _ _=>(match c with
  | .int i=>i==0|_=>false)
 |_=>false
noncomputable def Er:Expr->Option (Str×Str)
 | .Compare a ops cs _=>(match ops,cs with
  |[o],[c]=>if o== .Eq&&ux c then Iy a else none|_,_=>none)
 |_=>none
noncomputable def sO:IE->Nat->Bool
 | .var i,j=>i==j|_,_=>false
noncomputable def vy(a:List Comprehension):Option (Str×Str×Expr×List Expr):=match a with
 |[g]=>if g.is_async=0 then(lN g.target).map λw=>(w.1,w.2,g.iter,g.ifs)else none|_=>none
noncomputable def wn(f:Str)(ct:Ct)(elt:Expr)(a:List Comprehension)(scope:Scope):Option (Expr×Nat):=if f==("sum":Str)then(match a with
 |[g]=>(match g.ifs with
  |[c]=>(lN g.target).bind λq=>(pw g.iter).bind λd=>(Er c).bind λz=>(kE elt).bind λy =>
   if ki d&&z.1==q.1&&y==q.2&&g.is_async==0&&iC ct q.1 q.2 scope&&decide (frees scope=[z.2])&&sO (bZ (blk2 ct q.1 q.2 scope) q.1) 0&&sO (bZ (blk2 ct q.1 q.2 scope) q.2) 1&&sO (bZ (blk2 ct q.1 q.2 scope) z.2) 2 then(slot ct.N z.2).map λi=>(d,i)else none
  |_=>none)
 |_=>none)else none
set_option tactic.hygienic false
theorem lM(h:kE e=some x):∃p,e=.Name x p:=by
 unfold kE at h
 split at h;cases h;exact⟨_,rfl⟩;cases h
theorem wV(h:((kE a).bind λx=>(kE b).map λy=>(x,y))=some q):∃p e,a=.Name q.1 p/\b=.Name q.2 e:=by
 cases c:kE a with
 |none=>rw[c]at h;cases h|some x =>
  cases d:kE b with
  |none=>rw[c,d]at h;cases h|some y =>
   rw[c,d]at h;cases h;obtain⟨p,rfl⟩:=lM c;obtain⟨e,rfl⟩:=lM d;exact⟨p,e,rfl,rfl⟩
theorem ni(h:lN e=some q):∃p a k b,e=.Tuple [.Name q.1 p,.Name q.2 a] k b:=by
 unfold lN at h
 split at h
 ·split at h
  ·obtain⟨p,a,rfl,rfl⟩:=wV h
   exact⟨p,a,_,_,rfl⟩
  ·cases h
 ·cases h
set_option tactic.hygienic true in
theorem xm(h:vy b=some (t,t2,a,ifs)):∃i e f c,b=[⟨.Tuple [.Name t i,.Name t2 e] f c,a,ifs,0⟩]:=by
 match b,h with
 |[],h=>cases h|_::_::_,h=>cases h|[⟨tg,it,fs,as⟩],h =>
  have h' :(if as=0 then(lN tg).map λw=>(w.1,w.2,it,fs)else none)=some (t,t2,a,ifs):=h
  split at h'
  ·rename_i g
   subst g
   clear h
   cases d:lN tg with
   |none=>rw[d]at h';cases h'|some w =>
    rw[d]at h';cases h';obtain⟨j,m,k,l,rfl⟩:=ni d;exact⟨_,_,_,_,rfl⟩
  ·cases h'
theorem xy(h:ki e=true):∃a i p,e=.Subscript a i p:=by
 unfold ki at h
 split at h;exact⟨_,_,_,rfl⟩;cases h
set_option tactic.hygienic true
theorem vI(h:pw e=some d):∃g b,e=.Call (.Attribute d "items" g) [] [] b/\(g.endLine==b.line)=true/\(ki d||plainB d)=true:=by
 unfold pw at h
 split at h
 ·rename_i f es k b
  split at h
  ·rename_i c
   rw[MY,List.isEmpty_iff,List.isEmpty_iff]at c;obtain⟨rfl,rfl⟩:=c
   split at h
   ·split at h
    ·rename_i c
     simp only[MY]at c;cases h;obtain⟨⟨a,i⟩,j⟩:=c;have a:=M0 a;subst a;exact⟨_,_,rfl,i,j⟩
    ·cases h
   ·cases h
  ·cases h
 ·cases h
theorem CK(h:Iy e=some q):∃p a b,e=.BinOp (.Name q.1 p) .BitAnd (.Name q.2 a) b:=by
 unfold Iy at h
 split at h
 ·split at h
  ·rename_i c
   obtain⟨p,a,rfl,rfl⟩:=wV h;have c:=M0 c;subst c;exact⟨p,a,_,rfl⟩
  ·cases h
 ·cases h
theorem uw(h:ux e=true):∃k p,e=.Constant (.int 0) k p:=by
 unfold ux at h
 split at h
 ·split at h
  ·have h:=M0 h
   subst h;exact⟨_,_,rfl⟩
  ·cases h
 ·cases h
theorem CP(h:Er e=some q):∃p b a k d f,e=.Compare (.BinOp (.Name q.1 p) .BitAnd (.Name q.2 b) a) [.Eq] [.Constant (.int 0) k d] f:=by
 unfold Er at h
 split at h
 ·split at h
  ·split at h
   ·rename_i c
    rw[MY]at c;obtain⟨p,b,a,rfl⟩:=CK h;obtain⟨k,d,rfl⟩:=uw c.2;have c:=M0 c.1;subst c;exact⟨p,b,a,k,d,_,rfl⟩
   ·cases h
  ·cases h
 ·cases h
theorem jQ(h:sO e j=true):e=.var j:=by
 unfold sO at h
 split at h
 ·have h:=M0 h
  subst h;rfl
 ·cases h
theorem yX(h:wn f ct elt B scope=some (d,i)):f=("sum":Str)/\ki d=true/\∃x y t C E k r n l w u A p s D v,elt=.Name y v /\ B=[⟨.Tuple [.Name x C,.Name y E] k r,.Call (.Attribute d "items" n) [] [] l,[.Compare (.BinOp (.Name x w) .BitAnd (.Name t u) A) [.Eq] [.Constant (.int 0) p s] D],0⟩]/\(n.endLine==l.line)=true /\ iC ct x y scope=true/\frees scope=[t]/\bZ (blk2 ct x y scope) x=.var 0/\bZ (blk2 ct x y scope) y=.var 1/\bZ (blk2 ct x y scope) t=.var 2/\slot ct.N t=some i:=by
 refine Nq λV=> ?_;unfold wn at h
 split at h
 ·rename_i X
  split at h
  ·rename_i g
   obtain⟨tg,it,ifs,as⟩:=g;dsimp only at h
   split at h
   ·rename_i c
    cases a:lN tg with
    |none=>rw[a]at h;cases h|some q =>
     cases b:pw it with
     |none=>rw[a,b]at h;cases h|some d' =>
      cases e:Er c with
      |none=>rw[a,b,e]at h;cases h|some z =>
       cases o:kE elt with
       |none=>rw[a,b,e,o]at h;cases h|some y =>
        rw[a,b,e,o]at h;simp only[Ng]at h
        split at h
        ·rename_i c
         simp only[MY]at c;obtain⟨⟨⟨⟨⟨⟨⟨⟨S,Q⟩,P⟩,K⟩,T⟩,J⟩,R⟩,L⟩,G⟩:=c;obtain⟨Y,M⟩:=q;obtain⟨F,H⟩:=z;cases m:slot ct.N H with
         |none=>simp only[m,Option.map_none]at h;cases h|some j =>
          simp only[m,Of]at h;cases h;have W:F=Y:=M0 Q;have I:y=M:=M0 P;have U:as=0:=M0 K;subst W;subst I;subst U;obtain⟨C,E,k,r,rfl⟩:=ni a;obtain⟨n,l,rfl,O,Z⟩:=vI b;obtain⟨w,u,A,p,s,D,rfl⟩:=CP e;obtain⟨v,rfl⟩:=lM o;exact V ⟨M0 X,S,_,_,_,_,_,_,_,_,_,_,_,_,_,_,_,_,rfl,rfl,O,T,M3 J,jQ R,jQ L,jQ G,m⟩
        ·cases h
   ·cases h
  ·cases h
 ·cases h
mutual
noncomputable def ay:Nat->Ct->Expr->IE
 | 0,_,_=>.never
 | n+1,ct,e=>match e with
  | .Constant c _ _=>oa c
  | .Name x _=>bZ ct x
  | .BinOp a op b _=>.bin op (ay n ct a) (ay n ct b)
  | .UnaryOp op a _=>match op with
   | .USub=>.neg (ay n ct a)
   | .Not=>.not (ay n ct a)
   | _=>.never
  | .Compare a ops cs _=>match ops,cs with
   | [op],[b]=>if cR b then .never else .cmp op (ay n ct a) (ay n ct b)
   | [op,op'],[b,c]=>if cR c|| !wO op' then .never else .chn op op' (ay n ct a) (ay n ct b) (ay n ct c)
   | _,_=>.never
  | .BoolOp op vs _=>if vs.length<2 then .never else lu op (vs.map (ay n ct))
  | .IfExp c a b _=>.ite (nM n ct c) (ay n ct a) (ay n ct b)
  | .List es _=>.lst (eZ n ct es)
  | .Tuple es _ _=>.tup (eZ n ct es)
  | .Dict ks vs _=>match ks,vs with
   | [],[]=>.dnew
   | [some (.Constant c _ _)],[v]=>match c with
    | .int i=>.dlit (.inl i) (ay n ct v)
    | .str z=>.dlit (.inr z) (ay n ct v)
    | _=>.never
   | _,_=>.never
  | .Subscript a i _=>match i with
   | .Slice lo hi st _=>match st with
    | none=>.sl (ay n ct a) (FE n ct lo) (FE n ct hi)
    | some _=>.never
   | i=>.ix (ay n ct a) (ay n ct i)
  | .Call f es ks cp=>match ks with
   | []=>match f with
    | .Name x _=>jF n ct x es
    | .Attribute o m ap=>if ap.endLine==cp.line then nL n ct o m es else .never
    | _=>.never
   | _=>.never
  | .ListComp elt gs scope _=>match gs with
   | [⟨.Name t _,iter,ifs,0⟩]=>if yU ct t scope then(match slots ct.N (frees scope)with
    | some caps=>.lc (ay n (blk ct t scope) elt) (zh n ct false iter) (match ifs with
     | []=>.no
     | [c]=>.yes (nM n (blk ct t scope) c)
     | _=>.yes (.val .never)) caps
    | none=>.never)else .never
   | gs=>(match vy gs with
    | some (t,t2,iter,ifs)=>if iC ct t t2 scope then(match slots ct.N (frees scope)with
     | some caps=>.lc2 (ay n (blk2 ct t t2 scope) elt) (zh n ct true iter) (match ifs with
      | []=>.no
      | [c]=>.yes (nM n (blk2 ct t t2 scope) c)
      | _=>.yes (.val .never)) caps
     | none=>.never)else .never
    | none=>.never)
  | _=>.never
noncomputable def eZ:Nat->Ct->List Expr->Ev
 | 0,_,_=>.cons .never .nil
 | n+1,ct,es=>yN (es.map λe=>if isStar e then .never else ay n ct e)
noncomputable def FE:Nat->Ct->Option Expr->IO
 | 0,_,_=>.yes .never
 | n+1,ct,e=>match e with
  | none=>.no
  | some e=>.yes (ay n ct e)
noncomputable def nM:Nat->Ct->Expr->IC
 | 0,_,_=>.val .never
 | n+1,ct,e=>match e with
  | .UnaryOp op a p=>match op with
   | .Not=>.not (nM n ct a)
   | op=>.val (ay n ct (.UnaryOp op a p))
  | .BoolOp op vs _=>lq op (vs.map (nM n ct))
  | .IfExp _ _ _ _=>.val .never
  | e=>.val (ay n ct e)
noncomputable def jF:Nat->Ct->Str->List Expr->IE
 | 0,_,_,_=>.never
 | n+1,ct,x,es=>if wS x then .never else if ct.S.lookup x==some .globalImplicit then(match ct.F.lookup x with
  | some f=>match es with
   | []=>.never
   | es=>.call f (eZ n ct es)
  | none=>if ct.B.contains x then(if x==("isinstance":Str)then(match es with
    | [a,.Name t _]=>match zX t with
     | some ty=>if isStar a then .never else if own ct t then .bf (.isin ty) (.cons (ay n ct a) .nil)else .never
     | none=>.never
    | _=>.never)else match es with
     | [.Call (.Name y _) [a] [] _]=>(match wU x y with
      | some f=>if isStar a|| !own ct y then .never else .bf f (.cons (ay n ct a) .nil)
      | none=>match mV x es.length with
       | some f=>.bf f (eZ n ct es)
       | none=>.never)
     | [.ListComp elt gs scope _]=>(match wn x ct elt gs scope with
      | some (d,i)=>.bf .sum (.cons (.lci (ay n ct d) i) .nil)
      | none=>match mV x es.length with
       | some f=>.bf f (eZ n ct es)
       | none=>.never)
     | es=>match mV x es.length with
      | some f=>.bf f (eZ n ct es)
      | none=>.never)else .never)else .never
noncomputable def nL:Nat->Ct->Expr->Str->List Expr->IE
 | 0,_,_,_,_=>.never
 | n+1,ct,o,m,es=>if plainB o then(match es with
  | _=>.never)else .never
noncomputable def zh:Nat->Ct->Bool->Expr->IT
 | 0,_,_,_=>.never
 | n+1,ct,tp,e=>if cR e then .never else match wF e with
  | some a=>if isStar a|| !own ct ("reversed":Str)then .never else .rvd (ay n ct a)
  | none=>match fU e with
  | some (x,es)=>if x==("range":Str)then(if own ct x then .rng (eZ n ct es)else .never)else if x==("zip":Str)then(match es with
    | [a,b]=>if isStar a||isStar b|| !tp|| !own ct x then .never else .zip (ay n ct a) (ay n ct b)
    | _=>.never)else if x==("enumerate":Str)then(match es with
    | [a]=>if isStar a|| !tp|| !own ct x then .never else .enum (ay n ct a)
    | _=>.never)else .seq (ay n ct e)
  | none=>.seq (ay n ct e)
end
noncomputable def nE:Nat->Ct->Expr->List Nat
 |0,_,_=>[]|n+1,ct,e=>match e with
  | .Name x _=>(slot ct.N x).toList| .List es _=>es.flatMap (nE n ct)| .Tuple es _ _=>es.flatMap (nE n ct)| .IfExp _ a b _=>nE n ct a++nE n ct b|_=>[]
noncomputable def nD:Nat->Ct->Expr->List Nat
 |0,_,_=>[]|n+1,ct,e=>match e with
  | .Name x _=>(slot ct.N x).toList| .List es _=>es.flatMap (nD n ct)| .Tuple es _ _=>es.flatMap (nD n ct)| .BinOp a _ b _=>nD n ct a++nD n ct b| .IfExp _ a b _=>nD n ct a++nD n ct b| .Call (.Name x _) es _ _=>if x==("tuple":Str)||x==("list":Str)||x==("sorted":Str)then es.flatMap (nD n ct)else[]
  | .ListComp _ c _ _=>c.flatMap λg=>nD n ct g.iter|_=>[]
noncomputable def LG(ct:Ct)(x:Str)(e:Expr):List Nat:=match e with
 | .BinOp (.Name y _) .Add _ _=>if y==x then(slot ct.N x).toList else[]|_=>[]
noncomputable def LH(n:Nat)(ct:Ct)(e:Expr):List Nat:=match fU e with
 |some (x,es)=>if x==("zip":Str)||x==("enumerate":Str)||x==("reversed":Str)then es.flatMap (nE n ct)else[]
 |none=>nE n ct e
noncomputable def loc(ct:Ct)(x:Str):Option Nat:=if(ct.S.lookup x==some .local||ct.S.lookup x==some .cell)&& !wS x then slot ct.N x else none
noncomputable def BM:Expr->Bool
 | .ListComp .. =>true| .SetComp .. =>true| .DictComp .. =>true|_=>false
noncomputable def AJ:Option Expr->Option Expr->Option Str
 |some (.Call (.Name x _) [] [] _),none=>some x|_,_=>none
noncomputable def locs(ct:Ct):List Expr->Option (List Nat)
 |[]=>some []| .Name x _::es=>(loc ct x).bind λi=>(locs ct es).map (i::·)|_::_=>none
noncomputable def zg(ct:Ct):Expr->Option (List Nat×Bool)
 | .Name x _=>(loc ct x).map λi=>([i],true)| .Tuple es _ _=>(locs ct es).map λa=>(a,false)|_=>none
mutual
noncomputable def tX:Nat->Ct->Stmt->IS
 | 0,_,_=>.never
 | n+1,ct,s=>match s with
  | .Return v _=>match v with
   | some e=>.ret (nD n ct e) (ay n ct e)
   | none=>.retN
  | .Assign ts e _=>match ts with
   | [.Name x _]=>match loc ct x with
    | some i=>.asg i (ct.M.contains i) (LG ct x e++nE n ct e) (ay n ct e)
    | none=>.never
   | _=>.never
  | .If c a b _=>.ife (nM n ct c) (bF n ct a) (bF n ct b)
  | .For tg it body els _=>match els with
   | []=>match zg ct tg with
    | some (is,one)=>.forr is one (LH n ct it) (zh n ct (!one) it) (bF n ct body)
    | none=>.never
   | _=>.never
  | .While c body els _=>match els with
   | []=>.whil (nM n ct c) (bF n ct body)
   | _=>.never
  | .Pass _=>.pass
  | .Break _=>.brk
  | .Continue _=>.cont
  | .Expr e _=>match e with
   | .Call (.Attribute (.Name x _) m ap) es [] cp=>if ap.endLine==cp.line then(match loc ct x with
    | some i=>(match es with
     | [a]=>if isStar a then .never else if m==("append":Str)then .app i (nE n ct a) (ay n ct a)else .never
     | _=>.never)
    | none=>.never)else .never
   | _=>.never
  | .Raise e c _=>match AJ e c with
   | some x=>if ct.S.lookup x==some .globalImplicit&& !wS x then .rais x else .never
   | none=>.never
  | .AugAssign t op e _=>match t with
   | .Name x _=>match loc ct x with
    | some i=>.aug i op (ay n ct e)
    | none=>.never
   | _=>.never
  | _=>.never
noncomputable def bF:Nat->Ct->List Stmt->zK
 | 0,_,_=>.cons .never .nil
 | n+1,ct,ss=>match ss with
  | []=>.nil
  | s::ss=>.cons (tX n ct s) (bF n ct ss)
end
section
set_option autoImplicit true
set_option relaxedAutoImplicit true
variable{n:Nat}{ct:Ct}
theorem qV:ay 0 w0 w1=.never:=rfl
theorem qQ:ay (n+1) ct (.Constant c w1 w2)=(oa c):=rfl
theorem qL:ay (n+1) ct (.Name x w1)=(bZ ct x):=rfl
theorem qU:ay (n+1) ct (.BinOp a op b w1)=(.bin op (ay n ct a) (ay n ct b)):=rfl
theorem qI:ay (n+1) ct (.UnaryOp op a w1)=(match op with
   | .USub=>.neg (ay n ct a)| .Not=>.not (ay n ct a)|_=>.never):=rfl
theorem qR:ay (n+1) ct (.Compare a ops cs w1)=(match ops,cs with
   |[op],[b]=>if cR b then .never else .cmp op (ay n ct a) (ay n ct b)|[op,op'],[b,c]=>if cR c|| !wO op' then .never else .chn op op' (ay n ct a) (ay n ct b) (ay n ct c)
   |_,_=>.never):=rfl
theorem qT:ay (n+1) ct (.BoolOp op vs w1)=(if vs.length<2 then .never else lu op (vs.map (ay n ct))):=rfl
theorem qO:ay (n+1) ct (.IfExp c a b w1)=(.ite (nM n ct c) (ay n ct a) (ay n ct b)):=rfl
theorem qN:ay (n+1) ct (.List es w1)=(.lst (eZ n ct es)):=rfl
theorem qJ:ay (n+1) ct (.Tuple es w1 w2)=(.tup (eZ n ct es)):=rfl
theorem qP:ay (n+1) ct (.Dict ks vs w1)=(match ks,vs with
   |[],[]=>.dnew|[some (.Constant c _ _)],[v]=>match c with
    | .int i=>.dlit (.inl i) (ay n ct v)| .str z=>.dlit (.inr z) (ay n ct v)|_=>.never
   |_,_=>.never):=rfl
theorem qK:ay (n+1) ct (.Subscript a i w1)=(match i with
   | .Slice lo b c _=>match c with
    |none=>.sl (ay n ct a) (FE n ct lo) (FE n ct b)|some _=>.never
   |i=>.ix (ay n ct a) (ay n ct i)):=rfl
theorem qS:ay (n+1) ct (.Call f es ks cp)=(match ks with
   |[]=>match f with
    | .Name x _=>jF n ct x es| .Attribute o m a=>if a.endLine==cp.line then nL n ct o m es else .never|_=>.never
   |_=>.never):=rfl
theorem qM:ay (n+1) ct (.ListComp elt gs scope w1)=(match gs with
   |[⟨.Name t _,iter,ifs,0⟩]=>if yU ct t scope then(match slots ct.N (frees scope)with
    |some a=>.lc (ay n (blk ct t scope) elt) (zh n ct false iter) (match ifs with
     |[]=>.no|[c]=>.yes (nM n (blk ct t scope) c)|_=>.yes (.val .never)) a
    |none=>.never)else .never
   |gs=>(match vy gs with
    |some (t,t2,iter,ifs)=>if iC ct t t2 scope then(match slots ct.N (frees scope)with
     |some a=>.lc2 (ay n (blk2 ct t t2 scope) elt) (zh n ct true iter) (match ifs with
      |[]=>.no|[c]=>.yes (nM n (blk2 ct t t2 scope) c)|_=>.yes (.val .never)) a
     |none=>.never)else .never
    |none=>.never)):=rfl
theorem z29:eZ 0 w0 w1=.cons .never .nil:=rfl
theorem z2a:eZ (n+1) ct es=(yN (es.map λe=>if isStar e then .never else ay n ct e)):=rfl
theorem z2d:FE 0 w0 w1=.yes .never:=rfl
theorem z2e:FE (n+1) ct (none)=(.no):=rfl
theorem z2f:FE (n+1) ct (some e)=(.yes (ay n ct e)):=rfl
theorem Jb:nM 0 w0 w1=.val .never:=rfl
theorem JY:nM (n+1) ct (.UnaryOp op a p)=(match op with
   | .Not=>.not (nM n ct a)|op=>.val (ay n ct (.UnaryOp op a p))):=rfl
theorem Ja:nM (n+1) ct (.BoolOp op vs w1)=(lq op (vs.map (nM n ct))):=rfl
theorem JZ:nM (n+1) ct (.IfExp w1 w2 w3 w4)=(.val .never):=rfl
theorem z1p:jF 0 w0 w1 w2=.never:=rfl
theorem z1q:jF (n+1) ct x es=(if wS x then .never else if ct.S.lookup x==some .globalImplicit then(match ct.F.lookup x with
  |some f=>match es with
   |[]=>.never|es=>.call f (eZ n ct es)
  |none=>if ct.B.contains x then(if x==("isinstance":Str)then(match es with
    |[a,.Name t _]=>match zX t with
     |some b=>if isStar a then .never else if own ct t then .bf (.isin b) (.cons (ay n ct a) .nil)else .never|none=>.never
    |_=>.never)else match es with
     |[.Call (.Name y _) [a] [] _]=>(match wU x y with
      |some f=>if isStar a|| !own ct y then .never else .bf f (.cons (ay n ct a) .nil)
      |none=>match mV x es.length with
       |some f=>.bf f (eZ n ct es)|none=>.never)
     |[.ListComp elt gs scope _]=>(match wn x ct elt gs scope with
      |some (d,i)=>.bf .sum (.cons (.lci (ay n ct d) i) .nil)|none=>match mV x es.length with
       |some f=>.bf f (eZ n ct es)|none=>.never)
     |es=>match mV x es.length with
      |some f=>.bf f (eZ n ct es)|none=>.never)else .never)else .never):=rfl
theorem z2b:nL 0 w0 w1 w2 w3=.never:=rfl
theorem z2c:nL (n+1) ct o m es=(if plainB o then(match es with
  |_=>.never)else .never):=rfl
theorem z2v:zh 0 w0 w1 w2=.never:=rfl
theorem z2w:zh (n+1) ct tp e=(if cR e then .never else match wF e with
  |some a=>if isStar a|| !own ct ("reversed":Str)then .never else .rvd (ay n ct a)
  |none=>match fU e with
  |some (x,es)=>if x==("range":Str)then(if own ct x then .rng (eZ n ct es)else .never)else if x==("zip":Str)then(match es with
    |[a,b]=>if isStar a||isStar b|| !tp|| !own ct x then .never else .zip (ay n ct a) (ay n ct b)
    |_=>.never)else if x==("enumerate":Str)then(match es with
    |[a]=>if isStar a|| !tp|| !own ct x then .never else .enum (ay n ct a)
    |_=>.never)else .seq (ay n ct e)
  |none=>.seq (ay n ct e)):=rfl
theorem xj:tX 0 w0 w1=.never:=rfl
theorem xW:tX (n+1) ct (.Return v w1)=(match v with
   |some e=>.ret (nD n ct e) (ay n ct e)|none=>.retN):=rfl
theorem xi:tX (n+1) ct (.Assign ts e w1)=(match ts with
   |[.Name x _]=>match loc ct x with
    |some i=>.asg i (ct.M.contains i) (LG ct x e++nE n ct e) (ay n ct e)|none=>.never
   |_=>.never):=rfl
theorem xZ:tX (n+1) ct (.If c a b w1)=(.ife (nM n ct c) (bF n ct a) (bF n ct b)):=rfl
theorem xa:tX (n+1) ct (.For tg it body els w1)=(match els with
   |[]=>match zg ct tg with
    |some (is,one)=>.forr is one (LH n ct it) (zh n ct (!one) it) (bF n ct body)|none=>.never
   |_=>.never):=rfl
theorem xV:tX (n+1) ct (.While c body els w1)=(match els with
   |[]=>.whil (nM n ct c) (bF n ct body)|_=>.never):=rfl
theorem xY:tX (n+1) ct (.Pass w1)=(.pass):=rfl
theorem xg:tX (n+1) ct (.Break w1)=(.brk):=rfl
theorem xf:tX (n+1) ct (.Continue w1)=(.cont):=rfl
theorem xc:tX (n+1) ct (.Expr e w1)=(match e with
   | .Call (.Attribute (.Name x _) m ap) es [] cp=>if ap.endLine==cp.line then(match loc ct x with
    |some i=>(match es with
     |[a]=>if isStar a then .never else if m==("append":Str)then .app i (nE n ct a) (ay n ct a)else .never|_=>.never)
    |none=>.never)else .never
   |_=>.never):=rfl
theorem xX:tX (n+1) ct (.Raise e c w1)=(match AJ e c with
   |some x=>if ct.S.lookup x==some .globalImplicit&& !wS x then .rais x else .never|none=>.never):=rfl
theorem xh:tX (n+1) ct (.AugAssign t op e w1)=(match t with
   | .Name x _=>match loc ct x with
    |some i=>.aug i op (ay n ct e)|none=>.never
   |_=>.never):=rfl
theorem z2g:bF 0 w0 w1=.cons .never .nil:=rfl
theorem z2i:bF (n+1) ct ([])=(.nil):=rfl
theorem z2h:bF (n+1) ct (s::ss)=(.cons (tX n ct s) (bF n ct ss)):=rfl
end
end IR
namespace L2
open PySem PySem.Spec PyProof.Rows
section
variable{X:Cx}
set_option tactic.hygienic false
theorem DW:dk X (binaryOp .Add) (λx y H Q=>∃(l b:Addr)(xs i:List V),x=.ref l/\y=.ref b/\bR X.K H l xs/\bR X.K H b i/\xs.length+i.length<=sizeLine/\∀p,H p=none->Q (.ref p) (upd H p (.lst (xs++i)))):=by
 intro z s R H x y v u Q I J D h;obtain⟨l,b,xs,i,rfl,rfl,G,O,T,q⟩:=h;cases J;cases D;obtain⟨c,r,N,_⟩:=I.list G;obtain⟨a,C,j,_⟩:=I.list O;have S:=r.length;have L:=C.length;obtain⟨⟨cls,E,data,M⟩,B,w,n,t⟩:=id N.isList;obtain⟨⟨A,m,k,o⟩,g,f,P,d⟩:=id j.isList;simp only at w t f d;subst w t f d;have e:c.toArray++a.toArray=(c++a).toArray:=by simp
 refine concat_meets ⟨_,B,rfl⟩ ⟨_,g,rfl⟩ noFill_list_add seq_list_add PySem.F.slot_list_add PySem.F.entry_list_add (PySem.F.args_list_add_2 _ _) (list_addW l b c.toArray a.toArray n P E m M o (by rw[Mn,Mn];omega)) ⟨B,g,?_⟩;rw[e];exact⟨.ref _,_,I.lnew (t' :=s.toks) (r.append C) (by rw[Ml];omega),rfl,q _ I.fresh⟩
theorem wR:dk X (binaryOp .Add) (λx y H Q=>∃(a b:Addr)(xs i:List V),x=.ref a/\y=.ref b/\bg X.K H a xs/\bg X.K H b i/\xs.length+i.length<=sizeLine/\∀p t,aE H t ->bg X.K t p (xs++i)->Q (.ref p) t):=by
 intro d s L H x y u v Q I C z h;obtain⟨a,b,xs,i,rfl,rfl,k,l,O,q⟩:=h
 by_cases B:xs=[]
 ·subst B
  cases C;cases z;obtain⟨G,R,P,_⟩:=I.tuple k;obtain⟨c,U,S,_⟩:=I.tuple l;cases R;obtain⟨⟨cls,J,data,N⟩,E,A,n,w⟩:=id P;obtain⟨⟨D,o,m,r⟩,j,g,T,f⟩:=id S;simp only at A w g f;subst A w g f
  exact concat_meets ⟨_,E,rfl⟩ ⟨_,j,rfl⟩ noFill_tuple_add seq_tuple_add PySem.F.slot_tuple_add PySem.F.entry_tuple_add (P8 _ _)
   (tuple_addW0 a b #[] c.toArray n T J o N r rfl) ⟨E,j,⟨.ref b,H,I,rfl,q b H (aE.refl H) l⟩⟩
 ·refine DV d s L H (.ref a) (.ref b) u v Q I C z ⟨a,b,xs,i,rfl,rfl,k,l,B,O,λe=> ?_,λ_ p M=>q p _ (aJ M _) (bg.of aC)⟩
  subst e;exact q a H (aE.refl H) (by rw[NU];exact k)
theorem C2:Lp X (λx lo j H Q=>∃a xs,x=.ref a/\bg X.K H a xs/\(HT.bh xs.length 0 lo=0/\HT.bh xs.length xs.length j=xs.length)/\Q (.ref a) H):=by
 intro k s z H x v A y lo j o Q I n l p t h;obtain⟨a,xs,rfl,m,i,q⟩:=h;cases n;obtain⟨b,r,c,B⟩:=I.tuple m;have d:b.toArray.size=xs.length:=by rw[Mn];exact r.length.symm
 refine⟨"tuple",_,NX.lookup,c.typeIs,?_⟩;obtain⟨w,f,g,u⟩:=id l;have e:s.TypeIs (.ref o) "slice":=⟨w,f,g⟩;unfold getItem
 try with_reducible refine OA ?_
 first|refine MQ (MU ?_)|skip
 refine MQ (wpAny_sequenceKey c.typeIs (by decide) ?_)
 refine MQ (Nf (name:=Str.ofString "__getitem__") c.typeIs NX (NP NX c.typeIs entry_tuple_getitem ?_ (args_tuple_getitem _ _)))
 show wpAny _ _ (Builtin.Tuple.tupleItemsOf (.ref a) >>= _) _ _ s;refine MQ (tupleItemsOf_ c ?_);refine MQ (Pf e ?_);rw[MX (by decide)];refine MQ (HT.eB l p t ?_);rw[<- d]at i;show wpAny _ _ (if(((HT.bh b.toArray.size 0 lo:Nat):Int)==0&&(1:Int)==1&&(HT.bh b.toArray.size b.toArray.size j-HT.bh b.toArray.size 0 lo)==b.toArray.size)=true then _ else _) _ _ s;rw[MX (by rw[i.1,i.2];simp)];unfold Builtin.Tuple.tupleIsExact;refine MQ (MQ (Pf c.typeIs (MU ?_)));rw[MX (by decide)];exact MQ (Pq (MU ⟨_,rfl,MU ⟨.ref a,H,I,rfl,q⟩⟩))
end
end L2
namespace IR
open PySem PySem.Spec PyProof.Rows L2
abbrev WE(X:Cx)(e:Expr)(b:L2.St)(H:Hp)(Q:VK):Prop:=∀(a:List (Addr×Obj))(s:Shared),Inv X a b H s->wpAny (model X.prog X.w) X.A (eval e X.env) (EP X a b Q) X.xe s
abbrev WT(X:Cx)(e:Expr)(b:L2.St)(H:Hp)(Q:Bool->Hp->Prop):Prop:=∀(a:List (Addr×Obj))(s:Shared),Inv X a b H s->wpAny (model X.prog X.w) X.A (isTrue e X.env (eval e X.env)) (TP X a b Q) X.xe s
abbrev WA(X:Cx)(es:List Expr)(b:L2.St)(H:Hp)(Q:List V->Hp->Prop):Prop:=∀(pos:Pos)(a:List (Addr×Obj))(s:Shared),Inv X a b H s->wpAny (model X.prog X.w) X.A (spliced (backTo pos (starEach es X.env))) (AP X a b Q) X.xe s
theorem af:PE X e (λb H Q=>WE X e b H Q):=λa s b H Q I h=>h a s I
theorem lA:PT X e (λb H Q=>WT X e b H Q):=λa s b H Q I h=>h a s I
theorem uf:PA X e (λb H Q=>WA X e b H Q):=λpos a s b H Q I h=>h pos a s I
theorem we(h:PE X e t)(q:t b H Q):WE X e b H Q:=λa s I=>h a s b H Q I q
theorem wt(h:PT X e t)(q:t b H Q):WT X e b H Q:=λa s I=>h a s b H Q I q
theorem wa(h:PA X e t)(q:t b H Q):WA X e b H Q:=λpos a s I=>h pos a s b H Q I q
def yA(K:W.Frag)(m:List PV->Option PV):Sp:=λvs H Q _=>∃a r,aI K H false a H vs/\m a=some r/\∀u b,aE H b ->Rp K H true r b u->Q u b
structure bz(cd:Nat->List PV->Option PV)(X:Cx)(ct:Ct):Prop where
 N:X.N=ct.N
 nd:ct.N.Nodup
 S:X.env.scope.names=ct.S
 kind:X.env.scope.kind=.function
 calm:X.calm=true
 glob:∀x v,ct.G.lookup x=some v->∃u w,X.mg x=some u/\RelV w u/\∀Hi n H,Rp X.K Hi n v H w
 bl:∀x,ct.B.contains x=true->X.mg x=none
 fns:∀x f,ct.F.lookup x=some f->∃k a fd ps,bt X.prog X.w X.K X.mg X.base kJ k a fd ps (yA X.K (cd f))/\eY k X.A/\X.mg x=some (.ref a)/\W.keepIn X.K (.ref a)=true/\Binds X.K fd ps []
 xe:PassesOwn (model X.prog X.w) X.A X.env X.xe
 un:X.A.units+64<cLine
section
variable{X:Cx}{Hi:Hp}{τ:En}
variable(X Hi τ)in
def aK(e:Expr)(r:RV):Prop:=∀(O:List Addr)(b:L2.St)(H:Hp)(Q:VK),av X.K Hi O τ b H->(∀u a,aE H a ->aj X.K Hi O H a r u->Q u a)->WE X e b H Q
variable(X Hi τ)in
def eX(e:Expr)(b:Bool):Prop:=∀(O:List Addr)(a:L2.St)(H:Hp)(Q:Bool->Hp->Prop),av X.K Hi O τ a H->(∀c,aE H c ->Q b c)->WT X e a H Q
variable(X Hi)in
noncomputable def cW(O:List Addr)(H a :Hp):List RV->List V->Prop
 |[],us=>us=[]|r::rs,us=>∃u vs,us=u::vs/\aj X.K Hi O H a r u/\cW O H a rs vs
variable(X Hi τ)in
def qE(es:List Expr)(rs:List RV):Prop:=∀(O:List Addr)(b:L2.St)(H:Hp)(Q:List V->Hp->Prop),av X.K Hi O τ b H->(∀c a,aE H a ->cW X Hi O H a rs c->Q c a)->WA X es b H Q
theorem fE:sizeLine=16777216:=Np
set_option tactic.hygienic false
theorem cW.ext{O:List Addr}{H f d:Hp}(s:aE f d):∀{rs:List RV}{c:List V},cW X Hi O H f rs c->cW X Hi O H d rs c
 |[],_,h=>h|r::rs,_,h=>by
  obtain⟨u,vs,e,a,b⟩:=h;exact⟨u,vs,e,a.ext s,cW.ext s b⟩
theorem cW.back{O:List Addr}{d H f :Hp}(s:aE d H):∀{rs:List RV}{c:List V},cW X Hi O H f rs c->cW X Hi O d f rs c
 |[],_,h=>h|r::rs,_,h=>by
  obtain⟨u,vs,e,a,b⟩:=h;exact⟨u,vs,e,a.back s,cW.back s b⟩
theorem cW.vals{O:List Addr}{e:L2.St}{H c :Hp}(R:av X.K Hi O τ e H)(s:aE H c):∀{rs:List RV}{d:List V},cW X Hi O H c rs d->aI X.K Hi false (rs.map RV.val) c d
 |[],_,h=>by cases h;exact .nil|r::rs,_,h=>by
  obtain⟨u,vs,rfl,a,b⟩:=h;exact .cons (a.val R s) (cW.vals R s b)
theorem cW.keeps{O:List Addr}{j:L2.St}{H f :Hp}(R:av X.K Hi O τ j H)(s:aE H f):∀{rs:List RV}{g:List V}{vs:List PV}{n:Bool},cW X Hi O H f rs g->IR.keeps rs=some (vs,n)->aI X.K Hi n vs (aZ f O) g
 |[],_,_,_,h,e=>by cases h;cases e;exact .nil|r::rs,_,vs,n,h,e=>by
  obtain⟨u,k,rfl,a,b⟩:=h;unfold IR.keeps at e;cases c:r.keep with
  |none=>rw[c]at e;cases e|some p =>
   obtain⟨v,l⟩:=p;rw[c]at e;cases d:IR.keeps rs with
   |none=>rw[d]at e;cases e|some p =>
    obtain⟨i,m⟩:=p;rw[d]at e;cases e;refine .cons ((a.keep R s c).low λz=> ?_) ((cW.keeps R s b d).low λz=> ?_)
    ·rw[MY]at z;exact z.1
    ·rw[MY]at z;exact z.2
theorem ft(h:∀G,Rp X.K Hi true v G u):aj X.K Hi O H a (sc v) u:=h _
theorem sy{c:Const}{k:Nat}{pos:Pos}{r:RV}{cd:Nat->List PV->Option PV}(h:ah cd (oa c) τ=some r):aK X Hi τ (.Constant c k pos) r:=by
 intro O a H Q R q;cases c with
 |int i =>
  cases h;exact we dA (q _ _ (aE.refl _) (ft λ_=>Rp.int.mpr rfl))
 |bool b =>
  cases h;exact we wL (q _ _ (aE.refl _) (ft λ_=>Rp.bl.mpr rfl))
 |str b =>
  cases h;exact we ud (q _ _ (aE.refl _) (ft λ_=>Rp.str.mpr rfl))
 |none =>
  cases h;exact we Gm (q _ _ (aE.refl _) (ft λ_=>Rp.non.mpr rfl))
 |_=>cases h
theorem zT(e:a.names=S)(h:Fj S x=true):JW a x:=by
 unfold Fj at h;unfold JW;rw[e]
 simpa [OO,or_assoc]using h
theorem dB(h:wS x=false):(x==("__debug__":Str))=false/\(x==("__classdict__":Str))=false/\x≠"__name__":=by unfold wS at h;simp only[Bool.or_eq_false_iff]at h;exact⟨h.1.1,h.1.2,λe=>by rw[e]at h;simp at h⟩
set_option tactic.hygienic true in
theorem kP{cd:Nat->List PV->Option PV}(C:bz cd X ct)(h:ah cd (bZ ct x) τ=some r):aK X Hi τ (.Name x pos) r:=by
 intro O J H Q R q;unfold bZ at h
 split at h;simp[dZ,dL,dg,dP,dc,de,di,dm,dO,dX,df,dh,dQ,dM,dr,dY,dW,dN,dU,dS,dR,dq]at h
 rename_i F;obtain⟨B,o2,K⟩:=dB (Oj.mpr F)
 split at h
 ·rename_i E
  cases s:slot ct.N x with
  |none=>rw[s]at h;simp[dZ,dL,dg,dP,dc,de,di,dm,dO,dX,df,dh,dQ,dM,dr,dY,dW,dN,dU,dS,dR,dq]at h|some i =>
   rw[s]at h;have h:vA τ i=some r:=by simpa [dZ,dL,dg,dP,dc,de,di,dm,dO,dX,df,dh,dQ,dM,dr,dY,dW,dN,dU,dS,dR,dq]using h
   refine we (ub (by rw[C.N];exact fg s) (zT C.S E) B o2) ?_;unfold vA at h;cases j:τ[i]? with
   |none=>rw[j]at h;cases h|some t =>
    rw[j]at h;cases t with
    |un=>cases h|frz v n =>
     cases h;obtain⟨u,a,d⟩:=R.frz i v n j;exact⟨u,a,q u H (aE.refl _) d⟩
    |own xs n =>
     cases h;obtain⟨l,A,a,d,f,y⟩:=R.owns i xs n j;refine⟨_,a,q _ H (aE.refl _) ?_⟩;refine Rp.lst.mpr ⟨l,A,rfl,(λz=>absurd z Mc),bR.of f,y.weak.mono λb o e=> ?_⟩;unfold aZ at e
     split at e;cases e
     ·rename_i p
      unfold del;have m:b≠l:=λz=>p (z▸d);rw[MV m];exact e
    |owd b xs n =>
     cases h;obtain⟨l,A,o,a,d,f,D,y⟩:=R.obs i _ b xs n j rfl;refine⟨_,a,q _ H (aE.refl _) ?_⟩;refine Rp.at (λz=>absurd z Mc) f D (y.weak.mono λc o e=> ?_);unfold aZ at e
     split at e;cases e
     ·rename_i p
      unfold del;have m:c≠l:=λz=>p (z▸d);rw[MV m];exact e
 ·split at h
  ·rename_i I
   cases k:ct.G.lookup x with
   |none=>rw[k]at h;simp[dZ,dL,dg,dP,dc,de,di,dm,dO,dX,df,dh,dQ,dM,dr,dY,dW,dN,dU,dS,dR,dq]at h|some v =>
    rw[k]at h;have h:some (sc v)=some r:=by simpa [dZ,dL,dg,dP,dc,de,di,dm,dO,dX,df,dh,dQ,dM,dr,dY,dW,dN,dU,dS,dR,dq]using h
    cases h;obtain⟨u,w,a,d,f⟩:=C.glob x v k;have g:Gl X x:=by
     show X.env.scope.names.lookup x=_;rw[C.S]
     simpa using I
    exact we (DQ g a d B) (q _ _ (aE.refl _) (ft λ_=>f _ _ _))
  ·simp[dZ,dL,dg,dP,dc,de,di,dm,dO,dX,df,dh,dQ,dM,dr,dY,dW,dN,dU,dS,dR,dq]at h
theorem mU(n:dk X (binaryOp op) h)(l:aK X Hi τ a x)(m:aK X Hi τ b y)
  (k:∀(O:List Addr)(d:L2.St)(H c:Hp)(u v:V)(Q:VK),av X.K Hi O τ d H->aE H c->aj X.K Hi O H c x u->aj X.K Hi O H c y v->(∀w e,aE c e->aj X.K Hi O H e r w->Q w e)->h u v c Q) :
  aK X Hi τ (.BinOp a op b pos) r:=by
 intro O d H Q R q;refine we (fI n af af) ?_;refine l O d H _ R λu o f s=>m O d o _ (R.ext f) λv c g p=> ?_;exact k O d H c u v Q R (f.trans g) (s.ext g) (p.back f) λw e j i=>q w e (f.trans (g.trans j)) i
theorem aj.int(R:av X.K Hi O τ b H)(s:aE H a)(h:aj X.K Hi O H a x u)(e:x.val=.int i):u=.int i:=by have z:=h.val R s;rw[e]at z;exact Rp.int.mp z
theorem aj.str(R:av X.K Hi O τ b H)(s:aE H a)(h:aj X.K Hi O H a x u)(e:x.val=.str i):u=.str i:=by have z:=h.val R s;rw[e]at z;exact Rp.str.mp z
theorem aj.bl(R:av X.K Hi O τ b H)(s:aE H a)(h:aj X.K Hi O H a x u)(e:x.val=.bl i):u=.bl i:=by have z:=h.val R s;rw[e]at z;exact Rp.bl.mp z
theorem aj.tup{O:List Addr}{d:L2.St}{H a :Hp}{x:RV}{u:V}{c:List PV}(R:av X.K Hi O τ d H)(s:aE H a)(h:aj X.K Hi O H a x u)(e:x.val=.tup c):∃p b,u=.ref p/\bg X.K a p b/\aI X.K Hi false c a b:=by have z:=h.val R s;rw[e]at z;exact Rp.tup.mp z
theorem aj.lst{O:List Addr}{f:L2.St}{H b :Hp}{x:RV}{u:V}{c:List PV}(R:av X.K Hi O τ f H)(s:aE H b)(h:aj X.K Hi O H b x u)(e:x.val=.lst c):∃p a,u=.ref p/\bR X.K b p a/\aI X.K Hi false c b a:=by have z:=h.val R s;rw[e]at z;obtain⟨p,a,g,_,i,d⟩:=Rp.lst.mp z;exact⟨p,a,g,i,d.mono be⟩
theorem aj.itsL(R:av X.K Hi O τ f H)(s:aE H c)(h:aj X.K Hi O H c r u)(e:r.its=some (xs,n))(g:r.val=.lst j) :
  ∃p b,u=.ref p/\bR X.K c p b/\aI X.K Hi n xs (aZ c O) b:=by
 obtain⟨p,b,i,a,d⟩:=h.its R s e
 rcases a with⟨a,_⟩|⟨_,k,a⟩
 ·exact⟨p,b,i,a,d⟩
 ·rw[g]at a
  cases a
theorem aj.itsT(R:av X.K Hi O τ f H)(s:aE H c)(h:aj X.K Hi O H c r u)(e:r.its=some (xs,n))(g:r.val=.tup j) :
  ∃p b,u=.ref p/\bg X.K c p b/\aI X.K Hi n xs (aZ c O) b:=by
 obtain⟨p,b,i,a,d⟩:=h.its R s e
 rcases a with⟨_,k,a⟩|⟨a,_⟩
 ·rw[g]at a
  cases a
 ·exact⟨p,b,i,a,d⟩
theorem fk(s:aE H a)(f:a p=none)(r:aI X.K Hi n xs (aZ a O) c):aj X.K Hi O H (L2.upd a p (.lst c)) (.own xs n) (.ref p):=by refine⟨p,c,rfl,s.free f,aC,r.mono (aS λb o e=> ?_)⟩;have d:=aF e f;unfold del;rw[MV d,aB d];exact e
theorem pX(R:av X.K Hi O τ c H)(s:aE H a)(b:a p=none):aZ (L2.upd a p o) O p=some o:=by
 unfold aZ;rw[MV λz=> ?_]
 ·exact aC
 ·obtain⟨d,e,_⟩:=(R.own p z).2
  rw[s _ _ e]at b;cases b
theorem wv(R:av X.K Hi O τ c H)(s:aE H a)(h:bg X.K a p b):bg X.K (aZ a O) p b:=(R.ext s).tups.at h
theorem HJ(a:aI X.K Hi n xs H c)(b:aI X.K Hi m d H vs):aI X.K Hi (n&&m) (xs++d) H (c++vs):=by
 refine aI.app (a.low λz=> ?_) (b.low λz=> ?_)
 ·rw[MY]at z;exact z.1
 ·rw[MY]at z;exact z.2
theorem AA:aj X.K Hi O H a (sc (.int i)) (.int i):=ft λ_=>Rp.int.mpr rfl
theorem FJ:aj X.K Hi O H a (sc (.bl i)) (.bl i):=ft λ_=>Rp.bl.mpr rfl
theorem scS:aj X.K Hi O H a (sc (.str i)) (.str i):=ft λ_=>Rp.str.mpr rfl
set_option tactic.hygienic true
theorem wX(h:re xs n=some r):xs.length<=LN/\r=.own xs n:=by
 unfold re at h
 split at h
 ·rename_i e;cases h;exact⟨e,rfl⟩
 ·cases h
theorem wW(h:rZ xs n=some r):xs.length<=LN/\r=.frz (.tup xs) n:=by
 unfold rZ at h
 split at h
 ·rename_i e;cases h;exact⟨e,rfl⟩
 ·cases h
theorem binI(k:dk X (binaryOp op) (rI C g))(d:aK X Hi τ a x)(h:aK X Hi τ b y)(f:x.val=.int i)(l:y.val=.int j)(c:C i j)
  (n:∀G,Rp X.K Hi true w G (g i j)):aK X Hi τ (.BinOp a op b pos) (sc w) :=
 mU k d h λO p H o u v Q R s m e q=>⟨i,j,m.int R s f,e.int R s l,c,q _ _ (aE.refl _) (ft n)⟩
theorem CH(h:dk X (binaryOp op) (AK g))(c:aK X Hi τ a x)(f:aK X Hi τ b y)(e:x.val=.int i)(k:y.val=.int j)
  (m:∀G,Rp X.K Hi true w G (g i j)):aK X Hi τ (.BinOp a op b pos) (sc w) :=
 mU h c f λO o H n u v Q R s l d q=>⟨i,j,l.int R s e,d.int R s k,q _ _ (aE.refl _) (ft m)⟩
set_option tactic.hygienic false
theorem aI.rep{n:Bool}{xs:List PV}{H:Hp}{a:List V}(h:aI X.K Hi n xs H a):∀k:Nat,aI X.K Hi n (List.replicate k xs).flatten H (List.replicate k a).flatten
 |0=>by simp;exact .nil|k+1=>by
  rw[OS,Ox,OS,Ox];exact h.app (aI.rep h k)
set_option tactic.hygienic true
theorem tP(f:aK X Hi τ a x)(g:aK X Hi τ b y)(h:eO op x y=some r):aK X Hi τ (.BinOp a op b pos) r:=by
 cases op with
 |Add =>
  have h:vc x y=some r:=h;unfold vc at h
  split at h
  case h_1 i j e d=>cases h;exact CH lJ f g e d λ_=>Rp.int.mpr rfl
  case h_2 i j e d =>
   split at h
   ·rename_i o
    cases h;exact mU ug f g λO P H N u v Q R s B t q=>⟨i,j,B.str R s e,t.str R s d,by rw[fE];exact o,q _ _ (aE.refl _) scS⟩
   ·cases h
  case h_3 e d =>
   split at h
   ·rename_i xs n U m D E
    obtain⟨o,rfl⟩:=wX h;refine mU DW f g λO P H N u v Q R s B t q=> ?_;obtain⟨p,K,rfl,I,A⟩:=B.itsL R s D e;obtain⟨L,l,rfl,J,w⟩:=t.itsL R s E d;have C:=A.len;have F:=w.len;rw[Ml]at o;exact⟨p,L,K,l,rfl,rfl,I,J,by rw[fE,<-C,<-F];exact o,λM S=>q _ _ (aJ S _) (fk s S (HJ A w))⟩
   ·cases h
  case h_4 e d =>
   split at h
   ·rename_i xs n U m D E
    obtain⟨o,rfl⟩:=wW h;refine mU wR f g λO P H N u v Q R s B t q=> ?_;obtain⟨p,K,rfl,I,A⟩:=B.itsT R s D e;obtain⟨L,l,rfl,J,w⟩:=t.itsT R s E d;have C:=A.len;have F:=w.len;rw[Ml]at o;exact⟨p,L,K,l,rfl,rfl,I,J,by rw[fE,<-C,<-F];exact o,λM V G T=>q _ _ G (Rp.tup.mpr ⟨M,_,rfl,wv R (s.trans G) T,(HJ A w).mono (aS G)⟩)⟩
   ·cases h
  case h_5=>cases h
 |Sub =>
  have h:va x y=some r:=h;unfold va at h
  split at h
  case h_1 i j e d=>cases h;exact CH Gp f g e d λ_=>Rp.int.mpr rfl
  case h_2=>cases h
 |Mult =>
  have h:qB x y=some r:=h;unfold qB at h
  split at h
  case h_1 i j e d =>
   split at h
   ·rename_i c
    cases h;exact binI Gu f g e d c λ_=>Rp.int.mpr rfl
   ·split at h
    ·rename_i c
     cases h;exact binI DU f g e d c λ_=>Rp.int.mpr rfl
    ·cases h
  case h_2=>cases h
 |FloorDiv =>
  have h:fV x y=some r:=h;unfold fV at h
  split at h
  case h_1 i j e d =>
   split at h
   ·rename_i c
    cases h;exact binI Am f g e d ⟨c.1,Os ((Nat.log2_lt (n:=j.natAbs) (k:=200) (by omega)).mpr (by omega)) (by decide)⟩ λ_=>Rp.int.mpr rfl
   ·cases h
  case h_2=>cases h
 |Mod =>
  have h:vb x y=some r:=h;unfold vb at h
  split at h
  case h_1 i j e d =>
   split at h
   ·rename_i c
    cases h;exact binI Gv f g e d c λ_=>Rp.int.mpr rfl
   ·cases h
  case h_2=>cases h
 |LShift =>
  have h:jf x y=some r:=h;unfold jf at h
  split at h
  case h_1 i j e d =>
   split at h
   ·rename_i c
    cases h;exact binI Gq f g e d c λ_=>Rp.int.mpr rfl
   ·cases h
  case h_2=>cases h
 |BitAnd =>
  have h:jg x y=some r:=h;unfold jg at h
  split at h
  case h_1 i j e d=>cases h;exact CH An f g e d λ_=>Rp.int.mpr rfl
  case h_2=>cases h
 |_=>exact absurd (show(none:Option RV)=some r from h) (by intro z;cases z)
mutual
theorem aq{pins:List (Addr×Obj)}{σ:L2.St}{H:Hp}{s:Shared}(I:Inv X pins σ H s):∀{a:PV}{n:Nat}{u:V}{u' :Value},cT n a=true->Rp X.K Hi false a H u->RelV u u' ->∃as,Reads s.heap u' (iM a) as
 | .non,_,_,_,_,r,e=>by cases Rp.non.mp r;cases e;exact⟨_,.none⟩
 | .bl b,_,_,_,_,r,e=>by cases Rp.bl.mp r;cases e;exact⟨_,.bool b⟩
 | .int i,_,_,_,_,r,e=>by cases Rp.int.mp r;obtain⟨t,rfl⟩:=e;exact⟨_,.int i t⟩
 | .str z,_,_,_,_,r,e=>by cases Rp.str.mp r;obtain⟨t,rfl⟩:=e;exact⟨_,.str z t⟩
 | .lst xs,n,_,_,f,r,e=>by
  obtain⟨p,us,rfl,_,l,r⟩:=Rp.lst.mp r;cases e;cases n with
  | zero=>cases f
  | succ n =>
   obtain⟨its,rv,pl,_⟩:=I.list l;obtain⟨as,z⟩:=gY I (xs:=xs) (n:=n) f (r.mono be) rv;obtain⟨o,ho,hc,m,hd⟩:=pl.isList;exact⟨_,.list ho hc hd (by simpa using z)⟩
 | .tup xs,n,_,_,f,r,e=>by
  obtain⟨p,us,rfl,l,r⟩:=Rp.tup.mp r;cases e;cases n with
  | zero=>cases f
  | succ n =>
   obtain⟨its,rv,pl,_⟩:=I.tuple l;obtain⟨as,z⟩:=gY I (xs:=xs) (n:=n) f r rv;obtain⟨o,ho,hc,m,hd⟩:=pl;exact⟨_,.tuple ho hc hd (by simpa using z)⟩
 | .dK _ _,n,_,_,f,_,_=>by cases n<;>cases f
 | .dT _ _,n,_,_,f,_,_=>by cases n<;>cases f
theorem gY{pins:List (Addr×Obj)}{σ:L2.St}{H:Hp}{s:Shared}(I:Inv X pins σ H s):∀{xs:List PV}{n:Nat}{us:List V}{us' :List Value},xs.all (cT n)=true->aI X.K Hi false xs H us->aU us us' ->∃as,ReadsAll s.heap us' (cf xs) as
 | [],_,_,_,_,r,e=>by
  obtain rfl:=r;cases e;exact⟨_,.nil⟩
 | x::xs,n,_,_,f,r,e=>by
  obtain⟨u,us,rfl,r1,r2⟩:=r;cases e with
  | cons e1 e2 =>
   rw[On,MY]at f;obtain⟨as,z⟩:=aq I f.1 r1 e1;obtain⟨bs,y⟩:=gY I f.2 r2 e2;exact⟨_,.cons z y⟩
end
mutual
theorem bp:∀{a:PV}{n:Nat},cT n a=true->(iM a).canLay0=true/\(iM a).depth<=n
 | .non,n,_=>⟨rfl,NH _⟩
 | .bl _,n,_=>⟨rfl,NH _⟩
 | .int _,n,_=>⟨rfl,NH _⟩
 | .str z,n,h=>⟨by cases n<;>exact h,NH _⟩
 | .lst xs,0,h=>by cases h
 | .lst xs,n+1,h=>⟨(eJ (xs:=xs) (n:=n) h).1,Nat.succ_le_succ (eJ (xs:=xs) (n:=n) h).2⟩
 | .tup xs,0,h=>by cases h
 | .tup xs,n+1,h=>⟨(eJ (xs:=xs) (n:=n) h).1,Nat.succ_le_succ (eJ (xs:=xs) (n:=n) h).2⟩
 | .dK _ _,n,h=>by cases n<;>cases h
 | .dT _ _,n,h=>by cases n<;>cases h
theorem eJ:∀{xs:List PV}{n:Nat},xs.all (cT n)=true->PyData.canLayAll0 (cf xs)=true/\PyData.depthAll (cf xs)<=n
 | [],n,_=>⟨rfl,NH _⟩
 | x::xs,n,h=>by
  rw[On,MY]at h;obtain⟨a,b⟩:=bp h.1;obtain⟨c,d⟩:=eJ h.2;refine⟨?_,?_⟩
  ·show((iM x).canLay0&&PyData.canLayAll0 (cf xs))=true
   rw[a,c];rfl
  ·show max (iM x).depth (PyData.depthAll (cf xs))<=n
   omega
end
mutual
theorem eU:∀(a b:PV),PyData.eqv (iM a) (iM b)=jW a b
 | .lst xs,b=>by
  cases b with
  | lst ys=>show PyData.eqvAll (cf xs) (cf ys)=nC xs ys;exact mD xs ys
  | _=>rfl
 | .tup xs,b=>by
  cases b with
  | tup ys=>show PyData.eqvAll (cf xs) (cf ys)=nC xs ys;exact mD xs ys
  | _=>rfl
 | .non,b=>by cases b<;>rfl
 | .bl x,b=>by cases b<;>first|rfl|exact beq_eq_decide _ _|(unfold jW;simp[iM,PyData.eqv,EB,Pb])
 | .int x,b=>by cases b<;>first|rfl|exact beq_eq_decide _ _|(unfold jW;simp[iM,PyData.eqv,EB,Pb])
 | .str x,b=>by cases b<;>first|rfl|exact beq_eq_decide _ _|(unfold jW;simp[iM,PyData.eqv,EB,Pb])
 | .dK k v,b=>by cases b<;>rfl
 | .dT k v,b=>by cases b<;>rfl
theorem mD:∀(xs ys:List PV),PyData.eqvAll (cf xs) (cf ys)=nC xs ys
 | [],[]=>rfl
 | [],_::_=>rfl
 | _::_,[]=>rfl
 | x::xs,y::ys=>by
  show(PyData.eqv (iM x) (iM y)&&PyData.eqvAll (cf xs) (cf ys))=(jW x y&&nC xs ys);rw[eU x y,mD xs ys]
end
set_option tactic.hygienic false
theorem mH(x:PV):∀a:List PV,((cf a).any λy=>PyData.eqv y (iM x))=a.any λy=>jW y x
 |[]=>rfl|y::a=>by
  show(PyData.eqv (iM y) (iM x)||(cf a).any λy=>PyData.eqv y (iM x))=(jW y x||a.any λy=>jW y x);rw[eU,mH x a]
variable(X Hi)in
def KY(g:Bool->Bool):R2:=λx y H Q=>∃a b,cT 12 a=true/\cT 12 b=true/\Rp X.K Hi false a H x/\Rp X.K Hi false b H y/\Q (.bl (g (jW a b))) H
theorem Gy(p:X.A.units+64<cLine):dk X (compareOp .Eq) (KY X Hi id):=by intro d s t H x y u v Q I j f h;obtain⟨a,b,c,e,l,i,q⟩:=h;obtain⟨as,g⟩:=aq I c l j;obtain⟨r,n⟩:=aq I e i f;obtain⟨k,w⟩:=bp c;obtain⟨m,o⟩:=bp e;refine SeqAt.compareEq_reads g n k m (by omega) ?_;rw[eU];exact⟨.bl _,H,I,rfl,q⟩
theorem Gs(p:X.A.units+64<cLine):dk X (compareOp .NotEq) (KY X Hi not):=by intro d s t H x y u v Q I j f h;obtain⟨a,b,c,e,l,i,q⟩:=h;obtain⟨as,g⟩:=aq I c l j;obtain⟨r,n⟩:=aq I e i f;obtain⟨k,w⟩:=bp c;obtain⟨m,o⟩:=bp e;refine SeqAt.compareNe_reads g n k m (by omega) ?_;rw[eU];exact⟨.bl _,H,I,rfl,q⟩
variable(X Hi)in
def rIn2(g:Bool->Bool):R2:=λx y H Q=>∃a b,cT 12 a=true/\b.all (cT 12)=true/\Rp X.K Hi false a H x/\(Rp X.K Hi false (.lst b) H y\/Rp X.K Hi false (.tup b) H y)/\Q (.bl (g (b.any λy=>jW y a))) H
theorem pD(t:X.A.units+64<cLine):dk X (compareOp .NotIn) (rIn2 X Hi not):=by
 intro i s w H x y u v Q I o f h;obtain⟨a,l,e,c,p,b,q⟩:=h;obtain⟨as,g⟩:=aq I e p o;obtain⟨j,z⟩:=bp e;obtain⟨k,r⟩:=eJ c
 rcases b with b|b
 ·obtain⟨m,d⟩:=aq I (a:=.lst l) (n:=13) c b f
  refine SeqAt.notIn_list_reads d g k j (by omega) ?_;rw[mH];exact⟨.bl _,H,I,rfl,q⟩
 ·obtain⟨m,d⟩:=aq I (a:=.tup l) (n:=13) c b f
  refine SeqAt.notIn_tuple_reads d g k j (by omega) ?_;rw[mH];exact⟨.bl _,H,I,rfl,q⟩
def JK(A:Around)(s:Shared)(a b:Value)(t:Bool):Prop:=∀(prog:Program)(w:World)(E:Value->Shared->Prop)(Q:Value->Shared->Prop),Q (.bool t) s->wpAny (model prog w) A (richCompare .Lt a b) Q E s
inductive OW(A:Around)(s:Shared):List (Value×Value)->Option Bool->Prop
 | nil:OW A s [] none
 | eq {p q:Value} {r:List (Value×Value)} {t:Option Bool}:SeqAt.EqAt A s p q true->OW A s r t->OW A s ((p,q)::r) t
 | ne {p q:Value} {r:List (Value×Value)} {t:Bool}:SeqAt.EqAt A s p q false->JK A s p q t->OW A s ((p,q)::r) (some t)
theorem Fp(l b:Addr)(xs f:Array Value)(n D:Nat)(B r:Option Addr)(v o:Array (Option Value)):Meets (Builtin.«tuple.__lt__» ⟨[.ref l,.ref b],[]⟩)
  (λA R s=>s.heap.get? l=some ⟨.type "tuple",B,.seq xs n,v⟩/\s.heap.get? b=some ⟨.type "tuple",r,.seq f D,o⟩ /\ ∃t:Option Bool,OW A.in1 s (xs.toList.zip f.toList) t/\R (.ok (.ret (.bool (t.getD (decide (xs.size<f.size)))))) s) :=
 .of_wp λprog w A R s h=>by
  obtain⟨m,g,d,k,p⟩:=s;obtain⟨z,C,t,a,e⟩:=h;have E:=PY
  wp_walk using OM z,OM C,wpAny_forIn_list _ (λq c s' =>c.1=none/\s' =⟨m,g,d,k,p⟩/\∃t:Option Bool,OW A.in1 ⟨m,g,d,k,p⟩ q t/\R (.ok (.ret (.bool (t.getD (decide (xs.size<f.size)))))) ⟨m,g,d,k,p⟩) _
  case turn =>
   rintro⟨y,x⟩ q c s' ⟨i,rfl,t,a,e⟩;cases a with
   |eq j a =>
    refine MQ (j prog w _ _ ?_)
    wp_walk
    exact⟨rfl,rfl,t,a,e⟩
   |ne j u =>
    refine MQ (j prog w _ _ ?_);refine MQ (Pq (MQ (u prog w _ _ ?_)));refine MQ (MU (MU ?_));exact MU ⟨_,rfl,e⟩
  case fin =>
   rintro⟨G,F⟩ s' ⟨i,rfl,t,a,e⟩;cases a;simp only at i;subst i
   wp_walk
   exact⟨_,rfl,by simpa [Builtin.Tuple.tupleCompareSizes]using e⟩
  case h =>
   exact⟨rfl,rfl,t,a,e⟩
theorem yO(r:s.heap.IsTuple l xs)(u:s.heap.IsTuple b a)(j:A.units<cLine)(q:OW A.in1 s (xs.toList.zip a.toList) t):JK A s (.ref l) (.ref b) (t.getD (decide (xs.size<a.size))):=λprog w E Q h=>by
 obtain⟨⟨C,v,y,p⟩,g,e,n,c⟩:=id r;obtain⟨⟨B,o,x,k⟩,i,d,m,f⟩:=id u;simp only at e c d f;subst e c d f;exact Ph (op:=.Lt) ⟨_,g,rfl⟩ ⟨_,i,rfl⟩ PySem.F.slot_tuple_lt PySem.F.entry_tuple_lt (PySem.F.args_tuple_lt_2 _ _) (Fp l b xs a n m v o p k) ⟨g,i,t,q,(λz=>nomatch z),h⟩ j
set_option tactic.hygienic true
mutual
theorem A3:∀{x y:PV}{n:Nat}{A:Around}{s:Shared}{a b:Value}{as bs:List Addr}{t:Bool},Reads s.heap a (iM x) as->Reads s.heap b (iM y) bs->cT n x=true->cT n y=true->A.units+n<cLine->Ks x y=some t->JK A s a b t
 | .int i,y,_,_,_,_,_,_,_,_,ra,rb,_,_,_,h=>by
  cases y with
  | int j =>
   cases h;cases ra;cases rb;exact λprog w E Q q=>PyProof.Rows.lt_int q
  | _=>cases h
 | .tup xs,y,n,A,s,_,_,_,_,t,ra,rb,fa,fb,hu,h=>by
  cases y with
  | tup ys =>
   cases n with
   | zero=>cases fa
   | succ n =>
    cases ra with
    | @tuple l o vs m _ _ h1 h2 h3 h4 =>
     cases rb with
     | @tuple l' o' ws m' _ _ k1 k2 k3 k4 =>
      obtain⟨o,ow,e⟩:=wb (A:=A.in1) (n:=n) h4 k4 fa fb (by show A.units+1+n<cLine;omega) h;rw[M5,M5]at e;rw[e];exact yO ⟨_,h1,h2,_,h3⟩ ⟨_,k1,k2,_,k3⟩ (by omega) ow
  | _=>cases h
 | .non,_,_,_,_,_,_,_,_,_,_,_,_,_,_,h=>by cases h
 | .bl _,_,_,_,_,_,_,_,_,_,_,_,_,_,_,h=>by cases h
 | .str _,_,_,_,_,_,_,_,_,_,_,_,_,_,_,h=>by cases h
 | .lst _,_,_,_,_,_,_,_,_,_,_,_,_,_,_,h=>by cases h
 | .dK _ _,_,_,_,_,_,_,_,_,_,_,_,_,_,_,h=>by cases h
 | .dT _ _,_,_,_,_,_,_,_,_,_,_,_,_,_,_,h=>by cases h
theorem wb:∀{xs ys:List PV}{n:Nat}{A:Around}{s:Shared}{vs ws:List Value}{as bs:List Addr}{t:Bool},ReadsAll s.heap vs (cf xs) as->ReadsAll s.heap ws (cf ys) bs->xs.all (cT n)=true->ys.all (cT n)=true->A.units+n<cLine->Dg xs ys=some t ->
  ∃o:Option Bool,OW A s (vs.zip ws) o/\t=o.getD (decide (vs.length<ws.length))
 | [],ys,_,_,_,_,_,_,_,_,ra,rb,_,_,_,h=>by
  cases h;cases ra;refine⟨none,.nil,?_⟩;cases ys with
  | nil=>cases rb;rfl
  | cons y ys=>cases rb;rfl
 | x::xs,[],_,_,_,_,_,_,_,_,ra,rb,_,_,_,h=>by
  cases h;cases rb;exact⟨none,by rw[Py];exact .nil,rfl⟩
 | x::xs,y::ys,n,A,s,_,_,_,_,t,ra,rb,fa,fb,hu,h=>by
  rw[On,MY]at fa fb;cases ra with
  | cons r rs =>
   cases rb with
   | cons r' rs' =>
    obtain⟨c1,d1⟩:=bp fa.1;obtain⟨c2,d2⟩:=bp fb.1;have he:=SeqAt.eqAt_reads (iM x) (iM y) A s _ _ _ _ r r' c1 c2 (by omega);rw[eU]at he;have h:(if jW x y=true then Dg xs ys else Ks x y)=some t:=h;cases e:jW x y with
    | true =>
     rw[e]at h he;obtain⟨o,ow,z⟩:=wb rs rs' fa.2 fb.2 hu h;refine⟨o,.eq he ow,?_⟩;rw[z,Ma,Ma]
     congr 1
     exact decide_eq_decide.mpr (by omega)
    | false =>
     rw[e]at h he;exact⟨some t,.ne he (A3 r r' fa.1 fb.1 hu h),rfl⟩
end
variable(X Hi)in
def GR:R2:=λx y H Q=>∃a b t,cT 12 a=true/\cT 12 b=true/\Rp X.K Hi false a H x/\Rp X.K Hi false b H y/\Ks a b=some t/\Q (.bl t) H
set_option tactic.hygienic false
theorem Ak(n:X.A.units+64<cLine):dk X (compareOp .Lt) (GR X Hi):=by intro d s p H x y u v Q I k g h;obtain⟨a,b,t,c,f,l,j,e,q⟩:=h;obtain⟨as,i⟩:=aq I c l k;obtain⟨o,m⟩:=aq I f j g;exact A3 i m c f (by omega) e _ _ _ _ ⟨.bl _,H,I,rfl,q⟩
theorem Rp.dT{n:Bool}{b:List (List ak)}{vs:List PV}{G:Hp}{u:V}(h:Rp X.K Hi n (.dT b vs) G u):∃p a,u=.ref p/\G p=some (.dT (b.zip a))/\b.length=a.length/\aI X.K Hi n vs (IR.del G p) a:=by obtain⟨p,a,e,_,d,f,c⟩:=h;exact⟨p,a,e,d,f,c⟩
theorem Rp.dK{n:Bool}{b:List ak}{vs:List PV}{G:Hp}{u:V}(h:Rp X.K Hi n (.dK b vs) G u):∃p a,u=.ref p/\G p=some (.dK (b.zip a))/\b.length=a.length/\aI X.K Hi n vs (IR.del G p) a:=by obtain⟨p,a,e,_,d,f,c⟩:=h;exact⟨p,a,e,d,f,c⟩
end
section
variable{X:Cx}{Hi:Hp}
def JQ(A:Around)(s:Shared)(a b:Value)(t:Bool):Prop:=∀(prog:Program)(w:World)(E:Value->Shared->Prop)(Q:Value->Shared->Prop),Q (.bool t) s->wpAny (model prog w) A (richCompare .Gt a b) Q E s
inductive tV(A:Around)(s:Shared):List (Value×Value)->Option Bool->Prop
 | nil:tV A s [] none
 | eq {p q:Value} {r:List (Value×Value)} {t:Option Bool}:SeqAt.EqAt A s p q true->tV A s r t->tV A s ((p,q)::r) t
 | ne {p q:Value} {r:List (Value×Value)} {t:Bool}:SeqAt.EqAt A s p q false->JQ A s p q t->tV A s ((p,q)::r) (some t)
set_option tactic.hygienic false
theorem Fs(l b:Addr)(xs f:Array Value)(n D:Nat)(B r:Option Addr)(v o:Array (Option Value)):Meets (Builtin.«tuple.__gt__» ⟨[.ref l,.ref b],[]⟩)
  (λA R s=>s.heap.get? l=some ⟨.type "tuple",B,.seq xs n,v⟩/\s.heap.get? b=some ⟨.type "tuple",r,.seq f D,o⟩ /\ ∃t:Option Bool,tV A.in1 s (xs.toList.zip f.toList) t/\R (.ok (.ret (.bool (t.getD (decide (xs.size>f.size)))))) s) :=
 .of_wp λprog w A R s h=>by
  obtain⟨m,g,d,k,p⟩:=s;obtain⟨z,C,t,a,e⟩:=h;have E:=PY
  wp_walk using OM z,OM C,wpAny_forIn_list _ (λq c s' =>c.1=none/\s' =⟨m,g,d,k,p⟩/\∃t:Option Bool,tV A.in1 ⟨m,g,d,k,p⟩ q t/\R (.ok (.ret (.bool (t.getD (decide (xs.size>f.size)))))) ⟨m,g,d,k,p⟩) _
  case turn =>
   rintro⟨y,x⟩ q c s' ⟨i,rfl,t,a,e⟩;cases a with
   |eq j a =>
    refine MQ (j prog w _ _ ?_)
    wp_walk
    exact⟨rfl,rfl,t,a,e⟩
   |ne j u =>
    refine MQ (j prog w _ _ ?_);refine MQ (Pq (MQ (u prog w _ _ ?_)));refine MQ (MU (MU ?_));exact MU ⟨_,rfl,e⟩
  case fin =>
   rintro⟨G,F⟩ s' ⟨i,rfl,t,a,e⟩;cases a;simp only at i;subst i
   wp_walk
   exact⟨_,rfl,by simpa [Builtin.Tuple.tupleCompareSizes]using e⟩
  case h =>
   exact⟨rfl,rfl,t,a,e⟩
theorem yb(r:s.heap.IsTuple l xs)(u:s.heap.IsTuple b a)(j:A.units<cLine)(q:tV A.in1 s (xs.toList.zip a.toList) t):JQ A s (.ref l) (.ref b) (t.getD (decide (xs.size>a.size))):=λprog w E Q h=>by
 obtain⟨⟨C,v,y,p⟩,g,e,n,c⟩:=id r;obtain⟨⟨B,o,x,k⟩,i,d,m,f⟩:=id u;simp only at e c d f;subst e c d f;exact Ph (op:=.Gt) ⟨_,g,rfl⟩ ⟨_,i,rfl⟩ PySem.F.slot_tuple_gt PySem.F.entry_tuple_gt (PySem.F.args_tuple_gt_2 _ _) (Fs l b xs a n m v o p k) ⟨g,i,t,q,(λz=>nomatch z),h⟩ j
set_option tactic.hygienic true
mutual
theorem BV:∀{x y:PV}{n:Nat}{A:Around}{s:Shared}{a b:Value}{as bs:List Addr}{t:Bool},Reads s.heap a (iM x) as->Reads s.heap b (iM y) bs->cT n x=true->cT n y=true->A.units+n<cLine->K5 x y=some t->JQ A s a b t
 | .int i,y,_,_,_,_,_,_,_,_,ra,rb,_,_,_,h=>by
  cases y with
  | int j =>
   cases h;cases ra;cases rb;exact λprog w E Q q=>PyProof.Rows.gt_int q
  | _=>cases h
 | .tup xs,y,n,A,s,_,_,_,_,t,ra,rb,fa,fb,hu,h=>by
  cases y with
  | tup ys =>
   cases n with
   | zero=>cases fa
   | succ n =>
    cases ra with
    | @tuple l o vs m _ _ h1 h2 h3 h4 =>
     cases rb with
     | @tuple l' o' ws m' _ _ k1 k2 k3 k4 =>
      obtain⟨o,ow,e⟩:=wx (A:=A.in1) (n:=n) h4 k4 fa fb (by show A.units+1+n<cLine;omega) h;rw[M5,M5]at e;rw[e];exact yb ⟨_,h1,h2,_,h3⟩ ⟨_,k1,k2,_,k3⟩ (by omega) ow
  | _=>cases h
 | .non,_,_,_,_,_,_,_,_,_,_,_,_,_,_,h=>by cases h
 | .bl _,_,_,_,_,_,_,_,_,_,_,_,_,_,_,h=>by cases h
 | .str _,_,_,_,_,_,_,_,_,_,_,_,_,_,_,h=>by cases h
 | .lst _,_,_,_,_,_,_,_,_,_,_,_,_,_,_,h=>by cases h
 | .dK _ _,_,_,_,_,_,_,_,_,_,_,_,_,_,_,h=>by cases h
 | .dT _ _,_,_,_,_,_,_,_,_,_,_,_,_,_,_,h=>by cases h
theorem wx:∀{xs ys:List PV}{n:Nat}{A:Around}{s:Shared}{vs ws:List Value}{as bs:List Addr}{t:Bool},ReadsAll s.heap vs (cf xs) as->ReadsAll s.heap ws (cf ys) bs->xs.all (cT n)=true->ys.all (cT n)=true->A.units+n<cLine->D2 xs ys=some t ->
  ∃o:Option Bool,tV A s (vs.zip ws) o/\t=o.getD (decide (vs.length>ws.length))
 | [],ys,_,_,_,_,_,_,_,_,ra,rb,_,_,_,h=>by
  cases h;cases ra;refine⟨none,.nil,?_⟩;cases ys with
  | nil=>cases rb;rfl
  | cons y ys=>cases rb;rfl
 | x::xs,[],_,_,_,_,_,_,_,_,ra,rb,_,_,_,h=>by
  cases h;cases rb;cases ra;exact⟨none,by rw[Py];exact .nil,rfl⟩
 | x::xs,y::ys,n,A,s,_,_,_,_,t,ra,rb,fa,fb,hu,h=>by
  rw[On,MY]at fa fb;cases ra with
  | cons r rs =>
   cases rb with
   | cons r' rs' =>
    obtain⟨c1,d1⟩:=bp fa.1;obtain⟨c2,d2⟩:=bp fb.1;have he:=SeqAt.eqAt_reads (iM x) (iM y) A s _ _ _ _ r r' c1 c2 (by omega);rw[eU]at he;have h:(if jW x y=true then D2 xs ys else K5 x y)=some t:=h;cases e:jW x y with
    | true =>
     rw[e]at h he;obtain⟨o,ow,z⟩:=wx rs rs' fa.2 fb.2 hu h;refine⟨o,.eq he ow,?_⟩;rw[z,Ma,Ma]
     congr 1
     exact decide_eq_decide.mpr (by omega)
    | false =>
     rw[e]at h he;exact⟨some t,.ne he (BV r r' fa.1 fb.1 hu h),rfl⟩
end
variable(X Hi)in
def rGtT:R2:=λx y H Q=>∃a b t,cT 12 a=true/\cT 12 b=true/\Rp X.K Hi false a H x/\Rp X.K Hi false b H y/\K5 a b=some t/\Q (.bl t) H
set_option tactic.hygienic false
theorem Gx(n:X.A.units+64<cLine):dk X (compareOp .Gt) (rGtT X Hi):=by intro d s p H x y u v Q I k g h;obtain⟨a,b,t,c,f,l,j,e,q⟩:=h;obtain⟨as,i⟩:=aq I c l k;obtain⟨o,m⟩:=aq I f j g;exact BV i m c f (by omega) e _ _ _ _ ⟨.bl _,H,I,rfl,q⟩
def JL(A:Around)(s:Shared)(a b:Value)(t:Bool):Prop:=∀(prog:Program)(w:World)(E:Value->Shared->Prop)(Q:Value->Shared->Prop),Q (.bool t) s->wpAny (model prog w) A (richCompare .LtE a b) Q E s
inductive tU(A:Around)(s:Shared):List (Value×Value)->Option Bool->Prop
 | nil:tU A s [] none
 | eq {p q:Value} {r:List (Value×Value)} {t:Option Bool}:SeqAt.EqAt A s p q true->tU A s r t->tU A s ((p,q)::r) t
 | ne {p q:Value} {r:List (Value×Value)} {t:Bool}:SeqAt.EqAt A s p q false->JL A s p q t->tU A s ((p,q)::r) (some t)
theorem Fq(l b:Addr)(xs f:Array Value)(n D:Nat)(B r:Option Addr)(v o:Array (Option Value)):Meets (Builtin.«tuple.__le__» ⟨[.ref l,.ref b],[]⟩)
  (λA R s=>s.heap.get? l=some ⟨.type "tuple",B,.seq xs n,v⟩/\s.heap.get? b=some ⟨.type "tuple",r,.seq f D,o⟩ /\ ∃t:Option Bool,tU A.in1 s (xs.toList.zip f.toList) t/\R (.ok (.ret (.bool (t.getD (decide (xs.size<=f.size)))))) s) :=
 .of_wp λprog w A R s h=>by
  obtain⟨m,g,d,k,p⟩:=s;obtain⟨z,C,t,a,e⟩:=h;have E:=PY
  wp_walk using OM z,OM C,wpAny_forIn_list _ (λq c s' =>c.1=none/\s' =⟨m,g,d,k,p⟩/\∃t:Option Bool,tU A.in1 ⟨m,g,d,k,p⟩ q t/\R (.ok (.ret (.bool (t.getD (decide (xs.size<=f.size)))))) ⟨m,g,d,k,p⟩) _
  case turn =>
   rintro⟨y,x⟩ q c s' ⟨i,rfl,t,a,e⟩;cases a with
   |eq j a =>
    refine MQ (j prog w _ _ ?_)
    wp_walk
    exact⟨rfl,rfl,t,a,e⟩
   |ne j u =>
    refine MQ (j prog w _ _ ?_);refine MQ (Pq (MQ (u prog w _ _ ?_)));refine MQ (MU (MU ?_));exact MU ⟨_,rfl,e⟩
  case fin =>
   rintro⟨G,F⟩ s' ⟨i,rfl,t,a,e⟩;cases a;simp only at i;subst i
   wp_walk
   exact⟨_,rfl,by simpa [Builtin.Tuple.tupleCompareSizes]using e⟩
  case h =>
   exact⟨rfl,rfl,t,a,e⟩
theorem yS(r:s.heap.IsTuple l xs)(u:s.heap.IsTuple b a)(j:A.units<cLine)(q:tU A.in1 s (xs.toList.zip a.toList) t):JL A s (.ref l) (.ref b) (t.getD (decide (xs.size<=a.size))):=λprog w E Q h=>by
 obtain⟨⟨C,v,y,p⟩,g,e,n,c⟩:=id r;obtain⟨⟨B,o,x,k⟩,i,d,m,f⟩:=id u;simp only at e c d f;subst e c d f;exact Ph (op:=.LtE) ⟨_,g,rfl⟩ ⟨_,i,rfl⟩ PySem.F.slot_tuple_le PySem.F.entry_tuple_le (PySem.F.args_tuple_le_2 _ _) (Fq l b xs a n m v o p k) ⟨g,i,t,q,(λz=>nomatch z),h⟩ j
set_option tactic.hygienic true
mutual
theorem A7:∀{x y:PV}{n:Nat}{A:Around}{s:Shared}{a b:Value}{as bs:List Addr}{t:Bool},Reads s.heap a (iM x) as->Reads s.heap b (iM y) bs->cT n x=true->cT n y=true->A.units+n<cLine->ut x y=some t->JL A s a b t
 | .int i,y,_,_,_,_,_,_,_,_,ra,rb,_,_,_,h=>by
  cases y with
  | int j =>
   cases h;cases ra;cases rb;exact λprog w E Q q=>PyProof.Rows.le_int q
  | _=>cases h
 | .tup xs,y,n,A,s,_,_,_,_,t,ra,rb,fa,fb,hu,h=>by
  cases y with
  | tup ys =>
   cases n with
   | zero=>cases fa
   | succ n =>
    cases ra with
    | @tuple l o vs m _ _ h1 h2 h3 h4 =>
     cases rb with
     | @tuple l' o' ws m' _ _ k1 k2 k3 k4 =>
      obtain⟨o,ow,e⟩:=wg (A:=A.in1) (n:=n) h4 k4 fa fb (by show A.units+1+n<cLine;omega) h;rw[M5,M5]at e;rw[e];exact yS ⟨_,h1,h2,_,h3⟩ ⟨_,k1,k2,_,k3⟩ (by omega) ow
  | _=>cases h
 | .non,_,_,_,_,_,_,_,_,_,_,_,_,_,_,h=>by cases h
 | .bl _,_,_,_,_,_,_,_,_,_,_,_,_,_,_,h=>by cases h
 | .str _,_,_,_,_,_,_,_,_,_,_,_,_,_,_,h=>by cases h
 | .lst _,_,_,_,_,_,_,_,_,_,_,_,_,_,_,h=>by cases h
 | .dK _ _,_,_,_,_,_,_,_,_,_,_,_,_,_,_,h=>by cases h
 | .dT _ _,_,_,_,_,_,_,_,_,_,_,_,_,_,_,h=>by cases h
theorem wg:∀{xs ys:List PV}{n:Nat}{A:Around}{s:Shared}{vs ws:List Value}{as bs:List Addr}{t:Bool},ReadsAll s.heap vs (cf xs) as->ReadsAll s.heap ws (cf ys) bs->xs.all (cT n)=true->ys.all (cT n)=true->A.units+n<cLine->yR xs ys=some t ->
  ∃o:Option Bool,tU A s (vs.zip ws) o/\t=o.getD (decide (vs.length<=ws.length))
 | [],ys,_,_,_,_,_,_,_,_,ra,rb,_,_,_,h=>by
  cases h;cases ra;refine⟨none,.nil,?_⟩;cases ys with
  | nil=>cases rb;rfl
  | cons y ys=>cases rb;rfl
 | x::xs,[],_,_,_,_,_,_,_,_,ra,rb,_,_,_,h=>by
  cases h;cases rb;cases ra;exact⟨none,by rw[Py];exact .nil,rfl⟩
 | x::xs,y::ys,n,A,s,_,_,_,_,t,ra,rb,fa,fb,hu,h=>by
  rw[On,MY]at fa fb;cases ra with
  | cons r rs =>
   cases rb with
   | cons r' rs' =>
    obtain⟨c1,d1⟩:=bp fa.1;obtain⟨c2,d2⟩:=bp fb.1;have he:=SeqAt.eqAt_reads (iM x) (iM y) A s _ _ _ _ r r' c1 c2 (by omega);rw[eU]at he;have h:(if jW x y=true then yR xs ys else ut x y)=some t:=h;cases e:jW x y with
    | true =>
     rw[e]at h he;obtain⟨o,ow,z⟩:=wg rs rs' fa.2 fb.2 hu h;refine⟨o,.eq he ow,?_⟩;rw[z,Ma,Ma]
     congr 1
     exact decide_eq_decide.mpr (by omega)
    | false =>
     rw[e]at h he;exact⟨some t,.ne he (A7 r r' fa.1 fb.1 hu h),rfl⟩
end
variable(X Hi)in
def rLeT:R2:=λx y H Q=>∃a b t,cT 12 a=true/\cT 12 b=true/\Rp X.K Hi false a H x/\Rp X.K Hi false b H y/\ut a b=some t/\Q (.bl t) H
set_option tactic.hygienic false
theorem Gw(n:X.A.units+64<cLine):dk X (compareOp .LtE) (rLeT X Hi):=by intro d s p H x y u v Q I k g h;obtain⟨a,b,t,c,f,l,j,e,q⟩:=h;obtain⟨as,i⟩:=aq I c l k;obtain⟨o,m⟩:=aq I f j g;exact A7 i m c f (by omega) e _ _ _ _ ⟨.bl _,H,I,rfl,q⟩
end
section
variable{X:Cx}{Hi:Hp}{τ:En}
set_option tactic.hygienic false
theorem Bl(h:eqs a b=some t)(ha:Rp X.K Hi false a H u)(hb:Rp X.K Hi false b H' v):F9 u v=true/\decide (u=v)=t:=by
  cases a<;>cases b<;>first
    | exact absurd (show(none:Option Bool)=some t from h) (by intro z;cases z)
    | (have e:=Mv (show some _=some t from h)
       subst e
       first
       | rw[Rp.int.mp ha]|rw[Rp.str.mp ha]|rw[Rp.bl.mp ha]|rw[Rp.non.mp ha]
       first
       | rw[Rp.int.mp hb]|rw[Rp.str.mp hb]|rw[Rp.bl.mp hb]|rw[Rp.non.mp hb]
       exact⟨rfl,by simp⟩)
theorem pi(c:Rp X.K Hi false a H u)(f:sj a=true):fz u=true:=by
 cases a with
 |non=>rw[Rp.non.mp c];rfl|bl b=>rw[Rp.bl.mp c];rfl|int b=>rw[Rp.int.mp c];rfl|str b=>rw[Rp.str.mp c];rfl|_=>cases f
theorem II(c:Rp X.K Hi false a H u)(d:Rp X.K Hi false b g v)(e:sj a=true)(f:sj b=true):zJ u v=EB a b:=by
 cases a<;>(try cases e)<;>cases b<;>(try cases f) <;>
  (first|rw[Rp.int.mp c]|rw[Rp.str.mp c]|rw[Rp.bl.mp c]|rw[Rp.non.mp c]) <;>
  (first|rw[Rp.int.mp d]|rw[Rp.str.mp d]|rw[Rp.bl.mp d]|rw[Rp.non.mp d]) <;>
  first|rfl|exact beq_eq_decide _ _|exact(beq_eq_decide _ _).symm|(simp[zJ,EB,Pb];done)|(unfold zJ EB;simp only[beq_eq_decide])
theorem lw:∀{xs:List PV}{H:Hp}{c:List V},aI X.K Hi false xs H c->xs.all sj=true->c.all fz=true
 |[],_,_,h,_=>by obtain rfl:=h;rfl|x::xs,_,_,h,f=>by
  obtain⟨u,r,rfl,a,b⟩:=h;rw[On,MY]at f ⊢;exact⟨pi a f.1,lw b f.2⟩
theorem ve{x:PV}{g :Hp}{v:V}(d:Rp X.K Hi false x g v)(e:sj x=true):∀{xs:List PV}{H:Hp}{c:List V},aI X.K Hi false xs H c->xs.all sj=true->inV v c=xs.any λy=>EB y x
 |[],_,_,h,_=>by obtain rfl:=h;rfl|y::xs,_,_,h,f=>by
  obtain⟨u,r,rfl,a,b⟩:=h;rw[On,MY]at f;show(zJ u v||inV v r)=_;rw[PF,ve d e b f.2,II a d f.1 e]
theorem HB(c:Rp X.K Hi false a H u)(h:∀z,a≠z\/z≠PV.non):u≠.non:=by
 intro e;subst e;cases a with
 |non=>rcases h .non with z|z<;>exact z rfl
 |bl b=>cases Rp.bl.mp c|int b=>cases Rp.int.mp c|str b=>cases Rp.str.mp c|lst xs=>obtain⟨p,d,z,_⟩:=Rp.lst.mp c;cases z
 |tup xs=>obtain⟨p,d,z,_⟩:=Rp.tup.mp c;cases z
 |dK f vs=>obtain⟨p,d,z,_⟩:=c;cases z
 |dT f vs=>obtain⟨p,d,z,_⟩:=c;cases z
set_option tactic.hygienic true in
theorem fS(m:X.A.units+64<cLine)(h:ar op x.val y.val=some t):∃E:R2,dk X (compareOp op) E /\ ∀(O:List Addr)(g:L2.St)(H f:Hp)(u v:V)(Q:VK),av X.K Hi O τ g H->aE H f->aj X.K Hi O H f x u->aj X.K Hi O H f y v->Q (.bl t) f->E u v f Q:=by
 cases op with
 |Lt =>
  have h:B7 x.val y.val=some t:=h;unfold B7 at h
  split at h
  case h_1 i j o d=>cases h;exact⟨_,Kj,λO g H f u v Q R s a b q=>⟨i,j,a.int R s o,b.int R s d,q⟩⟩
  case h_2 xs w o d =>
   unfold ltT at h
   split at h
   ·rename_i c
    rw[MY]at c;exact⟨_,Ak (Hi:=Hi) m,λO g H f u v Q R s a b q=>⟨_,_,t,c.1,c.2,by have z:=a.val R s;rw[o]at z;exact z,by have z:=b.val R s;rw[d]at z;exact z,h,q⟩⟩
   ·cases h
  case h_3=>cases h
 |LtE =>
  have h:vQ x.val y.val=some t:=h;unfold vQ at h
  split at h
  case h_1 i j o d=>cases h;exact⟨_,Kk,λO g H f u v Q R s a b q=>⟨i,j,a.int R s o,b.int R s d,q⟩⟩
  case h_2 xs w o d =>
   unfold leT at h
   split at h
   ·rename_i c
    rw[MY]at c;exact⟨_,Gw (Hi:=Hi) m,λO g H f u v Q R s a b q=>⟨_,_,t,c.1,c.2,by have z:=a.val R s;rw[o]at z;exact z,by have z:=b.val R s;rw[d]at z;exact z,h,q⟩⟩
   ·cases h
  case h_3=>cases h
 |Gt =>
  have h:B9 x.val y.val=some t:=h;unfold B9 at h
  split at h
  case h_1 i j o d=>cases h;exact⟨_,Km,λO g H f u v Q R s a b q=>⟨i,j,a.int R s o,b.int R s d,q⟩⟩
  case h_2 xs w o d =>
   unfold gtT at h
   split at h
   ·rename_i c
    rw[MY]at c;exact⟨_,Gx (Hi:=Hi) m,λO g H f u v Q R s a b q=>⟨_,_,t,c.1,c.2,by have z:=a.val R s;rw[o]at z;exact z,by have z:=b.val R s;rw[d]at z;exact z,h,q⟩⟩
   ·cases h
  case h_3=>cases h
 |GtE =>
  have h:vR x.val y.val=some t:=h;unfold vR at h
  split at h
  case h_1 i j o d=>cases h;exact⟨_,Kn,λO g H f u v Q R s a b q=>⟨i,j,a.int R s o,b.int R s d,q⟩⟩
  case h_2=>cases h
 |Eq =>
  have h:FV x.val y.val=some t:=h;unfold FV at h
  split at h
  ·rename_i z
   cases h;refine⟨_,wQ,λO g H f u v Q R s a b q=> ?_⟩;obtain⟨C,B⟩:=Bl z (a.val R s) (b.val R s);exact⟨C,by rw[B];exact q⟩
  ·split at h
   ·rename_i c
    rw[MY]at c;cases h;exact⟨_,Gy (Hi:=Hi) m,λO g H f u v Q R s a b q=>⟨_,_,c.1,c.2,a.val R s,b.val R s,q⟩⟩
   ·cases h
 |NotEq =>
  have h:(FV x.val y.val).map (!·)=some t:=h;obtain⟨k,e,rfl⟩:∃k,FV x.val y.val=some k/\t= !k:=by
   cases e:FV x.val y.val with
   |none=>rw[e]at h;cases h|some k=>rw[e]at h;cases h;exact⟨k,rfl,rfl⟩
  unfold FV at e
  split at e
  ·rename_i z
   cases e;refine⟨_,Ki,λO g H f u v Q R s a b q=> ?_⟩;obtain⟨C,B⟩:=Bl z (a.val R s) (b.val R s);exact⟨C,by rw[B];exact q⟩
  ·split at e
   ·rename_i c
    rw[MY]at c;cases e;exact⟨_,Gs (Hi:=Hi) m,λO g H f u v Q R s a b q=>⟨_,_,c.1,c.2,a.val R s,b.val R s,q⟩⟩
   ·cases e
 |Is =>
  have h:B8 x.val y.val=some t:=h;unfold B8 at h
  split at h
  case h_1 o d =>
   cases h;refine⟨_,Al,λO g H f u v Q R s a b q=> ?_⟩;have C:=a.val R s;have B:=b.val R s;rw[o]at C;rw[d]at B;exact⟨Rp.non.mp B,by rw[Rp.non.mp C];exact q⟩
  case h_2 d F =>
   cases h;refine⟨_,Al,λO g H f u v Q R s a b q=> ?_⟩;have B:=b.val R s;rw[d]at B;have n:u≠.non:=HB (a.val R s) λz=>by
    by_cases c:z=.non;left;intro G;exact F (G.trans c);right;exact c
   exact⟨Rp.non.mp B,by rw[Mq n];exact q⟩
  case h_3=>cases h
 |NotIn =>
  have h:mL x.val y.val=some t:=h;unfold mL at h
  split at h
  case h_1 w d =>
   obtain⟨k,e,rfl⟩:∃k,wq x.val w=some k/\t= !k:=by
    cases e:wq x.val w with
    |none=>rw[e]at h;cases h|some k=>rw[e]at h;cases h;exact⟨k,rfl,rfl⟩
   unfold wq at e
   split at e
   ·rename_i c
    cases e;refine⟨_,hV,λO g H f u v Q R s a b q=> ?_⟩;obtain⟨p,D,rfl,l,r⟩:=b.lst R s d;exact⟨p,D,rfl,.inl l,pi (a.val R s) c.1,lw r c.2,by rw[ve (a.val R s) c.1 r c.2];exact q⟩
   ·split at e
    ·rename_i c
     rw[MY]at c;cases e;exact⟨_,pD (Hi:=Hi) m,λO g H f u v Q R s a b q=>⟨_,w,c.1,c.2,a.val R s,.inl (by have z:=b.val R s;rw[d]at z;exact z),q⟩⟩
    ·cases e
  case h_2 w d =>
   obtain⟨k,e,rfl⟩:∃k,wq x.val w=some k/\t= !k:=by
    cases e:wq x.val w with
    |none=>rw[e]at h;cases h|some k=>rw[e]at h;cases h;exact⟨k,rfl,rfl⟩
   unfold wq at e
   split at e
   ·rename_i c
    cases e;refine⟨_,hV,λO g H f u v Q R s a b q=> ?_⟩;obtain⟨p,D,rfl,l,r⟩:=b.tup R s d;exact⟨p,D,rfl,.inr l,pi (a.val R s) c.1,lw r c.2,by rw[ve (a.val R s) c.1 r c.2];exact q⟩
   ·split at e
    ·rename_i c
     rw[MY]at c;cases e;exact⟨_,pD (Hi:=Hi) m,λO g H f u v Q R s a b q=>⟨_,w,c.1,c.2,a.val R s,.inr (by have z:=b.val R s;rw[d]at z;exact z),q⟩⟩
    ·cases e
  case h_3=>cases h
 |_=>exact absurd (show(none:Option Bool)=some t from h) (by intro z;cases z)
theorem Av(h:cR b=false):behindInMarks op b=false:=by cases b<;>first|rfl|cases h
theorem Ii(e:X.A.units+64<cLine)(i:aK X Hi τ a x)(l:aK X Hi τ b y)(j:cR b=false)(h:ar op x.val y.val=some t):aK X Hi τ (.Compare a [op] [b] pos) (sc (.bl t)):=by obtain⟨r,n,k⟩:=fS (X:=X) (Hi:=Hi) (τ:=τ) e h;intro O f H Q R q;refine we (DS n af af (Av j)) ?_;refine i O f H _ R λu m c p=>l O f m _ (R.ext c) λv g d o=> ?_;exact k O f H g u v Q R (c.trans d) (p.ext d) (o.back c) (q _ _ (c.trans d) FJ)
theorem B5(e:X.A.units+64<cLine)(i:aK X Hi τ a x)(l:aK X Hi τ b y)(j:cR b=false)(h:ar op x.val y.val=some t):eX X Hi τ (.Compare a [op] [b] pos) t:=by obtain⟨r,n,k⟩:=fS (X:=X) (Hi:=Hi) (τ:=τ) e h;intro O f H Q R q;refine wt (gz n af af (Av j)) ?_;refine i O f H _ R λu m c p=>l O f m _ (R.ext c) λv g d o=> ?_;exact k O f H g u v _ R (c.trans d) (p.ext d) (o.back c) ⟨t,rfl,q _ (c.trans d)⟩
theorem pF(h:cR c=false):lastMarks [op,a] [b,c]=false:=by show behindInMarks a c=false;exact Av h
theorem CA(m:X.A.units+64<cLine)(r:aK X Hi τ a x)(B:aK X Hi τ b y)(s:cR c=false)(h:ar I x.val y.val=some t)
  (p:if t=true then∃z,aK X Hi τ c z/\ar o2 y.val z.val=some t2 else t2=false/\∃w z,ar o2 w z=some false):aK X Hi τ (.Compare a [I,o2] [b,c] pos) (sc (.bl t2))/\eX X Hi τ (.Compare a [I,o2] [b,c] pos) t2:=by
 obtain⟨L,C,k⟩:=fS (X:=X) (Hi:=Hi) (τ:=τ) m h;cases t with
 |true =>
  rw[MX rfl]at p;obtain⟨z,K,J⟩:=p;obtain⟨G,g,D⟩:=fS (X:=X) (Hi:=Hi) (τ:=τ) m J
  constructor
  ·intro O f H Q R q
   refine we (rV C g af af af (pF s)) ?_;refine r O f H _ R λu n d o=>B O f n _ (R.ext d) λv i e j=> ?_;refine k O f H i u v _ R (d.trans e) (o.ext e) (j.back d) ⟨true,rfl,?_⟩;rw[MX rfl];refine K O f i _ (R.ext (d.trans e)) λw F l E=> ?_;exact D O f H F v w Q R (d.trans (e.trans l)) ((j.back d).ext l) (E.back (d.trans e)) (q _ _ (d.trans (e.trans l)) FJ)
  ·intro O f H Q R q
   refine wt (rK C g af af af (pF s)) ?_;refine r O f H _ R λu n d o=>B O f n _ (R.ext d) λv i e j=> ?_;refine k O f H i u v _ R (d.trans e) (o.ext e) (j.back d) ⟨true,rfl,?_⟩;rw[MX rfl];refine K O f i _ (R.ext (d.trans e)) λw F l E=> ?_;exact D O f H F v w _ R (d.trans (e.trans l)) ((j.back d).ext l) (E.back (d.trans e)) ⟨t2,rfl,q _ (d.trans (e.trans l))⟩
 |false =>
  rw[MV Mc]at p;obtain⟨rfl,w,z,J⟩:=p;obtain⟨G,g,D⟩:=fS (X:=X) (Hi:=Hi) (τ:=τ) m (x:=sc w) (y:=sc z) J
  constructor
  ·intro O f H Q R q
   refine we (rV C g af af af (pF s)) ?_;refine r O f H _ R λu n d o=>B O f n _ (R.ext d) λv i e j=> ?_;exact k O f H i u v _ R (d.trans e) (o.ext e) (j.back d) ⟨false,rfl,by rw[MV Mc];exact q _ _ (d.trans e) FJ⟩
  ·intro O f H Q R q
   refine wt (rK C g af af af (pF s)) ?_;refine r O f H _ R λu n d o=>B O f n _ (R.ext d) λv i e j=> ?_;exact k O f H i u v _ R (d.trans e) (o.ext e) (j.back d) ⟨false,rfl,by rw[MV Mc];exact⟨false,rfl,q _ (d.trans e)⟩⟩
theorem uG(o:CmpOp)(h:wO o=true):∃w z:PV,ar o w z=some false:=by
 cases o
 ·exact⟨.int 0,.int 1,rfl⟩
 ·exact⟨.int 0,.int 0,rfl⟩
 ·exact⟨.int 0,.int 0,rfl⟩
 ·exact⟨.int 1,.int 0,rfl⟩
 ·exact⟨.int 0,.int 0,rfl⟩
 ·exact⟨.int 0,.int 1,rfl⟩
 all_goals cases h
theorem HE(d:aK X Hi τ a x)(e:x.val=.int i):aK X Hi τ (.UnaryOp .USub a pos) (sc (.int (-i))):=by intro O c H Q R q;refine we (FN zV af) ?_;exact d O c H _ R λu g b f=>⟨i,f.int R b e,q _ _ b AA⟩
theorem HA(f:aK X Hi τ a x)(e:x.val=.bl b):aK X Hi τ (.UnaryOp .Not a pos) (sc (.bl !b)):=by intro O d H Q R q;refine we (Gk af) ?_;exact f O d H _ R λu h c g=>⟨b,g.bl R c e,q _ _ c FJ⟩
theorem G7(c:aK X Hi τ a x):aK X Hi τ (.BoolOp op [a] pos) x:=by intro O b H Q R q;exact we (Gj af) (c O b H _ R q)
theorem Lh(i:aK X Hi τ a x)(e:x.val=.bl true)(j:aK X Hi τ (.BoolOp .And (b::d) pos) y):aK X Hi τ (.BoolOp .And (a::b::d) pos) y:=by intro O f H Q R q;refine we (Ai af af) ?_;exact i O f H _ R λu k c m=>⟨true,m.bl R c e,mw (j O f k _ (R.ext c) λw h g l=>q w h (c.trans g) (l.back c))⟩
theorem Li(g:aK X Hi τ a x)(e:x.val=.bl false):aK X Hi τ (.BoolOp .And (a::b::d) pos) (sc (.bl false)):=by intro O f H Q R q;refine we (Ai af af) ?_;exact g O f H _ R λu i c h=>⟨false,h.bl R c e,pK (q _ _ c FJ)⟩
theorem or_f(i:aK X Hi τ a x)(e:x.val=.bl false)(j:aK X Hi τ (.BoolOp .Or (b::d) pos) y):aK X Hi τ (.BoolOp .Or (a::b::d) pos) y:=by intro O f H Q R q;refine we (FO af af) ?_;exact i O f H _ R λu k c m=>⟨false,m.bl R c e,pK (j O f k _ (R.ext c) λw h g l=>q w h (c.trans g) (l.back c))⟩
theorem or_t(g:aK X Hi τ a x)(e:x.val=.bl true):aK X Hi τ (.BoolOp .Or (a::b::d) pos) (sc (.bl true)):=by intro O f H Q R q;refine we (FO af af) ?_;exact g O f H _ R λu i c h=>⟨true,h.bl R c e,mw (q _ _ c FJ)⟩
theorem HZ(k:eX X Hi τ c t)(h:aK X Hi τ (if t=true then a else b) r):aK X Hi τ (.IfExp c a b pos) r:=by
 intro O g H Q R q;refine we (Ah lA af af) ?_;refine k O g H _ R λj d=> ?_;cases t with
 |true=>exact mw ((show aK X Hi τ a r from h) O g j _ (R.ext d) λw f e i=>q w f (d.trans e) (i.back d))|false=>exact pK ((show aK X Hi τ b r from h) O g j _ (R.ext d) λw f e i=>q w f (d.trans e) (i.back d))
set_option tactic.hygienic true in
theorem zZ(h:qm v=some b)(r:Rp X.K Hi false v H u):JE X.K u H b:=by
 cases v with
 |non=>cases h;rw[Rp.non.mp r];rfl|bl c=>cases h;rw[Rp.bl.mp r];rfl|int i=>cases h;rw[Rp.int.mp r];rfl|str z =>
  have h:(if z.length<=LN then some ((z.length:Int) !=0)else none)=some b:=h
  split at h
  ·rename_i c
   cases h;rw[Rp.str.mp r];exact⟨by rw[fE];exact c,rfl⟩
  ·cases h
 |lst xs =>
  cases h;obtain⟨p,a,rfl,_,l,r⟩:=Rp.lst.mp r;have:=r.len;exact .inl ⟨a,l,by cases xs<;>cases a<;>simp_all⟩
 |tup xs =>
  cases h;obtain⟨p,a,rfl,l,r⟩:=Rp.tup.mp r;have:=r.len;exact .inr (.inl ⟨a,l,by cases xs<;>cases a<;>simp_all⟩)
 |dK d vs =>
  cases h;obtain⟨p,a,rfl,_,l,z,r⟩:=r;exact .inr (.inr ⟨_,l,by cases d<;>cases a<;>simp_all⟩)
 |dT d vs=>cases h
theorem Fk(d:aK X Hi τ e x)(h:qm x.val=some b)(g:∀a,isTrue e X.env a=(do let v<-a;standAt e.pos;holding [v] (truthy v))):eX X Hi τ e b:=by intro O f H Q R q;refine wt (AR af g) ?_;exact d O f H _ R λu j c i=>⟨b,zZ h (i.val R c),q _ c⟩
theorem G9(d:eX X Hi τ a b):eX X Hi τ (.UnaryOp .Not a pos) !b:=by intro O c H Q R q;exact wt (GW lA) (d O c H _ R λf e=>q _ e)
def nH(X:Cx)(Hi:Hp)(τ:En)(e:Expr)(b:Bool):Prop:=∀(O:List Addr)(d:L2.St)(H:Hp)(Q:Bool->Hp->Prop),av X.K Hi O τ d H->(∀f,aE H f ->Q b f) -> ∀(c:Sem Value)(a:List (Addr×Obj))(s:Shared),Inv X a d H s->wpAny (model X.prog X.w) X.A (isTrue e X.env c) (TP X a d Q) X.xe s
theorem Ka:PW X e (λc H Q=>∀(b:Sem Value)(a:List (Addr×Obj))(s:Shared),Inv X a c H s->wpAny (model X.prog X.w) X.A (isTrue e X.env b) (TP X a c Q) X.xe s):=λd a s c H Q I h=>h d a s I
theorem nH.tc(h:nH X Hi τ e b):eX X Hi τ e b:=λO c H Q R q a s I=>h O c H Q R q _ a s I
theorem G6(e:eX X Hi τ a b):nH X Hi τ (.BoolOp op [a] pos) b:=by
 intro O d H Q R q f c s I;cases op with
 |And=>exact wG lA f c s d H Q I (e O d H Q R q)|Or=>exact AL lA f c s d H Q I (e O d H Q R q)
theorem CO(i:eX X Hi τ a t)(d:if t=true then nH X Hi τ (.BoolOp .And (b::g) pos) u else u=false):nH X Hi τ (.BoolOp .And (a::b::g) pos) u:=by
 intro O f H Q R q k c s I;refine AM lA Ka k c s f H Q I ?_;refine i O f H _ R λj e=> ?_;cases t with
 |true=>exact mw ((show nH X Hi τ _ u from d) O f j _ (R.ext e) λl h=>q _ (e.trans h))|false =>
  have d:u=false:=d;subst d;exact pK (q _ e)
theorem FP(i:eX X Hi τ a t)(d:if t=true then u=true else nH X Hi τ (.BoolOp .Or (b::g) pos) u):nH X Hi τ (.BoolOp .Or (a::b::g) pos) u:=by
 intro O f H Q R q k c s I;refine FM lA Ka k c s f H Q I ?_;refine i O f H _ R λj e=> ?_;cases t with
 |false=>exact pK ((show nH X Hi τ _ u from d) O f j _ (R.ext e) λl h=>q _ (e.trans h))|true =>
  have d:u=true:=d;subst d;exact mw (q _ e)
end
end IR
namespace L2
open PySem PySem.Spec PyProof.Rows
section
variable{X:Cx}
inductive Ln(K:W.Frag)(H:Hp):V->Value->Prop where
 | of {x:V} {t:Value} (h:jj K H x t):Ln K H x t
 | lst {a:Addr} {xs:List V} (e:bR K H a xs):Ln K H (.ref a) (.type "list")
 | tup {a:Addr} {xs:List V} (e:bg K H a xs):Ln K H (.ref a) (.type "tuple")
set_option tactic.hygienic false
theorem vV:bV X (.builtin "isinstance") (λxs H Q=>∃x c t b,xs=[x,.ty c]/\Ln X.K H x t/\W.kitOne X.K t (.type c)=some b/\Q (.bl b) H):=by
 intro k s A H xs B Q I r h;obtain⟨x,c,t,b,rfl,i,e,q⟩:=h;obtain⟨u,y,rfl,d,p⟩:=vals2 r;cases p;cases i with
 |of i=>exact yY I d i e λm=>⟨.bl b,H,I.tok _,rfl,q⟩|lst l =>
  cases d;obtain⟨a,v,f,w⟩:=I.list l;obtain⟨o,n,g,j,_⟩:=f;exact Ou W.kitx_list I.kIn ⟨o,g,j⟩ e (λz=>nomatch z) λm=>⟨.bl b,H,I.tok _,rfl,q⟩
 |tup l =>
  cases d;obtain⟨a,v,f,w⟩:=I.tuple l;obtain⟨o,g,j,_⟩:=f;exact Ou W.kitx_tuple I.kIn ⟨o,g,j⟩ e (λz=>nomatch z) λm=>⟨.bl b,H,I.tok _,rfl,q⟩
end
section
variable{K:W.Frag}
set_option tactic.hygienic false
theorem kits:(W.kitOne K (.type "NoneType") (.type "int")=some false/\W.kitOne K (.type "NoneType") (.type "str")=some false/\W.kitOne K (.type "NoneType") (.type "list")=some false/\W.kitOne K (.type "NoneType") (.type "tuple")=some false/\W.kitOne K (.type "NoneType") (.type "bool")=some false) /\ (W.kitOne K (.type "bool") (.type "int")=some true/\W.kitOne K (.type "bool") (.type "str")=some false/\W.kitOne K (.type "bool") (.type "list")=some false/\W.kitOne K (.type "bool") (.type "tuple")=some false) /\ (W.kitOne K (.type "int") (.type "bool")=some false/\W.kitOne K (.type "int") (.type "str")=some false/\W.kitOne K (.type "int") (.type "list")=some false/\W.kitOne K (.type "int") (.type "tuple")=some false) /\ (W.kitOne K (.type "str") (.type "bool")=some false/\W.kitOne K (.type "str") (.type "int")=some false/\W.kitOne K (.type "str") (.type "list")=some false/\W.kitOne K (.type "str") (.type "tuple")=some false) /\ (W.kitOne K (.type "list") (.type "bool")=some false/\W.kitOne K (.type "list") (.type "int")=some false/\W.kitOne K (.type "list") (.type "str")=some false/\W.kitOne K (.type "list") (.type "tuple")=some false) /\ (W.kitOne K (.type "tuple") (.type "bool")=some false/\W.kitOne K (.type "tuple") (.type "int")=some false/\W.kitOne K (.type "tuple") (.type "str")=some false/\W.kitOne K (.type "tuple") (.type "list")=some false) /\ (W.kitOne K (.type "dict") (.type "bool")=some false/\W.kitOne K (.type "dict") (.type "int")=some false/\W.kitOne K (.type "dict") (.type "str")=some false/\W.kitOne K (.type "dict") (.type "list")=some false/\W.kitOne K (.type "dict") (.type "tuple")=some false):=by refine⟨⟨?_,?_,?_,?_,?_⟩,⟨?_,?_,?_,?_⟩,⟨?_,?_,?_,?_⟩,⟨?_,?_,?_,?_⟩,⟨?_,?_,?_,?_⟩,⟨?_,?_,?_,?_⟩,⟨?_,?_,?_,?_,?_⟩⟩<;>kernel_rfl
end
end L2
namespace IR
open PySem PySem.Spec PyProof.Rows L2
section
variable{X:Cx}{Hi:Hp}{τ:En}
set_option tactic.hygienic false
theorem ae(h:isStar e=false):starEach (e::es) env=(false,eval e env)::starEach es env:=by cases e<;>first|rfl|cases h
theorem hX{env:Env}{pos:Pos}:∀{es:List Expr},(∀e∈es,isStar e=false)->(backTo pos (starEach es env)).any (·.1)=false
 |[],_=>rfl|e::es,h=>by
  rw[ae (h e MT)];show(false||(backTo pos (starEach es env)).any (·.1))=false;rw[hX λx a=>h x (MS _ a)];rfl
theorem JA:qE X Hi τ [] []:=by intro O a H Q R q;exact wa ag (q _ _ (aE.refl _) rfl)
theorem Eo(d:aK X Hi τ e r)(f:isStar e=false)(k:qE X Hi τ es rs):qE X Hi τ (e::es) (r::rs):=by intro O c H Q R q;refine wa (aL af uf (ae f)) ?_;refine d O c H _ R λu g a i=>k O c g _ (R.ext a) λj l b h=> ?_;exact q _ _ (a.trans b) ⟨u,j,rfl,i.ext b,h.back a⟩
theorem HH(h:qE X Hi τ es rs)(c:keeps rs=some (vs,n))(d:re vs n=some r):aK X Hi τ (.List es pos) r:=by obtain⟨g,rfl⟩:=wX d;intro O f H Q R q;refine we (ue uf) ?_;refine h O f H _ R λl j a i=> ?_;have k:=i.keeps R a c;have e:=k.len;exact⟨by rw[fE,<-e];exact g,λp b=>q _ _ (a.trans (aJ b _)) (fk a b k)⟩
theorem Fn(h:qE X Hi τ es rs)(c:keeps rs=some (vs,n))(d:rZ vs n=some r):aK X Hi τ (.Tuple es m pos) r:=by obtain⟨g,rfl⟩:=wW d;intro O f H Q R q;refine we (uc uf) ?_;refine h O f H _ R λj l a i=> ?_;have k:=i.keeps R a c;have e:=k.len;exact⟨by rw[fE,<-e];exact g,λp b=>q _ _ (a.trans (aJ b _)) (Rp.tup.mpr ⟨p,j,rfl,bg.of (pX R a b),k.mono (aS (aJ b _))⟩)⟩
theorem EH:aK X Hi τ (.Dict [] [] pos) (.owd (.dK []) [] true):=by intro O b H Q R q;refine we hU ?_;intro p a;exact q _ _ (aJ a _) ⟨p,[],_,rfl,a,aC,⟨rfl,rfl⟩,.nil⟩
set_option tactic.hygienic true in
theorem xI(t:PE X s m)(i:∀f H Q,Q (kV k) H->m f H Q)(h:aK X Hi τ v r)(A:r.keep=some (w,n))(D:imm w=true):aK X Hi τ (.Dict [some s] [v] pos) (.owd (.dK [k]) [w] true):=by
 intro O f H Q R q;refine we (DR (AW t af DK) rfl rfl (by intro z;cases z) (by show 1<=15;decide)) ?_;intro p l;have g:=aJ l (.dK []);refine i f _ _ ?_;refine h O f _ _ (R.ext g) λu x d B=> ?_;have C:=B.keep (R.ext g) d A;refine⟨d _ _ aC,[(k,u)],rfl,by show 1<=15;decide,?_⟩;have e:gR [] [(k,u)]=[(k,u)]:=by simp[gR,cz]
 rw[e];have y:aE H (L2.upd x p (.dK [(k,u)])):=λb o z=>by rw[aB (aF z l)];exact d _ _ (g _ _ z)
 refine q _ _ y ⟨p,[u],_,rfl,l,aC,⟨rfl,rfl⟩,.cons (Rp.imm D ⟨λb xs z=> ?_,λb o xs z=> ?_⟩ C) .nil⟩
 ·have a:b≠p:=λc=>by
   subst c;have:=aT _ _ z;rw[d _ _ aC]at this;cases this
  unfold aZ at z ⊢
  split at z;cases z
  ·rename_i j
   rw[MV j];unfold del;rw[MV a,aB a];exact z
 ·have a:b≠p:=λc=>by
   subst c;have:=aT _ _ z;rw[d _ _ aC]at this;cases this
  unfold aZ at z ⊢
  split at z;cases z
  ·rename_i j
   rw[MV j];unfold del;rw[MV a,aB a];exact z
def ie(O:List Addr)(G:Hp):Prop:=∀l∈O,(∀xs,G l≠some (.tup xs))/\∀o xs,G l≠some (.frz o (.tup xs))
theorem Mo.noTup{G:Hp}(m:Mo o)(e:G l=some o):(∀xs,G l≠some (.tup xs))/\∀o xs,G l≠some (.frz o (.tup xs)):=by obtain⟨b,a,m⟩:=m;refine⟨λxs z=> ?_,λo xs z=> ?_⟩<;>(rw[e]at z;cases z;cases b<;>first|cases m.1|cases m)
theorem ie.del(h:ie O G):ie O (IR.del G p):=λl a=>by
 refine⟨λxs e=> ?_,λo xs e=> ?_⟩
 ·unfold IR.del at e
  split at e;cases e;exact(h l a).1 xs e
 ·unfold IR.del at e
  split at e;cases e;exact(h l a).2 o xs e
theorem ie.tups(h:ie O G):vh G (aZ G O):=by
 refine⟨λb xs e=> ?_,λb o xs e=> ?_⟩
 ·unfold aZ
  rw[MV λz=>(h b z).1 xs e];exact e
 ·unfold aZ
  rw[MV λz=>(h b z).2 o xs e];exact e
set_option tactic.hygienic true
mutual
theorem Rp.avoid{K:W.Frag}{Hj:Hp}{O:List Addr}(hO:∀l∈O,Hj l≠none):∀{v:PV}{G:Hp}{u:V},ie O G->Rp K Hj true v G u->Rp K Hj true v (aZ G O) u
 | .non,_,_,_,h=>h
 | .bl _,_,_,_,h=>h
 | .int _,_,_,_,h=>h
 | .str _,_,_,_,h=>h
 | .lst xs,G,_,t,h=>by
  show∃_,_;obtain⟨p,us,e,q,l,r⟩:=h;obtain⟨q1,q2⟩:=q rfl;have q3:aZ G O p=some (.lst us):=by
   unfold aZ;rw[MV λz=>hO p z q1];exact q2
  exact⟨p,us,e,λ_=>⟨q1,q3⟩,bR.of q3,by rw[<- iE];exact aI.avoid hO t.del r⟩
 | .tup xs,_,_,t,h=>by
  show∃_,_;obtain⟨p,us,e,l,r⟩:=h;exact⟨p,us,e,t.tups.at l,aI.avoid hO t r⟩
 | .dK ks vs,G,_,t,h=>by
  show∃_,_;obtain⟨p,us,e,q,l,z,r⟩:=h;refine⟨p,us,e,q,?_,z,by rw[<- iE];exact aI.avoid hO t.del r⟩;unfold aZ;rw[MV λz=>hO p z (q rfl)];exact l
 | .dT ks vs,G,_,t,h=>by
  show∃_,_;obtain⟨p,us,e,q,l,z,r⟩:=h;refine⟨p,us,e,q,?_,z,by rw[<- iE];exact aI.avoid hO t.del r⟩;unfold aZ;rw[MV λz=>hO p z (q rfl)];exact l
theorem aI.avoid{K:W.Frag}{Hj:Hp}{O:List Addr}(hO:∀l∈O,Hj l≠none):∀{xs:List PV}{G:Hp}{us:List V},ie O G->aI K Hj true xs G us->aI K Hj true xs (aZ G O) us
 | [],_,_,_,h=>h
 | x::xs,_,_,t,h=>by
  show∃_,_;obtain⟨u,r,e,a,b⟩:=h;exact⟨u,r,e,Rp.avoid hO t a,aI.avoid hO t b⟩
end
set_option tactic.hygienic false
theorem Cq(R:av X.K Hi O τ n H)(c:aE H a)(s:aE a b)(h:Rp X.K a true v b u):aj X.K Hi O H b (mf v) u:=by
 have j:∀p,a p=none->Hi p=none:=λp t=>R.same.free (c.free t);have k:∀l∈O,a l≠none:=λl d z=>by
  obtain⟨g,e,_⟩:=(R.own l d).2;rw[c _ _ e]at z;cases z
 have i:ie O b :=λl d=>by
  obtain⟨g,e,m⟩:=(R.own l d).2;have x :=s _ _ (c _ _ e);exact m.noTup x
 have f:Rp X.K Hi true v (aZ b O) u:=(Rp.avoid k i h).entry λ_=>j;cases v with
 |lst xs =>
  obtain⟨p,g,e,q,l,r⟩:=Rp.lst.mp h;obtain⟨w,o⟩:=q rfl;exact⟨p,g,e,c.free w,o,(aI.avoid k i.del r).entry λ_=>j⟩
 |_=>exact f
theorem call_ok{cd:Nat->List PV->Option PV}{ct:Ct}(C:bz cd X ct){x:Str}{f:Nat}{e:Expr}{es:List Expr}{p pos:Pos}{rs:List RV}{v:PV}(i:wS x=false)(A:ct.S.lookup x=some .globalImplicit)(t:ct.F.lookup x=some f)
  (d:∀a∈e::es,isStar a=false) (j:qE X Hi τ (e::es) rs) (l:cd f (rs.map RV.val)=some v):aK X Hi τ (.Call (.Name x p) (e::es) [] pos) (mf v):=by
 intro O m H Q R q;obtain⟨k,a,B,D,F,y,h,s,o⟩:=C.fns x f t;have g:Gl X x:=by
  show X.env.scope.names.lookup x=_;rw[C.S];exact A
 refine we (pC F y g h s o .nil Aj uf (dB i).1 (ae (d e MT)) (hX λb n=>d b (MS _ n))) ?_;refine j O m H _ R λG E c r=> ?_;have vs:=r.vals R c;rw[NU];exact⟨_,v,vs.entry (λz=>by cases z),l,λu I s' w=>q _ _ (c.trans s') (Cq R c s' w)⟩
theorem eG{cd:Nat->List PV->Option PV}(C:bz cd X ct)(h:own ct x=true):Gl X x/\X.mg x=none:=by
 unfold own at h;rw[MY]at h;refine⟨?_,C.bl x h.1⟩;show X.env.scope.names.lookup x=_;rw[C.S]
 simpa using h.2
theorem mW{cd:Nat->List PV->Option PV}(C:bz cd X ct)(n:bV X (.builtin h) l)(z:own ct x=true)(v:bootBuiltins x=some (.builtin h))(e:wS x=false)(i:isStar a=false)(t:aK X Hi τ a j)
  (k:∀(O:List Addr)(d:L2.St)(H c:Hp)(u:V)(Q:VK),av X.K Hi O τ d H->aE H c->aj X.K Hi O H c j u->(∀w b,aE c b->aj X.K Hi O H b r w->Q w b)->l [u] c Q):aK X Hi τ (.Call (.Name x p) [a] [] pos) r:=by
 intro O d H Q R q;obtain⟨g,m⟩:=eG C z;refine we (bi n g m v (aL af ag (ae i)) (dB e).2.2 (dB e).1 (ae i) rfl) ?_;exact t O d H _ R λu y f A=>k O d H y u Q R f A λw b s o=>q w b (f.trans s) o
theorem v5{cd:Nat->List PV->Option PV}(C:bz cd X ct)(n:bV X (.type h) l)(z:own ct x=true)(v:bootBuiltins x=some (.type h))(e:wS x=false)(i:isStar a=false)(t:aK X Hi τ a j)
  (k:∀(O:List Addr)(d:L2.St)(H c:Hp)(u:V)(Q:VK),av X.K Hi O τ d H->aE H c->aj X.K Hi O H c j u->(∀w b,aE c b->aj X.K Hi O H b r w->Q w b)->l [u] c Q):aK X Hi τ (.Call (.Name x p) [a] [] pos) r:=by
 intro O d H Q R q;obtain⟨g,m⟩:=eG C z;refine we (cq n g m v (aL af ag (ae i)) (dB e).2.2 (dB e).1 (ae i) rfl) ?_;exact t O d H _ R λu y f A=>k O d H y u Q R f A λw b s o=>q w b (f.trans s) o
theorem b2_go{cd:Nat->List PV->Option PV}(C:bz cd X ct)(i:bV X (.builtin o) z)(G:own ct x=true)(F:bootBuiltins x=some (.builtin o))(n:wS x=false)(t:isStar a=false)(e:isStar b=false)(E:aK X Hi τ a y)(m :aK X Hi τ b s)
  (k:∀(O:List Addr)(f:L2.St)(H d:Hp)(u v:V)(Q:VK),av X.K Hi O τ f H->aE H d->aj X.K Hi O H d y u->aj X.K Hi O H d s v->(∀w h,aE d h->aj X.K Hi O H h r w->Q w h)->z [u,v] d Q):aK X Hi τ (.Call (.Name x p) [a,b] [] pos) r:=by
 intro O f H Q R q;obtain⟨g,A⟩:=eG C G;refine we (bi i g A F (aL af (aL af ag (ae e)) (ae t)) (dB n).2.2 (dB n).1 (ae t) (hX λc i=>by simp at i;subst i;exact e)) ?_;exact E O f H _ R λu I j L=>m O f I _ (R.ext j) λv d l J=>k O f H d u v Q R (j.trans l) (L.ext l) (J.back j) λw h D B=>q w h (j.trans (l.trans D)) B
theorem tK:∀{xs:List PV}{d:List Bool}{H:Hp}{f:List V},iT xs=some d->aI X.K Hi false xs H f->f=d.map V.bl
 |[],d,_,_,h,r=>by cases h;exact r|x::xs,d,_,_,h,r=>by
  obtain⟨u,g,rfl,a,b⟩:=r;cases x with
  |bl c =>
   have h:(iT xs).map (c::·)=some d:=h;cases e:iT xs with
   |none=>rw[e]at h;cases h|some i =>
    rw[e]at h;cases h;rw[Rp.bl.mp a,tK e b];rfl
  |_=>cases h
theorem eF:∀{xs:List PV}{d:List Int}{H:Hp}{f:List V},aa xs=some d->aI X.K Hi false xs H f->f=d.map V.int
 |[],d,_,_,h,r=>by cases h;exact r|x::xs,d,_,_,h,r=>by
  obtain⟨u,g,rfl,a,b⟩:=r;cases x with
  |int c =>
   have h:(aa xs).map (c::·)=some d:=h;cases e:aa xs with
   |none=>rw[e]at h;cases h|some i =>
    rw[e]at h;cases h;rw[Rp.int.mp a,eF e b];rfl
  |_=>cases h
set_option tactic.hygienic true
theorem Ha(h:bj t v=some b)(r:Rp X.K Hi false v H u):∃c,Ln X.K H u c/\W.kitOne X.K c (.type t)=some b:=by
 obtain⟨⟨P,L,f,F,O⟩,⟨b1,o,D,w⟩,⟨y,N,E,g⟩,⟨m,e,j,C⟩,⟨n,z,G,i⟩,⟨B,t2,q,I⟩,⟨M,k,J,s,A⟩⟩:= @kits X.K;cases v with
 |non =>
  rw[Rp.non.mp r];refine⟨_,.of .non,?_⟩;simp only[bj]at h
  split at h
  ·rename_i c
   cases h
   rcases c with rfl|rfl|rfl|rfl|rfl<;>assumption
  ·cases h
 |bl x =>
  rw[Rp.bl.mp r];refine⟨_,.of (.bl x),?_⟩;simp only[bj]at h
  split at h
  ·rename_i c
   cases h
   rcases c with rfl|rfl
   ·assumption
   ·exact fN _
  ·split at h
   ·rename_i c
    cases h
    rcases c with rfl|rfl|rfl<;>assumption
   ·cases h
 |int x =>
  rw[Rp.int.mp r];refine⟨_,.of (.int x),?_⟩;simp only[bj]at h
  split at h
  ·rename_i c
   cases h;subst c;exact fN _
  ·split at h
   ·rename_i c
    cases h
    rcases c with rfl|rfl|rfl|rfl<;>assumption
   ·cases h
 |str x =>
  rw[Rp.str.mp r];refine⟨_,.of (.str x),?_⟩;simp only[bj]at h
  split at h
  ·rename_i c
   cases h;subst c;exact fN _
  ·split at h
   ·rename_i c
    cases h
    rcases c with rfl|rfl|rfl|rfl<;>assumption
   ·cases h
 |lst x =>
  obtain⟨p,a,rfl,_,l,_⟩:=Rp.lst.mp r;refine⟨_,.lst l,?_⟩;simp only[bj]at h
  split at h
  ·rename_i c
   cases h;subst c;exact fN _
  ·split at h
   ·rename_i c
    cases h
    rcases c with rfl|rfl|rfl|rfl<;>assumption
   ·cases h
 |tup x =>
  obtain⟨p,a,rfl,l,_⟩:=Rp.tup.mp r;refine⟨_,.tup l,?_⟩;simp only[bj]at h
  split at h
  ·rename_i c
   cases h;subst c;exact fN _
  ·split at h
   ·rename_i c
    cases h
    rcases c with rfl|rfl|rfl|rfl<;>assumption
   ·cases h
 |dK d vs =>
  obtain⟨p,a,rfl,_,l,_⟩:=r;refine⟨_,.of (.dK l),?_⟩;simp only[bj]at h
  split at h
  ·rename_i c
   cases h
   rcases c with rfl|rfl|rfl|rfl|rfl<;>assumption
  ·cases h
 |dT d vs=>cases h
theorem EX(h:zX t=some a):bootBuiltins t=some (.type a)/\wS t=false:=by
 unfold zX at h
 split at h
 ·rename_i c;cases h;rw[M0 c];exact⟨PyProof.Rows.boot_int,by decide⟩
 split at h
 ·rename_i c;cases h;rw[M0 c];exact⟨PyProof.Rows.boot_bool,by decide⟩
 split at h
 ·rename_i c;cases h;rw[M0 c];exact⟨PyProof.Rows.boot_str,by decide⟩
 split at h
 ·rename_i c;cases h;rw[M0 c];exact⟨PyProof.Rows.boot_list,by decide⟩
 split at h
 ·rename_i c;cases h;rw[M0 c];exact⟨PyProof.Rows.boot_tuple,by decide⟩
 cases h
set_option tactic.hygienic false
theorem isin_ok{cd:Nat->List PV->Option PV}{ct:Ct}(C:bz cd X ct){t:Str}{i:String}{a:Expr}{p y pos:Pos}{n:RV}{b:Bool}(x:own ct ("isinstance":Str)=true)(A:zX t=some i)(j:own ct t=true)(m:isStar a=false)(s:aK X Hi τ a n)(h:bj i n.val=some b) :
  aK X Hi τ (.Call (.Name "isinstance" p) [a,.Name t y] [] pos) (sc (.bl b)):=by
 intro O v H Q R q;obtain⟨g,o⟩:=eG C x;obtain⟨r,f⟩:=eG C j;obtain⟨w,d⟩:=EX A;refine we (bi vV g o boot_isinstance (aL af (aL (Ke r f w (dB d).2.2 (dB d).1) ag) (ae m)) (by decide) (by decide) (ae m) rfl) ?_;refine s O v H _ R λu B l z=> ?_;obtain⟨c,e,k⟩:=Ha h (z.val R l);exact⟨u,i,c,b,rfl,e,k,q _ _ l FJ⟩
end
end IR
namespace L2
open PySem PySem.Spec PyProof.Rows
end L2
namespace IR
open PySem L2
section
variable{X:Cx}{Hi:Hp}{τ:En}
set_option tactic.hygienic false
theorem wI(h:mn x=some q):x=aX q:=by
 cases x with
 |tup xs =>
  have h:((aa xs).bind λc=>match c with
   |[a,b]=>some (a,b)|_=>none)=some q:=h
  cases e:aa xs with
  |none=>rw[e]at h;cases h|some c =>
   rw[e]at h
   match c,h with
   |[a,b],h =>
    cases h;have:xs=[PV.int a,PV.int b]:=by
     have key:∀(xs:List PV)(c:List Int),aa xs=some c->xs=c.map PV.int:=by
      intro xs
      induction xs with
      |nil=>intro c z;cases z;rfl|cons y r f =>
       intro c z;cases y with
       |int i =>
        have z:(aa r).map (i::·)=some c:=z;cases d:aa r with
        |none=>rw[d]at z;cases z|some m=>rw[d]at z;cases z;rw[f m d];rfl
       |_=>cases z
     exact key xs _ e
    subst this;rfl
 |_=>cases h
theorem aI.pick{n:Bool}{H:Hp}{xs:List PV}{a:List V}(r:aI X.K Hi n xs H a):∀{b:List Nat},(∀j∈b,j<a.length)->aI X.K Hi n (b.map λi=>xs.getD i .non) H (b.map λi=>a.getD i .non)
 |[],_=>.nil|j::b,h=>by
  have c:=h j MT;obtain⟨x,e,d⟩:=r.at' (i:=j) (u:=a[j]) (Mf c);refine .cons ?_ (aI.pick r λi f=>h i (MS _ f));dsimp only;rw[Me,e,Me,Mf c];exact d
theorem bT:∀a:List (Int×Int),imms (a.map aX)=true
 |[]=>rfl|q::a=>by
  show(imm (aX q)&&imms (a.map aX))=true;rw[bT a];rfl
end
end IR
namespace IR
open PySem PySem.Spec PyProof.Rows L2
section
variable{X:Cx}{Hi:Hp}{τ:En}
theorem A6{cd:Nat->List PV->Option PV}{ct:Ct}(C:bz cd X ct){a:Expr}{p pos:Pos}{k:RV}{n:Nat}(g:own ct ("len":Str)=true)(f:isStar a=false)(d:aK X Hi τ a k)(h:fM k.val=some n) :
  aK X Hi τ (.Call (.Name "len" p) [a] [] pos) (sc (.int n)):=by
 cases e:k.val with
 |str z =>
  rw[e]at h;have h:(if z.length<=LN then some z.length else none)=some n:=h
  split at h
  ·rename_i c
   cases h;exact mW C iS g OX (by decide) f d λO j H i u Q R s r q=>⟨z,by rw[r.str R s e],by rw[fE];exact c,q _ _ (aE.refl _) AA⟩
  ·cases h
 |lst xs =>
  rw[e]at h;cases h;refine mW C cF g OX (by decide) f d λO j H i u Q R s r q=> ?_;obtain⟨p,b,rfl,l,r⟩:=r.lst R s e;exact⟨p,b,rfl,.inl l,by rw[<- r.len];exact q _ _ (aE.refl _) AA⟩
 |tup xs =>
  rw[e]at h;cases h;refine mW C cF g OX (by decide) f d λO j H i u Q R s r q=> ?_;obtain⟨p,b,rfl,l,r⟩:=r.tup R s e;exact⟨p,b,rfl,.inr l,by rw[<- r.len];exact q _ _ (aE.refl _) AA⟩
 |dK m vs =>
  rw[e]at h;cases h;refine mW C vU g OX (by decide) f d λO j H i u Q R s r q=> ?_;have z:=r.val R s;rw[e]at z;obtain⟨p,b,rfl,_,t,o,_⟩:=z;refine⟨p,_,rfl,.inl t,?_⟩;have:(m.zip b).length=m.length:=by rw[List.length_zip,<-o,Pr]
  rw[this];exact q _ _ (aE.refl _) AA
 |_=>rw[e]at h;cases h
theorem jh(h:tQ x k=some f):(x="len"/\k=1/\f=.len)\/(x="int"/\k=1/\f=.int)\/(x="list"/\k=1/\f=.list)\/(x="tuple"/\k=1/\f=.tuple)\/(x="all"/\k=1/\f=.all)\/(x="min"/\k=2/\f=.min)\/(x="max"/\k=2/\f=.max)\/(x="abs"/\k=1/\f=.abs)\/(x="any"/\k=1/\f=.any)\/(x="sum"/\k=1/\f=.sum)\/(x="sorted"/\k=1/\f=.sorted):=by
 unfold tQ at h
 split at h
 ·rename_i c;rw[MY]at c;cases h;exact .inl ⟨M0 c.1,M0 c.2,rfl⟩
 split at h
 ·rename_i c;rw[MY]at c;cases h;exact .inr (.inl ⟨M0 c.1,M0 c.2,rfl⟩)
 split at h
 ·rename_i c;rw[MY]at c;cases h;exact .inr (.inr (.inl ⟨M0 c.1,M0 c.2,rfl⟩))
 split at h
 ·rename_i c;rw[MY]at c;cases h;exact .inr (.inr (.inr (.inl ⟨M0 c.1,M0 c.2,rfl⟩)))
 split at h
 ·rename_i c;rw[MY]at c;cases h;exact .inr (.inr (.inr (.inr (.inl ⟨M0 c.1,M0 c.2,rfl⟩))))
 split at h
 ·rename_i c;rw[MY]at c;cases h;exact .inr (.inr (.inr (.inr (.inr (.inl ⟨M0 c.1,M0 c.2,rfl⟩)))))
 split at h
 ·rename_i c;rw[MY]at c;cases h;exact .inr (.inr (.inr (.inr (.inr (.inr (.inl ⟨M0 c.1,M0 c.2,rfl⟩))))))
 split at h
 ·rename_i c;rw[MY]at c;cases h;exact .inr (.inr (.inr (.inr (.inr (.inr (.inr (.inl ⟨M0 c.1,M0 c.2,rfl⟩)))))))
 split at h
 ·rename_i c;rw[MY]at c;cases h;exact .inr (.inr (.inr (.inr (.inr (.inr (.inr (.inr (.inl ⟨M0 c.1,M0 c.2,rfl⟩))))))))
 split at h
 ·rename_i c;rw[MY]at c;cases h;exact .inr (.inr (.inr (.inr (.inr (.inr (.inr (.inr (.inr (.inl ⟨M0 c.1,M0 c.2,rfl⟩)))))))))
 split at h
 ·rename_i c;rw[MY]at c;cases h;exact .inr (.inr (.inr (.inr (.inr (.inr (.inr (.inr (.inr (.inr (⟨M0 c.1,M0 c.2,rfl⟩))))))))))
 cases h
theorem bf1_ok{cd:Nat->List PV->Option PV}(C:bz cd X ct)(k:own ct x=true)(A:mV x 1=some f)(j:isStar a=false)(d:aK X Hi τ a b)(h:oU f [b]=some r) :
  aK X Hi τ (.Call (.Name x p) [a] [] pos) r:=by
 have A:tQ x 1=some f:=A
 rcases jh A with⟨rfl,_,rfl⟩|⟨rfl,_,rfl⟩|⟨rfl,_,rfl⟩|⟨rfl,_,rfl⟩|⟨rfl,_,rfl⟩|⟨_,z,_⟩|⟨_,z,_⟩|⟨rfl,_,rfl⟩|⟨rfl,_,rfl⟩|⟨rfl,_,rfl⟩|⟨rfl,_,rfl⟩
 ·have h:(fM b.val).map (λn=>sc (.int (n:Nat)))=some r:=h
  cases e:fM b.val with
  |none=>rw[e]at h;cases h|some n =>
   rw[e]at h;cases h;exact A6 C k j d e
 ·unfold oU at h
  cases e:b.val with
  |int i =>
   simp only[e]at h;cases h;exact v5 C oM k PyProof.Rows.boot_int (by decide) j d λO y H t u Q R s r q=>.inl ⟨i,by rw[r.int R s e],q _ _ (aE.refl _) AA⟩
  |bl i =>
   simp only[e]at h;cases h;exact v5 C oM k PyProof.Rows.boot_int (by decide) j d λO y H t u Q R s r q=>.inr ⟨i,by rw[r.bl R s e],q _ _ (aE.refl _) AA⟩
  |_=>simp only[e]at h;cases h
 ·have h:(match b.its with|some (xs,n)=>some (RV.own xs n)|none=>none)=some r:=h
  cases e:b.its with
  |none=>rw[e]at h;cases h|some w =>
   obtain⟨xs,n⟩:=w;rw[e]at h;cases h;refine v5 C pz k PyProof.Rows.boot_list (by decide) j d λO y H t u Q R s r q=> ?_;obtain⟨p,m,rfl,l,r⟩:=r.its R s e;exact⟨p,m,rfl,l.imp (·.1) (·.1),λB v=>q _ _ (aJ v _) (fk s v r)⟩
 ·have h:(match b.its with|some (xs,n)=>some (RV.frz (.tup xs) n)|none=>none)=some r:=h
  cases e:b.its with
  |none=>rw[e]at h;cases h|some w =>
   obtain⟨xs,n⟩:=w;rw[e]at h;cases h;refine v5 C gF k PyProof.Rows.boot_tuple (by decide) j d λO y H t u Q R s r q=> ?_;obtain⟨p,m,rfl,l,r⟩:=r.its R s e;refine⟨p,m,rfl,l.imp (λl=>⟨l.1,λB v=> ?_⟩) (λl=>⟨l.1,?_⟩)⟩
   ·exact q _ _ (aJ v _) (Rp.tup.mpr ⟨B,m,rfl,bg.of (pX R s v),r.mono (aS (aJ v _))⟩)
   ·exact q _ _ (aE.refl _) (Rp.tup.mpr ⟨p,m,rfl,wv R s l.1,r⟩)
 ·unfold oU at h
  cases e:b.val with
  |lst xs =>
   simp only[e]at h;cases g:iT xs with
   |none=>rw[g]at h;cases h|some o =>
    rw[g]at h;cases h;refine mW C (tJ C.calm) k boot_all (by decide) j d λO y H t u Q R s r q=> ?_;obtain⟨p,m,rfl,l,r⟩:=r.lst R s e;have:=tK g r;subst this;exact⟨p,o,rfl,l,q _ _ (aE.refl _) FJ⟩
  |_=>simp only[e]at h;cases h
 ·cases z
 ·cases z
 ·exact absurd (show(none:Option RV)=some r from h) (by simp)
 ·exact absurd (show(none:Option RV)=some r from h) (by simp)
 ·have h:(match b.val with
   | .lst xs=>(aa xs).map λD=>sc (.int D.sum)|_=>none)=some r:=h
  cases e:b.val with
  |lst xs =>
   simp only[e]at h;cases g:aa xs with
   |none=>rw[g]at h;cases h|some o =>
    rw[g]at h;cases h;refine mW C (nF C.calm) k boot_sum (by decide) j d λO y H t u Q R s r q=> ?_;obtain⟨p,m,rfl,l,r⟩:=r.lst R s e;have:=eF g r;subst this;exact⟨p,o,rfl,l,q _ _ (aE.refl _) AA⟩
  |_=>simp only[e]at h;cases h
 ·have h:(match b.val with
   | .lst xs=>zt xs|_=>none)=some r:=h
  cases e:b.val with
  |lst xs =>
   simp only[e]at h;unfold zt at h;cases g:aa xs with
   |none =>
    rw[g]at h;cases h
   |some o =>
    rw[g]at h;have h:(if o.length<64 then some (RV.own ((L2.sortI o).map PV.int) true)else none)=some r:=h
    split at h
    ·rename_i c
     cases h;refine mW C jb k boot_sorted (by decide) j d λO y H t u Q R s r q=> ?_;obtain⟨p,m,rfl,l,r⟩:=r.lst R s e;have:=eF g r;subst this;exact⟨p,o,rfl,l,c,λa d=>q _ _ (aJ d _) (fk s d (aI.ints.mpr rfl))⟩
    ·cases h
  |_=>simp only[e]at h;cases h
set_option tactic.hygienic false
theorem Iw{cd:Nat->List PV->Option PV}(C:bz cd X ct)(w:own ct x=true)(m:mV x 2=some f)(t:isStar a=false)(e:isStar b=false)(o:aK X Hi τ a l)(g :aK X Hi τ b k)(h:oU f [l,k]=some r) :
  aK X Hi τ (.Call (.Name x p) [a,b] [] pos) r:=by
 refine Nq λy=> ?_;have m:tQ x 2=some f:=m
 rcases jh m with⟨_,z,_⟩|⟨_,z,_⟩|⟨_,z,_⟩|⟨_,z,_⟩|⟨_,z,_⟩|⟨rfl,_,rfl⟩|⟨rfl,_,rfl⟩|⟨_,z,_⟩|⟨_,z,_⟩|⟨_,z,_⟩|⟨_,z,_⟩
 ·cases z
 ·cases z
 ·cases z
 ·cases z
 ·cases z
 ·unfold oU at h
  cases c:l.val with
  |int i =>
   cases d:k.val with
   |int j =>
    simp only[c,d]at h;cases h;exact y<|b2_go C (yr C.calm) w boot_min (by decide) t e o g λO B H A u v Q R s r n q=>⟨i,j,by rw[r.int R s c,n.int R s d],q _ _ (aE.refl _) AA⟩
   |_=>simp only[c,d]at h;cases h
  |_=>simp only[c]at h;cases h
 ·unfold oU at h
  cases c:l.val with
  |int i =>
   cases d:k.val with
   |int j =>
    simp only[c,d]at h;cases h;exact y<|b2_go C (yt C.calm) w boot_max (by decide) t e o g λO B H A u v Q R s r n q=>⟨i,j,by rw[r.int R s c,n.int R s d],q _ _ (aE.refl _) AA⟩
   |_=>simp only[c,d]at h;cases h
  |_=>simp only[c]at h;cases h
 ·cases z
 ·cases z
 ·cases z
 ·cases z
set_option tactic.hygienic true in
theorem aI.lrng{n:Bool}{H:Hp}(k:Nat):aI X.K Hi n (lrng k) H (FR k):=by
 unfold IR.lrng FR
 generalize List.range k=l
 induction l with
 | nil=>exact .nil
 | cons x l ih=>exact .cons (Rp.int.mpr rfl) ih
theorem DN(h:wo b=false):xS b:=by intro o i;cases b<;>first|rfl|cases h
theorem mX(r:aI X.K Hi n xs H a)(h:dI xs k=some e):∃u,dI a k=some u/\Rp X.K Hi n e H u:=by
 unfold dI at h ⊢;rw[<- r.len];cases c:tY xs.length k with
 |none=>rw[c]at h;cases h|some j =>
  rw[c]at h;exact r.at (i:=j) h
set_option tactic.hygienic true in
theorem BP(L:X.A.units+64<cLine)(M:wo i=false)(J:aK X Hi τ a x)(T:aK X Hi τ i y)(h:jx x y=some r):aK X Hi τ (.Subscript a i pos) r:=by
 have t:∀{F:R2}(G:MG X F),(∀(O:List Addr)(j:L2.St)(H d:Hp)(u v:V)(Q:VK),av X.K Hi O τ j H->aE H d->aj X.K Hi O H d x u->aj X.K Hi O H d y v->(∀w,aj X.K Hi O H d r w->Q w d)->F u v d Q)->aK X Hi τ (.Subscript a i pos) r:=by
  intro F G k O j H Q R q;refine we (nY G af af (DN M)) ?_;refine J O j H _ R λu N C g=>T O j N _ (R.ext C) λv d D f=> ?_;exact k O j H d u v Q R (C.trans D) (g.ext D) (f.back C) λw I=>q w d (C.trans D) I
 unfold jx at h
 split at h
 case h_1 k B =>
  unfold ixK at h
  split at h
  case h_1 xs n =>
   cases c:dI xs k with
   |none=>rw[c]at h;cases h|some e =>
    rw[c]at h;cases h;refine t eS λO j H d u v Q R s g f q=> ?_;obtain⟨p,o,rfl,_,l,r⟩:=Rp.lst.mp (show Rp X.K Hi n (.lst xs) (aZ d O) u from g);obtain⟨w,m,b⟩:=mX r c;exact⟨p,o,k,w,rfl,f.int R s B,(aT (O:=O)).seq l,m,q w (b.mono be).up⟩
  case h_2 xs n =>
   cases c:dI xs k with
   |none=>rw[c]at h;cases h|some e =>
    rw[c]at h;cases h;refine t BJ λO j H d u v Q R s g f q=> ?_;obtain⟨p,o,rfl,l,r⟩:=Rp.tup.mp (show Rp X.K Hi n (.tup xs) (aZ d O) u from g);obtain⟨w,m,b⟩:=mX r c;exact⟨p,o,k,w,rfl,f.int R s B,(aT (O:=O)).tup l,m,q w b.up⟩
  case h_3 xs n =>
   cases c:dI xs k with
   |none=>rw[c]at h;cases h|some e =>
    rw[c]at h;cases h;refine t eS λO j H d u v Q R s g f q=> ?_;obtain⟨p,o,rfl,h0,S,r⟩:=g;obtain⟨w,m,b⟩:=mX r c;exact⟨p,o,k,w,rfl,f.int R s B,bR.of S,m,q w (b.mono (aS be)).up⟩
  case h_4 xs =>
   cases c:dI xs k with
   |none=>rw[c]at h;cases h|some e =>
    rw[c]at h;cases h;refine t eS λO j H d u v Q R s g f q=> ?_;obtain⟨p,o,rfl,_,l,r⟩:=Rp.lst.mp (show Rp X.K Hi false (.lst xs) d u from g);obtain⟨w,m,b⟩:=mX r c;refine⟨p,o,k,w,rfl,f.int R s B,l,m,q w ?_⟩;unfold wf
    split
    ·rename_i E
     exact Rp.imm E (R.ext s).tups (b.mono be)
    ·exact b.mono be
  case h_5 xs =>
   cases c:dI xs k with
   |none=>rw[c]at h;cases h|some e =>
    rw[c]at h;cases h;refine t BJ λO j H d u v Q R s g f q=> ?_;obtain⟨p,o,rfl,l,r⟩:=Rp.tup.mp (show Rp X.K Hi false (.tup xs) d u from g);obtain⟨w,m,b⟩:=mX r c;refine⟨p,o,k,w,rfl,f.int R s B,l,m,q w ?_⟩;unfold wf
    split
    ·rename_i E
     exact Rp.imm E (R.ext s).tups b
    ·exact b
  case h_6 z n =>
   split at h
   ·rename_i P
    cases c:dI z.cps.toList k with
    |none=>rw[c]at h;cases h|some e =>
     rw[c]at h;cases h;exact t BK λO j H d u v Q R s g f q=>⟨z,k,e,g.str R s rfl,f.int R s B,by rw[fE];exact P,c,q _ scS⟩
   ·cases h
  case h_7=>cases h
 case h_2=>cases h
variable(X Hi τ)in
def zD(e:Option Expr)(o:Option Int):Prop:=match e,o with
 |none,none=>True|some e,some i=>∃r,aK X Hi τ e r/\r.val=.int i|_,_=>False
theorem ko{lo:Option Expr}(N:Lp X y)(A:aK X Hi τ a x)(E:zD X Hi τ lo l)(B:zD X Hi τ z h)
  (k:∀(O:List Addr)(b:L2.St)(H f:Hp)(u:V)(Q:VK),av X.K Hi O τ b H->aE H f->aj X.K Hi O H f x u->(∀w g,aE f g->aj X.K Hi O H g r w->Q w g)->y u l h f Q):aK X Hi τ (.Subscript a (.Slice lo z none M) pos) r:=by
 have c:∀{e:Option Expr}{o:Option Int},zD X Hi τ e o->∃t,PO X e t/\∀(O:List Addr)(b:L2.St)(H:Hp)(Q:Option Int->Hp->Prop),av X.K Hi O τ b H->(∀v,aE H v ->Q o v)->t b H Q:=by
  intro e o n;cases e with
  |none =>
   cases o with
   |none=>exact⟨_,DM,λO b H Q R q=>q H (aE.refl _)⟩|some i=>cases n
  |some e =>
   cases o with
   |none=>cases n|some i =>
    obtain⟨r,L,P⟩:=n;exact⟨_,DL af,λO b H Q R q=>L O b H _ R λu s d p=>⟨i,p.int R d P,q _ d⟩⟩
 obtain⟨T,J,D⟩:=c E;obtain⟨U,C,S⟩:=c B;intro O b H Q R q;refine we (Af N af J C) ?_;refine A O b H _ R λu s d p=>D O b s _ (R.ext d) λf j=>S O b f _ (R.ext (d.trans j)) λg m=> ?_;exact k O b H g u Q R (d.trans (j.trans m)) (p.ext (j.trans m)) λw I G F=>q w I (d.trans (j.trans (m.trans G))) F
theorem aI.cut(r:aI X.K Hi n xs H a)(lo b:Option Int):aI X.K Hi n (IR.cut xs lo b) H (sx a lo b):=by unfold IR.cut sx;rw[<- r.len];exact(r.drop _).take _
set_option tactic.hygienic true
theorem aj.whole(R:av X.K Hi O τ f H)(s:aE H d)(h:aj X.K Hi O H d x u)(e:x.its=some (xs,n))(c:x.val=.tup a):aj X.K Hi O H d (.frz (.tup xs) n) u:=by
 cases x with
 |frz w m =>
  obtain rfl:w=.tup a:=c;cases e;exact h
 |bor w =>
  obtain rfl:w=.tup a:=c;have e:(if imms a then some (a,true)else none)=some (xs,n):=e
  split at e
  ·rename_i i
   cases e;exact Rp.imm (by rw[imm];exact i) (R.ext s).tups (show Rp X.K Hi false (.tup _) d u from h)
  ·cases e
 |own a m=>cases c|owd b a m=>cases b<;>cases c
theorem zx{lo:Option Expr}(k:aK X Hi τ a x)(o:zD X Hi τ lo l)(m:zD X Hi τ A h)(e:slice x l h=some r):aK X Hi τ (.Subscript a (.Slice lo A none B) pos) r:=by
 unfold slice at e
 split at e
 case h_1 i =>
  cases b:x.its with
  |none=>rw[b]at e;cases e|some w =>
   obtain⟨xs,n⟩:=w;rw[b]at e;cases e;refine ko C3 k o m λO z H y u Q R s f q=> ?_;obtain⟨p,j,rfl,g,d⟩:=f.itsL R s b i;exact⟨p,j,rfl,g,λv c=>q _ _ (aJ c _) (fk s c (d.up.cut _ _))⟩
 case h_2 i =>
  cases b:x.its with
  |none=>rw[b]at e;cases e|some w =>
   obtain⟨xs,n⟩:=w;rw[b]at e;dsimp only at e
   split at e
   ·rename_i t
    cases e;refine ko C2 k o m λO z H y u Q R s f q=> ?_;obtain⟨p,j,rfl,g,d⟩:=f.itsT R s b i;exact⟨p,j,rfl,g,by rw[<- d.len];exact t,q _ _ (aE.refl _) (f.whole R s b i)⟩
   ·rename_i t
    cases e;refine ko F7 k o m λO z H y u Q R s f q=> ?_;obtain⟨p,j,rfl,g,d⟩:=f.itsT R s b i;refine⟨p,j,rfl,g,by rw[<- d.len];exact t,λv c=>q _ _ (aJ c _) ?_⟩;exact Rp.tup.mpr ⟨v,_,rfl,bg.of (pX R s c),(d.cut _ _).mono (aS (aJ c _))⟩
 case h_3=>cases e
end
end IR
namespace IR
open PySem L2
section
variable{X:Cx}{Hi:Hp}{τ:En}
theorem A2{c d:Type}{o:Option c}{f:c->d}{b:d}(h:o.map f=some b):∃a,o=some a/\f a=b:=by
 cases o with
 |none=>cases h|some a=>cases h;exact⟨a,rfl,rfl⟩
theorem nR(h:fD v=some a):∃xs,v=.lst xs/\aa xs=some a/\∀n∈a,0<=n/\n<8:=by
 cases v with
 |lst xs =>
  have h:((aa xs).bind λa=>if a.all (λn=>decide (0<=n)&&decide (n<8))=true then some a else none)=some a:=h;cases e:aa xs with
  |none=>rw[e]at h;cases h|some b =>
   rw[e]at h;have h:(if b.all (λn=>decide (0<=n)&&decide (n<8))=true then some b else none)=some a:=h
   split at h
   ·rename_i c
    cases h;exact⟨xs,rfl,e,λn d=>by simpa using Mm.mp c n d⟩
   ·cases h
 |_=>cases h
theorem nst_ok{cd:Nat->List PV->Option PV}(C:bz cd X ct)(T:own ct x=true)(s:own ct y=true)(k:wU x y=some f)(t:isStar a=false)(S:aK X Hi τ a v)(h:oU f [v]=some r) :
  aK X Hi τ (.Call (.Name x p) [.Call (.Name y Y) [a] [] o] [] pos) r:=by
 unfold wU at k
 split at k
 ·rename_i c
  rw[MY]at c;have D:=M0 c.1;have E:=M0 c.2;subst D E;cases k;have h:(fD v.val).map (λi=>RV.own ((cD i).map PV.int) true)=some r:=h;obtain⟨i,B,rfl⟩:=A2 h;obtain⟨xs,e,M,n⟩:=nR B;intro O G H Q R q;obtain⟨g,z⟩:=eG C T;obtain⟨A,j⟩:=eG C s;refine we (bi (ja C.calm) g z PyProof.Rows.boot_sorted (aL (cq (oK C.calm) A j PyProof.Rows.boot_set (aL af ag (ae t)) (by decide) (by decide) (ae t) rfl) ag) (by decide) (by decide) rfl rfl) ?_;refine S O G H _ R λu V m L=> ?_;obtain⟨l,W,rfl,F,K⟩:=L.lst R m e;have J:=eF M K;subst J;refine⟨l,i,rfl,F,n,λb I=>⟨b,maskOf i,rfl,wZ n,aC,λd P=> ?_⟩⟩;have N:=m.trans (aJ I (.ext (SQ.SX X.w b (maskOf i))));refine q _ _ (N.trans (aJ P _)) (fk N P (aI.ints.mpr ?_));unfold cD;rw[M4];rfl
 split at k
 ·rename_i c
  rw[MY]at c;have D:=M0 c.1;have E:=M0 c.2;subst D E;cases k;have h:(fD v.val).map (λi=>sc (.int ((cD i).length:Nat)))=some r:=h;obtain⟨i,B,rfl⟩:=A2 h;obtain⟨xs,e,M,n⟩:=nR B;intro O G H Q R q;obtain⟨g,z⟩:=eG C T;obtain⟨A,j⟩:=eG C s;refine we (bi nG g z OX (aL (cq (oK C.calm) A j PyProof.Rows.boot_set (aL af ag (ae t)) (by decide) (by decide) (ae t) rfl) ag) (by decide) (by decide) rfl rfl) ?_;refine S O G H _ R λu V m L=> ?_;obtain⟨l,W,rfl,F,K⟩:=L.lst R m e;have J:=eF M K;subst J;refine⟨l,i,rfl,F,n,λb I=>⟨b,maskOf i,rfl,wZ n,aC,?_⟩⟩;have U:(cD i).length=(SQ.lst (maskOf i)).length:=by
   unfold cD;rw[MR]
  rw[<- U];exact q _ _ (m.trans (aJ I _)) AA
 ·cases k
end
end IR
namespace IR
open PySem PySem.Spec PyProof.Rows L2
section
variable{X:Cx}{Hi:Hp}{τ:En}
def WI(X:Cx)(tg a:Expr)(c:L2.St)(H:Hp)(R:It->Hp->Prop):Prop:=∃b,PI X tg a b/\b c H R
theorem Ge:PI X tg a (λc H R=>WI X tg a c H R):=λb s c H R I ⟨d,h,q⟩=>h b s c H R I q
def vm(O:List Addr)(H:Hp):Prop:=∀l∈O,∃o,H l=some o/\Mo o
theorem av.lsts{K:W.Frag}(R:av K Hi O τ b H):vm O H:=λl a=>(R.own l a).2
def FZ(B:Hp)(H:Hp)(O:List Addr):Prop:=vm O H/\aE B (aZ H O)
def OkB(B:Hp)(H:Hp)(O:List Addr):Prop:=vm O H/\aE B H
set_option tactic.hygienic false
theorem vm.tups(h:vm O H):vh H (aZ H O):=by refine ie.tups λl a=> ?_;obtain⟨c,e,b⟩:=h l a;exact b.noTup e
variable(X Hi)in
structure kA(J:It)(Ok:Hp->List Addr->Prop)(xs:List PV)(n:Bool):Prop where
 go:∀(H:Hp)(O:List Addr)(i:Nat),Ok H O->i<xs.length->J.go i H
 stop:∀(H:Hp)(O:List Addr),Ok H O->J.stop xs.length H
 yld:∀(H:Hp)(O:List Addr)(i:Nat)(u:V)(H' :Hp),Ok H O->i<xs.length->J.yld i H u H' ->aE H H' /\∃x,xs[i]? =some x/\Rp X.K Hi n x (aZ H' O) u
variable(X Hi τ)in
def kI(tg a:Expr)(xs:List PV)(n b:Bool):Prop:=∀(O:List Addr)(d:L2.St)(H:Hp)(R:It->Hp->Prop),av X.K Hi O τ d H -> (∀J c,aE H c->kA X Hi J (if b=true then OkB c else FZ (aZ c O)) xs n->R J c)->WI X tg a d H R
theorem FW{B:Hp}{p:Addr}{a:List V}{xs:List PV}{n:Bool}(l:bR X.K B p a)(r:aI X.K Hi n xs B a):kA X Hi (JO X.K p) (FZ B) xs n where
 go:=λH O i ok b=>⟨a,a[i]'(by rw[<- r.len];exact b),(ok.2.trans aT).seq l,by simp⟩
 stop:=λH O ok=>⟨a,(ok.2.trans aT).seq l,by rw[r.len];exact Md _⟩
 yld:=λH O i u f ok b y=>by
  obtain⟨e,y⟩:=y;subst e;obtain⟨x,c,d⟩:=r.at' (y a ((ok.2.trans aT).seq l));exact⟨aE.refl _,x,c,d.mono ok.2⟩
theorem LA{B:Hp}{p:Addr}{a:List V}{xs:List PV}{n:Bool}(l:bg X.K B p a)(r:aI X.K Hi n xs B a):kA X Hi (JN X.K p) (FZ B) xs n where
 go:=λH O i ok b=>⟨a,a[i]'(by rw[<- r.len];exact b),(ok.2.trans aT).tup l,by simp⟩
 stop:=λH O ok=>⟨a,(ok.2.trans aT).tup l,by rw[r.len];exact Md _⟩
 yld:=λH O i u f ok b y=>by
  obtain⟨e,y⟩:=y;subst e;obtain⟨x,c,d⟩:=r.at' (y a ((ok.2.trans aT).tup l));exact⟨aE.refl _,x,c,d.mono ok.2⟩
theorem IL{B:Hp}{p:Addr}{a:List V}{xs:List PV}{n m:Bool}(l:bR X.K B p a)(r:aI X.K Hi m xs B a)(c:imms xs=true):kA X Hi (JO X.K p) (OkB B) xs n where
 go:=λH O i ok b=>⟨a,a[i]'(by rw[<- r.len];exact b),ok.2.seq l,by simp⟩
 stop:=λH O ok=>⟨a,ok.2.seq l,by rw[r.len];exact Md _⟩
 yld:=λH O i u h ok b y=>by
  obtain⟨e,y⟩:=y;subst e;have f:aI X.K Hi n xs (aZ h O) a:=aI.imm c ok.1.tups (r.mono ok.2);obtain⟨x,d,g⟩:=f.at' (y a (ok.2.seq l));exact⟨aE.refl _,x,d,g⟩
theorem IK{B:Hp}{p:Addr}{a:List V}{xs:List PV}{n m:Bool}(l:bg X.K B p a)(r:aI X.K Hi m xs B a)(c:imms xs=true):kA X Hi (JN X.K p) (OkB B) xs n where
 go:=λH O i ok b=>⟨a,a[i]'(by rw[<- r.len];exact b),ok.2.tup l,by simp⟩
 stop:=λH O ok=>⟨a,ok.2.tup l,by rw[r.len];exact Md _⟩
 yld:=λH O i u h ok b y=>by
  obtain⟨e,y⟩:=y;subst e;have f:aI X.K Hi n xs (aZ h O) a:=aI.imm c ok.1.tups (r.mono ok.2);obtain⟨x,d,g⟩:=f.at' (y a (ok.2.tup l));exact⟨aE.refl _,x,d,g⟩
theorem cH(z:Str):(signs z).length=z.cps.size:=by unfold signs;rw[MR,M5]
theorem signs_at{z:Str}{i:Nat}{c:Nat}(h:z.cps[i]? =some c):(signs z)[i]? =some (.str ⟨#[c]⟩):=by unfold signs;rw[Mi,Nu,h];rfl
theorem LB{B:Hp}{z:Str}{n:Bool}:kA X Hi (MI z) (FZ B) (signs z) n where
 go:=λH O i ok a=>by rw[cH]at a;exact a
 stop:=λH O ok=>by show(signs z).length=z.cps.size;exact cH z
 yld:=λH O i u d ok a y=>by
  obtain⟨e,c,b,rfl⟩:=y;subst e;exact⟨aE.refl _,_,signs_at b,Rp.str.mpr rfl⟩
theorem xE{B:Hp}{lo:Int}{k:Nat}{n:Bool}:kA X Hi (Fa lo k) (FZ B) ((List.range k).map λi=>.int (lo+(i:Nat))) n where
 go:=λH O i ok a=>by show i<k;simpa using a
 stop:=λH O ok=>by show k<=_;simp
 yld:=λH O i u b ok a y=>by
  obtain⟨e,rfl⟩:=y;subst e;have a:i<k:=by simpa using a
  exact⟨aE.refl _,_,by rw[Mi,NW a];rfl,Rp.int.mpr rfl⟩
theorem Bp{B:Hp}{lo c:Int}{k:Nat}{n:Bool}:kA X Hi (Itc lo c k) (FZ B) ((List.range k).map λi=>.int (lo+(i:Nat)*c)) n where
 go:=λH O i ok a=>by show i<k;simpa using a
 stop:=λH O ok=>by show _=k;simp
 yld:=λH O i u b ok a y=>by
  obtain⟨e,rfl⟩:=y;subst e;have a:i<k:=by simpa using a
  exact⟨aE.refl _,_,by rw[Mi,NW a];rfl,Rp.int.mpr rfl⟩
set_option tactic.hygienic true
theorem F8(j:aK X Hi τ e r)(h:ku r=some (xs,n,b)):kI X Hi τ tg e xs n b:=by
 intro O k H R i q;cases r with
 |frz v m =>
  cases v with
  |str z =>
   cases h;refine⟨_,Gf af,?_⟩;exact j O k H _ i λu d a c=>⟨z,c.str i a rfl,q _ _ a LB⟩
  |lst g =>
   cases h;refine⟨_,fi af,?_⟩;refine j O k H _ i λu d a c=> ?_;obtain⟨p,f,rfl,_,l,r⟩:=Rp.lst.mp (show Rp X.K Hi n (.lst xs) (aZ d O) u from c);exact⟨p,rfl,⟨f,(aT (O:=O)).seq l⟩,q _ _ a (FW l (r.mono be))⟩
  |tup g =>
   cases h;refine⟨_,uZ af,?_⟩;refine j O k H _ i λu d a c=> ?_;obtain⟨p,f,rfl,l,r⟩:=Rp.tup.mp (show Rp X.K Hi n (.tup xs) (aZ d O) u from c);exact⟨p,rfl,⟨f,(aT (O:=O)).tup l⟩,q _ _ a (LA l r)⟩
  |_=>cases h
 |bor v =>
  cases v with
  |lst g =>
   have h:(if imms g then some (g,true,true)else none)=some (xs,n,b):=h
   split at h
   ·rename_i o
    cases h;refine⟨_,fi af,?_⟩;refine j O k H _ i λu d a c=> ?_;obtain⟨p,f,rfl,_,l,r⟩:=Rp.lst.mp (show Rp X.K Hi false (.lst xs) d u from c);exact⟨p,rfl,⟨f,l⟩,q _ _ a (IL l (r.mono be) o)⟩
   ·cases h
  |tup g =>
   have h:(if imms g then some (g,true,true)else none)=some (xs,n,b):=h
   split at h
   ·rename_i o
    cases h;refine⟨_,uZ af,?_⟩;refine j O k H _ i λu d a c=> ?_;obtain⟨p,f,rfl,l,r⟩:=Rp.tup.mp (show Rp X.K Hi false (.tup xs) d u from c);exact⟨p,rfl,⟨f,l⟩,q _ _ a (IK l r o)⟩
   ·cases h
  |_=>cases h
 |owd x g m=>cases h|own g m =>
  cases h;refine⟨_,fi af,?_⟩;refine j O k H _ i λu d a c=> ?_;obtain⟨p,f,rfl,h0,s,r⟩:=c;have w:aZ d O p=some (.lst f):=by
   unfold aZ;rw[MV λz=> ?_]
   ·exact s
   ·obtain⟨vs,t,_⟩:=(i.own p z).2
    rw[h0]at t;cases t
  exact⟨p,rfl,⟨f,bR.of s⟩,q _ _ a (FW (bR.of w) (r.mono (aS be)))⟩
theorem GN{cd:Nat->List PV->Option PV}(C:bz cd X ct)(L:own ct ("range":Str)=true)(n:∀a∈es,isStar a=false)(x:qE X Hi τ es rs)(A:es.length=rs.length)(h:kC rs=some xs) :
  kI X Hi τ tg (.Call (.Name "range" p) es [] pos) xs true false:=by
 intro O B H R l q;obtain⟨g,t⟩:=eG C L;unfold kC at h
 split at h
 ·rename_i o
  cases e:o.val with
  |int j =>
   simp only[e]at h
   split at h
   ·rename_i c
    cases h
    match es,A with
    |[a],_ =>
     refine⟨_,jM g t uf (ae (n a (by simp))),?_⟩;refine x O B H _ l λG E f s=> ?_;obtain⟨u,vs,rfl,r,z⟩:=s;cases z;exact⟨j,by rw[r.int l f e],c.1,c.2,q _ _ f xE⟩
   ·cases h
  |_=>simp only[e]at h;cases h
 ·rename_i o y
  cases e:o.val with
  |int i =>
   cases m:y.val with
   |int j =>
    simp only[e,m]at h
    split at h
    ·rename_i c
     cases h
     match es,A with
     |[a,b],_ =>
      have M:starEach [a,b] X.env=[(false,eval a X.env),(false,eval b X.env)]:=by rw[ae (n a (by simp)),ae (n b (by simp))];rfl
      refine⟨_,yI g t uf M (ae (n b (by simp))),?_⟩;refine x O B H _ l λG E f s=> ?_;obtain⟨u,vs,rfl,r,J,v,rfl,w,z⟩:=s;cases z;exact⟨i,j,by rw[r.int l f e,w.int l f m],c,q _ _ f xE⟩
    ·cases h
   |_=>simp only[e,m]at h;cases h
  |_=>simp only[e]at h;cases h
 ·rename_i o y N
  cases e:o.val with
  |int i =>
   cases m:y.val with
   |int j =>
    cases D:N.val with
    |int k =>
     simp only[e,m,D]at h
     split at h
     ·rename_i c
      cases h
      match es,A with
      |[a,b,d],_ =>
       refine⟨_,yH g t uf (ae (n a (by simp))) (hX λz F=>n z (by simp at F ⊢;rcases F with rfl|rfl<;>simp)),?_⟩;refine x O B H _ l λG E f s=> ?_;obtain⟨u,vs,rfl,r,J,v,rfl,w,P,I,rfl,K,z⟩:=s;cases z;exact⟨i,j,k,by rw[r.int l f e,w.int l f m,K.int l f D],c.1,c.2.1,c.2.2,q _ _ f Bp⟩
     ·cases h
    |_=>simp only[e,m,D]at h;cases h
   |_=>simp only[e,m]at h;cases h
  |_=>simp only[e]at h;cases h
 ·cases h
set_option tactic.hygienic false
theorem pI(R:av X.K Hi O τ f H)(s:aE H b)(h:A4 r=some (xs,n))(ok:aj X.K Hi O H b r u):∃p a,u=.ref p/\bR X.K (aZ b O) p a/\aI X.K Hi n xs (aZ b O) a:=by
 cases r with
 |frz v m =>
  cases v with
  |lst c =>
   cases h;obtain⟨p,a,rfl,_,l,r⟩:=Rp.lst.mp (show Rp X.K Hi n (.lst xs) (aZ b O) u from ok);exact⟨p,a,rfl,l,r.mono be⟩
  |_=>cases h
 |bor v=>cases h|owd i c m=>cases h|own c m =>
  cases h;obtain⟨p,a,rfl,h0,g,r⟩:=ok;have e:aZ b O p=some (.lst a):=by
   unfold aZ;rw[MV λz=> ?_]
   ·exact g
   ·obtain⟨vs,d,_⟩:=(R.own p z).2
    rw[h0]at d;cases d
  exact⟨p,a,rfl,bR.of e,r.mono (aS be)⟩
theorem kO(l:vm O H)(b:H p=none)(r:aI X.K Hi n xs (aZ H O) a):Rp X.K Hi n (.tup xs) (aZ (L2.upd H p (.tup a)) O) (.ref p):=by
 refine Rp.tup.mpr ⟨p,a,rfl,bg.of ?_,r.mono (aS (aJ b _))⟩;unfold aZ;rw[MV λz=> ?_]
 ·exact aC
 ·obtain⟨a,e,_⟩:=l p z
  rw[e]at b;cases b
set_option tactic.hygienic true in
theorem Fd{cd:Nat->List PV->Option PV}(C:bz cd X ct)(ho:own ct ("zip":Str)=true)(L:isStar a=false)(l:isStar b=false)(W:aK X Hi τ a N)(hb:aK X Hi τ b J)(h:zL N J=some (xs,n)) :
  kI X Hi τ (.Tuple ts kt k) (.Call (.Name "zip" p) [a,b] [] pos) xs n false:=by
 intro O M H R t q;obtain⟨g,T⟩:=eG C ho;unfold zL at h
 split at h
 ·rename_i ys n1 Y n2 e1 V
  split at h
  ·rename_i m
   cases h;refine⟨_,Gd g T (aL af (aL af ag (ae l)) (ae L)) (ae L) (hX λc I=>by simp at I;subst I;exact l),?_⟩;refine W O M H _ t λu H1 j r1=>hb O M H1 _ (t.ext j) λv H2 o r2=> ?_;obtain⟨p1,d,rfl,r,Q⟩:=pI t (j.trans o) e1 (r1.ext o);obtain⟨p2,vs,rfl,s,K⟩:=pI t (j.trans o) V (r2.back j);refine⟨p1,p2,d,vs,rfl,(aT (O:=O)).seq r,(aT (O:=O)).seq s,q _ _ (j.trans o) ?_⟩;have S:=Q.len;have z2:=K.len;have D:(List.zipWith wM ys Y).length=d.length:=by rw[Oo,<-m,Pr];exact S
   refine⟨λG P i ok F=> ?_,λG P ok=> ?_,λG P i w G' ok F y=> ?_⟩
   ·rw[D]at F
    exact⟨d,vs,d[i],vs[i]'(by omega),(ok.2.trans aT).seq r,(ok.2.trans aT).seq s,by simp,by simp⟩
   ·exact⟨d,vs,(ok.2.trans aT).seq r,(ok.2.trans aT).seq s,.inl (by rw[D];exact Md _)⟩
   ·rw[D]at F
    obtain⟨p3,f,rfl,y⟩:=y;have e:=y d vs d[i] (vs[i]'(by omega)) ((ok.2.trans aT).seq r) ((ok.2.trans aT).seq s) (by simp) (by simp);subst e;obtain⟨Z,B,E⟩:=Q.at' (i:=i) (u:=d[i]) (by simp);obtain⟨U,x,A⟩:=K.at' (i:=i) (u:=vs[i]'(by omega)) (by simp);refine⟨aJ f _,wM Z U,by rw[Ob,B,x],kO ok.1 f (.cons ((E.mono ok.2).low λz=> ?_) (.cons ((A.mono ok.2).low λz=> ?_) .nil))⟩
    ·rw[MY]at z;exact z.1
    ·rw[MY]at z;exact z.2
  ·cases h
 ·cases h
theorem C9{cd:Nat->List PV->Option PV}{ct:Ct}(C:bz cd X ct){tg:Expr}{a:Expr}{p pos:Pos}{j:List PV}{n:Bool}(z:own ct ("reversed":Str)=true)(k:isStar a=false)(o:aK X Hi τ a (.frz (.tup j) n)) :
  kI X Hi τ tg (.Call (.Name "reversed" p) [a] [] pos) j.reverse n false:=by
 intro O v H R A q;obtain⟨g,m⟩:=eG C z;refine⟨_,Gg g m (aL af ag (ae k)) (ae k),?_⟩;refine o O v H _ A λu x s D=> ?_;obtain⟨B,c,rfl,l,r⟩:=Rp.tup.mp (show Rp X.K Hi n (.tup j) (aZ x O) u from D);refine⟨B,c,rfl,(aT (O:=O)).tup l,q _ _ s ?_⟩;have b:=r.len;refine⟨λG P i ok d=> ?_,λG P ok=> ?_,λG P i w E ok d y=> ?_⟩
 ·rw[PD]at d
  exact⟨by omega,c,(ok.2.trans aT).tup l,rfl⟩
 ·exact⟨by rw[PD];exact b,c,(ok.2.trans aT).tup l,rfl⟩
 ·rw[PD]at d
  obtain⟨rfl,y⟩:=y;have e:=y c ((ok.2.trans aT).tup l) rfl;obtain⟨t,f,h⟩:=r.at' e;refine⟨aE.refl _,t,?_,h.mono ok.2⟩;rw[List.getElem?_reverse d,b];exact f
theorem DA(h:JT r=some (a,n)):r=.frz (.tup a) n:=by
 unfold JT at h
 split at h
 ·cases h
  rfl
 ·cases h
theorem GJ{cd:Nat->List PV->Option PV}{ct:Ct}(C:bz cd X ct){tg:Expr}{a:Expr}{p pos:Pos}{c:RV}{d:List PV}{n:Bool}(f:own ct ("reversed":Str)=true)(e:isStar a=false)(b:aK X Hi τ a c)(h:JT c=some (d,n)) :
  kI X Hi τ tg (.Call (.Name "reversed" p) [a] [] pos) d.reverse n false:=by
 rw[DA h]at b;exact C9 C f e b
set_option tactic.hygienic true in
theorem ED{cd:Nat->List PV->Option PV}{ct:Ct}(C:bz cd X ct){V:List Expr}{Y:Nat}{B:Pos}{a:Expr}{p pos:Pos}{U:RV}{xs:List PV}{n:Bool}(Z:own ct ("enumerate":Str)=true)(A:isStar a=false)(I:aK X Hi τ a U)(h:oD U=some (xs,n)) :
  kI X Hi τ (.Tuple V Y B) (.Call (.Name "enumerate" p) [a] [] pos) xs n false:=by
 intro O L H R D q;obtain⟨g,F⟩:=eG C Z;unfold oD at h
 split at h
 ·rename_i z m
  cases h;refine⟨_,Ad g F (aL af ag (ae A)) (ae A),?_⟩;refine I O L H _ D λu M s E=>⟨z,by rw[E.str D s rfl],q _ _ s ?_⟩;have k:(List.zipWith fJ (List.range z.length) (signs z)).length=z.length:=by rw[Oo,cH,NK];exact Pr _
  have j:(cw z).length=z.length:=kr z;refine⟨λG P i ok f=> ?_,λG P ok=> ?_,λG P i w T ok f y=> ?_⟩
  ·rw[k]at f
   exact⟨_,(cw z)[i]'(by omega),rfl,by simp⟩
  ·exact⟨_,rfl,by rw[k,j]⟩
  ·rw[k]at f
   obtain⟨Q,b,rfl,y⟩:=y;have hz:i<z.cps.size:=f;obtain⟨c,S⟩:∃c,z.cps[i]? =some c:=⟨z.cps[i],by simp[hz]⟩;have t:(cw z)[i]? =some (.str ⟨#[c]⟩):=by
    unfold cw;rw[Mi,Nu,S];rfl
   have e:=y _ (.str ⟨#[c]⟩) rfl t;subst e;refine⟨aJ b _,fJ i (.str ⟨#[c]⟩),by rw[Ob,signs_at S,NW f],kO ok.1 b (.cons (Rp.int.mpr rfl) (.cons (Rp.str.mpr rfl) .nil))⟩
 ·rename_i o m
  cases h;refine⟨_,Ac g F (aL af ag (ae A)) (ae A),?_⟩;refine I O L H _ D λu M s E=> ?_;obtain⟨N,d,rfl,l,r⟩:=Rp.tup.mp (show Rp X.K Hi n (.tup o) (aZ M O) u from E);refine⟨N,d,rfl,(aT (O:=O)).tup l,q _ _ s ?_⟩;have k:(List.zipWith fJ (List.range o.length) o).length=o.length:=by rw[Oo,NK];exact Pr _
  have j:=r.len;refine⟨λG P i ok f=> ?_,λG P ok=> ?_,λG P i w T ok f y=> ?_⟩
  ·rw[k]at f
   exact⟨d,d[i]'(by omega),(ok.2.trans aT).tup l,by simp⟩
  ·exact⟨d,(ok.2.trans aT).tup l,by rw[k,j]⟩
  ·rw[k]at f
   obtain⟨Q,b,rfl,y⟩:=y;have t:d[i]? =some (d[i]'(by omega)):=by simp
   have e:=y d _ ((ok.2.trans aT).tup l) t;subst e;obtain⟨J,v,x⟩:=r.at' t;exact⟨aJ b _,fJ i J,by rw[Ob,v,NW f],kO ok.1 b (.cons (Rp.int.mpr rfl) (.cons (x.mono ok.2) .nil))⟩
 ·split at h
  ·rename_i o m W
   cases h;refine⟨_,rS g F (aL af ag (ae A)) (ae A),?_⟩;refine I O L H _ D λu M s E=> ?_;obtain⟨N,d,rfl,l,r⟩:=pI D s W E;refine⟨N,d,rfl,(aT (O:=O)).seq l,q _ _ s ?_⟩;have k:(List.zipWith fJ (List.range o.length) o).length=o.length:=by rw[Oo,NK];exact Pr _
   have j:=r.len;refine⟨λG P i ok f=> ?_,λG P ok=> ?_,λG P i w T ok f y=> ?_⟩
   ·rw[k]at f
    exact⟨d,d[i]'(by omega),(ok.2.trans aT).seq l,by simp⟩
   ·exact⟨d,(ok.2.trans aT).seq l,by rw[k,j]⟩
   ·rw[k]at f
    obtain⟨Q,b,rfl,y⟩:=y;have t:d[i]? =some (d[i]'(by omega)):=by simp
    have e:=y d _ ((ok.2.trans aT).seq l) t;subst e;obtain⟨J,v,x⟩:=r.at' t;exact⟨aJ b _,fJ i J,by rw[Ob,v,NW f],kO ok.1 b (.cons (Rp.int.mpr rfl) (.cons (x.mono ok.2) .nil))⟩
  ·cases h
theorem jI{N:List Str}:∀{xs:List Str}{a:List Nat},slots N xs=some a->xs.length=a.length
 |[],a,h=>by cases h;rfl|x::xs,a,h=>by
  unfold slots at h;cases e:slot N x with
  |none=>rw[e]at h;cases h|some i =>
   rw[e]at h;cases b:slots N xs with
   |none=>simp[b]at h|some c =>
    simp[b]at h;subst h;simp[jI b]
theorem qw{N:List Str}:∀{xs:List Str}{a:List Nat}{j i:Nat},slots N xs=some a->a[j]? =some i->∃x,xs[j]? =some x/\N[i]? =some x
 |[],a,j,i,h,hj=>by cases h;simp at hj|x::xs,a,j,i,h,hj=>by
  unfold slots at h;cases e:slot N x with
  |none=>rw[e]at h;cases h|some c =>
   rw[e]at h;cases b:slots N xs with
   |none=>simp[b]at h|some d =>
    simp[b]at h;subst h;cases j with
    |zero =>
     simp at hj;subst hj;exact⟨x,by simp,fg e⟩
    |succ j=>simpa using qw b (by simpa using hj)
theorem lZ(h:yU ct t scope=true):scope.kind=.function/\(∀y∈scope.names,y.2=.cell->scope.names.lookup y.1=some .cell)/\(∀y∈scope.names,y.2=.local->scope.names.lookup y.1=some .local) /\ (∀y∈scope.names,y.2=.free->(ct.S.lookup y.1=some .cell\/ct.S.lookup y.1=some .free))/\(t::frees scope).Nodup/\(scope.names.lookup t=some .local\/scope.names.lookup t=some .cell)/\∀x∈frees scope,scope.names.lookup x=some .free:=by
 unfold yU at h;simp only[MY]at h;obtain⟨⟨⟨⟨⟨⟨f,j⟩,b⟩,i⟩,g⟩,c⟩,k⟩:=h;refine⟨M0 f,λy a e=> ?_,λy a e=> ?_,λy a e=> ?_,M3 g,by simpa using c,λx d=> ?_⟩
 ·have:=Mm.mp j y a
  rw[e]at this
  simpa using this
 ·have:=Mm.mp b y a
  rw[e]at this
  simpa using this
 ·have:=Mm.mp i y a
  rw[e]at this
  simpa using this
 ·have:=Mm.mp k x d
  simpa using this
theorem gx{env:Env}:∀{names:List (Str×NameKind)}{x:Str},names.lookup x=some .cell -> (names.map fun(n,k)=>if(k==NameKind.free&&env.scope.kind== .function&&env.kindOf n==some .cell)then(n,NameKind.cell)else(n,k)).lookup x=some .cell
 |[],_,h=>by simp at h|(n,k)::r,x,h=>by
  have c:= @gx env r x;show List.lookup x ((if(k==NameKind.free&&env.scope.kind== .function&&env.kindOf n==some .cell)=true then(n,NameKind.cell)else(n,k))::_)=_;cases a:x==n with
  |true =>
   simp only[NT,a]at h;cases h;rw[MV (by simp)];simp only[NT,a]
  |false =>
   simp only[NT,a]at h
   by_cases b:(k==NameKind.free&&env.scope.kind== .function&&env.kindOf n==some .cell)=true;rw[MX b];simp only[NT,a];exact c h;rw[MV b];simp only[NT,a];exact c h
theorem gl(h:scope.names.lookup t=some .local\/scope.names.lookup t=some .cell):L2.Loc (bK X N' scope d b e c a).env.scope t:=by
 rcases h with h|h
 ·exact .inl (lookup_relabel_local h)
 ·exact .inr (gx h)
theorem kc(h:scope.names.lookup t=some .local\/scope.names.lookup t=some .cell):(bK X N' scope d b e c a).fn t=true\/(bK X N' scope d b e c a).env.scope.names.lookup t=some .local:=by
 rcases h with h|h
 ·exact .inr (lookup_relabel_local h)
 ·left
  show(scope.names.lookup t==some .cell)=true;rw[h];rfl
set_option tactic.hygienic true in
theorem bz.blk{cd:Nat->List PV->Option PV}{ct:Ct}(C:bz cd X ct){t:Str}{scope:Scope}(h:yU ct t scope=true)(Cf:Addr)(s2:Shared)(H2:Hp)(fp:List Addr)(cl:List (Str×Addr)):bz cd (bK X (t::frees scope) scope Cf s2 H2 fp cl) (blk ct t scope):=by
 obtain⟨h1,h2,h3,h4,h5,h6,h7⟩:=lZ h;refine⟨rfl,h5,?_,h1,C.calm,C.glob,C.bl,C.fns,Nk,C.un⟩;show(scope.names.map fun(n,k)=>if(k==NameKind.free&&X.env.scope.kind== .function&&X.env.kindOf n==some .cell)then(n,NameKind.cell)else(n,k))=nV ct.S scope.names;unfold nV;refine NV λy hy=> ?_;obtain⟨n,k⟩:=y;have e:(X.env.scope.kind==ScopeKind.function)=true:=by rw[C.kind];rfl
 have e2:X.env.kindOf n=ct.S.lookup n:=by
  show X.env.scope.names.lookup n=_;rw[C.S]
 dsimp only;rw[e,e2]
theorem fm(h:iC ct t t2 scope=true):scope.kind=.function/\(∀y∈scope.names,y.2=.cell->scope.names.lookup y.1=some .cell)/\(∀y∈scope.names,y.2=.local->scope.names.lookup y.1=some .local) /\ (∀y∈scope.names,y.2=.free->(ct.S.lookup y.1=some .cell\/ct.S.lookup y.1=some .free))/\(t::t2::frees scope).Nodup/\(scope.names.lookup t=some .local\/scope.names.lookup t=some .cell)/\(scope.names.lookup t2=some .local\/scope.names.lookup t2=some .cell)/\∀x∈frees scope,scope.names.lookup x=some .free:=by
 unfold iC at h;simp only[MY]at h;obtain⟨⟨⟨⟨⟨⟨⟨f,k⟩,b⟩,j⟩,i⟩,c⟩,g⟩,l⟩:=h;refine⟨M0 f,λy a e=> ?_,λy a e=> ?_,λy a e=> ?_,M3 i,by simpa using c,by simpa using g,λx d=> ?_⟩
 ·have:=Mm.mp k y a
  rw[e]at this
  simpa using this
 ·have:=Mm.mp b y a
  rw[e]at this
  simpa using this
 ·have:=Mm.mp j y a
  rw[e]at this
  simpa using this
 ·have:=Mm.mp l x d
  simpa using this
set_option tactic.hygienic true in
theorem bz.blk2{cd:Nat->List PV->Option PV}{ct:Ct}(C:bz cd X ct){t t2:Str}{scope:Scope}(h:iC ct t t2 scope=true)(Cf:Addr)(s2:Shared)(H2:Hp)(fp:List Addr)(cl:List (Str×Addr)):bz cd (bK X (t::t2::frees scope) scope Cf s2 H2 fp cl) (blk2 ct t t2 scope):=by
 obtain⟨h1,h2,h3,h4,h5,h6,h8,h7⟩:=fm h;refine⟨rfl,h5,?_,h1,C.calm,C.glob,C.bl,C.fns,Nk,C.un⟩;show(scope.names.map fun(n,k)=>if(k==NameKind.free&&X.env.scope.kind== .function&&X.env.kindOf n==some .cell)then(n,NameKind.cell)else(n,k))=nV ct.S scope.names;unfold nV;refine NV λy hy=> ?_;obtain⟨n,k⟩:=y;have e:(X.env.scope.kind==ScopeKind.function)=true:=by rw[C.kind];rfl
 have e2:X.env.kindOf n=ct.S.lookup n:=by
  show X.env.scope.names.lookup n=_;rw[C.S]
 dsimp only;rw[e,e2]
theorem gn{cd:Nat->List PV->Option PV}{ct:Ct}(C:bz cd X ct){scope:Scope}:∀{xs:List Str}{a:List Nat},slots ct.N xs=some a->(∀x∈xs,scope.names.lookup x=some .free/\(ct.S.lookup x=some .cell\/ct.S.lookup x=some .free))->bY X scope xs (a.map some)
 |[],a,h,_=>by cases h;exact True.intro|x::xs,a,h,k=>by
  unfold slots at h;cases e:slot ct.N x with
  |none=>rw[e]at h;cases h|some g =>
   rw[e]at h;cases b:slots ct.N xs with
   |none=>simp[b]at h|some i =>
    simp[b]at h;subst h;obtain⟨c,d⟩:=k x MT;exact⟨⟨by rw[C.N];exact fg e,c,by rw[C.S];exact d⟩,gn C b λy f=>k y (MS _ f)⟩
theorem Aq{t:TV}(h:t.ob=some x):t≠.un:=λe=>by subst e;cases h
theorem av.block{K:W.Frag}{O:List Addr}{y:L2.St}{H:Hp}{c:List Nat}{x:PV}{n:Bool}{u:V}(R:av K Hi O τ y H)(nd:c.Nodup)(r:Rp K Hi n x (aZ H O) u) :
  av K Hi O (.frz x n::c.map λi=>τ.getD i .un) (some u::bU (c.map some) y) H:=by
 have d:∀(j:Nat)(v:TV),(c.map λi=>τ.getD i .un)[j]? =some v->v≠.un->∃i,c[j]? =some i/\τ[i]? =some v:=λj v e U=>by
  rw[Mi]at e;cases L:c[j]? with
  |none=>rw[L]at e;cases e|some i =>
   rw[L]at e;refine⟨i,rfl,?_⟩;have e:τ.getD i .un=v:=Mv e;rw[Me]at e;cases F:τ[i]? with
   |none=>rw[F]at e;exact absurd e.symm U|some w=>rw[F]at e;exact ND some e
 have g:∀(j i:Nat),c[j]? =some i->(bU (c.map some) y)[j]? =some ((y[i]?).join):=λj i e=>by
  unfold bU;rw[Mi,Mi,e];rfl
 refine⟨R.same,R.own,λj v m e=> ?_,λj t bd ys m e h=> ?_,λa b t t' T N l s h q f k p=> ?_⟩
 ·cases j with
  |zero =>
   simp at e;obtain⟨rfl,rfl⟩:=e;exact⟨u,by simp,r⟩
  |succ j =>
   obtain⟨i,k,p⟩:=d j _ (by simpa using e) (by simp);obtain⟨w,B,E⟩:=R.frz i v m p;exact⟨w,by rw[OK,g j i k,B];rfl,E⟩
 ·cases j with
  |zero =>
   simp at e;subst e;cases h
  |succ j =>
   obtain⟨i,k,p⟩:=d j _ (by simpa using e) (Aq h);obtain⟨l,us,o,B,E⟩:=R.obs i t bd ys m p h;exact⟨l,us,o,by rw[OK,g j i k,B];rfl,E⟩
 ·cases a with
  |zero =>
   simp at s;subst s;cases h
  |succ a =>
   cases b with
   |zero =>
    simp at q;subst q;cases f
   |succ b =>
    obtain⟨i,z,J⟩:=d a _ (by simpa using s) (Aq h);obtain⟨j,A,I⟩:=d b _ (by simpa using q) (Aq f);rw[OK,g a i z]at k;rw[OK,g b j A]at p;obtain⟨b1,C,n1⟩:=T;obtain⟨S,D,n2⟩:=N;obtain⟨l1,P,o1,M,_⟩:=R.obs i t b1 C n1 J h;obtain⟨l2,Y,o2,G,_⟩:=R.obs j t' S D n2 I f;rw[M]at k;rw[G]at p;cases k;cases p;have e:=R.dst i j t t' _ _ l J h I f M G;subst e
    congr 1
    have Q:a<c.length:=(Mk.mp z).1;have Z:b<c.length:=(Mk.mp A).1;have s:c[a]=i:=by rw[Mf Q]at z;exact Mv z
    have q:c[b]=i:=by rw[Mf Z]at A;exact Mv A
    exact(List.getElem_inj nd).mp (s.trans q.symm)
theorem gc{N:List Str}:∀{xs:List Str}{a:List Nat},slots N xs=some a->xs.Nodup->a.Nodup
 |[],a,h,_=>by cases h;exact List.nodup_nil|x::xs,a,h,nd=>by
  unfold slots at h;cases e:slot N x with
  |none=>rw[e]at h;cases h|some i =>
   rw[e]at h;cases b:slots N xs with
   |none=>simp[b]at h|some j =>
    simp[b]at h;subst h;refine Mx.mpr ⟨λg=> ?_,gc b (Mx.mp nd).2⟩;obtain⟨k,d⟩:=List.mem_iff_getElem?.mp g;obtain⟨y,f,c⟩:=qw b d;rw[fg e]at c;cases c;exact(Mx.mp nd).1 (Mw f)
set_option tactic.hygienic true in
theorem av.hide{K:W.Frag}(R:av K Hi O τ g H)(s:aE H a)(h0:H D=none)(x:a D=some (.lst y)):av K Hi (D::O) τ g a :=by
 have h:aE (aZ H O) (aZ a (D::O)):=λb o e=>by
  unfold aZ at e ⊢
  split at e;cases e
  ·rename_i r
   have m:b≠D:=aF e h0;rw[MV (by simp[m,r])];exact s b o e
 refine⟨R.same.trans s,λl d=> ?_,λi v n e=> ?_,λi t b xs n e z=> ?_,R.dst⟩
 ·rcases Mh.mp d with rfl|d
  ·exact⟨R.same.free h0,_,x,.lst⟩
  ·obtain⟨q,vs,e,w⟩:=R.own l d
   exact⟨q,vs,s _ _ e,w⟩
 ·obtain⟨u,f,c⟩:=R.frz i v n e
  exact⟨u,f,c.mono h⟩
 ·obtain⟨l,vs,o,f,c,j,k,p⟩:=R.obs i t b xs n e z
  exact⟨l,vs,o,f,MS _ c,s _ _ j,k,p.mono h⟩
theorem pG(h:cR e=false):∀x,foldedSetIterable e env x=pure x:=by
 intro x;cases e with
 |Set a b c=>cases h|_=>rfl
noncomputable def LD(cd:Nat->List PV->Option PV)(ifs:Fb)(elt:IE)(n:Bool)(a:En):PV->Option (Option (PV×Bool)):=λx=>(jV cd ifs (.frz x (n||imm x)::a)).bind λb=>if b then(ah cd elt (.frz x (n||imm x)::a)).bind λr=>r.keep.map some else some none
set_option tactic.hygienic true in
theorem BA{cd:Nat->List PV->Option PV}{U:Ct}{Nn:List Str}{S:List (Option Nat)}{tg N elt:Expr}{ifs:List Expr}{E :Fb}{h :IE}{scope:Scope}{xs:List PV}{n b:Bool}{VS:List PV}{NN:Bool}{CF:PV->Option (Option (PV×Bool))}
  (gU:kI X Hi τ tg N xs n b) (hz:xs.length<=LN) (a1:∀(Cf:Addr)(s2:Shared)(H2:Hp)(fp:List Addr)(cl:List (Str×Addr)),bz cd (bK X Nn scope Cf s2 H2 fp cl) U)
  (a4:∀(X' :Cx)(C :En)(k:Bool),bz cd X' U->jV cd E C =some k->∃tt,zC X' ifs tt/\∀(O:List Addr)(B:L2.St)(H:Hp)(Q:Bool->Hp->Prop),av X'.K Hi O C B H->(∀H',aE H H' ->Q k H')->tt B H Q)
  (a5:∀(X' :Cx)(C :En)(r:RV),bz cd X' U->ah cd h C =some r->aK X' Hi C elt r)
  (a2:∀(O:List Addr)(B:L2.St)(D:Addr)(x:PV)(Z:Option (PV×Bool))(u:V)(I :Hp)(Cf:Addr)(s2:Shared)(H2:Hp)(fp:List Addr)(cl:List (Str×Addr)),CF x=some Z->av X.K Hi (D::O) τ B I ->Rp X.K Hi n x (aZ I (D::O)) u -> ∃(f:En)(a0:L2.St)(g:TG),((jV cd E f).bind λt=>if t then(ah cd h f).bind λr=>r.keep.map some else some none)=some Z/\av X.K Hi (D::O) f a0 I /\PG (bK X Nn scope Cf s2 H2 fp cl) tg g /\ ∀K:L2.St->Hp->Prop,K a0 I ->g u (bU S B) I λY H3=>(Y.length=Nn.length/\∀(j:Nat)(v:V),(bU S B)[j]? =some (some v)->Y[j]? =some (some v))/\K Y H3)
  (a7:bm CF xs=some (VS,NN)) (O:List Addr) (B:L2.St) (H:Hp) (Q:VK) (R:av X.K Hi O τ B H) (q:∀u H',aE H H' ->aj X.K Hi O H H' (.own VS NN) u->Q u H'):F2 X Nn S scope tg ifs elt (λB H R=>WI X tg N B H R) B H Q:=by
 refine gU O B H _ R λJ H1 s1 En=> ?_;intro D hD;have ok:∀(G:Hp)(p:List V),aE H1 G->G D=some (.lst p)->(if b=true then OkB H1 else FZ (aZ H1 O)) G (D::O):=by
  intro G p F W;have ls:vm (D::O) G:=λl hl=>by
   rcases Mh.mp hl with rfl|hl
   ·exact⟨_,W,.lst⟩
   ·obtain⟨us,e,mo⟩:=(R.own l hl).2
    exact⟨us,F _ _ (s1 _ _ e),mo⟩
  cases b with
  |true=>exact⟨ls,F⟩|false =>
   refine⟨ls,λc o e=> ?_⟩;unfold aZ at e ⊢
   split at e;cases e
   ·rename_i nb
    have ne:c≠D:=aF e hD;rw[MV (by simp[ne,nb])];exact F c o e
 refine⟨λi m p G=>m=xs.length-i/\i<=xs.length/\aE H1 G/\G D=some (.lst p)/\p.length<=i/\∃dn ws mm,bm CF (xs.drop i)=some (ws,mm)/\VS=dn++ws/\(NN=true->mm=true)/\aI X.K Hi NN dn (aZ G (D::O)) p,⟨xs.length,by simp,NH _,aJ hD _,aC,Md _,[],VS,NN,a7,rfl,id,.nil⟩,?_⟩
 rintro i m p G ⟨rfl,hi,F,W,b3,dn,ws,mm,a,hv,hn,hr⟩
 by_cases A:i<xs.length
 ·refine .inr ⟨En.go G (D::O) i (ok G p F W) A,λu I y=> ?_⟩
  obtain⟨s,x,hx,rx⟩:=En.yld G (D::O) i u I (ok G p F W) A y;intro Cf s2 H2 fp cl;have C' :=a1 Cf s2 H2 fp cl;have hd:xs.drop i=x::xs.drop (i+1):=by
   rw[OB A];rw[Mf A]at hx;rw[Mv hx]
  rw[hd]at a;unfold bm at a;cases d:CF x with
  |none=>rw[d]at a;cases a|some Z =>
   rw[d]at a;cases L:bm CF (xs.drop (i+1))with
   |none=>rw[L]at a;cases a|some w =>
    obtain⟨a6,a3⟩:=w;rw[L]at a;have P :I D=some (.lst p):=s _ _ W;obtain⟨f,a0,g,d,RB,pg,hg⟩:=a2 O B D x Z u I Cf s2 H2 fp cl d (R.hide (s1.trans (F.trans s)) (s1.free hD) P) rx;cases T:jV cd E f with
    |none=>rw[T]at d;cases d|some k =>
     rw[T]at d;obtain⟨tt,a8,a'⟩:=a4 _ _ _ C' T;refine⟨g,tt,_,pg,a8,af,hg _ ?_⟩;refine a' (D::O) _ I _ RB λG4 M=> ?_;cases k with
     |false =>
      rw[MV Mc];have d:(some none:Option (Option (PV×Bool)))=some Z:=d;cases d;cases a;exact⟨xs.length-(i+1),by omega,rfl,A,F.trans (s.trans M),M _ _ P,by omega,dn,ws,mm,L,hv,hn,hr.mono (aS (s.trans M))⟩
     |true =>
      rw[MX rfl];have d:((ah cd h f).bind λr=>r.keep.map some)=some Z:=d;cases he:ah cd h f with
      |none=>rw[he]at d;cases d|some r =>
       rw[he]at d;have d:r.keep.map some=some Z:=d;cases hk:r.keep with
       |none=>rw[hk]at d;cases d|some vn =>
        obtain⟨v,nv⟩:=vn;rw[hk]at d;cases d;have a:some (v::a6,nv&&a3)=some (ws,mm):=a;cases a;refine a5 _ _ _ C' he (D::O) _ G4 _ (RB.ext M) λw G5 s5 r5=> ?_;have kp:=r5.keep (RB.ext M) s5 hk;have a9:=s5 _ _ (M _ _ P);have sT:=F.trans (s.trans (M.trans s5));have b2 :xs.length<=16777216:=hz;refine⟨a9,by rw[fE];omega,xs.length-(i+1),by omega,rfl,A,sT.upd hD,aC,by rw[Ml];simp;omega,dn++[v],a6,a3,L,by rw[hv];simp,λz=> ?_,?_⟩
        ·have:=hn z
         rw[MY]at this;exact this.2
        ·have e:aZ (L2.upd G5 D (.lst (p++[w]))) (D::O)=aZ G5 (D::O):=by
          funext c
          unfold aZ
          split;rfl
          ·rename_i nc
           exact aB λz=>nc (z▸MT)
         rw[e];refine(hr.mono (aS (s.trans (M.trans s5)))).app (.cons (kp.low λz=> ?_) .nil);have:=hn z;rw[MY]at this;exact this.1
 ·have e:i=xs.length:=by omega
  subst e;rw[Pd]at a;cases a;refine .inl ⟨En.stop G (D::O) (ok G p F W),q _ _ (s1.trans F) ?_⟩;refine⟨D,p,rfl,s1.free hD,W,?_⟩;rw[hv,NU];refine hr.mono λc o e=> ?_;unfold aZ at e;unfold aZ del
  split at e;cases e
  ·rename_i nc
   have n1:c≠D:=λz=>nc (z▸MT);have n2:c∉O:=λz=>nc (MS _ z);rw[MV n2,MV n1];exact e
theorem Dp{cd:Nat->List PV->Option PV}{ct:Ct}(C:bz cd X ct){t:Str}{E:Pos}{d elt:Expr}{ifs:List Expr}{j :Fb}{g :IE}{scope:Scope}{a:List Nat}{xs:List PV}{n b:Bool}{M:List PV}{L:Bool}
  (h:yU ct t scope=true) (B:slots ct.N (frees scope)=some a) (I:cR d=false) (V:kI X Hi τ (.Name t E) d xs n b) (Z:xs.length<=LN)
  (p:∀(l :Cx)(c :En)(k:Bool),bz cd l (blk ct t scope)->jV cd j c =some k->∃T,zC l ifs T/\∀(O:List Addr)(f:L2.St)(H:Hp)(Q:Bool->Hp->Prop),av l.K Hi O c f H->(∀m,aE H m ->Q k m)->T f H Q)
  (s:∀(l :Cx)(c :En)(r:RV),bz cd l (blk ct t scope)->ah cd g c =some r->aK l Hi c elt r)
  (w:bm (LD cd j g n (a.map λi=>τ.getD i .un)) xs=some (M,L)):bY X scope (t::frees scope) (none::a.map some)/\eI X.env.scope scope=true /\ ∀(O:List Addr)(f:L2.St)(H:Hp)(Q:VK),av X.K Hi O τ f H->(∀u m,aE H m ->aj X.K Hi O H m (.own M L) u->Q u m)->F2 X (t::frees scope) (none::a.map some) scope (.Name t E) ifs elt (λf H R=>WI X (.Name t E) d f H R) f H Q:=by
 obtain⟨h1,h2,h3,U,P,G,J⟩:=lZ h;have o:∀x∈frees scope,(x,NameKind.free)∈scope.names:=λx A=>NJ (J x A);have q:bY X scope (t::frees scope) (none::a.map some):=gn C B λx A=>⟨J x A,U _ (o x A) rfl⟩;have F:eI X.env.scope scope=true:=by
  unfold eI;rw[Mm];intro y W;rw[C.S]
  by_cases e:y.2=.free
  ·rcases U y W e with z|z<;>simp[e,z]
  ·simp[e]
 have v:=jI B;refine⟨q,F,BA V Z (C.blk h) p s (λO f D x r0 u G' Cf s2 H2 fp cl hf R Y=> ?_) w⟩;exact⟨_,some u::bU (a.map some) f,sX 0,hf,R.block (gc B (Mx.mp P).2) Y.up,aw P rfl (gl G) (kc G),λK k=>⟨tN (by simp[v]),k⟩⟩
theorem av.consF{K:W.Frag}(R:av K Hi O τ k H)(r:Rp K Hi n x (aZ H O) u):av K Hi O (.frz x n::τ) (some u::k) H:=by
 refine⟨R.same,R.own,λj v m e=> ?_,λj t s B m e d=> ?_,λa b t t' q p l h d g c y A=> ?_⟩
 ·cases j with
  |zero =>
   simp at e;obtain⟨rfl,rfl⟩:=e;exact⟨u,by simp,r⟩
  |succ j =>
   obtain⟨w,f,i⟩:=R.frz j v m (by simpa using e);exact⟨w,by simpa using f,i⟩
 ·cases j with
  |zero =>
   simp at e;subst e;cases d
  |succ j =>
   obtain⟨l,z,o,f,i⟩:=R.obs j t s B m (by simpa using e) d;exact⟨l,z,o,by simpa using f,i⟩
 ·cases a with
  |zero =>
   simp at h;subst h;cases d
  |succ a =>
   cases b with
   |zero =>
    simp at g;subst g;cases c
   |succ b=>rw[R.dst a b t t' q p l (by simpa using h) d (by simpa using g) c (by simpa using y) (by simpa using A)]
theorem oN{N':List Str}(h:r.length+2=N'.length) :
  (((bU (none::none::r) a).set 0 (some x)).set 1 (some y)).length=N'.length/\∀(j:Nat)(v:V),(bU (none::none::r) a)[j]? =some (some v)->(((bU (none::none::r) a).set 0 (some x)).set 1 (some y))[j]? =some (some v):=by
 refine⟨by rw[N7,N7];simp[bU,h],λj v e=> ?_⟩;cases j with
 |zero=>simp[bU]at e|succ j =>
  cases j with
  |zero=>simp[bU]at e|succ j=>simpa [bU]using e
noncomputable def B2(cd:Nat->List PV->Option PV)(ifs:Fb)(elt:IE)(n:Bool)(c:En):PV->Option (Option (PV×Bool)):=λx=>(lI x).bind fun(a,b)=>(jV cd ifs (.frz a (n||imm a)::.frz b (n||imm b)::c)).bind λt=>if t then(ah cd elt (.frz a (n||imm a)::.frz b (n||imm b)::c)).bind λr=>r.keep.map some else some none
theorem A9{cd:Nat->List PV->Option PV}{ct:Ct}(C:bz cd X ct){t t2:Str}{T:Nat}{M l m:Pos}{d elt:Expr}{ifs:List Expr}{g :Fb}{j :IE}{scope:Scope}{a:List Nat}{xs:List PV}{n b:Bool}{VS:List PV}{NN:Bool}
  (h:iC ct t t2 scope=true) (L:slots ct.N (frees scope)=some a) (a0:cR d=false) (gU:kI X Hi τ (.Tuple [.Name t M,.Name t2 l] T m) d xs n b) (hz:xs.length<=LN)
  (A:∀(o :Cx)(c :En)(k:Bool),bz cd o (blk2 ct t t2 scope)->jV cd g c =some k->∃tt,zC o ifs tt/\∀(O:List Addr)(f:L2.St)(H:Hp)(Q:Bool->Hp->Prop),av o.K Hi O c f H->(∀p,aE H p ->Q k p)->tt f H Q)
  (B:∀(o :Cx)(c :En)(r:RV),bz cd o (blk2 ct t t2 scope)->ah cd j c =some r->aK o Hi c elt r)
  (E:bm (B2 cd g j n (a.map λi=>τ.getD i .un)) xs=some (VS,NN)):bY X scope (t::t2::frees scope) (none::none::a.map some)/\eI X.env.scope scope=true /\ ∀(O:List Addr)(f:L2.St)(H:Hp)(Q:VK),av X.K Hi O τ f H->(∀u p,aE H p ->aj X.K Hi O H p (.own VS NN) u->Q u p)->F2 X (t::t2::frees scope) (none::none::a.map some) scope (.Tuple [.Name t M,.Name t2 l] T m) ifs elt (λf H R=>WI X (.Tuple [.Name t M,.Name t2 l] T m) d f H R) f H Q:=by
 obtain⟨h1,h2,h3,U,P,h6,Y,h7⟩:=fm h;have q:∀x∈frees scope,(x,NameKind.free)∈scope.names:=λx I=>NJ (h7 x I);have s:bY X scope (t::t2::frees scope) (none::none::a.map some):=gn C L λx I=>⟨h7 x I,U _ (q x I) rfl⟩;have J:eI X.env.scope scope=true:=by
  unfold eI;rw[Mm];intro y hy;rw[C.S]
  by_cases e:y.2=.free
  ·rcases U y hy e with z|z<;>simp[e,z]
  ·simp[e]
 have v:=jI L;refine⟨s,J,BA gU hz (C.blk2 h) A B (λO f D x r0 u G' Cf s2 H2 fp cl G R rx=> ?_) E⟩;unfold B2 at G;obtain⟨x1,V,rfl⟩:∃x1 V,x=.tup [x1,V]:=by
  cases F:lI x with
  |none=>rw[F]at G;cases G|some w =>
   unfold lI at F
   split at F;exact⟨_,_,rfl⟩;cases F
 obtain⟨pa,us,rfl,lt,rt⟩:=Rp.tup.mp rx;obtain⟨W,a2,rfl,ra,rt⟩:=rt;obtain⟨Z,a1,rfl,rb,rt⟩:=rt;obtain rfl:=rt
 exact⟨_,some W::some Z::bU (a.map some) f,_,G,(R.block (gc L (Mx.mp (Mx.mp P).2).2) rb.up).consF ra.up,lH (C.blk2 h Cf s2 H2 fp cl).calm (cC (aw (i:=0) P rfl (gl h6) (kc h6)) (cC (aw (i:=1) P rfl (gl Y) (kc Y)) hJ rfl) rfl) rfl rfl,λK k=>⟨pa,_,rfl,(aT (O:=D::O)).tup lt,rfl,W,_,rfl,Z,_,rfl,rfl,⟨oN (by simp[v]),k⟩⟩⟩
theorem DP(h:PE X e t):PE X e (λd H Q=>t d H λv f =>∃a o b,f a=some (.frz o (.dK b))/\NF X a/\Q v (L2.upd f a (.dK b))):=by intro c s d H Q I k;refine al (h c s d H _ I k) λu m q=> ?_;obtain⟨v,f,l,i,a,o,b,g,j,q⟩:=q;exact⟨v,_,l.unknown j g,i,q⟩
set_option tactic.hygienic true in
theorem A8(h:yT c t=some r):∃a vs n T m b,c=.frz (.dK a vs) n/\t=some (.frz (.int T) m)/\a.length<=LN/\mi T a vs=some b/\r=.own (b.map PV.int) true:=by
 unfold yT at h
 split at h
 ·split at h
  ·rename_i a vs n T m d
   cases e:mi T a vs with
   |none=>rw[e]at h;cases h|some b=>rw[e]at h;cases h;exact⟨_,_,_,_,_,_,rfl,rfl,d,e,rfl⟩
  ·cases h
 ·cases h
theorem v9{n:Bool}{T:Int}:∀{a:List ak}{vs:List PV}{d:List Int}{G:Hp}{f:List V},mi T a vs=some d->aI X.K Hi n vs G f->∃b:List (Int×Int),a.zip f=b.map (λq=>(Sum.inl q.1,V.int q.2))/\b.length=a.length/\d=(b.filter λq=>decide (Builtin.bitAnd q.1 T=0)).map (·.2)
 |[],vs,d,G,f,h,r=>by
  cases vs with
  |nil=>cases h;exact⟨[],rfl,rfl,rfl⟩|cons v vs=>cases h
 |k::a,vs,d,G,f,h,r=>by
  cases vs with
  |nil=>cases k<;>cases h|cons v vs =>
   cases k with
   |inr z=>cases v<;>cases h|inl k =>
    cases v with
    |int v =>
     have h:(mi T a vs).map (λr=>if Builtin.bitAnd k T=0 then v::r else r)=some d:=h;cases e:mi T a vs with
     |none=>rw[e]at h;cases h|some s =>
      rw[e]at h;obtain⟨u,g,rfl,o,m⟩:=r;obtain⟨b,j,i,l⟩:=v9 e m;have p:=Rp.int.mp o;subst p;have h:=Mv h;refine⟨(k,v)::b,by rw[Pz,j];rfl,by simp[i],?_⟩;rw[<- h,l]
      by_cases c:Builtin.bitAnd k T=0<;>simp[c]
    |_=>cases h
theorem rA{n:Bool}{G:Hp}:∀{a:List Int},aI X.K Hi n (a.map PV.int) G (a.map V.int)
 |[]=>.nil|_::_=>.cons (Rp.int.mpr rfl) rA
theorem AG{K:W.Frag}:av K (λ_=>none) [] [.frz (.int a) true,.frz (.int b) true,.frz (.int c) true] [some (.int a),some (.int b),some (.int c)] G:=by
 refine⟨λ_ _ e=>(by cases e),λl f=>(by cases f),λj v m e=> ?_,λj t h k m e d=> ?_,λi j t t' x y l g d=> ?_⟩
 ·match j,e with
  |0,e=>cases e;exact⟨_,rfl,Rp.int.mpr rfl⟩|1,e=>cases e;exact⟨_,rfl,Rp.int.mpr rfl⟩|2,e=>cases e;exact⟨_,rfl,Rp.int.mpr rfl⟩|j+3,e=>simp at e
 ·match j,e with
  |0,e=>cases e;cases d|1,e=>cases e;cases d|2,e=>cases e;cases d|j+3,e=>simp at e
 ·match i,g with
  |0,e=>cases e;cases d|1,e=>cases e;cases d|2,e=>cases e;cases d|j+3,e=>simp at e
theorem HP{cd:Nat->List PV->Option PV}{ct:Ct}(C:bz cd X ct){d:Expr}{ra r:RV}{i:Nat}{x y t:Str}{p1 p2 p3 p4 p5 p6 p7 p8 p9 lp ap cp:Pos}{k k2:Nat}{scope:Scope}(h:iC ct x y scope=true)(hf:frees scope=[t])
  (v0:bZ (blk2 ct x y scope) x=.var 0) (v1:bZ (blk2 ct x y scope) y=.var 1) (v2:bZ (blk2 ct x y scope) t=.var 2) (hi:slot ct.N t=some i) (M:ki d=true) (n:(ap.endLine==cp.line)=true) (hd:aK X Hi τ d ra) (hr:yT ra τ[i]? =some r) :
  aK X Hi τ (.ListComp (.Name y p9) [⟨.Tuple [.Name x p1,.Name y p2] k p3,.Call (.Attribute d "items" ap) [] [] cp,[.Compare (.BinOp (.Name x p4) .BitAnd (.Name t p5) p6) [.Eq] [.Constant (.int 0) k2 p7] p8],0⟩] scope lp) r:=by
 obtain⟨ks,vs,nn,T,nt,ns,rfl,a4,Z,hs,rfl⟩:=A8 hr;obtain⟨h1,h2,h3,h4,h5,h6,h8,h7⟩:=fm h;have hc:slots ct.N (frees scope)=some [i]:=by rw[hf];unfold slots;rw[hi];rfl
 have J:bY X scope (x::y::frees scope) (none::none::[some i]):=gn C hc λz Z=>⟨h7 z Z,h4 _ (NJ (h7 z Z)) rfl⟩;have a0:eI X.env.scope scope=true:=by
  unfold eI;rw[Mm];intro y hy;rw[C.S]
  by_cases e:y.2=.free
  ·rcases h4 y hy e with z|z<;>simp[e,z]
  ·simp[e]
 obtain⟨a1,a2,a3,rfl⟩:=xy M;intro O σ H Q R q;refine we (DP (Ag C.calm (rg af rfl n) J h1 h2 h3 a0 (λ_=>rfl))) ?_;refine hd O σ H _ R λu Y s1 r1=> ?_;have r1:Rp X.K Hi nn (.dK ks vs) (aZ Y O) u:=r1;obtain⟨p,us,rfl,_,L,hl,rl⟩:=r1;obtain⟨f,e1,e2,e3⟩:=v9 hs rl;obtain⟨w,b2,rw⟩:=R.frz i _ _ a4;have hw:=Rp.int.mp rw;subst hw;have L:=aT _ _ L;rw[e1]at L;refine⟨p,_,rfl,L,λo nf D B=> ?_⟩;have W:D≠p:=λe=>by subst e;rw[aC]at B;cases B
 have A :∀G,aE (L2.upd Y p (.frz o (.dK (f.map λq=>(Sum.inl q.1,V.int q.2))))) G->G p=some (.frz o (.dK (f.map λq=>(Sum.inl q.1,V.int q.2)))):=λG s=>s _ _ aC
 refine⟨λi m I G=>m=f.length-i/\i<=f.length/\aE (L2.upd Y p (.frz o (.dK (f.map λq=>(Sum.inl q.1,V.int q.2))))) G/\G D=some (.lst I)/\I.length<=i/\ns.map V.int=I++((f.drop i).filter λq=>decide (Builtin.bitAnd q.1 T=0)).map λq=>V.int q.2,⟨f.length,by simp,NH _,aJ B _,aC,Md _,by rw[e3];simp⟩,?_⟩
 rintro j m I G ⟨rfl,hj,E,gD,b4,v⟩
 by_cases g:j<f.length
 ·refine .inr ⟨⟨A G E,by rw[MR];exact g⟩,λu G' y' => ?_⟩
  obtain⟨a,ha,rfl,y'⟩:=y';have e:=y' (.inl f[j].1) (.int f[j].2) (by simp[g]);subst e;intro Cf s2 H2 fp cl;have P :=C.blk2 h Cf s2 H2 fp cl;have l:aE G (L2.upd G a (.tup [kV (.inl f[j].1),.int f[j].2])):=aJ ha _;refine⟨_,_,_,lH P.calm (cC (aw (i:=0) h5 rfl (gl h6) (kc h6)) (cC (aw (i:=1) h5 rfl (gl h8) (kc h8)) hJ rfl) rfl) rfl rfl,lF lA,af,?_⟩;refine⟨a,_,rfl,bg.of aC,rfl,_,_,rfl,_,_,rfl,rfl,⟨oN (by rw[hf];rfl),?_⟩⟩;have a7:((bU (none::none::[some i]) σ).set 0 (some (kV (.inl f[j].1)))).set 1 (some (.int f[j].2))=[some (.int f[j].1),some (.int f[j].2),some (.int T)]:=by
   simp[bU,b2,kV]
  rw[a7];have a8:ah cd (bZ (blk2 ct x y scope) x) [.frz (.int f[j].1) true,.frz (.int f[j].2) true,.frz (.int T) true]=some (sc (.int f[j].1)):=by rw[v0];rfl
  have a':ah cd (bZ (blk2 ct x y scope) y) [.frz (.int f[j].1) true,.frz (.int f[j].2) true,.frz (.int T) true]=some (sc (.int f[j].2)):=by rw[v1];rfl
  have a5:ah cd (bZ (blk2 ct x y scope) t) [.frz (.int f[j].1) true,.frz (.int f[j].2) true,.frz (.int T) true]=some (sc (.int T)):=by rw[v2];rfl
  have RB:=AG (K:=X.K) (G:=L2.upd G a (.tup [kV (.inl f[j].1),.int f[j].2])) (a:=f[j].1) (b:=f[j].2) (c:=T);have a9:f.drop j=f[j]::f.drop (j+1):=OB g;rw[a9,N0]at v
  have hT:eX (bK X (x::y::frees scope) scope Cf s2 H2 fp cl) (λ_=>none) [.frz (.int f[j].1) true,.frz (.int f[j].2) true,.frz (.int T) true] (.Compare (.BinOp (.Name x p4) .BitAnd (.Name t p5) p6) [.Eq] [.Constant (.int 0) k2 p7] p8) (decide (Builtin.bitAnd f[j].1 T=0)) :=
   B5 P.un (tP (kP P a8) (kP P a5) rfl) (sy (cd:=cd) rfl) rfl rfl
  refine hT [] _ _ _ RB λG4 F=> ?_;have b3 :ks.length<=16777216:=Z
  by_cases c:Builtin.bitAnd f[j].1 T=0
  ·rw[MX (by simpa using c)]at v ⊢
   refine kP P a' [] _ G4 _ (RB.ext F) λw G5 s5 U=> ?_;have U:Rp X.K (λ_=>none) true (.int f[j].2) (aZ G5 []) w:=U;have U:=Rp.int.mp U;subst U;have sT:=E.trans (l.trans (F.trans s5));exact⟨s5 _ _ (F _ _ (l _ _ gD)),by rw[fE];omega,f.length-(j+1),by omega,rfl,g,sT.upd B,aC,by rw[Ml];simp;omega,by rw[v];simp⟩
  ·rw[MV (by simpa using c)]at v ⊢
   exact⟨f.length-(j+1),by omega,rfl,g,E.trans (l.trans F),F _ _ (l _ _ gD),by omega,v⟩
 ·have e:j=f.length:=by omega
  subst e;refine .inl ⟨⟨A G E,by rw[MR]⟩,p,o,_,A G E,nf,?_⟩;have a6:Y D=none:=by rw[aB W]at B;exact B
  refine q _ _ (λb ob e=> ?_) ⟨D,I,rfl,s1.free a6,by rw[aB W];exact gD,?_⟩
  ·have e' :=s1 _ _ e
   by_cases hb:b=p
   ·subst hb
    rw[L]at e';cases e';exact aC
   ·rw[aB hb]
    exact E _ _ (by rw[aB hb];exact e')
  ·rw[Pd,List.filter_nil,N2,NU]at v
   rw[<- v];exact rA
end
set_option tactic.hygienic false
theorem bind_some{c d:Type}{o:Option c}{f:c->Option d}{b:d}(h:o.bind f=some b):∃a,o=some a/\f a=some b:=by
 cases o with
 |none=>cases h|some a=>exact⟨a,rfl,h⟩
theorem map_some{c d:Type}{o:Option c}{f:c->d}{b:d}(h:o.map f=some b):∃a,o=some a/\f a=b:=by
 cases o with
 |none=>cases h|some a=>exact⟨a,rfl,Mv h⟩
structure kB(cd:Nat->List PV->Option PV)(n:Nat):Prop where
 e:∀(X:Cx)(ct:Ct)(Hi:Hp)(τ:En)(e:Expr)(r:RV),bz cd X ct->ah cd (ay n ct e) τ=some r->aK X Hi τ e r
 cm:∀(X:Cx)(ct:Ct)(Hi:Hp)(τ:En)(a:Expr)(ops:List CmpOp)(cs:List Expr)(pos:Pos)(r:RV),bz cd X ct->ah cd (ay n ct (.Compare a ops cs pos)) τ=some r->∃t,r=sc (.bl t)/\eX X Hi τ (.Compare a ops cs pos) t
 es:∀(X:Cx)(ct:Ct)(Hi:Hp)(τ:En)(es:List Expr)(rs:List RV),bz cd X ct->fO cd (eZ n ct es) τ=some rs->qE X Hi τ es rs/\(∀a∈es,isStar a=false)/\es.length=rs.length/\∀(i:Nat)(a:Expr)(r:RV),es[i]? =some a->rs[i]? =some r->aK X Hi τ a r
 o:∀(X:Cx)(ct:Ct)(Hi:Hp)(τ:En)(e:Option Expr)(o:Option RV)(i:Option Int),bz cd X ct->IG cd (FE n ct e) τ=some o->sQ o=some i->zD X Hi τ e i
 c:∀(X:Cx)(ct:Ct)(Hi:Hp)(τ:En)(e:Expr)(b:Bool),bz cd X ct->gA cd (nM n ct e) τ=some b->eX X Hi τ e b
 call:∀(X:Cx)(ct:Ct)(Hi:Hp)(τ:En)(x:Str)(es:List Expr)(p pos:Pos)(r:RV),bz cd X ct->ah cd (jF n ct x es) τ=some r->aK X Hi τ (.Call (.Name x p) es [] pos) r
 mth:∀(X:Cx)(ct:Ct)(Hi:Hp)(τ:En)(o:Expr)(m:Str)(es:List Expr)(ap cp:Pos)(r:RV),bz cd X ct->(ap.endLine==cp.line)=true->ah cd (nL n ct o m es) τ=some r->aK X Hi τ (.Call (.Attribute o m ap) es [] cp) r
 t:∀(X:Cx)(ct:Ct)(Hi:Hp)(τ:En)(tp:Bool)(e tg:Expr)(xs:List PV)(k b:Bool),bz cd X ct->(tp=true->∃ts kk p,tg=.Tuple ts kk p)->qF cd (zh n ct tp e) τ=some (xs,k,b)->kI X Hi τ tg e xs k b/\cR e=false
section
variable{cd:Nat->List PV->Option PV}
theorem jd(h:j8 v=some b):v=.bl b:=by cases v<;>first|(cases h;done)|(cases h;rfl)
theorem BN(h:Du v=some b):v=.int b:=by cases v<;>first|(cases h;done)|(cases h;rfl)
theorem uh{c:Type}{l:List c}(h:l.length=1):∃a,l=[a]:=by
 cases l with
 |nil=>cases h|cons a l =>
  cases l with
  |nil=>exact⟨a,rfl⟩|cons b l=>cases h
theorem tq{c:Type}{l:List c}(h:l.length=2):∃a b,l=[a,b]:=by
 cases l with
 |nil=>cases h|cons a l =>
  obtain⟨b,rfl⟩:=uh (show l.length=1 from Nat.succ.inj h);exact⟨a,b,rfl⟩
theorem aR(h:ah cd .never τ=some r){P:Prop}:P:=by simp[dZ,dL,dg,dP,dc,de,di,dm,dO,dX,df,dh,dQ,dM,dr,dY,dW,dN,dU,dS,dR,dq]at h
theorem si{X:Cx}{Hi:Hp}{τ:En}{op:BoolOp}{pos:Pos}{f:Expr->IE}(d:∀e r,ah cd (f e) τ=some r->aK X Hi τ e r):∀{vs:List Expr}{r:RV},ah cd (lu op (vs.map f)) τ=some r->aK X Hi τ (.BoolOp op vs pos) r
 |[],r,h=>aR h|[a],r,h=>G7 (d a r h)|a::b::aO,r,h=>by
  have i:= @si X Hi τ op pos f d (b::aO);cases op with
  |And =>
   have h:ah cd (.and (f a) (lu .And ((b::aO).map f))) τ=some r:=h;simp only[dZ,dL,dg,dP,dc,de,di,dm,dO,dX,df,dh,dQ,dM,dr,dY,dW,dN,dU,dS,dR,dq]at h;obtain⟨x,c,h⟩:=bind_some h;have c:=d a x c;obtain⟨t,g,h⟩:=bind_some h;have e:=jd g;cases t with
   |true=>exact Lh c e (i h)|false=>cases h;exact Li c e
  |Or =>
   have h:ah cd (.or (f a) (lu .Or ((b::aO).map f))) τ=some r:=h;simp only[dZ,dL,dg,dP,dc,de,di,dm,dO,dX,df,dh,dQ,dM,dr,dY,dW,dN,dU,dS,dR,dq]at h;obtain⟨x,c,h⟩:=bind_some h;have c:=d a x c;obtain⟨t,g,h⟩:=bind_some h;have e:=jd g;cases t with
   |true=>cases h;exact or_t c e|false=>exact or_f c e (i h)
theorem sg{X:Cx}{Hi:Hp}{τ:En}{op:BoolOp}{pos:Pos}{f:Expr->IC}(d:∀e b,gA cd (f e) τ=some b->eX X Hi τ e b):∀{vs:List Expr}{b:Bool},gA cd (lq op (vs.map f)) τ=some b->nH X Hi τ (.BoolOp op vs pos) b
 |[],r,h=>by
  have h:gA cd (.val .never) τ=some r:=h;simp[zM,zO,zP,zN,dZ,dL,dg,dP,dc,de,di,dm,dO,dX,df,dh,dQ,dM,dr,dY,dW,dN,dU,dS,dR,dq]at h
 |[a],r,h=>G6 (d a r h)|a::b::aO,r,h=>by
  have g:= @sg X Hi τ op pos f d (b::aO);cases op with
  |And =>
   have h:gA cd (.and (f a) (lq .And ((b::aO).map f))) τ=some r:=h;simp only[zM,zO,zP,zN]at h;obtain⟨x,c,h⟩:=bind_some h;have c:=d a x c;cases x with
   |true=>exact CO c (g h)|false=>cases h;exact CO c rfl
  |Or =>
   have h:gA cd (.or (f a) (lq .Or ((b::aO).map f))) τ=some r:=h;simp only[zM,zO,zP,zN]at h;obtain⟨x,c,h⟩:=bind_some h;have c:=d a x c;cases x with
   |true=>cases h;exact FP c rfl|false=>exact FP c (g h)
theorem wY{X:Cx}{Hi:Hp}{τ:En}{f:Expr->IE}(k:∀e r,ah cd (f e) τ=some r->aK X Hi τ e r):∀{es:List Expr}{rs:List RV},fO cd (yN (es.map λe=>if isStar e then .never else f e)) τ=some rs->qE X Hi τ es rs/\(∀a∈es,isStar a=false)/\es.length=rs.length/\∀(i:Nat)(a:Expr)(r:RV),es[i]? =some a->rs[i]? =some r->aK X Hi τ a r
 |[],rs,h=>by
  have h:some []=some rs:=by simpa [yN,Cg,Ch]using h
  cases h;exact⟨JA,λa b=>(by cases b),rfl,λi a r e=>(by simp at e)⟩
 |e::es,rs,h=>by
  have h:fO cd (.cons (if isStar e then .never else f e) (yN (es.map λe=>if isStar e then .never else f e))) τ=some rs:=h;simp only[Cg,Ch]at h;obtain⟨x,c,h⟩:=bind_some h;obtain⟨q,m,h⟩:=map_some h;subst h;obtain⟨n,p,o,l⟩:=wY k m;cases d:isStar e with
  |true=>rw[d]at c;exact aR c|false =>
   rw[d]at c;refine⟨Eo (k e x c) d n,λa b=> ?_,by rw[Ma,Ma,o],λi a r j g=> ?_⟩
   ·rcases Mh.mp b with rfl|b
    ·exact d
    ·exact p a b
   ·cases i with
    |zero =>
     simp at j g;subst j g;exact k _ _ c
    |succ i=>exact l i a r (by simpa using j) (by simpa using g)
set_option tactic.hygienic true
theorem LF(i:kB cd n)(C:bz cd X ct)(h:ah cd (ay (n+1) ct (.Compare a ops cs pos)) τ=some r) :
  ∃t,r=sc (.bl t)/\aK X Hi τ (.Compare a ops cs pos) r/\eX X Hi τ (.Compare a ops cs pos) t:=by
 refine Nq λs=> ?_;simp only[qV,qQ,qL,qU,qI,qR,qT,qO,qN,qJ,qP,qK,qS,qM]at h
 split at h
 ·rename_i op b
  split at h;exact aR h
  ·rename_i d
   have d:=Oj.mpr d;simp only[dZ,dL,dg,dP,dc,de,di,dm,dO,dX,df,dh,dQ,dM,dr,dY,dW,dN,dU,dS,dR,dq]at h;obtain⟨x,m,h⟩:=bind_some h;obtain⟨y,o,h⟩:=bind_some h;obtain⟨t,k,h⟩:=map_some h;subst h;have g:=i.e X ct Hi τ a x C m;have j:=i.e X ct Hi τ b y C o;exact s<|⟨t,rfl,Ii C.un g j d k,B5 C.un g j d k⟩
 ·rename_i op f b c
  split at h;exact aR h
  ·rename_i d
   rw[OO,Po]at d;obtain⟨d,q⟩:=d;have q:wO f =true:=by simpa using q
   have d:=Oj.mpr d;simp only[dZ,dL,dg,dP,dc,de,di,dm,dO,dX,df,dh,dQ,dM,dr,dY,dW,dN,dU,dS,dR,dq]at h;obtain⟨x,m,h⟩:=bind_some h;obtain⟨y,o,h⟩:=bind_some h;obtain⟨t,k,h⟩:=bind_some h;have g:=i.e X ct Hi τ a x C m;have j:=i.e X ct Hi τ b y C o;cases t with
   |true =>
    rw[MX rfl]at h;obtain⟨z,w,h⟩:=bind_some h;obtain⟨t2,u,h⟩:=map_some h;subst h;have v:=i.e X ct Hi τ c z C w;obtain⟨p,l⟩:=CA C.un (pos:=pos) g j d k (t2:=t2) (o2:=f) (by rw[MX rfl];exact⟨z,v,u⟩);exact s<|⟨t2,rfl,p,l⟩
   |false =>
    rw[MV Mc]at h;cases h;obtain⟨p,l⟩:=CA C.un (pos:=pos) g j d k (t2:=false) (o2:=f) (by rw[MV Mc];exact⟨rfl,uG f q⟩);exact s<|⟨false,rfl,p,l⟩
 ·exact aR h
theorem LI(B:kB cd n)(C:bz cd X ct)(h:ah cd (jF (n+1) ct x es) τ=some r):aK X Hi τ (.Call (.Name x p) es [] pos) r:=by
 refine Nq λq=> ?_;simp only[z1p,z1q]at h
 split at h;exact aR h
 rename_i P;have P:=Oj.mpr P
 split at h
 ·rename_i E
  have E:ct.S.lookup x=some .globalImplicit:=by simpa using E
  cases w:ct.F.lookup x with
  |some f =>
   rw[w]at h;dsimp only at h;cases es with
   |nil=>exact aR h|cons e es =>
    simp only[dZ,dL,dg,dP,dc,de,di,dm,dO,dX,df,dh,dQ,dM,dr,dY,dW,dN,dU,dS,dR,dq]at h;obtain⟨rs,c,h⟩:=bind_some h;obtain⟨v,hv,h⟩:=map_some h;subst h;obtain⟨T,A,R,G⟩:=B.es X ct Hi τ (e::es) rs C c;exact q<|call_ok C P E w A T hv
  |none =>
   rw[w]at h;dsimp only at h
   split at h
   ·rename_i hb
    have g:own ct x=true:=by
     unfold own;rw[hb,E];rfl
    have plain:∀{es:List Expr}{r:RV},ah cd (match mV x es.length with|some f=>IE.bf f (eZ n ct es)|none=>.never) τ=some r->aK X Hi τ (.Call (.Name x p) es [] pos) r:=by
     intro es r h;cases j:mV x es.length with
     |none=>rw[j]at h;exact aR h|some f =>
      rw[j]at h;simp only[dZ,dL,dg,dP,dc,de,di,dm,dO,dX,df,dh,dQ,dM,dr,dY,dW,dN,dU,dS,dR,dq]at h;obtain⟨rs,c,h⟩:=bind_some h;obtain⟨T,A,R,G⟩:=B.es X ct Hi τ es rs C c;have O:∀a,es=[a]->aK X Hi τ (.Call (.Name x p) es [] pos) r:=by
       intro a Q;subst Q;obtain⟨m,rfl⟩:=uh (show rs.length=1 from R.symm);exact bf1_ok C g j (A a (by simp)) (G 0 a m rfl rfl) h
      have K:∀a b,es=[a,b]->aK X Hi τ (.Call (.Name x p) es [] pos) r:=by
       intro a b Q;subst Q;obtain⟨m,rb,rfl⟩:=tq (show rs.length=2 from R.symm);exact Iw C g j (A a (by simp)) (A b (by simp)) (G 0 a m rfl rfl) (G 1 b rb rfl rfl) h
      have s:es.length=1\/es.length=2:=by
       rcases jh j with⟨_,z,_⟩|⟨_,z,_⟩|⟨_,z,_⟩|⟨_,z,_⟩|⟨_,z,_⟩|⟨_,z,_⟩|⟨_,z,_⟩|⟨_,z,_⟩|⟨_,z,_⟩|⟨_,z,_⟩|⟨_,z,_⟩<;>simp[z]
      rcases s with s|s
      ·obtain⟨a,H⟩:=uh s
       exact O a H
      ·obtain⟨a,b,H⟩:=tq s
       exact K a b H
    split at h
    ·rename_i N
     have N:x=("isinstance":Str):=M0 N;subst N
     split at h
     ·rename_i a t U
      split at h
      ·rename_i ty I
       split at h;exact aR h
       ·rename_i o
        have o:=Oj.mpr o
        split at h
        ·rename_i M
         simp only[dZ,dL,dg,dP,dc,de,di,dm,dO,dX,df,dh,dQ,dM,dr,dY,dW,dN,dU,dS,dR,dq,Cg,Ch]at h;obtain⟨rs,c,h⟩:=bind_some h;obtain⟨m,l,D⟩:=bind_some c;cases D;have h:(bj ty m.val).map (λb=>sc (.bl b))=some r:=h;obtain⟨b,J,h⟩:=map_some h;subst h;exact q<|isin_ok C g I M o (B.e X ct Hi τ a m C l) J
        ·exact aR h
      ·exact aR h
     ·exact aR h
    ·split at h
     ·rename_i y yp a V
      split at h
      ·rename_i f w
       split at h;exact aR h
       ·rename_i o
        simp only[OO,Po,OV,Bool.not_eq_false']at o;simp only[dZ,dL,dg,dP,dc,de,di,dm,dO,dX,df,dh,dQ,dM,dr,dY,dW,dN,dU,dS,dR,dq,Cg,Ch]at h;obtain⟨rs,c,h⟩:=bind_some h;obtain⟨m,l,D⟩:=bind_some c;cases D;exact q<|nst_ok C g o.2 w o.1 (B.e X ct Hi τ a m C l) h
      ·exact q<|plain h
     ·rename_i elt gs scope lp
      split at h
      ·rename_i d i Z
       obtain⟨rfl,u,x,y,t,p1,p2,k,p3,ap,cp,p4,p5,p6,k2,p7,p8,p9,rfl,rfl,hl,g1,g2,g3,g4,Y,W⟩:=yX Z;simp only[dZ,dL,dg,dP,dc,de,di,dm,dO,dX,df,dh,dQ,dM,dr,dY,dW,dN,dU,dS,dR,dq,Cg,Ch]at h;obtain⟨rs,c,h⟩:=bind_some h;obtain⟨rl,L,D⟩:=bind_some c;obtain⟨m,l,h3⟩:=bind_some L;cases D;exact q<|bf1_ok C g (show mV ("sum":Str) 1=some .sum from rfl) rfl (HP C g1 g2 g3 g4 Y W u hl (B.e X ct Hi τ d m C l) h3) h
      ·exact q<|plain h
     ·exact q<|plain h
   ·exact aR h
 ·exact aR h
set_option tactic.hygienic false
theorem mthE(e:kB cd n)(C:bz cd X ct)(c:(a.endLine==b.line)=true)(h:ah cd (nL (n+1) ct o m es) τ=some r):aK X Hi τ (.Call (.Attribute o m a) es [] b) r:=by
 refine Nq λd=> ?_;simp only[z2b,z2c]at h
 split at h;exact aR h;exact aR h
set_option tactic.hygienic true
theorem Kv(j:kB cd n)(C:bz cd X ct)(E:D=true->∃v B p,tg=.Tuple v B p)(h:qF cd (zh (n+1) ct D e) τ=some (xs,k,b)):kI X Hi τ tg e xs k b/\cR e=false:=by
 simp only[z2v,z2w]at h
 split at h;simp[Cb,Cd,Ca,Ce,Cc,Ez]at h
 rename_i d;have d:=Oj.mpr d;refine⟨?_,d⟩;have o:qF cd (.seq (ay n ct e)) τ=some (xs,k,b)->kI X Hi τ tg e xs k b:=by
  intro h;simp only[Cb,Cd,Ca,Ce,Cc,Ez]at h;obtain⟨r,M,h⟩:=bind_some h;exact F8 (j.e X ct Hi τ e r C M) h
 have i:∀{P:Prop},qF cd .never τ=some (xs,k,b)->P:=by
  intro P h;simp[Cb,Cd,Ca,Ce,Cc,Ez]at h
 split at h
 ·rename_i a F
  split at h;exact i h
  ·rename_i c
   simp only[OO,Po,OV,Bool.not_eq_false']at c;obtain⟨p,q,rfl⟩:=yE F;simp only[Cb,Cd,Ca,Ce,Cc,Ez]at h;obtain⟨m,f,h⟩:=bind_some h;obtain⟨w,s,h⟩:=map_some h;cases h;exact GJ C c.2 c.1 (j.e X ct Hi τ a m C f) s
 split at h
 ·rename_i x es c
  obtain⟨p,pos,rfl⟩:∃p pos,e=.Call (.Name x p) es [] pos:=by
   unfold fU at c
   split at c;cases c;exact⟨_,_,rfl⟩;cases c
  split at h
  ·rename_i g
   have g:=M0 g;subst g
   split at h
   ·rename_i L
    simp only[Cb,Cd,Ca,Ce,Cc,Ez]at h;obtain⟨rs,t,h⟩:=bind_some h;obtain⟨R,G,h⟩:=map_some h;cases h;obtain⟨H,N,K,O⟩:=j.es X ct Hi τ es rs C t;exact GN C L N H K G
   ·exact i h
  ·split at h
   ·rename_i g
    have g:=M0 g;subst g
    split at h
    ·rename_i a Q
     split at h;exact i h
     ·rename_i c
      simp only[OO,Po,OV,Nj]at c;obtain⟨⟨⟨y,J⟩,u⟩,z⟩:=c;obtain⟨v,B,l,rfl⟩:=E (by simpa using u);simp only[Cb,Cd,Ca,Ce,Cc,Ez]at h;obtain⟨m,f,h⟩:=bind_some h;obtain⟨I,A,h⟩:=bind_some h;obtain⟨w,s,h⟩:=map_some h;cases h;exact Fd C (by simpa using z) y J (j.e X ct Hi τ _ m C f) (j.e X ct Hi τ _ I C A) s
    ·exact i h
   ·split at h
    ·rename_i g
     have g:=M0 g;subst g
     split at h
     ·rename_i a
      split at h;exact i h
      ·rename_i c
       simp only[OO,Po,OV,Nj]at c;obtain⟨⟨y,u⟩,z⟩:=c;obtain⟨v,B,l,rfl⟩:=E (by simpa using u);simp only[Cb,Cd,Ca,Ce,Cc,Ez]at h;obtain⟨m,f,h⟩:=bind_some h;obtain⟨w,s,h⟩:=map_some h;cases h;exact ED C (by simpa using z) y (j.e X ct Hi τ _ m C f) s
     ·exact i h
    ·exact o h
 ·exact o h
theorem lcE(v:kB cd n)(C:bz cd X ct)(h:ah cd (ay (n+1) ct (.ListComp elt U scope pos)) τ=some r) :
  ∃tg a ifs N' src,U=[⟨tg,a,ifs,0⟩]/\bY X scope N' src/\scope.kind=.function/\(∀y∈scope.names,y.2=.cell->scope.names.lookup y.1=some .cell)/\(∀y∈scope.names,y.2=.local->scope.names.lookup y.1=some .local)/\eI X.env.scope scope=true/\cR a=false /\ ∀(O:List Addr)(j:L2.St)(H:Hp)(Q:VK),av X.K Hi O τ j H->(∀u Z,aE H Z ->aj X.K Hi O H Z r u->Q u Z)->F2 X N' src scope tg ifs elt (λj H R=>WI X tg a j H R) j H Q:=by
 refine Nq λno=> ?_;simp only[qV,qQ,qL,qU,qI,qR,qT,qO,qN,qJ,qP,qK,qS,qM]at h
 split at h
 ·rename_i t B a ifs
  split at h
  ·rename_i i
   cases m:slots ct.N (frees scope)with
   |none=>rw[m]at h;exact aR h|some A =>
    rw[m]at h;simp only[dZ,dL,dg,dP,dc,de,di,dm,dO,dX,df,dh,dQ,dM,dr,dY,dW,dN,dU,dS,dR,dq]at h;obtain⟨w,V,h⟩:=bind_some h;obtain⟨xs,Y,b⟩:=w;dsimp only at h
    split at h
    ·rename_i T
     obtain⟨S,p,h⟩:=map_some h;obtain⟨VS,NN⟩:=S;subst h;obtain⟨L,d⟩:=v.t X ct Hi τ false a (.Name t B) xs Y b C (λz=>by cases z) V;obtain⟨P,E,F,g4,g5,g6,g7⟩:=lZ i;obtain⟨W,M,J⟩:=Dp (elt:=elt) (ifs:=ifs) C i m d L T (λo f k s g=>by
      split at g
      ·simp only[Ff,Fe]at g
       cases g;exact⟨_,lG,λO j H Q R q=>q H (aE.refl _)⟩
      ·rename_i c
       simp only[Ff,Fe]at g;exact⟨_,lF lA,λO j H Q R q=>v.c o _ Hi f _ k s g O j H Q R q⟩
      ·simp[Ff,Fe,zM,zO,zP,zN,dZ,dL,dg,dP,dc,de,di,dm,dO,dX,df,dh,dQ,dM,dr,dY,dW,dN,dU,dS,dR,dq]at g) (λo f I s l =>v.e o _ Hi f elt I s l) p
     exact no<|⟨.Name t B,a,ifs,_,_,rfl,W,P,E,F,M,d,J⟩
    ·cases h
  ·exact aR h
 ·cases G:vy U with
  |none=>rw[G]at h;exact aR h|some w =>
   obtain⟨t,t2,a,ifs⟩:=w;rw[G]at h;obtain⟨B,x,kk,D,rfl⟩:=xm G;dsimp only at h
   split at h
   ·rename_i i
    cases m:slots ct.N (frees scope)with
    |none=>rw[m]at h;exact aR h|some A =>
     rw[m]at h;simp only[dZ,dL,dg,dP,dc,de,di,dm,dO,dX,df,dh,dQ,dM,dr,dY,dW,dN,dU,dS,dR,dq]at h;obtain⟨w,V,h⟩:=bind_some h;obtain⟨xs,Y,b⟩:=w;dsimp only at h
     split at h
     ·rename_i T
      obtain⟨S,p,h⟩:=map_some h;obtain⟨VS,NN⟩:=S;subst h;obtain⟨L,d⟩:=v.t X ct Hi τ true a (.Tuple [.Name t B,.Name t2 x] kk D) xs Y b C (λ_=>⟨_,_,_,rfl⟩) V;obtain⟨P,E,F,g4,g5,g6,g8,g7⟩:=fm i;obtain⟨W,M,J⟩:=A9 (elt:=elt) (ifs:=ifs) C i m d L T (λo f k s g=>by
       split at g
       ·simp only[Ff,Fe]at g
        cases g;exact⟨_,lG,λO j H Q R q=>q H (aE.refl _)⟩
       ·rename_i c
        simp only[Ff,Fe]at g;exact⟨_,lF lA,λO j H Q R q=>v.c o _ Hi f _ k s g O j H Q R q⟩
       ·simp[Ff,Fe,zM,zO,zP,zN,dZ,dL,dg,dP,dc,de,di,dm,dO,dX,df,dh,dQ,dM,dr,dY,dW,dN,dU,dS,dR,dq]at g) (λo f I s l =>v.e o _ Hi f elt I s l) p
      exact no<|⟨.Tuple [.Name t B,.Name t2 x] kk D,a,ifs,_,_,rfl,W,P,E,F,M,d,J⟩
     ·cases h
   ·exact aR h
theorem expE(d:kB cd n)(C:bz cd X ct)(h:ah cd (ay (n+1) ct e) τ=some r):aK X Hi τ e r:=by
 cases e with
 |Constant c k pos=>simp only[qV,qQ,qL,qU,qI,qR,qT,qO,qN,qJ,qP,qK,qS,qM]at h;exact sy h|Name x pos=>simp only[qV,qQ,qL,qU,qI,qR,qT,qO,qN,qJ,qP,qK,qS,qM]at h;exact kP C h|BinOp a op b pos =>
  simp only[qV,qQ,qL,qU,qI,qR,qT,qO,qN,qJ,qP,qK,qS,qM,dZ,dL,dg,dP,dc,de,di,dm,dO,dX,df,dh,dQ,dM,dr,dY,dW,dN,dU,dS,dR,dq]at h;obtain⟨x,g,h⟩:=bind_some h;obtain⟨y,B,h⟩:=bind_some h;exact tP (d.e X ct Hi τ a x C g) (d.e X ct Hi τ b y C B) h
 |UnaryOp op a pos =>
  simp only[qV,qQ,qL,qU,qI,qR,qT,qO,qN,qJ,qP,qK,qS,qM]at h;cases op with
  |USub =>
   simp only[dZ,dL,dg,dP,dc,de,di,dm,dO,dX,df,dh,dQ,dM,dr,dY,dW,dN,dU,dS,dR,dq]at h;obtain⟨x,g,h⟩:=bind_some h;obtain⟨i,j,h⟩:=map_some h;subst h;exact HE (d.e X ct Hi τ a x C g) (BN j)
  |Not =>
   simp only[dZ,dL,dg,dP,dc,de,di,dm,dO,dX,df,dh,dQ,dM,dr,dY,dW,dN,dU,dS,dR,dq]at h;obtain⟨x,g,h⟩:=bind_some h;obtain⟨i,j,h⟩:=map_some h;subst h;exact HA (d.e X ct Hi τ a x C g) (jd j)
  |_=>exact aR h
 |Compare a ops cs pos =>
  obtain⟨t,_,E,_⟩:=LF d (Hi:=Hi) C h;exact E
 |BoolOp op vs pos =>
  simp only[qV,qQ,qL,qU,qI,qR,qT,qO,qN,qJ,qP,qK,qS,qM]at h
  split at h;exact aR h;exact si (λe r h=>d.e X ct Hi τ e r C h) h
 |IfExp c a b pos =>
  simp only[qV,qQ,qL,qU,qI,qR,qT,qO,qN,qJ,qP,qK,qS,qM,dZ,dL,dg,dP,dc,de,di,dm,dO,dX,df,dh,dQ,dM,dr,dY,dW,dN,dU,dS,dR,dq]at h;obtain⟨t,ht,h⟩:=bind_some h;refine HZ (d.c X ct Hi τ c t C ht) ?_;cases t with
  |true=>exact d.e X ct Hi τ a r C h|false=>exact d.e X ct Hi τ b r C h
 |List es pos =>
  simp only[qV,qQ,qL,qU,qI,qR,qT,qO,qN,qJ,qP,qK,qS,qM,dZ,dL,dg,dP,dc,de,di,dm,dO,dX,df,dh,dQ,dM,dr,dY,dW,dN,dU,dS,dR,dq]at h;obtain⟨rs,s,h⟩:=bind_some h;obtain⟨w,z,h⟩:=bind_some h;obtain⟨vs,I⟩:=w;exact HH (d.es X ct Hi τ es rs C s).1 z h
 |Tuple es k pos =>
  simp only[qV,qQ,qL,qU,qI,qR,qT,qO,qN,qJ,qP,qK,qS,qM,dZ,dL,dg,dP,dc,de,di,dm,dO,dX,df,dh,dQ,dM,dr,dY,dW,dN,dU,dS,dR,dq]at h;obtain⟨rs,s,h⟩:=bind_some h;obtain⟨w,z,h⟩:=bind_some h;obtain⟨vs,I⟩:=w;exact Fn (d.es X ct Hi τ es rs C s).1 z h
 |Dict J vs pos =>
  simp only[qV,qQ,qL,qU,qI,qR,qT,qO,qN,qJ,qP,qK,qS,qM]at h
  split at h
  ·simp only[dZ,dL,dg,dP,dc,de,di,dm,dO,dX,df,dh,dQ,dM,dr,dY,dW,dN,dU,dS,dR,dq]at h
   cases h;exact EH
  ·rename_i c _ _ v
   split at h
   ·simp only[dZ,dL,dg,dP,dc,de,di,dm,dO,dX,df,dh,dQ,dM,dr,dY,dW,dN,dU,dS,dR,dq]at h
    obtain⟨x,g,h⟩:=bind_some h;obtain⟨w,z,h⟩:=bind_some h;obtain⟨Z,I⟩:=w;dsimp only at h
    split at h
    ·rename_i j
     cases h;exact xI dA (λ_ _ _ q=>q) (d.e X ct Hi τ v x C g) z j
    ·cases h
   ·simp only[dZ,dL,dg,dP,dc,de,di,dm,dO,dX,df,dh,dQ,dM,dr,dY,dW,dN,dU,dS,dR,dq]at h
    obtain⟨x,g,h⟩:=bind_some h;obtain⟨w,z,h⟩:=bind_some h;obtain⟨Z,I⟩:=w;dsimp only at h
    split at h
    ·rename_i j
     cases h;exact xI ud (λ_ _ _ q=>q) (d.e X ct Hi τ v x C g) z j
    ·cases h
   ·exact aR h
  ·exact aR h
 |Subscript a i pos =>
  simp only[qV,qQ,qL,qU,qI,qR,qT,qO,qN,qJ,qP,qK,qS,qM]at h
  split at h
  ·rename_i lo j M sp
   cases M with
   |none =>
    simp only[dZ,dL,dg,dP,dc,de,di,dm,dO,dX,df,dh,dQ,dM,dr,dY,dW,dN,dU,dS,dR,dq]at h;obtain⟨x,g,h⟩:=bind_some h;obtain⟨l,D,h⟩:=bind_some h;obtain⟨u,S,h⟩:=bind_some h;obtain⟨V,F,h⟩:=bind_some h;obtain⟨U,A,h⟩:=bind_some h;exact zx (d.e X ct Hi τ a x C g) (d.o X ct Hi τ lo l V C D F) (d.o X ct Hi τ j u U C S A) h
   |some M=>exact aR h
  ·rename_i G
   simp only[dZ,dL,dg,dP,dc,de,di,dm,dO,dX,df,dh,dQ,dM,dr,dY,dW,dN,dU,dS,dR,dq]at h;obtain⟨x,g,h⟩:=bind_some h;obtain⟨y,B,h⟩:=bind_some h;refine BP C.un ?_ (d.e X ct Hi τ a x C g) (d.e X ct Hi τ i y C B) h;cases i<;>first|rfl|(exfalso;exact G _ _ _ _ rfl)
 |Call f es J K =>
  simp only[qV,qQ,qL,qU,qI,qR,qT,qO,qN,qJ,qP,qK,qS,qM]at h;cases J with
  |nil =>
   dsimp only at h;cases f with
   |Name x p=>exact d.call X ct Hi τ x es p K r C h|Attribute o m ap =>
    dsimp only at h
    split at h
    ·rename_i D
     exact d.mth X ct Hi τ o m es ap K r C D h
    ·exact aR h
   |_=>exact aR h
  |cons k J=>exact aR h
 |ListComp elt gs scope pos =>
  obtain⟨tg,L,ifs,N',src,rfl,E,h2,P,h4,Y,N,T⟩:=lcE d (Hi:=Hi) C h;intro O W H Q R q;exact we (Ag C.calm Ge E h2 P h4 Y (pG N)) (T O W H Q R q)
 |_=>(try simp only[qV,qQ,qL,qU,qI,qR,qT,qO,qN,qJ,qP,qK,qS,qM]at h);exact aR h
set_option tactic.hygienic false
theorem tstE(f:kB cd n)(C:bz cd X ct)(h:gA cd (nM (n+1) ct e) τ=some b):eX X Hi τ e b:=by
 have plain:∀{e:Expr},gA cd (.val (ay n ct e)) τ=some b->(∀d,isTrue e X.env d=(do let v<-d;standAt e.pos;holding [v] (truthy v)))->eX X Hi τ e b:=by
  intro e h j;simp only[zM,zO,zP,zN]at h;obtain⟨x,g,h⟩:=bind_some h;exact Fk (f.e X ct Hi τ e x C g) h j
 cases e with
 |UnaryOp op a p =>
  simp only[Jb,JY,Ja,JZ]at h;cases op with
  |Not =>
   simp only[zM,zO,zP,zN]at h;obtain⟨t,i,h⟩:=map_some h;subst h;exact G9 (f.c X ct Hi τ a t C i)
  |_=>exact plain h λ_=>rfl
 |BoolOp op vs p =>
  simp only[Jb,JY,Ja,JZ]at h;exact(sg (λe b h=>f.c X ct Hi τ e b C h) h).tc
 |IfExp c a k p =>
  simp[Jb,JY,Ja,JZ,zM,zO,zP,zN,dZ,dL,dg,dP,dc,de,di,dm,dO,dX,df,dh,dQ,dM,dr,dY,dW,dN,dU,dS,dR,dq]at h
 |Compare a ops cs pos =>
  have h:gA cd (.val (ay n ct (.Compare a ops cs pos))) τ=some _:=h;simp only[zM,zO,zP,zN]at h;obtain⟨x,g,h⟩:=bind_some h;obtain⟨t,rfl,i⟩:=f.cm X ct Hi τ a ops cs pos x C g;cases h;exact i
 |_=>(try simp only[Jb,JY,Ja,JZ]at h);exact plain h λ_=>rfl
set_option tactic.hygienic true in
theorem iZ:∀n:Nat,kB cd n
 |0=>by
  refine⟨λX ct Hi τ e r C h=> ?_,λX ct Hi τ a ops cs pos r C h=> ?_,λX ct Hi τ es rs C h=> ?_,λX ct Hi τ e o i C h=> ?_,λX ct Hi τ e b C h=> ?_,λX ct Hi τ x es p pos r C h=> ?_,λX ct Hi τ o m es s l r C f h=> ?_,λX ct Hi τ q e tg xs k b C g h=> ?_⟩
  ·simp[qV,qQ,qL,qU,qI,qR,qT,qO,qN,qJ,qP,qK,qS,qM,dZ,dL,dg,dP,dc,de,di,dm,dO,dX,df,dh,dQ,dM,dr,dY,dW,dN,dU,dS,dR,dq]at h
  ·simp[qV,qQ,qL,qU,qI,qR,qT,qO,qN,qJ,qP,qK,qS,qM,dZ,dL,dg,dP,dc,de,di,dm,dO,dX,df,dh,dQ,dM,dr,dY,dW,dN,dU,dS,dR,dq]at h
  ·simp[z29,z2a,Cg,Ch,dZ,dL,dg,dP,dc,de,di,dm,dO,dX,df,dh,dQ,dM,dr,dY,dW,dN,dU,dS,dR,dq]at h
  ·simp[z2d,z2e,z2f,z0u,z0v,dZ,dL,dg,dP,dc,de,di,dm,dO,dX,df,dh,dQ,dM,dr,dY,dW,dN,dU,dS,dR,dq]at h
  ·simp[Jb,JY,Ja,JZ,zM,zO,zP,zN,dZ,dL,dg,dP,dc,de,di,dm,dO,dX,df,dh,dQ,dM,dr,dY,dW,dN,dU,dS,dR,dq]at h
  ·simp[z1p,z1q,dZ,dL,dg,dP,dc,de,di,dm,dO,dX,df,dh,dQ,dM,dr,dY,dW,dN,dU,dS,dR,dq]at h
  ·simp[z2b,z2c,dZ,dL,dg,dP,dc,de,di,dm,dO,dX,df,dh,dQ,dM,dr,dY,dW,dN,dU,dS,dR,dq]at h
  ·simp[z2v,z2w,Cb,Cd,Ca,Ce,Cc,Ez]at h
 |n+1=>by
  have c:=iZ n;refine⟨λX ct Hi τ e r C h=>expE c C h,λX ct Hi τ a ops cs pos r C h=> ?_,λX ct Hi τ es rs C h=> ?_,λX ct Hi τ e o i C h d=> ?_,λX ct Hi τ e b C h=>tstE c C h,λX ct Hi τ x es p pos r C h=>LI c C h,λX ct Hi τ o m es s l r C f h=>mthE c C f h,λX ct Hi τ q e tg xs k b C g h=>Kv c C g h⟩
  ·obtain⟨t,u,_,v⟩:=LF c (Hi:=Hi) C h
   exact⟨t,u,v⟩
  ·simp only[z29,z2a]at h
   exact wY (λe r h=>c.e X ct Hi τ e r C h) h
  ·cases e with
   |none =>
    simp only[z2d,z2e,z2f,z0u,z0v]at h;cases h;cases d;exact True.intro
   |some e =>
    simp only[z2d,z2e,z2f,z0u,z0v]at h;obtain⟨r,w,h⟩:=map_some h;subst h;simp only[sQ]at d
    split at d
    ·rename_i j y
     cases d;exact⟨r,c.e X ct Hi τ e r C w,y⟩
    ·cases d
end
end IR
namespace L2
open PySem PySem.Spec PyProof.Rows
section
variable{X:Cx}{pins:List (Addr×Obj)}{σ:St}{H:Hp}{s:Shared}
set_option tactic.hygienic false
theorem AT{l:Str}{W:Nat}{g j:Pos}{elt d i:Expr}{ifs:List Expr}{scope:Scope}{pos:Pos}{N' :List Str}{src:List (Option Nat)}{V:TI}(hc:X.calm=true)(hi:PI X d i V)(z:bY X scope N' src)
  (t:scope.kind=.function) (r:∀y∈scope.names,y.2=.cell->scope.names.lookup y.1=some .cell) (k:∀y∈scope.names,y.2=.local->scope.names.lookup y.1=some .local)
  (J:eI X.env.scope scope=true)
  (hs:∀x,foldedSetIterable i X.env x=pure x) (hN:X.N.Nodup) (T:X.N[W]? =some l) (K:Loc X.env.scope l) (hf:X.fn l=true\/X.env.scope.names.lookup l=some .local)
  (O:swapsWith (.ListComp elt [⟨d,i,ifs,0⟩] scope pos) (some (.Name l g)) j.line X.env=pure true) :
  PS X (.Assign [.Name l g] (.ListComp elt [⟨d,i,ifs,0⟩] scope pos) j) (F6 (F2 X N' src scope d ifs elt V) (sX W)):=by
 intro n s σ H D0 I h;rw[exec_Assign_Name_used l g _ j O];refine MQ (wpAny_standAt (MQ ?_));show wpAny (model X.prog X.w) X.A (comprehension (.ListComp elt [⟨d,i,ifs,0⟩] scope pos) scope X.env _ (newList []) false _ (some (assign (.Name l g) X.env)) >>= λ_=>pure ()) _ _ _;refine MQ (al (Q:=λ_ s' =>SP X n D0 .next s') ?_ λ_ s9 h9=>MU (MU h9));refine wk (use:=some (assign (.Name l g) X.env)) hc hi z t r k J hs I h λC a' s2 L Z D U cl m q F f B u hn qn _=> ?_;have u4:Un (vB X.stack) U Z D s2.heap L.heap:=u.base;have IX:Inv X n σ D L:=q.call' (s' :=L) (ch:=U) u.os u4 u.hok u.bare λb E=>⟨(F b E).2.2.2.1,(F b E).2.1,(F b E).2.2.2.2.1,(F b E).2.2.2.2.2⟩;have M:D C=none:=u.free;refine wpAny_assign_Name (nQ IX hN T K (v:=.ref a') rfl (λs5 I5 ⟨a,Y,G⟩=> ?_) hf);have R:C≠a:=by
  rcases G with rfl|G
  ·exact(f _ q.lt).symm
  ·obtain⟨v,P⟩:=q.cell _ _ G
   exact(f _ P.lt).symm
 refine⟨m,?_,λh' S => ?_⟩
 ·obtain⟨ob,es,ep,ho,rr⟩:=hn
  exact⟨ob,es,ep,(Y.2 _ R).trans ho,rr⟩
 ·refine⟨_,D,I5.turned (t' :=s5.toks) (it:=C) (λb o ne e=>(S.2 b ne).trans e) M (f _ q.lt).symm (.inr (M8 q.sz B)) (λx c e=> ?_) (λp hp=> ?_),qn⟩
  ·obtain⟨v,P⟩:=q.cell x c e
   exact f _ P.lt
  ·exact f _ (Mu (q.pin p hp).1)
end
end L2
namespace IR
open PySem PySem.Spec PyProof.Rows L2
section
variable{X:Cx}{Hi:Hp}{τ:En}{cd:Nat->List PV->Option PV}{ct:Ct}
abbrev WS(X:Cx)(c:Stmt)(D:ci)(b:L2.St)(H:Hp):Prop:=∀(a:List (Addr×Obj))(s:Shared),Inv X a b H s->wpAny (model X.prog X.w) X.A (exec c X.env) (SP X a D) X.xe s
abbrev WSs(X:Cx)(c:List Stmt)(D:ci)(b:L2.St)(H:Hp):Prop:=∀(a:List (Addr×Obj))(s:Shared),Inv X a b H s->wpAny (model X.prog X.w) X.A (execs c X.env) (SP X a D) X.xe s
theorem ps_w:PS X c (λD b H=>WS X c D b H):=λa s b H D I h=>h a s I
theorem nW:vk X c (λD b H=>WSs X c D b H):=λa s b H D I h=>h a s I
theorem ws(h:PS X c t)(q:t D b H):WS X c D b H:=λa s I=>h a s b H D I q
theorem wss(h:vk X c t)(q:t D b H):WSs X c D b H:=λa s I=>h a s b H D I q
variable(X Hi)in
def xU(O:List Addr)(H:Hp)(b :En)(P:L2.St->Hp->Prop):Prop:=∀(a :L2.St)(c :Hp)(d :List Addr),av X.K Hi d b a c ->a.length=X.N.length->aE (aZ H O) (aZ c d)->P a c
variable(X Hi)in
def CS(c:Fl)(O:List Addr)(H:Hp)(D:ci):Prop:=match c with
 | .nx a =>xU X Hi O H a D.nx| .bk a =>xU X Hi O H a D.bk| .ct a =>xU X Hi O H a D.ct| .rt v=>∀u b,aE Hi b ->Rp X.K Hi true v b u->D.rt u b
variable(X Hi τ)in
def nK(c:Stmt)(b:Fl):Prop:=∀(O:List Addr)(a:L2.St)(H:Hp)(D:ci),av X.K Hi O τ a H->a.length=X.N.length->CS X Hi b O H D->WS X c D a H
variable(X Hi τ)in
def zB(c:List Stmt)(b:Fl):Prop:=∀(O:List Addr)(a:L2.St)(H:Hp)(D:ci),av X.K Hi O τ a H->a.length=X.N.length->CS X Hi b O H D->WSs X c D a H
theorem xU.from(h:xU X Hi O H a P)(s:aE (aZ H O) (aZ c d)):xU X Hi d c a P:=λb i f R e g=>h b i f R e (s.trans g)
set_option tactic.hygienic false
theorem CS.from(h:CS X Hi b O H D)(s:aE (aZ H O) (aZ c d)):CS X Hi b d c D:=by
 cases b with
 |nx a =>exact xU.from (show xU X Hi O H a D.nx from h) s|bk a =>exact xU.from (show xU X Hi O H a D.bk from h) s|ct a =>exact xU.from (show xU X Hi O H a D.ct from h) s|rt v=>exact h
set_option tactic.hygienic true in
theorem lW(C:bz cd X ct)(h:loc ct x=some i):X.N[i]? =some x/\L2.Loc X.env.scope x/\wS x=false/\Fj ct.S x=true:=by
 unfold loc at h
 split at h
 ·rename_i c
  rw[MY]at c;refine⟨by rw[C.N];exact fg h,?_,by simpa using c.2,?_⟩
  ·unfold L2.Loc
   rw[C.S]
   simpa using c.1
  ·unfold Fj
   have:=c.1;simp only[OO]at this ⊢;exact .inl this
 ·cases h
theorem pZ(R:av X.K Hi O τ b H):∃a,av X.K Hi a (br cap τ) b H/\aE (aZ H O) (aZ H a):=by obtain⟨a,c,h⟩:=R.freezes (cap:=cap);exact⟨a,c,wu h⟩
set_option tactic.hygienic true in
theorem GS(R:av X.K Hi O τ g H)(s:aE H a)(m:i<g.length)(ok:aj X.K Hi O H a r u)(h:o8 o i r τ=some d) :
  ∃t,av X.K Hi t d (g.set i (some u)) a /\aE (aZ H O) (aZ a t):=by
 unfold o8 at h
 split at h
 ·rename_i xs n
  cases h;obtain⟨p,z,rfl,h0,k,l⟩:=ok;have j:aE (aZ (del a p) O) (aZ a (p::O)):=λb o e=>by
   unfold aZ del at e;unfold aZ
   split at e;cases e
   ·rename_i c
    split at e;cases e
    ·rename_i q
     rw[MV (by simp[q,c])];exact e
  refine⟨p::O,R.setO m s h0 k (l.mono j),λb o e=> ?_⟩;unfold aZ at e ⊢
  split at e;cases e
  ·rename_i c
   have f:b≠p:=aF e h0;rw[MV (by simp[f,c])];exact s b o e
 ·rename_i b xs n
  cases h;obtain⟨p,z,o,rfl,h0,k,x,l⟩:=ok;have j:aE (aZ (del a p) O) (aZ a (p::O)):=λb o e=>by
   unfold aZ del at e;unfold aZ
   split at e;cases e
   ·rename_i c
    split at e;cases e
    ·rename_i q
     rw[MV (by simp[q,c])];exact e
  refine⟨p::O,R.setB rfl m s h0 k x (l.mono j),λb o e=> ?_⟩;unfold aZ at e ⊢
  split at e;cases e
  ·rename_i c
   have f:b≠p:=aF e h0;rw[MV (by simp[f,c])];exact s b o e
 ·obtain⟨w,y,h⟩:=map_some h
  obtain⟨v,n⟩:=w;subst h;exact⟨O,(R.ext s).setF m (ok.keep R s y),aS s⟩
theorem HC(h:BM e=false\/env.kindOf x≠some .local):swapsWith e (some (.Name x p)) l env=pure false:=by
 rcases h with h|h
 ·cases e<;>first|rfl|cases h
 ·have a:(env.kindOf x==some NameKind.local)=false:=by simpa using h
  cases e<;>first|rfl|(show(pure (_&&(env.kindOf x==some NameKind.local)&&_&&_):Sem Bool)=pure false;rw[a,Bool.and_false,P4,P4])
theorem Iz(C:bz cd X ct)(f:X.fn=λ_=>true)(S:loc ct x=some i)(l:ah cd (ay n ct e) (br cap τ)=some r)(W:o8 o i r (br cap τ)=some j) :
  nK X Hi τ (.Assign [.Name x A] e pos) (.nx j):=by
 intro O h H D R E q;obtain⟨p,z,h3,h4⟩:=lW C S;obtain⟨m,t,T⟩:=pZ (cap:=cap) R;have B:=(iZ n).e X ct Hi (br cap τ) e r C l;have hi:i<h.length:=by rw[E];exact(Mk.mp p).1
 have y:X.N.Nodup:=by rw[C.N];exact C.nd
 have g:∀u v,aE H v ->aj X.K Hi m H v r u->D.nx (h.set i (some u)) v :=λu v s ok=>by
  obtain⟨V,R2,J⟩:=GS t s hi ok W;exact q _ _ V R2 (by rw[N7];exact E) (T.trans J)
 by_cases w:BM e=false\/X.env.kindOf x≠some .local
 ·refine ws (dv y p z af (HC w) (.inl (by rw[f]))) ?_
  exact B m h H _ t g
 ·rw[Po]at w
  obtain⟨Y,F⟩:=w;have F:X.env.kindOf x=some .local:=Classical.not_not.mp F;cases e with
  |ListComp elt gs scope P =>
   cases n with
   |zero=>simp[qV,qQ,qL,qU,qI,qR,qT,qO,qN,qJ,qP,qK,qS,qM,dZ,dL,dg,dP,dc,de,di,dm,dO,dX,df,dh,dQ,dM,dr,dY,dW,dN,dU,dS,dR,dq]at l|succ n =>
    obtain⟨tg,k,ifs,N',src,rfl,Z,L,M,Q,U,I,g7⟩:=lcE (iZ n) (Hi:=Hi) C l;obtain⟨b,G⟩:∃b,swapsWith (.ListComp elt [⟨tg,k,ifs,0⟩] scope P) (some (.Name x A)) pos.line X.env=pure b:=⟨_,rfl⟩;cases b with
    |true=>exact ws (AT C.calm Ge Z L M Q U (pG I) y p z (.inl (by rw[f])) G) (g7 m h H _ t g)|false=>exact ws (dv y p z af G (.inl (by rw[f]))) (B m h H _ t g)
  |SetComp a b c d=>exact aR (by cases n<;>exact l)|DictComp a b c d e=>exact aR (by cases n<;>exact l)|_=>exact absurd rfl Y
theorem GQ(C:bz cd X ct)(f:ah cd (ay n ct e) (br cap τ)=some r)(b:r.keep=some (v,true)):nK X Hi τ (.Return (some e) pos) (.rt v):=by intro O d H D R i q;obtain⟨c,a,h⟩:=pZ (cap:=cap) R;refine ws (jK af) ?_;exact(iZ n).e X ct Hi _ e r C f c d H _ a λu g s ok=>q u g (R.same.trans s) ((ok.keep a s b).mono aT)
theorem DE:nK X Hi τ (.Return none pos) (.rt .non):=by intro O b H D R a q;exact ws DI (q _ _ R.same (Rp.non.mpr rfl))
theorem Hg(j:eX X Hi τ c t)(h:zB X Hi τ (if t=true then a else b) d):nK X Hi τ (.If c a b pos) d:=by
 intro O f H D R g q;refine ws (rN lA nW nW) ?_;refine j O f H _ R λi e=> ?_;cases t with
 |true=>exact mw ((show zB X Hi τ a d from h) O f i _ (R.ext e) g (q.from (aS e)))|false=>exact pK ((show zB X Hi τ b d from h) O f i _ (R.ext e) g (q.from (aS e)))
theorem wd(C:bz cd X ct)(j:X.fn=λ_=>true):∀{es:List Expr}{g:List Nat},locs ct es=some g->∃t,Lu X es t/\(assignEach es X.env).length=g.length/\(assignEach es X.env).findIdx? (·.1)=none /\ ∀(O:List Addr)(τ c :En)(d:L2.St)(H:Hp)(n:Bool)(xs:List PV)(o:List V)(Q:L2.St->Hp->Prop),av X.K Hi O τ d H->d.length=X.N.length->aI X.K Hi n xs (aZ H O) o->du n g xs τ=some c -> (∀f,av X.K Hi O c f H->f.length=X.N.length->Q f H)->t o d H Q
 |[],g,h=>by
  cases h;refine⟨_,hJ,rfl,rfl,λO τ c d H n xs o Q R m r e q=> ?_⟩;cases xs with
  |nil =>
   obtain rfl:=r;cases e;exact⟨rfl,q d R m⟩
  |cons x xs=>cases e
 | .Name x p::es,g,h=>by
  have h:(loc ct x).bind (λi=>(locs ct es).map (i::·))=some g:=h;obtain⟨i,D,h⟩:=bind_some h;obtain⟨I,w,h⟩:=map_some h;subst h;obtain⟨v,B,F,G⟩:=lW C D;obtain⟨t,z,l,A,k⟩:=wd C j w;refine⟨_,cC (aw (by rw[C.N];exact C.nd) v B (.inl (by rw[j]))) z rfl,?_,?_,λO τ c d H n xs o Q R m r e q=> ?_⟩
  ·show(assignEach es X.env).length+1=_
   rw[l];rfl
  ·show List.findIdx? (·.1) ((false,assign (.Name x p) X.env)::assignEach es X.env)=none
   rw[List.findIdx?_cons,A];rfl
  ·cases xs with
   |nil=>cases e|cons y E =>
    obtain⟨u,vs,rfl,a,b⟩:=r;have s :i<d.length:=by rw[m];exact(Mk.mp v).1
    exact⟨u,vs,rfl,k O _ c _ H n E vs Q (R.setF s a.up) (by rw[N7];exact m) b e q⟩
 | .BoolOp .. ::_,_,h=>by cases h| .NamedExpr .. ::_,_,h=>by cases h| .BinOp .. ::_,_,h=>by cases h| .UnaryOp .. ::_,_,h=>by cases h| .Lambda .. ::_,_,h=>by cases h| .IfExp .. ::_,_,h=>by cases h| .Dict .. ::_,_,h=>by cases h| .Set .. ::_,_,h=>by cases h| .ListComp .. ::_,_,h=>by cases h| .SetComp .. ::_,_,h=>by cases h| .DictComp .. ::_,_,h=>by cases h| .GeneratorExp .. ::_,_,h=>by cases h| .Await .. ::_,_,h=>by cases h| .Yield .. ::_,_,h=>by cases h| .YieldFrom .. ::_,_,h=>by cases h| .Compare .. ::_,_,h=>by cases h| .Call .. ::_,_,h=>by cases h| .FormattedValue .. ::_,_,h=>by cases h| .JoinedStr .. ::_,_,h=>by cases h| .Constant .. ::_,_,h=>by cases h| .Attribute .. ::_,_,h=>by cases h| .Subscript .. ::_,_,h=>by cases h| .Starred .. ::_,_,h=>by cases h| .List .. ::_,_,h=>by cases h| .Tuple .. ::_,_,h=>by cases h| .Slice .. ::_,_,h=>by cases h
theorem Js(C:bz cd X ct)(m:X.fn=λ_=>true)(h:zg ct tg=some (c,d)):(d=false->∃D k p,tg=.Tuple D k p)/\∃g,PG X tg g /\ ∀(O:List Addr)(τ b :En)(f:L2.St)(H:Hp)(n:Bool)(x:PV)(u:V)(Q:L2.St->Hp->Prop),av X.K Hi O τ f H->f.length=X.N.length->Rp X.K Hi n x (aZ H O) u->ou c d n x τ=some b -> (∀j,av X.K Hi O b j H->j.length=X.N.length->Q j H)->g u f H Q:=by
 cases tg with
 |Name x p =>
  obtain⟨i,M,h⟩:=map_some (show(loc ct x).map (λi=>([i],true))=some (c,d)from h);cases h;obtain⟨w,L,P,S⟩:=lW C M;refine⟨λz=>(by cases z),_,aw (by rw[C.N];exact C.nd) w L (.inl (by rw[m])),λO τ b f H n x u Q R s r e q=> ?_⟩;have e:some (τ.set i (.frz x (n||imm x)))=some b :=e;cases e;have v :i<f.length:=by rw[s];exact(Mk.mp w).1
  exact q _ (R.setF v r.up) (by rw[N7];exact s)
 |Tuple es k p =>
  obtain⟨T,B,h⟩:=map_some (show(locs ct es).map (λc=>(c,false))=some (c,d)from h);cases h;obtain⟨t,G,o,I,J⟩:=wd (Hi:=Hi) C m B;refine⟨λ_=>⟨_,_,_,rfl⟩,_,lH C.calm G o I,λO τ b f H n x u Q R s r e q=> ?_⟩;cases x with
  |tup xs =>
   obtain⟨a,A,rfl,l,y⟩:=Rp.tup.mp r;have e:du n c xs τ=some b :=e;have F:∀{c:List Nat}{xs:List PV}{τ b :En},du n c xs τ=some b ->xs.length=c.length:=by
    intro c
    induction c with
    |nil=>intro xs τ b e;cases xs with
     |nil=>rfl|cons _ _=>cases e
    |cons i c E=>intro xs τ b e;cases xs with
     |nil=>cases e|cons x xs=>rw[Ma,Ma,E (show du n c xs _=some b from e)]
   exact⟨a,A,rfl,(aT (O:=O)).tup l,by rw[<- y.len];exact F e,J O τ b f H n xs A Q R s y e q⟩
  |_=>cases e
 |_=>cases h
theorem Hw(C:bz cd X ct)(hfn:X.fn=λ_=>true){tg it:Expr}{is:List Nat}{one:Bool}{cap:List Nat}{n:Nat}{body:List Stmt}{pos:Pos}{xs:List PV}{k:Bool}{bd:En->Option Fl}{fl:Fl}(ht:zg ct tg=some (is,one))
  (hi:qF cd (zh n ct (!one) it) (br cap τ)=some (xs,k,false)) (hb:∀τ fl,bd τ=some fl->zB X Hi τ body fl) (h:lm (ou is one k) bd xs (br cap τ)=some fl):nK X Hi τ (.For tg it body [] pos) fl:=by
 intro O σ H D R hl q;obtain⟨O1,R1,s1⟩:=pZ (cap:=cap) R;obtain⟨htp,g,pg,kg⟩:=Js (Hi:=Hi) C hfn ht;obtain⟨gU,hset⟩:=(iZ n).t X ct Hi (br cap τ) (!one) it tg xs k false C (λz=>htp (by simpa using z)) hi;refine ws (dw C.xe C.calm Ge pg nW (pG hset)) ?_;refine gU O1 σ H _ R1 λJ H1 sJ En=> ?_;rw[MV Mc]at En;have s2:aE (aZ H O) (aZ H1 O1):=s1.trans (aS sJ);refine⟨λi m σ' G=>m=xs.length-i/\i<=xs.length/\∃(P:List Addr)(υ:IR.En),av X.K Hi P υ σ' G/\σ'.length=X.N.length/\aE (aZ H1 O1) (aZ G P)/\lm (ou is one k) bd (xs.drop i) υ=some fl,⟨xs.length,by simp,NH _,O1,_,R1.ext sJ,hl,aE.refl _,h⟩,?_⟩;rintro i m σ' G ⟨rfl,hi',P,υ,RP,hlP,sP,hrun⟩;have bq:FZ (aZ H1 O1) G P:=⟨RP.lsts,sP⟩
 by_cases hlt:i<xs.length
 ·refine .inr ⟨En.go G P i bq hlt,λσ2 G2=>∃m',m' <xs.length-i/\(m' =xs.length-(i+1)/\i+1<=xs.length/\∃(P:List Addr)(υ:IR.En),av X.K Hi P υ σ2 G2/\σ2.length=X.N.length/\aE (aZ H1 O1) (aZ G2 P)/\lm (ou is one k) bd (xs.drop (i+1)) υ=some fl),λσ2 G2 h=>h,λu G' y=> ?_⟩
  obtain⟨sG,x,hx,rx⟩:=En.yld G P i u G' bq hlt y;have hd:xs.drop i=x::xs.drop (i+1):=by
   rw[OB hlt];rw[Mf hlt]at hx;rw[Mv hx]
  rw[hd]at hrun;unfold lm at hrun;obtain⟨υ1,h1,hrun⟩:=bind_some hrun;obtain⟨f,hf,hrun⟩:=bind_some hrun;refine kg P υ υ1 σ' G' k x u _ (RP.ext sG) hlP rx h1 λσ1 R2 hl1=> ?_;have s3:aE (aZ H1 O1) (aZ G' P):=sP.trans (aS sG);refine hb υ1 f hf P σ1 G' _ R2 hl1 ?_;cases f with
  |nx υ2=>exact λσ3 G3 P3 R3 hl3 s4=>⟨_,by omega,rfl,hlt,P3,υ2,R3,hl3,s3.trans s4,hrun⟩|ct υ2=>exact λσ3 G3 P3 R3 hl3 s4=>⟨_,by omega,rfl,hlt,P3,υ2,R3,hl3,s3.trans s4,hrun⟩|bk υ2 =>
   have hrun:some (Fl.nx υ2)=some fl:=hrun;cases hrun;exact λσ3 G3 P3 R3 hl3 s4=>q σ3 G3 P3 R3 hl3 (s2.trans (s3.trans s4))
  |rt v =>
   have hrun:some (Fl.rt v)=some fl:=hrun;cases hrun;exact q
 ·have e:i=xs.length:=by omega
  subst e;rw[Pd]at hrun;have hrun:some (Fl.nx υ)=some fl:=hrun;cases hrun;exact .inl ⟨En.stop G P bq,q σ' G P RP hlP (s2.trans sP)⟩
theorem zR(C:bz cd X ct)(J:∀τ b,t τ=some b->eX X Hi τ c b)(M:∀τ i,u τ=some i->zB X Hi τ body i)(h:FB t u E τ=some i) :
  nK X Hi τ (.While c body [] pos) i:=by
 intro O S H D R L q;refine ws (rL C.xe lA nW) ?_;refine⟨λm d G=>∃(P:List Addr)(j:IR.En),av X.K Hi P j d G/\d.length=X.N.length/\aE (aZ H O) (aZ G P)/\FB t u m j=some i,⟨E,O,τ,R,L,aE.refl _,h⟩,?_⟩;rintro m d G ⟨P,j,B,n,F,a⟩;cases m with
 |zero=>cases a|succ m =>
  unfold FB at a;obtain⟨b,z,a⟩:=bind_some a;refine J j b z P d G _ B λw s=> ?_;cases b with
  |false =>
   rw[MV Mc]at a ⊢;cases a;exact q d w P (B.ext s) n (F.trans (aS s))
  |true =>
   rw[MX rfl]at a ⊢;obtain⟨f,Q,a⟩:=bind_some a;refine⟨λl y=>∃I,I <m+1/\∃(P:List Addr)(j:IR.En),av X.K Hi P j l y/\l.length=X.N.length/\aE (aZ H O) (aZ y P)/\FB t u I j=some i,λl y h=>h,?_⟩;have x:aE (aZ H O) (aZ w P):=F.trans (aS s);refine M j f Q P d w _ (B.ext s) n ?_;cases f with
   |nx e=>exact λk A p o g r=>⟨m,by omega,p,e,o,g,x.trans r,a⟩|ct e=>exact λk A p o g r=>⟨m,by omega,p,e,o,g,x.trans r,a⟩|bk e =>
    have a:some (Fl.nx e)=some i:=a;cases a;exact λk A p o g r=>q k A p o g (x.trans r)
   |rt v =>
    have a:some (Fl.rt v)=some i:=a;cases a;exact q
set_option tactic.hygienic true in
theorem Co(R:av X.K Hi O τ a H)(s:a.length=X.N.length)(e:τ[i]? =some (.own xs n))(g:a[i]? =some (some (.ref l)))(r:aI X.K Hi m j (aZ H O) h)
  (q:xU X Hi O H (τ.set i (.own j m)) P):P a (L2.upd H l (.lst h)):=by
 have t:=R.upd e g r;refine q a _ O t s λb o z=> ?_;obtain⟨u,vs,f,k,_⟩:=R.owns i xs n e;rw[g]at f;cases f;unfold aZ at z ⊢
 split at z;cases z
 ·rename_i d
  have p:b≠l:=λc=>d (c▸k);rw[MV d,aB p];exact z
theorem JB(C:bz cd X ct){n:Nat}{x m:Str}{i:Nat}{cap:List Nat}{a:Expr}{U w h pos:Pos}{r:RV}{v:PV}{k j:Bool}{xs:List PV}(E:loc ct x=some i)(B:m="append")(b:(w.endLine==h.line)=true)(f:isStar a=false)
  (T:ah cd (ay n ct a) (br cap τ)=some r) (A:r.keep=some (v,k)) (t:(br cap τ)[i]? =some (.own xs j)) (L:xs.length<LN) :
  nK X Hi τ (.Expr (.Call (.Attribute (.Name x U) m w) [a] [] h) pos) (.nx ((br cap τ).set i (.own (xs++[v]) (j&&k)))):=by
 intro O K H D R J q;subst B;obtain⟨M,W,z,P⟩:=lW C E;obtain⟨I,d,G⟩:=pZ (cap:=cap) R;obtain⟨Q,o2,Y⟩:=dB z;refine ws (o9 (Kf PySem.F.plainAttrs_list PySem.F.slot_list_append PySem.F.type_list_append nj (ub M (zT C.S P) Q o2) (aL af ag (ae f)) rfl (by rw[ae f];rfl) b (ae f) rfl) rfl) ?_;obtain⟨l,y,p,V,g,o⟩:=d.owns i xs j t;refine⟨_,p,.inl ⟨rfl,y,bR.of g⟩,?_⟩;refine(iZ n).e X ct Hi _ a r C T I K H _ d λu Z s ok=> ?_;have N:=ok.keep d s A;have c:=o.len;refine⟨l,y,u,rfl,rfl,s _ _ g,by rw[fE,<-c];exact L,?_⟩;exact Co (d.ext s) J t p (HJ (o.mono (aS s)) (.cons N .nil)) (xU.from q (G.trans (aS s)))
theorem aI.dropLast(h:aI X.K Hi n xs H a):aI X.K Hi n xs.dropLast H a.dropLast:=by rw[List.dropLast_eq_take,List.dropLast_eq_take,<-h.len];exact h.take _
theorem CL(C:bz cd X ct)(a:X.fn=λ_=>true)(j:loc ct x=some i)(b:PIp X op (ipI g))(t:ah cd (ay n ct e) τ=some r)(l:τ[i]? =some (.frz (.int v) k))(m:r.val=.int w) :
  nK X Hi τ (.AugAssign (.Name x A) op e pos) (.nx (τ.set i (.frz (.int (g v w)) true))):=by
 intro O d H D R c q;obtain⟨f,y,B,F⟩:=lW C j;have z:i<d.length:=by rw[c];exact(Mk.mp f).1
 have o:X.N.Nodup:=by rw[C.N];exact C.nd
 obtain⟨u,h,p⟩:=R.frz i _ _ l;cases Rp.int.mp p;refine ws (GX o f y af b (.inl (by rw[a]))) ⟨_,h,?_⟩;refine(iZ n).e X ct Hi _ e r C t O d H _ R λE G s ok=>⟨v,w,rfl,ok.int R s m,?_⟩;exact q _ _ O ((R.ext s).setF z (Rp.int.mpr rfl)) (by rw[N7];exact c) (aS s)
end
section
variable{cd:Nat->List PV->Option PV}{fu:Nat}
structure MP(cd:Nat->List PV->Option PV)(fu:Nat)(n:Nat):Prop where
 s:∀(X:Cx)(ct:Ct)(Hi:Hp)(τ:En)(st:Stmt)(fl:Fl),bz cd X ct->(X.fn=λ_=>true)->jB cd fu (tX n ct st) τ=some fl->nK X Hi τ st fl
 ss:∀(X:Cx)(ct:Ct)(Hi:Hp)(τ:En)(st:List Stmt)(fl:Fl),bz cd X ct->(X.fn=λ_=>true)->bx cd fu (bF n ct st) τ=some fl->zB X Hi τ st fl
theorem bG(h:jB cd fu .never τ=some r){P:Prop}:P:=by simp[i9,ij,ii,iu,iz,ig,io,i7,i6,jA,i5,i8,iw,ik,ir]at h
theorem stE(z:MP cd fu n)(C:bz cd X ct)(d:X.fn=λ_=>true)(h:jB cd fu (tX (n+1) ct G) τ=some g):nK X Hi τ G g:=by
 cases G with
 |Return v pos =>
  simp only[xj,xW,xi,xZ,xa,xV,xY,xg,xf,xc,xX,xh]at h;cases v with
  |none =>
   simp only[i9,ij,ii,iu,iz,ig,io,i7,i6,jA,i5,i8,iw,ik,ir]at h;cases h;exact DE
  |some e =>
   simp only[i9,ij,ii,iu,iz,ig,io,i7,i6,jA,i5,i8,iw,ik,ir]at h;obtain⟨r,l,h⟩:=bind_some h;obtain⟨w,A,h⟩:=bind_some h;obtain⟨v,m⟩:=w;dsimp only at h
   split at h
   ·rename_i B
    cases h;subst B;exact GQ C l A
   ·cases h
 |Assign T e pos =>
  simp only[xj,xW,xi,xZ,xa,xV,xY,xg,xf,xc,xX,xh]at h
  split at h
  ·rename_i x I
   cases f:loc ct x with
   |none=>rw[f]at h;exact bG h|some i =>
    rw[f]at h;dsimp only at h;simp only[i9,ij,ii,iu,iz,ig,io,i7,i6,jA,i5,i8,iw,ik,ir]at h;obtain⟨r,l,h⟩:=bind_some h;obtain⟨M,E,h⟩:=map_some h;subst h;exact Iz C d f l E
  ·exact bG h
 |If c a b pos =>
  simp only[xj,xW,xi,xZ,xa,xV,xY,xg,xf,xc,xX,xh,i9,ij,ii,iu,iz,ig,io,i7,i6,jA,i5,i8,iw,ik,ir]at h;obtain⟨t,y,h⟩:=bind_some h;refine Hg ((iZ n).c X ct Hi τ c t C y) ?_;cases t with
  |true=>exact z.ss X ct Hi τ a g C d h|false=>exact z.ss X ct Hi τ b g C d h
 |For tg it body o pos =>
  simp only[xj,xW,xi,xZ,xa,xV,xY,xg,xf,xc,xX,xh]at h;cases o with
  |cons _ _=>exact bG h|nil =>
   dsimp only at h;cases y:zg ct tg with
   |none=>rw[y]at h;exact bG h|some w =>
    obtain⟨S,J⟩:=w;rw[y]at h;simp only[i9,ij,ii,iu,iz,ig,io,i7,i6,jA,i5,i8,iw,ik,ir]at h;obtain⟨w,F,h⟩:=bind_some h;obtain⟨xs,k,b⟩:=w;dsimp only at h;cases b with
    |true=>cases h|false=>exact Hw C d y F (λτ g h=>z.ss X ct Hi τ body g C d h) h
 |While c body o pos =>
  simp only[xj,xW,xi,xZ,xa,xV,xY,xg,xf,xc,xX,xh]at h;cases o with
  |cons _ _=>exact bG h|nil =>
   simp only[i9,ij,ii,iu,iz,ig,io,i7,i6,jA,i5,i8,iw,ik,ir]at h;exact zR C (λτ b h=>(iZ n).c X ct Hi τ c b C h) (λτ g h=>z.ss X ct Hi τ body g C d h) h
 |Pass pos =>
  simp only[xj,xW,xi,xZ,xa,xV,xY,xg,xf,xc,xX,xh,i9,ij,ii,iu,iz,ig,io,i7,i6,jA,i5,i8,iw,ik,ir]at h;cases h;exact λO u H D R s q=>ws DJ (q u H O R s (aE.refl _))
 |Break pos =>
  simp only[xj,xW,xi,xZ,xa,xV,xY,xg,xf,xc,xX,xh,i9,ij,ii,iu,iz,ig,io,i7,i6,jA,i5,i8,iw,ik,ir]at h;cases h;exact λO u H D R s q=>ws AU (q u H O R s (aE.refl _))
 |Continue pos =>
  simp only[xj,xW,xi,xZ,xa,xV,xY,xg,xf,xc,xX,xh,i9,ij,ii,iu,iz,ig,io,i7,i6,jA,i5,i8,iw,ik,ir]at h;cases h;exact λO u H D R s q=>ws rO (q u H O R s (aE.refl _))
 |Expr e pos =>
  simp only[xj,xW,xi,xZ,xa,xV,xY,xg,xf,xc,xX,xh]at h
  split at h
  ·rename_i x I m U es Q
   split at h
   ·rename_i p
    cases f:loc ct x with
    |none=>rw[f]at h;exact bG h|some i =>
     rw[f]at h;dsimp only at h
     split at h
     ·rename_i a
      split at h;exact bG h
      ·rename_i L
       split at h
       ·rename_i B
        simp only[i9,ij,ii,iu,iz,ig,io,i7,i6,jA,i5,i8,iw,ik,ir]at h;obtain⟨r,l,h⟩:=bind_some h;obtain⟨w,A,h⟩:=bind_some h;obtain⟨v,k⟩:=w
        split at h
        ·rename_i xs j N
         split at h
         ·rename_i P
          cases h;exact JB C f (M0 B) p (Oj.mpr L) l A N P
         ·cases h
        ·cases h
       ·exact bG h
     ·exact bG h
   ·exact bG h
  ·exact bG h
 |AugAssign t op e pos =>
  simp only[xj,xW,xi,xZ,xa,xV,xY,xg,xf,xc,xX,xh]at h
  split at h
  ·rename_i x I
   cases f:loc ct x with
   |none=>rw[f]at h;exact bG h|some i =>
    rw[f]at h;simp only[i9,ij,ii,iu,iz,ig,io,i7,i6,jA,i5,i8,iw,ik,ir]at h;obtain⟨r,l,h⟩:=bind_some h
    split at h
    ·rename_i K F
     cases h;exact CL C d f Hd l (by assumption) (by assumption)
    ·rename_i K F
     cases h;exact CL C d f Hc l (by assumption) (by assumption)
    ·cases h
  ·exact bG h
 |Raise e c pos =>
  simp only[xj,xW,xi,xZ,xa,xV,xY,xg,xf,xc,xX,xh]at h
  split at h
  ·split at h
   ·simp[i9,ij,ii,iu,iz,ig,io,i7,i6,jA,i5,i8,iw,ik,ir]at h
   ·exact bG h
  ·exact bG h
 |_=>(try simp only[xj,xW,xi,xZ,xa,xV,xY,xg,xf,xc,xX,xh]at h);exact bG h
set_option tactic.hygienic false
theorem Lj:∀n:Nat,MP cd fu n
 |0=>by
  refine⟨λX ct Hi τ d c C a h=> ?_,λX ct Hi τ d c C a h=> ?_⟩
  ·simp[xj,xW,xi,xZ,xa,xV,xY,xg,xf,xc,xX,xh,i9,ij,ii,iu,iz,ig,io,i7,i6,jA,i5,i8,iw,ik,ir]at h
  ·simp[z2g,z2i,z2h,zH,zI,i9,ij,ii,iu,iz,ig,io,i7,i6,jA,i5,i8,iw,ik,ir]at h
 |n+1=>by
  have i:=Lj n;refine⟨λX ct Hi τ d c C a h=>stE i C a h,λX ct Hi τ d c C a h=> ?_⟩;cases d with
  |nil =>
   simp only[z2g,z2i,z2h,zH,zI]at h;cases h;exact λO k H D R j q=>wss g0 (q k H O R j (aE.refl _))
  |cons d o =>
   simp only[z2g,z2i,z2h]at h;simp only[zH,zI]at h;obtain⟨f,t,h⟩:=bind_some h;have r:=i.s X ct Hi τ d f C a t;intro O k H D R j q;refine wss (am ps_w nW) ?_;refine r O k H _ R j ?_;cases f with
   |nx b=>exact λe p m u g l=>i.ss X ct Hi b o c C a h m e p D u g (q.from l)|bk b =>
    have h:some (Fl.bk b)=some c:=h;cases h;exact q
   |ct b =>
    have h:some (Fl.ct b)=some c:=h;cases h;exact q
   |rt v =>
    have h:some (Fl.rt v)=some c:=h;cases h;exact q
end
structure vo(K:W.Frag)(mg:Str->Option Value)(P:Nat->Option FD)(F:List (Str×Nat))(G:List (Str×PV))(B:List Str)(x:Str)(f:Nat)(a:Addr)(fd:FuncData)(ps:List Str):Prop where
 ex:(mg x=some (.ref a)/\W.keepIn K (.ref a)=true/\Binds K fd ps []/\∀(p:Program)(w:World)(base:Heap)(k:Nat),(∀j,j<=k->∀y g,F.lookup y=some g->∃b gd qs,mg y=some (.ref b)/\W.keepIn K (.ref b)=true/\Binds K gd qs []/\bt p w K mg base kJ j b gd qs (yA K (aG P j g)))->bt p w K mg base kJ (k+1) a fd ps (yA K (aG P (k+1) f)))\/∃st N M n body,Fc K mg x st ps a fd/\aP N ps (aA st)/\P f=some ⟨N.length,ps.length,body⟩/\bF n ⟨N,(aA st).names,F,G,B,M⟩ (aD st)=body
set_option tactic.hygienic false
theorem vo.def{K:W.Frag}(d:vo K b P F G B x f a c e):b x=some (.ref a)/\W.keepIn K (.ref a)=true/\Binds K c e []:=by
 rcases d.ex with⟨h,i,g,_⟩|⟨j,N,M,n,body,D,_⟩
 ·exact⟨h,i,g⟩
 ·exact⟨D.nm,D.fn.kp,D.bd⟩
theorem yf{K:W.Frag}(C:d.nn=N.length)(r:aI K H false a H vs):av K H [] (entry d a) (start N vs) H:=by
 have o:=r.len;have g:∀(i:Nat)(t:TV),(entry d a)[i]? =some t->t=.un\/∃v u,t=.frz v (imm v)/\(start N vs)[i]? =some (some u)/\Rp K H false v H u:=λi t e=>by
  unfold entry at e
  by_cases q:i<a.length
  ·rw[Oe (by simpa using q),Mi]at e
   have m:a[i]? =some a[i]:=by simp
   rw[m]at e;cases e;obtain⟨u,s,B⟩:=r.at m;refine .inr ⟨_,u,rfl,?_,B⟩;unfold L2.start;rw[Oe (by rw[MR];omega),Mi,s];rfl
  ·rw[O0 (by simpa using q),List.getElem?_replicate]at e
   split at e
   ·cases e
    exact .inl rfl
   ·cases e
 refine⟨aE.refl _,λl o=>(by cases o),λi v n e=> ?_,λi t b xs n e k=> ?_,λi j t t' x y l w k D A f c=> ?_⟩
 ·rcases g i _ e with z|⟨p,u,z,f,c⟩
  ·cases z
  ·cases z
   refine⟨u,f,?_⟩;rw[Dy];cases h:imm v with
   |true=>exact Rp.imm h ⟨λ_ _ e=>e,λ_ _ _ e=>e⟩ c|false=>exact c
 ·rcases g i _ e with z|⟨p,u,z,f,c⟩<;>(subst z;cases k)
 ·rcases g i _ w with z|⟨p,u,z,f,c⟩<;>(subst z;cases k)
set_option tactic.hygienic true in
theorem Hx{p:Program}{w:World}{K:W.Frag}{t:Str->Option Value}{base:Heap}{P:Nat->Option FD}{F:List (Str×Nat)}{G:List (Str×PV)}{B:List Str}
  (hG:∀x v,G.lookup x=some v->∃u w,t x=some u/\RelV w u/\∀Hi n H,Rp K Hi n v H w) (hB:∀x,B.contains x=true->t x=none) (hF:∀x f,F.lookup x=some f->∃a o i,vo K t P F G B x f a o i) :
  ∀(k:Nat)(x:Str)(f:Nat)(a:Addr)(o:FuncData)(i:List Str),vo K t P F G B x f a o i->bt p w K t base kJ k a o i (yA K (aG P k f)):=by
 have S:∀k j:Nat,j<=k->∀(x:Str)(f:Nat)(a:Addr)(o:FuncData)(i:List Str),vo K t P F G B x f a o i->bt p w K t base kJ j a o i (yA K (aG P j f)):=by
  intro k
  induction k with
  |zero =>
   intro j U;have e:=Nat.le_zero.mp U;subst e;intro x f a o i _;exact⟨λvs H Q E h=>(by obtain⟨_,_,_,z,_⟩:=h;cases z),λA l s H args us vs Q E _ _ _ _ h=>(by obtain⟨_,_,_,z,_⟩:=h;cases z)⟩
  |succ k ih =>
  intro j U
  by_cases a0:j<=k;exact ih j a0
  have e:j=k+1:=by omega
  subst e;intro x f a o i d
  rcases d.ex with⟨_,_,_,L⟩|⟨st,N,M,n,body,D,S,hP,I⟩
  ·exact L p w base k λj U y g hy=>by
    obtain⟨b,gd,qs,dy⟩:=hF y g hy;obtain⟨Y,z2,z3⟩:=dy.def;exact⟨b,gd,qs,Y,z2,z3,ih j U y g b gd qs dy⟩
  have T:∀{c:List PV}{r:PV},aG P (k+1) f c=some r->c.length=i.length/\dz (bx (aG P k) 1000000 body (entry ⟨N.length,i.length,body⟩ c))=some r:=fun{c r} h=>by
   unfold aG at h;rw[hP]at h;dsimp only[Option.bind]at h
   split at h
   ·rename_i hl
    exact⟨hl,h⟩
   ·cases h
  refine D.fn.ok S (λvs H Q E h=> ?_) (λZ A l s H vs Q E hr h=> ?_)
  ·obtain⟨c,r,X,m,_⟩:=h
   rw[<- X.len];exact(T m).1
  ·obtain⟨c,r,X,m,q⟩:=h
   obtain⟨hl,m⟩:=T m;have a1:i.length<=N.length:=by have:=ND List.length S.pre;rw[Nz]at this;omega
   cases V:bx (aG P k) 1000000 body (entry ⟨N.length,i.length,body⟩ c)with
   |none=>rw[V]at m;cases m|some fl =>
    rw[V]at m
    have C:bz (aG P k) (sw kJ p w K t base N x (aA st) a Z A l s H E).nox ⟨N,(aA st).names,F,G,B,M⟩ :=
     ⟨rfl,S.nd,rfl,S.kind,rfl,hG,hB,λy g hy=>by
      obtain⟨a',R,O,d'⟩:=hF y g hy;obtain⟨Y,z2,z3⟩:=d'.def;exact⟨k,a',R,O,ih k (Md k) y g a' R O d',hr,Y,z2,z3⟩,Nk,hr.units⟩
    rw[<- I]at V;have h3:=(Lj n).ss _ _ H _ (aD st) fl C rfl V;refine⟨_,nW,h3 [] (start N vs) H _ (yf rfl X) ?_ ?_⟩
    ·show(start N vs).length=N.length
     unfold L2.start;rw[Ml,MR,List.length_replicate];have:=X.len;omega
    ·cases fl with
     |nx J =>
      cases m;exact λa2 H' O' R' _ _=>q _ _ R'.same (Rp.non.mpr rfl)
     |rt v =>
      cases m;exact q
     |bk J =>cases m|ct J =>cases m
 exact λk=>S k k (Md k)
theorem HR{p:Program}{w:World}{K:W.Frag}{d:Str->Option Value}{base:Heap}{P:Nat->Option FD}{k f:Nat}{a:Addr}{e:FuncData}{g:List Str}(F:bt p w K d base kJ k a e g (yA K (aG P k f)))
  (h:∀b:List Int,b.length<=63->aG P k f [.lst (b.map PV.int)]=some (.bl true)):bt p w K d base kJ k a e g (v8 K) :=
 F.imp λvs H Q E z=>by
  obtain⟨l,b,rfl,i,c,q⟩:=z;refine⟨[.lst (b.map PV.int)],.bl true,.cons (Rp.lst.mpr ⟨l,_,rfl,(λz=>by cases z),i,aI.ints.mpr rfl⟩) .nil,h b c,λu j s r=> ?_⟩;rw[Rp.bl.mp r];exact q j
theorem xk{P:Nat->Option FD}{f n m:Nat}(h:P f=some ⟨n,m,.cons .never .nil⟩):∀(k:Nat)(vs:List PV),aG P k f vs=none
 |0,_=>rfl|k+1,vs=>by
  unfold aG;rw[h,Ng]
  split;simp[zH,zI,i9,ij,ii,iu,iz,ig,io,i7,i6,jA,i5,i8,iw,ik,ir,dz];rfl
theorem Ck{K:W.Frag}{c:Str->Option Value}{P:Nat->Option FD}{f:Nat}{a:Addr}{d:FuncData}{e:List Str}{A:Program->World->Heap->Nat->Prop}(h:∀(k:Nat) (vs:List PV),aG P k f vs=none)(p:Program)(w:World)(base:Heap)(k:Nat)(_:A p w base k):bt p w K c base kJ (k+1) a d e (yA K (aG P (k+1) f)) := ⟨λvs H Q E z=>(by obtain⟨_,_,_,z,_⟩:=z;rw[h]at z;cases z),λA b s H args g vs Q E _ _ _ _ z=>(by obtain⟨_,_,_,z,_⟩:=z;rw[h]at z;cases z)⟩
section
variable{K:W.Frag}{mg:Str->Option Value}{P:Nat->Option FD}{F0:List (Str×Nat)}{G0:List (Str×PV)}{B0:List Str}
theorem fnil:∀(x:Str)(f:Nat),([]:List (Str×Nat)).lookup x=some f->∃a b c,vo K mg P F0 G0 B0 x f a b c:=λx f h=>by cases h
set_option tactic.hygienic true in
theorem bA(h:∃a b d,vo K mg P F0 G0 B0 i g a b d)(j:∀(x:Str) (f:Nat),r.lookup x=some f->∃a b d,vo K mg P F0 G0 B0 x f a b d) :
  ∀(x:Str)(f:Nat),((i,g)::r).lookup x=some f->∃a b d,vo K mg P F0 G0 B0 x f a b d:=λx f e=>by
 rw[NT]at e
 split at e
 ·rename_i c
  cases e;rw[M0 c];exact h
 ·exact j x f e
theorem gnil:∀(x:Str)(v:PV),([]:List (Str×PV)).lookup x=some v->∃u w,mg x=some u/\RelV w u/\∀Hi n H,Rp K Hi n v H w:=λx f h=>by cases h
set_option tactic.hygienic true in
theorem K7(h:∃u w,mg b=some u/\RelV w u/\∀Hi n H,Rp K Hi n a H w)(d:∀(x:Str) (v:PV),r.lookup x=some v->∃u w,mg x=some u/\RelV w u/\∀Hi n H,Rp K Hi n v H w) :
  ∀(x:Str)(v:PV),((b,a)::r).lookup x=some v->∃u w,mg x=some u/\RelV w u/\∀Hi n H,Rp K Hi n v H w:=λx f e=>by
 rw[NT]at e
 split at e
 ·rename_i c
  cases e;rw[M0 c];exact h
 ·exact d x f e
theorem bnil:∀(x:Str),([]:List Str).contains x=true->mg x=none:=λx h=>by simp at h
theorem cU(h:mg a=none)(b:∀(x:Str),r.contains x=true->mg x=none):∀(x:Str),(a::r).contains x=true->mg x=none:=λx e=>by
 rw[Oa,OO]at e
 rcases e with e|e
 ·rw[M0 e]
  exact h
 ·exact b x e
end
theorem iB{d:Type}{c:List d}(h:c.length=1):∃a,c=[a]:=by
 cases c with
 |nil=>cases h|cons a c=>cases c with
  |nil=>exact⟨a,rfl⟩|cons b c=>cases h
theorem jO{d:Type}{c:List d}(h:c.length=2):∃a b,c=[a,b]:=by
 cases c with
 |nil=>cases h|cons a c=>obtain⟨b,rfl⟩:=iB (Nat.succ.inj h);exact⟨a,b,rfl⟩
theorem yQ{e:Type}{d:List e}(h:d.length=3):∃a b c,d=[a,b,c]:=by
 cases d with
 |nil=>cases h|cons a d=>obtain⟨b,c,rfl⟩:=jO (Nat.succ.inj h);exact⟨a,b,c,rfl⟩
theorem Ku{f:Type}{e:List f}(h:e.length=4):∃a b c d,e=[a,b,c,d]:=by
 cases e with
 |nil=>cases h|cons a e=>obtain⟨b,c,d,rfl⟩:=yQ (Nat.succ.inj h);exact⟨a,b,c,d,rfl⟩
theorem sf{set:PV->En->Option En}{body:En->Option Fl}(I:Nat->En->Prop)(R:Fl->Prop):∀(xs c:List PV)(τ:En),I xs.length τ -> (∀(i:Nat)(x:PV)(τ:En),(xs++c)[i]? =some x->xs.length<=i->I i τ->∃b f,set x τ=some b/\body b=some f/\(match f with| .nx a=>I (i+1) a| .ct a=>I (i+1) a| .bk a=>R (.nx a)| .rt v=>R (.rt v))) -> (∀τ,I (xs++c).length τ->R (.nx τ))->∃g,lm set body c τ=some g/\R g
 |xs,[],τ,h0,hs,he=>⟨.nx τ,rfl,he τ (by rw[NU];exact h0)⟩|xs,y::c,τ,h0,hs,he=>by
  obtain⟨b,f,l,m,d⟩:=hs xs.length y τ (by simp) (Md _) h0;have e:xs++y::c=(xs++[y])++c:=by simp
  have j:=λa (h:I (xs.length+1) a)=>sf (set:=set) (body:=body) I R (xs++[y]) c a (by rw[Ml];exact h) (λi x τ k n=>hs i x τ (by rw[e];exact k) (by rw[Ml]at n;omega)) (by rw[<- e];exact he);unfold lm;rw[l];dsimp only[Option.bind];rw[m];cases f with
  |nx a=>exact j a d|ct a=>exact j a d|bk a=>exact⟨_,rfl,d⟩|rt v=>exact⟨_,rfl,d⟩
theorem EA{set:PV->En->Option En}(I:Nat->En->Prop)(R:Fl->Prop)(h0:I 0 τ)
  (e:∀(i:Nat)(x:PV)(τ:En),xs[i]? =some x->I i τ->∃b f,set x τ=some b/\body b=some f/\(match f with| .nx a=>I (i+1) a| .ct a=>I (i+1) a| .bk a=>R (.nx a)| .rt v=>R (.rt v)))
  (d:∀τ,I xs.length τ->R (.nx τ)):∃c,lm set body xs τ=some c/\R c :=
 sf I R [] xs τ h0 (λi x τ g _ h=>e i x τ g h) d
theorem fo{f:PV->Option (Option (PV×Bool))}{g:PV->PV}{n:Bool}:∀{xs:List PV},(∀x∈xs,f x=some (some (g x,true)))->bm f xs=some (xs.map g,true)
 |[],_=>rfl|x::xs,h=>by
  unfold bm;rw[h x MT,fo (n:=n) λy a=>h y (MS _ a)];rfl
section
variable{v:PV}{n m:Bool}{xs ys:List PV}{i j:Int}{z y:Str}{a b:RV}{τ:En}{t:TV}{k:Nat}
theorem cN:(RV.frz v n).val=v:=rfl
theorem Cm:(RV.own xs n).val=.lst xs:=rfl
theorem BI:(RV.frz v n).keep=some (v,n):=rfl
theorem BH:(RV.own xs n).keep=some (.lst xs,n):=rfl
theorem Dr:(RV.owd (.dK c) xs n).keep=some (.dK c xs,n):=rfl
theorem Dm:fM (.lst xs)=some xs.length:=rfl
theorem Dk:fM (.tup xs)=some xs.length:=rfl
theorem len_str:fM (.str z)=if z.length<=LN then some z.length else none:=rfl
theorem EE:dz (some (.rt v))=some v:=rfl
theorem Hu:vA (.frz v n::τ) 0=some (.frz v n):=rfl
theorem Hv:vA (t::τ) (k+1)=vA τ k:=rfl
theorem ll:br [] τ=τ:=rfl
theorem n6:br (k::c) τ=br c (pc τ k):=rfl
theorem D5:pc (.own xs n::τ) 0=.frz (.lst xs) n::τ:=rfl
theorem wz:pc (.frz v n::τ) 0=.frz v n::τ:=rfl
theorem Ba:pc (t::τ) (k+1)=t::pc τ k:=by
 unfold pc;rw[OK];cases τ[k]? with
 |none=>rfl|some t=>cases t<;>rfl
theorem Ee:eO .Add (.frz (.int i) n) (.frz (.int j) m)=some (sc (.int (i+j))):=rfl
theorem EY:eO .Sub (.frz (.int i) n) (.frz (.int j) m)=some (sc (.int (i-j))):=rfl
theorem Ea:eO .Mult (.frz (.int i) n) (.frz (.int j) m)=if(-(2^64)<i/\i<2^64)\/(-(2^64)<j/\j<2^64)then some (sc (.int (i*j)))else if i.natAbs<2^2000/\j.natAbs<2^2000 then some (sc (.int (i*j)))else none:=rfl
theorem Ec:eO .FloorDiv (.frz (.int i) n) (.frz (.int j) m)=if 0<j/\j<2^200 then some (sc (.int (i/j)))else none:=rfl
theorem Eb:eO .Mod (.frz (.int i) n) (.frz (.int j) m)=if 0<j then some (sc (.int (i%j)))else none:=rfl
theorem EZ:eO .LShift (.frz (.int i) n) (.frz (.int j) m)=if 0<=j/\j<=1000000/\i.natAbs<2^64 then some (sc (.int (i*2^j.toNat)))else none:=rfl
theorem Ed:eO .Add (.frz (.str z) n) (.frz (.str y) m)=if z.length+y.length<=LN then some (sc (.str (z++y)))else none:=rfl
theorem Ij:ar .Lt (.int i) (.int j)=some (decide (i<j)):=rfl
theorem Ik:ar .LtE (.int i) (.int j)=some (decide (i<=j)):=rfl
theorem Il:ar .Gt (.int i) (.int j)=some (decide (j<i)):=rfl
theorem Im:ar .GtE (.int i) (.int j)=some (decide (j<=i)):=rfl
theorem ES:ar .Eq (.int i) (.int j)=some (decide (i=j)):=rfl
theorem EQ:ar .Eq (.str z) (.str y)=some (decide (z=y)):=rfl
theorem EO:ar .NotEq (.int i) (.int j)=some (!decide (i=j)):=rfl
end
theorem ye{cd:Nat->List PV->Option PV}:bx cd a (.cons s b) τ=(jB cd a s τ).bind λf=>kZ f (bx cd a b):=by simp only[zH,zI]
theorem Bk{cd:Nat->List PV->Option PV}:bx cd a .nil τ=some (.nx τ):=by simp only[zH,zI]
theorem run(a:P f=some d)(b:vs.length=d.np)(h:dz (bx (aG P k) 1000000 d.body (entry d vs))=some r):aG P (k+1) f vs=some r:=by show(P f).bind _=_;rw[a];show(if vs.length=d.np then _ else _)=_;rw[MX b];exact h
section
variable{a b:RV}{t:String}{n m:Bool}{xs ys:List PV}{i j:Int}{bl:Bool}
theorem oj:kZ (.nx τ) k=k τ:=rfl
theorem Cu:kZ (.rt v) k=some (.rt v):=rfl
theorem zd:qm (.bl bl)=some bl:=rfl
theorem CD:j8 (.bl bl)=some bl:=rfl
theorem BO:Du (.int i)=some i:=rfl
theorem C6:ku (.frz (.str z) n)=some (signs z,true,false):=rfl
theorem C8:ku (.frz (.lst xs) n)=some (xs,n,false):=rfl
theorem C5:ku (.frz (.tup xs) n)=some (xs,n,false):=rfl
theorem C7:ku (.own xs n)=some (xs,n,false):=rfl
theorem Kb:o8 true k (.own xs n) τ=some (τ.set k (.own xs n)):=rfl
theorem GT:o8 false k (.own xs n) τ=some (τ.set k (.frz (.lst xs) n)):=rfl
theorem GU:o8 o k (.frz v n) τ=some (τ.set k (.frz v n)):=by cases o<;>rfl
theorem Fw:mf (.lst xs)=.own xs true:=rfl
theorem Fu:mf (.tup xs)=.frz (.tup xs) true:=rfl
theorem Fx:mf (.int i)=.frz (.int i) true:=rfl
theorem Fy:mf (.bl bl)=.frz (.bl bl) true:=rfl
theorem Fv:mf .non=.frz .non true:=rfl
theorem Iu:oU .len [a]=(fM a.val).map λn=>sc (.int (n:Nat)):=rfl
theorem Ei:oU .int [.frz (.bl bl) n]=some (sc (.int (if bl then 1 else 0))):=rfl
theorem Eh:oU (.isin t) [a]=(bj t a.val).map λb=>sc (.bl b):=rfl
theorem CI:oU .list [.frz (.tup xs) n]=some (.own xs n):=rfl
theorem CJ:oU .list [.frz (.lst xs) n]=some (.own xs n):=rfl
theorem yv:oU .tuple [.own xs n]=some (.frz (.tup xs) n):=rfl
theorem yw:oU .tuple [.frz (.lst xs) n]=some (.frz (.tup xs) n):=rfl
theorem Iv:oU .all [.own xs n]=(iT xs).map λc=>sc (.bl (c.all id)):=rfl
theorem Ef:oU .sset [a]=(fD a.val).map λc=>.own ((L2.cD c).map PV.int) true:=rfl
theorem Eg:oU .lset [a]=(fD a.val).map λc=>sc (.int ((L2.cD c).length:Nat)):=rfl
theorem KS:JT (.frz (.tup xs) n)=some (xs,n):=rfl
theorem HQ{c:List ak}{t:Int}{m:Bool}:yT (.frz (.dK c vs) n) (some (.frz (.int t) m))=if c.length<=LN then(mi t c vs).map (λd=>.own (d.map PV.int) true)else none:=rfl
theorem ix_L(k:Int):jx (.frz (.lst xs) n) (.frz (.int k) m)=(dI xs k).map λe=>.frz e (n||imm e):=rfl
theorem ix_T(k:Int):jx (.frz (.tup xs) n) (.frz (.int k) m)=(dI xs k).map λe=>.frz e (n||imm e):=rfl
theorem ix_O(k:Int):jx (.own xs n) (.frz (.int k) m)=(dI xs k).map λe=>.frz e (n||imm e):=rfl
theorem ix_S(k:Int)(z:Str):jx (.frz (.str z) n) (.frz (.int k) m)=if z.length<=LN then(dI z.cps.toList k).map λc=>sc (.str ⟨#[c]⟩)else none:=rfl
end
theorem sF  :bj "int" .non=some false:=by simp[bj]
theorem uv:bj "int" (.bl b)=some true:=by simp[bj]
theorem sK:bj "int" (.int i)=some true:=by simp[bj]
theorem sE:bj "int" (.str z)=some false:=by simp[bj]
theorem sI:bj "int" (.lst xs)=some false:=by simp[bj]
theorem sD:bj "int" (.tup xs)=some false:=by simp[bj]
theorem uu:bj "int" (.dK a vs)=some false:=by simp[bj]
theorem pS  :bj "bool" .non=some false:=by simp[bj]
theorem sN:bj "bool" (.bl b)=some true:=by simp[bj]
theorem pU:bj "bool" (.int i)=some false:=by simp[bj]
theorem pR:bj "bool" (.str z)=some false:=by simp[bj]
theorem pT:bj "bool" (.lst xs)=some false:=by simp[bj]
theorem pQ:bj "bool" (.tup xs)=some false:=by simp[bj]
theorem sM:bj "bool" (.dK a vs)=some false:=by simp[bj]
theorem sC:bj "str" (.int i)=some false:=by simp[bj]
theorem sB:bj "str" (.str z)=some true:=by simp[bj]
theorem pP:bj "list" (.int i)=some false:=by simp[bj]
theorem pN:bj "list" (.str z)=some false:=by simp[bj]
theorem pO:bj "list" (.lst xs)=some true:=by simp[bj]
theorem mz  :bj "tuple" .non=some false:=by simp[bj]
theorem pM:bj "tuple" (.bl b)=some false:=by simp[bj]
theorem nB:bj "tuple" (.int i)=some false:=by simp[bj]
theorem my:bj "tuple" (.str z)=some false:=by simp[bj]
theorem nA:bj "tuple" (.lst xs)=some false:=by simp[bj]
theorem mx:bj "tuple" (.tup xs)=some true:=by simp[bj]
theorem pL:bj "tuple" (.dK a vs)=some false:=by simp[bj]
theorem vN  :ar .Is .non .non=some true:=rfl
theorem vP:ar .Is (.int i) .non=some false:=rfl
theorem vM:ar .Is (.str z) .non=some false:=rfl
theorem vO:ar .Is (.lst xs) .non=some false:=rfl
theorem vL:ar .Is (.tup xs) .non=some false:=rfl
theorem eV{a:Type}{f:PV->Option (Option (PV×Bool))}{h:a->PV}{g:a->PV}:∀{l:List a},(∀x∈l,f (h x)=some (some (g x,true)))->bm f (l.map h)=some (l.map g,true)
 |[],_=>rfl|x::xs,k=>by
  rw[Mg];unfold bm;rw[k x MT,eV λy b=>k y (MS _ b)];rfl
def To(o:Option Fl)(Q:Fl->Prop):Prop:=∃f,o=some f/\Q f
theorem Cr:To (some f) Q↔Q f:=⟨fun⟨g,e,h⟩=>by cases e;exact h,λh=>⟨f,rfl,h⟩⟩
theorem To.imp(h:To o Q)(k:∀f,Q f->a f):To o a :=by obtain⟨f,e,q⟩:=h;exact⟨f,e,k f q⟩
theorem FK{P:Nat->Option FD}{k f:Nat}{d:FD}{vs:List PV}{Q:PV->Prop}(b:P f=some d)(c:vs.length=d.np)(h:To (bx (aG P k) 1000000 d.body (entry d vs)) λa=>∃v,dz (some a)=some v/\Q v):∃v,aG P (k+1) f vs=some v/\Q v:=by obtain⟨a,e,v,g,i⟩:=h;exact⟨v,run b c (by rw[e];exact g),i⟩
theorem cG(b:P f=some d)(c:vs.length=d.np)(h:To (bx (aG P k) 1000000 d.body (entry d vs)) λa=>dz (some a)=some r):aG P (k+1) f vs=some r:=by obtain⟨a,e,g⟩:=h;exact run b c (by rw[e];exact g)
section
variable{cd:Nat->List PV->Option PV}{fu:Nat}{τ:En}{cap:List Nat}{e e2:IE}{i j:Nat}{o one:Bool}{is:List Nat}{c:IC}{a b body:zK}{src:IT}
theorem ID:jB cd fu (.asg i o cap e) τ=(ah cd e (br cap τ)).bind λr=>(o8 o i r (br cap τ)).map .nx:=by simp only[i9,ij,ii,iu,iz,ig,io,i7,i6,jA,i5,i8,iw,ik,ir]
theorem Hz:jB cd fu (.ret cap e) τ=(ah cd e (br cap τ)).bind λr=>r.keep.bind fun(v,n)=>if n then some (.rt v)else none:=by simp only[i9,ij,ii,iu,iz,ig,io,i7,i6,jA,i5,i8,iw,ik,ir]
theorem IA:jB cd fu (.ife c a b) τ=(gA cd c τ).bind λr=>if r then bx cd fu a τ else bx cd fu b τ:=by simp only[i9,ij,ii,iu,iz,ig,io,i7,i6,jA,i5,i8,iw,ik,ir]
noncomputable def AQ(i:Nat)(v:PV)(m:Bool)(τ:En):Option Fl:=match τ[i]? with
  |some (.own xs n)=>if xs.length<LN then some (.nx (τ.set i (.own (xs++[v]) (n&&m))))else none|_=>none
theorem IF:jB cd fu (.app i cap e) τ=(ah cd e (br cap τ)).bind λr=>r.keep.bind fun(v,m)=>AQ i v m (br cap τ):=by simp only[i9,ij,ii,iu,iz,ig,io,i7,i6,jA,i5,i8,iw,ik,ir];rfl
theorem gy(h:τ[i]? =some (.own xs n))(d:xs.length<LN):AQ i v m τ=some (.nx (τ.set i (.own (xs++[v]) (n&&m)))):=by unfold AQ;rw[h];exact MX d
theorem dF(y:qF cd src (br cap τ)=some (xs,n,false))(I:Nat->En->Prop)(h0:I 0 (br cap τ))
  (t:∀(i:Nat)(x:PV)(τ:En),xs[i]? =some x->I i τ->∃g,ou is one n x τ=some g/\To (bx cd fu body g) λf=>match f with| .nx d=>I (i+1) d| .ct d=>I (i+1) d| .bk d=>To (k d) Q| .rt v=>Q (.rt v))
  (q:∀l,I xs.length l ->To (k l) Q):To ((jB cd fu (.forr is one cap src body) τ).bind λf=>kZ f k) Q:=by
 obtain⟨p,e,h⟩:=EA (set:=ou is one n) (body:=λτ=>bx cd fu body τ) (xs:=xs) (τ:=br cap τ) I (λp=>To (kZ p k) Q) h0 (λi x τ s z=>by
  obtain⟨g,u,f,w,m⟩:=t i x τ s z;refine⟨g,f,u,w,?_⟩;cases f with
  |nx d=>exact m|ct d=>exact m|bk d=>exact m|rt v=>exact⟨_,rfl,m⟩) q
 have r:jB cd fu (.forr is one cap src body) τ=some p:=by
  simp only[i9,ij,ii,iu,iz,ig,io,i7,i6,jA,i5,i8,iw,ik,ir,y,Ng];exact e
 rw[r];exact h
end
theorem bS:∀l:List Str,imms (l.map PV.str)=true
 |[]=>rfl|x::l=>by rw[Mg,imms,bS l];rfl
theorem BQ(l:List Str):imm (.tup (l.map PV.str))=true:=by rw[imm];exact bS l
theorem CG:eO .Add (.frz (.tup xs) n) (.frz (.tup a) m)=rZ (xs++a) (n&&m):=rfl
theorem Hf:sQ none=some none:=rfl
theorem He:sQ (some (.frz (.int i) n))=some (some i):=rfl
theorem gq{n:Bool}{xs:List PV}{lo a:Option Int}:slice (.frz (.tup xs) n) lo a=if HT.bh xs.length 0 lo=0/\HT.bh xs.length xs.length a=xs.length then some (.frz (.tup xs) n)else some (.frz (.tup (cut xs lo a)) n):=rfl
theorem vX(P:Nat->Option FD)(k f:Nat)(vs:List PV):aG P (k+1) f vs=(P f).bind λd=>if vs.length=d.np then dz (bx (aG P k) 1000000 d.body (entry d vs))else none:=rfl
section
variable{cd:Nat->List PV->Option PV}{fu:Nat}{τ:En}{e e2:IE}{i:Nat}
noncomputable def augI(i:Nat)(op:Operator)(y:PV)(τ:En):Option Fl:=match τ[i]?,y,op with
  |some (.frz (.int x) _),.int y,.Add=>some (.nx (τ.set i (.frz (.int (x+y)) true)))|some (.frz (.int x) _),.int y,.Sub=>some (.nx (τ.set i (.frz (.int (x-y)) true)))|_,_,_=>none
theorem IB:jB cd fu (.aug i op e) τ=(ah cd e τ).bind λr=>augI i op r.val τ:=by simp only[i9,ij,ii,iu,iz,ig,io,i7,i6,jA,i5,i8,iw,ik,ir];rfl
noncomputable def setO(i:Nat)(k v:PV)(m:Bool)(τ:En):Option Fl:=match k,τ[i]? with
  | .int j,some (.own xs n)=>(L2.tY xs.length j).map λq=>.nx (τ.set i (.own (xs.set q v) (n&&m)))|y,some (.owd (.dK ks) xs n)=>(BG y).bind λk=>if xs.length<LN then some (.nx (τ.set i (.owd (.dK (Kc ks k)) (putL ks xs k v) (n&&m))))else none|_,_=>none
end
theorem ER:ar .Eq (.lst xs) (.lst a)=if cT 12 (.lst xs)&&cT 12 (.lst a)then some (jW (.lst xs) (.lst a))else none:=rfl
theorem at_0{a:Type}{x:a}{xs:List a}:L2.dI (x::xs) 0=some x:=by have:=bI (xs:=x::xs) (j:=0) (v:=x) (by simp);exact this
theorem at_1{a:Type}{x y:a}{xs:List a}:L2.dI (x::y::xs) 1=some y:=by have:=bI (xs:=x::y::xs) (j:=1) (v:=y) (by simp);exact this
theorem ly(n:Nat)(l:List Int):cT (n+1) (.lst (l.map PV.int))=true:=by show(l.map PV.int).all (cT n)=true;rw[Mm];intro x a;obtain⟨i,_,rfl⟩:=MZ.mp a;cases n<;>rfl
theorem cy(h:((List.range n).map λi=>PV.int (0+(i:Nat)))[i]? =some x):i<n/\x=.int (i:Nat):=by
 rw[Mi]at h
 by_cases a:i<n
 ·rw[NW a]at h
  refine⟨a,?_⟩;have:=(Mv h).symm
  simpa using this
 ·rw[Nc (by simpa using a)]at h
  cases h
theorem kM:((List.range n).map λi=>PV.int (0+(i:Nat))).length=n:=by simp
theorem xD(h:(List.zipWith fJ (List.range xs.length) xs)[i]? =some x):∃y,xs[i]? =some y/\x=fJ i y:=by
 rw[Ob]at h;cases e:xs[i]? with
 |none=>rw[e]at h;cases a:(List.range xs.length)[i]? <;>rw[a]at h<;>cases h|some y =>
  rw[e]at h;have b:i<xs.length:=(Mk.mp e).1;rw[NW b]at h;exact⟨y,rfl,(Mv h).symm⟩
theorem sn:(List.zipWith fJ (List.range xs.length) xs).length=xs.length:=by rw[Oo,NK,Pr]
theorem DZ(c d:Nat):decide ((⟨#[c]⟩:Str)=⟨#[d]⟩)=decide (c=d):=by
 by_cases h:c=d;subst h;simp
 ·rw[Mq h,Mq]
  intro e;have:=ND (λz:Str=>z.cps.toList) e;simp at this;exact h this
theorem gb(c:Nat):decide ((⟨#[c]⟩:Str)="x")=(c==120):=by have:=DZ c 120;rw[show(⟨#[120]⟩:Str)="x" from rfl]at this;rw[this];rfl
theorem HM:fM (.dK a vs)=some a.length:=rfl
theorem cJ{a:Type}{f:PV->Option (Option (PV×Bool))}{h:a->PV}{p:a->Bool}{g:a->PV}:∀{l:List a},(∀x∈l,f (h x)=some (if p x then some (g x,true)else none))->bm f (l.map h)=some ((l.filter p).map g,true)
 |[],_=>rfl|x::xs,k=>by
  rw[Mg];unfold bm;rw[k x MT,cJ λy b=>k y (MS _ b)];cases e:p x
  ·simp[N0,e]
  ·simp[N0,e]
theorem map_set{L:Nat}{g:Nat->Int}{q:Nat}{v:Int}:((List.range L).map λk=>PV.int (g k)).set q (.int v)=(List.range L).map λk=>PV.int (if k=q then v else g k):=by
 refine PZ λi=> ?_;rw[Ow,Mi,Mi,MR,NK]
 by_cases a:i<L
 ·rw[NW a]
  by_cases e:q=i
  ·subst e
   simp[a]
  ·have b :¬i=q:=λz=>e z.symm
   simp[e,b]
 ·have:(List.range L)[i]? =none:=Nc (by simpa using a)
  rw[this]
  by_cases e:q=i
  ·subst e
   simp[a]
  ·simp[e]
theorem Ds(h:j<n):L2.tY n (j:Int)=some j:=by unfold L2.tY;rw[MX (by omega),MX (by omega)];simp
noncomputable abbrev ac:=List (Int×Int)
noncomputable def bC(c:ac)(k:Int):Option Int:=(c.find? λp=>decide (p.1=k)).map (·.2)
noncomputable def cZ(c:ac)(k v:Int):ac:=if(c.any λp=>decide (p.1=k))=true then c.map (λp=>if p.1=k then(p.1,v)else p)else c++[(k,v)]
noncomputable def yz(c:ac)(k n:Int):ac:=cZ c k ((bC c k).getD 0+n)
noncomputable def bw(t n:Int)(c:ac)(b:Int):ac:=if Builtin.bitAnd t b=0 then yz c (Builtin.bitOr t b) n else c
noncomputable def cv(B:List Int)(c:ac)(p:Int×Int):ac:=B.foldl (bw p.1 p.2) c
noncomputable def Fm(B:List Int)(c lev:ac):ac:=lev.foldl (cv B) c
noncomputable def wl(a:List ac)(B:List Int):Nat->List ac
 |0=>a++[[]]|i+1=>(wl a B i).set (i+1) (Fm B ((wl a B i).getD (i+1) []) (a.getD i []))
noncomputable def bE(c:ac):List (ak×V):=c.map λp=>(Sum.inl p.1,V.int p.2)
noncomputable def gN(c:ac):PV:=.dK (c.map λp=>Sum.inl p.1) (c.map λp=>.int p.2)
noncomputable def qH:List ak->List PV->Option ac
 |[],[]=>some []| .inl k::ks,.int v::vs=>(qH ks vs).map ((k,v)::·)|_,_=>none
noncomputable def unT:PV->Option ac
 | .dK a vs=>qH a vs|_=>none
noncomputable def qg:List PV->Option (List ac)
 |[]=>some []|x::xs=>(unT x).bind λc=>(qg xs).map (c::·)
noncomputable def bv:List PV->Option PV
 |[.lst ls,.lst bs]=>(qg ls).bind λa=>(aa bs).bind λB=>if a.length<=100/\B.length<=100/\(a.all λc=>decide (c.length<=1000))=true then some (.lst ((wl a B a.length).map gN))else none|_=>none
theorem gT:∀{xs:List PV}{a:List Int},aa xs=some a->xs=a.map PV.int
 |[],a,h=>by cases h;rfl|x::xs,a,h=>by
  cases x with
  |int c =>
   have h:(aa xs).map (c::·)=some a:=h;cases e:aa xs with
   |none=>rw[e]at h;cases h|some b =>
    rw[e]at h;cases h;rw[gT e];rfl
  |_=>cases h
theorem eT:∀a:List Int,aa (a.map PV.int)=some a
 |[]=>rfl|n::a=>by rw[Mg,aa,eT a];rfl
theorem qG:∀{a:List ak}{vs:List PV}{c:ac},qH a vs=some c->a=c.map (λp=>Sum.inl p.1)/\vs=c.map (λp=>.int p.2)
 |[],[],c,h=>by cases h;exact⟨rfl,rfl⟩| .inl k::a,.int v::vs,c,h=>by
  have h:(qH a vs).map ((k,v)::·)=some c:=h;cases e:qH a vs with
  |none=>rw[e]at h;cases h|some d =>
   rw[e]at h;cases h;obtain⟨b,f⟩:=qG e;exact⟨by rw[b];rfl,by rw[f];rfl⟩
 | .inr z::a,vs,c,h=>by cases h|[],v::vs,c,h=>by cases h| .inl k::a,[],c,h=>by cases h| .inl k::a,.non::vs,c,h=>by cases h| .inl k::a,.bl _::vs,c,h=>by cases h| .inl k::a,.str _::vs,c,h=>by cases h| .inl k::a,.lst _::vs,c,h=>by cases h| .inl k::a,.tup _::vs,c,h=>by cases h| .inl k::a,.dK _ _::vs,c,h=>by cases h| .inl k::a,.dT _ _::vs,c,h=>by cases h
theorem Cp(h:unT v=some c):v=gN c:=by
 cases v with
 |dK d vs =>
  obtain⟨a,b⟩:=qG h;unfold gN;rw[a,b]
 |_=>cases h
theorem qf:∀{d:List PV}{a:List ac},qg d=some a->d=a.map gN
 |[],a,h=>by cases h;rfl|x::xs,a,h=>by
  simp only[qg]at h;cases e:unT x with
  |none=>rw[e]at h;cases h|some c =>
   rw[e]at h;simp only[Option.bind]at h;cases b:qg xs with
   |none=>rw[b]at h;cases h|some r =>
    rw[b]at h;cases h;rw[Cp e,qf b];rfl
theorem vp:∀c:ac,qH (c.map λp=>Sum.inl p.1) (c.map λp=>.int p.2)=some c
 |[]=>rfl|p::c=>by simp only[Mg,qH,vp c];rfl
theorem vw:∀a:List ac,qg (a.map gN)=some a
 |[]=>rfl|c::a=>by
  simp only[Mg,qg,vw a];show(qH _ _).bind _=_;rw[vp];rfl
theorem pq(c:ac)(k:Int):d6 (bE c) (Sum.inl k)=(bC c k).map V.int:=by
 unfold d6 bE bC
 induction c with
 |nil=>rfl|cons p c a =>
  rw[Mg,Nh,Nh]
  by_cases e:p.1=k;simp[e]
  ·have b :¬((Sum.inl p.1:ak)=Sum.inl k):=λz=>e (Sum.inl.inj z)
   simp only[e,b,O3];exact a
theorem pk(c:ac)(k v:Int):cz (bE c) (Sum.inl k) (V.int v)=bE (cZ c k v):=by
 unfold cz cZ;have a:((bE c).any λb=>decide (b.1=Sum.inl k))=(c.any λp=>decide (p.1=k)):=by
  unfold bE;rw[List.any_map]
  congr 1
  funext p
  simp
 rw[a]
 split
 ·unfold bE
  rw[M4,M4];refine NV λp _=> ?_
  by_cases e:p.1=k;simp[e];simp[e]
 ·unfold bE
  rw[Ms];rfl
theorem kz(c:ac)(k v:Int):(cZ c k v).length<=c.length+1:=by
 unfold cZ
 split;rw[MR];omega;rw[Ml];simp
theorem xz(t n:Int)(c:ac)(b:Int):(bw t n c b).length<=c.length+1:=by
 unfold bw
 split;exact kz _ _ _;omega
theorem jU(t n:Int):∀(B:List Int)(c:ac),(B.foldl (bw t n) c).length<=c.length+B.length
 |[],c=>by simp|b::B,c=>by
  rw[Ni];have a:=jU t n B (bw t n c b);have d:=xz t n c b;rw[Ma];omega
theorem oA(B:List Int):∀(lev c:ac),(lev.foldl (cv B) c).length<=c.length+lev.length*B.length
 |[],c=>by simp|p::lev,c=>by
  rw[Ni];have a:=oA B lev (cv B c p);have b:(cv B c p).length<=c.length+B.length:=jU p.1 p.2 B c;rw[Ma,Nat.succ_mul];omega
theorem kS(a:List ac)(B:List Int):∀i,(wl a B i).length=a.length+1
 |0=>by simp[wl]|i+1=>by rw[wl,N7];exact kS a B i
theorem xF(c:ac)(a:List V)(h:a=c.map λp=>V.int p.2):(c.map λp=>(Sum.inl p.1:ak)).zip a=bE c:=by
 subst h;unfold bE
 induction c with
 |nil=>rfl|cons p c b=>rw[Mg,Mg,Pz,b,Mg]
theorem rC{K:W.Frag}(c:ac):aI K Hi n (c.map λp=>PV.int p.2) H a↔a=c.map λp=>V.int p.2:=by
 have b:(c.map λp=>PV.int p.2)=(c.map (·.2)).map PV.int:=by rw[M4];rfl
 have d:(c.map λp=>V.int p.2)=(c.map (·.2)).map V.int:=by rw[M4];rfl
 rw[b,d];exact aI.ints
theorem GL{K:W.Frag}(h:Rp K Hi n (gN c) H u):∃p,u=.ref p/\H p=some (.dK (bE c)):=by unfold gN at h;obtain⟨p,b,rfl,_,a,d,r⟩:=h;rw[xF c b ((rC c).mp r)]at a;exact⟨p,rfl,a⟩
theorem nT{K:W.Frag}(h0:Hi p=none)(h:H p=some (.dK (bE c))):Rp K Hi true (gN c) H (.ref p):=by unfold gN;show∃_,_;refine⟨p,c.map λp=>V.int p.2,rfl,λ_=>h0,by rw[xF c _ rfl];exact h,by simp,(rC c).mpr rfl⟩
def tf(b:Hp)(A:Addr)(a:List Addr)(cs:List ac)(H:Hp):Prop :=
 aE b H/\b A=none/\H A=some (.lst (a.map V.ref))/\A∉a/\a.Nodup/\a.length=cs.length/\∀(q:Nat)(d:Addr)(c:ac),a[q]? =some d->cs[q]? =some c->b d=none/\H d=some (.dK (bE c))
theorem tf.ext(h:tf b A f cs H)(s:aE H i):tf b A f cs i :=by obtain⟨m,o,k,n,l,j,e⟩:=h;exact⟨m.trans s,o,s _ _ k,n,l,j,λq d c g a=>⟨(e q d c g a).1,s _ _ (e q d c g a).2⟩⟩
theorem tf.put(h:tf m A k cs H)(a:k[q]? =some d):tf m A k (cs.set q c') (L2.upd H d (.dK (bE c'))):=by
 obtain⟨x,B,u,s,r,t,p⟩:=h;have D:q<k.length:=(Mk.mp a).1;have w:cs[q]? =some (cs[q]'(by omega)):=by simp[show q<cs.length by omega]
 obtain⟨n,E⟩:=p q d _ a w;have C:A≠d:=λz=>s (z▸Mw a);refine⟨λb o e=>by rw[aB (aF e n)];exact x b o e,B,by rw[aB C];exact u,s,r,by rw[N7];exact t,λl d' c g f=> ?_⟩;rw[Ow]at f
 by_cases e:q=l
 ·subst e
  rw[a]at g;cases g;rw[MX rfl,MX (by omega)]at f;cases f;exact⟨n,aC⟩
 ·rw[MV e]at f
  obtain⟨y,v⟩:=p l d' c g f;refine⟨y,?_⟩;rw[aB λz=>e ?_]
  ·exact v
  ·subst z
   have:=(List.getElem?_inj (i:=l) (j:=q) (Mk.mp g).1 r).mp (by rw[g,a]);exact this.symm
theorem tf.at{q:Nat}(h:tf a A b cs H)(e:b[q]? =some d)(f:cs[q]? =some c):a d=none/\H d=some (.dK (bE c)):=h.2.2.2.2.2.2 q d c e f
theorem tf.push(h:tf v A g cs H)(l:H p=none):tf v A (g++[p]) (cs++[c]) (L2.upd (L2.upd H p (.dK (bE c))) A (.lst (g.map V.ref++[.ref p]))):=by
 obtain⟨t,y,u,x,G,C,w⟩:=h;have B:A≠p:=λz=>by rw[z,l]at u;cases u
 have i:p∉g:=λz=>by
  obtain⟨q,n,e⟩:=List.mem_iff_getElem.mp z;obtain⟨_,k⟩:=w q p (cs[q]'(by omega)) (by rw[Mf n,e]) (by simp[show q<cs.length by omega]);rw[l]at k;cases k
 refine⟨λb o e=> ?_,y,?_,?_,?_,by simp[C],λq d c' f j=> ?_⟩
 ·rw[aB (aF e y),aB (aF e (t.free l))]
  exact t b o e
 ·rw[aC,Ms]
  rfl
 ·intro z
  rcases M7.mp z with z|z
  ·exact x z
  ·exact B (by simpa using z)
 ·rw[Na]
  exact⟨G,by simp,λa E b I e=>by
   have:b=p:=by simpa using I
   rw[this]at e;exact i (e▸E)⟩
 ·by_cases n:q<g.length
  ·rw[Oe n]at f
   rw[Oe (by omega)]at j;obtain⟨J,k⟩:=w q d c' f j;have K:d≠A:=λz=>x (z▸Mw f);have D:d≠p:=λz=>i (z▸Mw f);exact⟨J,by rw[aB K,aB D];exact k⟩
  ·rw[O0 (by omega)]at f
   rw[O0 (by omega)]at j;have F:q-g.length=0:=by
    cases e:q-g.length with
    |zero=>rfl|succ m=>rw[e]at f;simp at f
   rw[F]at f;rw[show q-cs.length=0 by omega]at j;have r :p=d:=by simpa using f
   have s :c=c' :=by simpa using j
   subst r s;exact⟨t.free l,by rw[aB (Nv B),aC]⟩
theorem yC(d:H p=none)(f:p≠a):aE (L2.upd H a u) (L2.upd (L2.upd H p o) a u):=λb x e=>by
 by_cases c:b=a
 ·subst c
  rw[aC]at e ⊢;exact e
 ·rw[aB c]at e ⊢
  rw[aB (aF e d)];exact e
theorem v7{K:W.Frag}(h:bR K (L2.upd H a (.dK c)) b xs):bR K H b xs:=by
 have key:∀u,L2.upd H a (.dK c) b=some u->(∀k,u≠.dK k)->H b=some u:=λu e n=>by
  by_cases d:b=a
  ·subst d
   rw[aC]at e;exact absurd (Mv e).symm (n _)
  ·rw[aB d]at e
   exact e
 rcases h with(h|⟨o,h⟩)|h
 ·exact .inl (.inl (key _ h λk z=>by cases z))
 ·exact .inl (.inr ⟨o,key _ h λk z=>by cases z⟩)
 ·exact .inr h
theorem EG{j:Nat}(h:(bE c)[j]? =some (k,x)):∃t n,c[j]? =some (t,n)/\k=.inl t/\x=.int n:=by
 unfold bE at h;rw[Mi]at h;cases e:c[j]? with
 |none=>rw[e]at h;cases h|some p =>
  rw[e]at h;have:=Mv h;cases this;exact⟨p.1,p.2,rfl,rfl,rfl⟩
theorem sr(c:ac):(bE c).length=c.length:=by unfold bE;rw[MR]
theorem FA(a:List ac)(B:List Int):∀(i j:Nat),i<j->(wl a B i)[j]? =(a++[[]])[j]?
 |0,j,h=>rfl|i+1,j,h=>by
  rw[wl,NZ (by omega)];exact FA a B i j (by omega)
theorem zU(h:a≠b):L2.upd (L2.upd H a x) b y=L2.upd (L2.upd H b y) a x:=by
 funext c
 unfold L2.upd
 by_cases d:c=a
 ·subst d
  rw[MV h,MX rfl,MX rfl]
 ·by_cases e:c=b
  ·subst e
   rw[MX rfl,MV d,MX rfl]
  ·rw[MV e,MV d,MV d,MV e]
theorem rB{K:W.Frag}{Hi:Hp}{H:Hp}:∀{cs:List ac}{a:List Addr},a.length=cs.length->(∀(q:Nat)(d:Addr)(c:ac),a[q]? =some d->cs[q]? =some c->Hi d=none/\H d=some (.dK (bE c)))->aI K Hi true (cs.map gN) H (a.map V.ref)
 |[],[],_,_=>.nil|c::cs,d::a,hl,h=>by
  obtain⟨h0,b⟩:=h 0 d c rfl rfl;exact .cons (nT h0 b) (rB (by simpa using hl) λq d' c' e f=>h (q+1) d' c' (by simpa using e) (by simpa using f))
 |[],_::_,hl,_=>by cases hl|_::_,[],hl,_=>by cases hl
section
variable{X:Cx}{Hi:Hp}{τ:En}{cd:Nat->List PV->Option PV}{ct:Ct}{O:List Addr}{σ:L2.St}{H H' :Hp}{D:ci}
theorem lK{e:Type}{l:List e}{i j:Nat}{x:e}(h:l.Nodup)(f:l[i]? =some x)(g:l[j]? =some x):i=j:=by obtain⟨a,b⟩:=Mk.mp f;obtain⟨c,d⟩:=Mk.mp g;exact(List.getElem_inj h).mp (b.trans d.symm)
end
end IR
namespace IR
open PySem
set_option tactic.hygienic false
theorem tR(a b:Nat):Builtin.bitAnd (a:Int) (b:Int)=((a &&& b:Nat):Int):=by
 unfold Builtin.bitAnd;have d:decide ((0:Int)<=(a:Int))=true:=by simp
 have c:decide ((0:Int)<=(b:Int))=true:=by simp
 rw[d,c];simp
theorem tM(a:Nat):Builtin.bitNot (a:Int)= -(a:Int)-1:=by unfold Builtin.bitNot;omega
theorem xQ(a b:Nat):Builtin.bitOr (a:Int) (b:Int)=((a ||| b:Nat):Int):=by
 unfold Builtin.bitOr Builtin.bitAnd;rw[tM,tM];have c:decide ((0:Int)<= -(a:Int)-1)=false:=by simp;omega
 have e:decide ((0:Int)<= -(b:Int)-1)=false:=by simp;omega
 rw[c,e];dsimp only;have d:(Builtin.bitNot (-(a:Int)-1)).toNat=a:=by unfold Builtin.bitNot;omega
 have f:(Builtin.bitNot (-(b:Int)-1)).toNat=b:=by unfold Builtin.bitNot;omega
 rw[d,f];unfold Builtin.bitNot;omega
theorem fK:∀(n:Nat)(l:List Nat),l.Nodup->(∀x∈l,x<n)->l.length<=n
 |0,l,_,h=>by
  cases l with
  |nil=>simp|cons x l=>exact absurd (h x MT) (by omega)
 |n+1,l,nd,h=>by
  by_cases b:n∈l
  ·have c:=fK n (l.erase n) (nd.erase n) λx a=>by
    have:=(nd.mem_erase_iff).mp a;have:=h x this.2;omega
   rw[QA b]at c;omega
  ·have:=fK n l nd λx a=>by
    have d:=h x a;have:x≠n:=λz=>b (z▸a);omega
   omega
def bP(c:ac):Prop:=(c.map (·.1)).Nodup/\∀p∈c,(∃n:Nat,p.1=(n:Int)/\n<256)/\0<p.2
theorem bP.len(h:bP c):c.length<=256:=by
 have j:((c.map (·.1)).map Int.toNat).Nodup:=by
  rw[List.nodup_iff_pairwise_ne,P6];refine(List.nodup_iff_pairwise_ne.mp h.1).imp_of_mem fun{a b} ha hb hne e=>hne ?_;obtain⟨p,d,rfl⟩:=MZ.mp ha;obtain⟨q,k,rfl⟩:=MZ.mp hb;obtain⟨⟨m,f,_⟩,_⟩:=h.2 p d;obtain⟨⟨n,i,_⟩,_⟩:=h.2 q k;rw[f,i]at e ⊢;omega
 have:=fK 256 _ j λx g=>by
  obtain⟨y,l,rfl⟩:=MZ.mp g;obtain⟨p,d,rfl⟩:=MZ.mp l;obtain⟨⟨m,f,o⟩,_⟩:=h.2 p d;rw[f];omega
 simpa using this
noncomputable def dH(a:Int->Int):ac->Int
 |[]=>0|p::c=>p.2*a p.1+dH a c
theorem vq(a:Int->Int):∀c d:ac,dH a (c++d)=dH a c+dH a d
 |[],d=>by simp[dH]|p::c,d=>by rw[List.cons_append,dH,dH,vq a c d];omega
theorem xR{c:ac}:(c.any λp=>decide (p.1=k))=true↔k∈c.map (·.1):=by
 rw[No,MZ]
 constructor
 ·rintro⟨p,a,e⟩
  exact⟨p,a,M3 e⟩
 ·rintro⟨p,a,e⟩
  exact⟨p,a,Mj e⟩
theorem DF{c:ac}(h:k∉c.map (·.1)):c.map (λp=>if p.1=k then(p.1,v)else p)=c:=by
 induction c with
 |nil=>rfl|cons p c b =>
  rw[Mg]at h ⊢;have a:¬p.1=k:=λz=>h (by rw[z];exact MT);rw[MV a,b λz=>h (MS _ z)]
theorem wy(h:k∈c.map (·.1)):∃v,bC c k=some v/\(k,v)∈c:=by
 unfold bC
 induction c with
 |nil=>cases h|cons p c b =>
  rw[Nh]
  by_cases e:p.1=k
  ·refine⟨p.2,by simp[e],?_⟩
   subst e;exact MT
  ·have h' :k∈c.map (·.1):=by
    rw[Mg]at h
    rcases Mh.mp h with z|z
    ·exact absurd z.symm e
    ·exact z
   obtain⟨v,d,a⟩:=b h';refine⟨v,?_,MS _ a⟩;simp only[e,O3];exact d
theorem sV(h:k∉c.map (·.1)):bC c k=none:=by
 unfold bC;rw[P0.mpr];rfl
 ·intro p a e
  exact h (MZ.mpr ⟨p,a,M3 e⟩)
theorem qX(b:Int->Int){k v w:Int}:∀{c:ac},(c.map (·.1)).Nodup->bC c k=some v->dH b (c.map (λp=>if p.1=k then(p.1,w)else p))=dH b c+(w-v)*b k
 |[],_,h=>by cases h|p::c,nd,h=>by
  rw[Mg]at nd ⊢;have a:=Mx.mp nd
  by_cases e:p.1=k
  ·subst e
   rw[MX rfl,DF a.1];have d:v=p.2:=by
    unfold bC at h;rw[Nh]at h;simp at h;exact h.symm
   subst d;rw[dH,dH,Int.sub_mul];dsimp only;omega
  ·have h' :bC c k=some v:=by
    unfold bC at h ⊢;rw[Nh]at h;simp only[e,O3]at h;exact h
   rw[MV e,dH,dH,qX b a.2 h'];omega
theorem wH(h:k∈c.map (·.1)):cZ c k v=c.map (λp=>if p.1=k then(p.1,v)else p):=by unfold cZ;rw[MX (xR.mpr h)]
theorem rH(h:k∉c.map (·.1)):cZ c k v=c++[(k,v)]:=by unfold cZ;rw[MV λz=>h (xR.mp z)]
theorem Et(a:Int->Int)(d:(c.map (·.1)).Nodup)(k n:Int):dH a (yz c k n)=dH a c+n*a k:=by
 unfold yz
 by_cases h:k∈c.map (·.1)
 ·obtain⟨v,b,_⟩:=wy h
  rw[wH h,b,qX a d b]
  congr 2
  simp;omega
 ·rw[rH h,sV h,vq]
  simp[dH]
theorem yy(h:bP c){m:Nat}(o:m<256){n:Int}(t:0<n):bP (yz c (m:Int) n):=by
 unfold yz
 by_cases d:((m:Int))∈c.map (·.1)
 ·obtain⟨v,q,f⟩:=wy d
  rw[wH d,q];have e:(c.map (λp=>if p.1=(m:Int)then(p.1,(some v).getD 0+n)else p)).map (·.1)=c.map (·.1):=by
   rw[M4];refine NV λp _=> ?_;dsimp only[Function.comp]
   split<;>rfl
  refine⟨by rw[e];exact h.1,λp i=> ?_⟩;obtain⟨r,g,rfl⟩:=MZ.mp i;obtain⟨l,s⟩:=h.2 r g
  split
  ·refine⟨l,?_⟩
   have:=(h.2 _ f).2;show 0<v+n;omega
  ·exact⟨l,s⟩
 ·rw[rH d,sV d]
  refine⟨?_,λp i=> ?_⟩
  ·rw[Ms,Na]
   refine⟨h.1,by simp,λa k b j e=> ?_⟩;have j:b=(m:Int):=by simpa using j
   rw[j]at e;rw[e]at k;exact d k
  ·rcases M7.mp i with z|z
   ·exact h.2 p z
   ·have:p=((m:Int),none.getD 0+n):=by simpa using z
    rw[this];exact⟨⟨m,rfl,o⟩,by show 0<0+n;omega⟩
def md(B:List Int):Prop:=∀b∈B,∃n:Nat,b=((2^n:Nat):Int)/\n<8
theorem Kh(c:a<256)(d:b<256):a ||| b<256:=Nat.or_lt_two_pow (n:=8) c d
theorem km(h:bP c){t:Nat}(d:t<256){n:Int}(a:0<n){j:Nat}(b:j<8):bP (bw (t:Int) n c ((2^j:Nat):Int)):=by
 unfold bw
 split
 ·rw[xQ]
  exact yy h (Kh d (Nat.pow_lt_pow_right (by decide) (show j<8 from b))) a
 ·exact h
theorem gX{t:Nat}(d:t<256){n:Int}(a:0<n):∀{B:List Int}{c:ac},md B->bP c->bP (B.foldl (bw (t:Int) n) c)
 |[],c,_,h=>h|b::B,c,hB,h=>by
  obtain⟨j,rfl,f⟩:=hB b MT;exact gX (B:=B) d a (λb e=>hB b (MS _ e)) (km h d a f)
theorem qe{B:List Int}(a:md B):∀{lev c:ac},bP lev->bP c->bP (Fm B c lev)
 |[],c,_,h=>h|p::lev,c,hl,h=>by
  obtain⟨⟨t,b,f⟩,e⟩:=hl.2 p MT;have d:bP (cv B c p):=by
   unfold cv;rw[b];exact gX f e a h
  exact qe (lev:=lev) a ⟨(Mx.mp (show(p.1::lev.map (·.1)).Nodup from hl.1)).2,λq g=>hl.2 q (MS _ g)⟩ d
theorem iF:bP []:=⟨by simp,λp a=>by cases a⟩
theorem oX{a:List ac}{B:List Int}(f:md B)(h:∀c∈a,bP c):∀i,∀c∈wl a B i,bP c
 |0,c,hc=>by
  rcases M7.mp hc with z|z
  ·exact h c z
  ·have:c=[]:=by simpa using z
   rw[this];exact iF
 |i+1,c,hc=>by
  rw[wl]at hc;have b:=oX f h i
  rcases List.mem_or_eq_of_mem_set hc with z|z
  ·exact b c z
  ·rw[z]
   refine qe f ?_ ?_
   ·rw[Me]
    cases e:a[i]? with
    |none=>exact iF|some d=>exact h d (Mw e)
   ·rw[Me]
    cases e:(wl a B i)[i+1]? with
    |none=>exact iF|some d=>exact b d (Mw e)
theorem dG{a:Type}{P:List a->Prop}(h0:P [])(b:∀l x,P l->P (l++[x])):∀l,P l:=by
 intro l;have:∀r:List a,P r.reverse:=by
  intro r
  induction r with
  |nil=>exact h0|cons x r c=>rw[List.reverse_cons];exact b _ _ c
 have:=this l.reverse
 rwa [List.reverse_reverse]at this
noncomputable def bN{a:Type}(l:List a)(f:a->Int):Int:=(l.map f).sum
theorem aQ{a:Type}(x:a)(l:List a)(f:a->Int):bN (x::l) f=f x+bN l f:=by unfold bN;rw[Mg,List.sum_cons]
theorem cB{a:Type}(f:a->Int):bN ([]:List a) f=0:=rfl
theorem bL{a:Type}{l:List a}{f g:a->Int}(h:∀x∈l,f x=g x):bN l f=bN l g:=by unfold bN;rw[NV h]
theorem fC{a:Type}{l:List a}{f:a->Int}(h:∀x∈l,0<=f x):0<=bN l f:=by
 induction l with
 |nil=>exact P7 _|cons x l b =>
  rw[aQ];have d:=h x MT;have e:=b λy c=>h y (MS _ c);omega
noncomputable def cnt:List (List Nat)->List Nat->Nat->Int
 |[],_,0=>1|[],_,_+1=>0|_::rs,T,0=>cnt rs T 0|r::rs,T,k+1=>cnt rs T (k+1)+bN (r.filter λc=> !T.contains c) λc=>cnt rs (c::T) k
theorem aV:∀(rs:List (List Nat))(T:List Nat),cnt rs T 0=1
 |[],_=>rfl|_::rs,T=>by rw[cnt];exact aV rs T
theorem cK:∀(rs:List (List Nat))(T:List Nat)(k:Nat),0<=cnt rs T k
 |[],_,0=>by rw[cnt];decide|[],_,_+1=>by rw[cnt];decide|_::rs,T,0=>by rw[cnt];exact cK rs T 0|r::rs,T,k+1=>by
  rw[cnt];have a:=cK rs T (k+1);have b:0<=bN (r.filter λc=> !T.contains c) λc=>cnt rs (c::T) k:=fC λc _=>cK rs (c::T) k;omega
theorem cM:∀(rs:List (List Nat)){T a :List Nat}(k:Nat),(∀r∈rs,∀c∈r,T.contains c=a.contains c)->cnt rs T k=cnt rs a k
 |[],_,_,0,_=>rfl|[],_,_,_+1,_=>rfl|_::rs,T,a,0,h=>by rw[cnt,cnt];exact cM rs 0 λr f=>h r (MS _ f)|r::rs,T,a,k+1,h=>by
  rw[cnt,cnt,cM rs (k+1) λr f=>h r (MS _ f)];have e:(r.filter λc=> !T.contains c)=r.filter λc=> !a.contains c:=List.filter_congr λc j=>by rw[h r MT c j]
  rw[e];refine ND (_+·) (bL λc _=>cM rs k λg b d i=> ?_);rw[Oa,Oa,h g (MS _ b) d i]
theorem vt(a χ:Int->Int):∀c:ac,dH (λm=>a m+χ m) c=dH a c+dH χ c
 |[]=>by simp[dH]|p::c=>by rw[dH,dH,dH,vt a χ c,Int.mul_add];omega
theorem jC{a χ:Int->Int}:∀{c:ac},(∀p∈c,a p.1=χ p.1)->dH a c=dH χ c
 |[],_=>rfl|p::c,h=>by rw[dH,dH,h p MT,jC λq b=>h q (MS _ b)]
noncomputable def Sb(B:List Int)(a:Int->Int)(m:Int):Int:=bN B λb=>if Builtin.bitAnd m b=0 then a (Builtin.bitOr m b)else 0
theorem oB(a:Int->Int){t:Nat}(f:t<256){n:Int}(d:0<n):∀{B:List Int}{c:ac},md B->bP c->dH a (B.foldl (bw (t:Int) n) c)=dH a c+n*Sb B a (t:Int)
 |[],c,_,_=>by
  rw[List.foldl_nil];unfold Sb;rw[cB];omega
 |b::B,c,hB,h=>by
  obtain⟨j,rfl,i⟩:=hB b MT;rw[Ni,oB a f d (B:=B) (λb g=>hB b (MS _ g)) (km h f d i)];have e:dH a (bw (t:Int) n c ((2^j:Nat):Int))=dH a c+n*(if Builtin.bitAnd (t:Int) ((2^j:Nat):Int)=0 then a (Builtin.bitOr (t:Int) ((2^j:Nat):Int))else 0):=by
   unfold bw
   split;rw[Et a h.1];simp
  rw[e];unfold Sb;rw[aQ,Int.mul_add];omega
theorem vv(a:Int->Int){B:List Int}(d:md B):∀{lev c:ac},bP lev->bP c->dH a (Fm B c lev)=dH a c+dH (Sb B a) lev
 |[],c,_,_=>by simp[Fm,dH]|p::lev,c,hl,h=>by
  obtain⟨⟨t,f,i⟩,g⟩:=hl.2 p MT;have b:bP lev:=⟨(Mx.mp (show(p.1::lev.map (·.1)).Nodup from hl.1)).2,λq l=>hl.2 q (MS _ l)⟩;have j:bP (cv B c p):=by
   unfold cv;rw[f];exact gX i g d h
  have e:Fm B c (p::lev)=Fm B (cv B c p) lev:=rfl;rw[e,vv a d b j,dH];have k:dH a (cv B c p)=dH a c+p.2*Sb B a p.1:=by
   unfold cv;rw[f];exact oB a i g d h
  rw[k];omega
theorem tj(a:List ac)(B:List Int):∀(i j:Nat),i<=a.length->(wl a B i)[j]? =if j=0\/i<j then(a++[[]])[j]? else some (Fm B ((a++[[]]).getD j []) (a.getD (j-1) []))
 |0,j,_=>by
  rw[wl]
  by_cases h:j=0\/0<j;rw[MX h];omega
 |i+1,j,hi=>by
  rw[wl,Ow,kS]
  by_cases h:i+1=j
  ·subst h
   rw[MX rfl,MX (by omega),MV (by omega),Me,tj a B i (i+1) (by omega),MX (.inr (by omega)),<-Me];rfl
  ·rw[MV h,tj a B i j (by omega)]
   by_cases b:j=0\/i<j;rw[MX b,MX (by omega)]
   ·rw[MV b,MV (by omega)]
noncomputable def mJ(m:Nat):List Nat:=(List.range 8).filter λc=>m.testBit c
theorem fq(a:c<8):(mJ m).contains c=m.testBit c:=by unfold mJ;rw[NI,My,M6,NC];exact⟨λh=>h.2,λh=>⟨a,h⟩⟩
theorem Ep(m c:Nat):(m &&& 2^c=0)↔m.testBit c=false:=by
 constructor
 ·intro h
  have:=ND (λx=>Nat.testBit x c) h
  simpa [Nat.testBit_and,Nat.testBit_two_pow_self]using this
 ·intro h
  refine Nat.eq_of_testBit_eq λi=> ?_;rw[Nat.testBit_and,Nat.zero_testBit,Nat.testBit_two_pow]
  by_cases e:c=i
  ·subst e
   simp[h]
  ·simp[e]
noncomputable def j9(r:List Nat):List Int:=r.map λc=>((2^c:Nat):Int)
theorem mS(h:∀c∈r,c<8):md (j9 r):=λb a=>by
 obtain⟨c,d,rfl⟩:=MZ.mp a;exact⟨c,rfl,h c d⟩
def dJ(rows:List (List Nat)):Prop:=∀r∈rows,∀c∈r,c<8
theorem qY:∀c:ac,dH (λ_=>0) c=0
 |[]=>rfl|p::c=>by rw[dH,qY c];omega
noncomputable abbrev b9:=Nat×Nat
noncomputable def Ix(cells:List b9)(k:Nat):List b9:=(cells.drop (k+1)).filter λc=>decide ((cells.getD k (0,0)).1<c.1)
noncomputable def pl:Nat->List b9->List Int->Nat->Int
 |_,_,_,0=>1|0,_,_,_+1=>0|n+1,cells,T,j+1=>bN (List.range cells.length) λk=>if T.contains ((cells.getD k (0,0)).2:Int)then 0 else pl n (Ix cells k) (T++[((cells.getD k (0,0)).2:Int)]) j
noncomputable def jr(i:Nat)(r:List Nat):List b9:=r.map λc=>(i,c)
noncomputable def eW:Nat->List (List Nat)->List b9
 |_,[]=>[]|i,r::rs=>jr i r++eW (i+1) rs
theorem mN:∀(i:Nat)(rs:List (List Nat)),∀c∈eW i rs,i<=c.1/\c.1<i+rs.length
 |i,[],c,h=>by cases h|i,r::rs,c,h=>by
  rcases M7.mp h with z|z
  ·obtain⟨x,_,rfl⟩:=MZ.mp z
   exact⟨Md _,by rw[Ma];omega⟩
  ·have:=mN (i+1) rs c z
   rw[Ma];omega
theorem sk{l:List b9}(h:∀c∈l,p c=false):l.filter p=[]:=List.filter_eq_nil_iff.mpr λc a=>by rw[h c a];exact Mc
noncomputable def d7(xs:List Int):List Int:=(xs.reverse.dropWhile λx=>decide (x=0)).reverse
theorem gI(xs:List Int):d7 (xs++[0])=d7 xs:=by unfold d7;rw[List.reverse_append];simp
theorem gJ(xs:List Int)(h:y≠0):d7 (xs++[y])=xs++[y]:=by unfold d7;rw[List.reverse_append];simp[h]
noncomputable def aH(z:Str):List Nat:=(List.range z.length).filter λc=>z.cps.toList.getD c 0==120
noncomputable def cE(rows:List Str):List b9:=eW 0 (rows.map aH)
noncomputable def att(a b:b9):Bool:=a.1==b.1||a.2==b.2
noncomputable def CW(x:b9)(l:List b9):List b9:=l.filter λy=> !att x y
noncomputable def J4(f:b9->List b9->Int):List b9->Int
 |[]=>0|x::xs=>f x xs+J4 f xs
noncomputable def rk:Nat->List b9->Int
 |0=>λ_=>1|k+1=>J4 λx xs=>rk k (CW x xs)
theorem o0(l:List b9):rk 0 l=1:=rfl
theorem uW(k:Nat):rk (k+1) []=0:=rfl
theorem gu(k:Nat)(x:b9)(xs:List b9):rk (k+1) (x::xs)=rk (k+1) xs+rk k (CW x xs):=by show rk k (CW x xs)+rk (k+1) xs=_;omega
theorem AF(k i:Nat)(b:List b9)(a:∀c∈b,i<c.1):∀r:List Nat,rk (k+1) (jr i r++b)=rk (k+1) b+bN r λc=>rk k (b.filter λy=> !(c==y.2))
 |[]=>by
  show rk (k+1) b=_;rw[cB];omega
 |c::r=>by
  show rk (k+1) ((i,c)::(jr i r++b))=_;rw[gu,AF k i b a r,aQ];have e:CW (i,c) (jr i r++b)=b.filter λy=> !(c==y.2):=by
   unfold CW;rw[OZ,sk (l:=jr i r) λy f=> ?_,List.nil_append]
   ·refine List.filter_congr λy f=> ?_
    have:=a y f;unfold att;have g:(i==y.1)=false:=by simp;omega
    show(!((i==y.1)||(c==y.2)))=_;rw[g,Bool.false_or]
   ·obtain⟨d,_,rfl⟩:=MZ.mp f
    simp[att]
  rw[e];omega
noncomputable def freeC(T:List Nat)(l:List b9):List b9:=l.filter λc=> !T.contains c.2
theorem kx:∀(rs:List (List Nat))(k i:Nat)(T:List Nat),rk k (freeC T (eW i rs))=cnt rs T k
 |rs,0,i,T=>by rw[o0,aV]|[],k+1,i,T=>by rw[cnt];rfl|r::rs,k+1,i,T=>by
  have e:freeC T (eW i (r::rs))=jr i (r.filter λc=> !T.contains c)++freeC T (eW (i+1) rs):=by
   unfold freeC;rw[eW,OZ]
   congr 1
   unfold jr;rw[List.filter_map];rfl
  rw[e,AF k i _ (λc a=>by have:=(mN (i+1) rs c (M6.mp a).1).1;omega),kx rs (k+1) (i+1) T,cnt];refine ND (_+·) (bL λc _=> ?_);rw[<- kx rs k (i+1) (c::T)]
  congr 1
  unfold freeC;rw[List.filter_filter];refine List.filter_congr λy _=> ?_;rw[Oa,Bool.not_or]
  congr 1
  rw[NI];simp only[Nj,OP,ne_eq];exact⟨λh z=>h z.symm,λh z=>h z.symm⟩
theorem jT(l:List b9):freeC [] l=l:=by unfold freeC;exact List.filter_eq_self.mpr λc _=>rfl
noncomputable def uV(l:List b9):List Int:=((List.range 65).map λk=>rk k l).filter λn=>decide (0<n)
end IR
namespace IR
open PySem L2
set_option tactic.hygienic false
theorem eD:∀(k:Nat)(l:List b9),0<=rk k l
 |0,l=>by rw[o0];omega|k+1,[]=>by rw[uW];omega|k+1,x::xs=>by
  rw[gu];have b:=eD (k+1) xs;have a:=eD k (CW x xs);omega
theorem o5:∀(k:Nat)(l:List b9),0<rk (k+1) l->0<rk k l
 |0,l,_=>by rw[o0];omega|k+1,[],h=>by rw[uW]at h;omega|k+1,x::xs,h=>by
  rw[gu]at h;rw[gu];have b:=eD (k+1) xs;have d:=eD k (CW x xs);have a:=o5 (k+1) xs;have c:=o5 k (CW x xs);omega
theorem Dc(x:b9)(l:List b9):(CW x l).length<=l.length:=NG _ _
theorem o4:∀(k:Nat)(l:List b9),l.length<k->rk k l=0
 |0,l,h=>by omega|k+1,[],_=>uW k|k+1,x::xs,h=>by
  rw[Ma]at h;have:=Dc x xs;rw[gu,o4 (k+1) xs (by omega),o4 k (CW x xs) (by omega)];rfl
theorem Bh(f:Nat->Int)(h0:∀k,0<=f k)(i:∀k,0<f (k+1)->0<f k):∀N,∃m,m<=N/\((List.range N).map f).filter (λn=>decide (0<n))=(List.range m).map f/\(∀k,k<m->0<f k)/\∀k,m<=k->k<N->f k=0
 |0=>⟨0,Md _,rfl,λk h=>by omega,λk _ h=>by omega⟩|N+1=>by
  obtain⟨m,s,q,l,j⟩:=Bh f h0 i N;rw[Og,Ms,OZ,q]
  by_cases g:0<f N
  ·have c:∀d k,k+d=N->0<f k:=by
    intro d
    induction d with
    |zero=>intro k e;rw[show k=N by omega];exact g|succ d p=>intro k e;exact i k (p (k+1) (by omega))
   have o:m=N:=by
    by_cases z:m=N;exact z
    ·have:=c (N-m) m (by omega)
     have:=j m (Md _) (by omega);omega
   refine⟨N+1,Md _,?_,λk r=>c (N-k) k (by omega),λk a b=>by omega⟩;rw[o,Og,Ms];simp[g]
  ·refine⟨m,by omega,by simp[g],l,λk a b=> ?_⟩
   by_cases z:k=N
   ·subst z;have:=h0 k;omega
   ·exact j k a (by omega)
theorem wE(l:List b9)(e:l.length<=64):∃m,uV l=(List.range m).map (λk=>rk k l)/\(∀k,k<m->0<rk k l)/\∀k,m<=k->rk k l=0:=by
 obtain⟨m,_,d,a,c⟩:=Bh (λk=>rk k l) (λk=>eD k l) (λk=>o5 k l) 65;refine⟨m,d,a,λk b=> ?_⟩
 by_cases z:k<65;exact c k b z;exact o4 k l (by omega)
theorem mO:∀(i:Nat)(rs:List (List Nat)),(∀r∈rs,r.length<=8)->(eW i rs).length<=8*rs.length
 |_,[],_=>Md _|i,r::rs,h=>by
  have c:=mO (i+1) rs λb a =>h b (MS _ a);have d:=h r MT;rw[eW,Ml,Ma];unfold jr;rw[MR];omega
theorem mM(rows:List Str)(d:rows.length<=8)(a:∀z∈rows,z.length<=8):(cE rows).length<=64:=by
 have:=mO 0 (rows.map aH) λr b=>by
  obtain⟨z,c,rfl⟩:=MZ.mp b;unfold aH;refine M8 (NG _ _) ?_;rw[NK];exact a z c
 rw[MR]at this;unfold cE;omega
noncomputable def bk(w j:Nat):Nat:=if j<w then w-1-j else j
noncomputable def ch:Nat->Nat->Nat
 |_,0=>1|0,_+1=>0|n+1,k+1=>ch n (k+1)+ch n k
noncomputable def fl:Nat->Nat->Nat
 |_,0=>1|n,k+1=>n*fl (n-1) k
noncomputable def fn(m n k:Nat):Int:=((ch m k*fl n k:Nat):Int)
theorem zp{a:Type}(l:List a)(f g:a->Int):bN l (λx=>f x+g x)=bN l f+bN l g:=by
 induction l with
 |nil=>rfl|cons x l b=>rw[aQ,aQ,aQ,b];omega
theorem xu{a:Type}{l:List a}{f:a->Int}(h:∀x∈l,f x=0):bN l f=0:=by
 induction l with
 |nil=>rfl|cons x l b=>rw[aQ,h x MT,b λy c=>h y (MS _ c)];rfl
theorem Cy{a:Type}(l:List a)(p:a->Bool)(f:a->Int):bN l (λx=>if p x then f x else 0)=bN (l.filter p) f:=by
 induction l with
 |nil=>rfl|cons x l b =>
  rw[aQ,b,N0];cases p x;simp;simp[aQ]
section
variable(b:Nat->Nat->Bool)
noncomputable def gU:List Nat->List Nat->Nat->Int
 |[],_,j=>if j=0 then 1 else 0|i::L,C,j=>bN C λc=>if b i c then(if j=0 then 0 else gU L (C.erase c) (j-1))else gU L (C.erase c) j
end
theorem xw{a b:Type}(l:List a)(g:a->b)(f:b->Int):bN (l.map g) f=bN l λx=>f (g x):=by unfold bN;rw[M4];rfl
theorem nP{a:Type}(l b :List a)(f:a->Int):bN (l++b) f=bN l f+bN b f:=by unfold bN;rw[Ms,List.sum_append]
noncomputable abbrev bQ:=List (List Int×Int)
noncomputable def ef(c:bQ)(k:List Int):Option Int:=(c.find? λp=>decide (p.1=k)).map (·.2)
noncomputable def putN(c:bQ)(k:List Int)(v:Int):bQ:=if(c.any λp=>decide (p.1=k))=true then c.map (λp=>if p.1=k then(p.1,v)else p)else c++[(k,v)]
noncomputable def vg(c:bQ)(k:List Int)(n:Int):bQ:=putN c k ((ef c k).getD 0+n)
noncomputable def eE(k:List Int)(c:Int):List Int:=sortI (k++[c])
noncomputable def eA(t:List Int)(n:Int)(f:bQ)(c:Int):bQ:=if t.contains c then f else vg f (eE t c) n
noncomputable def kl(B:List Int)(f:bQ)(p:List Int×Int):bQ:=B.foldl (eA p.1 p.2) f
noncomputable def nr(B:List Int)(c:bQ):bQ:=c.foldl (kl B) c
noncomputable def fG(a:List (List Int)):bQ:=a.foldl (λc B=>nr B c) [([],1)]
noncomputable def wN(a:List Int->Int)(c:bQ):Int:=bN c λp=>p.2*a p.1
theorem iY{c:bQ}:(c.any λp=>decide (p.1=k))=true↔k∈c.map (·.1):=by rw[No,MZ];exact⟨fun⟨p,h,e⟩=>⟨p,h,M3 e⟩,fun⟨p,h,e⟩=>⟨p,h,Mj e⟩⟩
theorem BX(h:k∉c.map (·.1)):ef c k=none:=by unfold ef;rw[P0.mpr λp a z=>h (MZ.mpr ⟨p,a,M3 z⟩)];rfl
theorem JD(a:List Int->Int):∀{c:bQ},(c.map (·.1)).Nodup->wN a (vg c k n)=wN a c+n*a k:=by
 have d:∀{c:bQ}{w:Int},(c.map (·.1)).Nodup->k∈c.map (·.1)->wN a (c.map λp=>if p.1=k then(p.1,w)else p)=wN a c+(w-(ef c k).getD 0)*a k:=by
  intro c w
  induction c with
  |nil=>intro _ h;simp at h|cons p c l =>
   intro b h;rw[Mg,Mx]at b;unfold wN;rw[Mg,aQ,aQ]
   by_cases e:p.1=k
   ·rw[MX e]
    have g:k∉c.map (·.1):=λz=>b.1 (e▸z);have j:c.map (λp=>if p.1=k then(p.1,w)else p)=c:=by
     refine(NV λq m=> ?_).trans (List.map_id c);rw[MV λz=>g (MZ.mpr ⟨q,m,z⟩)];rfl
    have f:ef (p::c) k=some p.2:=by unfold ef;rw[List.find?_cons_of_pos (by simpa using e)];rfl
    rw[j,f,<-e];simp only[Option.getD_some,Int.sub_mul];omega
   ·rw[MV e]
    have i:k∈c.map (·.1):=by
     rw[Mg,Mh]at h;exact h.resolve_left λz=>e z.symm
    have:=l b.2 i;unfold wN at this;have f:ef (p::c) k=ef c k:=by unfold ef;rw[List.find?_cons_of_neg (by simpa using e)]
    rw[this,f];omega
 intro c b;unfold vg putN
 by_cases h:k∈c.map (·.1)
 ·rw[MX (iY.mpr h),d b h]
  have:(ef c k).getD 0+n-(ef c k).getD 0=n:=by omega
  rw[this]
 ·rw[MV λz=>h (iY.mp z),BX h]
  unfold wN;rw[nP,aQ,cB];simp
theorem zA(d:(c.map (·.1)).Nodup):((vg c k n).map (·.1)).Nodup/\∀q,q∈(vg c k n).map (·.1)↔q∈c.map (·.1)\/q=k:=by
 unfold vg putN
 by_cases h:k∈c.map (·.1)
 ·rw[MX (iY.mpr h)]
  have e:(c.map λp=>if p.1=k then(p.1,(ef c k).getD 0+n)else p).map (·.1)=c.map (·.1):=by
   rw[M4];refine NV λp _=> ?_;show(if p.1=k then(p.1,_)else p).1=p.1
   split<;>rfl
  rw[e];exact⟨d,λq=>⟨.inl,λz=>z.elim id λe=>e▸h⟩⟩
 ·rw[MV λz=>h (iY.mp z),Ms]
  refine⟨?_,λq=>by simp⟩;rw[Na];exact⟨d,by simp,λa f b g e=>h (by rw[<- (show b=k by simpa using g),<-e];exact f)⟩
def cS(k:List Int):Prop:=k.Pairwise (·<·)/\∀c∈k,0<=c/\c<8
def bX(c:bQ):Prop:=(c.map (·.1)).Nodup/\∀k∈c.map (·.1),cS k
theorem gQ(k:List Int)(c:Int):(eE k c).Perm (c::k):=(sortI_perm _).trans (List.perm_append_singleton c k)
theorem rh(h:cS k)(d:0<=c/\c<8)(b:c∉k):cS (eE k c):=by
 have p:=gQ k c;have e:(eE k c).Nodup:=p.nodup_iff.mpr (Mx.mpr ⟨b,h.1.imp λh=>Int.ne_of_lt h⟩);refine⟨?_,λx a=> ?_⟩
 ·have s:=qv (k++[c])
  exact(s.and e).imp λh=>by omega
 ·rcases Mh.mp (p.mem_iff.mp a)with rfl|a
  ·exact d
  ·exact h.2 x a
set_option tactic.hygienic true in
theorem qt(h:bX f)(i:cS t)(g:0<=c/\c<8):bX (eA t n f c)/\(∀k∈f.map (·.1),k∈(eA t n f c).map (·.1)):=by
 unfold eA
 split;exact⟨h,λk d=>d⟩
 ·rename_i e
  obtain⟨a,b⟩:=zA (k:=eE t c) (n:=n) h.1;refine⟨⟨a,λk d=> ?_⟩,λk d=>(b k).mpr (.inl d)⟩
  rcases(b k).mp d with d|rfl
  ·exact h.2 k d
  ·exact rh i g (by simpa using e)
theorem iJ{t:List Int}{n:Int}(a:cS t):∀{B:List Int}{f:bQ},bX f->(∀c∈B,0<=c/\c<8)->bX (B.foldl (eA t n) f)
 |[],f,h,_=>h|c::B,f,h,hB=>by
  rw[Ni];exact iJ a (qt h a (hB c MT)).1 λd b=>hB d (MS _ b)
theorem ln{B:List Int}(a:∀c∈B,0<=c/\c<8):∀{c f:bQ},bX f->(∀p∈c,cS p.1)->bX (c.foldl (kl B) f)
 |[],f,h,_=>h|p::c,f,h,hc=>by
  rw[Ni];exact ln a (iJ (n:=p.2) (hc p MT) h a) λq b=>hc q (MS _ b)
theorem A5(b:∀c∈B,0<=c/\c<8)(h:bX c):bX (nr B c):=ln b h λp a=>h.2 _ (MZ.mpr ⟨p,a,rfl⟩)
theorem Da:bX [([],1)]:=⟨by simp,λk a=>by
 have:k=[]:=by simpa using a
 subst this;exact⟨.nil,λc b=>nomatch b⟩⟩
noncomputable def JH(a:List Int->Int)(B:List Int)(t:List Int):Int:=bN B λc=>if t.contains c then 0 else a (eE t c)
theorem xC(a:List Int->Int){t:List Int}{n:Int}(b:cS t):∀{B:List Int}{f:bQ},bX f->(∀c∈B,0<=c/\c<8)->wN a (B.foldl (eA t n) f)=wN a f+n*JH a B t
 |[],f,h,_=>by unfold JH;rw[cB];simp|c::B,f,h,hB=>by
  rw[Ni,xC a b (qt h b (hB c MT)).1 λd e=>hB d (MS _ e)];unfold JH eA;rw[aQ]
  split;rw[O6]
  ·rw[JD a h.1,Int.mul_add]
   omega
theorem xB(a:List Int->Int){B:List Int}(b:∀c∈B,0<=c/\c<8):∀{c f:bQ},bX f->(∀p∈c,cS p.1)->wN a (c.foldl (kl B) f)=wN a f+wN (JH a B) c
 |[],f,h,_=>by unfold wN;rw[cB,List.foldl_nil];simp|p::c,f,h,hc=>by
  rw[Ni,xB a b (f:=kl B f p) (iJ (n:=p.2) (hc p MT) h b) λq d=>hc q (MS _ d)];unfold kl;rw[xC a (hc p MT) h b];unfold wN;rw[aQ];omega
theorem Di(a:List Int->Int)(d:∀c∈B,0<=c/\c<8)(h:bX c):wN a (nr B c)=wN (λt=>a t+JH a B t) c:=by unfold nr;rw[xB a d h λp b=>h.2 _ (MZ.mpr ⟨p,b,rfl⟩)];unfold wN;rw[<- zp];refine bL λp _=> ?_;rw[Int.mul_add]
noncomputable def rf(t:List Int):List Nat:=t.map Int.toNat
noncomputable def mZ(a:List (List Nat))(k:Nat)(t:List Int):Int:=if t.length<=k then cnt a (rf t) (k-t.length)else 0
theorem qZ(h:∀p∈c,a p.1=χ p.1):wN a c=wN χ c:=bL λp b=>by rw[h p b]
theorem lT(h:cS t)(c:Nat):c∈rf t↔(c:Int)∈t:=by
 unfold rf;rw[MZ]
 constructor
 ·rintro⟨x,a,rfl⟩
  have:=h.2 x a;rw[Int.toNat_of_nonneg this.1];exact a
 ·exact λb=>⟨_,b,Nt c⟩
theorem Ae(o:∀c∈r,c<8)(k:Nat)(h:cS t):mZ f k t+JH (mZ f k) (r.map λc=>((c:Nat):Int)) t=mZ (r::f) k t:=by
 have ct:∀c:Nat,t.contains (c:Int)=(rf t).contains c:=λc=>by
  rw[NI,My,My];exact(lT h c).symm
 have n:∀c:Int,(eE t c).length=t.length+1:=λc=>by rw[(gQ t c).length_eq,Ma]
 unfold JH;rw[xw];have e:∀c∈r,(if t.contains ((c:Nat):Int)then 0 else mZ f k (eE t ((c:Nat):Int)))=if !(rf t).contains c then(if t.length+1<=k then cnt f (c::rf t) (k-(t.length+1))else 0)else 0:=λc i=>by
  rw[ct c];cases m:(rf t).contains c with
  |true=>rfl|false =>
   simp only[PM,PR,Bool.not_false,Pe];unfold mZ;rw[n]
   split
   ·refine cM f _ λp _ d _=> ?_
    have ok:=rh h (show(0:Int)<=((c:Nat):Int)/\((c:Nat):Int)<8 from⟨by omega,by have:=o c i;omega⟩) (λz=>by have:=(My (a:=((c:Nat):Int)) (as:=t)).mpr z;rw[ct c,m]at this;cases this);rw[NI,My,My,lT ok,(gQ t _).mem_iff,Mh,Mh,lT h]
    constructor
    ·rintro(z|z)
     ·exact .inl (by omega)
     ·exact .inr z
    ·rintro(z|z)
     ·exact .inl (by omega)
     ·exact .inr z
   ·rfl
 rw[bL e,Cy];unfold mZ
 by_cases g:t.length+1<=k
 ·obtain⟨j,l⟩:∃j,k-t.length=j+1:=⟨k-t.length-1,by omega⟩
  simp only[MX g];rw[MX (by omega),MX (by omega),l,cnt,show k-(t.length+1)=j by omega]
 ·simp only[MV g]
  rw[xu λ_ _=>rfl,Int.add_zero]
  by_cases b:t.length<=k
  ·rw[MX b,MX b,show k-t.length=0 by omega,aV,aV]
  ·rw[MV b,MV b]
theorem gL(a:List (List Int))(B:List Int):fG (a++[B])=nr B (fG a):=by unfold fG;rw[OL];rfl
noncomputable def jX(r:List Nat):List Int:=r.map λc=>((c:Nat):Int)
theorem rD:∀(rows:List (List Nat)),dJ rows->bX (fG (rows.map jX)):=by intro rows;refine dG (P:=λrows=>dJ rows->bX (fG (rows.map jX))) (λ_=>Da) (λl r g h=> ?_) rows;rw[Ms,Mg,N2,gL];refine A5 (λc f=> ?_) (g λb a =>h b (M9 _ a));obtain⟨d,e,rfl⟩:=MZ.mp f;have:=h r (by simp) d e;omega
theorem DB(k:Nat):∀(rows b:List (List Nat)),dJ rows->dJ b->wN (mZ b k) (fG (rows.map jX))=cnt (rows++b) [] k:=by
 intro rows;refine dG (P:=λrows=>∀b,dJ rows->dJ b->wN (mZ b k) (fG (rows.map jX))=cnt (rows++b) [] k) (λb _ _=> ?_) (λl r n b h h' => ?_) rows
 ·show wN _ [([],1)]=_
  unfold wN mZ;rw[aQ,cB];simp[rf]
 ·have g:dJ l:=λe a =>h e (M9 _ a)
  have f:∀c∈r,c<8:=h r (by simp);have ok:=rD l g;rw[Ms,Mg,N2,gL,Di _ (λc j=>by
   obtain⟨d,i,rfl⟩:=MZ.mp j;have:=f d i;omega) ok]
  rw[qZ (χ:=mZ (r::b) k) λp m=>Ae f k (ok.2 _ (MZ.mpr ⟨p,m,rfl⟩)),n (r::b) g λe a =>by
   rcases Mh.mp a with rfl|a
   ·exact f
   ·exact h' e a,Nb]
  rfl
theorem jJ(rows:List (List Nat))(h:dJ rows)(k:Nat):wN (λt=>if t.length=k then 1 else 0) (fG (rows.map jX))=cnt rows [] k:=by
 have:=DB k rows [] h (λr a=>nomatch a);rw[NU]at this;rw[<- this];refine qZ λp _=> ?_;unfold mZ
 by_cases e:p.1.length=k
 ·rw[MX e,MX (by omega),show k-p.1.length=0 by omega,aV]
 ·rw[MV e]
  split
  ·obtain⟨j,b⟩:∃j,k-p.1.length=j+1:=⟨k-p.1.length-1,by omega⟩
   rw[b];rfl
  ·rfl
noncomputable def gm:List Int->List (List Int)
 |[]=>[[]]|c::r=>gm r++(gm r).map (c::·)
theorem rX:∀r:List Int,[]∈gm r
 |[]=>by simp[gm]|c::r=>M9 _ (rX r)
theorem lO:∀{r k:List Int},r.Pairwise (·<·)->k.Pairwise (·<·)->(∀x∈k,x∈r)->k∈gm r
 |r,[],_,_,_=>rX r|[],a::k,_,_,h=>by have:=h a MT;cases this|c::r,a::k,hr,hk,h=>by
  rw[OG]at hr hk;rw[gm,M7]
  by_cases e:a=c
  ·refine .inr (MZ.mpr ⟨k,lO hr.2 hk.2 λx b=> ?_,by rw[e]⟩)
   have:=hk.1 x b
   rcases Mh.mp (h x (MS _ b))with z|z
   ·omega
   ·exact z
  ·have f:a∈r:=(Mh.mp (h a MT)).resolve_left e
   have d:=hr.1 a f;refine .inl (lO hr.2 (OG.mpr hk) λx b=> ?_)
   rcases Mh.mp (h x b)with z|z
   ·rcases Mh.mp b with y|y
    ·omega
    ·have:=hk.1 x y
     omega
   ·exact z
noncomputable def ww(k:List Int):Int:=reduceHash (Builtin.Tuple.tupleHashOf (k.map hashInt))
theorem uF:((gm [0,1,2,3,4,5,6,7]).map ww).Nodup:=by decide +kernel
theorem yM{d i:Type}{f:d->i}{l:List d}(h:(l.map f).Nodup):∀x∈l,∀y∈l,f x=f y->x=y:=by
 induction l with
 |nil=>intro x b;cases b|cons a l g =>
  rw[Mg,Mx]at h;intro x b y c e;rw[Mh]at b c
  rcases b with b|b<;>rcases c with c|c
  ·rw[b,c]
  ·exact absurd (MZ.mpr ⟨y,c,by rw[<- e,b]⟩) h.1
  ·exact absurd (MZ.mpr ⟨x,b,by rw[e,c]⟩) h.1
  ·exact g h.2 x b y c e
theorem lb(h:cS k):k∈gm [0,1,2,3,4,5,6,7]:=by
 refine lO (by decide) h.1 λx a=> ?_;have:=h.2 x a;have:x=0\/x=1\/x=2\/x=3\/x=4\/x=5\/x=6\/x=7:=by omega
 simpa using this
noncomputable def ba(c:bQ):List (List L2.ak×V):=c.map λp=>(p.1.map Sum.inl,V.int p.2)
theorem CN(P:Program)(w:World)(h:bX c):L2.Apart P w ((ba c).map (·.1)):=by
 unfold L2.Apart ba;rw[M4,M4];have e:((tupleKeyHash (aY P w)∘λx:List L2.ak×V=>x.1)∘λp:List Int×Int=>(p.1.map Sum.inl,V.int p.2))=λp=>ww p.1:=by
  funext p
  show reduceHash (Builtin.Tuple.tupleHashOf ((p.1.map Sum.inl).map (aY P w).hash))=_;rw[M4];rfl
 rw[e];have j:c.map (λp=>ww p.1)=(c.map (·.1)).map ww:=by rw[M4];rfl
 rw[j];refine List.Pairwise.map _ (R:=λa b=>a≠b/\cS a/\cS b) (λa b d z=>d.1 (yM uF a (lb d.2.1) b (lb d.2.2) z)) ?_;exact h.1.imp_of_mem λg i f=>⟨f,h.2 _ g,h.2 _ i⟩
theorem iK(c:bQ):(ba c).length=c.length:=by unfold ba;rw[MR]
theorem pV{a:List Int}:a.map (Sum.inl:Int->L2.ak)=b.map Sum.inl↔a=b:=by
 constructor
 ·intro h
  induction a generalizing b with
  |nil=>cases b with
   |nil=>rfl|cons y b=>cases h
  |cons x a c=>cases b with
   |nil=>cases h|cons y b =>
    rw[Mg,Mg,List.cons.injEq]at h;rw[Sum.inl.inj h.1,c h.2]
 ·rintro rfl
  rfl
theorem mF(c:bQ)(k:List Int):d6 (ba c) (k.map Sum.inl)=(ef c k).map V.int:=by
 unfold d6 ba ef;rw[List.find?_map];have e:((λp:List L2.ak×V=>decide (p.1=k.map Sum.inl))∘λp:List Int×Int=>(p.1.map Sum.inl,V.int p.2))=λp=>decide (p.1=k):=by
  funext p
  simp only[Function.comp,pV]
 rw[e];cases c.find? λp=>decide (p.1=k)<;>rfl
theorem Bq(c:bQ)(k:List Int)(v:Int):cz (ba c) (k.map Sum.inl) (V.int v)=ba (putN c k v):=by
 unfold cz putN;have a:((ba c).any λb=>decide (b.1=k.map Sum.inl))=(c.any λp=>decide (p.1=k)):=by
  unfold ba;rw[List.any_map]
  congr 1
  funext p
  simp only[Function.comp,pV]
 rw[a]
 split
 ·unfold ba
  rw[M4,M4];refine NV λp _=> ?_;simp only[Function.comp,pV]
  split<;>rfl
 ·unfold ba
  rw[Ms];rfl
theorem xG{j:Nat}(h:(ba c)[j]? =some (k,x)):∃t n,c[j]? =some (t,n)/\k=t.map Sum.inl/\x=.int n:=by
 unfold ba at h;rw[Mi]at h;cases e:c[j]? with
 |none=>rw[e]at h;cases h|some p =>
  rw[e]at h;have h:=Mv h;rw[Prod.mk.injEq]at h;exact⟨p.1,p.2,rfl,h.1.symm,h.2.symm⟩
theorem lf(t:List Int):(t.map (Sum.inl:Int->L2.ak)).map kV=t.map V.int:=by rw[M4];rfl
theorem lL{b:Type}[DecidableEq b]:∀{l L:List b},l.Nodup->(∀x∈l,x∈L)->l.length<=L.length
 |[],L,_,_=>NH _|a::l,L,h,hs=>by
  rw[Mx]at h;have c:=hs a MT;have:=lL (L:=L.erase a) h.2 λx d=>(List.mem_erase_of_ne (λz:x=a=>h.1 (by rw[<- z];exact d))).mpr (hs x (MS _ d));rw[QA c]at this;have:=List.length_pos_of_mem c;rw[Ma];omega
theorem bX.few(h:bX c):c.length<=256:=by have d:(c.map (·.1)).Nodup:=h.1;have a:∀k∈c.map (·.1),k∈gm [0,1,2,3,4,5,6,7]:=λk b=>lb (h.2 k b);have:=lL d a;rw[MR]at this;exact M8 this (by decide)
theorem cS.len(h:cS k):k.length<=8:=by
 refine lL (L:=[0,1,2,3,4,5,6,7]) (h.1.imp λh=>Int.ne_of_lt h) λx a=> ?_;have:=h.2 x a;have:x=0\/x=1\/x=2\/x=3\/x=4\/x=5\/x=6\/x=7:=by omega
 simpa using this
theorem sW:∀{j:Nat},(c.map (·.1)).Nodup->c[j]? =some (t,n)->ef c t=some n:=by
 induction c with
 |nil=>intro j _ h;simp at h|cons p c b =>
  intro j a h;rw[Mg,Mx]at a;unfold ef;cases j with
  |zero =>
   simp at h;subst h;rw[List.find?_cons_of_pos (by simp)];rfl
  |succ j =>
   have h:c[j]? =some (t,n):=by simpa using h
   rw[List.find?_cons_of_neg (by simpa using λz:p.1=t=>a.1 (z▸MZ.mpr ⟨_,Mw h,rfl⟩))];exact b a.2 h
noncomputable def kh(rows:List Str):bQ:=fG ((rows.map aH).map jX)
noncomputable def gW(c:bQ):List Int:=(List.range 10).map λj=>wN (λt=>if t.length=j then 1 else 0) c
noncomputable def jq:List PV->Option PV
 |[.tup ls]=>(jp ls).bind λrows=>if rows.length<=8/\(rows.all λz=>decide (z.length<=8))=true then some (.lst ((d7 (gW (kh rows))).map PV.int))else none|_=>none
noncomputable def fx(x:Int):Nat->Int
 |0=>1|m+1=>fx x m*(x-m)
end IR
namespace IR
end IR
namespace IR
end IR
namespace IR
open PySem L2
end IR
namespace IR
open PySem
end IR
namespace L2
open SQ
set_option tactic.hygienic false
theorem Df(b:m<256)(a:u<8):v∈lst (put m u)↔v∈lst m\/v=u:=by
 by_cases h:u∈lst m
 ·rw[AN h]
  exact⟨.inl,λz=>z.elim id λe=>e▸h⟩
 ·obtain⟨-,-,e,-,-⟩:=la b a h true
  rw[e,M7,Mh];have:v∈lst m↔v∈(lst m).take (kH m u)\/v∈(lst m).drop (kH m u):=by
   rw[<- M7,List.take_append_drop]
  rw[this]
  constructor
  ·rintro(z|z|z)
   ·exact .inl (.inl z)
   ·exact .inr z
   ·exact .inl (.inr z)
  ·rintro((z|z)|z)
   ·exact .inl z
   ·exact .inr (.inr z)
   ·exact .inr (.inl z)
theorem lQ{f:Nat->Nat}{v:Nat}:∀{k i m:Nat},(∀j,j<k->f (i+j)<8)->m<256->(v∈lst (oy f k i m)↔v∈lst m\/∃j,j<k/\f (i+j)=v)
 |0,i,m,_,_=>⟨.inl,λz=>z.elim id fun⟨j,h,_⟩=>absurd h (Nat.not_lt_zero _)⟩|k+1,i,m,hf,hm=>by
  unfold oy;have h0:=hf 0 (by omega);rw[Nat.add_zero]at h0;rw[lQ (λj a=>by rw[show i+1+j=i+(j+1)by omega];exact hf (j+1) (by omega)) (Dq hm h0 true).2,Df hm h0]
  constructor
  ·rintro((z|z)|⟨j,a,e⟩)
   ·exact .inl z
   ·exact .inr ⟨0,by omega,z.symm⟩
   ·exact .inr ⟨j+1,by omega,by rw[<- e];congr 1;omega⟩
  ·rintro(z|⟨j,a,e⟩)
   ·exact .inl (.inl z)
   ·cases j with
    |zero=>exact .inl (.inr e.symm)|succ j=>exact .inr ⟨j,by omega,by rw[<- e];congr 1;omega⟩
theorem lR(h:∀n∈b,0<=n/\n<8):n∈cD b↔n∈b:=by
  unfold cD maskOf;rw[MZ];have c :∀j,j<b.length->b.getD j 0∈b:=λj a=>by
    rw[Me,Mf a];exact Oq a
  have d:∀j,j<b.length->(b.getD (0+j) 0).toNat<8:=λj a=>by
    rw[Nw];have:=h _ (c j a);omega
  constructor
  · rintro⟨v,g,rfl⟩
    rw[lQ d (by omega)]at g
    rcases g with z|⟨j,a,e⟩
    · exact absurd z (by have:lst 0=[]:=by decide +kernel
                         rw[this];simp)
    · rw[Nw]at e
      have:=h _ (c j a);rw[<- e,Int.toNat_of_nonneg this.1];exact c j a
  · intro f
    obtain⟨j,a,e⟩:=List.getElem_of_mem f;refine⟨n.toNat,(lQ d (by omega)).mpr (.inr ⟨j,a,?_⟩),Int.toNat_of_nonneg (h n f).1⟩;rw[Nw,Me,Mf a,e];rfl
theorem pE(a:List Int):(cD a).Pairwise (·<·):=by unfold cD;rw[P6];exact(lV _).imp λz=>by omega
theorem gP(a:List Int):(cD a).Nodup:=(pE a).imp λh=>by omega
theorem Ao(h:∀n∈c,0<=n/\n<8)(s:c.Pairwise (·<·)):cD c=c:=by
 have d:c.Nodup:=s.imp λh=>by omega
 have p:(cD c).Perm c:=(List.perm_ext_iff_of_nodup (gP c) d).mpr λn=>lR h;exact p.eq_of_pairwise (λa b _ _ e f=>by omega) (pE c) s
theorem FS{b:Type}[DecidableEq b]:∀{c:List b},¬c.Nodup->∃a:List b,a.length<c.length/\∀x∈c,x∈a
 |[],h=>absurd List.nodup_nil h|x::r,h=>by
  by_cases e:x∈r
  ·exact⟨r,by simp,λy d=>by rcases Mh.mp d with z|z;exact z▸e;exact z⟩
  ·have:¬r.Nodup:=λz=>h (Mx.mpr ⟨e,z⟩)
   obtain⟨a,f,g⟩:=FS this;refine⟨x::a,by simpa using f,λy d=> ?_⟩
   rcases Mh.mp d with z|z
   ·exact z▸MT
   ·exact MS _ (g y z)
theorem rW(h:∀n∈a,0<=n/\n<8):(cD a).length=a.length↔a.Nodup:=by
 constructor
 ·intro e
  apply Nq
  intro b;obtain⟨f,g,d⟩:=FS b;have:=List.Nodup.length_le_of_subset (gP a) (λx c=>d x ((lR h).mp c));omega
 ·intro b
  exact((List.perm_ext_iff_of_nodup (gP a) b).mpr λn=>lR h).length_eq
theorem ng(h:∀n∈a,0<=n/\n<8):a=cD a↔a.Pairwise (·<·) := ⟨λe=>by rw[e];exact pE a,λs=>(Ao h s).symm⟩
end L2
namespace OD
section
variable{α:Type}[DecidableEq α](ok:List α->α->Bool)
noncomputable def cnt:List α->List α->Nat->Nat
 |_,_,0=>1|_,[],_+1=>0|b,c::L,m+1=>(if ok b c then cnt (b++[c]) L m else 0)+cnt b L (m+1)
inductive Lg:List α->List α->List α->Prop
 | nil {b L}:Lg b L []
 | take {b c L p}:ok b c=true->Lg (b++[c]) L p->Lg b (c::L) (c::p)
 | skip {b c L p}:Lg b L p->Lg b (c::L) p
noncomputable def jt:List α->List α->List α->Nat
 |_,_,[]=>0|_,[],_::_=>0|b,c::L,x::p=>if x=c then jt (b++[c]) L p else(if ok b c then cnt ok (b++[c]) L p.length else 0)+jt b L (x::p)
noncomputable def jo:List α->List α->Nat->Nat->List α
 |_,_,0,_=>[]|_,[],_+1,_=>[]|b,c::L,m+1,n=>if ok b c then(if n<cnt ok (b++[c]) L m then c::jo (b++[c]) L m n else jo b L (m+1) (n-cnt ok (b++[c]) L m))else jo b L (m+1) n
variable{ok}
set_option tactic.hygienic false
theorem aV(b L:List α):cnt ok b L 0=1:=by cases L<;>rfl
theorem fh(b L:List α):jt ok b L []=0:=by cases L<;>rfl
theorem bM(b L:List α)(n:Nat):jo ok b L 0 n=[]:=by cases L<;>rfl
theorem Lg.sub(h:Lg ok b L p):∀x∈p,x∈L:=by
 induction h with
 |nil=>intro x a;cases a|take _ _ c =>
  intro x a
  rcases Mh.mp a with rfl|a
  ·exact MT
  ·exact MS _ (c x a)
 |skip _ c=>exact λx a=>MS _ (c x a)
theorem Lg.at_nil(h:Lg ok b [] p):p=[]:=by cases h;rfl
theorem Lg.at_take(d:c∉L)(h:Lg ok b (c::L) (c::p)):ok b c=true/\Lg ok (b++[c]) L p:=by
 cases h with
 |take a e=>exact⟨a,e⟩|skip h=>exact absurd (h.sub c MT) d
theorem Lg.at_skip(a:x≠c)(h:Lg ok b (c::L) (x::p)):Lg ok b L (x::p):=by
 cases h with
 |take d e=>exact absurd rfl a|skip h=>exact h
theorem gM:∀(L b p:List α),L.Nodup->Lg ok b L p->jt ok b L p<cnt ok b L p.length
 |L,b,[],_,_=>by rw[fh,ON,aV];decide|[],b,x::p,_,h=>by cases h.at_nil|c::L,b,x::p,hn,h=>by
  obtain⟨f,a⟩:=Mx.mp hn;rw[jt,Ma,cnt]
  by_cases e:x=c
  ·subst e
   obtain⟨d,g⟩:=h.at_take f;rw[MX rfl,MX d];have:=gM L (b++[x]) p a g;omega
  ·rw[MV e]
   have:=gM L b (x::p) a (h.at_skip e);rw[Ma]at this;omega
theorem oY:∀(L b p:List α),L.Nodup->Lg ok b L p->jo ok b L p.length (jt ok b L p)=p
 |L,b,[],_,_=>by rw[ON,bM]|[],b,x::p,_,h=>by cases h.at_nil|c::L,b,x::p,hn,h=>by
  obtain⟨i,a⟩:=Mx.mp hn;rw[jt,Ma,jo]
  by_cases e:x=c
  ·subst e
   obtain⟨g,d⟩:=h.at_take i;rw[MX rfl,MX g,MX (gM L (b++[x]) p a d),oY L (b++[x]) p a d]
  ·have d:=h.at_skip e
   have f:=oY L b (x::p) a d;rw[Ma]at f;rw[MV e]
   by_cases o:ok b c=true;rw[MX o,MX o,MV (by omega),Nat.add_sub_cancel_left,f]
   ·rw[MV o,MV o,Nw,f]
theorem jD:∀(L b:List α)(m n:Nat),L.Nodup->n<cnt ok b L m->Lg ok b L (jo ok b L m n)/\(jo ok b L m n).length=m/\jt ok b L (jo ok b L m n)=n
 |L,b,0,n,_,h=>by
  rw[aV]at h;rw[bM,fh];exact⟨.nil,rfl,by omega⟩
 |[],b,m+1,n,_,h=>by
  rw[cnt]at h;omega
 |c::L,b,m+1,n,hn,h=>by
  obtain⟨j,g⟩:=Mx.mp hn;rw[cnt]at h;rw[jo]
  by_cases o:ok b c=true
  ·rw[MX o]at h ⊢
   by_cases q:n<cnt ok (b++[c]) L m
   ·rw[MX q]
    obtain⟨d,a,f⟩:=jD L (b++[c]) m n g q;refine⟨.take o d,by rw[Ma,a],?_⟩;rw[jt,MX rfl,f]
   ·rw[MV q]
    obtain⟨d,a,f⟩:=jD L b (m+1) (n-cnt ok (b++[c]) L m) g (by omega);refine⟨.skip d,a,?_⟩;cases e:jo ok b L (m+1) (n-cnt ok (b++[c]) L m)with
    |nil=>rw[e]at a;cases a|cons x p =>
     rw[e]at d a f;have i:x≠c:=λz=>j (z▸d.sub x MT);rw[jt,MV i,MX o,f];rw[Ma]at a;have:p.length=m:=by omega
     rw[this];omega
  ·rw[MV o]at h ⊢
   rw[Nw]at h;obtain⟨d,a,f⟩:=jD L b (m+1) n g h;refine⟨.skip d,a,?_⟩;cases e:jo ok b L (m+1) n with
   |nil=>rw[e]at a;cases a|cons x p =>
    rw[e]at d a f;have i:x≠c:=λz=>j (z▸d.sub x MT);rw[jt,MV i,MV o,Nw,f]
variable(lt:α->α->Bool)
noncomputable def lex:List α->List α->Bool
 |[],[]=>false|[],_::_=>true|_::_,[]=>false|x::p,y::q=>if x=y then lex p q else lt x y
variable{lt}
theorem oz:∀(L b p q:List α),L.Nodup->L.Pairwise (λa c=>lt a c=true/\lt c a=false)->Lg ok b L p->Lg ok b L q->p.length=q.length->decide (jt ok b L p<jt ok b L q)=lex lt p q
 |L,b,[],[],_,_,_,_,_=>by
  rw[fh];rfl
 |L,b,[],y::q,_,_,_,_,h=>by cases h|L,b,x::p,[],_,_,_,_,h=>by cases h|[],b,x::p,y::q,_,_,h,_,_=>by cases h.at_nil|c::L,b,x::p,y::q,hn,hs,hp,hq,i=>by
  obtain⟨m,f⟩:=Mx.mp hn;obtain⟨j,k⟩:=OG.mp hs;rw[Ma,Ma]at i;have i:p.length=q.length:=by omega
  rw[jt,jt,lex]
  by_cases l:x=c
  ·subst l
   obtain⟨o,e⟩:=hp.at_take m;rw[MX rfl]
   by_cases g:y=x
   ·subst g
    obtain⟨_,d⟩:=hq.at_take m;rw[MX rfl,MX rfl];exact oz L (b++[y]) p q f k e d i
   ·have d:=hq.at_skip g
    have:=gM L (b++[x]) p f e;have r:x≠y:=λz=>g z.symm;rw[MV g,MX o,MV r,Mj (by rw[i]at this;omega),(j y (d.sub y MT)).1]
  ·have e:=hp.at_skip l
   rw[MV l]
   by_cases g:y=c
   ·subst g
    obtain⟨o,d⟩:=hq.at_take m;have:=gM L (b++[y]) q f d;rw[MX rfl,MX o,MV l,Mq (by rw[i];omega),(j x (e.sub x MT)).2]
   ·have d:=hq.at_skip g
    rw[MV g,i];have n:=oz L b (x::p) (y::q) f k e d (by rw[Ma,Ma,i]);rw[lex]at n;rw[<- n];rw[NI,NL,NL];omega
theorem mK:∀(M L b:List α)(m:Nat),(∀c∈M,ok b c=false)->cnt ok b (M++L) m=cnt ok b L m
 |M,L,b,0,_=>by rw[aV,aV]|[],L,b,m+1,_=>rfl|c::M,L,b,m+1,h=>by
  show cnt ok b (c::(M++L)) (m+1)=_;rw[cnt,MV (by rw[h c MT];decide),Nw,mK M L b (m+1) λx a=>h x (MS _ a)]
end
end OD
namespace OD
section
variable{α:Type}[DecidableEq α]{ok:List α->α->Bool}{lt:α->α->Bool}
set_option tactic.hygienic false
theorem Lg.more(h:Lg ok b L p):Lg ok b (L++[c]) p:=by
 induction h with
 |nil=>exact .nil|take o _ a=>exact .take o a|skip _ a=>exact .skip a
theorem Lg.snoc(h:Lg ok b L p):ok (b++p) c=true->Lg ok b (L++[c]) (p++[c]):=by
 induction h with
 | @nil b L =>
  intro o;rw[NU]at o
  induction L with
  |nil=>exact .take o .nil|cons x L a=>exact .skip a
 | @take b d L p e _ a =>
  intro o;refine .take e (a ?_);rw[Nb];exact o
 |skip _ a=>exact λo=>.skip (a o)
def NB(ok:List α->α->Bool)(W:List α)(a:Nat)(e:List α->Int):Prop:=∀d c L b,W=d++c::L->Lg ok [] d b->ok b c=true->e (b++[c])=if b.length<a then((cnt ok (b++[c]) L (a-b.length-1):Nat):Int)else 0
noncomputable def turn(ok:List α->α->Bool)(a:List α->Int)(s:List α×Int)(c:α):List α×Int :=
 if ok s.1 c then(if s.2<a (s.1++[c])then(s.1++[c],s.2)else(s.1,s.2-a (s.1++[c])))else s
theorem qi{W:List α}{a:Nat}{h:List α->Int}(H:NB ok W a h):∀(L d b:List α)(n:Nat),W=d++L->Lg ok [] d b->b.length<=a->n<cnt ok b L (a-b.length)->(L.foldl (turn ok h) (b,(n:Int))).1=b++jo ok b L (a-b.length) n
 |[],d,b,n,hW,hb,hl,hn=>by
  cases e:a-b.length with
  |zero=>rw[bM,NU];rfl|succ m=>rw[e,cnt]at hn;omega
 |c::L,d,b,n,hW,hb,hl,hn=>by
  have f:W=(d++[c])++L:=by rw[hW,Nb];rfl
  rw[Ni,turn]
  by_cases o:ok b c=true
  ·rw[MX o]
   show(List.foldl (turn ok h) (if(n:Int)<h (b++[c])then(b++[c],(n:Int))else(b,(n:Int)-h (b++[c]))) L).1=_;rw[H d c L b hW hb o];cases e:a-b.length with
   |zero =>
    rw[MV (show¬b.length<a by omega),MV (by omega),bM,NU]
    have g:=qi H L (d++[c]) b n f hb.more hl (by
     rw[e,aV]at hn ⊢;exact hn)
    rw[e,bM,NU]at g;rw[Int.sub_zero];exact g
   |succ m =>
    rw[MX (show b.length<a by omega),PL,jo,MX o];rw[e,cnt,MX o]at hn
    by_cases q:n<cnt ok (b++[c]) L m
    ·have g:=qi H L (d++[c]) (b++[c]) n f (hb.snoc o) (by rw[Ml];simp;omega) (by
      rw[Ml];show n<cnt ok (b++[c]) L (a-(b.length+1));rw[show a-(b.length+1)=m by omega];exact q)
     rw[MX (by omega),MX q,g,Ml];show b++[c]++jo ok (b++[c]) L (a-(b.length+1)) n=_;rw[show a-(b.length+1)=m by omega,Nb];rfl
    ·have g:=qi H L (d++[c]) b (n-cnt ok (b++[c]) L m) f hb.more hl (by rw[e];omega)
     rw[MV (by omega),MV q,show(n:Int)-((cnt ok (b++[c]) L m:Nat):Int)=((n-cnt ok (b++[c]) L m:Nat):Int)by omega,g,e]
  ·rw[MV o]
   have i:n<cnt ok b L (a-b.length):=by
    cases e:a-b.length with
    |zero=>rw[e,aV]at hn;rw[aV];exact hn|succ m=>rw[e,cnt,MV o,Nw]at hn;exact hn
   rw[qi H L (d++[c]) b n f hb.more hl i];cases e:a-b.length with
   |zero=>rw[bM,bM]|succ m=>rw[jo,MV o]
noncomputable def mY(ok:List α->α->Bool)(a:α->α->Bool)(b:List α->Int)(P:List α)(c:α):Int :=
 if c∈P then 0 else if ok (P.filter λx=>a x c) c then b ((P.filter λx=>a x c)++[c])else 0
noncomputable def sumZ(f:α->Int):List α->Int
 |[]=>0|c::L=>f c+sumZ f L
theorem kK{W P:List α}{nb:List α->Int}(hn:W.Nodup)(hs:W.Pairwise λa c=>lt a c=true/\lt c a=false)(H:NB ok W P.length nb):∀(L pre b p:List α),W=pre++L->P=b++p->Lg ok [] pre b->Lg ok b L p->sumZ (mY ok lt nb P) L=((jt ok b L p:Nat):Int)
 |[],pre,b,p,_,_,_,hp=>by
  rw[hp.at_nil];rfl
 |c::L,pre,b,p,hW,hP,hb,hp=>by
  have hW2:W=(pre++[c])++L:=by rw[hW,Nb];rfl
  have cL:c∉L:=by
   rw[hW]at hn;exact(Mx.mp (Na.mp hn).2.1).1
  have cpre:c∉pre:=by
   rw[hW]at hn;exact λz=>(Na.mp hn).2.2 c z c MT rfl
  have sb:∀x∈b,lt x c=true:=λx hx=>by
   rw[hW]at hs;exact((Ny.mp hs).2.2 x (hb.sub x hx) c MT).1
  have sL:∀x∈L,lt x c=false:=λx hx=>by
   rw[hW]at hs;exact((OG.mp (Ny.mp hs).2.1).1 x hx).2
  have skip:c∉p->Lg ok b L p->mY ok lt nb P c=if ok b c then(if 0<p.length then((cnt ok (b++[c]) L (p.length-1):Nat):Int)else 0)else 0:=λcp hp2=>by
   have cP:c∉P:=by
    rw[hP,M7];exact λz=>z.elim (λz=>cpre (hb.sub c z)) cp
   have f:(P.filter λx=>lt x c)=b:=by
    rw[hP,OZ,List.filter_eq_self.mpr sb,List.filter_eq_nil_iff.mpr (λx hx=>by rw[sL x (hp2.sub x hx)];decide),NU]
   have lP:P.length=b.length+p.length:=by rw[hP,Ml]
   unfold mY;rw[MV cP,f]
   by_cases o:ok b c=true
   ·rw[MX o,MX o,H pre c L b hW hb o,lP,show b.length+p.length-b.length-1=p.length-1 by omega]
    by_cases z:0<p.length;rw[MX z,MX (by omega)]
    ·rw[MV z,MV (by omega)]
   ·rw[MV o,MV o]
  cases p with
  |nil =>
   rw[sumZ,skip (by simp) .nil,kK hn hs H L (pre++[c]) b [] hW2 hP hb.more .nil,fh,fh]
   split<;>rfl
  |cons x p =>
   rw[sumZ,jt]
   by_cases e:x=c
   ·subst e
    obtain⟨o,hp2⟩:=hp.at_take cL;have:mY ok lt nb P x=0:=by
     unfold mY;rw[MX (by rw[hP];simp)]
    rw[this,MX rfl,O6,kK hn hs H L (pre++[x]) (b++[x]) p hW2 (by rw[hP,Nb];rfl) (hb.snoc o) hp2]
   ·have hp2:=hp.at_skip e
    rw[MV e,skip (λz=>cL (hp2.sub c z)) hp2,kK hn hs H L (pre++[c]) b (x::p) hW2 hP hb.more hp2];rw[Ma,MX (Nat.succ_pos _),PL]
    split<;>omega
end
end OD
namespace IR
open PySem
noncomputable def sZ(T:Nat)(m:Int):Int:=if Builtin.bitAnd m (T:Int)=0 then 1 else 0
set_option tactic.hygienic false
theorem pd(T m:Nat):sZ T (m:Int)=if m &&& T=0 then 1 else 0:=by
 unfold sZ;rw[tR]
 by_cases h:m &&& T=0;rw[MX h,MX (by omega)]
 ·rw[MV h,MV (by omega)]
theorem wP:a ||| b=0↔a=0/\b=0:=by
 constructor
 ·intro h
  constructor
  ·refine Nat.eq_of_testBit_eq λi=> ?_
   have:=ND (λx=>Nat.testBit x i) h;simp only[Nat.testBit_or,Nat.zero_testBit,Bool.or_eq_false_iff]at this ⊢;exact this.1
  ·refine Nat.eq_of_testBit_eq λi=> ?_
   have:=ND (λx=>Nat.testBit x i) h;simp only[Nat.testBit_or,Nat.zero_testBit,Bool.or_eq_false_iff]at this ⊢;exact this.2
 ·rintro⟨rfl,rfl⟩
  rfl
theorem Bb(T m c:Nat):(if Builtin.bitAnd (m:Int) ((2^c:Nat):Int)=0 then sZ T (Builtin.bitOr (m:Int) ((2^c:Nat):Int))else 0)=if T.testBit c then 0 else sZ (T ||| 2^c) (m:Int):=by
 rw[tR,xQ,pd,pd,Nat.and_or_distrib_right,Nat.and_or_distrib_left];have b:(((m &&& 2^c:Nat):Int)=0)↔m &&& 2^c=0:=by omega
 have e:(2^c &&& T=0)↔T.testBit c=false:=by rw[Nat.and_comm];exact Ep T c
 by_cases a:m &&& 2^c=0
 ·rw[MX (b.mpr a)]
  cases d:T.testBit c with
  |true=>rw[MX rfl,MV (λz=>by have:=e.mp (wP.mp z).2;rw[d]at this;cases this)]|false =>
   rw[MV Mc];have f:=e.mpr d;rw[f,a]
 ·rw[MV (λz=>a (b.mp z)),MV (λz=>a (wP.mp z).2)]
  split<;>rfl
theorem wA(T m:Nat):∀{r:List Nat},(∀c∈r,c<8)->Sb (j9 r) (sZ T) (m:Int)=bN (r.filter λc=> !(mJ T).contains c) λc=>sZ (T ||| 2^c) (m:Int)
 |[],_=>rfl|c::r,h=>by
  have b:Sb (j9 (c::r)) (sZ T) (m:Int)=(if Builtin.bitAnd (m:Int) ((2^c:Nat):Int)=0 then sZ T (Builtin.bitOr (m:Int) ((2^c:Nat):Int))else 0)+Sb (j9 r) (sZ T) (m:Int):=by
   unfold Sb j9;rw[Mg,aQ]
  rw[b,Bb,wA T m λd a=>h d (MS _ a),N0,fq (h c MT)];cases T.testBit c with
  |true=>simp|false=>simp[aQ]
theorem qW{a:Type}(f:a->Int->Int)(t:ac):∀l:List a,dH (λm=>bN l λc=>f c m) t=bN l λc=>dH (f c) t
 |[]=>qY t|c::l=>by
  rw[aQ,<-qW f t l,<-vt];exact jC λp _=>aQ c l λc=>f c p.1
noncomputable def v3:List (List Nat)->List ac
 |[]=>[[(0,1)]]|r::rows=>wl (v3 rows) (j9 r) (v3 rows).length
theorem sU:bP [(0,1)]:=⟨by simp,λp a=>by
 rw[NA.mp a];exact⟨⟨0,rfl,by decide⟩,by decide⟩⟩
theorem qo:∀{rows:List (List Nat)},dJ rows->(v3 rows).length=rows.length+1/\∀c∈v3 rows,bP c
 |[],_=>⟨rfl,λc d=>by
  rw[NA.mp d];exact sU⟩
 |r::rows,h=>by
  obtain⟨b,f⟩:=qo (rows:=rows) λa e=>h a (MS _ e);refine⟨?_,oX (mS (h r MT)) f _⟩;show(wl _ _ _).length=_;rw[kS,b];rfl
theorem jR{a:List ac}(h:∀c∈a,bP c)(j:Nat):bP (a.getD j []):=by
 rw[Me];cases e:a[j]? with
 |none=>exact iF|some c=>exact h c (Mw e)
set_option tactic.hygienic true in
theorem lj(a:List ac)(j:Nat):(a++[[]]).getD j []=a.getD j []:=by
 rw[Me,Me,List.getElem?_append]
 split;rfl
 ·rename_i h
  rw[Nc (l:=a) (by omega)];cases e:j-a.length with
  |zero=>rfl|succ n=>rfl
theorem B3(a:d<8):(mJ (T ||| 2^c)).contains d=(c::mJ T).contains d:=by
 rw[fq a,Oa,fq a,Nat.testBit_or,Nat.testBit_two_pow,Bool.or_comm]
 congr 1
 by_cases e:c=d;subst e;simp
 ·have:¬d=c:=λz=>e z.symm
  simp[e,this]
theorem jH{a:Type}:∀l:List a,bN l (λ_=>0)=0
 |[]=>rfl|x::l=>by rw[aQ,jH l];rfl
theorem fR:∀(rows:List (List Nat))(T:List Nat)(k:Nat),rows.length<k->cnt rows T k=0
 |[],T,0,h=>by cases h|[],T,k+1,_=>rfl|r::rows,T,0,h=>by cases h|r::rows,T,k+1,h=>by
  rw[Ma]at h;rw[cnt,fR rows T (k+1) (by omega),bL (g:=λ_=>0) λc _=>fR rows (c::T) k (by omega),jH];rfl
theorem vz:∀{rows:List (List Nat)},dJ rows->∀T s:Nat,dH (sZ T) ((v3 rows).getD s [])=cnt rows (mJ T) s
 |[],_,T,0=>by
  show 1*sZ T ((0:Nat):Int)+0=1;rw[pd,Nat.zero_and];rfl
 |[],_,T,s+1=>rfl|r::rows,h,T,s=>by
  have f:=h r MT;have a:dJ rows:=λj f=>h j (MS _ f);obtain⟨t,k⟩:=qo a;have b:=λT s=>vz a T s;have e:(v3 (r::rows)).getD s []=((v3 (r::rows))[s]?).getD []:=Me ..;rw[e,show v3 (r::rows)=wl (v3 rows) (j9 r) (v3 rows).length from rfl,tj _ _ _ _ (Md _)];cases s with
  |zero =>
   rw[MX (.inl rfl),<-Me,lj,b,cnt]
  |succ s =>
   rw[cnt]
   by_cases q:(v3 rows).length<s+1
   ·rw[MX (.inr q),<-Me,lj,b]
    rw[bL (g:=λ_=>0) λc _=>fR rows _ _ (by omega),jH];omega
   ·rw[MV (by omega),Option.getD_some,lj,vv _ (mS f) (jR k _) (jR k _),b,PL]
    refine ND (_+·) ?_;rw[jC (χ:=λm=>bN (r.filter λc=> !(mJ T).contains c) λc=>sZ (T ||| 2^c) m) λp o=> ?_,qW]
    ·refine bL λc _=> ?_
     rw[b];exact cM rows s λj i d l=>B3 (a j i d l)
    ·obtain⟨⟨m,n,_⟩,_⟩:=(jR k s).2 p o
     rw[n];exact wA T m f
noncomputable def bq(b:List (Int×Int))(c:Int×Int):Bool:=(b.all λx=>decide (x.1<c.1))&&(b.all λx=>decide (x.2≠c.2))
noncomputable def rF(r:Int)(cs:List Nat):List (Int×Int):=cs.map λc:Nat=>(r,(c:Int))
noncomputable def aW:Int->List (List Nat)->List (Int×Int)
 |_,[]=>[]|r,cs::aO=>rF r cs++aW (r+1) aO
noncomputable def bB(b:List (Int×Int)):List Nat:=b.map λx=>x.2.toNat
theorem B4{r:Int}{c:Nat}(d:∀x∈b,x.1<r/\0<=x.2):bq b (r,(c:Int))= !(bB b).contains c:=by
 unfold bq bB;have e:(b.all λx=>decide (x.1<r))=true:=Mm.mpr λx a=>Mj (d x a).1;show((b.all λx=>decide (x.1<r))&&_)=_;rw[e,Bool.true_and,NI,Mm,Nj,<-OV,My,MZ]
 constructor
 ·rintro h ⟨x,a,rfl⟩
  have f:=M3 (h x a);have g:=(d x a).2
  apply f
  show x.2=((x.2.toNat:Nat):Int);omega
 ·intro h x a
  refine Mj λz=>h ⟨x,a,?_⟩;show x.2.toNat=c;have z:x.2=(c:Int):=z;omega
theorem wD{b:List (Int×Int)}{r:Int}(a:∀x∈b,x.1<r/\0<=x.2)(L:List (Int×Int))(m:Nat):∀cs:List Nat,((OD.cnt bq b (rF r cs++L) (m+1):Nat):Int)=((OD.cnt bq b L (m+1):Nat):Int)+bN (cs.filter λc=> !(bB b).contains c) λc=>((OD.cnt bq (b++[(r,(c:Int))]) L m:Nat):Int)
 |[]=>by
  rw[List.filter_nil,cB];show((OD.cnt bq b L (m+1):Nat):Int)=_;omega
 |c::cs=>by
  show((OD.cnt bq b ((r,(c:Int))::(rF r cs++L)) (m+1):Nat):Int)=_;rw[OD.cnt,Int.natCast_add,wD a L m cs,N0,B4 a];cases(bB b).contains c with
  |true =>
   simp
  |false =>
   rw[Bool.not_false,MX rfl,MX rfl,aQ,OD.mK (rF r cs) L (b++[(r,(c:Int))]) m λd e=> ?_]
   ·omega
   ·obtain⟨c',_,rfl⟩:=MZ.mp e
    unfold bq;have:((b++[(r,(c:Int))]).all λx=>decide (x.1<r))=false:=by
     rw[List.all_append];simp
    show(((b++[(r,(c:Int))]).all λx=>decide (x.1<r))&&_)=false;rw[this];rfl
theorem cr:∀(rows:List (List Nat))(r:Int)(b:List (Int×Int))(m:Nat),(∀x∈b,x.1<r/\0<=x.2)->((OD.cnt bq b (aW r rows) m:Nat):Int)=cnt rows (bB b) m
 |rows,r,b,0,_=>by rw[OD.aV,aV];rfl|[],r,b,m+1,_=>rfl|cs::rows,r,b,m+1,hb=>by
  rw[aW,wD hb,cnt,cr rows (r+1) b (m+1) λx a=>⟨by have:=(hb x a).1;omega,(hb x a).2⟩];refine ND (_+·) (bL λc _=> ?_);rw[cr rows (r+1) (b++[(r,(c:Int))]) m λx a=> ?_]
  ·refine cM rows m λe _ d _=> ?_
   unfold bB;rw[Ms,NI,My,My,M7,Mh];simp[or_comm]
  ·rcases M7.mp a with z|z
   ·have:=hb x z
    exact⟨by omega,this.2⟩
   ·rw[NA.mp z]
    exact⟨by show r<r+1;omega,by show(0:Int)<=(c:Int);omega⟩
theorem rE(h:c∈rF r cs):c.1=r/\0<=c.2:=by obtain⟨n,_,rfl⟩:=MZ.mp h;exact⟨rfl,by show(0:Int)<=(n:Int);omega⟩
theorem fT:∀(rows:List (List Nat))(r:Int)(f:List (Int×Int))(c:Int×Int)(L:List (Int×Int)),aW r rows=f++c::L->∃(j:Nat)(M:List (Int×Int)),c.1=r+j/\0<=c.2/\j<rows.length/\L=M++aW (r+j+1) (rows.drop (j+1))/\∀d∈M,d.1=c.1
 |[],r,f,c,L,h=>by
  have:=ND List.length h;rw[Ml,Ma]at this;exact absurd this (by show¬(0=_);omega)
 |cs::rows,r,f,c,L,h=>by
  rw[aW]at h;have e:∀b,aW (r+1) rows=b ++c::L->∃(j:Nat)(M:List (Int×Int)),c.1=r+j/\0<=c.2/\j<(cs::rows).length/\L=M++aW (r+j+1) ((cs::rows).drop (j+1))/\∀d∈M,d.1=c.1:=λb h=>by
   obtain⟨j,M,i,g,k,s,q⟩:=fT rows (r+1) b c L h;refine⟨j+1,M,by omega,g,by rw[Ma];omega,?_,q⟩;rw[s,List.drop_succ_cons,show r+1+(j:Int)+1=r+((j+1:Nat):Int)+1 by omega]
  rcases List.append_eq_append_iff.mp h with⟨a,i,g⟩|⟨a,i,g⟩
  ·exact e a g
  ·cases a with
   |nil=>exact e [] g.symm
   |cons d a =>
    rw[List.cons_append]at g;obtain⟨rfl,k⟩:=List.cons.inj g;have m:∀x∈c::a,x.1=r/\0<=x.2:=λx p=>rE (cs:=cs) (by rw[i];exact NE _ p);obtain⟨l,o⟩:=m c MT;refine⟨0,a,by omega,o,by rw[Ma];omega,?_,λd n=>by rw[(m d (MS _ n)).1,l]⟩;rw[k];show a++aW (r+1) rows=a++aW (r+(0:Nat)+1) rows;rw[show r+((0:Nat):Int)+1=r+1 by omega]
noncomputable def bJ(b:List (Int×Int)):Nat:=match b.getLast? with
 |some c=>(c.1+1).toNat|none=>0
noncomputable def mq(rows:List (List Nat))(a:Nat)(b:List (Int×Int)):Int:=if b.length<=a then cnt (rows.drop (bJ b)) (bB b) (a-b.length)else 0
theorem Dj:∀{b L p:List (Int×Int)}{c:Int×Int},OD.Lg bq b L p->bq (b++p) c=true->∀x∈b++p,x.1<c.1:=fun{b L p c} _ o x hx=>by
 unfold bq at o;rw[MY,Mm]at o;exact M3 (o.1 x hx)
theorem iP(h:x∈aW r rows):0<=x.2/\r<=x.1:=by obtain⟨a,L,e⟩:=List.append_of_mem h;obtain⟨j,M,c,b,_⟩:=fT rows r a x L e;exact⟨b,by omega⟩
theorem A1(rows:List (List Nat))(a:Nat):OD.NB bq (aW 0 rows) a (mq rows a):=by
 intro g c L b h i o;obtain⟨j,M,u,p,t,n,m⟩:=fT rows 0 g c L h;have s:∀x∈b,x.1<c.1:=Dj (b:=[]) i o;have l:∀x∈b,0<=x.2:=λx f=>(iP (rows:=rows) (r:=0) (by rw[h];exact M9 _ (i.sub x f))).1;unfold mq;rw[Ml];show(if b.length+1<=a then _ else _)=_
 by_cases q:b.length<a
 ·rw[MX (by omega),MX q,n,OD.mK M _ _ _ λd k=> ?_]
  ·have e:bJ (b++[c])=j+1:=by
    unfold bJ;rw[List.getLast?_concat];show(c.1+1).toNat=j+1;omega
   rw[e,cr (rows.drop (j+1)) (0+(j:Int)+1) (b++[c]) (a-b.length-1) λx f=> ?_]
   ·rw[show a-(b.length+[c].length)=a-b.length-1 by show a-(b.length+1)=_;omega]
   ·rcases M7.mp f with z|z
    ·have:=s x z
     exact⟨by omega,l x z⟩
    ·rw[NA.mp z]
     exact⟨by omega,p⟩
  ·unfold bq
   have:((b++[c]).all λx=>decide (x.1<d.1))=false:=by
    rw[List.all_append,m d k];simp
   rw[this];rfl
 ·rw[MV (by omega),MV q]
structure CZ(b:List (Int×Int)):Prop where
 rows:(b.map (·.1)).Pairwise (·<·)
 cols:(b.map (·.2)).Nodup
theorem El:CZ []:=⟨.nil,.nil⟩
theorem Db:bq b c=true↔∀x∈b,x.1<c.1/\x.2≠c.2:=by
 unfold bq;rw[MY,Mm,Mm]
 constructor
 ·rintro⟨d,e⟩ x a
  exact⟨M3 (d x a),M3 (e x a)⟩
 ·intro h
  exact⟨λx a=>Mj (h x a).1,λx a=>Mj (h x a).2⟩
theorem iV:CZ (b++[c])↔CZ b/\bq b c=true:=by
 rw[Db]
 constructor
 ·rintro⟨f,h⟩
  rw[Ms,Ny]at f;rw[Ms,Na]at h;refine⟨⟨f.1,h.1⟩,λx e=>⟨f.2.2 x.1 (MZ.mpr ⟨x,e,rfl⟩) c.1 (by simp),h.2.2 x.2 (MZ.mpr ⟨x,e,rfl⟩) c.2 (by simp)⟩⟩
 ·rintro⟨⟨f,h⟩,j⟩
  refine⟨?_,?_⟩
  ·rw[Ms,Ny]
   refine⟨f,List.pairwise_singleton _ _,λa i d g=> ?_⟩;obtain⟨x,e,rfl⟩:=MZ.mp i;rw[List.map_singleton,NA]at g;subst g;exact(j x e).1
  ·rw[Ms,Na]
   refine⟨h,by simp,λa i d g=> ?_⟩;obtain⟨x,e,rfl⟩:=MZ.mp i;rw[List.map_singleton,NA]at g;subst g;exact(j x e).2
theorem Ek(h:CZ (b++p)):CZ b:=by obtain⟨a,c⟩:=h;rw[Ms]at a c;exact⟨(Ny.mp a).1,(Na.mp c).1⟩
theorem HL(h:OD.Lg bq b L p):CZ b->CZ (b++p):=by
 induction h with
 |nil =>
  intro a;rw[NU];exact a
 |take o _ c =>
  intro a;have:=c (iV.mpr ⟨a,o⟩);rw[Nb]at this;exact this
 |skip _ c=>exact c
theorem vd:∀(L b p:List (Int×Int)),L.Pairwise (λa c=>a.1<=c.1)->CZ (b++p)->(∀x∈p,x∈L)->OD.Lg bq b L p
 |L,b,[],_,_,_=>.nil|[],b,x::p,_,_,h=>by cases h x MT|c::L,b,x::p,hs,a,h=>by
  obtain⟨g,f⟩:=OG.mp hs;have i:∀y∈p,x.1<y.1:=λy d=>by
   have:=a.rows;rw[Ms,Ny,Mg]at this;exact(OG.mp this.2.1).1 y.1 (MZ.mpr ⟨y,d,rfl⟩)
  by_cases e:x=c
  ·subst e
   have j:CZ (b++[x]++p):=by rw[Nb];exact a
   refine .take (iV.mp (Ek j)).2 (vd L (b++[x]) p f j λy d=> ?_)
   rcases Mh.mp (h y (MS _ d))with z|z
   ·have:=i y d
    rw[z]at this;omega
   ·exact z
  ·have k:x∈L:=(Mh.mp (h x MT)).resolve_left e
   refine .skip (vd L b (x::p) f a λy d=> ?_)
   rcases Mh.mp d with rfl|d
   ·exact k
   ·rcases Mh.mp (h y (MS _ d))with z|z
    ·have l:=i y d
     have m:=g x k;rw[z]at l;omega
    ·exact z
noncomputable def fA(a c:Int×Int):Bool:=if a.1=c.1 then decide (a.2<c.2)else decide (a.1<c.1)
theorem DD(r:Int):∀{cs:List Nat},cs.Pairwise (·<·)->(rF r cs).Pairwise λa c=>fA a c=true/\fA c a=false:=fun{cs} h=>by
 unfold rF;rw[P6];refine h.imp fun{a c} z=> ?_;unfold fA;rw[MX rfl,MX rfl];exact⟨Mj (by show(a:Int)<(c:Int);omega),Mq (by show¬(c:Int)<(a:Int);omega)⟩
theorem bO:∀{rows:List (List Nat)}{r:Int},(∀cs∈rows,cs.Pairwise (·<·))->(aW r rows).Pairwise λa c=>fA a c=true/\fA c a=false
 |[],r,_=>.nil|cs::rows,r,h=>by
  rw[aW,Ny];refine⟨DD r (h cs MT),bO λc b=>h c (MS _ b),λa d c b=> ?_⟩;have e:=(rE d).1;have f:=(iP b).2;unfold fA;rw[MV (by omega),MV (by omega)];exact⟨Mj (by omega),Mq (by omega)⟩
theorem wc(a:Int×Int):fA a a=false:=by unfold fA;rw[MX rfl];exact Mq (by omega)
theorem cQ{L:List (Int×Int)}(h:L.Pairwise λa c=>fA a c=true/\fA c a=false):L.Nodup :=
 h.imp λz e=>by
  rw[e,wc]at z;cases z.1
theorem Dh{L:List (Int×Int)}(h:L.Pairwise λa c=>fA a c=true/\fA c a=false):L.Pairwise λa c=>a.1<=c.1 :=
 h.imp fun{a c} z=>by
  have b:=z.1;unfold fA at b
  split at b;omega
  ·have:=M3 b
   omega
section
variable{rows:List (List Nat)}(hr:∀cs∈rows,cs.Pairwise (·<·))
def CT(rows:List (List Nat))(p:List (Int×Int)):Prop:=CZ p/\∀x∈p,x∈aW 0 rows
theorem eP(a:∀cs∈rows,cs.Pairwise (·<·)):CT rows p↔OD.Lg bq [] (aW 0 rows) p := ⟨λh=>vd _ [] p (Dh (bO a)) h.1 h.2,λh=>⟨HL h El,h.sub⟩⟩
noncomputable def cx(rows:List (List Nat))(p:List (Int×Int)):Nat:=OD.jt bq [] (aW 0 rows) p
theorem yL(hr:∀cs∈rows,cs.Pairwise (·<·))(hp:CT rows p):OD.sumZ (OD.mY bq fA (mq rows p.length) p) (aW 0 rows)=((cx rows p:Nat):Int) := OD.kK (cQ (bO hr)) (bO hr) (A1 rows p.length) (aW 0 rows) [] [] p rfl rfl .nil ((eP hr).mp hp)
theorem o6(hr:∀cs∈rows,cs.Pairwise (·<·))(hp:CT rows p):((cx rows p:Nat):Int)<cnt rows [] p.length:=by
 have h1:=OD.gM _ [] p (cQ (bO hr)) ((eP hr).mp hp);have h2:=cr rows 0 [] p.length λx hx=>by cases hx
 have h3:bB []=[]:=rfl;rw[h3]at h2;rw[<- h2];unfold cx;omega
theorem uD(hr:∀cs∈rows,cs.Pairwise (·<·))(hp:CT rows p):((aW 0 rows).foldl (OD.turn bq (mq rows p.length)) ([],((cx rows p:Nat):Int))).1=p:=by have lg:=(eP hr).mp hp;have h1:=OD.gM _ [] p (cQ (bO hr)) lg;rw[OD.qi (A1 rows p.length) (aW 0 rows) [] [] (cx rows p) rfl .nil (NH _) h1];exact OD.oY _ [] p (cQ (bO hr)) lg
theorem AI(a:∀cs∈rows,cs.Pairwise (·<·))(c:CT rows p)(d:CT rows q)(b:p.length=q.length):decide (cx rows p<cx rows q)=OD.lex fA p q := OD.oz _ [] p q (cQ (bO a)) (bO a) ((eP a).mp c) ((eP a).mp d) b
end
end IR
namespace OD
section
variable{α:Type}[DecidableEq α]{ok:List α->α->Bool}
noncomputable def Ar(ok:List α->α->Bool):List α->List α->List α->Option (List α)
 |_,_,[]=>none|_,[],_::_=>none|b,c::L,x::p=>if x=c then((Ar ok (b++[c]) L p).map (c::·)).or (if 0<cnt ok b L (p.length+1)then some (jo ok b L (p.length+1) 0)else none)else Ar ok b L (x::p)
set_option tactic.hygienic false
theorem wT(b L:List α):Ar ok b L []=none:=by cases L<;>rfl
theorem ui:∀(L b p:List α),L.Nodup->Lg ok b L p->(∀q,Ar ok b L p=some q->Lg ok b L q/\q.length=p.length/\jt ok b L q=jt ok b L p+1)/\(Ar ok b L p=none->jt ok b L p+1=cnt ok b L p.length)
 |L,b,[],_,_=>by
  rw[wT,fh,ON,aV];exact⟨λq h=>(by cases h),λ_=>rfl⟩
 |[],b,x::p,_,h=>by cases h.at_nil|c::L,b,x::p,hn,h=>by
  obtain⟨l,d⟩:=Mx.mp hn
  by_cases e:x=c
  ·subst e
   obtain⟨s,B⟩:=h.at_take l;obtain⟨n,j⟩:=ui L (b++[x]) p d B;rw[Ar,MX rfl,jt,MX rfl,Ma,cnt,MX s];cases A:Ar ok (b++[x]) L p with
   |some q =>
    obtain⟨i,g,t⟩:=n q A;refine⟨λu a=> ?_,λa=>by cases a⟩;cases a;refine⟨.take s i,by rw[Ma,g],?_⟩;rw[jt,MX rfl,t]
   |none =>
    have j:=j A
    by_cases o:0<cnt ok b L (p.length+1)
    ·rw[MX o]
     refine⟨λu a=> ?_,λa=>by cases a⟩;cases a;obtain⟨k,f,w⟩:=jD L b (p.length+1) 0 d o;refine⟨.skip k,f,?_⟩;cases v:jo ok b L (p.length+1) 0 with
     |nil=>rw[v]at f;cases f|cons y r =>
      rw[v]at k f w;have m:y≠x:=λz=>l (z▸k.sub y MT);rw[jt,MV m,MX s,w];rw[Ma]at f;rw[show r.length=p.length by omega];omega
    ·rw[MV o]
     refine⟨λu a=>(by cases a),λ_=> ?_⟩;omega
  ·obtain⟨n,j⟩:=ui L b (x::p) d (h.at_skip e)
   rw[Ar,MV e,jt,MV e,Ma,cnt];refine⟨λq a=> ?_,λa=> ?_⟩
   ·obtain⟨i,g,t⟩:=n q a
    refine⟨.skip i,g,?_⟩;cases q with
    |nil=>cases g|cons y r =>
     have m:y≠c:=λz=>l (z▸i.sub y MT);rw[jt,MV m,t];rw[Ma,Ma]at g;rw[show r.length=p.length by omega];omega
   ·have:=j a
    rw[Ma]at this;omega
noncomputable def fs{a:Type}(f:Nat->Option a):Nat->Option a
 |0=>none|n+1=>(f n).or (fs f n)
theorem sY{a:Type}(f:Nat->Option a):∀n,fs f (n+1)=(fs (λi=>f (i+1)) n).or (f 0)
 |0=>by show(f 0).or none=(none:Option a).or (f 0);cases f 0<;>rfl|n+1=>by
  show(f (n+1)).or (fs f (n+1))=((f (n+1)).or (fs (λi=>f (i+1)) n)).or (f 0);rw[sY f n,Option.or_assoc]
theorem BZ{a b:Type}(g:a->b)(f:Nat->Option a):∀n,fs (λi=>(f i).map g) n=(fs f n).map g
 |0=>rfl|n+1=>by
  show((f n).map g).or (fs (λi=>(f i).map g) n)=((f n).or (fs f n)).map g;rw[BZ g f n];cases f n<;>rfl
noncomputable def tr(ok:List α->α->Bool):List α->List α->List α->Nat->Option (List α)
 |_,_,[],_=>none|_,[],_::_,_=>none|b,c::L,x::p,0=>if x=c then(if 0<cnt ok b L (p.length+1)then some (jo ok b L (p.length+1) 0)else none)else tr ok b L (x::p) 0|b,c::L,x::p,i+1=>if x=c then(tr ok (b++[c]) L p i).map (c::·)else tr ok b L (x::p) (i+1)
theorem uj:∀(L b p:List α),Ar ok b L p=fs (tr ok b L p) p.length
 |L,b,[]=>by rw[wT];rfl|[],b,x::p=>by
  have:∀n,fs (tr ok b [] (x::p)) n=none:=by
   intro n
   induction n with
   |zero=>rfl|succ n d=>show(tr ok b [] (x::p) n).or _=_;rw[d];rfl
  rw[this];rfl
 |c::L,b,x::p=>by
  rw[Ar,Ma]
  by_cases e:x=c
  ·subst e
   rw[MX rfl,sY,uj L (b++[x]) p,<-BZ];have a:(λi=>tr ok b (x::L) (x::p) (i+1))=λi=>(tr ok (b++[x]) L p i).map (x::·):=by
    funext i
    rw[tr,MX rfl]
   rw[a,tr,MX rfl]
  ·rw[MV e,uj L b (x::p)]
   have a:tr ok b (c::L) (x::p)=tr ok b L (x::p):=by
    funext i
    cases i with
    |zero=>rw[tr,MV e]|succ i=>rw[tr,MV e]
   rw[a,Ma]
theorem zf:∀(W b p:List α)(i:Nat)(x:α),W.Nodup->Lg ok b W p->p[i]? =some x->∃a L,W=a++x::L/\Lg ok b a (p.take i) /\ tr ok b W p i=if 0<cnt ok (b++p.take i) L (p.length-i)then some (p.take i++jo ok (b++p.take i) L (p.length-i) 0)else none
 |W,b,[],i,x,_,_,h=>by simp at h|[],b,y::p,i,x,_,h,_=>by cases h.at_nil|c::W,b,y::p,i,x,hn,h,hi=>by
  obtain⟨n,d⟩:=Mx.mp hn
  by_cases e:y=c
  ·subst e
   obtain⟨l,o⟩:=h.at_take n;cases i with
   |zero =>
    have m:y=x:=by simpa using hi
    subst m;refine⟨[],W,rfl,.nil,?_⟩;rw[tr,MX rfl,List.take_zero,NU,Ma,Nat.sub_zero];rfl
   |succ i =>
    obtain⟨a,L,g,k,j⟩:=zf W (b++[y]) p i x d o (by simpa using hi);refine⟨y::a,L,by rw[g];rfl,.take l k,?_⟩;rw[tr,MX rfl,j,List.take_succ_cons,Ma,Nat.add_sub_add_right,Nb];show Option.map _ _=if 0<cnt ok (b++(y::p.take i)) L (p.length-i)then some (y::p.take i++jo ok (b++(y::p.take i)) L (p.length-i) 0)else none
    by_cases f:0<cnt ok (b++(y::p.take i)) L (p.length-i)
    ·rw[MX f,MX (show 0<cnt ok (b++([y]++p.take i)) L (p.length-i)from f)]
     rfl
    ·rw[MV f,MV (show¬0<cnt ok (b++([y]++p.take i)) L (p.length-i)from f)]
     rfl
  ·obtain⟨a,L,g,k,j⟩:=zf W b (y::p) i x d (h.at_skip e) hi
   refine⟨c::a,L,by rw[g];rfl,.skip k,?_⟩;rw[<- j];cases i with
   |zero=>rw[tr,MV e]|succ i=>rw[tr,MV e]
def GO(ok:List α->α->Bool)(W:List α)(a:Nat)(e:List α->Bool):Prop:=∀d c L b,W=d++c::L->Lg ok [] d b->ok b c=true->e (b++[c])=decide (b.length<a/\0<cnt ok (b++[c]) L (a-b.length-1))
noncomputable def fbT(ok:List α->α->Bool)(a:List α->Bool)(s:List α)(c:α):List α:=if ok s c=true/\a (s++[c])=true then s++[c]else s
theorem mC{W:List α}{a:Nat}{i:List α->Bool}(H:GO ok W a i):∀(L d b:List α),W=d++L->Lg ok [] d b->b.length<=a->L.foldl (fbT ok i) b=if 0<cnt ok b L (a-b.length)then b++jo ok b L (a-b.length) 0 else b
 |[],d,b,hW,hb,hl=>by
  cases e:a-b.length with
  |zero=>rw[aV,MX (by decide),bM,NU];rfl|succ m=>rw[cnt,MV (by omega)];rfl
 |c::L,d,b,hW,hb,hl=>by
  have g:W=(d++[c])++L:=by rw[hW,Nb];rfl
  have h:=mC H L (d++[c]) b g hb.more hl;rw[Ni,fbT]
  by_cases o:ok b c=true
  ·rw[H d c L b hW hb o]
   cases e:a-b.length with
   |zero =>
    rw[MV (λz=>by have:=(M3 z.2).1;omega),h,e,aV,aV,bM,bM]
   |succ m =>
    rw[e]at h
    by_cases q:0<cnt ok (b++[c]) L m
    ·have f:=mC H L (d++[c]) (b++[c]) g (hb.snoc o) (by rw[Ml];simp;omega)
     rw[Ml,show a-(b.length+[c].length)=m by simp;omega,MX q]at f;rw[MX ⟨o,Mj ⟨by omega,by rw[PL];exact q⟩⟩,f,cnt,MX o,MX (by omega),jo,MX o,MX q,Nb];rfl
    ·rw[MV (λz=>q (by have:=(M3 z.2).2;rwa [PL]at this)),h,cnt,MX o,jo,MX o,MV q,show cnt ok (b++[c]) L m=0 by omega,Nw,Nat.sub_zero]
  ·rw[MV (λz=>o z.1),h]
   cases e:a-b.length with
   |zero=>rw[aV,aV,bM,bM]|succ m=>rw[cnt,MV o,Nw,jo,MV o]
end
end OD
namespace IR
open PySem
set_option tactic.hygienic false
theorem pW{H:ac}(c:(H.map (·.1)).Nodup)(g:p∈H)(h:q∈H)(e:p.1=q.1):p=q:=by
 induction H with
 |nil=>cases g|cons x H i =>
  rw[Mg,Mx]at c
  rcases Mh.mp g with f|b
  ·rcases Mh.mp h with d|a
   ·rw[f,d]
   ·exact absurd (show x.1∈H.map (·.1)from MZ.mpr ⟨q,a,by rw[<- e,f]⟩) c.1
  ·rcases Mh.mp h with d|a
   ·exact absurd (show x.1∈H.map (·.1)from MZ.mpr ⟨p,b,by rw[e,d]⟩) c.1
   ·exact i c.2 b a
theorem jN{T:List Int}(c:T.Nodup)(h:T ⊆ U):T.length<=U.length:=by
 induction T generalizing U with
 |nil=>exact NH _|cons x T e =>
  obtain⟨d,f⟩:=Mx.mp c;have a:x∈U:=h MT;have:=e (U:=U.erase x) f λy b=>(List.mem_erase_of_ne (λz:y=x=>d (by rw[<- z];exact b))).mpr (h (MS _ b));rw[QA a]at this;have:0<U.length:=List.length_pos_of_mem a;rw[Ma];omega
theorem iH(h:bC H c=some r):(c,r)∈H:=by
 unfold bC at h;cases e:H.find? λp=>decide (p.1=c)with
 |none=>rw[e]at h;cases h|some p =>
  rw[e]at h;have a:=List.find?_some e;have b:=List.mem_of_find?_eq_some e;have a:p.1=c:=M3 a;have h:p.2=r:=Mv h;rw[<- a,<-h];exact b
theorem jS:bC H c=none↔c∉H.map (·.1):=by
 unfold bC;rw[Option.map_eq_none_iff,P0]
 constructor
 ·intro h b
  obtain⟨p,a,rfl⟩:=MZ.mp b;exact h p a (Mj rfl)
 ·intro h p a e
  exact h (MZ.mpr ⟨p,a,M3 e⟩)
theorem D4(b:(H.map (·.1)).Nodup)(h:(c,r)∈H):bC H c=some r:=by
 cases e:bC H c with
 |none=>exact absurd (MZ.mpr ⟨_,h,rfl⟩) (jS.mp e)|some a =>
  have h' :=iH e;have:=pW b h h' rfl;rw[show a =r from(ND Prod.snd this).symm]
theorem rJ(h:bC H c=none):cZ H c r=H++[(c,r)]:=by unfold cZ;rw[MV];intro z;rw[No]at z;obtain⟨p,a,e⟩:=z;exact jS.mp h (MZ.mpr ⟨p,a,M3 e⟩)
theorem AO:∀{H:ac},(H.map (·.1)).Nodup->bC H c=some i ->∃d b,H=d++(c,i)::b/\cZ H c r=d++(c,r)::b:=by
 intro H g h;have j:=iH h;obtain⟨d,b,e⟩:=List.append_of_mem j;refine⟨d,b,e,?_⟩;unfold cZ;rw[MX (No.mpr ⟨_,j,Mj rfl⟩),e,Ms,Mg,MX rfl];rw[e,Ms,Mg]at g;have m:∀p∈d,p.1≠c:=λp f z=>(Na.mp g).2.2 p.1 (MZ.mpr ⟨p,f,rfl⟩) c MT z;have n:∀p∈b,p.1≠c:=λp f z=>(Mx.mp (Na.mp g).2.1).1 (z▸MZ.mpr ⟨p,f,rfl⟩);have a:∀l:ac,(∀p∈l,p.1≠c)->l.map (λp=>if p.1=c then(p.1,r)else p)=l:=λl k=>by
  conv=>rhs;rw[<- List.map_id l]
  exact NV λp f=>MV (k p f)
 rw[a d m,a b n]
set_option tactic.hygienic true
theorem iG:bC (cZ H c r) d=if d=c then some r else bC H d:=by
 by_cases b:d=c
 ·subst b
  rw[MX rfl];unfold cZ
  split
  ·rename_i h
   induction H with
   |nil=>cases h|cons p H i =>
    rw[Mg];unfold bC;rw[Nh]
    by_cases e:p.1=d;rw[MX e];simp[e]
    ·rw[MV e]
     simp only[e,O3];rw[PF,Mq e,Bool.false_or]at h;exact i h
  ·rename_i h
   unfold bC;rw[List.find?_append];have:(H.find? λp=>decide (p.1=d))=none:=by
    rw[P0];intro p g e;exact h (No.mpr ⟨p,g,e⟩)
   rw[this];simp
 ·rw[MV b]
  unfold cZ
  split
  ·unfold bC
   induction H with
   |nil=>rfl|cons p H i =>
    rename_i h;rw[Mg,Nh,Nh];have a:((H.map λp=>if p.1=c then(p.1,r)else p).find? λp=>decide (p.1=d)).map (·.2)=(H.find? λp=>decide (p.1=d)).map (·.2):=by
     by_cases h' :(H.any λp=>decide (p.1=c))=true
     ·exact i h'
     ·have:(H.map λp=>if p.1=c then(p.1,r)else p)=H:=by
       conv=>rhs;rw[<- List.map_id H]
       refine NV λp g=>MV λe=>h' ?_;exact No.mpr ⟨p,g,Mj e⟩
      rw[this]
    by_cases e:p.1=c
    ·rw[MX e]
     have f:¬p.1=d:=λz=>b (z.symm.trans e);simp only[f,O3];exact a
    ·rw[MV e]
     by_cases f:p.1=d;simp[f]
     ·simp only[f,O3]
      exact a
  ·unfold bC
   rw[List.find?_append];have:¬c=d:=λz=>b z.symm;simp[this]
noncomputable def gi(C:List (List Int))(r:Int):List Int:=C.getD r.toNat []
noncomputable def gk(a:ac->Int->List Int->Bool×ac×List Int)(row:Int):List Int->ac->List Int->Bool×ac×List Int
 |[],H,T=>(false,H,T)|c::cs,H,T=>if T.contains c then gk a row cs H T else match bC H c with
  |none=>(true,cZ H c row,T++[c])|some r=>match a H r (T++[c])with
   |(true,H',T')=>(true,cZ H' c row,T')|(false,H',T')=>gk a row cs H' T'
noncomputable def tk(C:List (List Int)):Nat->ac->Int->List Int->Bool×ac×List Int
 |0,H,_,T=>(false,H,T)|n+1,H,row,T=>gk (tk C n) row (gi C row) H T
structure Mt(C:List (List Int))(H:ac):Prop where
 keys:(H.map (·.1)).Nodup
 rows:(H.map (·.2)).Nodup
 edge:∀p∈H,p.1∈gi C p.2
structure Mt0(C:List (List Int))(H:ac):Prop where
 keys:(H.map (·.1)).Nodup
 edge:∀p∈H,p.1∈gi C p.2
structure Lm(C:List (List Int))(H:ac)(row:Int)(T:List Int)(H' :ac):Prop where
 good:Mt0 C H'
 rows:(H'.map (·.2)).Perm (row::H.map (·.2))
 keys:∀c,c∈H.map (·.1)->c∈H'.map (·.1)
 stay:∀c∈T,bC H' c=bC H c
theorem uB{C:List (List Int)}{k:ac->Int->List Int->Bool×ac×List Int}{row:Int}
  (D:∀H r T b g j,Mt0 C H->k H r T=(b,g,j)->T ⊆ j /\(b=false->g =H)/\(b=true->Lm C H r T g)) :
  ∀{cs:List Int}{H:ac}{T:List Int}{b:Bool}{g :ac}{j :List Int},(∀c∈cs,c∈gi C row)->Mt0 C H->gk k row cs H T=(b,g,j)->T ⊆ j /\(b=false->g =H)/\(b=true->Lm C H row T g)
 |[],H,T,b,g,j,hc,m,h=>by
  cases h;exact⟨λ_ z=>z,λ_=>rfl,λz=>by cases z⟩
 |c::cs,H,T,b,g,j,hc,m,h=>by
  unfold gk at h
  split at h;exact uB D (λd f=>hc d (MS _ f)) m h
  ·rename_i u
   have u:c∉T:=λz=>u (My.mpr z)
   split at h
   ·rename_i e
    cases h;refine⟨List.subset_append_left _ _,(λz=>by cases z),λ_=> ?_⟩;rw[rJ e];refine⟨⟨?_,λp v=> ?_⟩,?_,λd f=> ?_,λd f=> ?_⟩
    ·rw[Ms,Na]
     refine⟨m.keys,by simp,λa N x i z=> ?_⟩;rw[List.map_singleton,NA]at i;subst i z;exact jS.mp e N
    ·rcases M7.mp v with z|z
     ·exact m.edge p z
     ·rw[NA.mp z]
      exact hc c MT
    ·rw[Ms]
     exact List.perm_append_comm
    ·rw[Ms]
     exact M9 _ f
    ·rw[<- rJ e,iG,MV (λz:d=c=>u (by rw[<- z];exact f))]
   ·rename_i r e
    cases F:k H r (T++[c])with
    |mk b1 w =>
     obtain⟨I,G⟩:=w;rw[F]at h;obtain⟨E,K,S⟩:=D H r (T++[c]) b1 I G m F;cases b1 with
     |false =>
      have P:=K rfl;subst P;obtain⟨O,Q,U⟩:=uB D (λd f=>hc d (MS _ f)) m h;have n:T ⊆ G:=λx i=>E (M9 _ i);exact⟨λx i=>O (n i),Q,λz=>by
       obtain⟨l,t,B,y⟩:=U z;exact⟨l,t,B,λd f=>y d (n f)⟩⟩
     |true =>
      cases h;obtain⟨l,t,B,y⟩:=S rfl;refine⟨λx i=>E (M9 _ i),(λz=>by cases z),λ_=> ?_⟩;have M:bC I c=some r:=by rw[y c (by simp),e]
      obtain⟨o,q,s,A⟩:=AO (r:=row) l.keys M;rw[s]at t;refine⟨⟨?_,λp v=> ?_⟩,?_,λd f=> ?_,λd f=> ?_⟩
      ·have:=l.keys
       rw[s]at this;rw[A]
       simpa using this
      ·rw[A]at v
       rcases M7.mp v with z|z
       ·exact l.edge p (by rw[s];exact M9 _ z)
       ·rcases Mh.mp z with z|z
        ·rw[z]
         exact hc c MT
        ·exact l.edge p (by rw[s];exact NE _ (MS _ z))
      ·rw[A,Ms,Mg]
       rw[Ms,Mg]at t;have J:(o.map (·.2)++r::q.map (·.2)).Perm (r::(o.map (·.2)++q.map (·.2))):=Pc;have L:(o.map (·.2)++q.map (·.2)).Perm (H.map (·.2)):=(List.perm_cons r).mp (J.symm.trans t);have R:(o.map (·.2)++row::q.map (·.2)).Perm (row::(o.map (·.2)++q.map (·.2))):=Pc;exact R.trans (L.cons row)
      ·have:=B d f
       rw[s]at this;rw[A]
       simpa using this
      ·rw[iG,MV (λz:d=c=>u (by rw[<- z];exact f))]
       exact y d (M9 _ f)
set_option tactic.hygienic false
theorem FF{C:List (List Int)}:∀{n:Nat}{H:ac}{row:Int}{T:List Int}{b:Bool}{a :ac}{d :List Int},Mt0 C H->tk C n H row T=(b,a,d)->T ⊆ d /\(b=false->a =H)/\(b=true->Lm C H row T a)
 |0,H,row,T,b,a,d,m,h=>by
  cases h;exact⟨λ_ z=>z,λ_=>rfl,λz=>by cases z⟩
 |n+1,H,row,T,b,a,d,m,h=>uB (λH r T b a d m h=>FF m h) (λc e=>e) m h
theorem Lm.mt(w:Lm C H row T a)(m:Mt C H)(b:row∉H.map (·.2)):Mt C a := ⟨w.good.keys,w.rows.nodup_iff.mpr (Mx.mpr ⟨b,m.rows⟩),w.good.edge⟩
def ff(C:List (List Int))(H:ac)(S:List Int):Prop:=∀c∈S,∃r,bC H c=some r/\∀d∈gi C r,d∈S
set_option tactic.hygienic true in
theorem uC{C:List (List Int)}{j:ac->Int->List Int->Bool×ac×List Int}{row:Int}{n:Nat}
  (B:∀H r T k f,T.Nodup->(∀c∈T,0<=c/\c<8)->8<n+T.length->j H r T=(false,k,f)->k =H/\T ⊆ f /\f.Nodup/\(∀c∈f,0<=c/\c<8)/\(∀d∈gi C r,d∈f)/\∀c∈f,c∈T\/∃q,bC H c=some q/\∀d∈gi C q,d∈f) :
  ∀{cs:List Int}{H:ac}{T:List Int}{k :ac}{f :List Int},(∀c∈cs,0<=c/\c<8)->T.Nodup->(∀c∈T,0<=c/\c<8)->8<n+1+T.length->gk j row cs H T=(false,k,f) -> k =H/\T ⊆ f /\f.Nodup/\(∀c∈f,0<=c/\c<8)/\(∀d∈cs,d∈f)/\∀c∈f,c∈T\/∃q,bC H c=some q/\∀d∈gi C q,d∈f
 |[],H,T,k,f,_,nd,bd,_,h=>by
  cases h;exact⟨rfl,λ_ z=>z,nd,bd,λd b=>(by cases b),λc l=>.inl l⟩
 |c::cs,H,T,k,f,l,nd,bd,hn,h=>by
  unfold gk at h
  split at h
  ·rename_i m
   obtain⟨o,i,A,D,v,p⟩:=uC B (λd b=>l d (MS _ b)) nd bd hn h;refine⟨o,i,A,D,λd b=> ?_,p⟩
   rcases Mh.mp b with rfl|b
   ·exact i (My.mp m)
   ·exact v d b
  ·rename_i m
   have m:c∉T:=λz=>m (My.mpr z)
   split at h;cases h
   ·rename_i r e
    have u:(T++[c]).Nodup:=by
     rw[Na];refine⟨nd,by simp,λa I x g z=> ?_⟩;rw[NA]at g;subst g z;exact m I
    have s:∀d∈T++[c],0<=d/\d<8:=λd b=>by
     rcases M7.mp b with z|z
     ·exact bd d z
     ·rw[NA.mp z]
      exact l c MT
    cases E:j H r (T++[c])with
    |mk b1 w =>
     obtain⟨L,F⟩:=w;rw[E]at h;cases b1 with
     |true=>cases h|false =>
      obtain⟨J,t,O,N,P,K⟩:=B H r (T++[c]) L F u s (by rw[Ml,OE];omega) E;subst J;have Q:T.length<=F.length:=by
       have:=jN nd (λx g=>t (M9 _ g));exact this
      obtain⟨o,i,A,D,v,p⟩:=uC B (λd b=>l d (MS _ b)) O N (by omega) h;refine⟨o,λx g=>i (t (M9 _ g)),A,D,λd b=> ?_,λd b=> ?_⟩
      ·rcases Mh.mp b with rfl|b
       ·exact i (t (by simp))
       ·exact v d b
      ·rcases p d b with z|z
       ·rcases K d z with y|⟨q,G,M⟩
        ·rcases M7.mp y with y|y
         ·exact .inl y
         ·rw[NA.mp y]
          exact .inr ⟨r,e,λx g=>i (P x g)⟩
        ·exact .inr ⟨q,G,λx g=>i (M x g)⟩
       ·exact .inr z
theorem zj{C:List (List Int)}(l:∀r,∀c∈gi C r,0<=c/\c<8):∀{n:Nat}{H:ac}{row:Int}{T:List Int}{i :ac}{e :List Int},T.Nodup->(∀c∈T,0<=c/\c<8)->8<n+T.length->tk C n H row T=(false,i,e) -> i =H/\T ⊆ e /\e.Nodup/\(∀c∈e,0<=c/\c<8)/\(∀d∈gi C row,d∈e)/\∀c∈e,c∈T\/∃q,bC H c=some q/\∀d∈gi C q,d∈e
 |0,H,row,T,i,e,g,f,j,h=>by
  have k:=jN (U:=[0,1,2,3,4,5,6,7]) g λx m=>by
   obtain⟨a,b⟩:=f x m;have:x=0\/x=1\/x=2\/x=3\/x=4\/x=5\/x=6\/x=7:=by omega
   simp only[Mh];omega
  have k:T.length<=8:=k;omega
 |n+1,H,row,T,i,e,g,f,j,h=>uC (λH r T i e g f j h=>zj l g f j h) (l row) g f j h
theorem kX{C:List (List Int)}{S:List Int}{a:ac->Int->List Int->Bool×ac×List Int}{row:Int}
  (h:∀H r T k l,a H r T=(false,k,l)->k =H)
  (i:∀H r T,ff C H S->(∀d∈gi C r,d∈S)->(a H r T).1=false) :
  ∀{cs:List Int}{H:ac}{T:List Int},ff C H S->(∀d∈cs,d∈S)->(gk a row cs H T).1=false
 |[],H,T,_,_=>rfl|c::cs,H,T,cl,hc=>by
  unfold gk
  split;exact kX h i cl λd f=>hc d (MS _ f)
  ·obtain⟨r,e,f⟩:=cl c (hc c MT)
   rw[e];dsimp only;have g:=i H r (T++[c]) cl f;cases j:a H r (T++[c])with
   |mk b w =>
    obtain⟨o,n⟩:=w;rw[j]at g;have g:b=false:=g;subst g;have m:=h H r (T++[c]) o n j;subst m;exact kX h i cl λd f=>hc d (MS _ f)
set_option tactic.hygienic true in
theorem kY{a:ac->Int->List Int->Bool×ac×List Int}{row:Int}(g:∀H r T d f,a H r T=(false,d,f)->d =H):∀{cs:List Int}{H:ac}{T:List Int}{d :ac}{f :List Int},gk a row cs H T=(false,d,f)->d =H
 |[],H,T,d,f,h=>by cases h;rfl|c::cs,H,T,d,f,h=>by
  unfold gk at h
  split at h;exact kY g h
  ·split at h
   ·cases h
   ·rename_i r e
    cases i:a H r (T++[c])with
    |mk b w =>
     obtain⟨k,l⟩:=w;rw[i]at h;cases b with
     |true=>cases h|false =>
      have j:=g H r (T++[c]) k l i;subst j;exact kY g h
theorem gj{C:List (List Int)}:∀{n:Nat}{H:ac}{row:Int}{T:List Int}{a :ac}{b :List Int},tk C n H row T=(false,a,b)->a =H
 |0,H,row,T,a,b,h=>by cases h;rfl|n+1,H,row,T,a,b,h=>kY (λH r T a b h=>gj h) h
theorem v4{C:List (List Int)}{S:List Int}:∀{n:Nat}{H:ac}{row:Int}{T:List Int},ff C H S->(∀d∈gi C row,d∈S)->(tk C n H row T).1=false
 |0,H,row,T,_,_=>rfl|n+1,H,row,T,a,b=>kX (λH r T e c h=>gj h) (λH r T a b=>v4 a b) a b
set_option tactic.hygienic true in
theorem og{C:List (List Int)}{S:List Int}{a:ac->Int->List Int->Bool×ac×List Int}{row:Int}
  (m:∀H r T f g,a H r T=(false,f,g)->f =H)
  (l:∀H r T,ff C H S->(∀d∈gi C r,d∈S)->(a H r T).1=false)
  (n:∀H r T f g,ff C H S->a H r T=(true,f,g)->∀c∈S,bC f c=bC H c) :
  ∀{cs:List Int}{H:ac}{T:List Int}{f :ac}{g :List Int},ff C H S->gk a row cs H T=(true,f,g)->∀c∈S,bC f c=bC H c
 |[],H,T,f,g,_,h=>by cases h|c::cs,H,T,f,g,cl,h=>by
  unfold gk at h
  split at h;exact og m l n cl h
  ·split at h
   ·rename_i e
    cases h;intro d j;rw[iG,MV λz:d=c=> ?_];obtain⟨r,i,_⟩:=cl d j;rw[z,e]at i;cases i
   ·rename_i r e
    cases k:a H r (T++[c])with
    |mk b w =>
     obtain⟨q,p⟩:=w;rw[k]at h;cases b with
     |true =>
      cases h;intro d j;rw[iG,MV λz:d=c=> ?_]
      ·exact n H r (T++[c]) _ _ cl k d j
      ·obtain⟨t,i,s⟩:=cl d j
       rw[z,e]at i;cases i;have:=l H r (T++[c]) cl s;rw[k]at this;cases this
     |false =>
      have o:=m H r (T++[c]) q p k;rw[o]at h;exact og m l n cl h
theorem zi{C:List (List Int)}{S:List Int}:∀{n:Nat}{H:ac}{row:Int}{T:List Int}{a :ac}{b :List Int},ff C H S->tk C n H row T=(true,a,b)->∀c∈S,bC a c=bC H c
 |0,H,row,T,a,b,_,h=>by cases h|n+1,H,row,T,a,b,d,h=>og (λH r T a b h=>gj h) (λH r T d e=>v4 d e) (λH r T a b d h=>zi d h) d h
noncomputable def hd(C:List (List Int)):Nat->ac
 |0=>[]|k+1=>(tk C 9 (hd C k) (k:Nat) []).2.1
structure MN(C:List (List Int))(k:Nat)(H:ac):Prop where
 mt:Mt C H
 rows:∀r∈H.map (·.2),(0:Int)<=r/\r<(k:Int)
 shut:∃S:List Int,ff C H S/\(∀c∈S,0<=c/\c<8)/\∀i:Nat,i<k->(i:Int)∈H.map (·.2)\/∀c∈gi C (i:Nat),c∈S
theorem BU{C:List (List Int)}(hC:∀r,∀c∈gi C r,0<=c/\c<8):∀k:Nat,MN C k (hd C k)
 |0=>⟨⟨.nil,.nil,λp hp=>(by cases hp)⟩,λr hr=>(by cases hr),[],λc hc=>(by cases hc),λc hc=>(by cases hc),λi hi=>by omega⟩|k+1=>by
  have ih:=BU hC k;obtain⟨S,s1,s2,s3⟩:=ih.shut;have nk:((k:Nat):Int)∉(hd C k).map (·.2):=λz=>by have:=ih.rows _ z;omega
  unfold hd;cases hq:tk C 9 (hd C k) (k:Nat) []with
  |mk b w =>
   obtain⟨H1,T1⟩:=w;dsimp only;obtain⟨_,k2,k3⟩:=FF ⟨ih.mt.keys,ih.mt.edge⟩ hq;cases b with
   |false =>
    have e:=k2 rfl;obtain⟨_,_,_,j4,j5,j6⟩:=zj hC (T:=[]) .nil (λc hc=>by cases hc) (by decide) hq;rw[e];refine⟨ih.mt,λr hr=>by have:=ih.rows r hr;omega,S++T1,λc hc=> ?_,λc hc=> ?_,λi hi=> ?_⟩
    ·rcases M7.mp hc with z|z
     ·obtain⟨r,h1,h2⟩:=s1 c z
      exact⟨r,h1,λd hd=>M9 _ (h2 d hd)⟩
     ·rcases j6 c z with y|⟨q,h1,h2⟩
      ·cases y
      ·exact⟨q,h1,λd hd=>NE _ (h2 d hd)⟩
    ·rcases M7.mp hc with z|z
     ·exact s2 c z
     ·exact j4 c z
    ·by_cases hik:i<k
     ·rcases s3 i hik with z|z
      ·exact .inl z
      ·exact .inr λc hc=>M9 _ (z c hc)
     ·have:i=k:=by omega
      subst this;exact .inr λc hc=>NE _ (j5 c hc)
   |true =>
    have w:=k3 rfl;have so:=zi s1 hq;refine⟨w.mt ih.mt nk,λr hr=> ?_,S,λc hc=> ?_,s2,λi hi=> ?_⟩
    ·rcases Mh.mp (w.rows.mem_iff.mp hr)with z|z
     ·omega
     ·have:=ih.rows r z
      omega
    ·obtain⟨r,h1,h2⟩:=s1 c hc
     exact⟨r,by rw[so c hc];exact h1,h2⟩
    ·by_cases hik:i<k
     ·rcases s3 i hik with z|z
      ·exact .inl (w.rows.mem_iff.mpr (MS _ z))
      ·exact .inr z
     ·have:i=k:=by omega
      subst this;exact .inl (w.rows.mem_iff.mpr MT)
noncomputable def j7:List PV->Option (List (List Int))
 |[]=>some []| .lst xs::r=>(aa xs).bind λa=>(j7 r).map (a::·)|_::_=>none
noncomputable def xO(C:List (List Int)):List PV:=C.map λa=>PV.lst (a.map PV.int)
noncomputable def ga(C:List (List Int)):Bool:=decide (C.length<=8)&&C.all λa=>decide (a.length<=100)&&a.all λc=>decide (0<=c)&&decide (c<8)
noncomputable def sS:List PV->Option PV
 |[.lst cs]=>(j7 cs).bind λC=>if ga C=true then some (gN (hd C C.length))else none|_=>none
theorem oH:∀{cs:List PV}{C:List (List Int)},j7 cs=some C->cs=xO C
 |[],C,h=>by cases h;rfl|x::r,C,h=>by
  cases x with
  |lst xs =>
   have h:((aa xs).bind λc=>(j7 r).map (c::·))=some C:=h;cases a:aa xs with
   |none=>rw[a]at h;cases h|some c =>
    rw[a]at h;cases b:j7 r with
    |none=>rw[b]at h;cases h|some D =>
     rw[b]at h;cases h;rw[gT a,oH b];rfl
  |_=>cases h
theorem oI:∀C:List (List Int),j7 (xO C)=some C
 |[]=>rfl|a::C=>by
  show((aa (a.map PV.int)).bind λa=>(j7 (xO C)).map (a::·))=_;rw[eT,oI C];rfl
theorem vT(h:ga C=true):C.length<=8/\(∀b∈C,b.length<=100)/\∀r,∀c∈gi C r,0<=c/\c<8:=by
 unfold ga at h;rw[MY,NL,Mm]at h;refine⟨h.1,λb d=> ?_,λr c a=> ?_⟩
 ·have:=h.2 b d
  rw[MY,NL]at this;exact this.1
 ·unfold gi at a
  rw[Me]at a;cases e:C[r.toNat]? with
  |none=>rw[e]at a;cases a|some b =>
   rw[e]at a;have:=h.2 b (Mw e);rw[MY,Mm]at this;have:=this.2 c a;rw[MY,NL,NL]at this;exact this
theorem mB{a:Type}(f:a->Bool):∀l:List a,(l.filter f).length+(l.filter λx=> !f x).length=l.length
 |[]=>rfl|x::l=>by
  have:=mB f l;cases h:f x with
  |true=>rw[PP h,PQ (by rw[h];exact Mc),Ma,Ma];omega|false=>rw[PQ (by rw[h];exact Mc),PP (by rw[h];rfl),Ma,Ma];omega
section
variable{C:List (List Int)}{H:ac}{n k:Nat}{R Q:List Int}
theorem Bz{p:List (Int×Int)}{K Q:List Int}(d:(p.map (·.1)).Nodup)(g:(p.map (·.2)).Nodup)(f:∀x∈p,x.1∈K\/x.2∈Q):p.length<=K.length+Q.length:=by
 have e:(p.filter λx=>K.contains x.1).length+(p.filter λx=> !K.contains x.1).length=p.length:=by
  exact mB (λx=>K.contains x.1) p
 have i:(p.filter λx=>K.contains x.1).length<=K.length:=by
  have:=jN (T:=(p.filter λx=>K.contains x.1).map (·.1)) (U:=K) (d.sublist ((List.filter_sublist).map _)) λy b=>by
   obtain⟨x,a,rfl⟩:=MZ.mp b;exact My.mp (M6.mp a).2
  rw[MR]at this;exact this
 have j:(p.filter λx=> !K.contains x.1).length<=Q.length:=by
  have:=jN (T:=(p.filter λx=> !K.contains x.1).map (·.2)) (U:=Q) (g.sublist ((List.filter_sublist).map _)) λy b=>by
   obtain⟨x,a,rfl⟩:=MZ.mp b;obtain⟨h,c⟩:=M6.mp a
   rcases f x h with z|z
   ·rw[My.mpr z]at c
    cases c
   ·exact z
  rw[MR]at this;exact this
 omega
end
theorem xt{l:List Nat}(h:0<bN l f):∃c∈l,0<f c:=by
 induction l with
 |nil=>rw[cB]at h;omega|cons x l d =>
  rw[aQ]at h
  by_cases e:0<f x;exact⟨x,MT,e⟩
  ·obtain⟨c,a,b⟩:=d (by omega)
   exact⟨c,MS _ a,b⟩
theorem zo(a:∀c,0<=f c){c:Nat}(b:c∈l)(h:0<f c):0<bN l f:=by
 induction l with
 |nil=>cases b|cons x l d =>
  rw[aQ]
  rcases Mh.mp b with e|e
  ·subst e
   have:=fC (l:=l) (f:=f) λx _=>a x;omega
  ·have:=d e
   have:=a x;omega
def InR(rs:List (List Nat))(T:List Nat)(a:Nat)(x:Int×Int):Prop:=∃i c:Nat,x=(((a+i:Nat):Int),(c:Int))/\c∈rs.getD i []/\c∉T
theorem EN(rs:List (List Nat)):∀(T:List Nat)(k a:Nat),0<cnt rs T k->∃p:List (Int×Int),p.length=k/\(p.map (·.1)).Nodup/\(p.map (·.2)).Nodup/\∀x∈p,InR rs T a x:=by
 induction rs with
 |nil =>
  intro T k a h;cases k with
  |zero=>exact⟨[],rfl,.nil,.nil,λx b=>nomatch b⟩|succ k=>rw[cnt]at h;omega
 |cons r rs s =>
  intro T k a h;cases k with
  |zero=>exact⟨[],rfl,.nil,.nil,λx b=>nomatch b⟩|succ k =>
   rw[cnt]at h
   by_cases y:0<cnt rs T (k+1)
   ·obtain⟨p,n,o,q,j⟩:=s T (k+1) (a+1) y
    refine⟨p,n,o,q,λx b=> ?_⟩;obtain⟨i,c,e,b1,g⟩:=j x b;exact⟨i+1,c,by rw[e,show a+1+i=a+(i+1)by omega],b1,g⟩
   ·obtain⟨c,t,v⟩:=xt (l:=r.filter λc=> !T.contains c) (f:=λc=>cnt rs (c::T) k) (by omega)
    obtain⟨w,m⟩:=M6.mp t;have m:c∉T:=λz=>by rw[My.mpr z]at m;cases m
    obtain⟨p,n,o,q,j⟩:=s (c::T) k (a+1) v;refine⟨((a:Int),(c:Int))::p,by rw[Ma,n],?_,?_,λx b=> ?_⟩
    ·rw[Mg,Mx]
     refine⟨λz=> ?_,o⟩;obtain⟨x,b,e⟩:=MZ.mp z;obtain⟨i,d,rfl,_,_⟩:=j x b;have e:((a+1+i:Nat):Int)=(a:Int):=e;omega
    ·rw[Mg,Mx]
     refine⟨λz=> ?_,q⟩;obtain⟨x,b,e⟩:=MZ.mp z;obtain⟨i,d,rfl,_,g⟩:=j x b;have e:((d:Nat):Int)=(c:Int):=e;exact g (by rw[show d=c by omega];exact MT)
    ·rcases Mh.mp b with e|e
     ·exact⟨0,c,e,w,m⟩
     ·obtain⟨i,d,u,b1,g⟩:=j x e
      exact⟨i+1,d,by rw[u,show a+1+i=a+(i+1)by omega],b1,λz=>g (MS _ z)⟩
theorem Dz(rs:List (List Nat)):∀(T:List Nat)(g:Nat)(p:List (Int×Int)),(p.map (·.1)).Nodup->(p.map (·.2)).Nodup->(∀x∈p,InR rs T g x)->0<cnt rs T p.length:=by
 induction rs with
 |nil =>
  intro T g p _ _ h;cases p with
  |nil=>show 0<(1:Int);decide|cons x p =>
   obtain⟨i,c,_,b,_⟩:=h x MT;cases b
 |cons r rs F =>
  intro T g p G H h
  by_cases E:∃x∈p,x.1=(g:Int)
  ·obtain⟨x,u,w⟩:=E
   obtain⟨k,n,rfl⟩:=List.append_of_mem u;have S:((k++x::n).map (·.1)).Perm (x.1::(k++n).map (·.1)):=(Pc (a:=x) (l₁:=k) (l₂:=n)).map _;have P:((k++x::n).map (·.2)).Perm (x.2::(k++n).map (·.2)):=(Pc (a:=x) (l₁:=k) (l₂:=n)).map _;have I:=Mx.mp (S.nodup_iff.mp G);have J:=Mx.mp (P.nodup_iff.mp H);obtain⟨i,c,e,b1,N⟩:=h x u;have C :i=0:=by
    rw[e]at w;have w:((g+i:Nat):Int)=(g:Int):=w;omega
   subst C;have q:∀y∈k++n,InR rs (c::T) (g+1) y:=by
    intro y t;have D :y∈k++x::n:=by
     rcases M7.mp t with z|z
     ·exact M9 _ z
     ·exact NE _ (MS _ z)
    obtain⟨j,d,s,B,v⟩:=h y D;have O:j≠0:=λz=>I.1 (MZ.mpr ⟨y,t,by rw[s,z,e]⟩);have K:d≠c:=λz=>J.1 (MZ.mpr ⟨y,t,by rw[s,z,e]⟩);obtain⟨o,rfl⟩:∃o,j=o +1:=⟨j-1,by omega⟩;refine⟨o,d,by rw[s,show g+1+o =g+(o +1)by omega],B,λz=> ?_⟩
    rcases Mh.mp z with y|y
    ·exact K y
    ·exact v y
   have A:=F (c::T) (g+1) (k++n) I.2 J.2 q;have M:(k++x::n).length=(k++n).length+1:=by rw[Ml,Ml,Ma];omega
   rw[M,cnt];have U:=cK rs T ((k++n).length+1);have L:=zo (l:=r.filter λc=> !T.contains c) (f:=λc=>cnt rs (c::T) (k++n).length) (λc=>cK _ _ _) (c:=c) (M6.mpr ⟨b1,by
    cases R:T.contains c with
    |true=>exact absurd (My.mp R) N|false=>rfl⟩) A
   omega
  ·have q:∀y∈p,InR rs T (g+1) y:=by
    intro y t;obtain⟨j,d,s,B,v⟩:=h y t;have O:j≠0:=λz=>E ⟨y,t,by rw[s,z];rfl⟩;obtain⟨o,rfl⟩:∃o,j=o +1:=⟨j-1,by omega⟩;exact⟨o,d,by rw[s,show g+1+o =g+(o +1)by omega],B,v⟩
   have A:=F T (g+1) p G H q;cases Q:p.length with
   |zero=>rw[aV];decide|succ m =>
    rw[Q]at A;rw[cnt];have L:=fC (l:=r.filter λc=> !T.contains c) (f:=λc=>cnt rs (c::T) m) λc _=>cK _ _ _;omega
theorem Hn{H:ac}(ok:MN C n H){p:List (Int×Int)}(l:(p.map (·.1)).Nodup)(o:(p.map (·.2)).Nodup)(i:∀x∈p,(0<=x.1/\x.1<(n:Int))/\x.2∈gi C x.1):p.length<=H.length:=by
 obtain⟨S,h,_,m⟩:=ok.shut;have e:=mB (λq:Int×Int=>decide (q.1∈S)) H;have:=Bz (K:=(H.filter λq=> !decide (q.1∈S)).map (·.2)) (Q:=(H.filter λq=>decide (q.1∈S)).map (·.1)) l o λx k=> ?_
 ·rw[MR,MR]at this
  omega
 ·obtain⟨⟨s,t⟩,f⟩:=i x k
  have a:=m x.1.toNat (by omega);rw[show((x.1.toNat:Nat):Int)=x.1 by omega]at a
  by_cases b:x.2∈S
  ·obtain⟨r,g,_⟩:=h x.2 b
   exact .inr (MZ.mpr ⟨(x.2,r),M6.mpr ⟨iH g,Mj b⟩,rfl⟩)
  ·rcases a with a|a
   ·obtain⟨q,d,e⟩:=MZ.mp a
    refine .inl (MZ.mpr ⟨q,M6.mpr ⟨d,?_⟩,e⟩);rw[Nj,PN];intro c;obtain⟨r,g,z⟩:=h q.1 c;have j:=D4 ok.mt.keys (show(q.1,q.2)∈H from d);rw[j]at g;cases g;have e:q.2=x.1:=e;rw[e]at z;exact b (z x.2 f)
   ·exact absurd (a x.2 f) b
noncomputable def yc(rs:List (List Nat))(T:List Nat):List (List Int):=rs.map λcs=>(cs.filter λc=> !T.contains c).map λc:Nat=>(c:Int)
theorem pe:c∈gi (yc rs T) (i:Nat)↔∃j:Nat,c=(j:Int)/\j∈rs.getD i []/\j∉T:=by
 have e:gi (yc rs T) (i:Nat)=((rs.getD i []).filter λc=> !T.contains c).map λc:Nat=>(c:Int):=by
  unfold gi yc;rw[Nt,Me,Me,Mi];cases rs[i]? <;>rfl
 rw[e,MZ]
 constructor
 ·rintro⟨j,a,rfl⟩
  rw[M6,Nj,<-OV,My]at a;exact⟨j,rfl,a.1,a.2⟩
 ·rintro⟨j,rfl,b,d⟩
  refine⟨j,M6.mpr ⟨b,?_⟩,rfl⟩;rw[Nj,<-OV,My];exact d
theorem BW(y:dJ rs)(T:List Nat)(k:Nat):0<cnt rs T k↔k<=(hd (yc rs T) rs.length).length:=by
 have w:∀r,∀c∈gi (yc rs T) r,0<=c/\c<8:=by
  intro r c l;have e:gi (yc rs T) r=gi (yc rs T) ((r.toNat:Nat):Int):=by unfold gi;rw[Nt]
  rw[e]at l;obtain⟨j,rfl,a,_⟩:=pe.mp l;rw[Me]at a;cases q:rs[r.toNat]? with
  |none=>rw[q]at a;cases a|some cs =>
   rw[q]at a;have:=y cs (Mw q) j a;omega
 have ok:=BU w rs.length;obtain⟨H,t⟩:∃H,H=hd (yc rs T) rs.length:=⟨_,rfl⟩;rw[<- t]at ok ⊢
 constructor
 ·intro h
  obtain⟨p,f,a,A,n⟩:=EN rs T k 0 h;rw[<- f];refine Hn ok a A λx d=> ?_;obtain⟨i,c,rfl,g,o⟩:=n x d;have D:i<rs.length:=by
   by_cases z:i<rs.length;exact z
   ·rw[Me,Nc (by omega)]at g
    cases g
  rw[Nw];exact⟨by show 0<=(i:Int)/\(i:Int)<(rs.length:Int);omega,pe.mpr ⟨c,rfl,g,o⟩⟩
 ·intro h
  have f:((H.take k).map λq:Int×Int=>(q.2,q.1)).length=k:=by rw[MR,Nz];omega
  have:=Dz rs T 0 ((H.take k).map λq:Int×Int=>(q.2,q.1)) ?_ ?_ λx d=> ?_
  ·rw[f]at this
   exact this
  ·rw[M4]
   have:=ok.mt.rows;exact(this.sublist ((P5 k H).map (·.2)))
  ·rw[M4]
   have:=ok.mt.keys;exact(this.sublist ((P5 k H).map (·.1)))
  ·obtain⟨q,b,rfl⟩:=MZ.mp d
   have b:=Pn b;obtain⟨B,C⟩:=ok.rows q.2 (MZ.mpr ⟨q,b,rfl⟩);have m:=ok.mt.edge q b;rw[show q.2=((q.2.toNat:Nat):Int)by omega]at m;obtain⟨j,u,s,v⟩:=pe.mp m;refine⟨q.2.toNat,j,?_,s,v⟩;rw[Nw];exact Prod.ext (by show q.2=((q.2.toNat:Nat):Int);omega) u
noncomputable def D3(rows:List (List Nat))(a:Nat)(b:List (Int×Int)):Bool:=decide (b.length<=a/\a-b.length<=(hd (yc (rows.drop (bJ b)) (bB b)) (rows.drop (bJ b)).length).length)
theorem yn(h:dJ rows)(k:Nat):dJ (rows.drop k):=λcs a=>h cs (OJ a)
theorem Hs(c:dJ rows)(a:Nat)(b:List (Int×Int)):D3 rows a b=decide (0<mq rows a b):=by
 unfold D3 mq
 by_cases h:b.length<=a
 ·rw[MX h]
  have:=BW (yn c (bJ b)) (bB b) (a-b.length)
  by_cases g:0<cnt (rows.drop (bJ b)) (bB b) (a-b.length);rw[Mj g,Mj ⟨h,this.mp g⟩];rw[Mq g,Mq λz=>g (this.mpr z.2)]
 ·rw[MV h,Mq λz=>h z.1]
  rfl
theorem K6(f:dJ rows)(a:Nat):OD.GO bq (aW 0 rows) a (D3 rows a):=by
 intro d c L b i e o;rw[Hs f,A1 rows a d c L b i e o]
 by_cases h:b.length<a
 ·rw[MX h]
  by_cases g:0<OD.cnt bq (b++[c]) L (a-b.length-1)
  ·rw[Mj (show(0:Int)<((OD.cnt bq (b++[c]) L (a-b.length-1):Nat):Int)by omega),Mj ⟨h,g⟩]
  ·rw[Mq (show¬(0:Int)<((OD.cnt bq (b++[c]) L (a-b.length-1):Nat):Int)by omega),Mq λz=>g z.2]
 ·rw[MV h,Mq (show¬(b.length<a/\0<OD.cnt bq (b++[c]) L (a-b.length-1))from λz=>h z.1)]
  rfl
noncomputable def tZ(rows:List (List Nat))(a:Nat)(b:Int×Int)(s:List (Int×Int))(c:Int×Int):List (Int×Int):=if fA b c=true/\bq s c=true/\D3 rows a (s++[c])=true then s++[c]else s
noncomputable def FU(rows:List (List Nat))(a:Nat)(b:List (Int×Int))(c:Int×Int):List (Int×Int):=(aW 0 rows).foldl (tZ rows a c) b
theorem xA{d a:Type}{f:a->d->a}{b:a}:∀{l:List d},(∀c∈l,f b c=b)->l.foldl f b=b
 |[],_=>rfl|c::l,h=>by rw[Ni,h c MT];exact xA λx e=>h x (MS _ e)
theorem n9{d a:Type}{f g:a->d->a}:∀{l:List d}{b:a},(∀c∈l,∀s,f s c=g s c)->l.foldl f b=l.foldl g b
 |[],_,_=>rfl|c::l,b,h=>by rw[Ni,Ni,h c MT];exact n9 λx e=>h x (MS _ e)
noncomputable def hZ(rows:List (List Nat))(p:List (Int×Int)):Option (List (Int×Int)):=OD.Ar bq [] (aW 0 rows) p
section
variable{rows:List (List Nat)}(hc:dJ rows)(hr:∀cs∈rows,cs.Pairwise (·<·))
include hr
theorem Hy(A:dJ rows)(D:CT rows p)(v:p[i]? =some x) :
  FU rows p.length (p.take i) x=(OD.tr bq [] (aW 0 rows) p i).getD (p.take i)/\∀q,OD.tr bq [] (aW 0 rows) p i=some q->q.length=p.length:=by
 have w:=bO (r:=0) hr;have l:=cQ w;have E:=(eP hr).mp D;have G:i<p.length:=(Mk.mp v).1;obtain⟨b,L,d,B,u⟩:=OD.zf (aW 0 rows) [] p i x l E v;rw[List.nil_append]at u;have o:(p.take i).length=i:=by rw[Nz];omega
 have a :=w;rw[d]at a;obtain⟨_,m,h⟩:=Ny.mp a;obtain⟨e,_⟩:=OG.mp m;have F:FU rows p.length (p.take i) x=L.foldl (OD.fbT bq (D3 rows p.length)) (p.take i):=by
  unfold FU;rw[d,OL,Ni];have C:b.foldl (tZ rows p.length x) (p.take i)=p.take i:=xA λc j=>by
   unfold tZ;have:=(h c j x MT).2;rw[MV λz=>by rw[this]at z;cases z.1]
  have y:tZ rows p.length x (p.take i) x=p.take i:=by
   unfold tZ;rw[MV λz=>by rw[wc]at z;cases z.1]
  rw[C,y];refine n9 λc k s=> ?_;unfold tZ OD.fbT;have:=(e c k).1
  by_cases g:bq s c=true/\D3 rows p.length (s++[c])=true;rw[MX g,MX ⟨this,g⟩];rw[MV g,MV λz=>g z.2]
 have t:=OD.mC (K6 A p.length) L (b++[x]) (p.take i) (by rw[d,Nb];rfl) B.more (by omega);rw[o]at t;rw[F,t,u]
 by_cases g:0<OD.cnt bq (p.take i) L (p.length-i)
 ·rw[MX g,MX g]
  refine⟨rfl,λq f=> ?_⟩;cases f;have n:L.Nodup:=by
   rw[d]at l;exact(Mx.mp (Na.mp l).2.1).2
  rw[Ml,(OD.jD L (p.take i) (p.length-i) 0 n g).2.1,o];omega
 ·rw[MV g,MV g]
  exact⟨rfl,λq f=>by cases f⟩
theorem Az(hp:CT rows p):(∀q,hZ rows p=some q->CT rows q/\q.length=p.length/\cx rows q=cx rows p+1)/\(hZ rows p=none->((cx rows p:Nat):Int)+1=cnt rows [] p.length):=by
 have nd:=cQ (bO (r:=0) hr);obtain⟨h1,h2⟩:=OD.ui (aW 0 rows) [] p nd ((eP hr).mp hp);refine⟨λq hq=> ?_,λhq=> ?_⟩
 ·obtain⟨a,b,c⟩:=h1 q hq
  exact⟨(eP hr).mpr a,b,c⟩
 ·have:=h2 hq
  have e:=cr rows 0 [] p.length (λx hx=>by cases hx);rw[show bB []=[]from rfl]at e;rw[<- e];unfold cx;omega
end
end IR
namespace XE
open PySem
end XE
namespace XE
open PySem PySem.W PyProof.Rows
end XE
namespace L2.XN
open PySem PySem.Spec PyProof.Rows L2 XE
end L2.XN
namespace L2.XN
open PySem PySem.Spec PyProof.Rows L2 XE
section
variable{X:Cx}{pins:List (Addr×Obj)}{σ:St}{H:Hp}{s:Shared}{W:Value->Shared->Prop}{A:Around}{cm:Bool}
noncomputable abbrev Kd(X:Cx)(pn:List (Addr×Obj))(W:Value->Shared->Prop):Cx:={X with pn:=pn,xe:=W}
set_option tactic.hygienic false
theorem pinned(I:Inv X pins σ H s):Inv (Kd X (X.pn++pins) W) [] σ H s := ⟨⟨I.ok.mod,I.ok.kind,I.ok.glob,I.ok.blt,I.ok.above,I.ok.inj,I.ok.has,I.ok.cab,I.ok.hd,I.ok.frames,I.ok.stk,I.ok.exf,I.ok.bs,I.ok.bsz,I.ok.noex,I.ok.exfs,I.ok.funs,I.ok.frf⟩,I.os,I.bare,I.base,I.loc,I.cell,I.free,I.freeC,λp a=>I.pin p (by rw[NU]at a;exact a),I.hok,I.len⟩
theorem unpinned(ok:X.Ok)(I:Inv (Kd X (X.pn++pins) W) b σ H s):Inv X pins σ H s := ⟨ok,I.os,I.bare,I.base,I.loc,I.cell,I.free,I.freeC,λp a=>I.pin p (M9 _ a),I.hok,I.len⟩
end
end L2.XN
namespace L2.XN
open PySem PySem.Spec PyProof.Rows L2 XE
end L2.XN
namespace IR
open PySem PySem.Spec PyProof.Rows L2 L2.XN
section
variable{K:W.Frag}{mg:Str->Option Value}{P:Nat->Option FD}{F:List (Str×Nat)}{G:List (Str×PV)}{B:List Str}{p:Program}{w:World}{base:Heap}{k:Nat}
variable(hG:∀x v,G.lookup x=some v->∃u w,mg x=some u/\RelV w u/\∀Hi n H,Rp K Hi n v H w)(hB:∀x,B.contains x=true->mg x=none)
include hG hB
end
end IR
namespace Law
open PySem PySem.Spec PyProof.Rows L2 IR
def gg(i:Nat):Stmt:=PySem.Challenge.pw_unstruck_k52_next_in_order.main.body.getD i (.Pass ⟨0,0,0,0⟩)
noncomputable def F:List (Str×Nat):=[("cells_of",3),("columns_in",109),("is_number",24),("is_cell",25),("is_placing",26),("bits_of",46),("with_line",47),("takes_column",110),("holders_of",111),("tails_of",163),("row_behind",164),("columns_taken",165),("number_beginning",166),("placing_at",167),("start_at",168),("number_of",169),("free_columns",173),("goes_on",174),("first_behind",175),("next_placing",176),("_law_cell",4),("_law_mixed",5),("_law_board",62),("_law_cells",66),("_law_whole",8),("_law_same",9),("_law_all_same",10),("_law_row",64),("_law_is_placing",177),("law",178)]
noncomputable def G:List (Str×PV):=[("CELL",(.str "x"))]
noncomputable def B:List Str:=["len","int","list","tuple","all","isinstance","str","bool","range","zip","enumerate","sorted","set","sum","reversed","dict"]
abbrev s3:Stmt:=gg 2
noncomputable abbrev N3:List Str:=["board","cells","row","line","column","sign"]
abbrev uU:Stmt:=gg 3
noncomputable abbrev MD:List Str:=["line"]
abbrev GH:Stmt:=gg 4
noncomputable abbrev N24:List Str:=["thing"]
abbrev GG:Stmt:=gg 5
noncomputable abbrev N25:List Str:=["board","thing","row","column"]
abbrev GF:Stmt:=gg 6
noncomputable abbrev N26:List Str:=["board","thing","rows","columns"]
abbrev GE:Stmt:=gg 8
noncomputable abbrev N46:List Str:=["line","bits","bit","sign"]
abbrev JS:Stmt:=gg 9
noncomputable abbrev N47:List Str:=["levels","bits","after","size","level","above","taken","count","bit"]
abbrev qz:Stmt:=gg 14
noncomputable abbrev N110:List Str:=["choices","holders","row","tried","column"]
abbrev yD:Stmt:=gg 15
noncomputable abbrev N111:List Str:=["choices","holders","row"]
abbrev uT:Stmt:=gg 17
noncomputable abbrev MC:List Str:=["board","tails","line"]
abbrev uS:Stmt:=gg 18
noncomputable abbrev MB:List Str:=["begun"]
abbrev uR:Stmt:=gg 19
noncomputable abbrev MA:List Str:=["begun"]
abbrev uQ:Stmt:=gg 20
noncomputable abbrev L9:List Str:=["tails","begun","size","tail","further","taken"]
abbrev uP:Stmt:=gg 21
noncomputable abbrev L8:List Str:=["board","size","number","tails","begun","left","cell","start","count"]
abbrev uO:Stmt:=gg 22
noncomputable abbrev L7:List Str:=["placing","cell"]
abbrev uN:Stmt:=gg 23
noncomputable abbrev L6:List Str:=["board","placing","tails","starts"]
abbrev uM:Stmt:=gg 24
noncomputable abbrev L5:List Str:=["line","taken"]
abbrev uL:Stmt:=gg 25
noncomputable abbrev L4:List Str:=["board","begun","size","taken","choices"]
abbrev uK:Stmt:=gg 26
noncomputable abbrev L3:List Str:=["board","begun","last","size","found","cell","start"]
abbrev uJ:Stmt:=gg 27
noncomputable abbrev Lz:List Str:=["board","placing","place","found"]
abbrev s4:Stmt:=gg 29
noncomputable abbrev N4:List Str:=["_law_script","_law_k"]
abbrev s5:Stmt:=gg 30
noncomputable abbrev N5:List Str:=["_law_cell_here","_law_k","_law_number"]
abbrev GD:Stmt:=gg 31
noncomputable abbrev N62:List Str:=["_law_head","_law_cell_here","_law_most","_law_rows","_law_columns","_law_thick","_law_lines","_law_row_here","_law_signs","_law_column","_law_place","_law_one"]
abbrev GB:Stmt:=gg 32
noncomputable abbrev N66:List Str:=["_law_board_here","_law_found","_law_row_here","_law_column"]
abbrev s8:Stmt:=gg 33
noncomputable abbrev N8:List Str:=["_law_found"]
abbrev s9:Stmt:=gg 34
noncomputable abbrev N9:List Str:=["_law_found","_law_due"]
abbrev GI:Stmt:=gg 35
noncomputable abbrev N10:List Str:=["_law_found","_law_due","_law_one","_law_other"]
abbrev GC:Stmt:=gg 36
noncomputable abbrev N64:List Str:=["_law_board_here","_law_counts","_law_line","_law_fresh","_law_taken","_law_column","_law_more","_law_found"]
abbrev uI:Stmt:=gg 37
noncomputable abbrev Ly:List Str:=["_law_board_here","_law_placing","_law_size","_law_some","_law_k","_law_j"]
abbrev mj:Stmt:=gg 38
noncomputable abbrev Lx:List Str:=["_law_script","_law_board_here","_law_numbers","_law_size","_law_placing","_law_k","_law_after"]
noncomputable def d3:FD:=⟨6,1,(.cons (.asg 1 true [] (.lst .nil)) (.cons (.forr [2,3] false [0] (.enum (.var 0)) (.cons (.forr [4,5] false [3] (.enum (.var 3)) (.cons (.ife (.val (.cmp .Eq (.var 5) (.con (.str "x")))) (.cons (.app 1 [2,4] (.tup (.cons (.var 2) (.cons (.var 4) .nil)))) .nil) .nil) .nil)) .nil)) (.cons (.ret [1] (.var 1)) .nil)))⟩
noncomputable def Ih:FD:=⟨1,1,(.cons (.ret [] (.lc2 (.var 0) (.enum (.var 0)) (.yes (.val (.cmp .Eq (.var 1) (.con (.str "x"))))) [])) .nil)⟩
noncomputable def d24:FD:=⟨1,1,(.cons (.ret [] (.and (.bf (.isin "int") (.cons (.var 0) .nil)) (.not (.bf (.isin "bool") (.cons (.var 0) .nil))))) .nil)⟩
noncomputable def d25:FD:=⟨4,2,(.cons (.ife (.or (.not (.val (.bf (.isin "tuple") (.cons (.var 1) .nil)))) (.val (.cmp .NotEq (.bf .len (.cons (.var 1) .nil)) (.con (.int 2))))) (.cons (.ret [] (.con (.bl false))) .nil) .nil) (.cons (.asg 2 false [] (.ix (.var 1) (.con (.int 0)))) (.cons (.asg 3 false [] (.ix (.var 1) (.con (.int 1)))) (.cons (.ife (.or (.not (.val (.call 24 (.cons (.var 2) .nil)))) (.not (.val (.call 24 (.cons (.var 3) .nil))))) (.cons (.ret [] (.con (.bl false))) .nil) .nil) (.cons (.ife (.or (.not (.val (.chn .LtE .Lt (.con (.int 0)) (.var 2) (.bf .len (.cons (.var 0) .nil))))) (.not (.val (.chn .LtE .Lt (.con (.int 0)) (.var 3) (.bf .len (.cons (.ix (.var 0) (.con (.int 0))) .nil)))))) (.cons (.ret [] (.con (.bl false))) .nil) .nil) (.cons (.ret [] (.cmp .Eq (.ix (.ix (.var 0) (.var 2)) (.var 3)) (.con (.str "x")))) .nil))))))⟩
noncomputable def d26:FD:=⟨4,2,(.cons (.ife (.not (.val (.bf (.isin "tuple") (.cons (.var 1) .nil)))) (.cons (.ret [] (.con (.bl false))) .nil) .nil) (.cons (.ife (.not (.val (.bf .all (.cons (.lc (.call 25 (.cons (.var 1) (.cons (.var 0) .nil))) (.seq (.var 1)) .no [0]) .nil)))) (.cons (.ret [] (.con (.bl false))) .nil) .nil) (.cons (.asg 2 false [] (.lc (.ix (.var 0) (.con (.int 0))) (.seq (.var 1)) .no [])) (.cons (.asg 3 false [] (.lc (.ix (.var 0) (.con (.int 1))) (.seq (.var 1)) .no [])) (.cons (.ret [] (.and (.cmp .Eq (.var 2) (.bf .sset (.cons (.var 2) .nil))) (.cmp .Eq (.bf .lset (.cons (.var 3) .nil)) (.bf .len (.cons (.var 3) .nil))))) .nil)))))⟩
noncomputable def d46:FD:=⟨4,1,(.cons (.asg 1 true [] (.lst .nil)) (.cons (.asg 2 false [] (.con (.int 1))) (.cons (.forr [3] true [0] (.seq (.var 0)) (.cons (.ife (.val (.cmp .Eq (.var 3) (.con (.str "x")))) (.cons (.app 1 [2] (.var 2)) .nil) .nil) (.cons (.asg 2 false [] (.bin .Mult (.var 2) (.con (.int 2)))) .nil))) (.cons (.ret [1] (.var 1)) .nil))))⟩
noncomputable def JV:FD:=⟨9,2,(.cons (.hand 2 bv) .nil)⟩
noncomputable def d110:FD:=⟨5,4,(.cons .never .nil)⟩
noncomputable def EK:FD:=⟨3,1,(.cons (.drop (.call 20011 (.cons (.con .non) .nil))) (.cons (.hand 1 sS) .nil))⟩
noncomputable def Ig:FD:=⟨3,1,(.cons (.asg 1 false [] (.lst (.cons (.lst (.cons (.dlit (.inl 0) (.con (.int 1))) .nil)) .nil))) (.cons (.forr [2] true [0] (.rvd (.var 0)) (.cons (.asg 1 false [] (.bin .Add (.lst (.cons (.call 47 (.cons (.ix (.var 1) (.con (.int 0))) (.cons (.call 46 (.cons (.var 2) .nil)) .nil))) .nil)) (.var 1))) .nil)) (.cons (.ret [1] (.var 1)) .nil)))⟩
noncomputable def Ie:FD:=⟨1,1,(.cons (.ret [] (.ite (.val (.cmp .Gt (.bf .len (.cons (.var 0) .nil)) (.con (.int 0)))) (.bin .Add (.ix (.ix (.var 0) (.neg (.con (.int 1)))) (.con (.int 0))) (.con (.int 1))) (.con (.int 0)))) .nil)⟩
noncomputable def Ic:FD:=⟨1,1,(.cons (.ret [0] (.lc (.ix (.var 0) (.con (.int 1))) (.seq (.var 0)) .no [])) .nil)⟩
noncomputable def Ib:FD:=⟨6,3,(.cons (.asg 3 false [] (.ix (.var 0) (.call 164 (.cons (.var 1) .nil)))) (.cons (.asg 4 false [] (.bin .Sub (.var 2) (.bf .len (.cons (.var 1) .nil)))) (.cons (.ife (.not (.val (.chn .LtE .Lt (.con (.int 0)) (.var 4) (.bf .len (.cons (.var 3) .nil))))) (.cons (.ret [] (.con (.int 0))) .nil) .nil) (.cons (.asg 5 false [] (.bf .sum (.cons (.lc (.bin .LShift (.con (.int 1)) (.var 0)) (.seq (.call 165 (.cons (.var 1) .nil))) .no []) .nil))) (.cons (.ret [] (.bf .sum (.cons (.lci (.ix (.var 3) (.var 4)) 5) .nil))) .nil)))))⟩
noncomputable def Ia:FD:=⟨9,3,(.cons (.asg 3 false [] (.call 163 (.cons (.var 0) .nil))) (.cons (.ife (.not (.val (.chn .LtE .Lt (.con (.int 0)) (.var 2) (.call 166 (.cons (.var 3) (.cons (.tup .nil) (.cons (.var 1) .nil))))))) (.cons (.rais "NoPlacing") .nil) .nil) (.cons (.asg 4 false [] (.tup .nil)) (.cons (.asg 5 false [2] (.var 2)) (.cons (.forr [6] true [] (.seq (.call 3 (.cons (.var 0) .nil))) (.cons (.asg 7 false [] (.bin .Add (.var 4) (.tup (.cons (.var 6) .nil)))) (.cons (.ife (.val (.call 26 (.cons (.var 0) (.cons (.var 7) .nil)))) (.cons (.asg 8 false [] (.call 166 (.cons (.var 3) (.cons (.var 7) (.cons (.var 1) .nil))))) (.cons (.ife (.val (.cmp .Lt (.var 5) (.var 8))) (.cons (.asg 4 false [7] (.var 7)) .nil) (.cons (.aug 5 .Sub (.var 8)) .nil)) .nil)) .nil) .nil))) (.cons (.ret [4] (.var 4)) .nil))))))⟩
noncomputable def IZ:FD:=⟨2,2,(.cons (.ret [0,1] (.bin .Add (.bf .tuple (.cons (.lc (.var 0) (.seq (.var 0)) (.yes (.val (.cmp .Lt (.var 0) (.var 1)))) [1]) .nil)) (.tup (.cons (.var 1) .nil)))) .nil)⟩
noncomputable def IY:FD:=⟨4,2,(.cons (.ife (.not (.val (.call 26 (.cons (.var 0) (.cons (.var 1) .nil))))) (.cons (.rais "NoPlacing") .nil) .nil) (.cons (.asg 2 false [] (.call 163 (.cons (.var 0) .nil))) (.cons (.asg 3 false [] (.lc (.call 168 (.cons (.var 1) (.cons (.var 0) .nil))) (.seq (.call 3 (.cons (.var 0) .nil))) (.yes (.val (.cmp .NotIn (.var 0) (.var 1)))) [1])) (.cons (.ret [] (.bf .sum (.cons (.lc (.call 166 (.cons (.var 3) (.cons (.var 0) (.cons (.bf .len (.cons (.var 2) .nil)) .nil)))) (.seq (.var 3)) (.yes (.val (.call 26 (.cons (.var 1) (.cons (.var 0) .nil))))) [0,1,2]) .nil))) .nil))))⟩
noncomputable def IW:FD:=⟨2,2,(.cons (.ret [] (.lc (.var 0) (.seq (.call 109 (.cons (.var 0) .nil))) (.yes (.val (.cmp .NotIn (.var 0) (.var 1)))) [1])) .nil)⟩
noncomputable def IV:FD:=⟨5,3,(.cons (.asg 3 false [] (.call 165 (.cons (.var 1) .nil))) (.cons (.asg 4 false [] (.lc (.call 173 (.cons (.var 0) (.cons (.var 1) .nil))) (.seq (.sl (.var 0) (.yes (.call 164 (.cons (.var 1) .nil))) .no)) .no [3])) (.cons (.ret [] (.chn .LtE .LtE (.con (.int 0)) (.bin .Sub (.var 2) (.bf .len (.cons (.var 1) .nil))) (.bf .len (.cons (.call 111 (.cons (.var 4) .nil)) .nil)))) .nil)))⟩
noncomputable def IU:FD:=⟨7,4,(.cons (.asg 4 false [1] (.var 1)) (.cons (.forr [5] true [] (.seq (.call 3 (.cons (.var 0) .nil))) (.cons (.asg 6 false [] (.bin .Add (.var 4) (.tup (.cons (.var 5) .nil)))) (.cons (.ife (.and (.val (.cmp .Gt (.var 5) (.var 2))) (.and (.val (.call 26 (.cons (.var 0) (.cons (.var 6) .nil)))) (.val (.call 174 (.cons (.var 0) (.cons (.var 6) (.cons (.var 3) .nil))))))) (.cons (.asg 4 false [6] (.var 6)) .nil) .nil) .nil))) (.cons (.ret [4] (.var 4)) .nil)))⟩
noncomputable def IQ:FD:=⟨4,2,(.cons (.ife (.not (.val (.call 26 (.cons (.var 0) (.cons (.var 1) .nil))))) (.cons (.rais "NoPlacing") .nil) .nil) (.cons (.forr [2] true [] (.rng (.cons (.bin .Sub (.bf .len (.cons (.var 1) .nil)) (.con (.int 1))) (.cons (.neg (.con (.int 1))) (.cons (.neg (.con (.int 1))) .nil)))) (.cons (.asg 3 false [] (.call 175 (.cons (.var 0) (.cons (.sl (.var 1) .no (.yes (.var 2))) (.cons (.ix (.var 1) (.var 2)) (.cons (.bf .len (.cons (.var 1) .nil)) .nil)))))) (.cons (.ife (.val (.cmp .Eq (.bf .len (.cons (.var 3) .nil)) (.bf .len (.cons (.var 1) .nil)))) (.cons (.ret [3] (.var 3)) .nil) .nil) .nil))) (.cons (.ret [] (.con .non)) .nil)))⟩
noncomputable def d4:FD:=⟨2,2,(.cons (.ife (.val (.cmp .Lt (.var 1) (.bf .len (.cons (.var 0) .nil)))) (.cons (.ret [] (.ix (.var 0) (.var 1))) .nil) .nil) (.cons (.ret [] (.con (.int 0))) .nil))⟩
noncomputable def d5:FD:=⟨3,2,(.cons (.asg 2 false [] (.bin .Mod (.bin .Add (.bin .Add (.bin .Mult (.bin .Mod (.var 0) (.con (.int 2147483647))) (.con (.int 39373))) (.bin .Mult (.bin .Mult (.con (.int 7877)) (.var 1)) (.var 1))) (.con (.int 60493))) (.con (.int 2147483647)))) (.cons (.asg 2 false [] (.bin .Mod (.bin .Mult (.var 2) (.var 2)) (.con (.int 2147483629)))) (.cons (.ret [2,1,2] (.bin .Mod (.bin .Mult (.bin .Add (.bin .Mult (.var 2) (.con (.int 48271))) (.var 1)) (.var 2)) (.con (.int 2147483587)))) .nil)))⟩
noncomputable def d62:FD:=⟨12,3,(.cons (.asg 3 false [] (.bin .Add (.con (.int 1)) (.bin .Mod (.var 0) (.var 2)))) (.cons (.asg 4 false [] (.bin .Add (.con (.int 1)) (.bin .Mod (.bin .FloorDiv (.var 0) (.con (.int 8))) (.var 2)))) (.cons (.asg 5 false [] (.bin .Add (.con (.int 1)) (.bin .Mod (.bin .FloorDiv (.var 0) (.con (.int 64))) (.con (.int 8))))) (.cons (.asg 6 true [] (.lst .nil)) (.cons (.forr [7] true [] (.rng (.cons (.var 3) .nil)) (.cons (.asg 8 false [] (.con (.str ""))) (.cons (.forr [9] true [] (.rng (.cons (.var 4) .nil)) (.cons (.asg 10 false [] (.bin .Add (.bin .Mult (.var 4) (.var 7)) (.var 9))) (.cons (.asg 11 false [] (.cmp .Eq (.bin .Mod (.bin .FloorDiv (.var 1) (.bin .LShift (.con (.int 1)) (.var 10))) (.con (.int 2))) (.con (.int 1)))) (.cons (.ife (.val (.cmp .Lt (.var 1) (.bin .LShift (.con (.int 1)) (.con (.int 64))))) (.cons (.asg 11 false [] (.cmp .Lt (.bin .Mod (.call 5 (.cons (.var 1) (.cons (.var 10) .nil))) (.con (.int 8))) (.var 5))) .nil) .nil) (.cons (.asg 8 false [8] (.bin .Add (.var 8) (.ix (.lst (.cons (.con (.str ".")) (.cons (.con (.str "x")) .nil))) (.bf .int (.cons (.var 11) .nil))))) .nil))))) (.cons (.app 6 [8] (.var 8)) .nil)))) (.cons (.ret [6] (.bf .tuple (.cons (.var 6) .nil))) .nil))))))⟩
noncomputable def d66:FD:=⟨4,1,(.cons (.asg 1 true [] (.lst .nil)) (.cons (.forr [2] true [] (.rng (.cons (.bf .len (.cons (.var 0) .nil)) .nil)) (.cons (.forr [3] true [] (.rng (.cons (.bf .len (.cons (.ix (.var 0) (.con (.int 0))) .nil)) .nil)) (.cons (.ife (.val (.cmp .Eq (.ix (.ix (.var 0) (.var 2)) (.var 3)) (.con (.str "x")))) (.cons (.app 1 [2,3] (.tup (.cons (.var 2) (.cons (.var 3) .nil)))) .nil) .nil) .nil)) .nil)) (.cons (.ret [1] (.var 1)) .nil)))⟩
noncomputable def d8:FD:=⟨1,1,(.cons (.ret [] (.and (.bf (.isin "int") (.cons (.var 0) .nil)) (.not (.bf (.isin "bool") (.cons (.var 0) .nil))))) .nil)⟩
noncomputable def d9:FD:=⟨2,2,(.cons (.ife (.val (.cmp .Is (.var 1) (.con .non))) (.cons (.ret [] (.cmp .Is (.var 0) (.con .non))) .nil) .nil) (.cons (.ife (.val (.bf (.isin "tuple") (.cons (.var 1) .nil))) (.cons (.ret [] (.and (.bf (.isin "tuple") (.cons (.var 0) .nil)) (.and (.cmp .Eq (.bf .len (.cons (.var 0) .nil)) (.bf .len (.cons (.var 1) .nil))) (.call 10 (.cons (.bf .list (.cons (.var 0) .nil)) (.cons (.bf .list (.cons (.var 1) .nil)) .nil)))))) .nil) .nil) (.cons (.ife (.val (.bf (.isin "list") (.cons (.var 1) .nil))) (.cons (.ret [] (.and (.bf (.isin "list") (.cons (.var 0) .nil)) (.and (.cmp .Eq (.bf .len (.cons (.var 0) .nil)) (.bf .len (.cons (.var 1) .nil))) (.call 10 (.cons (.var 0) (.cons (.var 1) .nil)))))) .nil) .nil) (.cons (.ife (.val (.bf (.isin "str") (.cons (.var 1) .nil))) (.cons (.ret [] (.and (.bf (.isin "str") (.cons (.var 0) .nil)) (.cmp .Eq (.var 0) (.var 1)))) .nil) .nil) (.cons (.ret [] (.and (.call 8 (.cons (.var 0) .nil)) (.cmp .Eq (.var 0) (.var 1)))) .nil)))))⟩
noncomputable def d10:FD:=⟨4,2,(.cons (.forr [2,3] false [0,1] (.zip (.var 0) (.var 1)) (.cons (.ife (.not (.val (.call 9 (.cons (.var 2) (.cons (.var 3) .nil))))) (.cons (.ret [] (.con (.bl false))) .nil) .nil) .nil)) (.cons (.ret [] (.con (.bl true))) .nil))⟩
noncomputable def JU:FD:=⟨8,1,(.cons (.hand 1 jq) .nil)⟩
noncomputable def IP:FD:=⟨6,3,(.cons (.ife (.or (.not (.val (.bf (.isin "tuple") (.cons (.var 1) .nil)))) (.val (.cmp .NotEq (.bf .len (.cons (.var 1) .nil)) (.var 2)))) (.cons (.ret [] (.con (.bl false))) .nil) .nil) (.cons (.asg 3 false [] (.call 66 (.cons (.var 0) .nil))) (.cons (.forr [4] true [] (.rng (.cons (.var 2) .nil)) (.cons (.ife (.or (.not (.val (.bf (.isin "tuple") (.cons (.ix (.var 1) (.var 4)) .nil)))) (.val (.cmp .NotIn (.ix (.var 1) (.var 4)) (.var 3)))) (.cons (.ret [] (.con (.bl false))) .nil) .nil) (.cons (.ife (.or (.not (.val (.call 8 (.cons (.ix (.ix (.var 1) (.var 4)) (.con (.int 0))) .nil)))) (.not (.val (.call 8 (.cons (.ix (.ix (.var 1) (.var 4)) (.con (.int 1))) .nil))))) (.cons (.ret [] (.con (.bl false))) .nil) .nil) (.cons (.forr [5] true [] (.rng (.cons (.var 4) .nil)) (.cons (.ife (.or (.val (.cmp .GtE (.ix (.ix (.var 1) (.var 5)) (.con (.int 0))) (.ix (.ix (.var 1) (.var 4)) (.con (.int 0))))) (.val (.cmp .Eq (.ix (.ix (.var 1) (.var 5)) (.con (.int 1))) (.ix (.ix (.var 1) (.var 4)) (.con (.int 1)))))) (.cons (.ret [] (.con (.bl false))) .nil) .nil) .nil)) .nil)))) (.cons (.ret [] (.con (.bl true))) .nil))))⟩
noncomputable def IN:FD:=⟨7,1,(.cons (.asg 1 false [] (.call 62 (.cons (.call 4 (.cons (.var 0) (.cons (.con (.int 0)) .nil))) (.cons (.call 4 (.cons (.var 0) (.cons (.con (.int 1)) .nil))) (.cons (.con (.int 4)) .nil))))) (.cons (.asg 2 false [] (.call 64 (.cons (.var 1) .nil))) (.cons (.asg 3 false [] (.bin .Mod (.call 4 (.cons (.var 0) (.cons (.con (.int 2)) .nil))) (.bf .len (.cons (.var 2) .nil)))) (.cons (.asg 4 false [] (.call 167 (.cons (.var 1) (.cons (.var 3) (.cons (.con (.int 0)) .nil))))) (.cons (.forr [5] true [] (.rng (.cons (.ix (.var 2) (.var 3)) .nil)) (.cons (.ife (.or (.not (.val (.call 177 (.cons (.var 1) (.cons (.var 4) (.cons (.var 3) .nil)))))) (.not (.val (.call 9 (.cons (.call 169 (.cons (.var 1) (.cons (.var 4) .nil))) (.cons (.var 5) .nil)))))) (.cons (.ret [] (.con (.bl false))) .nil) .nil) (.cons (.asg 6 false [] (.call 176 (.cons (.var 1) (.cons (.var 4) .nil)))) (.cons (.ife (.val (.cmp .Eq (.bin .Add (.var 5) (.con (.int 1))) (.ix (.var 2) (.var 3)))) (.cons (.ret [] (.cmp .Is (.var 6) (.con .non))) .nil) .nil) (.cons (.ife (.or (.not (.val (.bf (.isin "tuple") (.cons (.var 6) .nil)))) (.val (.cmp .LtE (.var 6) (.var 4)))) (.cons (.ret [] (.con (.bl false))) .nil) .nil) (.cons (.asg 4 false [6] (.var 6)) .nil)))))) (.cons (.ret [] (.con (.bl false))) .nil))))))⟩
noncomputable def P:Nat->Option FD:=λn=>match n with
 |3=>some d3|4=>some d4|5=>some d5|8=>some d8|9=>some d9|10=>some d10|24=>some d24|25=>some d25|26=>some d26|46=>some d46|47=>some JV|62=>some d62|64=>some JU|66=>some d66|109=>some Ih|110=>some d110|111=>some EK|163=>some Ig|164=>some Ie|165=>some Ic|166=>some Ib|167=>some Ia|168=>some IZ|169=>some IY|173=>some IW|174=>some IV|175=>some IU|176=>some IQ|177=>some IP|178=>some IN|20000=>some ⟨1,1,.cons (.ret [] (.con .non)) .nil⟩|20001=>some ⟨1,1,.cons (.ret [] (.call 20000 (.cons (.con .non) .nil))) .nil⟩|20002=>some ⟨1,1,.cons (.ret [] (.call 20001 (.cons (.con .non) .nil))) .nil⟩|20003=>some ⟨1,1,.cons (.ret [] (.call 20002 (.cons (.con .non) .nil))) .nil⟩|20004=>some ⟨1,1,.cons (.ret [] (.call 20003 (.cons (.con .non) .nil))) .nil⟩|20005=>some ⟨1,1,.cons (.ret [] (.call 20004 (.cons (.con .non) .nil))) .nil⟩|20006=>some ⟨1,1,.cons (.ret [] (.call 20005 (.cons (.con .non) .nil))) .nil⟩|20007=>some ⟨1,1,.cons (.ret [] (.call 20006 (.cons (.con .non) .nil))) .nil⟩|20008=>some ⟨1,1,.cons (.ret [] (.call 20007 (.cons (.con .non) .nil))) .nil⟩|20009=>some ⟨1,1,.cons (.ret [] (.call 20008 (.cons (.con .non) .nil))) .nil⟩|20010=>some ⟨1,1,.cons (.ret [] (.call 20009 (.cons (.con .non) .nil))) .nil⟩|20011=>some ⟨1,1,.cons (.ret [] (.call 20010 (.cons (.con .non) .nil))) .nil⟩|_=>none
end Law
namespace Law
open PySem IR L2
local macro_rules | `(tactic| walk_at "ev") => do
  let ids <- ("sc Option.bind_some Option.map_some Option.bind_none List.length_cons List.length_nil if_true if_false Nat.reduceAdd Nat.reduceSub List.map_cons List.map_nil List.replicate List.append_nil List.cons_append List.nil_append imm imms ye Bk ID Hz IA IF IB HM List.getD_cons_zero List.getD_cons_succ at_0 at_1 Cr dZ dL dg dP dc de di dO dX df dh dQ dM dY dW dN dU dS dR Cg Ch z0u z0v zM zO zP zN Ff Fe Cb Cd Ca Ce Cc cN Cm BI BH Dr Dm Dk EE Hu Hv BF BG ll n6 D5 wz Ba Ee EY Ea Ec Eb EZ Ed Ij Ik Il Im ES EQ EO List.set_cons_zero List.set_cons_succ Kb GT GU oj Cu zd CD BO C6 C8 C5 C7 Iu Ei Eh CI CJ yv yw CG Hf He gq Iv Ef Eg KS setU ix_L ix_T ix_O ix_S ou du Fw Fu Fx Fy Fv vN vP vM vO vL eq_self decide_true decide_false sF uv sK sE sI sD uu pS sN pU pR pT pQ sM sC sB pP pN pO mz pM nB my nA mx pL reduceCtorEq bne_self_eq_false beq_self_eq_true Bool.true_bne Bool.bne_true Bool.false_bne Bool.bne_false LN Nat.reduceLeDiff Nat.reduceLT Nat.reducePow Int.reduceLT Int.reduceLE Int.reducePow Int.reduceNeg Int.natAbs_one and_self true_and and_true or_true true_or reduceIte Bool.not_true Bool.not_false Bool.and_true Bool.or_true Bool.or_false Bool.true_or Bool.false_or Bool.true_and Bool.and_false Bool.false_and Bool.false_eq_true keeps re rZ List.getElem?_cons_zero List.getElem?_cons_succ".splitOn " ").toArray.mapM λs => do
   let i := Lean.mkIdent s.toName
   `(Lean.Parser.Tactic.simpLemma| $i:ident)
  `(tactic| (try simp -implicitDefEqProofs only [$ids,*]))
local macro_rules | `(tactic| walk_at "go") => `(tactic| (walk_at "ev"; repeat (rw [MX (by first | omega | assumption | decide)]; walk_at "ev")))
set_option tactic.hygienic false
theorem c4(k:Nat)(a:List Int)(j:Nat):aG P (k+1) 4 [.lst (a.map .int),.int j]=some (.int (a.getD j 0)):=by
 refine run rfl rfl ?_;simp only[d4,entry];walk_at "ev"
 by_cases h:j<a.length
 ·have b:(j:Int)<((a.map PV.int).length:Nat):=by rw[MR];omega
  have c:dI (a.map PV.int) (j:Int)=some (.int a[j]):=bI (by rw[Mi,Mf h];rfl);simp only[b,decide_true,Pe,c];walk_at "ev";simp[h]
 ·have b:¬(j:Int)<((a.map PV.int).length:Nat):=by rw[MR];omega
  simp only[b,O3];walk_at "ev";simp[h]
theorem c5(k:Nat)(c j:Int)(h0:0<=j)(d:j<=1000000):∃r:Int,0<=r/\r<2147483587/\aG P (k+1) 5 [.int c,.int j]=some (.int r):=by
 obtain⟨v,h,r,b,a,rfl⟩:∃v,aG P (k+1) 5 [.int c,.int j]=some v/\∃r:Int,0<=r/\r<2147483587/\v=.int r:=by
  refine FK rfl rfl ?_;simp only[d5,entry];walk_at "go";exact⟨_,rfl,_,Int.emod_nonneg _ (by decide),P2 _ (by decide),rfl⟩
 exact⟨r,b,a,h⟩
section
open PySem.Spec PyProof.Rows
theorem J7:aP N47 ["levels","bits"] (aA JS):=⟨rfl,rfl,rfl,by decide +kernel,rfl,by decide +kernel,by decide +kernel⟩
set_option tactic.hygienic true in
theorem zQ(g:f 47=some JV)(h:aG f (k+1) 47 vs=some r):bv vs=some r:=by
 unfold aG at h;rw[g]at h;simp only[Ng]at h
 split at h
 ·rename_i c
  have c:vs.length=2:=c;obtain⟨a,b,rfl⟩:=jO c
  ·simp only[JV,zH,zI,i9,ij,ii,iu,iz,ig,io,i7,i6,jA,i5,i8,iw,ik,ir,entry]at h
   have e:((List.map (λv=>TV.frz v (imm v)) [a,b]++List.replicate (9-[a,b].length) TV.un).take 2).map TV.valD=[a,b]:=rfl;rw[e]at h;cases d:bv [a,b]with
   |none=>rw[d]at h;cases h|some v=>rw[d]at h;cases h;rfl
 ·cases h
theorem Fg(h:bv vs=some r):vs.length=2:=by
 unfold bv at h
 split at h;rfl;cases h
abbrev jW1(H:Hp)(e:Addr)(a:List ac)(i m:Nat)(c:List V)(d :Hp):Prop:=m=a.length-i/\i<=a.length/\∃b,c=b.map V.ref/\tf H e b (a.take i) d
abbrev jW2(H:Hp)(j m f:Addr)(l:List Addr)(k:List ac)(B:List Int)(i:Nat)(h:L2.St)(G:Hp):Prop:=∃a b c d e g,h=[some (.ref j),some (.ref m),some (.ref f),a,b,c,d,e,g]/\tf H f l (wl k B i) G
abbrev jW3(H:Hp)(b c a:Addr)(l:List Addr)(k:List ac)(B:List Int)(i:Nat)(lev m:Addr)(o:Obj)(ct h:ac)(j:Nat)(f:L2.St)(G:Hp):Prop:=∃d e g,f=[some (.ref b),some (.ref c),some (.ref a),some (.int (i:Nat)),some (.ref lev),some (.ref m),d,e,g]/\G lev=some (.frz o (.dK (bE ct)))/\tf H a l ((wl k B i).set (i+1) ((ct.take j).foldl (cv B) h)) (L2.upd G lev (.dK (bE ct)))
abbrev jW4(H:Hp)(d e a:Addr)(k:List Addr)(j:List ac)(B:List Int)(i:Nat)(lev m:Addr)(o:Obj)(ct:ac)(b c:Int)(f:ac)(l:Nat)(h:L2.St)(G:Hp):Prop:=∃g,h=[some (.ref d),some (.ref e),some (.ref a),some (.int (i:Nat)),some (.ref lev),some (.ref m),some (.int b),some (.int c),g]/\G lev=some (.frz o (.dK (bE ct)))/\tf H a k ((wl j B i).set (i+1) ((B.take l).foldl (bw b c) f)) (L2.upd G lev (.dK (bE ct)))
set_option tactic.hygienic true in
theorem Hq{K:W.Frag}(hdi:mg "dict"=none)(hen:mg "enumerate"=none)(D:Fc K mg "with_line" JS ["levels","bits"] f fd)(p:Program)(w:World)(base:Heap)(k:Nat)(_:∀y g,F.lookup y=some g->∃b gd qs,mg y=some (.ref b)/\W.keepIn K (.ref b)=true/\Binds K gd qs []/\bt p w K mg base kJ k b gd qs (yA K (aG P k g))):bt p w K mg base kJ (k+1) f fd ["levels","bits"] (yA K (aG P (k+1) 47)):=by
 refine D.fn.ok J7 (λvs H Q E h=> ?_) (λcdv A outer s H vs Q E hr h=> ?_)
 ·obtain⟨pvs,r,h1,h2,_⟩:=h
  rw[<- h1.len];exact Fg (zQ rfl h2)
 obtain⟨pvs,r,h1,h2,q⟩:=h
 replace h2:=zQ rfl h2
 unfold bv at h2
 split at h2
 case h_2=>cases h2
 rename_i ls bs;cases e1:qg ls with
 |none=>rw[e1]at h2;cases h2|some Ls =>
 cases e2:aa bs with
 |none=>rw[e1,e2]at h2;cases h2|some B =>
 rw[e1,e2]at h2;dsimp only[Option.bind]at h2
 split at h2
 case isFalse=>cases h2
 rename_i hz;cases h2;obtain⟨z1,z2,z3⟩:=hz;have z3:∀c∈Ls,c.length<=1000:=λc hc=>by simpa using Mm.mp z3 c hc
 have hls:=qf e1;subst hls;obtain⟨u1,_,rfl,r1,h1⟩:=h1;obtain⟨u2,_,rfl,r2,h1⟩:=h1;obtain rfl:=h1;obtain⟨Lv,us,rfl,_,sqL,rl⟩:=Rp.lst.mp r1;obtain⟨Bt,bu,rfl,_,sqB,rb⟩:=Rp.lst.mp r2;rw[gT e2]at rb;have eb:=aI.ints.mp rb;subst eb;have lv:∀(i:Nat)(c:ac),Ls[i]? =some c->∃a,us[i]? =some (.ref a)/\H a=some (.dK (bE c)):=λi c hc=>by
  obtain⟨u,hu,ru⟩:=rl.at (i:=i) (x:=gN c) (by rw[Mi,hc];rfl);obtain⟨a,rfl,ha⟩:=GL ru;exact⟨a,hu,be _ _ ha⟩
 have ulen:us.length=Ls.length:=by have:=rl.len;simpa using this.symm
 have nd:=J7.nd;have hu:=BR hr;have hs:sizeLine=16777216:=Np
 refine⟨_,am (dv (i:=2) nd rfl (Or.inl rfl) (fI Gz (Ag (N' :=["level"]) (src:=[none]) rfl (fi (pv 0)) True.intro rfl (by decide +kernel) (by decide +kernel) rfl) (ue (aL hU ag))))
  (am (dw Nk rfl (rS rfl hen (aL (pv 0) ag)) (lH rfl (cC (aw (i:=3) nd rfl (Or.inl rfl)) (cC (aw (i:=4) nd rfl (Or.inl rfl)) hJ))) (am (dv (i:=5) nd rfl (Or.inl rfl) (nY eS (pv 2) (fI lJ (pv 3) dA) (λ_ _=>rfl))) (az (DH (dw Nk rfl (rg (pv 4)) (lH rfl (cC (aw (i:=6) nd rfl (Or.inl rfl)) (cC (aw (i:=7) nd rfl (Or.inl rfl)) hJ))) (az (dw Nk rfl (fi (pv 1)) (aw (i:=8) nd rfl (Or.inl rfl)) (az (rN (gz wQ (fI An (pv 6) (pv 8)) dA (um _)) (az (kN hu (pv 5) (fI FQ (pv 6) (pv 8)) (fI lJ (rT hu (pv 5) (fI FQ (pv 6) (pv 8)) dA ⟨rfl,rfl,rfl,rfl⟩) (pv 7)) rfl)) g0))))))))) (az (jK (pv 2)))),?_⟩
 refine⟨_,rfl,Lv,rfl,⟨_,sqL⟩,λD0 hD0=> ?_⟩;refine⟨jW1 H D0 Ls,⟨Ls.length,by simp,NH _,[],rfl,⟨aJ hD0 _,hD0,aC,by simp,by simp,by simp,λq d c e=>by simp at e⟩⟩,?_⟩;rintro i m ys H' ⟨rfl,hi,ds,rfl,st⟩
 by_cases hlt:i<Ls.length
 ·right
  have ec:Ls[i]? =some Ls[i]:=by simp[hlt]
  obtain⟨a,ua,ha⟩:=lv i _ ec;refine⟨⟨us,.ref a,st.1.seq sqL,ua⟩,λx H1 y=> ?_⟩;obtain⟨rfl,y⟩:=y;have ex:=y us (st.1.seq sqL);rw[ua]at ex;cases ex;intro C s2 H2 fp cl;refine⟨sX 0,FG,_,aw (by simp) rfl (.inl rfl) (.inr rfl),lG,cq tH rfl hdi boot_dict (aL (pv 0) ag),?_⟩;refine⟨tN rfl,?_⟩;refine⟨_,rfl,a,_,rfl,.inl (st.1 _ _ ha),λpn hpn=> ?_⟩;have dl:ds.length=i:=by rw[st.2.2.2.2.2.1,Nz];omega
  refine⟨by rw[aB (aF st.2.2.1 hpn)];exact st.2.2.1,by rw[MR];omega,Ls.length-(i+1),by omega,rfl,hlt,ds++[pn],by rw[Ms];rfl,?_⟩;have e:Ls.take (i+1)=Ls.take i++[Ls[i]]:=by rw[Oi,ec];rfl
  rw[e];exact st.push hpn
 ·left
  have ei:i=Ls.length:=by omega
  subst ei;rw[Nx]at st;refine⟨⟨us,st.1.seq sqL,by omega⟩,?_⟩;intro p0 hp0;refine⟨by show 1<=sizeLine;decide,λl hl=> ?_⟩;have dl:ds.length=Ls.length:=st.2.2.2.2.2.1;have s1:=aJ hp0 (.dK []);have s2:=aJ hl (.lst [.ref p0]);refine⟨D0,l,ds.map V.ref,[.ref p0],rfl,rfl,s2 _ _ (s1 _ _ st.2.2.1),aC,by rw[MR,dl,hs];simp;omega,λAa hAa=> ?_⟩;have stA:tf H Aa (ds++[p0]) (wl Ls B 0) (L2.upd (L2.upd (L2.upd H' p0 (.dK [])) l (.lst [.ref p0])) Aa (.lst (ds.map V.ref++[.ref p0]))):=by
   have hDp:D0≠p0:=aF st.2.2.1 hp0;have hAl:Aa≠l:=λz=>by rw[z,aC]at hAa;cases hAa
   have hA1:L2.upd H' p0 (.dK []) Aa=none:=by rw[aB hAl]at hAa;exact hAa
   have hAp:Aa≠p0:=λz=>by rw[z,aC]at hA1;cases hA1
   have hA0:H' Aa=none:=by rw[aB hAp]at hA1;exact hA1
   have hDA:D0≠Aa:=aF st.2.2.1 hA0;obtain⟨g1,g2,g3,g4,g5,g6,g7⟩:=st.push (p:=p0) (c:=[]) hp0;have hlD:l≠D0:=λz=>by rw[z,aB hDp,st.2.2.1]at hl;cases hl
   have hlp:l≠p0:=λz=>by rw[z,aC]at hl;cases hl
   have inn:∀(qq:Nat)(d:Addr)(c:ac),(ds++[p0])[qq]? =some d->(Ls++[[]])[qq]? =some c->H d=none/\d≠Aa/\d≠l/\L2.upd H' p0 (.dK []) d=some (.dK (bE c)):=λqq d c w1 w2=>by
    obtain⟨m0,m1⟩:=g7 qq d c w1 w2;have dD:d≠D0:=λz=>g4 (z▸Mw w1);rw[aB dD]at m1;have m1:L2.upd H' p0 (.dK []) d=some (.dK (bE c)):=m1;exact⟨m0,(λz=>by rw[z,hA1]at m1;cases m1),(λz=>by rw[z,hl]at m1;cases m1),m1⟩
   refine⟨((st.1.trans s1).trans s2).trans (aJ hAa _),st.1.free hA0,by rw[aC,Ms];rfl,λz=> ?_,g5,g6,λqq d c w1 w2=> ?_⟩
   ·obtain⟨qq,hqq,e⟩:=List.mem_iff_getElem.mp z
    exact(inn qq Aa ((Ls++[[]])[qq]'(by rw[<- g6];exact hqq)) (by rw[Mf hqq,e]) (by simp[show qq<(Ls++[[]]).length by rw[<- g6];exact hqq])).2.1 rfl
   ·obtain⟨m0,m1,m2,m3⟩:=inn qq d c w1 w2
    exact⟨m0,by rw[aB m1,aB m2];exact m3⟩
  have sqB' :∀{G:Hp},aE H G->bR K G Bt (B.map V.int):=λs=>s.seq sqB;refine⟨_,rfl,Lv,us,rfl,(stA.1).seq sqL,Be (src:=λH xs=>bR K H Lv xs) (jW2 H Lv Bt Aa (ds++[p0]) Ls B) ⟨_,_,_,_,_,_,rfl,stA⟩ (λi σ G _ ⟨_,_,_,_,_,_,_,st⟩=>st.1.seq sqL) ?_ ?_⟩
  ·rintro i x pt σ G ex hpt ⟨a,b,c,d,e,g,rfl,st⟩
   have hi:i<us.length:=(Mk.mp ex).1;have ec:Ls[i]? =some (Ls[i]'(by omega)):=by simp[show i<Ls.length by omega]
   obtain⟨lev,ua,hlev⟩:=lv i _ ec;rw[ex]at ua;cases ua;obtain⟨ct,hct⟩:∃ct,ct=Ls[i]'(by omega):=⟨_,rfl⟩;rw[<- hct]at ec hlev;have ctl:ct.length<=1000:=z3 ct (Mw ec);have wlen:=kS Ls B i;obtain⟨ab,hab⟩:∃ab,(ds++[p0])[i+1]? =some ab:=⟨(ds++[p0])[i+1]'(by rw[st.2.2.2.2.2.1,wlen];omega),by simp[show i+1<(ds++[p0]).length by rw[st.2.2.2.2.2.1,wlen];omega]⟩;obtain⟨c0,hc0⟩:∃c0,(wl Ls B i)[i+1]? =some c0:=⟨(wl Ls B i)[i+1]'(by rw[wlen];omega),by simp[show i+1<(wl Ls B i).length by rw[wlen];omega]⟩;have st:=st.ext (aJ hpt (.tup [.int (i:Nat),.ref lev]));refine⟨pt,_,rfl,bg.of aC,rfl,_,_,rfl,_,_,rfl,rfl,?_⟩;refine⟨_,rfl,_,rfl,_,_,rfl,rfl,Aa,_,_,.ref ab,rfl,rfl,bR.of st.2.2.1,?_,?_⟩
   ·have:=bI (xs:=(ds++[p0]).map V.ref) (j:=i+1) (v:=.ref ab) (by rw[Mi,hab];rfl)
    exact this
   refine⟨_,rfl,lev,bE ct,rfl,st.1 _ _ hlev,λo nf=> ?_⟩;have abn:H ab=none:=(st.at hab hc0).1;have abl:ab≠lev:=λz=>by rw[z,hlev]at abn;cases abn
   obtain⟨G1,hG1⟩:∃G1,G1=L2.upd G pt (.tup [.int (i:Nat),.ref lev]):=⟨_,rfl⟩;rw[<- hG1]at st ⊢;have g1lev:G1 lev=some (.dK (bE ct)):=st.1 _ _ hlev;have ini:L2.upd (L2.upd G1 lev (.frz o (.dK (bE ct)))) lev (.dK (bE ct))=G1:=by
    rw[Cn]
    funext bb
    by_cases hb:bb=lev
    ·subst hb
     rw[aC,g1lev]
    ·rw[aB hb]
   refine yd (jW3 H Lv Bt Aa (ds++[p0]) Ls B i lev ab o ct c0) ⟨_,_,_,rfl,aC,?_⟩ (λj σ G _ ⟨_,_,_,_,hf,_⟩=>hf) ?_ ?_
   ·rw[ini]
    have e0:(wl Ls B i).set (i+1) c0=wl Ls B i:=by
     refine PZ λn=> ?_;rw[Ow]
     split
     ·rename_i en
      subst en;rw[hc0,MX (by rw[wlen];omega)]
     ·rfl
    rw[List.take_zero,List.foldl_nil,e0];exact st
   ·rintro j kk xx pp σ G2 ekv hpp ⟨d,e,g,rfl,hf,st2⟩
    obtain⟨tk,cn,etc,rfl,rfl⟩:=EG ekv;have hj:j<ct.length:=(Mk.mp etc).1;have ppl:pp≠lev:=λz=>by rw[z,hf]at hpp;cases hpp
    refine⟨pp,_,rfl,bg.of aC,rfl,_,_,rfl,_,_,rfl,rfl,?_⟩;have st3:=st2.ext (yC (o:=.tup [kV (Sum.inl tk),.int cn]) (u:=.dK (bE ct)) hpp ppl);obtain⟨cj,hcj⟩:∃cj,cj=(ct.take j).foldl (cv B) c0:=⟨_,rfl⟩;rw[<- hcj]at st3;have cjl:cj.length<=1000+1000*100+1000*100:=by
     have h0:c0.length<=1000:=by
      have:=FA Ls B i (i+1) (by omega);rw[hc0]at this
      rcases M7.mp (Mw this.symm)with hm|hm
      ·exact z3 c0 hm
      ·have:c0=[]:=by simpa using hm
       rw[this];simp
     have h1:=oA B (ct.take j) c0;have h2:(ct.take j).length*B.length<=1000*100:=Pu (by rw[Nz];omega) z2;rw[hcj];omega
    refine⟨_,rfl,Bt,rfl,⟨_,v7 (sqB' st3.1)⟩,sd (xs:=B.map V.int) (jW4 H Lv Bt Aa (ds++[p0]) Ls B i lev ab o ct tk cn cj) ⟨_,rfl,by rw[aB (Nv ppl)];exact hf,by rw[List.take_zero,List.foldl_nil];exact st3⟩ (λl σ G _ ⟨_,_,_,st⟩=>v7 (sqB' st.1)) ?_ ?_⟩
    ·rintro l xb σ G3 exb ⟨g,rfl,hf3,st4⟩
     obtain⟨b,eb,rfl⟩:∃b,B[l]? =some b/\xb=.int b:=by
      rw[Mi]at exb;cases e:B[l]? with
      |none=>rw[e]at exb;cases exb|some b=>rw[e]at exb;exact⟨b,rfl,(Mv exb).symm⟩
     have hl:l<B.length:=(Mk.mp eb).1;obtain⟨cur,hcur⟩:∃cur,cur=(B.take l).foldl (bw tk cn) cj:=⟨_,rfl⟩;have e7:(B.take (l+1)).foldl (bw tk cn) cj=bw tk cn cur b:=by
      rw[Oi,eb,OL,<-hcur];rfl
     rw[<- hcur]at st4;have curl:cur.length<sizeLine:=by
      have:=jU tk cn (B.take l) cj;rw[<- hcur,Nz]at this;rw[hs];omega
     have hcs:((wl Ls B i).set (i+1) cur)[i+1]? =some cur:=by rw[N6 (by rw[wlen];omega)]
     obtain⟨_,hab1⟩:=st4.at hab hcs;rw[aB abl]at hab1;refine⟨_,rfl,_,rfl,_,_,rfl,rfl,rfl,_,rfl,Dt (λhc=> ?_) (λhc=> ?_)⟩
     ·have hc:Builtin.bitAnd tk b=0:=V.int.inj (M3 hc)
      obtain⟨old,hold⟩:∃old,old=(bC cur (Builtin.bitOr tk b)).getD 0:=⟨_,rfl⟩;refine⟨_,rfl,ab,rfl,.inl ⟨_,.inl hab1⟩,_,rfl,_,rfl,_,_,rfl,rfl,_,eh.k (k:=Sum.inl (Builtin.bitOr tk b)) hab1,_,rfl,old,cn,?_,rfl,?_⟩
      ·rw[pq,hold]
       cases bC cur (Builtin.bitOr tk b)<;>rfl
      refine⟨_,rfl,_,rfl,_,rfl,_,_,rfl,rfl,ab,_,rfl,tW.k (k:=Sum.inl (Builtin.bitOr tk b)) hab1 (by rw[sr];exact curl),_,rfl,?_,?_⟩
      ·rw[aB (Nv abl)]
       exact hf3
      ·have e8:bw tk cn cur b=cZ cur (Builtin.bitOr tk b) (old+cn):=by
        unfold bw yz;rw[MX hc,hold]
       rw[e7,e8,pk,zU abl];have:=st4.put (c' :=cZ cur (Builtin.bitOr tk b) (old+cn)) hab;rw[List.set_set]at this;exact this
     ·have hc:¬Builtin.bitAnd tk b=0:=λz=>hc (Mj (ND V.int z))
      refine⟨_,rfl,hf3,?_⟩;have e8:bw tk cn cur b=cur:=by
       unfold bw;rw[MV hc]
      rw[e7,e8];exact st4
    ·rintro σ G3 ⟨g,rfl,hf3,st4⟩
     refine⟨_,_,_,rfl,hf3,?_⟩;have e5:(ct.take (j+1)).foldl (cv B) c0=((B.take (B.map V.int).length).foldl (bw tk cn) cj):=by
      rw[Oi,etc,OL,<-hcj,MR,Nx];rfl
     rw[e5];exact st4
   ·rintro σ G2 ⟨d,e,g,rfl,hf,st2⟩
    refine⟨lev,o,bE ct,hf,nf,_,_,_,_,_,_,rfl,?_⟩;have e6:(wl Ls B i).set (i+1) ((ct.take (bE ct).length).foldl (cv B) c0)=wl Ls B (i+1):=by
     rw[sr,Nx,wl,Me,hc0,Me,ec];rfl
    rw[<- e6];exact st2
  ·rintro σ G ⟨a,b,c,d,e,g,rfl,st⟩
   refine⟨_,rfl,?_⟩;refine q _ _ st.1 (Rp.lst.mpr ⟨Aa,_,rfl,λ_=>⟨st.2.1,st.2.2.1⟩,bR.of st.2.2.1,?_⟩);have eL:us.length=Ls.length:=ulen;rw[eL]at st;refine rB st.2.2.2.2.2.1 λqq d' c' w1 w2=> ?_;obtain⟨m0,m1⟩:=st.at w1 w2;refine⟨m0,?_⟩;unfold del;rw[MV (λz:d' =Aa=>st.2.2.2.1 (z▸Mw w1))];exact m1
end
noncomputable def gG(cs:List Nat)(i:Nat):List Int:=((List.range i).filter λc=>cs.getD c 0==120).map λc=>((2^c:Nat):Int)
noncomputable def mT(z:Str):List Int:=gG z.cps.toList z.length
theorem vY(cs:List Nat)(i:Nat):gG cs (i+1)=gG cs i++(if cs.getD i 0==120 then[((2^i:Nat):Int)]else[]):=by
 unfold gG;rw[Og,OZ,Ms];cases h:cs.getD i 0==120
 ·simp only[N0,List.filter_nil,h]
  rfl
 ·simp only[N0,List.filter_nil,h]
  rfl
theorem oP(cs:List Nat)(i:Nat):(gG cs i).length<=i:=by unfold gG;rw[MR];exact M8 (NG _ _) (by rw[NK];exact Md _)
theorem vZ(h:i<=8):md (gG cs i):=λb a=>by
 unfold gG at a;obtain⟨c,d,rfl⟩:=MZ.mp a;have:=NC.mp (M6.mp d).1;exact⟨c,rfl,by omega⟩
theorem c46(k:Nat)(z:Str)(m:z.length<=8):aG P (k+1) 46 [.str z]=some (.lst ((mT z).map .int)):=by
 refine cG rfl rfl ?_;simp only[d46,entry];walk_at "go";refine dF (xs:=signs z) (n:=true) ?_ (λi τ=>∃a,τ=[.frz (.str z) true,.own ((gG z.cps.toList i).map .int) true,.frz (.int ((2^i:Nat):Int)) true,a]) ⟨_,rfl⟩ ?_ ?_
 ·walk_at "ev"
 ·rintro i y τ b ⟨a,rfl⟩
  have l:i<z.length:=by
   have:=(Mk.mp b).1;rw[cH]at this;exact this
  obtain⟨c,h,rfl⟩:∃c,z.cps.toList[i]? =some c/\y=.str ⟨#[c]⟩:=by
   unfold signs at b;rw[Mi]at b;cases e:z.cps.toList[i]? with
   |none=>rw[e]at b;cases b|some c=>rw[e]at b;exact⟨c,rfl,(Mv b).symm⟩
  have j:z.cps.toList.getD i 0=c:=by rw[Me,h];rfl
  refine⟨_,rfl,?_⟩;have rs:=vY z.cps.toList i;rw[j]at rs;have d:((gG z.cps.toList i).map PV.int).length<LN:=by
   rw[MR];have:=oP z.cps.toList i;show _<16777216;omega
  have g:((2^i:Nat):Int)*2=((2^(i+1):Nat):Int):=by rw[Nat.pow_succ];push_cast;rfl
  walk_at "ev";rw[gb];cases f:c==120 with
  |true =>
   rw[f]at rs;walk_at "ev";rw[gy rfl d];walk_at "ev";exact⟨_,by rw[rs,g,Ms];rfl⟩
  |false =>
   rw[f]at rs;walk_at "ev";exact⟨.frz (.str ⟨#[c]⟩) true,by rw[rs,g];simp⟩
 ·rintro τ ⟨a,rfl⟩
  rw[cH];walk_at "ev";rfl
theorem c47(k:Nat)(a:List ac)(B:List Int)(d:a.length<=100)(g:B.length<=100)(b:∀c∈a,c.length<=1000):aG P (k+1) 47 [.lst (a.map gN),.lst (B.map .int)]=some (.lst ((wl a B a.length).map gN)):=by
 refine run rfl rfl ?_;have e:bv [.lst (a.map gN),.lst (B.map .int)]=some (.lst ((wl a B a.length).map gN)):=by
  unfold bv;dsimp only;rw[vw,eT];simp only[Ng];rw[MX ⟨d,g,by rw[Mm];intro c f;exact Mj (b c f)⟩]
 show dz (bx (aG P k) 1000000 JV.body (entry JV [.lst (a.map gN),.lst (B.map .int)]))=_;simp only[JV,zH,zI,i9,ij,ii,iu,iz,ig,io,i7,i6,jA,i5,i8,iw,ik,ir,entry];have h:((List.map (λv=>TV.frz v (imm v)) [PV.lst (a.map gN),.lst (B.map .int)]++List.replicate (9-[PV.lst (a.map gN),.lst (B.map .int)].length) TV.un).take 2).map TV.valD=[.lst (a.map gN),.lst (B.map .int)]:=rfl;rw[h,e];rfl
noncomputable def fB:List Str->List ac
 |[]=>[[(0,1)]]|z::rs=>wl (fB rs) (mT z) (fB rs).length
noncomputable def cA:List Str->List PV
 |[]=>[.lst ((fB []).map gN)]|z::rs=>.lst ((fB (z::rs)).map gN)::cA rs
theorem xr(rs:List Str):∃r,cA rs=.lst ((fB rs).map gN)::r:=by
 cases rs with
 |nil=>exact⟨[],rfl⟩|cons z rs=>exact⟨_,rfl⟩
theorem kf:∀rs:List Str,(cA rs).length=rs.length+1
 |[]=>rfl|z::rs=>by rw[cA,Ma,kf rs,Ma]
theorem jG:∀{rs:List Str},(∀z∈rs,z.length<=8)->(fB rs).length=rs.length+1/\∀c∈fB rs,bP c
 |[],_=>⟨rfl,λc b=>by
  rw[NA.mp b];exact sU⟩
 |z::rs,h=>by
  obtain⟨a,d⟩:=jG (rs:=rs) λy e=>h y (MS _ e);refine⟨?_,oX (vZ (h z MT)) d _⟩;show(wl _ _ _).length=_;rw[kS,a];rfl
theorem Iq:eO .Add (.own xs n) (.frz (.lst a) m)=re (xs++a) (n&&m):=rfl
theorem LO(k:Nat)(rows:List Str)(D:rows.length<=8)(f:∀z∈rows,z.length<=8):aG P (k+2) 163 [.tup (rows.map .str)]=some (.lst (cA rows)):=by
 refine cG rfl rfl ?_;have p:=bS rows;simp only[Ig,entry];walk_at "ev";rw[p];refine dF (xs:=(rows.map PV.str).reverse) (n:=true) ?_ (λi τ=>∃a,τ=[.frz (.tup (rows.map .str)) true,.frz (.lst (cA (rows.drop (rows.length-i)))) true,a]) ⟨.un,?_⟩ ?_ ?_
 ·walk_at "ev"
 ·rw[Nat.sub_zero,Pd]
  rfl
 ·rintro i y τ b ⟨a,rfl⟩
  have x:i<rows.length:=by
   have:=(Mk.mp b).1;rw[PD,MR]at this;exact this
  obtain⟨z,g,rfl⟩:∃z,rows[rows.length-1-i]? =some z/\y=.str z:=by
   rw[List.getElem?_reverse (by rw[MR];exact x),MR,Mi]at b;cases e:rows[rows.length-1-i]? with
   |none=>rw[e]at b;cases b|some z=>rw[e]at b;exact⟨z,rfl,(Mv b).symm⟩
  have h:=Mw g;obtain⟨j,A⟩:∃j,j=rows.length-1-i:=⟨_,rfl⟩;rw[<- A]at g;have t:rows.drop j=z::rows.drop (j+1):=by
   obtain⟨u,w⟩:=Mk.mp g;rw[OB u,w]
  have v:rows.length-i=j+1:=by omega
  have o:rows.length-(i+1)=j:=by omega
  rw[v];obtain⟨r,d⟩:=xr (rows.drop (j+1));obtain⟨s,l⟩:=jG (rs:=rows.drop (j+1)) λy b=>f y (OJ b);have C :(fB (rows.drop (j+1))).length<=9:=by rw[s,OU];omega
  have q:(mT z).length<=100:=by
   have:=oP z.cps.toList z.length;have:=f z h;unfold mT;omega
  have B:(cA (rows.drop (j+1))).length<=9:=by rw[kf,OU];omega
  refine⟨_,rfl,?_⟩;walk_at "ev";rw[d];walk_at "ev";rw[c46 k z (f z h)];walk_at "ev";rw[c47 k _ _ (by omega) q (λc m=>M8 (l c m).len (by decide))];walk_at "ev";rw[Iq];walk_at "ev";rw[d,Ma]at B;rw[MX (by omega)];walk_at "ev";refine⟨.frz (.str z) true,?_⟩;rw[o,t,cA,d];rfl
 ·rintro τ ⟨a,rfl⟩
  rw[PD,MR,Nat.sub_self,List.drop_zero];walk_at "ev"
theorem qp:∀rs:List Str,fB rs=v3 (rs.map aH)
 |[]=>rfl|z::rs=>by
  show wl (fB rs) (mT z) (fB rs).length=wl (v3 (rs.map aH)) (j9 (aH z)) (v3 (rs.map aH)).length;rw[qp rs];rfl
theorem LL(k:Nat)(b:List (Int×Int))(c:b.length<=1000):aG P (k+1) 165 [.tup (b.map aX)]=some (.lst ((b.map (·.2)).map .int)):=by refine cG rfl rfl ?_;simp only[Ic,entry];have a:imms (b.map aX)=true:=bT b;walk_at "ev";rw[a];walk_at "ev";rw[MX (by rw[MR];omega)];rw[eV (h:=aX) (g:=λq:Int×Int=>PV.int q.2) (λq d=>rfl)];walk_at "ev";rw[M4];rfl
theorem LM(k:Nat)(b:List (Int×Int))(hb:∀x∈b,0<=x.1):aG P (k+1) 164 [.tup (b.map aX)]=some (.int (bJ b:Nat)):=by
 refine cG rfl rfl ?_;simp only[Ie,entry];have i2:imms (b.map aX)=true:=bT b;walk_at "ev";rw[i2]
 rcases List.eq_nil_or_concat b with rfl|⟨b',c,rfl⟩
 ·exact⟨_,rfl,rfl⟩
 ·rw[List.concat_eq_append]at hb ⊢
  have e:(b' ++[c]).map aX=b'.map aX++[aX c]:=by rw[Ms];rfl
  have h0:=hb c (by simp);rw[e,show decide ((0:Int)<((b'.map aX++[aX c]).length:Int))=true from Mj (by rw[Ml,OE];omega)];walk_at "ev";rw[CM];have:bJ (b' ++[c])=(c.1+1).toNat:=by
   unfold bJ;rw[List.getLast?_concat]
  rw[this,show(((c.1+1).toNat:Nat):Int)=c.1+1 by omega];exact⟨_,rfl,rfl⟩
theorem Go:∀T<256,∀c<8,Nat.testBit T c=false->T+2^c=T ||| 2^c:=by decide +kernel
noncomputable def iU:List Nat->Nat
 |[]=>0|c::l=>iU l ||| 2^c
theorem tO:∀{l:List Nat},(∀c∈l,c<8)->iU l<256
 |[],_=>by decide|c::l,h=>by
  have a:=tO (l:=l) λd b=>h d (MS _ b);have e:2^c<2^8:=Nat.pow_lt_pow_right (by decide) (h c MT);exact Nat.or_lt_two_pow (n:=8) a e
theorem je{d:Nat}:∀{l:List Nat},(iU l).testBit d=l.contains d
 |[]=>by
  show Nat.testBit 0 d=_;rw[Nat.zero_testBit];rfl
 |c::l=>by
  show Nat.testBit (iU l ||| 2^c) d=_;rw[Nat.testBit_or,je,Oa,Nat.testBit_two_pow,Bool.or_comm]
  congr 1
  by_cases e:c=d;subst e;simp
  ·have:¬d=c:=λz=>e z.symm
   simp[e,this]
theorem oO:∀{l:List Nat},(∀c∈l,c<8)->l.Nodup->(l.map λc=>(1:Int)*2^c).sum=((iU l:Nat):Int)
 |[],_,_=>rfl|c::l,h,nd=>by
  obtain⟨n1,n2⟩:=Mx.mp nd;have hl:∀d∈l,d<8:=λd hd=>h d (MS _ hd);rw[Mg,List.sum_cons,oO hl n2];show _=((iU l ||| 2^c:Nat):Int);rw[<- Go _ (tO hl) c (h c MT) (by rw[je,<-OV,My];exact n1)]
  push_cast
  omega
theorem qx(T:Nat):∀t:ac,∃a,mi (T:Int) (t.map λp=>Sum.inl p.1) (t.map λp=>.int p.2)=some a/\a.sum=dH (sZ T) t
 |[]=>⟨[],rfl,rfl⟩|p::t=>by
  obtain⟨a,b,d⟩:=qx T t;refine⟨if Builtin.bitAnd p.1 (T:Int)=0 then p.2::a else a,?_,?_⟩
  ·show(mi (T:Int) (t.map λp=>Sum.inl p.1) (t.map λp=>.int p.2)).map _=_
   rw[b];rfl
  ·show _=p.2*sZ T p.1+dH (sZ T) t
   rw[<- d];unfold sZ
   by_cases c:Builtin.bitAnd p.1 (T:Int)=0;rw[MX c,MX c,List.sum_cons,Int.mul_one];rw[MV c,MV c,Int.mul_zero,O6]
theorem nN:∀(rs:List Str)(j:Nat),j<=rs.length->(cA rs)[j]? =some (.lst ((fB (rs.drop j)).map gN))
 |[],0,_=>rfl|z::rs,0,_=>rfl|[],j+1,h=>by cases h|z::rs,j+1,h=>by
  rw[cA,OK,List.drop_succ_cons];exact nN rs j (by rw[Ma]at h;omega)
theorem mI{rows:List Str}(a:∀z∈rows,z.length<=8):dJ (rows.map aH):=λcs h c b=>by
 obtain⟨z,d,rfl⟩:=MZ.mp h;have e:=NC.mp (M6.mp b).1;have f:=a z d;omega
theorem jw:∀a:List Int,aa (a.map PV.int)=some a
 |[]=>rfl|n::a=>by
  show(aa (a.map PV.int)).map _=_;rw[jw a];rfl
structure MM(n:Nat)(b:List (Int×Int)):Prop where
 row:∀x∈b,0<=x.1/\x.1<n
 col:∀x∈b,0<=x.2/\x.2<8
 nod:(b.map (·.2)).Nodup
theorem MM.cols(h:MM n b):(∀c∈bB b,c<8)/\(bB b).Nodup/\(b.map (·.2))=(bB b).map λc:Nat=>(c:Int):=by
 have e:(b.map (·.2))=(bB b).map λc:Nat=>(c:Int):=by
  unfold bB;rw[M4];refine NV λx d=> ?_;have:=h.col x d;show x.2=((x.2.toNat:Nat):Int);omega
 refine⟨λc f=> ?_,?_,e⟩
 ·obtain⟨x,d,rfl⟩:=MZ.mp f
  have:=h.col x d;omega
 ·have:=h.nod
  rw[e]at this;exact List.Pairwise.of_map _ (λa b h e=>h (by rw[e])) this
theorem AC(h:MM n b):bJ b<=n:=by
 unfold bJ;cases e:b.getLast? with
 |none=>exact NH _|some c =>
  have:=h.row c (List.mem_of_getLast? e);show(c.1+1).toNat<=n;omega
theorem om{a:List Int}:oU .sum [.own (a.map PV.int) n]=some (sc (.int a.sum)):=by show(aa (a.map PV.int)).map _=_;rw[jw];rfl
theorem C4(c:Nat)(h:c<8):(eO .LShift (.frz (.int 1) true) (.frz ((PV.int∘λc:Nat=>(c:Int)) c) true)).bind (λr=>Option.map some r.keep)=some (some ((PV.int∘λc:Nat=>(1:Int)*2^c) c,true)):=by show(if(0:Int)<=(c:Int)/\(c:Int)<=1000000/\(1:Int).natAbs<2^64 then some (sc (.int (1*2^(c:Int).toNat)))else none).bind (λr=>Option.map some r.keep)=_;rw[MX ⟨by omega,by omega,by decide⟩];rfl
theorem c166(k:Nat)(rows:List Str)(b:List (Int×Int))(a:Nat)(I:rows.length<=8)(l:∀z∈rows,z.length<=8)(n:MM rows.length b)(C:b.length<=1000) :
  aG P (k+2) 166 [.lst (cA rows),.tup (b.map aX),.int a]=some (.int (mq (rows.map aH) a b)):=by
 refine cG rfl rfl ?_;simp only[Ib,entry];have H:imms (b.map aX)=true:=bT b;obtain⟨J,u⟩:=jG (rs:=rows.drop (bJ b)) λy j=>l y (OJ j);have w:=AC n;obtain⟨b1,B,F⟩:=n.cols;have i:mq (rows.map aH) a b=if b.length<=a then cnt ((rows.drop (bJ b)).map aH) (bB b) (a-b.length)else 0:=by
  unfold mq;rw[P9]
 walk_at "ev";rw[H,LM k b λx A=>(n.row x A).1];walk_at "ev";rw[bI (nN rows _ w)];walk_at "ev";rw[MR,MR]
 by_cases q:b.length<=a
 ·rw[MX q]at i
  have D:((a:Int)-(b.length:Int))=((a-b.length:Nat):Int):=by omega
  rw[D,show decide ((0:Int)<=((a-b.length:Nat):Int))=true from Mj (by omega)];walk_at "ev"
  by_cases E:a-b.length<(fB (rows.drop (bJ b))).length
  ·rw[show decide (((a-b.length:Nat):Int)<((fB (rows.drop (bJ b))).length:Int))=true from Mj (by omega)]
   walk_at "ev";rw[LL k b C];walk_at "ev";rw[MX (by rw[MR,MR];omega),F,M4];rw[eV (h:=PV.int∘λc:Nat=>(c:Int)) (g:=PV.int∘λc:Nat=>(1:Int)*2^c) (λc v=>C4 c (b1 c v)),<-M4];walk_at "ev";rw[om,oO b1 B];walk_at "ev";obtain⟨e,f⟩:∃e,(fB (rows.drop (bJ b)))[a-b.length]? =some e:=⟨_,Mf E⟩;rw[bI (show((fB (rows.drop (bJ b))).map gN)[a-b.length]? =some (gN e)by rw[Mi,f];rfl)];walk_at "ev";obtain⟨K,p,o⟩:=qx (iU (bB b)) e;have L:=(u e (Mw f)).len;unfold gN;rw[HQ,MX (by rw[MR];show e.length<=16777216;omega),p];walk_at "ev";rw[om,o];walk_at "ev";have s:=vz (rows:=(rows.drop (bJ b)).map aH) (mI λy j=>l y (OJ j)) (iU (bB b)) (a-b.length);rw[<- qp,Me,f]at s;rw[i,show dH (sZ (iU (bB b))) e=_ from s];refine ND (λz=>some (PV.int z)) (cM _ _ λr G d t=> ?_);have m:=mI (rows:=rows.drop (bJ b)) (λy j=>l y (OJ j)) r G d t;rw[fq m,je]
  ·rw[show decide (((a-b.length:Nat):Int)<((fB (rows.drop (bJ b))).length:Int))=false from Mq (by omega)]
   walk_at "ev";rw[i,fR _ _ _ (by rw[MR];omega)]
 ·rw[MV q]at i
  rw[show decide ((0:Int)<=(a:Int)-(b.length:Int))=false from Mq (by omega)];walk_at "ev";rw[i]
noncomputable def xP(i j:Nat):PV:=.tup [.int (i:Nat),.int (j:Nat)]
noncomputable def gr(rows:List Str)(i j:Nat):List PV:=((List.range j).filter λc=>cd rows i c==120).map λc=>xP i c
noncomputable def ge(rows:List Str)(w i:Nat):List PV:=(List.range i).flatMap λr=>gr rows r w
theorem nU(rows:List Str)(i j:Nat):gr rows i (j+1)=gr rows i j++(if cd rows i j==120 then[xP i j]else[]):=by unfold gr;rw[Og,OZ,Ms];cases h:cd rows i j==120<;>simp[h]
theorem ji(rows:List Str)(w i:Nat):ge rows w (i+1)=ge rows w i++gr rows i w:=by unfold ge;rw[Og,List.flatMap_append];simp
theorem kw(rows:List Str)(i j:Nat):(gr rows i j).length<=j:=by unfold gr;rw[MR];exact M8 (NG _ _) (by rw[NK];exact Md _)
theorem fW(rows:List Str)(w:Nat):∀i,(ge rows w i).length<=i*w
 |0=>by simp[ge]|i+1=>by
  rw[ji,Ml,Nat.succ_mul];have:=fW rows w i;have:=kw rows i w;omega
theorem oZ{rows:List Str}{i:Nat}(h:rows[i]? =some z):dI (rows.map PV.str) (i:Int)=some (.str z):=bI (by rw[Mi,h];rfl)
theorem GM{rows:List Str}{i:Nat}(a:(rows.map PV.str)[i]? =some x):∃z,rows[i]? =some z/\z∈rows/\x=.str z:=by
 rw[Mi]at a;cases e:rows[i]? with
 |none=>rw[e]at a;cases a|some z =>
  rw[e]at a;exact⟨z,rfl,Mw e,(Mv a).symm⟩
theorem c3(k:Nat)(rows:List Str)(w:Nat)(s:Wd rows w)(E:rows.length<=8)(v:w<=8):aG P (k+1) 3 [.tup (rows.map .str)]=some (.lst (ge rows w rows.length)):=by
 refine cG rfl rfl ?_;have m:=bS rows;simp only[d3,entry];walk_at "go";rw[m];refine dF (xs:=List.zipWith fJ (List.range (rows.map PV.str).length) (rows.map PV.str)) (n:=true) ?_ (λi τ=>∃a b c d,τ=[.frz (.tup (rows.map .str)) true,.own (ge rows w i) true,a,b,c,d]) ⟨_,_,_,_,rfl⟩ ?_ ?_
 ·walk_at "ev"
  rfl
 ·rintro i y τ o ⟨a,b,c,d,rfl⟩
  obtain⟨y,e,rfl⟩:=xD o;obtain⟨z,r,t,rfl⟩:=GM e;refine⟨_,rfl,?_⟩;have A:i<rows.length:=(Mk.mp r).1;have g:z.length=w:=s z t;walk_at "ev";have h:(signs z).length=w:=by rw[cH];exact g
  refine dF (xs:=List.zipWith fJ (List.range (signs z).length) (signs z)) (n:=true) ?_ (λj τ=>∃c d,τ=[.frz (.tup (rows.map .str)) true,.own (ge rows w i++gr rows i j) true,.frz (.int i) true,.frz (.str z) true,c,d]) ⟨c,d,by simp[gr,ll,n6,Ba,wz]⟩ ?_ ?_
  ·walk_at "ev"
   simp only[oD,Of];rw[h,g]
  ·rintro j y τ o ⟨c,d,rfl⟩
   obtain⟨y,f,rfl⟩:=xD o;have x:j<w:=by
    have:=(Mk.mp f).1;omega
   obtain⟨G,q,u,B⟩:=CB s A x;rw[r]at q;cases q;have e:(signs z)[j]? =some (.str ⟨#[cd rows i j]⟩):=by
    unfold signs;rw[Mi,u];rfl
   rw[e]at f;cases f;refine⟨_,rfl,?_⟩;walk_at "ev";rw[gb];have l:(ge rows w i++gr rows i j).length<LN:=by
    rw[Ml];have D:=fW rows w i;have C:=kw rows i j;have F:i*w<=8*8:=Pu (by omega) v;show _<16777216;omega
   have rs:=nU rows i j;cases p:cd rows i j==120 with
   |true =>
    rw[p]at rs;walk_at "go";rw[gy rfl l];walk_at "ev";exact⟨.frz (.int j) true,.frz (.str ⟨#[cd rows i j]⟩) true,by rw[rs];simp[xP]⟩
   |false =>
    rw[p]at rs;walk_at "ev";exact⟨.frz (.int j) true,.frz (.str ⟨#[cd rows i j]⟩) true,by rw[rs];simp⟩
  ·rintro τ ⟨c,d,rfl⟩
   rw[sn,h];walk_at "ev";exact⟨_,_,_,_,by rw[ji]⟩
 ·rintro τ ⟨a,b,c,d,rfl⟩
  rw[sn,MR];walk_at "ev"
noncomputable def As:PV->Bool
 | .int _=>true|_=>false
noncomputable def CY:PV->Bool
 | .dT _ _=>false|_=>true
noncomputable def kn3:PV->Bool
 | .dT _ _=>false| .tup xs=>xs.all CY|_=>true
theorem c24(k:Nat)(v:PV)(h:CY v=true):aG P (k+1) 24 [v]=some (.bl (As v)):=by refine run rfl rfl ?_;simp only[d24,entry];cases v<;>first|(cases h;done)|(walk_at "ev";rfl)
noncomputable def bo(rows:List Str)(w:Nat)(v:PV):Bool:=match mn v with
 |some q=>decide (0<=q.1/\q.1<rows.length/\0<=q.2/\q.2<w/\cd rows q.1.toNat q.2.toNat=120)|none=>false
theorem mP(h:mn v=none):bo rows w v=false:=by unfold bo;rw[h]
theorem rQ(h:(As a&&As b)=false):mn (.tup [a,b])=none:=by cases a<;>cases b<;>first|rfl|(cases h;done)
theorem AV(h:xs.length≠2):mn (.tup xs)=none:=by
 cases e:mn (.tup xs)with
 |none=>rfl|some q =>
  have:=wI e;unfold aX at this
  injection this with e1
  subst e1;exact absurd rfl h
theorem c25(k:Nat)(rows:List Str)(w:Nat)(v:PV)(s:Wd rows w)(h0:rows≠[])(K:rows.length<=8)(J:w<=8)(f:kn3 v=true):aG P (k+2) 25 [.tup (rows.map .str),v]=some (.bl (bo rows w v)):=by
 refine run rfl rfl ?_;simp only[d25,entry];cases v with
 |dT _ _=>cases f|tup xs =>
  by_cases q:xs.length=2
  ·obtain⟨a,b,rfl⟩:=tq q
   have G:CY a=true:=by
    have:(CY a&&(CY b&&true))=true:=f
    revert this;cases CY a<;>simp
   have B:CY b=true:=by
    have:(CY a&&(CY b&&true))=true:=f
    revert this;cases CY b<;>simp
   have C:=c24 k a G;have A:=c24 k b B;have h:(!decide (((2:Nat):Int)=2))=false:=by decide
   walk_at "go";rw[h];walk_at "go";rw[C,A];cases g:As a with
   |false =>
    walk_at "go";rw[mP (rQ (by rw[g];rfl))]
   |true =>
    cases o:As b with
    |false =>
     walk_at "go";rw[mP (rQ (by rw[g,o];rfl))]
    |true =>
     obtain⟨i,rfl⟩:∃i,a=.int i:=by cases a<;>first|exact⟨_,rfl⟩|cases g
     obtain⟨j,rfl⟩:∃j,b=.int j:=by cases b<;>first|exact⟨_,rfl⟩|cases o
     walk_at "go";have F:bo rows w (.tup [.int i,.int j])=decide (0<=i/\i<rows.length/\0<=j/\j<w/\cd rows i.toNat j.toNat=120):=rfl;rw[F];obtain⟨d,e⟩:∃z,rows[0]? =some z:=⟨rows[0]'(by cases rows with|nil=>exact absurd rfl h0|cons _ _=>simp),by cases rows with|nil=>exact absurd rfl h0|cons _ _=>rfl⟩;have H:dI (rows.map PV.str) 0=some (.str d):=oZ e;have r:d.length=w:=s d (Mw e);rw[MR,H]
     by_cases t:0<=i
     ·rw[Mj t]
      by_cases p:i<rows.length
      ·rw[Mj p]
       walk_at "go"
       by_cases u:0<=j
       ·rw[Mj u]
        walk_at "go";have E:fM (.str d)=some w:=by
         show(if d.length<=LN then some d.length else none)=some w;rw[MX (by rw[r];show w<=16777216;omega),r]
        rw[E];walk_at "go"
        by_cases l:j<w
        ·rw[Mj l]
         walk_at "go";obtain⟨m,rfl⟩:∃m:Nat,i=m:=⟨i.toNat,by omega⟩;obtain⟨n,rfl⟩:∃n:Nat,j=n:=⟨j.toNat,by omega⟩;have x:m<rows.length:=by omega
         obtain⟨z,D,y,I⟩:=CB s x (show n<w by omega);rw[oZ D];walk_at "go";rw[bI y];walk_at "go";rw[gb];walk_at "go"
         congr 2
         rw[NI,PH,NL];simp only[Nt]
         constructor
         ·intro c
          exact⟨by omega,by omega,by omega,by omega,c⟩
         ·intro c
          exact c.2.2.2.2
        ·rw[Mq l]
         walk_at "go";rw[Mq (by omega)]
       ·rw[Mq u]
        walk_at "go";rw[Mq (by omega)]
      ·rw[Mq p]
       walk_at "go";rw[Mq (by omega)]
     ·rw[Mq t]
      walk_at "go";rw[Mq (by omega)]
  ·rw[mP (AV q)]
   have h:(!decide ((xs.length:Int)=2))=true:=by
    rw[Nj,PN];omega
   walk_at "go"
 |_=>walk_at "ev";rfl
theorem oF{f:PV->Option (Option (PV×Bool))}{g:PV->PV}:∀{xs:List PV},(∀x∈xs,f x=some (some (g x,true)))->bm f xs=some (xs.map g,true)
 |[],_=>rfl|x::xs,h=>by
  rw[bm,h x MT,oF λy a=>h y (MS _ a)];rfl
theorem fo{a:Type}{f:PV->Option (Option (PV×Bool))}{F:a->PV}{G:a->PV}{l:List a}(h:∀x∈l,f (F x)=some (some (G x,true))):bm f (l.map F)=some (l.map G,true):=by
 induction l with
 |nil=>rfl|cons x l b =>
  rw[Mg,bm,h x MT,b λy c=>h y (MS _ c)];rfl
structure Pl(rows:List Str)(w:Nat)(qs:List (Int×Int)):Prop where
 cell:∀q∈qs,bo rows w (aX q)=true
 asc:(qs.map (·.1)).Pairwise (·<·)
 cols:(qs.map (·.2)).Nodup
def Eu(rows:List Str)(w:Nat)(v:PV):Prop:=∃a,v=.tup (a.map aX)/\Pl rows w a
noncomputable def rR(rows:List Str)(w:Nat)(v:PV):Bool:= @decide (Eu rows w v) (Classical.propDecidable _)
theorem fH(h:¬Eu rows w v):rR rows w v=false:=by unfold rR;exact @decide_eq_false _ (Classical.propDecidable _) h
theorem jL(h:Eu rows w v):rR rows w v=true:=by unfold rR;exact @decide_eq_true _ (Classical.propDecidable _) h
theorem pA(h:aX p=aX q):p=q:=by have e:=ND mn h;have a:mn (aX p)=some (p.1,p.2):=rfl;have b:mn (aX q)=some (q.1,q.2):=rfl;rw[a,b]at e;have:=Mv e;exact Prod.ext (ND Prod.fst this) (ND Prod.snd this)
theorem EU(h:bo rows w v=true):∃q,v=aX q:=by
 unfold bo at h;cases e:mn v with
 |none=>rw[e]at h;cases h|some q=>exact⟨q,wI e⟩
theorem cell_in(h:bo rows w (aX q)=true):0<=q.1/\q.1<rows.length/\0<=q.2/\q.2<w/\cd rows q.1.toNat q.2.toNat=120:=by have e:bo rows w (aX q)=decide (0<=q.1/\q.1<rows.length/\0<=q.2/\q.2<w/\cd rows q.1.toNat q.2.toNat=120):=rfl;rw[e]at h;exact M3 h
theorem oJ{rows:List Str}{w:Nat}:∀{xs:List PV},(∀x∈xs,bo rows w x=true)->∃a:List (Int×Int),xs=a.map aX
 |[],_=>⟨[],rfl⟩|x::xs,h=>by
  obtain⟨q,rfl⟩:=EU (h x MT);obtain⟨a,rfl⟩:=oJ λy b=>h y (MS _ b);exact⟨q::a,rfl⟩
theorem tL{a:Type}(f:a->Bool):∀l:List a,iT (l.map λx=>PV.bl (f x))=some (l.map f)
 |[]=>rfl|x::l=>by rw[Mg,iT,tL f l];rfl
theorem oC:∀xs a:List Int,nC (xs.map PV.int) (a.map PV.int)=decide (xs=a)
 |[],[]=>rfl|[],_::_=>rfl|_::_,[]=>rfl|x::xs,y::a=>by
  show(decide (x=y)&&nC (xs.map PV.int) (a.map PV.int))=_;rw[oC xs a,NI];simp
theorem ly(n:Nat)(xs:List Int):(xs.map PV.int).all (cT n)=true:=by rw[Mm];intro x a;obtain⟨i,_,rfl⟩:=MZ.mp a;cases n<;>rfl
theorem B6(xs a:List Int):ar .Eq (.lst (xs.map PV.int)) (.lst (a.map PV.int))=some (decide (xs=a)):=by rw[ER];have c:cT 12 (.lst (xs.map PV.int))=true:=ly 11 xs;have b:cT 12 (.lst (a.map PV.int))=true:=ly 11 a;rw[c,b];show some (nC (xs.map PV.int) (a.map PV.int))=_;rw[oC]
theorem kn(h:∀n∈a,0<=n/\n<8):fD (.lst (a.map PV.int))=some a:=by
 show((aa (a.map PV.int)).bind λa=>if a.all (λn=>decide (0<=n)&&decide (n<8))=true then some a else none)=some a;rw[eT];show(if a.all (λn=>decide (0<=n)&&decide (n<8))=true then some a else none)=some a;rw[MX];rw[Mm];intro n b
 simpa using h n b
theorem Dx(a:List (Int×Int)):imms (a.map aX)=true:=bT a
noncomputable def kn5:PV->Bool
 | .dT _ _=>false| .tup xs=>xs.all kn3&&decide (xs.length<=1000)|_=>true
theorem c26(k:Nat)(rows:List Str)(w:Nat)(v:PV)(H:Wd rows w)(h0:rows≠[])(E:rows.length<=8)(D:w<=8)(y:kn5 v=true):aG P (k+3) 26 [.tup (rows.map .str),v]=some (.bl (rR rows w v)):=by
 refine run rfl rfl ?_;simp only[d26,entry];cases v with
 |dT _ _=>cases y|tup xs =>
  have h:(xs.all kn3&&decide (xs.length<=1000))=true:=y;rw[MY,NL]at h;have B:xs.length<=LN:=by have:=h.2;show xs.length<=16777216;omega
  walk_at "go";rw[oF (g:=λx=>.bl (bo rows w x)) λx j=> ?h1]
  case h1 =>
   walk_at "go";rw[c25 k rows w x H h0 E D (Mm.mp h.1 x j)];walk_at "go"
  walk_at "go";rw[tL];walk_at "go";cases s:(xs.map (bo rows w)).all id with
  |false =>
   walk_at "go";rw[fH];rintro⟨c,e,l⟩;cases e;have:((c.map aX).map (bo rows w)).all id=true:=by
    rw[Mm];intro b F;obtain⟨x,j,rfl⟩:=MZ.mp F;obtain⟨q,d,rfl⟩:=MZ.mp j;exact l.cell q d
   rw[this]at s;cases s
  |true =>
   have A:∀x∈xs,bo rows w x=true:=λx j=>Mm.mp s _ (MZ.mpr ⟨x,j,rfl⟩);obtain⟨c,rfl⟩:=oJ A;have i:∀q∈c,bo rows w (aX q)=true:=λq d=>A _ (MZ.mpr ⟨q,d,rfl⟩);rw[Dx];walk_at "go";rw[fo (G:=λq:Int×Int=>.int q.1) λq d=> ?h2]
   case h2=>rfl
   walk_at "go";rw[fo (G:=λq:Int×Int=>.int q.2) λq d=> ?h3]
   case h3=>rfl
   have p:∀n∈c.map (·.1),0<=n/\n<8:=λn r=>by
    obtain⟨q,d,rfl⟩:=MZ.mp r;have:=cell_in (i q d);omega
   have t:∀n∈c.map (·.2),0<=n/\n<8:=λn r=>by
    obtain⟨q,d,rfl⟩:=MZ.mp r;have:=cell_in (i q d);omega
   have C:(c.map λq:Int×Int=>PV.int q.1)=(c.map (·.1)).map PV.int:=by rw[M4];rfl
   have es:(c.map λq:Int×Int=>PV.int q.2)=(c.map (·.2)).map PV.int:=by rw[M4];rfl
   rw[C,es];walk_at "go";rw[kn p,kn t];walk_at "go";rw[B6]
   by_cases m:c.map (·.1)=cD (c.map (·.1))
   ·rw[Mj m]
    walk_at "go"
    congr 2
    have B:(c.map (·.2)).length=((c.map (·.2)).map PV.int).length:=by rw[MR (f:=PV.int)]
    rw[<- B]
    by_cases o:(c.map (·.2)).Nodup
    ·rw[jL ⟨c,rfl,i,(ng p).mp m,o⟩,Mj]
     have:=(rW t).mpr o;omega
    ·rw[fH,Mq]
     ·intro z
      exact o ((rW t).mp (by omega))
     ·rintro⟨u,e,l⟩
      injection e with e1
      have:c=u:=List.map_inj_right (λa b=>pA) |>.mp e1
      subst this;exact o l.cols
   ·rw[Mq m]
    walk_at "go";rw[fH];rintro⟨u,e,l⟩
    injection e with e1
    have:c=u:=List.map_inj_right (λa b=>pA) |>.mp e1
    subst this;exact m ((ng p).mpr l.asc)
 |_ =>
  walk_at "ev";rw[fH (by rintro⟨c,e,_⟩;cases e)]
noncomputable def cI(rows:List Str)(w:Nat):List (Int×Int):=(List.range rows.length).flatMap λr=>((List.range w).filter λc=>cd rows r c==120).map λc:Nat=>((r:Int),(c:Int))
theorem qA(rows:List Str)(w:Nat):ge rows w rows.length=(cI rows w).map aX:=by
 unfold ge cI gr;rw[List.map_flatMap]
 congr 1
 funext r
 rw[M4];rfl
theorem jc:q∈cI rows w↔bo rows w (aX q)=true:=by
 unfold cI;rw[List.mem_flatMap]
 constructor
 ·rintro⟨r,d,e⟩
  obtain⟨c,a,rfl⟩:=MZ.mp e;rw[M6,NC,PH]at a;rw[NC]at d;show decide (0<=(r:Int)/\(r:Int)<rows.length/\0<=(c:Int)/\(c:Int)<w/\cd rows (r:Int).toNat (c:Int).toNat=120)=true;rw[NL];exact⟨by omega,by omega,by omega,by omega,a.2⟩
 ·intro h
  obtain⟨g,j,f,i,b⟩:=cell_in h;refine⟨q.1.toNat,NC.mpr (by omega),MZ.mpr ⟨q.2.toNat,?_,Prod.ext (by show((q.1.toNat:Nat):Int)=q.1;omega) (by show((q.2.toNat:Nat):Int)=q.2;omega)⟩⟩;rw[M6,NC,PH];exact⟨by omega,b⟩
theorem Io(b:rows.length<=8)(a:w<=8):(cI rows w).length<=64:=by have e:=ND List.length (qA rows w);rw[MR]at e;rw[<- e];refine M8 (fW rows w rows.length) ?_;exact Pu b a
noncomputable def oG(rows:List Str)(w:Nat):List (List Nat):=(List.range rows.length).map λr=>(List.range w).filter λc=>cd rows r c==120
theorem vK(rows:List Str)(w:Nat)(b:w<=8):dJ (oG rows w):=λcs h c a=>by
 obtain⟨r,_,rfl⟩:=MZ.mp h;have:=NC.mp (M6.mp a).1;omega
theorem iR(f:Nat->List Nat):∀(n k:Nat),aW (k:Int) ((List.range n).map λi=>f (k+i))=(List.range n).flatMap λi=>(f (k+i)).map λc:Nat=>(((k+i:Nat):Int),(c:Int))
 |0,k=>rfl|n+1,k=>by
  rw[List.range_succ_eq_map,Mg,aW,List.flatMap_cons,M4];have b:=iR f n (k+1);have a:((List.range n).map ((λi=>f (k+i))∘Nat.succ))=(List.range n).map λi=>f (k+1+i):=NV λi _=>by show f (k+(i+1))=f (k+1+i);rw[show k+(i+1)=k+1+i by omega]
  rw[a,show(k:Int)+1=((k+1:Nat):Int)by omega,b,List.flatMap_map];refine ND (λz=>rF (k:Int) (f (k+0))++z) ?_;refine ND (λg=>(List.range n).flatMap g) (funext λi=> ?_);show _=(f (k+(i+1))).map λc:Nat=>(((k+(i+1):Nat):Int),(c:Int));rw[show k+(i+1)=k+1+i by omega]
theorem mR(rows:List Str)(w:Nat):cI rows w=aW 0 (oG rows w):=by have:=iR (λr=>(List.range w).filter λc=>cd rows r c==120) rows.length 0;unfold cI oG;rw[show((0:Nat):Int)=0 from rfl]at this;simp only[Nw]at this;exact this.symm
theorem Gb:Pl rows w b↔CT (oG rows w) b:=by
 constructor
 ·intro h
  exact⟨⟨h.asc,h.cols⟩,λx a=>by rw[<- mR];exact jc.mpr (h.cell x a)⟩
 ·rintro⟨⟨d,e⟩,c⟩
  exact⟨λx a=>jc.mp (by rw[mR];exact c x a),d,e⟩
theorem g9(a:Pl rows w b)(f:bo rows w (aX c)=true):Pl rows w (b++[c])↔bq b c=true:=by
 constructor
 ·intro h
  exact(iV.mp ⟨h.asc,h.cols⟩).2
 ·intro o
  obtain⟨e,g⟩:=iV.mpr ⟨⟨a.asc,a.cols⟩,o⟩;refine⟨λx d=> ?_,e,g⟩
  rcases M7.mp d with z|z
  ·exact a.cell x z
  ·rw[NA.mp z]
   exact f
theorem AX(h:Pl rows w p)(s:q.Sublist p):Pl rows w q := ⟨λx a=>h.cell x (s.subset a),h.asc.sublist (s.map _),h.cols.sublist (s.map _)⟩
theorem AY:Pl rows w []:=⟨λx a=>(by cases a),.nil,.nil⟩
theorem fQ(b:Wd rows w):rows.map aH=oG rows w:=by
 refine PZ λi=> ?_;unfold oG;rw[Mi,Mi]
 by_cases a:i<rows.length
 ·rw[Mf a,NW a]
  refine ND some ?_;have e:rows.getD i ⟨#[]⟩=rows[i]:=by rw[Me,Mf a];rfl
  show(List.range rows[i].length).filter (λc=>rows[i].cps.toList.getD c 0==120)=(List.range w).filter λc=>(rows.getD i ⟨#[]⟩).cps.toList.getD c 0==120;rw[e,b _ (Oq a)]
 ·rw[Nc (by omega),Nc (by rw[NK];omega)]
  rfl
theorem Gc(e:w<=8)(h:Pl rows w b):MM rows.length b := ⟨λx a=>by obtain⟨c,d,_⟩:=cell_in (h.cell x a);exact⟨c,d⟩,λx a=>by obtain⟨_,_,c,d,_⟩:=cell_in (h.cell x a);exact⟨c,by omega⟩,h.cols⟩
theorem Em:∀{n:Nat}{l:List Int},l.Pairwise (·<·)->(∀x∈l,0<=x/\x<n)->l.length<=n:=fun{n l} b a=>by
 have d:∀(l:List Int)(m:Int),l.Pairwise (·<·)->(∀x∈l,m<=x/\x<n)->(l.length:Int)<=max (n-m) 0:=by
  intro l
  induction l with
  |nil=>intro m _ _;show(0:Int)<=_;omega|cons x l g =>
   intro m b a;obtain⟨e,f⟩:=OG.mp b;have:=g (x+1) f λy c=>⟨by have:=e y c;omega,(a y (MS _ c)).2⟩;have:=a x MT;rw[Ma];omega
 have:=d l 0 b a;omega
theorem eQ(h:Pl rows w b):b.length<=rows.length:=by
 have:=Em (n:=rows.length) h.asc λx c=>by
  obtain⟨q,e,rfl⟩:=MZ.mp c;obtain⟨a,d,_⟩:=cell_in (h.cell q e);exact⟨a,d⟩
 rw[MR]at this;exact this
theorem BE{b:List (Int×Int)}(c:b.length<=1000):kn5 (.tup (b.map aX))=true:=by show((b.map aX).all kn3&&decide ((b.map aX).length<=1000))=true;rw[MY,Mm,NL,MR];refine⟨λx a=> ?_,c⟩;obtain⟨q,_,rfl⟩:=MZ.mp a;rfl
theorem rP:∀{p q:List (Int×Int)},p.map aX=q.map aX->p=q
 |[],[],_=>rfl|[],_::_,h=>by cases h|_::_,[],h=>by cases h|x::p,y::q,h=>by
  rw[Mg,Mg]at h;obtain⟨b,a⟩:=List.cons.inj h;rw[pA b,rP a]
noncomputable def itsP:PV->List PV
 | .tup xs=>xs|_=>[]
theorem lD:Eu rows w (.tup (b.map aX))↔Pl rows w b:=by
 constructor
 ·rintro⟨a,e,h⟩
  have c:b.map aX=a.map aX:=by
   have:=ND itsP e;exact this
  rw[rP c];exact h
 ·exact λh=>⟨b,rfl,h⟩
theorem LJ(k:Nat)(c:Wd rows w)(h0:rows≠[])(d:rows.length<=8)(a:w<=8)(h:Pl rows w b):aG P (k+3) 26 [.tup (rows.map .str),.tup (b.map aX)]=some (.bl true):=by have:=eQ h;rw[c26 k rows w _ c h0 d a (BE (by omega)),jL (lD.mpr h)]
theorem Ip(k:Nat)(f:Wd rows w)(h0:rows≠[])(g:rows.length<=8)(d:w<=8)(h:Pl rows w b)(a:bo rows w (aX c)=true):aG P (k+3) 26 [.tup (rows.map .str),.tup ((b++[c]).map aX)]=some (.bl (bq b c)):=by
 have:=eQ h;rw[c26 k rows w _ f h0 g d (BE (by rw[Ml,OE];omega))];cases e:bq b c with
 |true=>rw[jL (lD.mpr ((g9 h a).mpr e))]|false=>rw[fH λz=>by have:=(g9 h a).mp (lD.mp z);rw[e]at this;cases this]
theorem HG(a c:Int×Int):ar .Lt (aX a) (aX c)=some (fA a c):=by
 have f:∀q:Int×Int,cT 12 (aX q)=true:=λq=>rfl;show ltT (aX a) (aX c)=_;unfold ltT;rw[f,f,Bool.and_self,MX rfl];show(if decide (a.1=c.1)=true then(if decide (a.2=c.2)=true then some false else some (decide (a.2<c.2)))else some (decide (a.1<c.1)))=_;unfold fA
 by_cases b:a.1=c.1
 ·rw[MX (Mj b),MX b]
  by_cases d:a.2=c.2
  ·rw[MX (Mj d),show decide (a.2<c.2)=false from Mq (by omega)]
  ·rw[MV (by simpa using d)]
 ·rw[MV (by simpa using b),MV b]
noncomputable def gO(p:List (Int×Int))(c:Int×Int):List (Int×Int):=p.filter λx=>fA x c
theorem c168(k:Nat)(p:List (Int×Int))(c:Int×Int)(f:p.length<=1000):aG P (k+1) 168 [.tup (p.map aX),aX c]=some (.tup ((gO p c++[c]).map aX)):=by
 refine cG rfl rfl ?_;simp only[IZ,entry];have b:imms (p.map aX)=true:=bT p;have a:imm (aX c)=true:=rfl;walk_at "ev";rw[b,a];walk_at "ev";rw[MX (by rw[MR];omega)];rw[cJ (p:=λx=>fA x c) (g:=aX) λx e=> ?hf]
 case hf =>
  rw[HG];walk_at "ev";cases fA x c<;>rfl
 walk_at "ev";have d:(gO p c).length<=p.length:=NG _ _;rw[MX (by rw[Ml,MR];show(gO p c).length+1<=_;omega)];walk_at "ev";rw[Ms];rfl
theorem c3I(k:Nat)(b:Wd rows w)(c:rows.length<=8)(a:w<=8):aG P (k+1) 3 [.tup (rows.map .str)]=some (.lst ((cI rows w).map aX)):=by rw[c3 k rows w b c a,qA]
theorem wd8(b:Wd rows w)(a:w<=8):∀z∈rows,z.length<=8:=λz c=>by rw[b z c];exact a
theorem CC(k:Nat)(a:Nat)(e:Wd rows w)(f:rows.length<=8)(c:w<=8)(d:Pl rows w b) :
  aG P (k+2) 166 [.lst (cA rows),.tup (b.map aX),.int a]=some (.int (mq (rows.map aH) a b)):=by
 have:=eQ d;exact c166 k rows b a f (wd8 e c) (Gc c d) (by omega)
noncomputable def C1(rows:List Str)(w a:Nat)(n:Int)(i:Nat):List (Int×Int)×Int:=((cI rows w).take i).foldl (OD.turn bq (mq (rows.map aH) a)) ([],n)
theorem zq(b:(cI rows w)[i]? =some q):C1 rows w a n (i+1)=OD.turn bq (mq (rows.map aH) a) (C1 rows w a n i) q:=by unfold C1;rw[List.take_succ,b,OL];rfl
theorem c167(k:Nat)(rows:List Str)(w d:Nat)(n:Int)(p:Wd rows w)(h0:rows≠[])(l:rows.length<=8)(h:w<=8)(s:0<=n)(A:n<mq (rows.map aH) d []) :
  aG P (k+4) 167 [.tup (rows.map .str),.int d,.int n]=some (.tup (((cI rows w).foldl (OD.turn bq (mq (rows.map aH) d)) ([],n)).1.map aX)):=by
 refine cG rfl rfl ?_;simp only[Ia,entry];have t:=bS rows;have v:aG P (k+3) 166 [.lst (cA rows),.tup [],.int d]=_:=CC (k+1) d p l h (AY (w:=w));walk_at "ev";rw[t,LO (k+1) rows l (wd8 p h)];walk_at "ev";rw[show decide ((0:Int)<=n)=true from Mj s];walk_at "ev";rw[v];walk_at "ev";rw[show decide (n<mq (rows.map aH) d [])=true from Mj A];walk_at "ev";refine dF (xs:=(cI rows w).map aX) (n:=true) ?_ (λi τ=>∃a b c,Pl rows w (C1 rows w d n i).1/\τ=[.frz (.tup (rows.map .str)) true,.frz (.int d) true,.frz (.int n) true,.frz (.lst (cA rows)) true,.frz (.tup ((C1 rows w d n i).1.map aX)) true,.frz (.int (C1 rows w d n i).2) true,a,b,c]) ⟨.un,.un,.un,AY,rfl⟩ ?_ ?_
 ·walk_at "ev"
  rw[c3I (k+2) p l h];walk_at "ev"
 ·rintro i y τ j ⟨a,b,c,g,rfl⟩
  obtain⟨q,r,rfl⟩:∃q,(cI rows w)[i]? =some q/\y=aX q:=by
   rw[Mi]at j;cases e:(cI rows w)[i]? with
   |none=>rw[e]at j;cases j|some q=>rw[e]at j;cases j;exact⟨q,rfl,rfl⟩
  have o:bo rows w (aX q)=true:=jc.mp (Mw r);have x:=eQ g;have B:imm (aX q)=true:=rfl;refine⟨_,rfl,?_⟩;rw[zq r]
  generalize C1 rows w d n i=st at g x ⊢
  walk_at "ev";rw[MX (by rw[Ml,MR];show st.1.length+1<=_;omega)];walk_at "ev";have u:st.1.map aX++[aX q]=(st.1++[q]).map aX:=by rw[Ms];rfl
  rw[u,Ip k p h0 l h g o];unfold OD.turn;cases z:bq st.1 q with
  |false =>
   walk_at "ev";exact⟨_,_,_,g,rfl⟩
  |true =>
   have m:=(g9 g o).mpr z;rw[MX rfl];walk_at "ev";rw[CC (k+1) d p l h m];walk_at "ev"
   by_cases f:st.2<mq (rows.map aH) d (st.1++[q])
   ·rw[Mj f,MX f]
    walk_at "ev";exact⟨_,_,_,m,rfl⟩
   ·rw[Mq f,MV f]
    walk_at "ev"
    first|exact⟨_,_,_,g,rfl⟩|exact⟨_,rfl,_,_,_,g,rfl⟩
 ·rintro τ ⟨a,b,c,g,rfl⟩
  have e:C1 rows w d n ((cI rows w).map aX).length=(cI rows w).foldl (OD.turn bq (mq (rows.map aH) d)) ([],n):=by
   unfold C1;rw[MR,Nx]
  rw[e];walk_at "ev"
theorem kQ(a c:Int×Int):jW (aX a) (aX c)=decide (a=c):=by show(decide (a.1=c.1)&&(decide (a.2=c.2)&&true))=_;rw[Bool.and_true,NI,MY,NL,NL,NL];exact⟨λh=>Prod.ext h.1 h.2,λh=>by rw[h];exact⟨rfl,rfl⟩⟩
theorem Dw(c:Int×Int)(p:List (Int×Int)):ar .NotIn (aX c) (.tup (p.map aX))=some (!decide (c∈p)):=by
 have f:∀q:Int×Int,cT 12 (aX q)=true:=λq=>rfl;show(wq (aX c) (p.map aX)).map (!·)=_;unfold wq;rw[MV (λz=>by cases z.1),MX]
 ·show some (!_)=_
  refine ND (λb=>some !b) ?_;rw[NI,No,NL]
  constructor
  ·rintro⟨y,a,e⟩
   obtain⟨q,d,rfl⟩:=MZ.mp a;rw[kQ]at e;rw[<- M3 e];exact d
  ·intro h
   exact⟨aX c,MZ.mpr ⟨c,h,rfl⟩,by rw[kQ];exact Mj rfl⟩
 ·rw[f,Bool.true_and,Mm]
  intro y a;obtain⟨q,_,rfl⟩:=MZ.mp a;exact f q
theorem qr(a:List (Int×Int)->Int)(p:List (Int×Int)):∀L:List (Int×Int),((((L.filter λc=> !decide (c∈p)).filter λc=>bq (gO p c) c).map λc=>a (gO p c++[c])).sum)=OD.sumZ (OD.mY bq fA a p) L
 |[]=>rfl|c::L=>by
  have d:=qr a p L;show _=OD.mY bq fA a p c+OD.sumZ (OD.mY bq fA a p) L;rw[<- d];have e:OD.mY bq fA a p c=if c∈p then 0 else if bq (gO p c) c then a (gO p c++[c])else 0:=by
   unfold OD.mY
   by_cases h:c∈p;rw[MX h,MX h]
   ·rw[MV h,MV h]
    rfl
  rw[e]
  by_cases h:c∈p;rw[PQ (by simpa using h),MX h,O6]
  ·rw[PP (by simpa using h),MV h]
   cases b:bq (gO p c) c with
   |true=>rw[PP (by simpa using b),Mg,List.sum_cons,MX rfl]|false=>rw[PQ (by rw[b];exact Mc),MV Mc,O6]
theorem iD{rows:List Str}:∀cs∈rows.map aH,cs.Pairwise (·<·):=λcs h=>by
 obtain⟨z,_,rfl⟩:=MZ.mp h;exact List.Pairwise.filter _ List.pairwise_lt_range
theorem iQ(a:Wd rows w):aW 0 (rows.map aH)=cI rows w:=by rw[fQ a,mR]
theorem uY(a:Wd rows w):Pl rows w p↔CT (rows.map aH) p:=by rw[fQ a];exact Gb
theorem c169(k:Nat)(rows:List Str)(w:Nat)(p:List (Int×Int))(a:Wd rows w)(h0:rows≠[])(d:rows.length<=8)(b:w<=8)(f:Pl rows w p) :
  aG P (k+4) 169 [.tup (rows.map .str),.tup (p.map aX)]=some (.int ((cx (rows.map aH) p:Nat):Int)):=by
 refine cG rfl rfl ?_;simp only[IY,entry];have j:=bS rows;have o:imms (p.map aX)=true:=bT p;have q:=eQ f;have n:=Io (rows:=rows) d b;walk_at "ev";rw[j,o,LJ k a h0 d b f];walk_at "ev";rw[LO (k+1) rows d (wd8 a b)];walk_at "ev";rw[c3I (k+2) a d b];walk_at "ev";rw[MX (by rw[MR];omega)];rw[cJ (p:=λc=> !decide (c∈p)) (g:=λc=>PV.tup ((gO p c++[c]).map aX)) λx i=> ?hf]
 case hf =>
  rw[Dw];walk_at "ev";rw[c168 (k+2) p x (by omega)];cases decide (x∈p)<;>rfl
 walk_at "ev";have l:=NG (λc=> !decide (c∈p)) (cI rows w);rw[MX (by rw[MR];omega)];rw[cJ (p:=λc=>bq (gO p c) c) (g:=λc=>PV.int (mq (rows.map aH) p.length (gO p c++[c]))) λx i=> ?hf]
 case hf =>
  have e:bo rows w (aX x)=true:=jc.mp (M6.mp i).1;have h:Pl rows w (gO p x):=AX f List.filter_sublist;rw[Ip k a h0 d b h e];cases m:bq (gO p x) x with
  |false=>rfl|true =>
   walk_at "ev";rw[MR,CC (k+1) p.length a d b ((g9 h e).mpr m)];rfl
 walk_at "ev";rw[show(λc=>PV.int (mq (rows.map aH) p.length (gO p c++[c])))=PV.int∘(λc=>mq (rows.map aH) p.length (gO p c++[c]))from rfl,<-M4,om,qr];walk_at "ev";rw[<- iQ a,yL iD ((uY a).mp f)]
theorem c66(k:Nat)(rows:List Str)(w:Nat)(m:Wd rows w)(h0:rows≠[])(C:rows.length<=8)(q:w<=8):aG P (k+1) 66 [.tup (rows.map .str)]=some (.lst (ge rows w rows.length)):=by
 refine cG rfl rfl ?_;have A:=BQ rows;have e:=bS rows;simp only[d66,entry];walk_at "go";obtain⟨g,d⟩:∃z,rows[0]? =some z:=by
  cases rows with
  |nil=>exact absurd rfl h0|cons z r=>exact⟨z,rfl⟩
 have l:g.length=w:=m g (Mw d);have v:dI (rows.map PV.str) 0=some (.str g):=oZ (i:=0) d;rw[e];refine dF (xs:=(List.range rows.length).map λi=>.int (0+(i:Nat))) (n:=true) ?_ (λi τ=>∃a b,τ=[.frz (.tup (rows.map .str)) true,.own (ge rows w i) true,a,b]) ⟨_,_,rfl⟩ ?_ ?_
 ·walk_at "ev"
  simp only[kC,cN,MR];rw[MX ⟨by omega,by omega⟩];rfl
 ·rintro i y τ f ⟨a,b,rfl⟩
  obtain⟨u,rfl⟩:=cy f;refine⟨_,rfl,?_⟩;walk_at "ev";refine dF (xs:=(List.range w).map λi=>.int (0+(i:Nat))) (n:=true) ?_ (λj τ=>∃b,τ=[.frz (.tup (rows.map .str)) true,.own (ge rows w i++gr rows i j) true,.frz (.int i) true,b]) ⟨b,by simp[gr,ll]⟩ ?_ ?_
  ·walk_at "ev"
   rw[v];walk_at "ev";rw[len_str,MX (by rw[l];show w<=16777216;omega)];walk_at "ev";simp only[kC,cN,l];rw[MX ⟨by omega,by omega⟩];rfl
  ·rintro j y τ f ⟨b,rfl⟩
   obtain⟨s,rfl⟩:=cy f;refine⟨_,rfl,?_⟩;obtain⟨z,t,o,p⟩:=CB m u s;walk_at "ev";rw[oZ t];walk_at "ev";rw[MX (by rw[p];show w<=16777216;omega),bI o];walk_at "ev";rw[gb];have c:(ge rows w i++gr rows i j).length<LN:=by
    rw[Ml];have B:=fW rows w i;have x:=kw rows i j;have D:i*w<=8*8:=Pu (by omega) q;show _<16777216;omega
   have rs:=nU rows i j;cases h:cd rows i j==120 with
   |true =>
    rw[h]at rs;walk_at "go";rw[gy rfl c];walk_at "ev";exact⟨.frz (.int j) true,by rw[rs];simp[xP]⟩
   |false =>
    rw[h]at rs;walk_at "ev";exact⟨.frz (.int j) true,by rw[rs];simp⟩
  ·rintro τ ⟨b,rfl⟩
   rw[kM];walk_at "ev";exact⟨_,_,by rw[ji]⟩
 ·rintro τ ⟨a,b,rfl⟩
  rw[kM];walk_at "ev"
section
open PySem.Spec PyProof.Rows
theorem J9:aP N64 ["_law_board_here"] (aA GC):=⟨rfl,rfl,rfl,by decide +kernel,rfl,by decide +kernel,by decide +kernel⟩
set_option tactic.hygienic true in
theorem AE(d:c 64=some JU)(h:aG c (k+1) 64 vs=some r):jq vs=some r:=by
 unfold aG at h;rw[d]at h;simp only[Ng]at h
 split at h
 ·rename_i f
  obtain⟨a,rfl⟩:=iB (show vs.length=1 from f);simp only[JU,zH,zI,i9,ij,ii,iu,iz,ig,io,i7,i6,jA,i5,i8,iw,ik,ir,entry]at h;have e:((List.map (λv=>TV.frz v (imm v)) [a]++List.replicate (8-[a].length) TV.un).take 1).map TV.valD=[a]:=rfl;rw[e]at h;cases b:jq [a]with
  |none=>rw[b]at h;cases h|some v=>rw[b]at h;cases h;rfl
 ·cases h
theorem GP(h:jq vs=some r):vs.length=1:=by
 unfold jq at h
 split at h;rfl;cases h
theorem kd:∀{a:List PV}{rows:List Str},jp a=some rows->a=rows.map .str
 |[],rows,h=>by cases h;rfl|x::a,rows,h=>by
  cases x with
  |str z =>
   have h:(jp a).map (z::·)=some rows:=h;cases e:jp a with
   |none=>rw[e]at h;cases h|some r =>
    rw[e]at h;cases h;rw[kd e];rfl
  |_=>cases h
theorem wC{K:W.Frag}{Hi:Hp}{n:Bool}{H:Hp}:∀{rows:List Str}{c:List V},aI K Hi n (rows.map .str) H c->c=rows.map V.str
 |[],c,h=>h|z::rows,c,h=>by
  rw[Mg]at h;obtain⟨u,vs,rfl,a,b⟩:=h;rw[wC b,Rp.str.mp a];rfl
theorem ze:∀l:List Int,d7 l=[]->∀x∈l,x=0:=by
 intro l;refine dG (P:=λl=>d7 l=[]->∀x∈l,x=0) (λ_ x a=>nomatch a) (λl y b h x a=> ?_) l
 by_cases e:y=0
 ·subst e
  rw[gI]at h
  rcases M7.mp a with a|a
  ·exact b h x a
  ·simpa using a
 ·rw[gJ l e]at h
  simp at h
abbrev iR1(H:Hp)(h:Addr)(rows:List Str)(i:Nat)(f:L2.St)(G:Hp):Prop:=∃C a b c d e g,f=[some (.ref h),some (.ref C),a,b,c,d,e,g]/\aE H G/\H C=none/\G C=some (.dT (ba (kh (rows.take i))))
abbrev iR2(H:Hp)(c C a:Addr)(z:Str)(o:Obj)(ct:List (List Int×Int))(cs:List Int)(j:Nat)(b:L2.St)(G:Hp):Prop:=∃d e g h,b=[some (.ref c),some (.ref C),some (.str z),some (.ref a),d,e,g,h]/\aE H G/\G C=some (.frz o (.dT (ba ct)))/\G a=some (.dT (ba ((ct.take j).foldl (kl cs) ct)))
abbrev iR3(H:Hp)(d C a b:Addr)(z:Str)(h:Option V)(o:Obj)(ct:List (List Int×Int))(t:List Int)(n:Int)(f:List (List Int×Int))(B:Nat->List Int)(m:Nat)(c:L2.St)(G:Hp):Prop:=∃e g,c=[some (.ref d),some (.ref C),some (.str z),some (.ref a),some (.ref b),e,g,h]/\aE H G/\G C=some (.frz o (.dT (ba ct)))/\G a=some (.dT (ba ((B m).foldl (eA t n) f)))/\G b=some (.tup (t.map V.int))
abbrev iR4(H:Hp)(i C g:Addr)(o:Obj)(ct:List (List Int×Int))(f:Nat->List Int)(j:Nat)(h:L2.St)(G:Hp):Prop:=∃a b c d e,h=[some (.ref i),some (.ref C),a,b,c,d,e,some (.ref g)]/\aE H G/\G C=some (.frz o (.dT (ba ct)))/\G g=some (.lst ((f j).map V.int))
abbrev iR5(H:Hp)(i C f:Addr)(ct:List (List Int×Int))(h:Nat)(g:L2.St)(G:Hp):Prop:=∃a b c d e xs,g=[some (.ref i),some (.ref C),a,b,c,d,e,some (.ref f)]/\aE H G/\G f=some (.lst (xs.map V.int))/\d7 xs=d7 (gW ct)/\xs.length=h
theorem K2{H:Hp}{b:Addr}{rows:List Str}{i:Nat}{a:L2.St}{G:Hp}{P:Prop}(h:iR1 H b rows i a G)(f:aE H G->P):P:=by obtain⟨_,_,_,_,_,_,_,_,s,_⟩:=h;exact f s
theorem K1{H:Hp}{c C b:Addr}{z:Str}{o:Obj}{ct:List (List Int×Int)}{cs:List Int}{j:Nat}{a:L2.St}{G:Hp}(h:iR2 H c C b z o ct cs j a G):G C=some (.frz o (.dT (ba ct))):=by obtain⟨_,_,_,_,_,_,h,_⟩:=h;exact h
theorem K0{H:Hp}{d C c:Addr}{o:Obj}{ct:List (List Int×Int)}{a:Nat->List Int}{j:Nat}{b:L2.St}{G:Hp}(h:iR4 H d C c o ct a j b G):G C=some (.frz o (.dT (ba ct))):=by obtain⟨_,_,_,_,_,_,_,h,_⟩:=h;exact h
set_option tactic.hygienic true in
theorem Ho{K:W.Frag}(e4:mg "dict"=none)(b6:mg "len"=none)(e0:mg "range"=none)(c8:mg "sorted"=none)(c7:mg "tuple"=none)(D:Fc K mg "_law_row" GC ["_law_board_here"] f fd)(p:Program)(w:World)(base:Heap)(k:Nat)(_:∀y g,F.lookup y=some g->∃b gd qs,mg y=some (.ref b)/\W.keepIn K (.ref b)=true/\Binds K gd qs []/\bt p w K mg base kJ k b gd qs (yA K (aG P k g))):bt p w K mg base kJ (k+1) f fd ["_law_board_here"] (yA K (aG P (k+1) 64)):=by
 refine D.fn.ok J9 (λvs H Q E h=> ?_) (λc9 A a8 s H vs Q E hr h=> ?_)
 ·obtain⟨d3,r,h1,M,_⟩:=h
  rw[<- h1.len];exact GP (AE rfl M)
 obtain⟨d3,r,h1,M,q⟩:=h
 replace M:=AE rfl M
 unfold jq at M
 split at M
 case h_2=>cases M
 rename_i ls;cases e1:jp ls with
 |none=>rw[e1]at M;cases M|some rows =>
 rw[e1]at M;dsimp only[Option.bind]at M
 split at M
 case isFalse=>cases M
 rename_i hz;cases M;obtain⟨z1,z2⟩:=hz;have z2:∀z∈rows,z.length<=8:=λz hz=>by simpa using Mm.mp z2 z hz
 have d2:=kd e1;subst d2;obtain⟨u1,_,rfl,r1,h1⟩:=h1;obtain rfl:=h1;obtain⟨Bd,us,rfl,e5,rb⟩:=Rp.tup.mp r1;have eb:=wC rb;subst eb;have nd:=J9.nd;have hu:=BR hr;have e3:(sw kJ p w K mg base N64 "_law_row" (aA GC) f c9 A a8 s H E).nox.A.units+64<cLine:=hr.units;have hs:sizeLine=16777216:=Np
 refine⟨_,am (dv (i:=1) nd rfl (Or.inl rfl) (yJ hu (uc ag) dA)) (am (dw Nk rfl (uZ (pv 0)) (aw (i:=2) nd rfl (Or.inl rfl)) (am (dv (i:=3) nd rfl (Or.inl rfl) (cq tG rfl e4 boot_dict (aL (pv 1) ag))) (am (rM (dw Nk rfl (wK (pv 1)) (aw (i:=4) nd rfl (Or.inl rfl)) (az (dw Nk rfl (jM rfl e0 (aL (bi iS (by rfl) b6 OX (aL (pv 2) ag)) ag)) (aw (i:=5) nd rfl (Or.inl rfl))
     (az (rN (PW.pt (AM (gz wQ (nY BK (pv 2) (pv 5) (λ_ _=>rfl)) ud (um _)) (wG (gz (pD (Hi:=H) e3) (pv 5) (pv 4) rfl)))) (am (dv (i:=6) nd rfl (Or.inl rfl) (cq gF rfl c7 boot_tuple (aL (bi kG (by rfl) c8 boot_sorted (aL (fI wR (pv 4) (uc (aL (pv 5) ag))) ag)) ag)))
      (az (kN hu (pv 3) (pv 6) (fI lJ (rT hu (pv 3) (pv 6) dA ⟨rfl,rfl,rfl,rfl⟩) (pB hu (pv 1) (pv 4) (λ_ _=>rfl))) rfl))) g0))))))
   (az (dv (i:=1) nd rfl (Or.inl rfl) (pv 3))))))
  (am (dv (i:=7) nd rfl (Or.inl rfl) (fI Gr (ue (aL dA ag)) dA)) (am (rM (dw Nk rfl (wK (pv 1)) (aw (i:=4) nd rfl (Or.inl rfl)) (az (GY (fI lJ (nY eS (pv 7) (bi cF (by rfl) b6 OX (aL (pv 4) ag)) (λ_ _=>rfl)) (pB hu (pv 1) (pv 4) (λ_ _=>rfl))) (Gi (pv 7) (bi cF (by rfl) b6 OX (aL (pv 4) ag)) zy (λ_=>rfl)) rfl rfl rfl))))
  (am (rL Nk (gz wQ (nY eS (pv 7) (FN zV dA) (λ_ _=>rfl)) dA (um _)) (az (o9 (Gn PySem.F.plainAttrs_list PySem.F.slot_list_pop PySem.F.type_list_pop HF (pv 7)) rfl))) (az (jK (pv 7))))))),?_⟩
 intro C0 b7;refine⟨by show 0<=sizeLine;exact NH _,λT0 a3=> ?_⟩;have c1:T0≠C0:=λz=>by rw[z,aC]at a3;cases a3
 have a1:H T0=none:=by rw[aB c1]at a3;exact a3
 refine⟨T0,[],rfl,aC,by rw[aB (Nv c1)];exact aC,?_⟩;have sG:aE H (L2.upd (L2.upd (L2.upd H C0 (.dT [])) T0 (.tup [])) C0 (.dT [([],.int 1)])):=λb o z=>by
  rw[aB (aF z b7),aB (aF z a1),aB (aF z b7)];exact z
 have a5 :∀{G:Hp},aE H G->bg K G Bd (rows.map V.str):=λs=>s.tup e5;have c4:∀i,bX (kh (rows.take i)):=λi=>rD _ λr hr c O=>by
  obtain⟨z,hz,rfl⟩:=MZ.mp hr;have:=NC.mp (M6.mp O).1;have:=z2 z (Pn hz);omega
 have c6:∀i,kh (rows.take i)≠[]:=λi z=>by
  have:=jJ ((rows.take i).map aH) (λr hr c O=>by
   obtain⟨z,hz,rfl⟩:=MZ.mp hr;have:=NC.mp (M6.mp O).1;have:=z2 z (Pn hz);omega) 0
  rw[show fG (((rows.take i).map aH).map jX)=kh (rows.take i)from rfl,z,aV]at this;cases this
 refine⟨_,rfl,Bd,rfl,⟨rows.map V.str,a5 sG⟩,D9 (xs:=rows.map V.str) (iR1 H Bd rows) ⟨C0,_,_,_,_,_,_,rfl,sG,b7,aC⟩ (λi σ G _ h=>K2 h a5) ?_ ?_⟩
 ·rintro i x σ G ex ⟨C,a,b,c,d,e,g,rfl,sH,hC,gC⟩
  obtain⟨z,ez,rfl⟩:∃z,rows[i]? =some z/\x=.str z:=by
   rw[Mi]at ex;cases e:rows[i]? with
   |none=>rw[e]at ex;cases ex|some z=>rw[e]at ex;exact⟨z,rfl,(Mv ex).symm⟩
  have zl:=z2 z (Mw ez);obtain⟨ct,I⟩:∃ct,ct=kh (rows.take i):=⟨_,rfl⟩;have ok:bX ct:=I▸c4 i
  have ne:ba ct≠[]:=λz=>c6 i (by
   have:=ND List.length z;rw[iK,I]at this;exact List.length_eq_zero_iff.mp this)
  rw[<- I]at gC;refine⟨_,rfl,C,_,rfl,gC,ne,CN _ _ ok,λFr a'=> ?_⟩;have u:Fr≠C:=λz=>by rw[z,gC]at a';cases a'
  have b4:H Fr=none:=sH.free a';refine⟨_,rfl,C,ba ct,rfl,by rw[aB (Nv u)];exact gC,λo nf=> ?_⟩;obtain⟨B,hB⟩:∃B:Nat->List Int,B=λm=>jX ((List.range m).filter λc=>z.cps.toList.getD c 0==120):=⟨_,rfl⟩;refine se (iR2 H Bd C Fr z o ct (B z.length)) ⟨_,_,_,_,rfl,λb o z=> ?_,aC,?_⟩ (λj σ G _ h=>K1 h) ?_ ?_
  ·rw[aB (aF z hC),aB (aF z b4)]
   exact sH _ _ z
  ·rw[aB u,aC]
   rfl
  ·rintro j kk x b σ G2 a7 hb ⟨d,e,g,h,rfl,s2,c2,f2⟩
   obtain⟨t,n,R,rfl,rfl⟩:=xG a7;rw[lf]at hb;have tk:cS t:=ok.2 t (MZ.mpr ⟨_,Mw R,rfl⟩);have tl:=tk.len;obtain⟨fj,a6⟩:∃fj,fj=(ct.take j).foldl (kl (B z.length)) ct:=⟨_,rfl⟩;rw[<- a6]at f2;have d8:bX fj:=by
    rw[a6];refine ln (λc O=> ?_) ok λp hp=>ok.2 _ (MZ.mpr ⟨p,Pn hp,rfl⟩);rw[hB]at O;obtain⟨c',b2,rfl⟩:=MZ.mp O;have:=NC.mp (M6.mp b2).1;omega
   refine⟨_,rfl,z,rfl,by omega,(z.length:Int),rfl,by omega,by omega,?_⟩;rw[Nt];refine n8 (iR3 H Bd C Fr b z h o ct t n fj B) ⟨_,_,rfl,s2,c2,by rw[hB];exact f2,hb⟩ ?_ ?_
   ·rintro m σ G3 hm ⟨e,g,rfl,s3,c3,U,b3⟩
    have e6:z.cps.toList.length=z.length:=by rw[M5];rfl
    have Z:dI z.cps.toList (0+(m:Int))=some (z.cps.toList.getD m 0):=by
     rw[O6];exact bI (by rw[List.getD,Mf (by omega)];rfl)
    have Bs:B (m+1)=B m++(if z.cps.toList.getD m 0==120 then[(m:Int)]else[]):=by
     rw[hB];show jX _=jX _++_;rw[Og,OZ];unfold jX;rw[Ms,N0];cases z.cps.toList.getD m 0==120<;>rfl
    refine⟨_,rfl,_,rfl,z,_,_,rfl,rfl,by omega,Z,?_⟩;refine⟨rfl,_,rfl,Dt (λhx=> ?_) (λhx=> ?_)⟩
    ·have hx:(z.cps.toList.getD m 0==120)=true:=by
      have:=V.str.inj (M3 hx);have q:=gb (z.cps.toList.getD m 0);rw[Mj this]at q;exact q.symm
     rw[hx]at Bs;have a4:((t.map PV.int).any λy=>jW y (.int (0+(m:Int))))=t.contains (m:Int):=by
      rw[O6,List.any_map,NI,No,My]
      constructor
      ·rintro⟨c,O,e⟩
       have:c=(m:Int):=M3 e;rw[<- this];exact O
      ·intro O
       exact⟨_,O,Mj rfl⟩
     obtain⟨N,Y⟩:∃N,N=(B m).foldl (eA t n) fj:=⟨_,rfl⟩;have d4:bX N:=by
      rw[Y];refine iJ tk d8 λc O=> ?_;rw[hB]at O;obtain⟨c',b2,rfl⟩:=MZ.mp O;have:=NC.mp (M6.mp b2).1;omega
     have e7:(B (m+1)).foldl (eA t n) fj=eA t n N (m:Int):=by rw[Bs,OL,<-Y];rfl
     rw[<- Y]at U;refine⟨_,rfl,_,rfl,PV.int (0+(m:Int)),t.map PV.int,rfl,?_,Rp.int.mpr rfl,.inr (Rp.tup.mpr ⟨b,t.map V.int,rfl,bg.of b3,aI.ints.mpr rfl⟩),_,rfl,Dt (λhn=> ?_) (λhn=> ?_)⟩
     ·rw[Ps,Mm]
      exact λ_ _=>rfl
     ·rw[a4]at hn
      have hn:t.contains (m:Int)=false:=by simpa using hn
      refine⟨_,rfl,_,rfl,by show 1<=sizeLine;decide,λT1 a1=> ?_⟩;have nb:b≠T1:=aF b3 a1;refine⟨b,T1,t.map V.int,[.int (0+(m:Int))],rfl,rfl,bg.of (by rw[aB nb];exact b3),bg.of aC,by rw[MR,hs];show _+1<=_;omega,λP1 G4 s4 q4=> ?_⟩;refine⟨P1,t++[(m:Int)],rfl,by rw[Ms];rw[O6]at q4;exact q4,by rw[Ml];show _+1<64;omega,λL1 d9=> ?_⟩;refine⟨L1,_,rfl,.inl ⟨bR.of aC,λM1 d1=> ?_⟩⟩;obtain⟨G5,a9⟩:∃G5,G5=L2.upd (L2.upd G4 L1 (.lst ((sortI (t++[(m:Int)])).map V.int))) M1 (.tup ((sortI (t++[(m:Int)])).map V.int)):=⟨_,rfl⟩;have sm:aE G3 G5:=by
       rw[a9];exact(aJ a1 _).trans (s4.trans ((aJ d9 _).trans (aJ d1 _)))
      have hM:G5 M1=some (.tup (((eE t (m:Int)).map (Sum.inl:Int->L2.ak)).map kV)):=by
       rw[a9,lf];exact aC
      have c5:=sm _ _ c3;have f5:=sm _ _ U;have b5:=sm _ _ b3;have dC:eh G5 C (.ref b) (some (.int n)):=by
       have e:d6 (ba ct) (t.map Sum.inl)=some (.int n):=by rw[mF,sW ok.1 R];rfl
       rw[<- e];exact .inr ⟨ba ct,t.map Sum.inl,b,.inr ⟨o,c5⟩,rfl,by rw[lf];exact b5,rfl⟩
      obtain⟨l,J⟩:∃l,l=(ef N (eE t (m:Int))).getD 0:=⟨_,rfl⟩;have c0:(ba N).length<sizeLine:=by
       rw[iK,hs];have:=d4.few;omega
      rw[<- a9];refine⟨_,rfl,Fr,rfl,.inr ⟨_,.inl f5⟩,_,rfl,_,eh.t (k:=(eE t (m:Int)).map Sum.inl) f5 hM,?_⟩;refine⟨_,rfl,_,rfl,C,.int n,rfl,dC,l,n,?_,rfl,?_⟩
      ·rw[mF,J]
       cases ef N (eE t (m:Int))<;>rfl
      refine⟨_,rfl,_,rfl,Fr,_,rfl,tW.t (k:=(eE t (m:Int)).map Sum.inl) f5 hM c0,_,_,rfl,λb' o' w' => ?_,?_,?_,?_⟩
      ·rw[aB (aF w' b4)]
       exact sm _ _ (s3 _ _ w')
      ·rw[aB (Nv u)]
       exact c5
      ·rw[aC,e7]
       unfold eA;rw[MV (by rw[hn];simp),Bq];unfold vg;rw[J]
      ·rw[aB (A0 b5 f5 (λz=>nomatch z))]
       exact b5
     ·rw[a4]at hn
      have hn:t.contains (m:Int)=true:=by simpa using hn
      refine⟨_,_,rfl,s3,c3,?_,b3⟩;rw[e7];unfold eA;rw[MX hn];exact U
    ·have hx:(z.cps.toList.getD m 0==120)=false:=by
      cases hh:z.cps.toList.getD m 0==120 with
      |false=>rfl|true =>
       have q:=gb (z.cps.toList.getD m 0);rw[hh]at q;exact absurd (Mj (ND V.str (M3 q))) hx
     rw[hx]at Bs;refine⟨_,_,rfl,s3,c3,?_,b3⟩;rw[Bs,MV (by simp),NU];exact U
   ·rintro σ G3 ⟨e,g,rfl,s3,c3,U,b3⟩
    refine⟨_,_,_,_,rfl,s3,c3,?_⟩;rw[Oi,R,OL,<-a6];exact U
  ·rintro σ G2 ⟨d,e,g,h,rfl,s2,c2,f2⟩
   refine⟨C,o,ba ct,c2,nf,?_⟩;refine⟨_,rfl,Fr,_,_,_,_,_,_,rfl,λb' o' w' => ?_,b4,?_⟩
   ·rw[aB (aF w' hC)]
    exact s2 _ _ w'
   ·rw[aB u,f2,iK,Nx]
    have e9:kh (rows.take (i+1))=nr (jX (aH z)) ct:=by
     unfold kh;rw[Oi,ez];show fG (((rows.take i++[z]).map aH).map jX)=_;rw[Ms,Ms,Mg,N2,Mg,N2,gL,I];rfl
    rw[e9,hB];rfl
 ·rintro σ G ⟨C,a,b,c,d,e,g,rfl,sH,hC,gC⟩
  rw[MR,Nx]at gC;have ok:bX (kh rows):=by have:=c4 rows.length;rwa [Nx]at this
  obtain⟨ct,I⟩:∃ct,ct=kh rows:=⟨_,rfl⟩;rw[<- I]at gC ok;refine⟨by show 1<=sizeLine;decide,λL0 b8=> ?_⟩;refine⟨L0,10,[.int 0],rfl,rfl,aC,by decide,by decide,by rw[hs];decide,λT a2=> ?_⟩;have e2:T≠L0:=λz=>by rw[z,aC]at a2;cases a2
  have a0:G T=none:=by rw[aB e2]at a2;exact a2
  have S:H T=none:=sH.free a0;have u:T≠C:=λz=>by rw[z,gC]at a0;cases a0
  have d5:C≠L0:=aF gC b8;obtain⟨v,L⟩:∃v:Nat->List Int,v=λj=>(List.range 10).map λq=>wN (λt=>if t.length=q then 1 else 0) (ct.take j):=⟨_,rfl⟩;refine⟨_,rfl,C,ba ct,rfl,by rw[aB (Nv u),aB d5];exact gC,λo nf=> ?_⟩;refine se (iR4 H Bd C T o ct v) ⟨_,_,_,_,_,rfl,λb o z=> ?_,aC,?_⟩ (λj σ G _ h=>K0 h) ?_ ?_
  ·rw[aB (aF z hC),aB (aF z S),aB (aF z (sH.free b8))]
   exact sH _ _ z
  ·rw[aB u,aC,L]
   rfl
  ·rintro j kk x b' σ G2 a7 hb ⟨a,b,c,d,e,rfl,s2,c2,f2⟩
   obtain⟨t,n,R,rfl,rfl⟩:=xG a7;rw[lf]at hb;have tk:cS t:=ok.2 t (MZ.mpr ⟨_,Mw R,rfl⟩);have tl:=tk.len;have dC:eh G2 C (.ref b') (some (.int n)):=by
    have e:d6 (ba ct) (t.map Sum.inl)=some (.int n):=by rw[mF,sW ok.1 R];rfl
    rw[<- e];exact .inr ⟨ba ct,t.map Sum.inl,b',.inr ⟨o,c2⟩,rfl,by rw[lf];exact hb,rfl⟩
   obtain⟨l,J⟩:∃l,l=wN (λs=>if s.length=t.length then 1 else 0) (ct.take j):=⟨_,rfl⟩;have fl:(v j).length=10:=by rw[L];simp
   have Z:dI ((v j).map V.int) (((t.map V.int).length:Nat):Int)=some (.int l):=by
    refine bI ?_;rw[MR,Mi,L,Mi,NW (by omega),J];rfl
   refine⟨_,rfl,_,rfl,b',t.map V.int,rfl,.inr (bg.of hb),T,_,_,_,rfl,rfl,bR.of f2,Z,?_⟩;refine⟨_,rfl,_,rfl,C,.int n,rfl,dC,l,n,rfl,rfl,?_⟩;refine⟨_,rfl,_,rfl,b',t.map V.int,rfl,.inr (bg.of hb),T,_,_,t.length,rfl,rfl,f2,?_,?_⟩
   ·rw[MR,MR,fl]
    exact Ds (by omega)
   refine⟨_,_,_,_,_,rfl,λb o z=> ?_,?_,?_⟩
   ·rw[aB (aF z S)]
    exact s2 _ _ z
   ·rw[aB (Nv u)]
    exact c2
   ·rw[aC]
    have e9:v (j+1)=(v j).set t.length (l+n):=by
     rw[L];refine PZ λq=> ?_;rw[Ow,MR,NK,Mi,Mi]
     by_cases hq:q<10
     ·rw[NW hq]
      have e8:∀φ:List Int->Int,wN φ (ct.take (j+1))=wN φ (ct.take j)+n*φ t:=λφ=>by
       rw[Oi,R];unfold wN;rw[nP];show _+bN [(t,n)] _=_;rw[aQ,cB,Int.add_zero]
      show some (wN _ (ct.take (j+1)))=_;rw[e8]
      by_cases hh:t.length=q
      ·subst hh
       rw[MX rfl,MX hq,J];simp
      ·simp only[MV hh,Int.mul_zero,Int.add_zero]
       rfl
     ·rw[Nc (by simpa using hq)]
      rw[MV (by omega)];rfl
    rw[e9,List.map_set]
  ·rintro σ G2 ⟨a,b,c,d,e,rfl,s2,c2,f2⟩
   refine⟨C,o,ba ct,c2,nf,?_⟩;have fe:v (ba ct).length=gW ct:=by rw[L,iK];show(List.range 10).map _=_;rw[Nx];rfl
   rw[fe]at f2;have d0:d7 (gW ct)≠[]:=λz=>by
    have h0:wN (λt=>if t.length=0 then 1 else 0) ct=1:=by
     rw[I];exact(jJ (rows.map aH) (λr hr c O=>by
      obtain⟨z,hz,rfl⟩:=MZ.mp hr;have:=NC.mp (M6.mp O).1;have:=z2 z hz;omega) 0).trans (aV _ _)
    have:=ze _ z 1 (MZ.mpr ⟨0,by simp,h0⟩);cases this
   refine⟨iR5 H Bd C T ct,⟨_,_,_,_,_,_,gW ct,rfl,λb o z=> ?_,?_,rfl,rfl⟩,?_⟩
   ·rw[aB (aF z hC)]
    exact s2 _ _ z
   ·rw[aB u]
    exact f2
   ·rintro mm σ G3 ⟨a,b,c,d,e,xs,rfl,s3,U,tr,rfl⟩
    obtain⟨X,y,rfl⟩:∃X y,xs=X++[y]:=by
     rcases List.eq_nil_or_concat xs with z|⟨X,y,z⟩
     ·rw[z]at tr
      exact absurd (tr.symm.trans (show d7 []=[]from rfl)) d0
     ·exact⟨X,y,by rw[z,List.concat_eq_append]⟩
    have Z:dI ((X++[y]).map V.int) (-1)=some (.int y):=by
     have e:tY ((X++[y]).map V.int).length (-1)=some X.length:=by
      unfold tY;rw[MV (by decide),MX (by simp;omega)];simp;omega
     unfold dI;rw[e];simp
    refine⟨_,rfl,1,rfl,T,_,_,_,rfl,rfl,bR.of U,Z,?_⟩;refine⟨rfl,_,rfl,Dt (λhy=> ?_) (λhy=> ?_)⟩
    ·have hy:y=0:=V.int.inj (M3 hy)
     subst hy;rw[gI]at tr;refine⟨λb9 G' =>∃a b c d e,b9 =[some (.ref Bd),some (.ref C),a,b,c,d,e,some (.ref T)]/\aE H G' /\G' T=some (.lst (X.map V.int)),λb9 G' h=>by
      obtain⟨a,b,c,d,e,h1,M,h3⟩:=h;exact⟨X.length,by simp,a,b,c,d,e,X,h1,M,h3,tr,rfl⟩,?_⟩
     refine⟨_,rfl,.inl ⟨rfl,_,bR.of U⟩,T,_,.int 0,rfl,rfl,U,by simp,_,_,_,_,_,rfl,λb o z=> ?_,?_⟩
     ·rw[aB (aF z S)]
      exact s3 _ _ z
     ·rw[aC,Ms]
      simp
    ·have hy:y≠0:=λz=>hy (Mj (ND V.int z))
     rw[gJ X hy,I]at tr;refine⟨_,rfl,q _ _ s3 ?_⟩;rw[<- tr];exact Rp.lst.mpr ⟨T,_,rfl,λ_=>⟨S,U⟩,bR.of U,aI.ints.mpr rfl⟩
end
theorem kW(f:Nat->Int)(N:Nat)(a:∀i,i<N->0<f i)(b:∀i,N<=i->f i=0):∀M,N<=M->d7 ((List.range M).map f)=(List.range N).map f
 |0,h=>by
  have:N=0:=by omega
  subst this;rfl
 |M+1,h=>by
  rw[Og,Ms]
  by_cases e:N=M+1
  ·subst e
   have:=a M (by omega);rw[Mg,N2,gJ _ (by omega),Og,Ms];rfl
  ·rw[Mg,N2,b M (by omega),gI,kW f N a b M (by omega)]
theorem c64(k:Nat)(rows:List Str)(w:Nat)(m:Wd rows w)(h:rows.length<=8)(t:w<=8):aG P (k+1) 64 [.tup (rows.map .str)]=some (.lst ((uV (cE rows)).map .int)):=by
 have f:∀z∈rows,z.length<=8:=λz f=>by rw[m z f];exact t
 have l:dJ (rows.map aH):=λr y c g=>by
  obtain⟨z,d,rfl⟩:=MZ.mp y;have:=NC.mp (M6.mp g).1;have:=f z d;omega
 refine run rfl rfl ?_;have x:jp (rows.map PV.str)=some rows:=by
  clear m h f l
  induction rows with
  |nil=>rfl|cons z r u=>rw[Mg,jp,u];rfl
 have e:jq [.tup (rows.map .str)]=some (.lst ((uV (cE rows)).map .int)):=by
  unfold jq;dsimp only;rw[x,Ng];rw[MX ⟨h,by rw[Mm];intro z d;exact Mj (f z d)⟩]
  congr 3
  obtain⟨N,e,p,o⟩:=wE (cE rows) (mM rows h f);have i:N<=10:=by
   by_cases q:N<=10;exact q
   ·have a:=p 9 (by omega)
    have b:=kx (rows.map aH) 9 0 [];rw[jT,fR _ _ _ (by rw[MR];omega)]at b;rw[show rk 9 (cE rows)=0 from b]at a;omega
  have s:gW (kh rows)=(List.range 10).map λj=>rk j (cE rows):=by
   unfold gW;refine NV λj _=> ?_;have a:=jJ (rows.map aH) l j;have b:=kx (rows.map aH) j 0 [];rw[jT]at b;exact a.trans b.symm
  rw[s,e];exact kW _ N p o 10 i
 show dz (bx (aG P k) 1000000 JU.body (entry JU [.tup (rows.map .str)]))=_;simp only[JU,zH,zI,i9,ij,ii,iu,iz,ig,io,i7,i6,jA,i5,i8,iw,ik,ir,entry];have n:((List.map (λv=>TV.frz v (imm v)) [PV.tup (rows.map .str)]++List.replicate (8-[PV.tup (rows.map .str)].length) TV.un).take 1).map TV.valD=[.tup (rows.map .str)]:=rfl;rw[n,e];rfl
theorem c8(k:Nat)(i:Int):aG P (k+1) 8 [.int i]=some (.bl true):=by refine run rfl rfl ?_;simp only[d8,entry];walk_at "ev"
noncomputable def plain:PV->Bool
 | .non=>true| .int _=>true| .str _=>true
 | .lst xs=>plains xs| .tup xs=>plains xs|_=>false
where plains:List PV->Bool
 |[]=>true|x::xs=>plain x&&plains xs
noncomputable def depth:PV->Nat
 | .lst xs=>depths xs+1| .tup xs=>depths xs+1|_=>1
where depths:List PV->Nat
 |[]=>0|x::xs=>max (depth x) (depths xs)
theorem lC:∀{xs:List PV}{x:PV},plain.plains xs=true->x∈xs->plain x=true
 |[],_,_,h=>by cases h|y::ys,x,h,a=>by
  rw[plain.plains,MY]at h
  rcases Mh.mp a with rfl|a
  ·exact h.1
  ·exact lC h.2 a
theorem mG:∀{xs:List PV}{x:PV},x∈xs->depth x<=depth.depths xs
 |[],_,h=>by cases h|y::ys,x,a=>by
  rw[depth.depths]
  rcases Mh.mp a with rfl|a
  ·exact Nat.le_max_left _ _
  ·exact M8 (mG a) (Nat.le_max_right _ _)
theorem c10(k:Nat)(xs:List PV)(h:∀x∈xs,aG P k 9 [x,x]=some (.bl true)):aG P (k+1) 10 [.lst xs,.lst xs]=some (.bl true):=by
 refine cG rfl rfl ?_;simp only[d10,entry];walk_at "ev";refine dF (xs:=List.zipWith wM xs xs) (n:=false) ?_ (λi τ=>∃a b,τ=[.frz (.lst xs) false,.frz (.lst xs) false,a,b]) ⟨_,_,rfl⟩ ?_ ?_
 ·walk_at "ev"
  simp only[zL,A4,Pe,Of];rfl
 ·rintro i y τ c ⟨a,b,rfl⟩
  rw[Ob]at c;cases e:xs[i]? with
  |none=>rw[e]at c;cases c|some x =>
   rw[e]at c;cases c;refine⟨_,rfl,?_⟩;walk_at "ev";rw[h x (Mw e)];walk_at "ev";exact⟨_,_,rfl⟩
 ·rintro τ ⟨a,b,rfl⟩
  walk_at "ev"
theorem c9(n k:Nat)(v:PV)(d:depth v<=n)(c:plain v=true):aG P (2*n+k) 9 [v,v]=some (.bl true):=by
 induction n generalizing v with
 |zero =>
  cases v with
  |non=>(simp[depth]at d)|bl b=>cases c|int i=>(simp[depth]at d)|str z=>(simp[depth]at d)|lst xs=>(simp[depth]at d)|tup xs=>(simp[depth]at d)|dK _ _=>cases c|dT _ _=>cases c
 |succ n j =>
  have e:2*(n+1)+k=(2*n+k+1)+1:=by omega
  rw[e];have a:∀xs:List PV,depth.depths xs<=n->plain.plains xs=true->aG P (2*n+k+1) 10 [.lst xs,.lst xs]=some (.bl true):=λxs g h=>c10 _ xs λx f=>j x (M8 (mG f) g) (lC h f);refine run rfl rfl ?_;cases v with
  |non =>
   simp only[d9,entry];walk_at "ev"
  |bl b=>cases c|int i =>
   simp only[d9,entry];walk_at "ev";rw[c8];walk_at "ev"
  |str z =>
   simp only[d9,entry];walk_at "ev"
  |lst xs =>
   simp only[d9,entry];walk_at "ev";rw[a xs (by simpa [depth]using d) (by simpa [plain]using c)];walk_at "ev"
  |tup xs =>
   simp only[d9,entry];walk_at "ev";rw[a xs (by simpa [depth]using d) (by simpa [plain]using c)];walk_at "ev"
  |dK _ _=>cases c|dT _ _=>cases c
def tT(z:Str)(n:Nat):Prop:=z.length=n/\∀c∈z.cps.toList,c=120\/c=46
theorem tT.more(h:tT z n)(b:y=("x":Str)\/y=(".":Str)):tT (z++y) (n+1):=by
 refine⟨?_,λc a=> ?_⟩
 ·rw[PySem.Str.length_append,h.1]
  rcases b with rfl|rfl<;>rfl
 ·rw[PySem.Str.cps_append,Array.toList_append,M7]at a
  rcases a with a|a
  ·exact h.2 c a
  ·rcases b with rfl|rfl
   ·have:c∈[120]:=a
    simp at this;exact .inl this
   ·have:c∈[46]:=a
    simp at this;exact .inr this
noncomputable def pick(b:Bool):Str:=if b then "x" else "."
theorem DO(b:Bool):dI [PV.str ".",PV.str "x"] (if b then 1 else 0)=some (.str (pick b)):=by cases b<;>rfl
theorem AZ(b:Bool):(pick b).length=1:=by cases b<;>rfl
theorem yG(b:Bool):pick b=("x":Str)\/pick b=(".":Str):=by cases b;exact .inr rfl;exact .inl rfl
theorem GZ{j:Int}(h0:0<=j)(b:j<=100):(0:Int)<1*2^j.toNat/\(1:Int)*2^j.toNat<2^200:=by
 have c:(0:Int)<2^j.toNat:=Int.pow_pos (by decide);refine⟨by omega,?_⟩;have a:(2:Nat)^j.toNat<2^200:=Nat.pow_lt_pow_right (by decide) (by omega);rw[Int.one_mul]
 exact_mod_cast a
abbrev bI1(x c R C f:Int)(m i:Nat)(τ:En):Prop:=∃(rs:List Str)(a b d e g:TV),τ=[.frz (.int x) true,.frz (.int c) true,.frz (.int m) true,.frz (.int R) true,.frz (.int C) true,.frz (.int f) true,.own (rs.map .str) true,a,b,d,e,g]/\rs.length=i/\∀r∈rs,tT r C.toNat
abbrev bI2(x c R C a:Int)(m:Nat)(rs:List Str)(i:Int)(j:Nat)(τ:En):Prop:=∃(z:Str)(d e g:TV),τ=[.frz (.int x) true,.frz (.int c) true,.frz (.int m) true,.frz (.int R) true,.frz (.int C) true,.frz (.int a) true,.own (rs.map .str) true,.frz (.int i) true,.frz (.str z) true,d,e,g]/\tT z j
theorem c62(k:Nat)(x c:Int)(m:Nat)(N:1<=m)(O:m<=8):∃v,aG P (k+2) 62 [.int x,.int c,.int m]=some v/\∃rows:List Str,UM.MO m rows/\v=.tup (rows.map .str):=by
 have X:0<=x%(m:Int):=Int.emod_nonneg _ (by omega);have W:x%(m:Int)<m:=P2 _ (by omega);have Z:0<=x/8%(m:Int):=Int.emod_nonneg _ (by omega);have U:x/8%(m:Int)<m:=P2 _ (by omega);have M:(0:Int)<m:=by omega
 refine FK rfl rfl ?_;simp only[d62,entry];walk_at "go";obtain⟨R,G⟩:∃R,R=1+x%(m:Int):=⟨_,rfl⟩;obtain⟨C,J⟩:∃C,C=1+x/8%(m:Int):=⟨_,rfl⟩;obtain⟨p,H⟩:∃p,p=1+x/64%8:=⟨_,rfl⟩;rw[<- G,<-J,<-H];refine dF (xs:=(List.range R.toNat).map λi=>.int (0+(i:Nat))) (n:=true) ?_ (bI1 x c R C p m) ?_ ?_ ?_
 ·walk_at "ev"
  simp only[kC,cN];rw[MX ⟨by omega,by omega⟩];rfl
 ·exact⟨[],.un,.un,.un,.un,.un,rfl,rfl,λr o=>by cases o⟩
 ·rintro i y τ B ⟨rs,a,b,d,e,g,rfl,t,l⟩
  obtain⟨Y,rfl⟩:=cy B;refine⟨_,rfl,?_⟩;walk_at "ev";refine dF (xs:=(List.range C.toNat).map λi=>.int (0+(i:Nat))) (n:=true) ?_ (bI2 x c R C p m rs i) ?_ ?_ ?_
  ·walk_at "ev"
   simp only[kC,cN];rw[MX ⟨by omega,by omega⟩];rfl
  ·exact⟨_,d,e,g,rfl,rfl,λc F=>by cases F⟩
  ·rintro j y τ B ⟨z,d,e,g,rfl,u⟩
   obtain⟨T,rfl⟩:=cy B;refine⟨_,rfl,?_⟩;have D:0<=C*(i:Int)+(j:Int)/\C*(i:Int)+(j:Int)<=100:=by
    have V:(0:Int)<=C*(i:Int):=Int.mul_nonneg (by omega) (by omega);have Q:C*(i:Int)<=8*8:=Int.mul_le_mul (by omega) (by omega) (by omega) (by omega);omega
   have I:=u.1;have w:∀b,z.length+(pick b).length<=LN:=λb=>by rw[AZ];show z.length+1<=16777216;omega
   have L:=GZ D.1 D.2;walk_at "go"
   have s:∀(b:Bool)(τ:En),τ=[.frz (.int x) true,.frz (.int c) true,.frz (.int m) true,.frz (.int R) true,.frz (.int C) true,.frz (.int p) true,.own (rs.map .str) true,.frz (.int i) true,.frz (.str z) true,.frz (.int j) true,.frz (.int (C*(i:Int)+(j:Int))) true,.frz (.bl b) true] -> To (bx (aG P (k+1)) 1000000 (.cons (.asg 8 false [] (.bin .Add (.var 8) (.ix (.lst (.cons (.con (.str ".")) (.cons (.con (.str "x")) .nil))) (.bf .int (.cons (.var 11) .nil))))) .nil) τ) λf=>match f with
      | .nx A=>bI2 x c R C p m rs i (j+1) A|_=>False:=by
    rintro b τ rfl;have:=w b;walk_at "go";rw[DO];walk_at "go";exact⟨_,_,_,_,rfl,u.more (yG b)⟩
   split
   ·obtain⟨q,b1,S,E⟩:=c5 k c (C*(i:Int)+(j:Int)) D.1 (by omega)
    walk_at "ev";rw[E];walk_at "go";refine(s _ _ rfl).imp λf h=> ?_;cases f<;>first|exact h|exact h.elim
   ·walk_at "ev"
    refine(s _ _ rfl).imp λf h=> ?_;cases f<;>first|exact h|exact h.elim
  ·rintro τ ⟨z,d,e,g,rfl,u⟩
   rw[kM]at u;walk_at "ev";rw[gy rfl (by rw[MR];show rs.length<16777216;omega)];walk_at "ev";refine⟨rs++[z],_,_,_,_,_,by rw[Ms];rfl,by rw[Ml,t];rfl,λr o=> ?_⟩
   rcases M7.mp o with h|h
   ·exact l r h
   ·have K :r=z:=by simpa using h
    rw[K];exact u
 ·rintro τ ⟨rs,a,b,d,e,g,rfl,t,l⟩
  rw[kM]at t;walk_at "ev";refine⟨_,rfl,rs,⟨?_,by omega,⟨C.toNat,by omega,by omega,λr o=>(l r o).1⟩,λr o=>(l r o).2⟩,rfl⟩;intro z;rw[z]at t;simp at t;omega
section
open PySem.Spec PyProof.Rows
noncomputable abbrev lB:List Str:=["choices","holders","row","tried"]
theorem J8:aP N110 lB (aA qz):=⟨rfl,rfl,rfl,by decide +kernel,rfl,by decide +kernel,by decide +kernel⟩
noncomputable def iL(T:List Int):List (L2.ak×V):=T.map λc=>(Sum.inl c,V.bl true)
theorem Bu(T:List Int)(c:Int):(d6 (iL T) (Sum.inl c)).isSome=T.contains c:=by
 unfold d6 iL
 induction T with
 |nil=>rfl|cons d T a =>
  rw[Mg,Nh,Oa]
  by_cases e:d=c;simp[e]
  ·have f :¬((Sum.inl d:L2.ak)=Sum.inl c):=λz=>e (Sum.inl.inj z)
   have b:(c==d)=false:=by simpa using λz:c=d=>e z.symm
   simp only[f,O3,b,Bool.false_or];exact a
section
variable{n:Nat}{rec:ac->Int->List Int->Bool×ac×List Int}{row c r:Int}{cs:List Int}{H H' :ac}{T T' :List Int}
theorem Fz(h:T.contains c=true):gk rec row (c::cs) H T=gk rec row cs H T:=by show(if T.contains c=true then _ else _)=_;rw[MX h]
theorem zm(h:T.contains c=false)(e:bC H c=none):gk rec row (c::cs) H T=(true,cZ H c row,T++[c]):=by unfold gk;rw[MV (by rw[h];exact Mc),e]
theorem Cs(h:T.contains c=false)(e:bC H c=some r)(k:rec H r (T++[c])=(true,H',T')):gk rec row (c::cs) H T=(true,cZ H' c row,T'):=by unfold gk;rw[MV (by rw[h];exact Mc),e];dsimp only;rw[k]
theorem zk(h:T.contains c=false)(e:bC H c=some r)(k:rec H r (T++[c])=(false,H',T')):gk rec row (c::cs) H T=gk rec row cs H' T' :=by show(if T.contains c=true then _ else _)=_;rw[MV (by rw[h];exact Mc),e];dsimp only;rw[k]
set_option tactic.hygienic true in
theorem oh(a:∀H r T,(rec H r T).2.1.length<=H.length+n):∀{cs:List Int}{H:ac}{T:List Int},(∀H r T h i,rec H r T=(false,h,i)->h =H)->(gk rec row cs H T).2.1.length<=H.length+(n+1)
 |[],H,T,_=>by show H.length<=_;omega|c::cs,H,T,hf=>by
  unfold gk
  split;exact oh a hf
  ·split
   ·have:=kz H c row
    dsimp only;omega
   ·rename_i r e
    have d:=a H r (T++[c]);cases f:rec H r (T++[c])with
    |mk b w =>
     obtain⟨g,k⟩:=w;rw[f]at d;dsimp only at d;cases b with
     |true =>
      have:=kz g c row;dsimp only;omega
     |false =>
      have j:=hf H r (T++[c]) g k f;subst j;exact oh a hf
theorem uA{C:List (List Int)}:∀{n:Nat}{H:ac}{row:Int}{T:List Int},(tk C n H row T).2.1.length<=H.length+n
 |0,H,row,T=>Md _|n+1,H,row,T=>oh (λH r T=>uA) (λH r T b a h=>gj h)
theorem tk8(f:T.Nodup)(d:∀c∈T,0<=c/\c<8):T.length<=8:=jN (U:=[0,1,2,3,4,5,6,7]) f λx e=>by
 obtain⟨a,b⟩:=d x e;simp only[Mh];omega
end
theorem Br(h:T.contains c=false):cz (iL T) (Sum.inl c) (V.bl true)=iL (T++[c]):=by
 unfold cz;rw[MV]
 ·unfold iL
  rw[Ms];rfl
 ·intro z
  rw[No]at z;obtain⟨q,a,e⟩:=z;unfold iL at a;obtain⟨d,b,rfl⟩:=MZ.mp a;have e:(Sum.inl d:L2.ak)=Sum.inl c:=M3 e;have:=Sum.inl.inj e;subst this;rw[My.mpr b]at h;cases h
def cV(a b:Addr)(H c :Hp):Prop:=∀x o,x≠a->x≠b->H x=some o->c x=some o
theorem cV.trans(s:cV a b H c)(t:cV a b c d):cV a b H d:=λx o n m e=>t x o n m (s x o n m e)
theorem cV.refl:cV a b H H:=λ_ _ _ _ e=>e
def Lo(K:W.Frag)(a b:Addr)(H:Hp)(p:Addr)(xs:List V):Prop:=∀c,cV a b H c ->bR K c p xs
theorem Lo.to{K:W.Frag}(s:cV a b H c)(h:Lo K a b H p xs):Lo K a b c p xs:=λe d=>h e (s.trans d)
def Ey(K:W.Frag)(H:Hp)(a b:Addr)(d:List V)(C:List (List Int)):Prop:=d.length=C.length/\∀(i:Nat)(c:List Int),C[i]? =some c->∃p,d[i]? =some (.ref p)/\Lo K a b H p (c.map V.int)
theorem Ey.to{K:W.Frag}(s:cV a b H d)(h:Ey K H a b c C):Ey K d a b c C := ⟨h.1,λi g e=>by obtain⟨p,f,j⟩:=h.2 i g e;exact⟨p,f,j.to s⟩⟩
def spT(K:W.Frag)(n:Nat):Sp:=λvs H Q _=>∃(g b a:Addr)(f:List V)(C:List (List Int))(d:ac)(row:Int)(T:List Int),vs=[.ref g,.ref b,.int row,.ref a]/\Lo K b a H g f/\Ey K H b a f C/\H b=some (.dK (bE d))/\H a=some (.dK (iL T)) /\ b≠a/\(0<=row/\row<C.length)/\C.length<=8/\(∀h∈C,h.length<=100)/\(∀r,∀c∈gi C r,0<=c/\c<8)/\(∀q∈d,0<=q.2/\q.2<C.length)/\d.length+n<=1000/\T.Nodup/\(∀c∈T,0<=c/\c<8)/\8<n+1+T.length /\ ∀e,cV b a H e ->e b=some (.dK (bE (tk C (n+1) d row T).2.1))->e a=some (.dK (iL (tk C (n+1) d row T).2.2))->Q (.bl (tk C (n+1) d row T).1) e
noncomputable def J5(K:W.Frag):Nat->Sp
 |0=>λ_ _ _ _=>False|n+1=>spT K n
theorem Ap{K:W.Frag}(D:Fc K mg "takes_column" qz lB f fd)(n:Nat)(F:bt p w K mg base kJ n f fd lB (J5 K n)):bt p w K mg base kJ (n+1) f fd lB (spT K n):=by
 refine D.fn.ok J8 (λvs H Q E h=> ?_) (λc0 A a' s0 H vs Q E hr h=> ?_)
 ·obtain⟨p0,l,m,us,C,j,row,T,rfl,_⟩:=h
  rfl
 obtain⟨p0,l,m,us,C,j,row,T,rfl,a3,ca,b9,a8,n3,b',c8,cl,cc,hh,hz,a9,b6,hn,q⟩:=h;have nd:=J8.nd;have Z:=BR hr;have hs:sizeLine=16777216:=Np
 refine⟨_,am (dw Nk rfl (fi (nY eS (pv 0) (pv 2) (λ_ _=>rfl))) (aw (i:=4) nd rfl (Or.inl rfl)) (az (rN (AS (nZ Z (pv 4) (pv 3))) (am (kN Z (pv 3) (pv 4) wL rfl) (az (rN (PW.pt (FM (AS (nZ Z (pv 4) (pv 1))) (AL (GV (pC F hr rfl D.nm D.fn.kp D.bd .nil Aj (aL (pv 0) (aL (pv 1) (aL (pB Z (pv 1) (pv 4) (λ_ _=>rfl)) (aL (pv 3) ag))))))))) (am (kN Z (pv 1) (pv 4) (pv 2) rfl) (az (jK wL))) g0))) g0))) (az (jK wL)),?_⟩
 obtain⟨cs,a6⟩:∃cs,C[row.toNat]? =some cs:=⟨_,Mf (by omega)⟩;have a7:gi C row=cs:=by unfold gi;rw[Me,a6];rfl
 obtain⟨pr,b4,a4⟩:=ca.2 _ _ a6;have b7:dI us row=some (.ref pr):=by
  have:=bI b4;rw[show((row.toNat:Nat):Int)=row by omega]at this;exact this
 refine⟨_,rfl,_,rfl,p0,us,_,.ref pr,rfl,rfl,a3 _ cV.refl,b7,?_⟩;have b5:tk C (n+1) j row T=gk (tk C n) row cs j T:=by
  show gk (tk C n) row (gi C row) j T=_;rw[a7]
 rw[b5]at q;have b2:∀c∈cs,0<=c/\c<8:=λc hc=>cc row c (by rw[a7];exact hc);refine⟨pr,rfl,⟨_,a4 _ cV.refl⟩,sd (xs:=cs.map V.int) (λi σ G=>∃g a,gk (tk C n) row cs j T=gk (tk C n) row (cs.drop i) j g/\g.Nodup/\(∀c∈g,0<=c/\c<8)/\T.length<=g.length/\cV l m H G/\G l=some (.dK (bE j))/\G m=some (.dK (iL g))/\σ=[some (.ref p0),some (.ref l),some (.int row),some (.ref m),a]) ⟨T,none,rfl,a9,b6,Md _,cV.refl,b9,a8,rfl⟩ ?_ ?_ ?_⟩
 ·rintro i σ G _ ⟨g,a,_,_,_,_,Y,_,_,_⟩
  exact a4 _ Y
 ·rintro i x σ G B ⟨g,a,S,v,I,U,Y,gh,gt,rfl⟩
  obtain⟨c,a0,rfl⟩:∃c,cs[i]? =some c/\x=.int c:=by
   rw[Mi]at B;cases e:cs[i]? with
   |none=>rw[e]at B;cases B|some c=>rw[e]at B;cases B;exact⟨c,rfl,rfl⟩
  have X:cs.drop i=c::cs.drop (i+1):=by
   obtain⟨z1,z2⟩:=Mk.mp a0;rw[OB z1,z2]
  obtain⟨b0,b8⟩:=b2 c (Mw a0);refine⟨_,rfl,_,rfl,m,_,rfl,eh.k (k:=Sum.inl c) gt,?_⟩;refine⟨_,rfl,?_⟩;rw[Bu];cases R:g.contains c with
  |true =>
   refine pK ?_;refine⟨g,_,?_,v,I,U,Y,gh,gt,rfl⟩;rw[S,X,Fz R]
  |false =>
   refine mw ?_;have tl:g.length<=8:=tk8 v I;refine⟨_,rfl,_,rfl,m,_,rfl,.inl ⟨_,Sum.inl c,gt,rfl,by unfold iL;rw[MR,hs];omega,rfl⟩,?_⟩;rw[Br R];obtain⟨G1,J⟩:∃G1,G1=L2.upd G m (.dK (iL (g++[c]))):=⟨_,rfl⟩;rw[<- J];have a5:G1 m=some (.dK (iL (g++[c]))):=by rw[J,aC]
   have L:G1 l=some (.dK (bE j)):=by rw[J,aB n3];exact gh
   have u:cV l m H G1:=λx o M N e=>by rw[J,aB N];exact Y x o M N e
   refine⟨_,rfl,_,rfl,l,_,rfl,eh.k (k:=Sum.inl c) L,?_⟩;rw[pq];cases hg:bC j c with
   |none =>
    refine⟨_,rfl,mw ?_⟩;refine mw ?_;refine⟨_,rfl,_,rfl,_,rfl,l,_,rfl,.inl ⟨_,Sum.inl c,L,rfl,by unfold bE;rw[MR,hs];omega,rfl⟩,?_⟩;rw[pk];have e1:gk (tk C n) row cs j T=(true,cZ j c row,g++[c]):=by rw[S,X,zm R hg]
    rw[e1]at q;exact q _ (λx o M N e=>by rw[aB M];exact u x o M N e) aC (by rw[aB (Nv n3)];exact a5)
   |some r =>
    refine⟨_,rfl,pK ?_⟩;obtain⟨r0,r1⟩:=hh _ (iH hg);have P:(g++[c]).Nodup:=by
     rw[Na];refine⟨v,by simp,λa ha x B z=> ?_⟩;rw[NA]at B;subst B z;rw[My.mpr ha]at R;cases R
    have O:∀d∈g++[c],0<=d/\d<8:=λd X=>by
     rcases M7.mp X with z|z
     ·exact I d z
     ·rw[NA.mp z]
      exact⟨b0,b8⟩
    have b3:=tk8 P O;rw[Ml,OE]at b3;cases n with
    |zero=>omega|succ n =>
    refine⟨_,rfl,_,rfl,_,rfl,_,rfl,l,.int r,rfl,?_,?_⟩
    ·have:=eh.k (k:=Sum.inl c) L
     rw[pq,hg]at this;exact this
    ·refine⟨_,rfl,?_⟩
     refine⟨p0,l,m,us,C,j,r,g++[c],rfl,a3.to u,ca.to u,L,a5,n3,⟨r0,r1⟩,c8,cl,cc,hh,by omega,P,O,by rw[Ml,OE];omega,λG2 s2 s y=> ?_⟩;have t:=uA (C:=C) (n:=n+1) (H:=j) (row:=r) (T:=g++[c]);cases hw:tk C (n+1) j r (g++[c])with
     |mk b w =>
      obtain⟨H2,T2⟩:=w;rw[hw]at s y t;have s:G2 l=some (.dK (bE H2)):=s;have y:G2 m=some (.dK (iL T2)):=y;have t:H2.length<=j.length+(n+1):=t;refine⟨b,rfl,?_⟩;cases b with
      |true =>
       refine mw ?_;refine⟨_,rfl,_,rfl,_,rfl,l,_,rfl,.inl ⟨_,Sum.inl c,s,rfl,by unfold bE;rw[MR,hs];omega,rfl⟩,?_⟩;rw[pk];have e1:gk (tk C (n+1)) row cs j T=(true,cZ H2 c row,T2):=by rw[S,X,Cs R hg hw]
       rw[e1]at q;exact q _ (λx o M N e=>by rw[aB M];exact s2 x o M N (u x o M N e)) aC (by rw[aB (Nv n3)];exact y)
      |false =>
       refine pK ?_;have e2:=gj hw;subst e2;obtain⟨_,j2,j3,j4,_,_⟩:=zj cc P O (by rw[Ml,OE];omega) hw;refine⟨T2,_,?_,j3,j4,?_,u.trans s2,s,y,rfl⟩
       ·rw[S,X,zk R hg hw]
       ·exact M8 U (jN v λx B=>j2 (M9 _ B))
 ·rintro σ G ⟨g,a,S,v,I,U,Y,gh,gt,rfl⟩
  rw[MR,Pd]at S;rw[S]at q;exact q G Y gh gt
theorem oW{K:W.Frag}{b:Str->Option Value}{p:Program}{w:World}{base:Heap}{f:Addr}{c:FuncData}(D:Fc K b "takes_column" qz lB f c):∀n,bt p w K b base kJ n f c lB (J5 K n)
 |0=>⟨λvs H Q E h=>h.elim,λA a s H args d vs Q E _ _ _ _ h=>h.elim⟩|n+1=>Ap D n (oW D n)
end
section
open PySem.Spec PyProof.Rows
theorem KA:aP N111 ["choices"] (aA yD):=⟨rfl,rfl,rfl,by decide +kernel,rfl,by decide +kernel,by decide +kernel⟩
theorem lv11(h:aG P k 20011 [.non]=some v):12<=k:=by
 by_cases a:12<=k;exact a
 ·have:k=0\/k=1\/k=2\/k=3\/k=4\/k=5\/k=6\/k=7\/k=8\/k=9\/k=10\/k=11:=by omega
  have e:∀k,k<12->(aG P k 20011 [.non]).isNone=true:=by decide +kernel
  have:=e k (by omega);rw[h]at this;cases this
set_option tactic.hygienic true in
theorem sR(h:aG P (k+1) 111 vs=some r):12<=k/\∃C,vs=[.lst (xO C)]/\ga C=true/\r=gN (hd C C.length):=by
 rw[vX]at h;have g:P 111=some EK:=rfl;rw[g,Ng]at h
 split at h
 case isFalse=>cases h
 rename_i b;have b:vs.length=1:=b
 match vs,b with
 |[v],_ =>
  simp only[EK,zH,zI,i9,ij,ii,iu,iz,ig,io,i7,i6,jA,i5,i8,iw,ik,ir,dZ,dL,dg,dP,dc,de,di,dm,dO,dX,df,dh,dQ,dM,dr,dY,dW,dN,dU,dS,dR,dq,Cg,Ch,entry,Ng,Of,Mg,N2,cN]at h;cases f:aG P k 20011 [.non]with
  |none=>rw[f]at h;cases h|some x =>
   rw[f]at h;refine⟨lv11 f,?_⟩;simp only[Of,Ng,oj]at h;have e:(([TV.frz v (imm v)]++List.replicate (3-[v].length) TV.un).take 1).map TV.valD=[v]:=rfl;rw[e]at h;cases a:sS [v]with
   |none=>rw[a]at h;cases h|some i =>
    rw[a]at h;have h:some i =some r:=h;cases h;unfold sS at a
    split at a
    case h_2=>cases a
    rename_i cs d;cases d;cases c:j7 cs with
    |none=>rw[c]at a;cases a|some C =>
     rw[c]at a;simp only[Ng]at a
     split at a
     ·rename_i j
      cases a;exact⟨C,by rw[oH c],j,rfl⟩
     ·cases a
theorem FY{K:W.Frag}{Hi:Hp}{n:Bool}{H:Hp}:∀{C:List (List Int)}{d:List V},aI K Hi n (xO C) H d->d.length=C.length/\∀(i:Nat)(f:List Int),C[i]? =some f->∃p,d[i]? =some (.ref p)/\bR K H p (f.map V.int)
 |[],d,h=>by
  have h:aI K Hi n [] H d:=h;obtain rfl:=h;exact⟨rfl,λi f e=>by simp at e⟩
 |c::C,d,h=>by
  have h:aI K Hi n (.lst (c.map .int)::xO C) H d:=h;obtain⟨u,r,rfl,a,b⟩:=h;obtain⟨o,q⟩:=FY b;refine⟨by rw[Ma,Ma,o],λi f e=> ?_⟩;cases i with
  |zero =>
   have e:c=f:=by simpa using e
   subst e;obtain⟨p,g,rfl,_,l,j⟩:=Rp.lst.mp a;have:=aI.ints.mp j;subst this;exact⟨p,rfl,l⟩
  |succ i =>
   obtain⟨p,k,m⟩:=q i f (by simpa using e);exact⟨p,by simpa using k,m⟩
theorem uz{C:List (List Int)}:∀k:Nat,(hd C k).length<=9*k
 |0=>Md _|k+1=>by
  have b:=uz (C:=C) k;have a:=uA (C:=C) (n:=9) (H:=hd C k) (row:=(k:Nat)) (T:=[]);show(tk C 9 (hd C k) (k:Nat) []).2.1.length<=_;omega
theorem D1{K:W.Frag}(a0:v "len"=none)(a4:v "range"=none)(T:Fc K v "takes_column" qz lB fc Y)(D:Fc K v "holders_of" yD ["choices"] f fd)(p:Program)(w:World)(base:Heap)(k:Nat)
  (_:∀y g,F.lookup y=some g->∃b gd qs,v y=some (.ref b)/\W.keepIn K (.ref b)=true/\Binds K gd qs []/\bt p w K v base kJ k b gd qs (yA K (aG P k g))):bt p w K v base kJ (k+1) f fd ["choices"] (yA K (aG P (k+1) 111)):=by
 refine D.fn.ok KA (λvs H Q E h=> ?_) (λa5 A Z s H vs Q E hr h=> ?_)
 ·obtain⟨a2,r,I,h2,_⟩:=h
  rw[<- I.len];obtain⟨_,C,e,_⟩:=sR h2;rw[e];rfl
 obtain⟨a2,r,I,h2,q⟩:=h;obtain⟨hk,C,rfl,hg,rfl⟩:=sR h2;obtain⟨c8,cl,cc⟩:=vT hg;have FC:=(oW (p:=p) (w:=w) (base:=base) T 9).mono (k:=k) (by omega);have nd:=KA.nd;have hs:sizeLine=16777216:=Np;obtain⟨u1,_,rfl,r1,I⟩:=I;obtain rfl:=I;obtain⟨p0,S,rfl,_,M,rl⟩:=Rp.lst.mp r1;obtain⟨ul,ua⟩:=FY (rl.mono be)
 refine⟨_,am (dv (i:=1) nd rfl (Or.inl rfl) hU) (am (dw Nk rfl (jM rfl a4 (aL (bi cF rfl a0 OX (aL (pv 0) ag)) ag)) (aw (i:=2) nd rfl (Or.inl rfl)) (az (o9 (pC FC hr rfl T.nm T.fn.kp T.bd .nil Aj (aL (pv 0) (aL (pv 1) (aL (pv 2) (aL hU ag)))))))) (az (jK (pv 1)))),?_⟩
 intro B u;obtain⟨U,m⟩:∃U,U=L2.upd H B (.dK []):=⟨_,rfl⟩;have s1:aE H U:=by rw[m];exact aJ u _
 have X:U B=some (.dK (bE (hd C 0))):=by rw[m,aC];rfl
 rw[<- m];refine⟨_,rfl,p0,S,rfl,.inl (s1.seq M),((S.length:Nat):Int),rfl,by omega,by rw[ul];omega,?_⟩;refine n8 (lo:=0) (n:=((S.length:Nat):Int).toNat) (λi σ G=>∃a,σ=[some (.ref p0),some (.ref B),a]/\aE H G/\G B=some (.dK (bE (hd C i)))) ⟨_,rfl,s1,X⟩ ?_ ?_
 ·rintro i σ G hi ⟨a,rfl,V,R⟩
  have hi:i<C.length:=by rw[<- ul];simpa using hi
  have e0:((0:Int)+(i:Nat))=((i:Nat):Int):=by omega
  rw[e0];refine⟨_,rfl,_,rfl,_,rfl,λL d=> ?_⟩;obtain⟨O,t⟩:∃O,O=L2.upd G L (.dK []):=⟨_,rfl⟩;have N:aE G O:=by rw[t];exact aJ d _
  have a1:O L=some (.dK (iL [])):=by rw[t,aC];rfl
  have a3:H L=none:=V.free d;have nn:B≠L:=λz=>by rw[<- z,R]at d;cases d
  rw[<- t];have key:∀l,cV B L O l ->aE H l :=λl J x o e=>J x o (λz=>by rw[z,u]at e;cases e) (λz=>by rw[z,a3]at e;cases e) (N _ _ (V _ _ e));have ok:=BU cc i;have hl:=uz (C:=C) i;refine⟨p0,B,L,S,C,hd C i,(i:Nat),[],rfl,λl J=>(key l J).seq M,⟨ul,λj ns e=> ?_⟩,N _ _ R,a1,nn,⟨by omega,by omega⟩,c8,cl,cc,λx hx=> ?_,(show(hd C i).length+8<=1000 by omega),.nil,(λc hc=>nomatch hc),(by decide),λl J e1 e2=> ?_⟩
  ·obtain⟨pj,w1,w2⟩:=ua j ns e
   exact⟨pj,w1,λl J=>(key l J).seq w2⟩
  ·have:=ok.rows _ (MZ.mpr ⟨x,hx,rfl⟩)
   omega
  ·exact⟨_,rfl,key l J,e1⟩
 ·rintro σ G ⟨a,rfl,V,R⟩
  have e:((S.length:Nat):Int).toNat=C.length:=by omega
  rw[e]at R;exact⟨_,rfl,q _ _ V (nT u R)⟩
end
theorem c111(k:Nat)(C:List (List Int))(c:ga C=true):aG P (k+13) 111 [.lst (xO C)]=some (gN (hd C C.length)):=by
 refine run rfl rfl ?_;have a:aG P (k+12) 20011 [.non]=some .non:=rfl;have b:sS [.lst (xO C)]=some (gN (hd C C.length)):=by
  unfold sS;dsimp only;rw[oI];simp only[Ng];rw[MX c]
 simp only[EK,zH,zI,i9,ij,ii,iu,iz,ig,io,i7,i6,jA,i5,i8,iw,ik,ir,dZ,dL,dg,dP,dc,de,di,dm,dO,dX,df,dh,dQ,dM,dr,dY,dW,dN,dU,dS,dR,dq,Cg,Ch,entry,Ng,Of,Mg,N2,cN,sc];rw[a];simp only[Of,Ng,oj];have e:(([TV.frz (PV.lst (xO C)) (imm (PV.lst (xO C)))]++List.replicate (3-[PV.lst (xO C)].length) TV.un).take 1).map TV.valD=[.lst (xO C)]:=rfl;rw[e,b];rfl
theorem Ax(x:Int)(l:List Int):ar .NotIn (.int x) (.lst (l.map .int))=some (!l.contains x):=by
 show(wq _ _).map _=_;unfold wq;rw[MX ⟨rfl,by rw[Ps,Mm];intro y _;rfl⟩,Of,List.any_map]
 congr 2
 rw[NI,No,My]
 constructor
 ·rintro⟨y,a,e⟩
  have e:decide (y=x)=true:=e;rw[<- M3 e];exact a
 ·intro a
  exact⟨x,a,by show decide (x=x)=true;exact Mj rfl⟩
theorem vD(z:Str):List.zipWith fJ (List.range z.length) (signs z)=(List.range z.length).map λc=>fJ c (.str ⟨#[z.cps.toList.getD c 0]⟩):=by
 refine List.ext_getElem (by rw[Oo,cH,MR,Nat.min_eq_left (by rw[NK];exact Md _)]) λi e b=> ?_;have d:i<z.length:=by simpa using b
 have a:i<z.cps.toList.length:=by rw[M5];exact d
 rw[List.getElem_zipWith,O5,List.getElem_range]
 congr 1
 unfold signs;rw[O5,Me,Mf a];rfl
theorem c109(k:Nat)(z:Str)(b:z.length<=8):aG P (k+1) 109 [.str z]=some (.lst ((aH z).map λc=>.int (c:Nat))):=by
 refine cG rfl rfl ?_;simp only[Ih,entry];walk_at "ev";rw[show oD (.frz (.str z) true)=some (List.zipWith fJ (List.range z.length) (signs z),true)from rfl,vD];walk_at "ev";rw[MX (by rw[MR,NK];omega),cJ (p:=λc=>z.cps.toList.getD c 0==120) (g:=λc=>PV.int (c:Nat)) (λc a=>by
  show(lI (.tup [.int (c:Nat),.str ⟨#[z.cps.toList.getD c 0]⟩])).bind _=_;simp only[lI];walk_at "ev";rw[gb];cases z.cps.toList.getD c 0==120
  ·walk_at "ev"
  ·walk_at "ev")]
 walk_at "ev";rfl
theorem Hr(a c:Int×Int):ar .Gt (aX a) (aX c)=some (fA c a):=by
 have f:∀q:Int×Int,cT 12 (aX q)=true:=λq=>rfl;show gtT (aX a) (aX c)=_;unfold gtT;rw[f,f,Bool.and_self,MX rfl];show(if decide (a.1=c.1)=true then(if decide (a.2=c.2)=true then some false else some (decide (c.2<a.2)))else some (decide (c.1<a.1)))=_;unfold fA
 by_cases b:a.1=c.1
 ·rw[MX (Mj b),MX b.symm]
  by_cases d:a.2=c.2
  ·rw[MX (Mj d),show decide (c.2<a.2)=false from Mq (by omega)]
  ·rw[MV (by simpa using d)]
 ·rw[MV (by simpa using b),MV (λz=>b z.symm)]
theorem ym{a:Type}(xs:List a)(m:Nat):cut xs (some ((m:Nat):Int)) none=xs.drop m:=by
 unfold cut;rw[HT.qy,HT.kL]
 by_cases h:m<=xs.length;rw[Nat.min_eq_left h,List.take_of_length_le (by rw[OU];omega)]
 ·rw[Nat.min_eq_right (by omega),List.drop_of_length_le (Md _),List.drop_of_length_le (by omega),List.take_nil]
set_option tactic.hygienic true in
theorem uH:slice (.frz (.tup xs) n) (some ((m:Nat):Int)) none=some (.frz (.tup (xs.drop m)) n):=by
 rw[gq,ym]
 split
 ·rename_i h
  obtain⟨a,_⟩:=h;rw[HT.kL]at a
  by_cases b:m=0;rw[b,List.drop_zero]
  ·have:xs.length=0:=by omega
   rw[List.eq_nil_of_length_eq_zero this,List.drop_nil]
 ·rfl
theorem yo(d:∀x∈b,0<=x.2)(c:Nat):(b.map (·.2)).contains (c:Int)=(bB b).contains c:=by
 rw[NI,My,My];unfold bB;rw[MZ,MZ]
 constructor
 ·rintro⟨x,a,e⟩
  exact⟨x,a,by omega⟩
 ·rintro⟨x,a,e⟩
  have:=d x a;exact⟨x,a,by omega⟩
theorem c173(k:Nat)(z:Str)(a:z.length<=8)(b:List (Int×Int))(d:∀x∈b,0<=x.2):aG P (k+2) 173 [.str z,.lst ((b.map (·.2)).map .int)]=some (.lst ((((aH z).filter λc=> !(bB b).contains c).map λc:Nat=>(c:Int)).map .int)):=by
 refine cG rfl rfl ?_;simp only[IW,entry];have e:(aH z).length<=8:=by
  unfold aH;refine M8 (NG _ _) ?_;rw[NK];exact a
 walk_at "ev";rw[c109 k z a];walk_at "ev";rw[MX (by rw[MR];omega),cJ (p:=λc:Nat=> !(bB b).contains c) (g:=λc=>PV.int (c:Nat)) (λc f=>by
  walk_at "ev";rw[Ax,yo d];cases(bB b).contains c;walk_at "ev"
  ·walk_at "ev")]
 walk_at "ev";rw[M4];rfl
theorem c174(k:Nat)(rows:List Str)(w a:Nat)(b:List (Int×Int))(u:Wd rows w)(L:rows.length<=8)(K:w<=8)(t:∀x∈b,0<=x.1/\0<=x.2)(F:b.length<=1000):aG P (k+14) 174 [.tup (rows.map .str),.tup (b.map aX),.int (a:Nat)]=some (.bl (D3 (rows.map aH) a b)):=by
 have y:=bS rows;have A:imms (b.map aX)=true:=bT b;have f:=LL (k+12) b F;have i:=LM (k+12) b λx o=>(t x o).1;obtain⟨C,l⟩:∃C,C=yc ((rows.map aH).drop (bJ b)) (bB b):=⟨_,rfl⟩;have I:C.length=((rows.map aH).drop (bJ b)).length:=by rw[l];unfold yc;rw[MR]
 have B:ga C=true:=by
  rw[l];unfold ga yc;rw[MY];refine⟨Mj (by rw[MR,OU,MR];omega),?_⟩;rw[Ps,Mm];intro cs q;obtain⟨z,r,rfl⟩:=MZ.mp (OJ q);have G:=u z r;show(decide (_<=100)&&_)=true;rw[MY];have m:∀c∈(aH z).filter λc=> !(bB b).contains c,c<8:=λc e=>by
   have e:=(M6.mp (M6.mp e).1).1;rw[NC]at e;omega
  refine⟨Mj ?_,?_⟩
  ·rw[MR]
   refine M8 (NG _ _) ?_;unfold aH;refine M8 (NG _ _) ?_;rw[NK];omega
  ·rw[Ps,Mm]
   intro c e;have:=m c e;show(decide ((0:Int)<=(c:Nat))&&decide (((c:Nat):Int)<8))=true;rw[MY];exact⟨Mj (by omega),Mj (by omega)⟩
 have d:=c111 k C B;rw[I]at d;have j:(hd C ((rows.map aH).drop (bJ b)).length).length<=100:=by
  have:=uz (C:=C) ((rows.map aH).drop (bJ b)).length;rw[OU,MR]at this ⊢;omega
 refine cG rfl rfl ?_;simp only[IV,entry];walk_at "ev";rw[y,A,f];walk_at "ev";rw[i];walk_at "ev";rw[<- gq (n:=true),uH];walk_at "ev";rw[<- P9,MX (by rw[MR,OU];omega),eV (h:=PV.str) (g:=λz=>PV.lst ((((aH z).filter λc=> !(bB b).contains c).map λc:Nat=>(c:Int)).map .int)) (λz r=>by
  have D:=c173 (k+11) z (by have:=u z (OJ r);omega) b λx o=>(t x o).2;walk_at "ev";rw[D];walk_at "ev")]
 walk_at "ev";have E:(rows.drop (bJ b)).map (λz=>PV.lst ((((aH z).filter λc=> !(bB b).contains c).map λc:Nat=>(c:Int)).map .int))=xO C:=by
  rw[l];unfold xO yc;rw[M4,<-P9,M4];rfl
 rw[E];obtain⟨H,s⟩:∃H,H=hd C ((rows.map aH).drop (bJ b)).length:=⟨_,rfl⟩;rw[<- s]at d j;have v:D3 (rows.map aH) a b=decide (b.length<=a/\a-b.length<=H.length):=by
  rw[s,l];rfl
 rw[v]
 by_cases J:b.length<=a
 ·rw[MR,Mj (show(0:Int)<=(a:Int)-(b.length:Int)by omega)]
  walk_at "ev";rw[d];walk_at "ev";rw[show fM (mf (gN H)).val=some H.length by show some (H.map λp:Int×Int=>(Sum.inl p.1:IR.ak)).length=_;rw[MR]];walk_at "ev";rw[show decide ((a:Int)-(b.length:Int)<=(H.length:Int))=decide (b.length<=a/\a-b.length<=H.length)from decide_eq_decide.mpr (by omega)];walk_at "ev"
 ·rw[MR,Mq (show¬(0:Int)<=(a:Int)-(b.length:Int)by omega),Mq (show¬(b.length<=a/\a-b.length<=H.length)from λz=>J z.1)]
  walk_at "ev"
theorem Ga(h:Pl rows w b):∀x∈b,0<=x.1/\0<=x.2:=λx a=>by
 have:=cell_in (h.cell x a);omega
noncomputable def FT(rows:List Str)(w a:Nat)(b:List (Int×Int))(c:Int×Int)(i:Nat):List (Int×Int):=((cI rows w).take i).foldl (tZ (rows.map aH) a c) b
theorem Bj(d:(cI rows w)[i]? =some q):FT rows w a b c (i+1)=tZ (rows.map aH) a c (FT rows w a b c i) q:=by unfold FT;rw[List.take_succ,d,OL];rfl
theorem c175(k:Nat)(rows:List Str)(w d:Nat)(b:List (Int×Int))(f:Int×Int)(o:Wd rows w)(h0:rows≠[])(r:rows.length<=8)(p:w<=8)(D:Pl rows w b):aG P (k+15) 175 [.tup (rows.map .str),.tup (b.map aX),aX f,.int (d:Nat)]=some (.tup ((FU (rows.map aH) d b f).map aX)):=by
 refine cG rfl rfl ?_;simp only[IU,entry];have x:=bS rows;have A:imms (b.map aX)=true:=bT b;have v:imm (aX f)=true:=rfl;walk_at "ev";rw[x,A,v];refine dF (xs:=(cI rows w).map aX) (n:=true) ?_ (λi τ=>∃a c,Pl rows w (FT rows w d b f i)/\τ=[.frz (.tup (rows.map .str)) true,.frz (.tup (b.map aX)) true,.frz (aX f) true,.frz (.int d) true,.frz (.tup ((FT rows w d b f i).map aX)) true,a,c]) ⟨.un,.un,D,rfl⟩ ?_ ?_
 ·walk_at "ev"
  rw[c3I (k+13) o r p];walk_at "ev"
 ·rintro i y τ l ⟨a,c,g,rfl⟩
  obtain⟨q,t,rfl⟩:∃q,(cI rows w)[i]? =some q/\y=aX q:=by
   rw[Mi]at l;cases e:(cI rows w)[i]? with
   |none=>rw[e]at l;cases l|some q=>rw[e]at l;cases l;exact⟨q,rfl,rfl⟩
  have m:bo rows w (aX q)=true:=jc.mp (Mw t);have C:=eQ g;have E:imm (aX q)=true:=rfl;refine⟨_,rfl,?_⟩;rw[Bj t]
  generalize FT rows w d b f i=st at g C ⊢
  walk_at "ev";rw[MX (by rw[Ml,MR];show st.length+1<=_;omega)];walk_at "ev";have B:st.map aX++[aX q]=(st++[q]).map aX:=by rw[Ms];rfl
  rw[B,Hr];cases j:fA f q with
  |false =>
   rw[show tZ (rows.map aH) d f st q=st by unfold tZ;rw[MV λz=>by rw[j]at z;cases z.1]];walk_at "ev";exact⟨_,_,g,rfl⟩
  |true =>
   walk_at "ev";rw[Ip (k+11) o h0 r p g m];cases s:bq st q with
   |false =>
    rw[show tZ (rows.map aH) d f st q=st by unfold tZ;rw[MV λz=>by rw[s]at z;cases z.2.1]];walk_at "ev";exact⟨_,_,g,rfl⟩
   |true =>
    have h:=(g9 g m).mpr s;walk_at "ev";rw[c174 k rows w d (st++[q]) o r p (Ga h) (by have:=eQ h;omega)];cases u:D3 (rows.map aH) d (st++[q])with
    |false =>
     rw[show tZ (rows.map aH) d f st q=st by unfold tZ;rw[MV λz=>by rw[u]at z;cases z.2.2]];walk_at "ev";exact⟨_,_,g,rfl⟩
    |true =>
     rw[show tZ (rows.map aH) d f st q=st++[q]by unfold tZ;rw[MX ⟨j,s,u⟩]];walk_at "ev";exact⟨_,_,h,rfl⟩
 ·rintro τ ⟨a,c,g,rfl⟩
  have e:FT rows w d b f ((cI rows w).map aX).length=FU (rows.map aH) d b f:=by
   unfold FT FU;rw[MR,Nx,iQ o]
  rw[e];walk_at "ev"
theorem smB:∀n:Nat,n<9->(Builtin.Range.small ((n:Int)-1) (-1) (-1)=true/\(Builtin.Range.rangeSize ((n:Int)-1) (-1) (-1)).toNat=n):=by decide
theorem AD{n:Nat}(h:n<9):kC [.frz (.int ((n:Int)-1)) a,.frz (.int (-1)) b,.frz (.int (-1)) c]=some ((List.range n).map λm=>.int ((n:Int)-1+(m:Nat)*(-1))):=by obtain⟨d,e⟩:=smB n h;show(if(-1:Int)≠0/\(-1:Int).natAbs<1073741824/\Builtin.Range.small ((n:Int)-1) (-1) (-1)=true then some ((List.range (Builtin.Range.rangeSize ((n:Int)-1) (-1) (-1)).toNat).map λm=>PV.int ((n:Int)-1+(m:Nat)*(-1)))else none)=_;rw[MX ⟨by decide,by decide,d⟩,e]
theorem EL{a:Type}(xs:List a)(m:Nat):cut xs none (some ((m:Nat):Int))=xs.take m:=by unfold cut;rw[HT.qy,HT.kL,List.drop_zero,Nat.sub_zero,<-List.take_eq_take_min]
set_option tactic.hygienic true in
theorem zw:slice (.frz (.tup xs) n) none (some ((m:Nat):Int))=some (.frz (.tup (xs.take m)) n):=by
 rw[gq,EL]
 split
 ·rename_i h
  obtain⟨_,a⟩:=h;rw[HT.kL]at a;rw[List.take_of_length_le (by omega)]
 ·rfl
noncomputable def rY(rows:List Str)(p:List (Int×Int)):PV:=match hZ (rows.map aH) p with
 |some q=>.tup (q.map aX)|none=>.non
theorem c176(k:Nat)(rows:List Str)(w:Nat)(p:List (Int×Int))(o:Wd rows w)(h0:rows≠[])(u:rows.length<=8)(r:w<=8)(l:Pl rows w p):aG P (k+16) 176 [.tup (rows.map .str),.tup (p.map aX)]=some (rY rows p):=by
 have C:=bS rows;have K:imms (p.map aX)=true:=bT p;have N:=eQ l;have B:dJ (rows.map aH):=by rw[fQ o];exact vK rows w r
 have z:=(uY o).mp l;obtain⟨f,v⟩:∃f,f=OD.tr bq [] (aW 0 (rows.map aH)) p:=⟨_,rfl⟩;have G:hZ (rows.map aH) p=OD.fs f p.length:=by rw[v];exact OD.uj _ _ _
 refine cG rfl rfl ?_;simp only[IQ,entry];walk_at "ev";rw[C,K,LJ (k+12) o h0 u r l];walk_at "ev";refine dF (xs:=(List.range p.length).map λm=>.int ((p.length:Int)-1+(m:Nat)*(-1))) (n:=true) ?_ (λi τ=>∃a c,τ=[.frz (.tup (rows.map .str)) true,.frz (.tup (p.map aX)) true,a,c]/\i<=p.length/\hZ (rows.map aH) p=OD.fs f (p.length-i)) ⟨.un,.un,rfl,NH _,G⟩ ?_ ?_
 ·walk_at "ev"
  rw[MR,AD (by omega)];walk_at "ev"
 ·rintro i y τ g ⟨a,c,rfl,I,b⟩
  rw[Mi]at g
  by_cases A:i<p.length
  ·rw[NW A]at g
   obtain⟨j,M⟩:∃j,j=p.length-1-i:=⟨_,rfl⟩;have J:(p.length:Int)-1+((i:Nat):Int)*(-1)=((j:Nat):Int):=by omega
   have g:some (PV.int ((p.length:Int)-1+((i:Nat):Int)*(-1)))=some y:=g;rw[J]at g;cases g;have H:j<p.length:=by omega
   obtain⟨x,t⟩:∃x,p[j]? =some x:=⟨_,Mf H⟩;obtain⟨d,s⟩:=Hy iD B z t;rw[<- v]at d s;have E:dI (p.map aX) (j:Int)=some (aX x):=bI (by rw[Mi,t];rfl);have h:=c175 k rows w p.length (p.take j) x o h0 u r (AX l (P5 _ _));have L:imm (aX x)=true:=rfl;refine⟨_,rfl,?_⟩;walk_at "ev";rw[<- gq (n:=true),zw];walk_at "ev";rw[E];walk_at "ev";rw[<- List.map_take,MR,h];walk_at "ev";rw[MR,MR];have F:p.length-i=j+1:=by omega
   rw[F]at b;have b:hZ (rows.map aH) p=(f j).or (OD.fs f j):=b;cases e:f j with
   |some q =>
    have D:=s q e;rw[e]at d b;have d:FU (rows.map aH) p.length (p.take j) x=q:=d;rw[d,D,Mj rfl];walk_at "ev";have b:hZ (rows.map aH) p=some q:=b;unfold rY;rw[b]
   |none =>
    rw[e]at d b;have d:FU (rows.map aH) p.length (p.take j) x=p.take j:=d;rw[d,Nz,Mq (show¬((min j p.length:Nat):Int)=(p.length:Int)by omega)];walk_at "ev";exact⟨_,_,rfl,by omega,by rw[b,show p.length-(i+1)=j by omega];rfl⟩
  ·rw[Nc (by rw[NK];omega)]at g
   cases g
 ·rintro τ ⟨a,c,rfl,I,b⟩
  rw[MR,NK,Nat.sub_self]at b;have b:hZ (rows.map aH) p=none:=b;walk_at "ev";unfold rY;rw[b]
theorem Do(a c:Int×Int)(h:¬a=c):ut (aX a) (aX c)=some (!fA c a):=by
 show(if decide (a.1=c.1)=true then(if decide (a.2=c.2)=true then some true else some (decide (a.2<=c.2)))else some (decide (a.1<=c.1)))=_;unfold fA
 by_cases b:a.1=c.1
 ·have d:¬a.2=c.2:=λz=>h (Prod.ext b z)
  rw[MX (Mj b),MV (by simpa using d),MX b.symm]
  congr 1
  rw[NI,Nj,NL,PN];omega
 ·rw[MV (by simpa using b),MV (λz=>b z.symm)]
  congr 1
  rw[NI,Nj,NL,PN];omega
theorem sA:∀(q p:List (Int×Int)),q.length=p.length->yR (q.map aX) (p.map aX)=some (!OD.lex fA p q)
 |[],[],_=>rfl|[],_::_,h=>by cases h|_::_,[],h=>by cases h|a::q,c::p,h=>by
  show(if jW (aX a) (aX c)=true then yR (q.map aX) (p.map aX)else ut (aX a) (aX c))=_;rw[kQ]
  by_cases e:a=c
  ·subst e
   rw[MX (Mj rfl),sA q p (Nat.succ.inj h)];show _=some (!(if a=a then OD.lex fA p q else fA a a));rw[MX rfl]
  ·rw[MV (by simpa using e),Do a c e]
   show _=some (!(if c=a then OD.lex fA p q else fA c a));rw[MV (λz=>e z.symm)]
theorem HN(h:q.length=p.length):ar .LtE (.tup (q.map aX)) (.tup (p.map aX))=some (!OD.lex fA p q):=by
 have f:∀l:List (Int×Int),cT 12 (.tup (l.map aX))=true:=λl=>by
  show(l.map aX).all (cT 11)=true;rw[Ps,Mm];exact λx _=>rfl
 show leT (.tup (q.map aX)) (.tup (p.map aX))=_;unfold leT;rw[f,f,Bool.and_self,MX rfl];exact sA q p h
theorem Kw{a:List (Int×Int)}(h:q∈a):ar .NotIn (aX q) (.lst (a.map aX))=some false:=by
 have f:∀q:Int×Int,cT 12 (aX q)=true:=λq=>rfl;show(wq (aX q) (a.map aX)).map (!·)=_;unfold wq;rw[MV (by intro z;exact Mc z.1),MX]
 ·show some (!((a.map aX).any λy=>jW y (aX q)))=_
  congr 1
  rw[Bool.not_eq_false',No];exact⟨aX q,MZ.mpr ⟨q,h,rfl⟩,by rw[kQ];exact Mj rfl⟩
 ·rw[MY]
  refine⟨f q,?_⟩;rw[Ps,Mm];exact λx _=>f x
theorem c177(k:Nat)(rows:List Str)(w:Nat)(p:List (Int×Int))(t:Wd rows w)(h0:rows≠[])(r:rows.length<=8)(o:w<=8)(f:Pl rows w p):aG P (k+2) 177 [.tup (rows.map .str),.tup (p.map aX),.int (p.length:Nat)]=some (.bl true):=by
 have q:=bS rows;have A:imms (p.map aX)=true:=bT p;have B:=eQ f;have h:aG P (k+1) 66 [.tup (rows.map PV.str)]=some (.lst ((cI rows w).map aX)):=by rw[<- qA];exact c66 k rows w t h0 r o
 refine cG rfl rfl ?_;simp only[IP,entry];walk_at "ev";rw[q,A,MR,Mj (show((p.length:Nat):Int)=(p.length:Int)from rfl)];walk_at "ev";rw[h];walk_at "ev";refine dF (xs:=(List.range p.length).map λi=>.int (0+(i:Nat))) (n:=true) ?_ (λi τ=>∃a c,τ=[.frz (.tup (rows.map .str)) true,.frz (.tup (p.map aX)) true,.frz (.int (p.length:Nat)) true,.frz (.lst ((cI rows w).map aX)) true,a,c]) ⟨_,_,rfl⟩ ?_ ?_
 ·walk_at "ev"
  simp only[kC,cN];rw[MX ⟨by omega,by omega⟩];rfl
 ·rintro i y τ l ⟨a,c,rfl⟩
  obtain⟨z,rfl⟩:=cy l;obtain⟨x,b⟩:∃x,p[i]? =some x:=⟨_,Mf z⟩;have e:dI (p.map aX) (i:Int)=some (aX x):=bI (by rw[Mi,b];rfl);have g:x∈cI rows w:=jc.mpr (f.cell x (Mw b));refine⟨_,rfl,?_⟩;walk_at "ev";rw[e];walk_at "ev";rw[show bj "tuple" (aX x)=some true from rfl];walk_at "ev";rw[Kw g];have e:dI (p.map aX) (i:Int)=some (.tup [.int x.1,.int x.2]):=e;walk_at "ev";rw[e];walk_at "ev";rw[c8];walk_at "ev";rw[c8];walk_at "ev";refine dF (xs:=(List.range i).map λi=>.int (0+(i:Nat))) (n:=true) ?_ (λj τ=>∃c,τ=[.frz (.tup (rows.map .str)) true,.frz (.tup (p.map aX)) true,.frz (.int (p.length:Nat)) true,.frz (.lst ((cI rows w).map aX)) true,.frz (.int (i:Nat)) true,c]) ⟨_,rfl⟩ ?_ ?_
  ·walk_at "ev"
   simp only[kC,cN];rw[MX ⟨by omega,by omega⟩];rfl
  ·rintro j y τ l ⟨c,rfl⟩
   obtain⟨m,rfl⟩:=cy l;obtain⟨u,d⟩:∃u,p[j]? =some u:=⟨_,Mf (by omega)⟩;have s:dI (p.map aX) (j:Int)=some (.tup [.int u.1,.int u.2]):=bI (by rw[Mi,d];rfl);have C:u.1<x.1:=by
    have:=List.pairwise_iff_getElem.mp f.asc j i (by rw[MR];omega) (by rw[MR];omega) m;rw[O5,O5]at this;rw[Mf (by omega)]at d b;rw[Mv d,Mv b]at this;exact this
   have v:u.2≠x.2:=by
    have:=List.pairwise_iff_getElem.mp f.cols j i (by rw[MR];omega) (by rw[MR];omega) m;rw[O5,O5]at this;rw[Mf (by omega)]at d b;rw[Mv d,Mv b]at this;exact this
   refine⟨_,rfl,?_⟩;walk_at "ev";rw[s];walk_at "ev";rw[e];walk_at "ev";rw[Mq (show¬x.1<=u.1 by omega)];walk_at "ev";rw[Mq v];walk_at "ev";exact⟨_,rfl⟩
  ·rintro τ ⟨c,rfl⟩
   walk_at "ev";exact⟨_,_,rfl⟩
 ·rintro τ ⟨a,c,rfl⟩
  walk_at "ev"
theorem De(rows:List (List Nat))(a:Nat):mq rows a []=cnt rows [] a:=rfl
theorem LK(k:Nat)(a:Wd rows w)(h0:rows≠[])(d:rows.length<=8)(c:w<=8)(e:Pl rows w p):aG P (k+4) 167 [.tup (rows.map .str),.int (p.length:Nat),.int ((cx (rows.map aH) p:Nat):Int)]=some (.tup (p.map aX)):=by have b:=(uY a).mp e;rw[c167 k rows w p.length _ a h0 d c (by omega) (by rw[De];exact o6 iD b),<-iQ a,uD iD b]
theorem py{a:Type}[DecidableEq a]{ok:List a->a->Bool}:∀(L b:List a)(m:Nat),OD.cnt ok b L m<=2^L.length
 |L,b,0=>by rw[OD.aV];exact Nat.one_le_two_pow|[],b,m+1=>by rw[OD.cnt];exact NH _|c::L,b,m+1=>by
  have d:=py (ok:=ok) L (b++[c]) m;have e:=py (ok:=ok) L b (m+1);rw[OD.cnt,Ma,Nat.pow_succ]
  split<;>omega
noncomputable abbrev en52(d:List Int)(rows:List Str)(c:Nat)(p:List (Int×Int))(a b:TV):En:=[.frz (.lst (d.map PV.int)) false,.frz (.tup (rows.map PV.str)) true,.frz (.lst ((uV (cE rows)).map .int)) true,.frz (.int (c:Nat)) true,.frz (.tup (p.map aX)) true,a,b]
theorem BC:∀c:List Int,c.length<=63->aG P 40 178 [.lst (c.map PV.int)]=some (.bl true):=by
 intro c a3;obtain⟨v6,Q,rows,O,rfl⟩:=c62 37 (c.getD 0 0) (c.getD 1 0) 4 (by decide) (by decide);obtain⟨w,w1,w2,j⟩:=O.wide;have h0:=O.some;have h4:=O.few;have s:rows.length<=8:=by omega
 have t:w<=8:=by omega
 have Q:aG P 39 62 [.int (c.getD 0 0),.int (c.getD 1 0),.int 4]=some (.tup (rows.map PV.str)):=Q;have a0:aG P 39 4 [.lst (c.map PV.int),.int 0]=some (.int (c.getD 0 0)):=c4 38 c 0;have a1:aG P 39 4 [.lst (c.map PV.int),.int 1]=some (.int (c.getD 1 0)):=c4 38 c 1;have a2:aG P 39 4 [.lst (c.map PV.int),.int 2]=some (.int (c.getD 2 0)):=c4 38 c 2;have T:aG P 39 64 [.tup (rows.map .str)]=some (.lst ((uV (cE rows)).map .int)):=c64 38 rows w j s t;obtain⟨R,k⟩:∃R,R=rows.map aH:=⟨_,rfl⟩;obtain⟨N,eK,n1,n2⟩:=wE (cE rows) (mM rows s (wd8 j t));have K:∀m,rk m (cE rows)=cnt R [] m:=λm=>by
  have b:=kx (rows.map aH) m 0 [];rw[jT]at b;rw[k];exact b
 have f:∀m,((OD.cnt bq [] (aW 0 R) m:Nat):Int)=cnt R [] m:=λm=>cr R 0 [] m (λx hx=>by cases hx);have hN:0<N:=by
  by_cases q:0<N;exact q
  ·have:=n2 0 (by omega)
   rw[K,<-f,OD.aV]at this;cases this
 have Kl:(uV (cE rows)).length=N:=by rw[eK,MR,NK]
 obtain⟨d,hsz⟩:∃d:Nat,((d:Nat):Int)=c.getD 2 0%(N:Int):=⟨(c.getD 2 0%(N:Int)).toNat,by have:=Int.emod_nonneg (c.getD 2 0) (show(N:Int)≠0 by omega);omega⟩;have B:d<N:=by have:=P2 (c.getD 2 0) (show(0:Int)<(N:Int)by omega);omega
 have D:=n1 d B;rw[K]at D;have h:∀cs∈R,cs.Pairwise (·<·):=by rw[k];exact iD
 obtain⟨M,V⟩:∃M:Nat,M=OD.cnt bq [] (aW 0 R) d:=⟨_,rfl⟩;have H:((M:Nat):Int)=cnt R [] d:=by rw[V];exact f d
 have U:dI ((uV (cE rows)).map PV.int) ((d:Nat):Int)=some (.int ((M:Nat):Int)):=by
  refine bI ?_;rw[eK,Mi,Mi,NW B];show some (PV.int (rk d (cE rows)))=_;rw[K,H]
 have Mb:M<=2^16:=by
  have c1:=py (ok:=bq) (aW 0 R) [] d;have c2:(aW 0 R).length<=16:=by
   rw[k,iQ j];have e:=ND List.length (qA rows w);rw[MR]at e;rw[<- e];refine M8 (fW rows w rows.length) ?_;exact Pu h4 w2
  exact M8 (by rw[V];exact c1) (Nat.pow_le_pow_right (by decide) c2)
 have Mp:0<M:=by omega
 have nd:=cQ (bO (r:=0) h);obtain⟨Z,L,X⟩:=OD.jD (ok:=bq) (aW 0 R) [] d 0 nd (by rw[<- V];exact Mp);obtain⟨o,W⟩:∃o,o=OD.jo bq [] (aW 0 R) d 0:=⟨_,rfl⟩;rw[<- W]at Z L X;have Y:Pl rows w o:=(uY j).mpr (by rw[<- k];exact(eP h).mpr Z);have E:aG P 39 167 [.tup (rows.map .str),.int (d:Nat),.int 0]=some (.tup (o.map aX)):=by
  have:=LK 35 j h0 s t Y;rw[L,show cx (rows.map aH) o=0 by rw[<- k];exact X]at this;exact this
 refine cG rfl rfl ?_;simp only[IN,entry];walk_at "ev";rw[a0];walk_at "ev";rw[a1];walk_at "ev";rw[Q];walk_at "ev";rw[T];walk_at "ev";rw[a2];walk_at "ev";rw[MR,Kl,MX (by omega),<-hsz];walk_at "ev";rw[E];walk_at "ev";refine dF (xs:=(List.range M).map λi=>.int (0+(i:Nat))) (n:=true) ?_ (λi τ=>∃p a b,τ=en52 c rows d p a b/\Pl rows w p/\p.length=d/\cx R p=i) ⟨o,.un,.un,rfl,Y,L,X⟩ ?_ ?_
 ·walk_at "ev"
  rw[U];walk_at "ev";simp only[kC,cN];rw[MX ⟨by omega,by omega⟩];rfl
 ·rintro i y τ hy ⟨p,a,b,rfl,v,u,l⟩
  obtain⟨hi,rfl⟩:=cy hy;have A:aG P 39 177 [.tup (rows.map .str),.tup (p.map aX),.int (d:Nat)]=some (.bl true):=by
   have:=c177 37 rows w p j h0 s t v;rw[u]at this;exact this
  have g:=c169 35 rows w p j h0 s t v;rw[<- k,l]at g;have g:aG P 39 169 [.tup (rows.map .str),.tup (p.map aX)]=some (.int ((i:Nat):Int)):=g;have e9:aG P 39 9 [.int ((i:Nat):Int),.int ((i:Nat):Int)]=some (.bl true):=c9 1 37 (.int ((i:Nat):Int)) (Md _) rfl;have C:aG P 39 176 [.tup (rows.map .str),.tup (p.map aX)]=some (rY rows p):=c176 23 rows w p j h0 s t v;have z:=(uY j).mp v;rw[<- k]at z;obtain⟨x1,F⟩:=Az h z;refine⟨_,rfl,?_⟩;walk_at "ev";rw[A];walk_at "ev";rw[g];walk_at "ev";rw[e9];walk_at "ev";rw[C];unfold rY;rw[<- k];cases en:hZ R p with
  |none =>
   have F:=F en;rw[l,u,<-H]at F;walk_at "ev";rw[U];walk_at "ev";rw[Mj F];walk_at "ev"
  |some q =>
   obtain⟨I,G,S⟩:=x1 q en;have hq:Pl rows w q:=(uY j).mpr (by rw[<- k];exact I);have J:=o6 h I;rw[G,u,<-H,S,l]at J;have lx:=AI h z I G.symm;rw[S,l,Mj (show i<i+1 by omega)]at lx;walk_at "ev";rw[U];walk_at "ev";rw[Mq (show¬((i:Nat):Int)+1=((M:Nat):Int)by omega)];walk_at "ev";rw[HN G,<-lx];walk_at "ev";exact⟨q,_,_,rfl,hq,by rw[G,u],by rw[S,l]⟩
 ·rintro τ ⟨p,a,b,rfl,v,u,l⟩
  exfalso
  have z:=(uY j).mp v;rw[<- k]at z;have J:=o6 h z;rw[l,u,<-H,MR,NK]at J;omega
abbrev gf(e:Str)(f:List Str)(d:Stmt):Prop:=∀(g b i:Value)(h:Option Addr)(c ct:Value)(a:List Value),a.length=f.length->bindArgs (W.fnOf e e (aN d) (aD d) (aA d) .none g b i h c ct) ⟨a,[]⟩=pure (f.zip a)
theorem sc3:aP N3 ["board"] (aA s3):=⟨rfl,rfl,rfl,by decide +kernel,rfl,by decide +kernel,by decide +kernel⟩
theorem bd3:gf "cells_of" ["board"] s3 :=
 λ_ _ _ _ _ _ b a=>by
  obtain⟨_,rfl⟩:=iB a;rfl
theorem tr3:bF 80 ⟨N3,(aA s3).names,F,G,B,[1]⟩ (aD s3)=d3.body:=by kernel_rfl
theorem KQ:aP MD ["line"] (aA uU):=⟨rfl,rfl,rfl,by decide +kernel,rfl,by decide +kernel,by decide +kernel⟩
theorem Lf:gf "columns_in" ["line"] uU :=
 λ_ _ _ _ _ _ b a=>by
  obtain⟨_,rfl⟩:=iB a;rfl
theorem Jq:bF 80 ⟨MD,(aA uU).names,F,G,B,[]⟩ (aD uU)=Ih.body:=by kernel_rfl
theorem sc24:aP N24 ["thing"] (aA GH):=⟨rfl,rfl,rfl,by decide +kernel,rfl,by decide +kernel,by decide +kernel⟩
theorem bd24:gf "is_number" ["thing"] GH :=
 λ_ _ _ _ _ _ b a=>by
  obtain⟨_,rfl⟩:=iB a;rfl
theorem tr24:bF 80 ⟨N24,(aA GH).names,F,G,B,[]⟩ (aD GH)=d24.body:=by kernel_rfl
theorem sc25:aP N25 ["board","thing"] (aA GG):=⟨rfl,rfl,rfl,by decide +kernel,rfl,by decide +kernel,by decide +kernel⟩
theorem bd25:gf "is_cell" ["board","thing"] GG :=
 λ_ _ _ _ _ _ b a=>by
  obtain⟨_,_,rfl⟩:=jO a;rfl
theorem tr25:bF 80 ⟨N25,(aA GG).names,F,G,B,[]⟩ (aD GG)=d25.body:=by kernel_rfl
theorem sc26:aP N26 ["board","thing"] (aA GF):=⟨rfl,rfl,rfl,by decide +kernel,rfl,by decide +kernel,by decide +kernel⟩
theorem bd26:gf "is_placing" ["board","thing"] GF :=
 λ_ _ _ _ _ _ b a=>by
  obtain⟨_,_,rfl⟩:=jO a;rfl
theorem tr26:bF 80 ⟨N26,(aA GF).names,F,G,B,[]⟩ (aD GF)=d26.body:=by kernel_rfl
theorem sc46:aP N46 ["line"] (aA GE):=⟨rfl,rfl,rfl,by decide +kernel,rfl,by decide +kernel,by decide +kernel⟩
theorem bd46:gf "bits_of" ["line"] GE :=
 λ_ _ _ _ _ _ b a=>by
  obtain⟨_,rfl⟩:=iB a;rfl
theorem tr46:bF 80 ⟨N46,(aA GE).names,F,G,B,[1]⟩ (aD GE)=d46.body:=by kernel_rfl
theorem bd47:gf "with_line" ["levels","bits"] JS :=
 λ_ _ _ _ _ _ b a=>by
  obtain⟨_,_,rfl⟩:=jO a;rfl
theorem Le:gf "takes_column" ["choices","holders","row","tried"] qz :=
 λ_ _ _ _ _ _ b a=>by
  obtain⟨_,_,_,_,rfl⟩:=Ku a;rfl
theorem Ld:gf "holders_of" ["choices"] yD :=
 λ_ _ _ _ _ _ b a=>by
  obtain⟨_,rfl⟩:=iB a;rfl
theorem KP:aP MC ["board"] (aA uT):=⟨rfl,rfl,rfl,by decide +kernel,rfl,by decide +kernel,by decide +kernel⟩
theorem Lc:gf "tails_of" ["board"] uT :=
 λ_ _ _ _ _ _ b a=>by
  obtain⟨_,rfl⟩:=iB a;rfl
theorem Jp:bF 80 ⟨MC,(aA uT).names,F,G,B,[]⟩ (aD uT)=Ig.body:=by kernel_rfl
theorem KO:aP MB ["begun"] (aA uS):=⟨rfl,rfl,rfl,by decide +kernel,rfl,by decide +kernel,by decide +kernel⟩
theorem Lb:gf "row_behind" ["begun"] uS :=
 λ_ _ _ _ _ _ b a=>by
  obtain⟨_,rfl⟩:=iB a;rfl
theorem Jo:bF 80 ⟨MB,(aA uS).names,F,G,B,[]⟩ (aD uS)=Ie.body:=by kernel_rfl
theorem KN:aP MA ["begun"] (aA uR):=⟨rfl,rfl,rfl,by decide +kernel,rfl,by decide +kernel,by decide +kernel⟩
theorem La:gf "columns_taken" ["begun"] uR :=
 λ_ _ _ _ _ _ b a=>by
  obtain⟨_,rfl⟩:=iB a;rfl
theorem Jn:bF 80 ⟨MA,(aA uR).names,F,G,B,[]⟩ (aD uR)=Ic.body:=by kernel_rfl
theorem KM:aP L9 ["tails","begun","size"] (aA uQ):=⟨rfl,rfl,rfl,by decide +kernel,rfl,by decide +kernel,by decide +kernel⟩
theorem LZ:gf "number_beginning" ["tails","begun","size"] uQ :=
 λ_ _ _ _ _ _ b a=>by
  obtain⟨_,_,_,rfl⟩:=yQ a;rfl
theorem Jm:bF 80 ⟨L9,(aA uQ).names,F,G,B,[]⟩ (aD uQ)=Ib.body:=by kernel_rfl
theorem KL:aP L8 ["board","size","number"] (aA uP):=⟨rfl,rfl,rfl,by decide +kernel,rfl,by decide +kernel,by decide +kernel⟩
theorem LY:gf "placing_at" ["board","size","number"] uP :=
 λ_ _ _ _ _ _ b a=>by
  obtain⟨_,_,_,rfl⟩:=yQ a;rfl
theorem Jl:bF 80 ⟨L8,(aA uP).names,F,G,B,[]⟩ (aD uP)=Ia.body:=by kernel_rfl
theorem KJ:aP L7 ["placing","cell"] (aA uO):=⟨rfl,rfl,rfl,by decide +kernel,rfl,by decide +kernel,by decide +kernel⟩
theorem LX:gf "start_at" ["placing","cell"] uO :=
 λ_ _ _ _ _ _ b a=>by
  obtain⟨_,_,rfl⟩:=jO a;rfl
theorem Jk:bF 80 ⟨L7,(aA uO).names,F,G,B,[]⟩ (aD uO)=IZ.body:=by kernel_rfl
theorem KI:aP L6 ["board","placing"] (aA uN):=⟨rfl,rfl,rfl,by decide +kernel,rfl,by decide +kernel,by decide +kernel⟩
theorem LW:gf "number_of" ["board","placing"] uN :=
 λ_ _ _ _ _ _ b a=>by
  obtain⟨_,_,rfl⟩:=jO a;rfl
theorem Jj:bF 80 ⟨L6,(aA uN).names,F,G,B,[]⟩ (aD uN)=IY.body:=by kernel_rfl
theorem KH:aP L5 ["line","taken"] (aA uM):=⟨rfl,rfl,rfl,by decide +kernel,rfl,by decide +kernel,by decide +kernel⟩
theorem LV:gf "free_columns" ["line","taken"] uM :=
 λ_ _ _ _ _ _ b a=>by
  obtain⟨_,_,rfl⟩:=jO a;rfl
theorem Ji:bF 80 ⟨L5,(aA uM).names,F,G,B,[]⟩ (aD uM)=IW.body:=by kernel_rfl
theorem KG:aP L4 ["board","begun","size"] (aA uL):=⟨rfl,rfl,rfl,by decide +kernel,rfl,by decide +kernel,by decide +kernel⟩
theorem LU:gf "goes_on" ["board","begun","size"] uL :=
 λ_ _ _ _ _ _ b a=>by
  obtain⟨_,_,_,rfl⟩:=yQ a;rfl
theorem Jh:bF 80 ⟨L4,(aA uL).names,F,G,B,[]⟩ (aD uL)=IV.body:=by kernel_rfl
theorem KF:aP L3 ["board","begun","last","size"] (aA uK):=⟨rfl,rfl,rfl,by decide +kernel,rfl,by decide +kernel,by decide +kernel⟩
theorem LS:gf "first_behind" ["board","begun","last","size"] uK :=
 λ_ _ _ _ _ _ b a=>by
  obtain⟨_,_,_,_,rfl⟩:=Ku a;rfl
theorem Jg:bF 80 ⟨L3,(aA uK).names,F,G,B,[]⟩ (aD uK)=IU.body:=by kernel_rfl
theorem KD:aP Lz ["board","placing"] (aA uJ):=⟨rfl,rfl,rfl,by decide +kernel,rfl,by decide +kernel,by decide +kernel⟩
theorem LR:gf "next_placing" ["board","placing"] uJ :=
 λ_ _ _ _ _ _ b a=>by
  obtain⟨_,_,rfl⟩:=jO a;rfl
theorem Jf:bF 80 ⟨Lz,(aA uJ).names,F,G,B,[]⟩ (aD uJ)=IQ.body:=by kernel_rfl
theorem sc4:aP N4 ["_law_script","_law_k"] (aA s4):=⟨rfl,rfl,rfl,by decide +kernel,rfl,by decide +kernel,by decide +kernel⟩
theorem bd4:gf "_law_cell" ["_law_script","_law_k"] s4 :=
 λ_ _ _ _ _ _ b a=>by
  obtain⟨_,_,rfl⟩:=jO a;rfl
theorem tr4:bF 80 ⟨N4,(aA s4).names,F,G,B,[]⟩ (aD s4)=d4.body:=by kernel_rfl
theorem sc5:aP N5 ["_law_cell_here","_law_k"] (aA s5):=⟨rfl,rfl,rfl,by decide +kernel,rfl,by decide +kernel,by decide +kernel⟩
theorem bd5:gf "_law_mixed" ["_law_cell_here","_law_k"] s5 :=
 λ_ _ _ _ _ _ b a=>by
  obtain⟨_,_,rfl⟩:=jO a;rfl
theorem tr5:bF 80 ⟨N5,(aA s5).names,F,G,B,[]⟩ (aD s5)=d5.body:=by kernel_rfl
theorem sc62:aP N62 ["_law_head","_law_cell_here","_law_most"] (aA GD):=⟨rfl,rfl,rfl,by decide +kernel,rfl,by decide +kernel,by decide +kernel⟩
theorem bd62:gf "_law_board" ["_law_head","_law_cell_here","_law_most"] GD :=
 λ_ _ _ _ _ _ b a=>by
  obtain⟨_,_,_,rfl⟩:=yQ a;rfl
theorem tr62:bF 80 ⟨N62,(aA GD).names,F,G,B,[6]⟩ (aD GD)=d62.body:=by kernel_rfl
theorem sc66:aP N66 ["_law_board_here"] (aA GB):=⟨rfl,rfl,rfl,by decide +kernel,rfl,by decide +kernel,by decide +kernel⟩
theorem bd66:gf "_law_cells" ["_law_board_here"] GB :=
 λ_ _ _ _ _ _ b a=>by
  obtain⟨_,rfl⟩:=iB a;rfl
theorem tr66:bF 80 ⟨N66,(aA GB).names,F,G,B,[1]⟩ (aD GB)=d66.body:=by kernel_rfl
theorem sc8:aP N8 ["_law_found"] (aA s8):=⟨rfl,rfl,rfl,by decide +kernel,rfl,by decide +kernel,by decide +kernel⟩
theorem bd8:gf "_law_whole" ["_law_found"] s8 :=
 λ_ _ _ _ _ _ b a=>by
  obtain⟨_,rfl⟩:=iB a;rfl
theorem tr8:bF 80 ⟨N8,(aA s8).names,F,G,B,[]⟩ (aD s8)=d8.body:=by kernel_rfl
theorem sc9:aP N9 ["_law_found","_law_due"] (aA s9):=⟨rfl,rfl,rfl,by decide +kernel,rfl,by decide +kernel,by decide +kernel⟩
theorem bd9:gf "_law_same" ["_law_found","_law_due"] s9 :=
 λ_ _ _ _ _ _ b a=>by
  obtain⟨_,_,rfl⟩:=jO a;rfl
theorem tr9:bF 80 ⟨N9,(aA s9).names,F,G,B,[]⟩ (aD s9)=d9.body:=by kernel_rfl
theorem sc10:aP N10 ["_law_found","_law_due"] (aA GI):=⟨rfl,rfl,rfl,by decide +kernel,rfl,by decide +kernel,by decide +kernel⟩
theorem bd10:gf "_law_all_same" ["_law_found","_law_due"] GI :=
 λ_ _ _ _ _ _ b a=>by
  obtain⟨_,_,rfl⟩:=jO a;rfl
theorem tr10:bF 80 ⟨N10,(aA GI).names,F,G,B,[]⟩ (aD GI)=d10.body:=by kernel_rfl
theorem bd64:gf "_law_row" ["_law_board_here"] GC :=
 λ_ _ _ _ _ _ b a=>by
  obtain⟨_,rfl⟩:=iB a;rfl
theorem KC:aP Ly ["_law_board_here","_law_placing","_law_size"] (aA uI):=⟨rfl,rfl,rfl,by decide +kernel,rfl,by decide +kernel,by decide +kernel⟩
theorem LQ:gf "_law_is_placing" ["_law_board_here","_law_placing","_law_size"] uI :=
 λ_ _ _ _ _ _ b a=>by
  obtain⟨_,_,_,rfl⟩:=yQ a;rfl
theorem Je:bF 80 ⟨Ly,(aA uI).names,F,G,B,[]⟩ (aD uI)=IP.body:=by kernel_rfl
theorem KB:aP Lx ["_law_script"] (aA mj):=⟨rfl,rfl,rfl,by decide +kernel,rfl,by decide +kernel,by decide +kernel⟩
theorem LP:gf "law" ["_law_script"] mj :=
 λ_ _ _ _ _ _ b a=>by
  obtain⟨_,rfl⟩:=iB a;rfl
theorem Jd:bF 80 ⟨Lx,(aA mj).names,F,G,B,[]⟩ (aD mj)=IN.body:=by kernel_rfl
theorem nO(X:K.In h)(b:h.Ns mainGlobals a)(z:W.nsIn K mainGlobals x=some none):a x=none:=W.mg_none_of X b z
section
variable{K:W.Frag}{h:Heap}{mg:Str->Option Value}{nm:Str}{ps N:List Str}{st:Stmt}{f:Addr}{k:Nat}{d:FD}{M:List Nat}{oc kV doc pm cd ct:Value}{od an:Option Addr}{sl:Array (Option Value)}(X:K.In h)(Gh:h.Ns mainGlobals mg)(a:W.nsIn K mainGlobals nm=some (some (.ref f)))(l:K.lookup f=some ⟨oc,od,.func (W.fnOf nm nm (aN st) (aD st) (aA st) .none kV doc pm an cd ct),sl⟩)(c:W.codeIn K cd nm=true)(kp:W.keepIn K (.ref f)=true)(b:gf nm ps st)
include X Gh a l c kp b
theorem Kq:Fc K mg nm st ps f (W.fnOf nm nm (aN st) (aD st) (aA st) .none kV doc pm an cd ct):=⟨BY l c kp,W.mg_of X Gh a,(BY l c kp).binds b⟩
theorem jv(g:aP N ps (aA st))(e:P k=some ⟨N.length,ps.length,body⟩)(i:bF 80 ⟨N,(aA st).names,F,G,B,M⟩ (aD st)=body):vo K mg P F G B nm k f (W.fnOf nm nm (aN st) (aD st) (aA st) .none kV doc pm an cd ct) ps:=⟨.inr ⟨st,N,M,80,body,Kq X Gh a l c kp b,g,e,i⟩⟩
end
theorem JC{l:W.OpenLaw}{w:World}{K:W.Frag}{h:Heap}{d:Str->Option Value}{fa f0 f1 f2 f3 f4 f5 f6 f7 f8 f9 J m o r C M D y t T O L N q E S A i I Q:Addr}(X:K.In h)(c:h.Ns mainGlobals d)(K9:d "law"=some (.ref fa))
  {q0 x0 q1 x1 q2 x2 q3 x3 q4 x4 q5 x5 q6 x6 q7 x7 q8 x8 q9 x9 N5 H6 l' h6 H2 n4 J2 g8 B6 B' O8 L3 v2 n8 m' B2 o5 I7 K0 O4 J8 N8 P1 M5 i4 x' G4 L1 A7 O2 P3 O3 P0 f' A4 P' e2 B1 n0 d4:Option Addr} {r0 r1 r2 r3 r4 r5 r6 r7 r8 r9 N7 C8 B7 L' L2 F0 G6 F6 F3 N6 F5 j5 L9 G3 j2 j6 H8 M7 o8 s6:Array (Option Value)} {p0 t0 u0 w0 y0 m0 p1 t1 u1 w1 y1 m1 p2 t2 u2 w2 y2 m2 p3 t3 u3 w3 y3 m3 p4 t4 u4 w4 y4 m4 p5 t5 u5 w5 y5 m5 p6 t6 u6 w6 y6 m6 p7 t7 u7 w7 y7 m7 p8 t8 u8 w8 y8 m8 p9 t9 u9 w9 y9 m9 L6 B5 J7 A3 d6 v5 g1 j4 h8 D0 d8 O1 H' Q2 J5 o6 e1 L8 D2 K5 A' s1 V j7 K8 B3 D9 K' d3 g6 N0 F7 h4 G7 U P9 F8 C2 e9 g9 d5 A5 O9 K3 n1 N1 b3 j0 h3 M8 I5 j8 d1 F1 e8 n3 A1 p' b6 O' O7 g3 A2 J3 b5 n6 v6 O6 C4 M9 d7 G1 I9 g2 g0 I3 b4 g5 J1 n2 L5 I4 e0 D' v1 H0 i7 L4 d9 D3 K4 J' A6 C3 d2 o' M' i' C7 P4 d0 F2 A8 F' H3 v9 b' K1 H5 J0 J6 M3 b2 M2 C0 Z b8 a' R Y:Value}
  {q':Tok}
  (a0:W.nsIn K mainGlobals "cells_of"=some (some (.ref f0))) (l0:K.lookup f0=some ⟨p0,q0,.func (W.fnOf "cells_of" "cells_of" (aN s3) (aD s3) (aA s3) .none t0 u0 w0 x0 y0 m0),r0⟩) (c0:W.codeIn K y0 "cells_of"=true) (k0:W.keepIn K (.ref f0)=true)
  (a1:W.nsIn K mainGlobals "columns_in"=some (some (.ref f1))) (l1:K.lookup f1=some ⟨p1,q1,.func (W.fnOf "columns_in" "columns_in" (aN uU) (aD uU) (aA uU) .none t1 u1 w1 x1 y1 m1),r1⟩) (c1:W.codeIn K y1 "columns_in"=true) (k1:W.keepIn K (.ref f1)=true)
  (a2:W.nsIn K mainGlobals "is_number"=some (some (.ref f2))) (l2:K.lookup f2=some ⟨p2,q2,.func (W.fnOf "is_number" "is_number" (aN GH) (aD GH) (aA GH) .none t2 u2 w2 x2 y2 m2),r2⟩) (c2:W.codeIn K y2 "is_number"=true) (k2:W.keepIn K (.ref f2)=true)
  (a3:W.nsIn K mainGlobals "is_cell"=some (some (.ref f3))) (l3:K.lookup f3=some ⟨p3,q3,.func (W.fnOf "is_cell" "is_cell" (aN GG) (aD GG) (aA GG) .none t3 u3 w3 x3 y3 m3),r3⟩) (c3:W.codeIn K y3 "is_cell"=true) (k3:W.keepIn K (.ref f3)=true)
  (a4:W.nsIn K mainGlobals "is_placing"=some (some (.ref f4))) (l4:K.lookup f4=some ⟨p4,q4,.func (W.fnOf "is_placing" "is_placing" (aN GF) (aD GF) (aA GF) .none t4 u4 w4 x4 y4 m4),r4⟩) (c4:W.codeIn K y4 "is_placing"=true) (k4:W.keepIn K (.ref f4)=true)
  (a5:W.nsIn K mainGlobals "bits_of"=some (some (.ref f5))) (l5:K.lookup f5=some ⟨p5,q5,.func (W.fnOf "bits_of" "bits_of" (aN GE) (aD GE) (aA GE) .none t5 u5 w5 x5 y5 m5),r5⟩) (c5:W.codeIn K y5 "bits_of"=true) (k5:W.keepIn K (.ref f5)=true)
  (a6:W.nsIn K mainGlobals "with_line"=some (some (.ref f6))) (l6:K.lookup f6=some ⟨p6,q6,.func (W.fnOf "with_line" "with_line" (aN JS) (aD JS) (aA JS) .none t6 u6 w6 x6 y6 m6),r6⟩) (c6:W.codeIn K y6 "with_line"=true) (k6:W.keepIn K (.ref f6)=true)
  (a7:W.nsIn K mainGlobals "takes_column"=some (some (.ref f7))) (l7:K.lookup f7=some ⟨p7,q7,.func (W.fnOf "takes_column" "takes_column" (aN qz) (aD qz) (aA qz) .none t7 u7 w7 x7 y7 m7),r7⟩) (c7:W.codeIn K y7 "takes_column"=true) (k7:W.keepIn K (.ref f7)=true)
  (a8:W.nsIn K mainGlobals "holders_of"=some (some (.ref f8))) (l8:K.lookup f8=some ⟨p8,q8,.func (W.fnOf "holders_of" "holders_of" (aN yD) (aD yD) (aA yD) .none t8 u8 w8 x8 y8 m8),r8⟩) (c8:W.codeIn K y8 "holders_of"=true) (k8:W.keepIn K (.ref f8)=true)
  (a9:W.nsIn K mainGlobals "tails_of"=some (some (.ref f9))) (l9:K.lookup f9=some ⟨p9,q9,.func (W.fnOf "tails_of" "tails_of" (aN uT) (aD uT) (aA uT) .none t9 u9 w9 x9 y9 m9),r9⟩) (c9:W.codeIn K y9 "tails_of"=true) (k9:W.keepIn K (.ref f9)=true)
  (e':W.nsIn K mainGlobals "row_behind"=some (some (.ref J))) (M4:K.lookup J=some ⟨L6,N5,.func (W.fnOf "row_behind" "row_behind" (aN uS) (aD uS) (aA uS) .none B5 J7 A3 H6 d6 v5),N7⟩) (y':W.codeIn K d6 "row_behind"=true) (j1:W.keepIn K (.ref J)=true)
  (o4:W.nsIn K mainGlobals "columns_taken"=some (some (.ref m))) (j9:K.lookup m=some ⟨g1,l',.func (W.fnOf "columns_taken" "columns_taken" (aN uR) (aD uR) (aA uR) .none j4 h8 D0 h6 d8 O1),C8⟩) (N2:W.codeIn K d8 "columns_taken"=true) (e5:W.keepIn K (.ref m)=true)
  (Q3:W.nsIn K mainGlobals "number_beginning"=some (some (.ref o))) (N9:K.lookup o=some ⟨H',H2,.func (W.fnOf "number_beginning" "number_beginning" (aN uQ) (aD uQ) (aA uQ) .none Q2 J5 o6 n4 e1 L8),B7⟩) (C1:W.codeIn K e1 "number_beginning"=true) (n7:W.keepIn K (.ref o)=true)
  (C':W.nsIn K mainGlobals "placing_at"=some (some (.ref r))) (Q1:K.lookup r=some ⟨D2,J2,.func (W.fnOf "placing_at" "placing_at" (aN uP) (aD uP) (aA uP) .none K5 A' s1 g8 V j7),L'⟩) (i6:W.codeIn K V "placing_at"=true) (s0:W.keepIn K (.ref r)=true)
  (C6:W.nsIn K mainGlobals "start_at"=some (some (.ref C))) (i0:K.lookup C=some ⟨K8,B6,.func (W.fnOf "start_at" "start_at" (aN uO) (aD uO) (aA uO) .none B3 D9 K' B' d3 g6),L2⟩) (I0:W.codeIn K d3 "start_at"=true) (G2:W.keepIn K (.ref C)=true)
  (A9:W.nsIn K mainGlobals "number_of"=some (some (.ref M))) (G5:K.lookup M=some ⟨N0,O8,.func (W.fnOf "number_of" "number_of" (aN uN) (aD uN) (aA uN) .none F7 h4 G7 L3 U P9),F0⟩) (h9:W.codeIn K U "number_of"=true) (r':W.keepIn K (.ref M)=true)
  (O0:W.nsIn K mainGlobals "free_columns"=some (some (.ref D))) (I6:K.lookup D=some ⟨F8,v2,.func (W.fnOf "free_columns" "free_columns" (aN uM) (aD uM) (aA uM) .none C2 e9 g9 n8 d5 A5),G6⟩) (n9:W.codeIn K d5 "free_columns"=true) (i1:W.keepIn K (.ref D)=true)
  (G9:W.nsIn K mainGlobals "goes_on"=some (some (.ref y))) (Q0:K.lookup y=some ⟨O9,m',.func (W.fnOf "goes_on" "goes_on" (aN uL) (aD uL) (aA uL) .none K3 n1 N1 B2 b3 j0),F6⟩) (C9:W.codeIn K b3 "goes_on"=true) (j':W.keepIn K (.ref y)=true)
  (v4:W.nsIn K mainGlobals "first_behind"=some (some (.ref t))) (F4:K.lookup t=some ⟨h3,o5,.func (W.fnOf "first_behind" "first_behind" (aN uK) (aD uK) (aA uK) .none M8 I5 j8 I7 d1 F1),F3⟩) (v3:W.codeIn K d1 "first_behind"=true) (G8:W.keepIn K (.ref t)=true)
  (G':W.nsIn K mainGlobals "next_placing"=some (some (.ref T))) (i2:K.lookup T=some ⟨e8,K0,.func (W.fnOf "next_placing" "next_placing" (aN uJ) (aD uJ) (aA uJ) .none n3 A1 p' O4 b6 O'),N6⟩) (B9:W.codeIn K b6 "next_placing"=true) (J4:W.keepIn K (.ref T)=true)
  (P6:W.nsIn K mainGlobals "_law_cell"=some (some (.ref O))) (A0:K.lookup O=some ⟨O7,J8,.func (W.fnOf "_law_cell" "_law_cell" (aN s4) (aD s4) (aA s4) .none g3 A2 J3 N8 b5 n6),F5⟩) (D4:W.codeIn K b5 "_law_cell"=true) (G0:W.keepIn K (.ref O)=true)
  (L0:W.nsIn K mainGlobals "_law_mixed"=some (some (.ref L))) (P8:K.lookup L=some ⟨v6,P1,.func (W.fnOf "_law_mixed" "_law_mixed" (aN s5) (aD s5) (aA s5) .none O6 C4 M9 M5 d7 G1),j5⟩) (h2:W.codeIn K d7 "_law_mixed"=true) (v':W.keepIn K (.ref L)=true)
  (I1:W.nsIn K mainGlobals "_law_board"=some (some (.ref N))) (H9:K.lookup N=some ⟨I9,i4,.func (W.fnOf "_law_board" "_law_board" (aN GD) (aD GD) (aA GD) .none g2 g0 I3 x' b4 g5),L9⟩) (I8:W.codeIn K b4 "_law_board"=true) (P2:W.keepIn K (.ref N)=true)
  (e7:W.nsIn K mainGlobals "_law_cells"=some (some (.ref q))) (h7:K.lookup q=some ⟨J1,G4,.func (W.fnOf "_law_cells" "_law_cells" (aN GB) (aD GB) (aA GB) .none n2 L5 I4 L1 e0 D'),G3⟩) (s7:W.codeIn K e0 "_law_cells"=true) (H4:W.keepIn K (.ref q)=true)
  (P5:W.nsIn K mainGlobals "_law_whole"=some (some (.ref E))) (H1:K.lookup E=some ⟨v1,A7,.func (W.fnOf "_law_whole" "_law_whole" (aN s8) (aD s8) (aA s8) .none H0 i7 L4 O2 d9 D3),j2⟩) (g7:W.codeIn K d9 "_law_whole"=true) (i8:W.keepIn K (.ref E)=true)
  (L7:W.nsIn K mainGlobals "_law_same"=some (some (.ref S))) (B4:K.lookup S=some ⟨K4,P3,.func (W.fnOf "_law_same" "_law_same" (aN s9) (aD s9) (aA s9) .none J' A6 C3 O3 d2 o'),j6⟩) (n5:W.codeIn K d2 "_law_same"=true) (N3:W.keepIn K (.ref S)=true)
  (e4:W.nsIn K mainGlobals "_law_all_same"=some (some (.ref A))) (D5:K.lookup A=some ⟨M',P0,.func (W.fnOf "_law_all_same" "_law_all_same" (aN GI) (aD GI) (aA GI) .none i' C7 P4 f' d0 F2),H8⟩) (w':W.codeIn K d0 "_law_all_same"=true) (o9:W.keepIn K (.ref A)=true)
  (C5:W.nsIn K mainGlobals "_law_row"=some (some (.ref i))) (o7:K.lookup i=some ⟨A8,A4,.func (W.fnOf "_law_row" "_law_row" (aN GC) (aD GC) (aA GC) .none F' H3 v9 P' b' K1),M7⟩) (B0:W.codeIn K b' "_law_row"=true) (o3:W.keepIn K (.ref i)=true)
  (k':W.nsIn K mainGlobals "_law_is_placing"=some (some (.ref I))) (O5:K.lookup I=some ⟨H5,e2,.func (W.fnOf "_law_is_placing" "_law_is_placing" (aN uI) (aD uI) (aA uI) .none J0 J6 M3 B1 b2 M2),o8⟩) (H7:W.codeIn K b2 "_law_is_placing"=true) (s2:W.keepIn K (.ref I)=true)
  (b7:W.nsIn K mainGlobals "law"=some (some (.ref Q))) (h5:K.lookup Q=some ⟨C0,n0,.func (W.fnOf "law" "law" (aN mj) (aD mj) (aA mj) .none Z b8 a' d4 R Y),s6⟩) (N4:W.codeIn K R "law"=true) (I2:W.keepIn K (.ref Q)=true)
  (z0:W.nsIn K mainGlobals "len"=some none)
  (z1:W.nsIn K mainGlobals "int"=some none)
  (z2:W.nsIn K mainGlobals "list"=some none)
  (z3:W.nsIn K mainGlobals "tuple"=some none)
  (z4:W.nsIn K mainGlobals "all"=some none)
  (z5:W.nsIn K mainGlobals "isinstance"=some none)
  (z6:W.nsIn K mainGlobals "str"=some none)
  (z7:W.nsIn K mainGlobals "bool"=some none)
  (z8:W.nsIn K mainGlobals "range"=some none)
  (z9:W.nsIn K mainGlobals "zip"=some none)
  (e3:W.nsIn K mainGlobals "enumerate"=some none)
  (M1:W.nsIn K mainGlobals "sorted"=some none)
  (g4:W.nsIn K mainGlobals "set"=some none)
  (K6:W.nsIn K mainGlobals "sum"=some none)
  (e6:W.nsIn K mainGlobals "reversed"=some none)
  (K2:W.nsIn K mainGlobals "dict"=some none)
  (v0:W.nsIn K mainGlobals "CELL"=some (some (.str "x" q')))
  :
  ∃fd:FuncData,(∀(s:Shared)(v:Value),BindsTo s fd ⟨[v],[]⟩ [("_law_script",v)])/\∀base:Heap,K.In base->base.Ns mainGlobals d->bt l.prog w K d base kJ 40 fa fd ["_law_script"] (v8 K):=by
 have g:∀x,B.contains x=true->d x=none:=cU (nO X c z0) (cU (nO X c z1) (cU (nO X c z2) (cU (nO X c z3) (cU (nO X c z4) (cU (nO X c z5) (cU (nO X c z6) (cU (nO X c z7) (cU (nO X c z8) (cU (nO X c z9) (cU (nO X c e3) (cU (nO X c M1) (cU (nO X c g4) (cU (nO X c K6) (cU (nO X c e6) (cU (nO X c K2) (bnil))))))))))))))));have e:=K9.symm.trans (W.mg_of X c b7);cases e;have hG:∀x v,G.lookup x=some v->∃u w,d x=some u/\RelV w u/\∀Hi n H,Rp K Hi n v H w:=K7 ⟨_,(.str "x"),W.mg_of X c v0,⟨_,rfl⟩,λ_ _ _=>Rp.str.mpr rfl⟩ (gnil);have E0:=jv (k:=3) X c a0 l0 c0 k0 bd3 sc3 rfl tr3;have E1:=jv (k:=109) X c a1 l1 c1 k1 Lf KQ rfl Jq;have E2:=jv (k:=24) X c a2 l2 c2 k2 bd24 sc24 rfl tr24;have E3:=jv (k:=25) X c a3 l3 c3 k3 bd25 sc25 rfl tr25;have E4:=jv (k:=26) X c a4 l4 c4 k4 bd26 sc26 rfl tr26;have E5:=jv (k:=46) X c a5 l5 c5 k5 bd46 sc46 rfl tr46;have D6:=Kq X c a6 l6 c6 k6 bd47;have E6:vo K d P F G B "with_line" 47 f6 _ ["levels","bits"]:=⟨.inl ⟨D6.nm,D6.fn.kp,D6.bd,λp w b k z=>Hq (g "dict" rfl) (g "enumerate" rfl) D6 p w b k (z k (Md k))⟩⟩;have D7:=Kq X c a7 l7 c7 k7 Le;have E7:vo K d P F G B "takes_column" 110 f7 _ ["choices","holders","row","tried"]:=⟨.inl ⟨D7.nm,D7.fn.kp,D7.bd,Ck (xk rfl)⟩⟩;have D8:=Kq X c a8 l8 c8 k8 Ld;have E8:vo K d P F G B "holders_of" 111 f8 _ ["choices"]:=⟨.inl ⟨D8.nm,D8.fn.kp,D8.bd,λp w b k z=>D1 (g "len" rfl) (g "range" rfl) D7 D8 p w b k (z k (Md k))⟩⟩;have E9:=jv (k:=163) X c a9 l9 c9 k9 Lc KP rfl Jp;have j3:=jv (k:=164) X c e' M4 y' j1 Lb KO rfl Jo;have n':=jv (k:=165) X c o4 j9 N2 e5 La KN rfl Jn;have o0:=jv (k:=166) X c Q3 N9 C1 n7 LZ KM rfl Jm;have h1:=jv (k:=167) X c C' Q1 i6 s0 LY KL rfl Jl;have u':=jv (k:=168) X c C6 i0 I0 G2 LX KJ rfl Jk;have P7:=jv (k:=169) X c A9 G5 h9 r' LW KI rfl Jj;have i9:=jv (k:=173) X c O0 I6 n9 i1 LV KH rfl Ji;have M0:=jv (k:=174) X c G9 Q0 C9 j' LU KG rfl Jh;have B8:=jv (k:=175) X c v4 F4 v3 G8 LS KF rfl Jg;have I':=jv (k:=176) X c G' i2 B9 J4 LR KD rfl Jf;have v7:=jv (k:=4) X c P6 A0 D4 G0 bd4 sc4 rfl tr4;have i3:=jv (k:=5) X c L0 P8 h2 v' bd5 sc5 rfl tr5;have E':=jv (k:=62) X c I1 H9 I8 P2 bd62 sc62 rfl tr62;have M6:=jv (k:=66) X c e7 h7 s7 H4 bd66 sc66 rfl tr66;have F9:=jv (k:=8) X c P5 H1 g7 i8 bd8 sc8 rfl tr8;have z':=jv (k:=9) X c L7 B4 n5 N3 bd9 sc9 rfl tr9;have i5:=jv (k:=10) X c e4 D5 w' o9 bd10 sc10 rfl tr10;have j:=Kq X c C5 o7 B0 o3 bd64;have J9:vo K d P F G B "_law_row" 64 i _ ["_law_board_here"]:=⟨.inl ⟨j.nm,j.fn.kp,j.bd,λp w b k z=>Ho (g "dict" rfl) (g "len" rfl) (g "range" rfl) (g "sorted" rfl) (g "tuple" rfl) j p w b k (z k (Md k))⟩⟩;have o1:=jv (k:=177) X c k' O5 H7 s2 LQ KC rfl Je;have b9:=jv (k:=178) X c b7 h5 N4 I2 LP KB rfl Jd;have hF:∀x f,F.lookup x=some f->∃a fd ps,vo K d P F G B x f a fd ps:=bA ⟨_,_,_,E0⟩ (bA ⟨_,_,_,E1⟩ (bA ⟨_,_,_,E2⟩ (bA ⟨_,_,_,E3⟩ (bA ⟨_,_,_,E4⟩ (bA ⟨_,_,_,E5⟩ (bA ⟨_,_,_,E6⟩ (bA ⟨_,_,_,E7⟩ (bA ⟨_,_,_,E8⟩ (bA ⟨_,_,_,E9⟩ (bA ⟨_,_,_,j3⟩ (bA ⟨_,_,_,n'⟩ (bA ⟨_,_,_,o0⟩ (bA ⟨_,_,_,h1⟩ (bA ⟨_,_,_,u'⟩ (bA ⟨_,_,_,P7⟩ (bA ⟨_,_,_,i9⟩ (bA ⟨_,_,_,M0⟩ (bA ⟨_,_,_,B8⟩ (bA ⟨_,_,_,I'⟩ (bA ⟨_,_,_,v7⟩ (bA ⟨_,_,_,i3⟩ (bA ⟨_,_,_,E'⟩ (bA ⟨_,_,_,M6⟩ (bA ⟨_,_,_,F9⟩ (bA ⟨_,_,_,z'⟩ (bA ⟨_,_,_,i5⟩ (bA ⟨_,_,_,J9⟩ (bA ⟨_,_,_,o1⟩ (bA ⟨_,_,_,b9⟩ (fnil))))))))))))))))))))))))))))));exact⟨W.fnOf "law" "law" (aN mj) (aD mj) (aA mj) .none Z b8 a' d4 R Y,λs v=>.of_eq rfl,λbase _ _=>HR (Hx hG g hF 40 "law" 178 fa _ _ b9) BC⟩
theorem walk{l:W.OpenLaw}{q:Program}{b:List Str}{o:(Str->Option Value)->Heap->Prop}{g:World->Heap->Prop}{d:DefRec}{K:Params->W.Frag}(m:l.most=some 63)(e:d.params.defaults=[])
  (r:∀(w:World)(h:Heap),g w h->(K w.params).In h)
  (F:∀(w:World)(c:Str->Option Value)(i:Addr)(h:Heap),(K w.params).In h->h.Ns mainGlobals c->c d.name=some (.ref i) -> ∃j:FuncData,(∀(s:Shared)(u:Value),BindsTo s j ⟨[u],[]⟩ [("_law_script",u)])/\∀base:Heap,(K w.params).In base->base.Ns mainGlobals c->bt l.prog w (K w.params) c base kJ 40 i j ["_law_script"] (v8 (K w.params))) :
  W.WalkO q b o g l.row.toRowW d [] (λf vs=>PySem.call f vs) :=
 L2.Cj (n:=63) (k:=40) (x:="_law_script") (CX:=λ_=>kJ) (sp:=λw=>v8 (K w.params)) m (by decide) e ⟨rfl,by decide,by decide⟩ r F (λ_ _ a v p _ t=>⟨a,v,rfl,t,p,λ_=>rfl⟩) λ_ _ _ _ _ z=>z
end Law
open PySem PySem.W PyProof.Rows
noncomputable def LH.vw:Program:={ PySem.Challenge.pw_unstruck_k52_next_in_order with main:={ PySem.Challenge.pw_unstruck_k52_next_in_order.main with body:=((PySem.Challenge.pw_unstruck_k52_next_in_order.main.body.drop 1).take 6)++((PySem.Challenge.pw_unstruck_k52_next_in_order.main.body.drop 8).take 2)++((PySem.Challenge.pw_unstruck_k52_next_in_order.main.body.drop 11).take 2)++((PySem.Challenge.pw_unstruck_k52_next_in_order.main.body.drop 14).take 2)++((PySem.Challenge.pw_unstruck_k52_next_in_order.main.body.drop 17).take 11)++((PySem.Challenge.pw_unstruck_k52_next_in_order.main.body.drop 29).take 10) } }
set_option tactic.hygienic false
theorem LH.two {A B C:Type} {o:Option A} {f:A→B} {g:A→C} {a:B} {b:C} (h:o.map f=some a) (k:o.map g=some b):o.map (λs=>(f s, g s))=some (a, b):=by
  cases o with
  | none => cases h
  | some x => cases h; cases k; rfl
noncomputable abbrev LH.xt (s:Shared):Bool:=xlAt LH.vw [] s&&recOk [] s
set_option tactic.hygienic true
theorem LH.h1 (w:World):(openEnds treeTable PySem.Challenge.pw_unstruck_k52_next_in_order w 9999).map (λs=>openSeen LH.vw [] (importedModules PySem.Challenge.pw_unstruck_k52_next_in_order.main.body) LH.xt true s)=some (openGood LH.vw []):=by kernel_rfl
set_option maxRecDepth 100000 in
set_option maxHeartbeats 0 in
theorem LH.ws:OpenLaw.wellSaid PySem.Challenge.rw_unstruck_k52_next_in_order=true:=(congrFun Fast.te9446332074065402090 _).trans (by kernel_rfl)
local macro_rules|`(tactic|o_head $H)=>do
  let hw:=Lean.mkIdent `hw
  let hc:=Lean.mkIdent `hc
  `(tactic|(refine holds_open (q:=LH.vw) (loose:=[]) (Xt:=LH.xt) (XP:=XL LH.vw []) (Yf:=Hook.obs $H) (Ya:=Hook.val $H) (YP:=Hook.says $H) (N:=9999) (λw=>LH.two (LH.h1 w) (by kernel_rfl)) (Hook.of $H) (Hook.keeps $H) (λs e=>xl_of s (Bool.and_eq_true_iff.mp e).1) XL.keeps rfl rfl rfl (λs e=>recFacts_of (Bool.and_eq_true_iff.mp e).2) rfl (by first|assumption|decide +kernel) (by decide +kernel) ⟨rfl, rfl, rfl, rfl, rfl, by decide +kernel⟩ ?$hw ?$hc))
set_option maxRecDepth 100000 in
set_option maxHeartbeats 0 in
theorem PySem.Challenge.cw_unstruck_k52_next_in_order_holds : PySem.Challenge.rw_unstruck_k52_next_in_order.Holds := by
 w_on;refine holds_law LH.ws fun said=> ?_;k_head;(case hw=>w_witness2)
 k_fill
 refine Law.walk (l:=PySem.Challenge.rw_unstruck_k52_next_in_order) rfl rfl (λw h Y=>PySem.W.kIn_of Y) ?F
 case F =>
  intro w mg fa h KX G hmg;refine' Law.JC KX G hmg ?a0 ?l0 ?c0 ?k0 ?a1 ?l1 ?c1 ?k1 ?a2 ?l2 ?c2 ?k2 ?a3 ?l3 ?c3 ?k3 ?a4 ?l4 ?c4 ?k4 ?a5 ?l5 ?c5 ?k5 ?a6 ?l6 ?c6 ?k6 ?a7 ?l7 ?c7 ?k7 ?a8 ?l8 ?c8 ?k8 ?a9 ?l9 ?c9 ?k9 ?a10 ?l10 ?c10 ?k10 ?a11 ?l11 ?c11 ?k11 ?a12 ?l12 ?c12 ?k12 ?a13 ?l13 ?c13 ?k13 ?a14 ?l14 ?c14 ?k14 ?a15 ?l15 ?c15 ?k15 ?a16 ?l16 ?c16 ?k16 ?a17 ?l17 ?c17 ?k17 ?a18 ?l18 ?c18 ?k18 ?a19 ?l19 ?c19 ?k19 ?a20 ?l20 ?c20 ?k20 ?a21 ?l21 ?c21 ?k21 ?a22 ?l22 ?c22 ?k22 ?a23 ?l23 ?c23 ?k23 ?a24 ?l24 ?c24 ?k24 ?a25 ?l25 ?c25 ?k25 ?a26 ?l26 ?c26 ?k26 ?a27 ?l27 ?c27 ?k27 ?a28 ?l28 ?c28 ?k28 ?a29 ?l29 ?c29 ?k29 ?z0 ?z1 ?z2 ?z3 ?z4 ?z5 ?z6 ?z7 ?z8 ?z9 ?z10 ?z11 ?z12 ?z13 ?z14 ?z15 ?v0
  (case a0|l0|c0|k0|a1|l1|c1|k1|a2|l2|c2|k2=>k_is)
  (case a3|l3|c3|k3|a4|l4|c4|k4|a5|l5|c5|k5=>k_is)
  (case a6|l6|c6|k6|a7|l7|c7|k7|a8|l8|c8|k8=>k_is)
  (case a9|l9|c9|k9|a10|l10|c10|k10|a11|l11|c11|k11=>k_is)
  (case a12|l12|c12|k12|a13|l13|c13|k13|a14|l14|c14|k14=>k_is)
  (case a15|l15|c15|k15|a16|l16|c16|k16|a17|l17|c17|k17=>k_is)
  (case a18|l18|c18|k18|a19|l19|c19|k19|a20|l20|c20|k20=>k_is)
  (case a21|l21|c21|k21|a22|l22|c22|k22|a23|l23|c23|k23=>k_is)
  (case a24|l24|c24|k24|a25|l25|c25|k25|a26|l26|c26|k26=>k_is)
  (case a27|l27|c27|k27|a28|l28|c28|k28|a29|l29|c29|k29=>k_is)
  (case z0|z1|z2|z3|z4|z5|z6|z7|z8|z9|z10|z11=>k_is)
  (case z12|z13|z14|z15|v0=>k_is)
#print axioms PySem.Challenge.cw_unstruck_k52_next_in_order_holds
