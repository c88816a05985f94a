import PyProof.Rows.All
import Wide.All
import OpenK.AllK
import Wide.FinOn
import Lean
import PyProof.EqAt
import PyProof.EqKinds
import PyProof.TupleCall
import PyProof.StrLawsTight
import PyProof.StrLawsChain
import PyProof.StrLawsOcc
import PyProof.Cells
import OpenK.KLine
import PyProof.SumAny
import PyProof.Rows.SortShell
import PyProof.DictItems
import PyProof.DictWalks
import KE.KRevIter
import PyProof.JoinWalk
import PyProof.CollectIter
import PyProof.StrLawsIn
import PyProof.Rows.SetFrom
import PyProof.CollectWalk
import PyProof.Rows.SortWalk
import KE.KSortTup
import KE.KxPercent
import PyProof.TupleOfGen
import KE.KDictList
import PyProof.P3In
import PyProof.NeData
import PyProof.FactsAll.tuple_2
import KE.KTryMore
import PyProof.ExcArgsOwn
import PyProof.ExcAttrAll.ValueError
import PyProof.ExcBaseAll.ValueError
import PyProof.InstStoreFacts
import PySem.Challenge.RW_unstruck_k53_whole_order_of_placings
set_option bootstrap.genMatcherCode false
noncomputable section
set_option genSizeOf false
set_option genSizeOfSpec false
local macro_rules | `(tactic| omega)=> `(tactic| first | lia | omega (config:= {}))
set_option Elab.async false
set_option linter.all false
set_option maxRecDepth 100000
def L8:=@PySem.wpAny_bind
def L9:=@List.length_map
def MA:=@List.mem_cons_of_mem
def MB:=@List.mem_cons_self
def MC:=@PySem.wpAny_pure
def MD:=@PySem.Heap.get?_push_of_some
def ME:=@if_neg
def MF:=@if_pos
def MG:=@List.mem_map
def MH:=@Bool.and_eq_true
def MI:=@Bool.false_ne_true
def MJ:=@Nat.le_refl
def MK:=@List.length_cons
def ML:=@List.getD_eq_getElem?_getD
def MM:=@List.map_cons
def MN:=@List.getElem?_eq_getElem
def MO:=@decide_eq_true
def MP:=@List.mem_cons
def MQ:=@List.size_toArray
def MR:=@List.getElem?_map
def MS:=@List.all_eq_true
def MT:=@List.length_append
def MU:=@decide_eq_false
def MV:=@List.getElem?_eq_some_iff
def MW:=@PySem.Heap.get?_push_size
def MX:=@List.map_append
def MY:=@PySem.Heap.lt_size
def MZ:=@Option.some.inj
def Ma:=@List.mem_of_getElem?
def Mb:=@List.nodup_cons
def Mc:=@List.contains_iff_mem
def Md:=@Nat.ne_of_lt
def Me:=@of_decide_eq_true
def Mf:=@LawfulBEq.eq_of_beq
def Mg:=@List.map_map
def Mh:=@List.mem_filter
def Mi:=@List.mem_append
def Mj:=@List.mem_singleton
def Mk:=@Nat.zero_le
def Ml:=@Array.length_toList
def Mm:=@decide_eq_true_eq
def Mn:=@List.mem_range
def Mq:=@Nat.le_trans
def Mr:=@List.mem_append_left
def Ms:=@Bool.eq_iff_iff
def Mu:=@List.length_filter_le
def Mv:=@List.mem_append_right
def Mw:=@congrArg
def Mx:=@PySem.wpAny_call_entry
def My:=@PySem.mem_of_lookup
def Mz:=@PySem.Heap.get?_update_other
def M0:=@Nat.lt_of_lt_of_le
def M3:=@List.length_range
def M4:=@PySem.wpAny_newObj_type
def M5:=@List.nodup_append
def M6:=@PySem.Heap.get?_update_self
def M7:=@List.map_congr_left
def M8:=@PySem.sizeLine_eq
def M9:=@List.not_mem_nil
def NA:=@List.lookup_cons
def NC:=@List.getElem?_range
def ND:=@PyProof.Rows.slot_tuple_getitem
def NE:=@PyProof.Rows.callWith_type1
def NG:=@List.getElem?_set_ne
def NH:=@List.append_nil
def NI:=@List.append_assoc
def NJ:=@Bool.not_eq_true'
def NK:=@List.getElem?_eq_none
def NL:=@PySem.Obj.data_mapFields
def NM:=@PySem.wpAny_callSpecial?_slot
def NO:=@Option.bind_some
def NP:=@List.find?_cons
def NQ:=@List.foldl_cons
def NR:=@PySem.wpAny_holding
def NS:=@PySem.PassesOwn.never
def NT:=@Nat.lt_succ_of_lt
def NU:=@Array.getD_eq_getD_getElem?
def NV:=@PySem.AutoSeq1.wpAny_loadPart'
def NW:=@PySem.wpAny_truthy_bool
def NX:=@List.any_eq_true
def NY:=@Classical.byContradiction
def NZ:=@Ne.symm
def Na:=@Int.toNat_natCast
def Nb:=@Array.getElem?_toList
def Nc:=@Nat.zero_add
def Nd:=@Nat.ne_of_gt
def Nf:=@List.take_length
def Ng:=@List.pairwise_append
def Nh:=@List.length_take
def Ni:=@List.filter_cons
def Nj:=@PySem.wpAny_mono
def Nk:=@List.map_nil
def Nl:=@List.getElem?_set_self
def Nm:=@List.length_set
def No:=@Bool.or_eq_true
def Np:=@List.drop_eq_getElem_cons
def Nq:=@List.length_singleton
def Nr:=@PySem.Heap.SameBut.update
def Nt:=@List.pairwise_cons
def Nu:=@PySem.Obj.isFreed_of_fields
def Nv:=@List.mem_of_mem_drop
def Nw:=@decide_eq_false_iff_not
def Nx:=@List.getElem?_cons_succ
def Ny:=@List.foldl_append
def Nz:=@Bool.eq_false_iff
def N0:=@beq_eq_false_iff_ne
def N1:=@PySem.wpAny_setField
def N2:=@PySem.Heap.size_push
def N6:=@PySem.codeAny_builtin
def N7:=@List.length_drop
def OA:=@List.getElem_mem
def OB:=@List.getElem_map
def OC:=@Bool.not_eq_true
def OE:=@PySem.boot_len
def OF:=@List.lookup_append
def OG:=@List.filter_append
def OH:=@List.contains_cons
def OI:=@Bool.false_eq_true
def OJ:=@List.getElem?_zipWith
def OK:=@PySem.wpAny_of_eq
def OL:=@PySem.wpAny_field
def OM:=@List.getElem?_append_left
def ON:=@Option.map_some
def OO:=@List.range_succ
def OP:=@or_false
def OQ:=@List.take_add_one
def OR:=@List.pairwise_map
def OS:=@PySem.builtinLookup_eq_fast
def OT:=@beq_iff_eq
def OU:=@Nat.lt_irrefl
def OV:=@PySem.wpAny_loadPart'
def OX:=@List.length_zipWith
def OY:=@decide_eq_decide
def OZ:=@PySem.Around.under_plainId
def Oa:=@Nat.lt_trans
def Ob:=@Nat.le_of_lt
def Oc:=@PySem.W.kia_one
def Od:=@PySem.wpAny_typeNameOfWhole_keyiter
def Oe:=@if_false
def Of:=@PySem.wpAny_specialOf
def Og:=@PySem.wpAny_passesOwn
def Oh:=@Nat.le_succ
def Oi:=@List.getElem?_append_right
def Oj:=@decide_false
def Ol:=@Nat.lt_or_ge
def Om:=@Int.zero_add
def On:=@PySem.wpAny_pyIter_slot
def Oo:=@PySem.wpAny_dictEntries
def Op:=@Array.getElem?_eq_getElem
def Oq:=@PyProof.Rows.F.plain_set_update_loop
def Os:=@List.replicate_succ
def Ot:=@List.length_reverse
def Ou:=@List.any_cons
def Ov:=@List.all_cons
def Ow:=@List.length_nil
def Ox:=@PySem.wpAny_isInstance
def Oy:=@PySem.wpAny_askSetting
def Oz:=@Nat.add_sub_cancel
def O0:=@List.map_singleton
def O3:=@Int.emod_lt_of_pos
def O4:=@List.filter_cons_of_pos
def O5:=@List.filter_cons_of_neg
def O6:=@PySem.wpAny_typeNameOf_keyiter
def O7:=@PySem.wpAny_attempt
def O8:=@PySem.AutoSeq1.sub_tuple_tuple
def O9:=@Nat.succ.inj
def PB:=@List.getElem?_set
def PD:=@List.all_map
def PF:=@PySem.typeLookup_type
def PH:=@PyProof.Rows.mirror_perm
def PJ:=@PySem.wpAny_rule
def PK:=@Bool.beq_eq_decide_eq
def PL:=@List.perm_middle
def PM:=@List.drop_length
def PN:=@if_true
def PP:=@PySem.wpAny_typeOf
def PQ:=@PySem.wpAny_setState_of
def PR:=@PySem.richCompare_meets_room
def PU:=@PySem.isSubtype_type
def PX:=@PySem.Obj.cls_mapFields
def PY:=@PySem.Calls.callWith_builtin
def PZ:=@List.mem_of_mem_take
def Pa:=@not_or
def Pb:=@Int.emod_nonneg
def Pc:=@Array.Perm.refl
def Pd:=@Nat.min_self
def Pe:=@PySem.wpAny_newList
def Pf:=@PySem.Paired.length
def Pg:=@Prod.ext
def Ph:=@Nat.lt_of_le_of_lt
def Pi:=@List.find?_eq_none
def Pj:=@Bool.false_and
def Pk:=@List.pairwise_iff_getElem
def Pm:=@List.take_sublist
def Pn:=@List.flatten_cons
def Po:=@List.filter_congr
def Pp:=@List.ext_getElem?
def Pq:=@Int.le_refl
def Pr:=@PySem.F.args_tuple_add_2
def Ps:=@List.map_drop
def Pt:=@List.length_erase_of_mem
def Pu:=@List.Perm.eq_of_pairwise
def Px:=@PySem.wpAny_pyIter_tuple
def Py:=@PySem.tupleKind_room_in1
def Pz:=@PySem.Calls.call_function_entry
def P0:=@PySem.wpAny_pyIter_list
def P2:=@PySem.wpAny_pyIter_enum
def P4:=@PySem.plainId_quiet
namespace L2
open PySem PySem.Spec PyProof.Rows
abbrev ah:=Sum Int Str
noncomputable def oG:ah->Value->Bool
 | .inl k,v=>Value.isInt k v| .inr x,v=>Value.isStrOf x v
noncomputable def keyH(w:World):ah->Int
 | .inl k=>hashInt k| .inr x=>hashStr w x
theorem bA:∀{k:ah}{v:Value},oG k v=true->(∃i t,k=Sum.inl i/\v=Value.int i t)\/(∃x t,k=Sum.inr x/\v=Value.str x t)
 | .inl i,v,h=>by obtain⟨t,e⟩:=Value.isInt_shape (k:=i) (v:=v) h;exact .inl ⟨i,t,rfl,e⟩
 | .inr x,v,h=>by obtain⟨t,e⟩:=Value.isStrOf_shape (x:=x) (v:=v) h;exact .inr ⟨x,t,rfl,e⟩
theorem yq(i:Int)(t:Tok):oG (.inl i) (.int i t)=true:=by simp[oG,Value.isInt]
theorem yo(x:Str)(t:Tok):oG (.inr x) (.str x t)=true:=by simp[oG,Value.isStrOf]
theorem II(a b:Int):decide ((Sum.inl a:ah)=Sum.inl b)=(a==b):=by
 by_cases e:a=b;subst e;simp
 .have h:¬(Sum.inl a:ah)=Sum.inl b:=λq=>e (Sum.inl.inj q)
  rw[MU h];exact(N0.mpr e).symm
theorem ID(a b:Str):decide ((Sum.inr a:ah)=Sum.inr b)=decide (a=b):=by
 by_cases e:a=b;subst e;simp
 .have h:¬(Sum.inr a:ah)=Sum.inr b:=λq=>e (Sum.inr.inj q)
  rw[MU h,MU e]
theorem IG(a:Int)(b:Str):decide ((Sum.inl a:ah)=Sum.inr b)=false:=MU (λq=>nomatch q)
theorem IF(a:Str)(b:Int):decide ((Sum.inr a:ah)=Sum.inl b)=false:=MU (λq=>nomatch q)
noncomputable def aT(c:Program)(w:World):PySem.KeyKind c w ah where
 is:=oG
 hash:=keyH w
 inj:=λv a b ha hb=>by
  rcases bA ha with⟨i,t,rfl,rfl⟩|⟨x,t,rfl,rfl⟩
  .rcases bA hb with⟨j,u,rfl,e⟩|⟨y,u,rfl,e⟩
   .injection e with e1 _;rw[e1]
   .exact nomatch e
  .rcases bA hb with⟨j,u,rfl,e⟩|⟨y,u,rfl,e⟩
   .exact nomatch e
   .injection e with e1 _;rw[e1]
 byValue:=λk v h=>by
  rcases bA h with⟨i,t,rfl,rfl⟩|⟨x,t,rfl,rfl⟩<;>rfl
 pyHash:=λhv h=>by
  rcases bA hv with⟨i,t,rfl,rfl⟩|⟨x,t,rfl,rfl⟩
  .exact wpAny_pyHash_int h
  .exact wpAny_pyHash_str h
 eqBool:=λhu hv h=>by
  rcases bA hu with⟨i,t,rfl,rfl⟩|⟨x,t,rfl,rfl⟩
  .rcases bA hv with⟨j,u,rfl,rfl⟩|⟨y,u,rfl,rfl⟩
   .rw[II]at h;exact wpAny_eqBool_int h
   .rw[IG]at h;exact SeqAt.EqAt.int_str i t y u _ _ _ _ h
  .rcases bA hv with⟨j,u,rfl,rfl⟩|⟨y,u,rfl,rfl⟩
   .rw[IF]at h;exact SeqAt.EqAt.str_int x t j u _ _ _ _ h
   .rw[ID]at h;exact wpAny_eqBool_str h
 «strs»:=λk x t v h=>by
  rcases bA h with⟨i,u,rfl,e⟩|⟨y,u,rfl,e⟩
  .exact nomatch e
  .injection e with e1 _
   subst e1;cases v<;>rfl
theorem sf(a:Program)(w:World)(i:Int)(t:Tok):(aT a w).is (.inl i) (.int i t)=true:=yq i t
theorem se(a:Program)(w:World)(x:Str)(t:Tok):(aT a w).is (.inr x) (.str x t)=true:=yo x t
inductive V where
 | non|bl (b:Bool)|int (i:Int)|str (x:Str)|byt (b:Array UInt8)|flt (b:UInt64)|ref (a:Addr)|ty (n:String)
 deriving DecidableEq
def RelV:V->Value->Prop
 | .non,u=>u=Value.none| .bl b,u=>u=Value.bool b| .int i,u=>∃t,u=Value.int i t| .str x,u=>∃t,u=Value.str x t| .byt b,u=>∃t,u=Value.bytes b t| .flt b,u=>∃t,u=Value.float b t| .ref a,u=>u=Value.ref a| .ty n,u=>u=Value.type n
abbrev aR:List V->List Value->Prop:=Paired RelV
theorem aR.length(r:aR a b):a.length=b.length:=Pf r
theorem aR.get:∀{b:List V}{a:List Value}{i:Nat}{x:V},aR b a->b[i]? =some x->∃u,a[i]? =some u/\RelV x u
 |_,_,_,_,.nil,e=>by simp at e|_,_,0,_,.cons r _,e=>by simp at e;subst e;exact⟨_,rfl,r⟩|_,_,i+1,x,.cons _ t,e=>by obtain⟨u,c,d⟩:=aR.get (i:=i) (x:=x) t (by simpa using e);exact⟨u,by simpa using c,d⟩
theorem aR.set{x:V}{u:Value}(r:RelV x u):∀{b:List V}{a:List Value}(i:Nat),aR b a->aR (b.set i x) (a.set i u)
 |_,_,_,.nil=>.nil|_,_,0,.cons _ t=>.cons r t|_,_,i+1,.cons q t=>.cons q (aR.set r i t)
theorem aR.append(h:aR d b)(k:aR a c):aR (d++a) (b++c):=by
 induction h with
 |nil=>exact k|cons r t e=>exact .cons r e
theorem aR.take:∀{a:List V}{b:List Value}(n:Nat),aR a b->aR (a.take n) (b.take n)
 |_,_,0,_=>.nil|_,_,_+1,.nil=>.nil|_,_,n+1,.cons r t=>.cons r (aR.take n t)
theorem aR.drop:∀{a:List V}{b:List Value}(n:Nat),aR a b->aR (a.drop n) (b.drop n)
 |_,_,0,r=>r|_,_,_+1,.nil=>.nil|_,_,n+1,.cons _ t=>aR.drop n t
def j7:Option V->Option Value->Prop
 |some v,some u=>RelV v u|none,none=>True|_,_=>False
def KV{a:Type}:List (a×V)->List (a×Value)->Prop:=Paired λ(p:a×V)(q:a×Value)=>p.1=q.1/\RelV p.2 q.2
noncomputable def kV:ah->V
 | .inl i=>.int i| .inr x=>.str x
inductive HO where
 | lst (xs:List V)
 | tup (xs:List V)
 | dK (kvs:List (ah×V))|dT (kvs:List (List ah×V))
 | set (S:Int->Bool) (n:Nat)
 | ins (C dx:Addr) (fs:List (Str×V))
 | own (x:Addr)
 | xd (fs:List (Str×V))
 | met (f x:Addr)
 | rng (lo hi:Int)
 | frz (o:Obj) (u:HO)
 | tbl (ps:Array Value)
 | ext (φ:Heap->Prop)
abbrev Hp:=Addr->Option HO
noncomputable def upd(H:Hp)(a:Addr)(o:HO):Hp:=λb=>if b=a then some o else H b
set_option tactic.hygienic false
theorem aB:upd H a o a=some o:=by unfold upd;rw[MF rfl]
theorem aA(h:b≠a):upd H a o b=H b:=by unfold upd;rw[ME h]
theorem DH:upd (upd H a o) a u=upd H a u:=by funext b;unfold upd;split<;>rfl
theorem BM{H:Hp}(h:H a=some o)(c:H b=some u)(d:o≠u):a≠b:=by intro e;subst e;rw[h]at c;exact d (MZ c)
theorem aD{H:Hp}(h:H a=some o)(c:H b=none):a≠b:=by intro e;subst e;rw[h]at c;cases c
def fm(h:Heap)(a:Addr)(b:Array Value):Prop:=∃o,h.get? a=some o/\o.cls=.type "tuple"/\∃n,o.data=.seq b n/\o.dict=none
theorem fm.tup{h:Heap}{a:Addr}{b:Array Value}(x:fm h a b):IsTup h a b:=let⟨o,e,c,n,d,_⟩:=x;⟨o,e,c,n,d⟩
theorem fm.new(h:Heap)(a:Array Value):fm (h.push {cls:=.type "tuple",data:=.seq a}) h.objs.size a:=⟨_,MW _ rfl,rfl,_,rfl,rfl⟩
section
variable(P:Program)(w:World)
def al(H:Hp)(h:Heap)(a:Addr):HO->Prop
 | .lst d=>d.length<=sizeLine/\∃(c:List Value)(n:Nat),aR d c/\h.get? a=some {cls:=.type "list",data:=.seq c.toArray n}| .tup d=>d.length<=sizeLine/\∃c:List Value,aR d c/\fm h a c.toArray| .dK b=>b.length<=sizeLine/\(a==sysModules)=false/\∃m,KV b m/\h.DictOf (aT P w) a m| .dT b=>b.length<=sizeLine/\(a==sysModules)=false/\∃d:List (List ah×Addr×Value),Paired (λ(p:List ah×V) (q:List ah×Addr×Value)=>p.1=q.1/\H q.2.1=some (.tup (p.1.map kV))/\RelV p.2 q.2.2) b d /\ ∃o r z,h.get? a=some o/\o.ExactDict/\o.data=.dict r z/\r.toList=d.map (entryOfKey (tupleKind (aT P w)))/\(d.map (·.1)).Nodup| .set S n=>h.SetOf (intKind P w) a S n| .ins C i g=>H i=some (.own a)/\g.length<=1000/\i≠a/\h.get? a=some (W.instObj C i) /\ ∃e,h.Ns1 i e/\(∀f,j7 (g.lookup f) (e f))/\PySem.Within e (g.map (·.1))| .own _=>∃o,h.get? a=some o| .xd g=>∃e,h.Ns1 a e/\∀f,j7 (g.lookup f) (e f)| .rng s A=>∃t u v,h.get? a=some {cls:=.type "range",data:=.fields #[.int s t,.int A u,.int 1 v]}| .frz o u=>h.get? a=some o/\al H h a u| .tbl y=>h.get? a=some {cls:=.none,data:=.fields y}| .met f x=>h.get? a=some (W.methodObj (.ref f) (.ref x))| .ext j=>j h/\(∃o,h.get? a=some o)/\∀k l:Heap,j k->(∀o,k.get? a=some o->l.get? a=some o)->j l
def fo(H:Hp)(h:Heap):Prop:=∀a o,H a=some o->al P w H h a o
end
section
variable{P:Program}{w:World}{H H' :Hp}{h h' :Heap}{a:Addr}{o:HO}
theorem al.lt(x:al P w H h a o):a<h.objs.size:=by
 cases o with
 |lst d=>obtain⟨_,_,_,_,e⟩:=x;exact MY e
 |tup d=>obtain⟨_,_,_,p⟩:=x;exact p.tup.lt
 |dK b=>obtain⟨_,_,_,_,o,_,_,e,_⟩:=x;exact MY e
 |dT b=>obtain⟨_,_,_,_,o,_,_,e,_⟩:=x;exact MY e
 |set S n=>obtain⟨o,_,_,_,e,_⟩:=x;exact MY e
 |ins C i c=>obtain⟨_,_,_,e,_⟩:=x;exact MY e
 |own y=>obtain⟨_,e⟩:=x;exact MY e
 |xd c=>obtain⟨_,⟨_,_,_,e,_⟩,_⟩:=x;exact MY e
 |rng g k=>obtain⟨_,_,_,e⟩:=x;exact MY e
 |frz m u=>obtain⟨e,_⟩:=x;exact MY e
 |tbl j=>exact MY (show h.get? a=some _ from x)|met f y=>exact MY (show h.get? a=some _ from x)|ext l=>obtain⟨_,⟨_,e⟩,_⟩:=x;exact MY e
theorem Paired.mapP{g e:Type}{F G:g->e->Prop}{c:List g}{d:List e}(h:Paired F c d)(f:∀a b,F a b->G a b):Paired G c d:=by
 induction h with
 |nil=>exact .nil|cons r t i=>exact .cons (f _ _ r) i
theorem Paired.imp'{g e:Type}{F G:g->e->Prop}(f:∀a b,F a b->G a b){c:List g}{d:List e}(r:Paired F c d):Paired G c d:=Paired.mapP r f
theorem al.stay(x:al P w H h a o)(k:∀b u,(b=a\/H b=some (.own a))->h.get? b=some u->h'.get? b=some u)
  (K:∀b,H b=some (.own a)->H' b=some (.own a)) (I:∀b m,H b=some (.tup m)->H' b=some (.tup m)):al P w H' h' a o:=by
 induction o with
 |lst m=>obtain⟨z,l,n,r,e⟩:=x;exact⟨z,l,n,r,k _ _ (.inl rfl) e⟩
 |tup m=>obtain⟨z,l,r,g,e,c⟩:=x;exact⟨z,l,r,g,k _ _ (.inl rfl) e,c⟩
 |dK s=>obtain⟨z,y,L,r,g,i,j,e,c⟩:=x;exact⟨z,y,L,r,g,i,j,k _ _ (.inl rfl) e,c⟩
 |dT s=>obtain⟨z,y,m,r,g,i,j,e,c⟩:=x;exact⟨z,y,m,Paired.mapP r λp q z=>⟨z.1,I _ _ z.2.1,z.2.2⟩,g,i,j,k _ _ (.inl rfl) e,c⟩
 |set S n=>obtain⟨g,i,j,t,e,c⟩:=x;exact⟨g,i,j,t,k _ _ (.inl rfl) e,c⟩
 |ins C O F=>obtain⟨d,z,G,e,A,⟨B,i,j,J,c⟩,r⟩:=x;exact⟨K _ d,z,G,k _ _ (.inl rfl) e,A,⟨B,i,j,k _ _ (.inr d) J,c⟩,r⟩
 |own y=>obtain⟨g,e⟩:=x;exact⟨g,k _ _ (.inl rfl) e⟩
 |xd F=>obtain⟨A,⟨B,i,j,e,c⟩,r⟩:=x;exact⟨A,⟨B,i,j,k _ _ (.inl rfl) e,c⟩,r⟩
 |rng N R=>obtain⟨t,u,v,e⟩:=x;exact⟨t,u,v,k _ _ (.inl rfl) e⟩
 |frz g u M=>obtain⟨e,q⟩:=x;exact⟨k _ _ (.inl rfl) e,M q⟩
 |tbl D=>have e:h.get? a=some {cls:=.none,data:=.fields D}:=x;show h'.get? a=some {cls:=.none,data:=.fields D};exact k a _ (.inl rfl) e
 |met f y=>have e:h.get? a=some (W.methodObj (.ref f) (.ref y)):=x;show h'.get? a=some (W.methodObj (.ref f) (.ref y));exact k a _ (.inl rfl) e
 |ext Q=>obtain⟨p,⟨o,e⟩,E⟩:=x;exact⟨E _ _ p λo q=>k _ _ (.inl rfl) q,⟨o,k _ _ (.inl rfl) e⟩,E⟩
theorem fo.lt(x:fo P w H h)(e:H a=some o):a<h.objs.size:=(x a o e).lt
theorem fo.fresh(x:fo P w H h)(e:h.objs.size<=a):H a=none:=by
 cases q:H a with
 |none=>rfl|some u=>exact absurd (M0 (x.lt q) e) (OU _)
theorem fo.kept(x:fo P w H h)(k:∀b u,h.get? b=some u->h'.get? b=some u):fo P w H h' :=λa o e=>
 (x a o e).stay (λb u _ q=>k b u q) (λ_ q=>q) λ_ _ q=>q
theorem fo.laid(x:fo P w H h)(k:∀b u,h.get? b=some u->h'.get? b=some u)(i:h.objs.size<=a)(d:al P w (upd H a o) h' a o):fo P w (upd H a o) h' :=λb u e=>by
 have g:=x.fresh i
 by_cases f:b=a;subst f;rw[aB]at e;cases e;exact d
 .rw[aA f]at e
  exact(x b u e).stay (λc v _ q=>k c v q) (λc q=>by rw[aA (aD q g)];exact q) λc xs q=>by rw[aA (aD q g)];exact q
end
def Rd(H:Hp)(a:Addr)(u:HO):Prop:=H a=some u\/∃o,H a=some (.frz o u)
theorem Rd.ok(r:Rd H a u)(x:fo P w H h):al P w H h a u:=by
 rcases r with r|⟨o,r⟩
 .exact x a u r
 .obtain⟨_,q⟩:=x a _ r
  exact q
def Lr:Option HO->Prop
 |some (.lst _)=>True|some (.dK _)=>True|some (.dT _)=>True|some (.set _ _)=>True|some (.ins _ _ _)=>True|some (.ext _)=>True|_=>False
section
variable{P:Program}{w:World}{H:Hp}{h h' :Heap}{x e:Addr}{o' :HO}
theorem fo.write(s:fo P w H h)(j:Lr (H x))(p:e=x\/H e=some (.own x))(k:∀b u,b≠e->h.get? b=some u->h'.get? b=some u)(m:∃u,h'.get? e=some u)
  (n:al P w (upd H x o') h' x o'):fo P w (upd H x o') h' :=λb u q=>by
 have d:∀c y,H c=some (.own y)->c≠x:=λc y r z=>by subst z;rw[r]at j;exact j
 have f:∀c l,H c=some (.tup l)->c≠x:=λc l r z=>by subst z;rw[r]at j;exact j
 by_cases i:b=x;subst i;rw[aB]at q;cases q;exact n
 .rw[aA i]at q
  by_cases a:b=e
  .have o:H b=some (.own x):=by
    rcases p with z|z
    .exact absurd (a.trans z) i
    .rw[a];exact z
   rw[q]at o;cases o;obtain⟨v,t⟩:=m;exact⟨v,by rw[a];exact t⟩
  .refine(s b u q).stay (λc v g r=>k c v ?_ r) (λc r=>by rw[aA (d c b r)];exact r) λc l r=>by rw[aA (f c l r)];exact r
   rcases g with rfl|g
   .exact a
   .rintro rfl
    rcases p with z|z
    .exact d c b g z
    .rw[g]at z;cases z;exact i rfl
end
set_option tactic.hygienic true
structure Un(fs ex:List Addr)(H H' :Hp)(h h' :Heap):Prop where
 keep:∀b o,h.get? b=some o->H b=none->b∉fs->b∉ex->h'.get? b=some o
 slot:∀b o,h.get? b=some o->H b=none->b∈fs->b∉ex->∃sl,h'.get? b=some {o with slots:=sl}
 free:∀b o,h.get? b=some o->H b=none->b∉ex->H' b=none
 there:∀b o,h.get? b=some o->b∉ex->∃o',h'.get? b=some o'
 tups:∀b xs,H b=some (.tup xs)->H' b=some (.tup xs)
 frzs:∀b o u,H b=some (.frz o u)->H' b=some (.frz o u)
 tbls:∀b ps,H b=some (.tbl ps)->∃more,H' b=some (.tbl (ps++more))
section
variable{fs fs' ex ex' :List Addr}{H H1 H2:Hp}{h h1 h2 h' :Heap}{a x e:Addr}{o:HO}
theorem Un.any(u:Un fs ex H H1 h h1)(q:h.get? b=some c)(n:H b=none)(f:b∉ex):∃g,h1.get? b=some {c with slots:=g}:=by by_cases d:b∈fs;exact u.slot b c q n d f;exact⟨c.slots,u.keep b c q n d f⟩
theorem Un.kept(k:∀b u,h.get? b=some u->h'.get? b=some u):Un fs ex H H h h' := ⟨λb ob q _ _ _=>k b ob q,λb ob q _ _ _=>⟨ob.slots,k b ob q⟩,λ_ _ _ n _=>n,λb ob q _=>⟨ob,k b ob q⟩,λ_ _ q=>q,λ_ _ _ q=>q,λ_ ps q=>⟨#[],by rw[q];simp⟩⟩
theorem Un.refl:Un fs ex H H h h:=Un.kept λ_ _ q=>q
theorem Un.laid(k:∀b u,h.get? b=some u->h'.get? b=some u)(d:h.objs.size<=a)(c:H a=none):Un fs ex H (upd H a o) h h' where
 keep:=λb u q _ _ _=>k b u q
 slot:=λb u q _ _ _=>⟨u.slots,k b u q⟩
 free:=λb u q n _=>by rw[aA (Md (M0 (MY q) d))];exact n
 there:=λb u q _=>⟨u,k b u q⟩
 tups:=λb xs q=>by rw[aA (aD q c)];exact q
 frzs:=λb u xs q=>by rw[aA (aD q c)];exact q
 tbls:=λb ps q=>⟨#[],by rw[aA (aD q c),q];simp⟩
theorem Un.write(d:Lr (H x))(l:e=x\/H e=some (.own x))(k:∀b u,b≠e->h.get? b=some u->h'.get? b=some u)(g:∃u,h'.get? e=some u):Un fs ex H (upd H x o) h h' :=by
 have j:∀b,H b=none->b≠x:=λb n z=>by subst z;rw[n]at d;exact d
 have i:∀b,H b=none->b≠e:=λb n z=>by
  subst z
  rcases l with r|r
  .exact j b n r
  .rw[n]at r;cases r
 have f:∀b u,H b=some u->¬Lr (some u)->b≠x:=λb u q nm z=>by subst z;rw[q]at d;exact nm d
 refine⟨λb u q n _ _=>k b u (i b n) q,λb u q n _ _=>⟨u.slots,k b u (i b n) q⟩,λb u q n _=>by rw[aA (j b n)];exact n,λb u q _=> ?_,λb xs q=>by rw[aA (f b _ q λz=>z)];exact q,λb u xs q=>by rw[aA (f b _ q λz=>z)];exact q,λb ps q=>⟨#[],by rw[aA (f b _ q λz=>z),q];simp⟩⟩
 by_cases c:b=e;subst c;exact g;exact⟨u,k b u c q⟩
end
noncomputable def trk(h:Heap)(H:Hp):List Addr:=(List.range h.objs.size).filter λa=>(H a).isSome
noncomputable def qH(h:Heap)(H:Hp):Heap:=W.hideAll h (trk h H)
theorem yv(h:Heap)(H:Hp):(qH h H).objs.size=h.objs.size:=W.hideAll_size _ _
theorem Bv(e:h.get? b=some o)(n:H b=none):(qH h H).get? b=some o:= W.hideAll_get _ e λhm=>by have q:(H b).isSome=true:=(Mh.mp hm).2;rw[n]at q;simp at q
theorem ED(e:(qH h H).get? b=some o):h.get? b=some o/\H b=none:=by
 have a:h.get? b=some o:=W.of_hideAll (trk h H) e;refine⟨a,?_⟩;cases q:H b with
 |none=>rfl|some x=>have c:b∈trk h H:=Mh.mpr ⟨Mn.mpr (MY a),by simp[q]⟩;have z:(qH h H).get? b=none:=W.hideAll_none (trk h H) c;rw[z]at e;cases e
noncomputable def Fd(g h:Heap)(L:Addr):List (Addr×Obj):=(List.range h.objs.size).filterMap λa=>if a=L\/(g.get? a).isSome=true then none else(h.get? a).map λo=>(a,o)
noncomputable def aL(g h:Heap)(L d:Addr):List (Addr×Obj):=(Fd g h L).filter λp=>decide (p.1≠d)
structure Mod(K:W.Frag)(mg:Str->Option Value)(base:Heap):Prop where
 kin:K.In base
 glob:base.Ns mainGlobals mg
 blt:∃mb,base.Ns builtinsNs mb/\∀x:Str,x≠"__name__"->mb x=bootBuiltins x
 nolimit:base.NoLimit
structure Cx where
 prog:Program
 w:World
 K:W.Frag
 mg:Str->Option Value
 base:Heap
 A:Around
 N:List Str
 s₀:Shared
 H₀:Hp
 env:Env
 outer:List Env
 stack:List Env
 ex:List Addr
 fn:Str->Bool
 calm:Bool
 pn:List (Addr×Obj)
 xe:Value->Shared->Prop
noncomputable def vS(l:List Env):List Addr:=l.filterMap (·.frame)
noncomputable abbrev Cx.fs(X:Cx):List Addr:=vS X.outer
def Jp(a:Scope)(x:Str):Prop:=a.names.lookup x=some .local\/a.names.lookup x=some .cell\/a.names.lookup x=some .free
def Loc(a:Scope)(x:Str):Prop:=a.names.lookup x=some .local\/a.names.lookup x=some .cell
def Look(a:Env)(h:Heap)(m:Str->Option Value)(x:Str)(u:Value):Prop:=
 (a.kindOf x=some .local/\m x=some u)\/((a.kindOf x=some .cell\/a.kindOf x=some .free)/\∃c,a.cells.lookup x=some c/\h.IsCell c (some u))
structure Cx.Ok(X:Cx):Prop where
 mod:Mod X.K X.mg X.base
 kind:X.env.scope.kind=.function
 glob:X.env.globals=mainGlobals
 blt:X.env.builtins=builtinsNs
 above:X.s₀.heap.objs.size<=X.env.locals
 inj:∀x y c,X.env.cells.lookup x=some c->X.env.cells.lookup y=some c->x=y
 has:∀x,(X.env.kindOf x=some .cell\/X.env.kindOf x=some .free)->∃c,X.env.cells.lookup x=some c
 cab:∀x c,X.fn x=true->X.env.cells.lookup x=some c->X.s₀.heap.objs.size<=c
 hd:X.calm=true->X.A.handled=none
 frames:X.A.frames=some X.stack
 stk:X.stack=X.outer\/(X.stack=X.env::X.outer/\X.env.frame=some X.env.locals)
 exf:∀b∈X.ex,b≠X.env.locals/\∀x c,X.env.cells.lookup x=some c->c≠b
 bs:∀b o,X.base.get? b=some o->X.s₀.heap.get? b=some o/\X.H₀ b=none
 bsz:X.base.objs.size<=X.s₀.heap.objs.size
 noex:∀b o,X.base.get? b=some o->b∉X.ex
 exfs:∀b∈X.ex,b∉X.fs
 funs:X.s₀.heap.FunFrames X.base X.outer
 frf:∀b∈X.fs,X.H₀ b=none
structure Inv(X:Cx)(pins:List (Addr×Obj))(σ:List (Option V))(H:Hp)(s:Shared):Prop where
 ok:X.Ok
 os:s.os=X.s₀.os
 bare:AllBare s.gens
 base:Un X.fs X.ex X.H₀ H X.s₀.heap s.heap
 loc:∃m,s.heap.Ns X.env.locals m/\∀(i:Nat)(x:Str)(v:V),X.N[i]? =some x->σ[i]? =some (some v)->Jp X.env.scope x->∃u,RelV v u/\Look X.env s.heap m x u
 cell:∀x c,X.env.cells.lookup x=some c->∃v,s.heap.IsCell c v
 free:H X.env.locals=none
 freeC:∀x c,X.env.cells.lookup x=some c->H c=none
 pin:∀p∈X.pn++pins,s.heap.get? p.1=some p.2/\H p.1=none/\p.1≠X.env.locals/\p.1∉X.fs/\∀v,p.2.data≠.cell v
 hok:fo X.prog X.w H s.heap
 len:σ.length=X.N.length
section
variable{X:Cx}{pins:List (Addr×Obj)}{σ:List (Option V)}{H H' :Hp}{s:Shared}{h' :Heap}
set_option tactic.hygienic false
theorem Cx.Ok.nofr(a:X.Ok)(e:X.base.get? b=some o):b∉X.fs:=λhb=>by have:=(a.funs.mem hb).1;rw[e]at this;cases this
theorem Inv.bs(I:Inv X pins σ H s):∀b o,X.base.get? b=some o->s.heap.get? b=some o/\H b=none:=λb o e=>
 ⟨I.base.keep b o (I.ok.bs b o e).1 (I.ok.bs b o e).2 (I.ok.nofr e) (I.ok.noex b o e),I.base.free b o (I.ok.bs b o e).1 (I.ok.bs b o e).2 (I.ok.noex b o e)⟩
theorem Inv.bk(I:Inv X pins σ H s):∀b o,X.base.get? b=some o->s.heap.get? b=some o:=λb o e=>(I.bs b o e).1
theorem Inv.mod(I:Inv X pins σ H s):Mod X.K X.mg X.base:=I.ok.mod
theorem Inv.kIn(I:Inv X pins σ H s):X.K.In s.heap:=I.ok.mod.kin.keeps I.bk
theorem Inv.lt(I:Inv X pins σ H s):X.env.locals<s.heap.objs.size:=let⟨_,hn,_⟩:=I.loc;hn.lt
theorem Inv.sz(I:Inv X pins σ H s):X.s₀.heap.objs.size<=s.heap.objs.size:=Mq I.ok.above (Ob I.lt)
theorem Inv.nofs(I:Inv X pins σ H s)(h:s.heap.objs.size<=a):a∉X.fs:=λhb=>by obtain⟨_,o,b,_⟩:=I.ok.funs.mem hb;exact absurd (M0 (MY b) (Mq I.sz h)) (OU _)
theorem Inv.cne(I:Inv X pins σ H s):∀x c,X.env.cells.lookup x=some c->c≠X.env.locals:=λx c e z=>by obtain⟨v,o,d,f⟩:=I.cell x c e;obtain⟨m,⟨g,h,i,b,a,_⟩,_⟩:=I.loc;rw[z,b]at d;cases d;rw[a]at f;cases f
theorem Inv.funs(I:Inv X pins σ H s):s.heap.FunFrames X.base X.outer:=by
 have c:∀(l:List Env),(∀b∈vS l,b∈X.fs)->X.s₀.heap.FunFrames X.base l->s.heap.FunFrames X.base l:=by
  intro l
  induction l with
  |nil=>intro _ _;trivial|cons i r g=>intro f p;obtain⟨h,⟨L,o,d,j,k,n⟩,m⟩:=p;have a:L∈X.fs:=f L (by unfold vS;rw[List.filterMap_cons,d];exact MB);obtain⟨q,e⟩:=I.base.slot L o k (I.ok.frf L a) a λz=>I.ok.exfs L z a;exact⟨h,⟨L,_,d,j,e,n⟩,g (λb hb=>f b (by unfold vS;rw[List.filterMap_cons,d];exact MA _ hb)) m⟩
 exact c X.outer (λ_ hb=>hb) I.ok.funs
theorem Inv.stack(I:Inv X pins σ H s):s.heap.FunFrames X.base X.stack:=by
 rcases I.ok.stk with e|⟨e,b⟩
 .rw[e];exact I.funs
 .rw[e]
  obtain⟨m,a,_⟩:=I.loc;refine .cons (by rw[I.ok.kind];decide) b a ?_ I.funs;exact Heap.get?_none_of_le (Mq I.ok.bsz I.ok.above)
theorem Inv.stkSub(I:Inv X pins σ H s):∀b∈vS X.stack,b∈X.env.locals::X.fs:=λb hb=>by
 rcases I.ok.stk with e|⟨e,a⟩
 .rw[e]at hb;exact MA _ hb
 .rw[e]at hb
  unfold vS at hb;rw[List.filterMap_cons,a]at hb;exact hb
theorem Inv.stkFree(I:Inv X pins σ H s):∀b∈vS X.stack,H b=none:=λb hb=>by
 rcases MP.mp (I.stkSub b hb)with e|hb
 .rw[e];exact I.free
 .obtain⟨_,o,a,_⟩:=I.ok.funs.mem hb
  exact I.base.free b o a (I.ok.frf b hb) λz=>I.ok.exfs b z hb
theorem Inv.step{g' :Array GenState}{V:Nat}{d' :Drawn}{ch:List Addr}(I:Inv X pins σ H s)
  (j:∀b∈ch,(b∈X.ex\/X.s₀.heap.objs.size<=b)/\b≠X.env.locals/\(∀x c,X.env.cells.lookup x=some c->c≠b)/\∀p∈X.pn++pins,p.1≠b)
  (g:∀b o,b≠X.env.locals->b∉X.fs->b∉ch->s.heap.get? b=some o->H b=none->h'.get? b=some o)
  (A:∀b o,b≠X.env.locals->b∈X.fs->b∉ch->s.heap.get? b=some o->H b=none->∃O,h'.get? b=some {o with slots:=O}) (a:∀b o,b∉ch->s.heap.get? b=some o->H b=none->H' b=none)
  (C:∀b o,b∉ch->s.heap.get? b=some o->∃L,h'.get? b=some L)
  (G:∀b B,H b=some (.tup B)->H' b=some (.tup B)) (J:∀b o u,H b=some (.frz o u)->H' b=some (.frz o u)) (E:∀b N,H b=some (.tbl N)->∃M,H' b=some (.tbl (N++M)))
  (Y:∀m,s.heap.Ns X.env.locals m->h'.Ns X.env.locals m) (Q:fo X.prog X.w H' h') (W:AllBare g'):
  Inv X pins σ H' {s with heap:=h',gens:=g',drawn:=d',toks:=V}:=by
 have F:∀b o,X.s₀.heap.get? b=some o->b≠X.env.locals:=λb o e=>Md (M0 (MY e) I.ok.above);have y:∀b o,X.s₀.heap.get? b=some o->b∉X.ex->b∉ch:=λb o e hx hb=>by
  rcases(j b hb).1 with z|z
  .exact hx z
  .exact absurd (M0 (MY e) z) (OU _)
 have h:∀x c,X.env.cells.lookup x=some c->∀v,s.heap.IsCell c v->h'.IsCell c v:=λx c e v ⟨o,D,R⟩=>by
  have f:c∉ch:=λz=>(j c z).2.2.1 x c e rfl
  by_cases S:c∈X.fs
  .obtain⟨O,q⟩:=A c o (I.cne x c e) S f D (I.freeC x c e)
   exact⟨_,q,R⟩
  .exact⟨o,g c o (I.cne x c e) S f D (I.freeC x c e),R⟩
 refine⟨I.ok,I.os,W,⟨λb o e n hb hx=> ?_,λb o e n hb hx=> ?_,λb o e n hx=> ?_,λb o e hx=> ?_,λb B e=>G b B (I.base.tups b B e),λb o B e=>J b o B (I.base.frzs b o B e),λb N e=> ?_⟩,?_,λx c e=> ?_,?_,λx c e=> ?_,λp hp=> ?_,Q,I.len⟩
 .exact g b o (F b o e) hb (y b o e hx) (I.base.keep b o e n hb hx) (I.base.free b o e n hx)
 .obtain⟨O,t⟩:=I.base.slot b o e n hb hx
  obtain⟨P,K⟩:=A b _ (F b o e) hb (y b o e hx) t (I.base.free b o e n hx);exact⟨P,K⟩
 .obtain⟨L,t⟩:=I.base.there b o e hx
  exact a b L (y b o e hx) t (I.base.free b o e n hx)
 .obtain⟨L,t⟩:=I.base.there b o e hx
  exact C b L (y b o e hx) t
 .obtain⟨m1,t⟩:=I.base.tbls b N e
  obtain⟨m2,K⟩:=E b _ t;exact⟨m1++m2,by rw[K,Array.append_assoc]⟩
 .obtain⟨m,Z,hl⟩:=I.loc
  refine⟨m,Y m Z,λi x v t K e3=> ?_⟩;obtain⟨u,r,l⟩:=hl i x v t K e3;refine⟨u,r,?_⟩
  rcases l with l|⟨k,c,e,z⟩
  .exact .inl l
  .exact .inr ⟨k,c,e,h x c e _ z⟩
 .obtain⟨v,z⟩:=I.cell x c e
  exact⟨v,h x c e v z⟩
 .obtain⟨m,⟨o,_,_,D,_⟩,_⟩:=I.loc
  exact a _ o (λz=>(j _ z).2.1 rfl) D I.free
 .obtain⟨v,o,D,R⟩:=I.cell x c e
  exact a c o (λz=>(j c z).2.2.1 x c e rfl) D (I.freeC x c e)
 .obtain⟨e,n,T,U,d⟩:=I.pin p hp
  have f:p.1∉ch:=λz=>(j p.1 z).2.2.2 p hp rfl;exact⟨g p.1 p.2 T U f e n,a p.1 p.2 f e n,T,U,d⟩
theorem Inv.un(I:Inv X pins σ H s)(u:Un X.fs [] H H' s.heap h')(f:fo X.prog X.w H' h'):Inv X pins σ H' {s with heap:=h',toks:=t'}:=by obtain⟨m,⟨o,l,p,g,r⟩,_⟩:=id I.loc;obtain⟨j,i⟩:=u.any g I.free (by simp);exact I.step (g' :=s.gens) (d' :=s.drawn) (ch:=[]) (λ_ z=>nomatch z) (λb o _ hb _ e n=>u.keep b o e n hb (by simp)) (λb o _ hb _ e n=>u.slot b o e n hb (by simp)) (λb o _ e n=>u.free b o e n (by simp)) (λb o _ e=>u.there b o e (by simp)) u.tups u.frzs u.tbls (λm' hm=>by obtain⟨k,c,d,a,h⟩:=hm;rw[g]at a;cases a;exact⟨_,c,d,i,h⟩) f I.bare
theorem Inv.call(I:Inv X pins σ H s)(u:Un (vS X.stack) ch H H' s.heap h')(i:fo X.prog X.w H' h')(k:AllBare g')
  (d:∀b∈ch,(b∈X.ex\/X.s₀.heap.objs.size<=b)/\b≠X.env.locals/\(∀x c,X.env.cells.lookup x=some c->c≠b)/\∀p∈X.pn++pins,p.1≠b):
  Inv X pins σ H' {s with heap:=h',gens:=g',drawn:=d',toks:=t'}:=by
 obtain⟨m,⟨o,v,y,j,r⟩,_⟩:=id I.loc;obtain⟨q,h⟩:=u.any j I.free λz=>(d _ z).2.1 rfl;exact I.step (ch:=ch) d (λb o h hb hc e n=>u.keep b o e n (λz=>(MP.mp (I.stkSub b z)).elim h hb) hc) (λb o _ _ hc e n=>u.any e n hc) (λb o hc e n=>u.free b o e n hc) (λb o hc e=>u.there b o e hc) u.tups u.frzs u.tbls (λm' hm=>by obtain⟨t,g,f,a,l⟩:=hm;rw[j]at a;cases a;exact⟨_,g,f,h,l⟩) i k
theorem Inv.turned(I:Inv X pins σ H s)(k:∀b o,b≠it->s.heap.get? b=some o->h'.get? b=some o)(i:H it=none)(d:it≠X.env.locals)
  (g:it∈X.ex\/X.s₀.heap.objs.size<=it) (h:∀x c,X.env.cells.lookup x=some c->c≠it) (f:∀p∈X.pn++pins,p.1≠it):Inv X pins σ H {s with heap:=h',toks:=t'}:=by
 have a:∀b u,H b=some u->b≠it:=λb u e z=>by rw[z,i]at e;cases e
 refine I.step (g' :=s.gens) (d' :=s.drawn) (ch:=[it]) (λb hb=> ?_) (λb o _ _ hc e _=>k b o (λz=>hc (by simp[z])) e) (λb o _ _ hc e _=>⟨o.slots,k b o (λz=>hc (by simp[z])) e⟩) (λ_ _ _ _ n=>n)
  (λb o hc e=>⟨o,k b o (λz=>hc (by simp[z])) e⟩) (λ_ _ e=>e) (λ_ _ _ e=>e) (λb ps e=>⟨#[],by rw[e];simp⟩) (λm hm=> ?_) (λb u e=> ?_) I.bare
 .have e:b=it:=by simpa using hb
  subst e;exact⟨g,d,h,f⟩
 .obtain⟨o,l,m,j,r⟩:=hm
  exact⟨o,l,m,k _ o (NZ d) j,r⟩
 .refine(I.hok b u e).stay (λc v hc q=>k c v ?_ q) (λ_ q=>q) λ_ _ q=>q
  rcases hc with z|z
  .rw[z];exact a b u e
  .exact a c _ z
theorem Inv.tok(I:Inv X pins σ H s)(t:Nat):Inv X pins σ H {s with toks:=t}:=I.un (h' :=s.heap) (t' :=t) Un.refl I.hok
theorem Inv.kept(I:Inv X pins σ H s)(k:∀b u,s.heap.get? b=some u->h'.get? b=some u):Inv X pins σ H {s with heap:=h',toks:=t'}:=I.un (Un.kept k) (I.hok.kept k)
theorem Inv.laid(I:Inv X pins σ H s)(k:∀b u,s.heap.get? b=some u->h'.get? b=some u)(c:s.heap.objs.size<=a)(d:al X.prog X.w (upd H a o) h' a o):
  Inv X pins σ (upd H a o) {s with heap:=h',toks:=t'}:=I.un (Un.laid k c (I.hok.fresh c)) (I.hok.laid k c d)
theorem Inv.write(I:Inv X pins σ H s)(d:Lr (H x))(f:e=x\/H e=some (.own x))(k:∀b u,b≠e->s.heap.get? b=some u->h'.get? b=some u)(a:∃u,h'.get? e=some u)
  (c:al X.prog X.w (upd H x o) h' x o):Inv X pins σ (upd H x o) {s with heap:=h',toks:=g}:=I.un (Un.write d f k a) (I.hok.write d f k a c)
theorem Inv.weak(I:Inv X pins σ H s)(b:a.length=σ.length)(w:∀(i:Nat) v,a[i]? =some (some v)->σ[i]? =some (some v)):Inv X pins a H s:= ⟨I.ok,I.os,I.bare,I.base,let⟨m,hn,hl'⟩:=I.loc;⟨m,hn,λi x v e1 e2 e3=>hl' i x v e1 (w i v e2) e3⟩,I.cell,I.free,I.freeC,I.pin,I.hok,b.trans I.len⟩
theorem Inv.pins_of(I:Inv X pins σ H s)(h:∀p∈a,s.heap.get? p.1=some p.2/\H p.1=none/\p.1≠X.env.locals/\p.1∉X.fs/\∀v,p.2.data≠.cell v):Inv X a σ H s:= ⟨I.ok,I.os,I.bare,I.base,I.loc,I.cell,I.free,I.freeC,λp hp=>(Mi.mp hp).elim (λz=>I.pin p (Mr _ z)) (h p),I.hok,I.len⟩
theorem sS{N:List Str}(c:N.Nodup){i j:Nat}(a:N[i]? =some x)(b:N[j]? =some x):i=j:=by obtain⟨f,d⟩:=MV.mp a;obtain⟨g,e⟩:=MV.mp b;exact(List.getElem_inj c).mp (d.trans e.symm)
theorem ng(I:Inv X pins σ H s)(hN:X.N.Nodup)(hi:X.N[i]? =some x)(hx:Loc X.env.scope x)(r:RelV v u)
  (h:∀s',Inv X pins (σ.set i (some v)) H s' ->(∃a,Heap.SameBut a s.heap s'.heap/\(a=X.env.locals\/X.env.cells.lookup x=some a))->Q () s') (hf:X.fn x=true\/X.env.scope.names.lookup x=some .local:=by first|exact .inl rfl|exact .inr rfl|assumption):wpAny M A (storeName X.env x u) Q E s:=by
 obtain⟨m,hn,hl⟩:=id I.loc;have hcls:(X.env.scope.kind== .class||(X.env.scope.kind== .module&&X.env.locals !=X.env.globals))=false:=by rw[I.ok.kind];rfl
 have hiσ:i<σ.length:=by rw[I.len];exact(MV.mp hi).1
 have cne:=I.cne;have tracked:∀{a:Addr}{h' :Heap},(∃o,s.heap.get? a=some o/\H a=none)->Heap.SameBut a s.heap h' ->fo X.prog X.w H h' :=λ{a h'} ha hs b ob e=>by
  obtain⟨_,_,hfree⟩:=ha;refine(I.hok b ob e).stay (λc w' hc q=>(hs.2 c ?_).trans q) (λ_ q=>q) λ_ _ q=>q;rintro rfl
  rcases hc with rfl|hc
  .rw[hfree]at e;cases e
  .rw[hfree]at hc;cases hc
 rcases hx with hk|hk
 .refine wpAny_storeName_local hk hn (λh' hn' hs=> ?_) hcls
  obtain⟨oL,_,_,hoL,_⟩:=id hn;refine h _ ⟨I.ok,I.os,I.bare,⟨λb o e n hb hx=> ?_,λb o e n hb hx=> ?_,I.base.free,λb o e hx=> ?_,I.base.tups,I.base.frzs,I.base.tbls⟩,⟨_,hn',λj y v' e1 e2 e3=> ?_⟩,λy c e=> ?_,I.free,I.freeC,λp hp=> ?_,tracked ⟨oL,hoL,I.free⟩ hs,by simpa using I.len⟩ ⟨_,hs,.inl rfl⟩
  .exact(hs.2 b (Md (M0 (MY e) I.ok.above))).trans (I.base.keep b o e n hb hx)
  .obtain⟨sl,e1⟩:=I.base.slot b o e n hb hx
   exact⟨sl,(hs.2 b (Md (M0 (MY e) I.ok.above))).trans e1⟩
  .obtain⟨o',e1⟩:=I.base.there b o e hx
   exact⟨o',(hs.2 b (Md (M0 (MY e) I.ok.above))).trans e1⟩
  .by_cases hj:j=i
   .subst hj
    rw[hi]at e1;cases e1;rw[Nl hiσ]at e2;cases e2;exact⟨u,r,.inl ⟨hk,by simp⟩⟩
   .rw[NG (NZ hj)]at e2
    obtain⟨u',r',q⟩:=hl j y v' e1 e2 e3;refine⟨u',r',?_⟩
    rcases q with⟨k,e⟩|⟨k,c,e,z⟩
    .refine .inl ⟨k,?_⟩
     have:y≠x:=λe=>hj (sS hN e1 (e▸hi));simp[this,e]
    .exact .inr ⟨k,c,e,z.sameBut hs (cne y c e)⟩
  .obtain⟨w',z⟩:=I.cell y c e
   exact⟨w',z.sameBut hs (cne y c e)⟩
  .obtain⟨e,n,ne,nf,d⟩:=I.pin p hp
   exact⟨(hs.2 p.1 ne).trans e,n,ne,nf,d⟩
 .have hfn:X.fn x=true:=by
   rcases hf with z|z
   .exact z
   .rw[z]at hk;cases hk
  obtain⟨c,hc⟩:=I.ok.has x (.inl hk);obtain⟨w',z⟩:=I.cell x c hc;refine wpAny_storeName_cell I.ok.kind hk hc z (λh' hc' hs=> ?_);obtain⟨oc,hoc,hocd⟩:=id z;refine h {s with heap:=h'} ⟨I.ok,I.os,I.bare,⟨λb o e n hb hx=> ?_,λb o e n hb hx=> ?_,I.base.free,λb o e hx=> ?_,I.base.tups,I.base.frzs,I.base.tbls⟩,⟨m,hn.sameBut hs (NZ (cne x c hc)),λj y v' e1 e2 e3=> ?_⟩,λy c' e=> ?_,I.free,I.freeC,λp hp=> ?_,tracked ⟨oc,hoc,I.freeC x c hc⟩ hs,by simpa using I.len⟩ ⟨c,hs,.inr hc⟩
  .exact(hs.2 b (Md (M0 (MY e) (I.ok.cab x c hfn hc)))).trans (I.base.keep b o e n hb hx)
  .obtain⟨sl,e1⟩:=I.base.slot b o e n hb hx
   exact⟨sl,(hs.2 b (Md (M0 (MY e) (I.ok.cab x c hfn hc)))).trans e1⟩
  .obtain⟨o',e1⟩:=I.base.there b o e hx
   exact⟨o',(hs.2 b (Md (M0 (MY e) (I.ok.cab x c hfn hc)))).trans e1⟩
  .by_cases hj:j=i
   .subst hj
    rw[hi]at e1;cases e1;rw[Nl hiσ]at e2;cases e2;exact⟨u,r,.inr ⟨.inl hk,c,hc,hc'⟩⟩
   .rw[NG (NZ hj)]at e2
    obtain⟨u',r',q⟩:=hl j y v' e1 e2 e3;refine⟨u',r',?_⟩
    rcases q with q|⟨k,c',e,z'⟩
    .exact .inl q
    .refine .inr ⟨k,c',e,z'.sameBut hs ?_⟩
     rintro rfl;exact hj (sS hN e1 (I.ok.inj _ _ _ e hc▸hi))
  .by_cases hcc:c' =c
   .subst hcc;exact⟨_,hc'⟩
   .obtain⟨w2,z2⟩:=I.cell y c' e
    exact⟨w2,z2.sameBut hs hcc⟩
  .obtain⟨e,n,ne,nf,d⟩:=I.pin p hp
   refine⟨(hs.2 p.1 ?_).trans e,n,ne,nf,d⟩;intro q;rw[q,hoc]at e;have q' :oc=p.2:=MZ e;exact d w' (by rw[<- q'];exact hocd)
theorem lE(I:Inv X pins σ H s)(hN:X.N.Nodup)(hi:X.N[i]? =some x)(hx:Loc X.env.scope x)(r:RelV v u)
  (h:∀s',Inv X pins (σ.set i (some v)) H s' ->Q () s') (hf:X.fn x=true\/X.env.scope.names.lookup x=some .local:=by first|exact .inl rfl|exact .inr rfl|assumption):wpAny M A (storeName X.env x u) Q E s:=
 ng I hN hi hx r (λs' I' _=>h s' I') hf
theorem Inv.call'(I:Inv X pins σ H s)(i:s'.os=s.os)(u:Un (vS X.stack) ch H H' s.heap s'.heap)(a:fo X.prog X.w H' s'.heap)(k:AllBare s'.gens)
  (d:∀b∈ch,(b∈X.ex\/X.s₀.heap.objs.size<=b)/\b≠X.env.locals/\(∀x c,X.env.cells.lookup x=some c->c≠b)/\∀p∈X.pn++pins,p.1≠b):Inv X pins σ H' s' :=by
 obtain⟨l,f,h,g,j⟩:=s';have e:j =s.os:=i;subst e;exact I.call (g' :=f) (t' :=g) (d' :=h) u a k d
end
abbrev XK:=Value->Option Addr->Hp->Prop
abbrev St:=List (Option V)
abbrev VK:=V->Hp->Prop
abbrev TE:=St->Hp->VK->Prop
abbrev TT:=St->Hp->(Bool->Hp->Prop)->Prop
abbrev TA:=St->Hp->(List V->Hp->Prop)->Prop
structure cq where
 nx:St->Hp->Prop
 rt:VK
 bk:St->Hp->Prop:=fun _ _=>False
 ct:St->Hp->Prop:=fun _ _=>False
abbrev TS:=cq->St->Hp->Prop
def EP(X:Cx)(a:List (Addr×Obj))(d:St)(Q:VK)(u:Value)(c:Shared):Prop:=∃v b,Inv X a d b c /\RelV v u/\Q v b
def TP(X:Cx)(a:List (Addr×Obj))(e:St)(Q:Bool->Hp->Prop)(b:Bool)(d:Shared):Prop:=∃c,Inv X a e c d /\Q b c
def AP(X:Cx)(a:List (Addr×Obj))(f:St)(Q:List V->Hp->Prop)(e:List Value)(d:Shared):Prop:=∃c b,Inv X a f b d /\aR c e/\Q c b
def SP(X:Cx)(b:List (Addr×Obj))(D:cq)(f:Flow)(d:Shared):Prop:=
 match f with
 | .next=>∃a c,Inv X b a c d /\D.nx a c| .brk=>∃a c,Inv X b a c d /\D.bk a c| .cont=>∃a c,Inv X b a c d /\D.ct a c| .ret u=>∃v a c,Inv X b a c d /\RelV v u/\D.rt v c
def PE(X:Cx)(e:Expr)(t:TE):Prop:=
 ∀(a:List (Addr×Obj))(s:Shared)(b:St)(H:Hp)(Q:VK),Inv X a b H s->t b H Q->wpAny (model X.prog X.w) X.A (eval e X.env) (EP X a b Q) X.xe s
def PT(X:Cx)(e:Expr)(t:TT):Prop:=
 ∀(a:List (Addr×Obj))(s:Shared)(b:St)(H:Hp)(Q:Bool->Hp->Prop),Inv X a b H s->t b H Q->wpAny (model X.prog X.w) X.A (isTrue e X.env (eval e X.env)) (TP X a b Q) X.xe s
def PW(X:Cx)(e:Expr)(t:TT):Prop:=
 ∀(b:Sem Value)(a:List (Addr×Obj))(s:Shared)(c:St)(H:Hp)(Q:Bool->Hp->Prop),Inv X a c H s->t c H Q->wpAny (model X.prog X.w) X.A (isTrue e X.env b) (TP X a c Q) X.xe s
set_option tactic.hygienic false
theorem PW.pt(h:PW X e t):PT X e t:=h _
def PA(X:Cx)(c:List Expr)(t:TA):Prop:=
 ∀(pos:Pos)(a:List (Addr×Obj))(s:Shared)(b:St)(H:Hp)(Q:List V->Hp->Prop),Inv X a b H s->t b H Q->wpAny (model X.prog X.w) X.A (spliced (backTo pos (starEach c X.env))) (AP X a b Q) X.xe s
def PS(X:Cx)(c:Stmt)(t:TS):Prop:=
 ∀(a:List (Addr×Obj))(s:Shared)(b:St)(H:Hp)(D:cq),Inv X a b H s->t D b H->wpAny (model X.prog X.w) X.A (exec c X.env) (SP X a D) X.xe s
def wA(X:Cx)(c:List Stmt)(t:TS):Prop:=
 ∀(a:List (Addr×Obj))(s:Shared)(b:St)(H:Hp)(D:cq),Inv X a b H s->t D b H->wpAny (model X.prog X.w) X.A (execs c X.env) (SP X a D) X.xe s
theorem aj{c:Type}{t:Sem c}{Q b:c->Shared->Prop}{M:Model}{A:Around}{E:Value->Shared->Prop}{s:Shared}(h:wpAny M A t Q E s)(d:∀a s,Q a s->b a s):wpAny M A t b E s:=Nj h d λ_ _ x=>x
section
variable{X:Cx}
def Jz(i:Nat):TE:=λσ H Q=>∃v,σ[i]? =some (some v)/\Q v H
def tC(v:V):TE:=λ_ H Q=>Q v H
theorem uw(t:X.N[i]? =some x)(n:Jp X.env.scope x)(j:(x==("__debug__":Str))=false:=by decide)(g:(x==("__classdict__":Str))=false:=by decide):PE X (.Name x pos) (Jz i):=by
 intro f s o H Q I h;obtain⟨v,e,h⟩:=h;obtain⟨m,q,w⟩:=I.loc;obtain⟨u,r,l⟩:=w i x v t e n;have b:EP X f o Q u s:=⟨v,H,I,r,h⟩
 rcases l with⟨d,p⟩|⟨d,c,k,a⟩
 .exact wpAny_Name (wpAny_loadName_local I.ok.kind d q p b) j
 .rcases d with d|d
  .exact wpAny_Name (wpAny_loadName_cell I.ok.kind d k a b) j
  .exact wpAny_Name (wpAny_loadName_free I.ok.kind d k a b g) j
theorem dB{i j pos}:PE X (.Constant (.int i) j pos) (tC (.int i)):=λ_ _ _ H _ I h=>wpAny_Constant_int ⟨.int i,H,I.tok _,⟨_,rfl⟩,h⟩
theorem wd{b j pos}:PE X (.Constant (.bool b) j pos) (tC (.bl b)):=λ_ _ _ H _ I h=>Constant_bool ⟨.bl b,H,I,rfl,h⟩
theorem HJ{j pos}:PE X (.Constant .none j pos) (tC .non):=λ_ _ _ H _ I h=>Constant_none ⟨.non,H,I,rfl,h⟩
theorem uy{x j pos}:PE X (.Constant (.str x) j pos) (tC (.str x)):=λ_ _ _ H _ I h=>Calls.Constant_str ⟨.str x,H,I.tok _,⟨_,rfl⟩,h⟩
def Gl(X:Cx)(x:Str):Prop:=X.env.kindOf x=some .globalImplicit
theorem xE(I:Inv X a e H s)(c:Gl X x)(b:X.mg x=some u)(h:Q u s)
  (d:(x==("__debug__":Str))=false:=by decide):wpAny (model X.prog X.w) X.A (eval (.Name x pos) X.env) Q E s:=
 Calls.Name_function_global I.ok.kind c (Calls.loadGlobal_global (by rw[I.ok.glob];exact I.mod.glob.keeps I.bk) b h) d
theorem dF(I:Inv X a j H s)(e:Gl X x)(d:X.mg x=none)(i:bootBuiltins x=some u)(h:Q u s)
  (g:x≠"__name__":=by decide) (f:(x==("__debug__":Str))=false:=by decide):wpAny (model X.prog X.w) X.A (eval (.Name x pos) X.env) Q E s:=by
 obtain⟨k,b,c⟩:=I.mod.blt;exact Calls.Name_function_global I.ok.kind e (Calls.loadGlobal_builtin (by rw[I.ok.glob];exact I.mod.glob.keeps I.bk) d (by rw[I.ok.blt];exact b.keeps I.bk) ((c x g).trans i) h) f
theorem Dt(b:Gl X x)(a:X.mg x=some u)(r:RelV v u)(c:(x==("__debug__":Str))=false:=by decide):PE X (.Name x pos) (tC v):= λ_ _ _ H _ I h=>xE I b a ⟨v,H,I,r,h⟩ c
theorem Dw(b:Gl X x)(a:X.mg x=none)(e:bootBuiltins x=some u)(r:RelV v u)(d:x≠"__name__":=by decide)(c:(x==("__debug__":Str))=false:=by decide):PE X (.Name x pos) (tC v):= λ_ _ _ H _ I h=>dF I b a e ⟨v,H,I,r,h⟩ d c
variable{a b:Expr}{ta tb:TE}{pos:Pos}
def PC(X:Cx)(e:CmpOp)(a b:Expr)(t:TE):Prop:=
 ∀(c:List (Addr×Obj))(s:Shared)(d:St)(H:Hp)(Q:VK),Inv X c d H s->t d H Q -> wpAny (model X.prog X.w) X.A (eval a X.env) (λv s₁=>wpAny (model X.prog X.w) X.A (eval b X.env) (λu s₂=>wpAny (model X.prog X.w) X.A (compareOp e v u) (EP X c d Q) X.xe s₂) X.xe s₁) X.xe s
def tB(t:TE):TT:=λσ H Q=>t σ H λx H1=>∃c,x=.bl c/\Q c H1
theorem Ap(h:PC X f a b t)(e:behindInMarks f b=false:=by first|exact nobehind _ (by decide) (by decide)|rfl):PT X (.Compare a [f] [b] pos) (tB t):=by intro c s i H Q I g;refine wpAny_isTrue_Compare1 (aj (h c s i H _ I g) λv s1 e=>aj e λu s2 h2=>aj h2 λc s3 ⟨x,H1,I1,r1,q1⟩=> ?_) e;obtain⟨d,rfl,q⟩:=q1;cases r1;exact NW ⟨H1,I1,q⟩
theorem Gx(h:PE X e t)(g:∀c,isTrue e X.env c=(do let v<-c;standAt e.pos;holding [v] (truthy v)):=by intro _;rfl):PT X e (tB t):=by intro f s j H Q I i;refine isTrue_plain (aj (h f s j H _ I i) λv s1 ⟨x,H1,I1,r1,q1⟩=> ?_) (g _);obtain⟨d,rfl,q⟩:=q1;cases r1;exact NW ⟨H1,I1,q⟩
variable{tA tB' :TT}{aL:List Expr}
def tAnd(t u:TT):TT:=λσ H Q=>t σ H λc H1=>if c=true then u σ H1 Q else Q false H1
def tOr(t u:TT):TT:=λσ H Q=>t σ H λc H1=>if c=true then Q true H1 else u σ H1 Q
def tNot(t:TT):TT:=λσ H Q=>t σ H λc H1=>Q (!c) H1
theorem wY(g:PT X a tA):PW X (.BoolOp .And [a] pos) tA:=by
 intro i d s f H Q I h;refine isTrue_and (aj (g d s f H Q I h) λc s1 e=> ?_);cases c with
 |true=>exact isTrue_and_nil e|false=>exact e
theorem Aj(g:PT X a tA):PW X (.BoolOp .Or [a] pos) tA:=by
 intro i d s f H Q I h;refine isTrue_or (aj (g d s f H Q I h) λc s1 e=> ?_);cases c with
 |false=>exact isTrue_or_nil e|true=>exact e
theorem Ak(l:PT X a tA)(k:PW X (.BoolOp .And (b::aL) pos) tB'):PW X (.BoolOp .And (a::b::aL) pos) (tAnd tA tB'):=by
 intro j d s i H Q I h;refine isTrue_and (aj (l d s i H _ I h) λc s1 hpq=> ?_);obtain⟨f,e,g⟩:=hpq;cases c with
 |true=>exact k j d s1 i f Q e g|false=>exact⟨f,e,g⟩
theorem Fw(l:PT X a tA)(k:PW X (.BoolOp .Or (b::aL) pos) tB'):PW X (.BoolOp .Or (a::b::aL) pos) (tOr tA tB'):=by
 intro j d s i H Q I h;refine isTrue_or (aj (l d s i H _ I h) λc s1 hpq=> ?_);obtain⟨f,e,g⟩:=hpq;cases c with
 |true=>exact⟨f,e,g⟩|false=>exact k j d s1 i f Q e g
theorem Gy(f:PT X a tA):PT X (.UnaryOp .Not a pos) (tNot tA):=by intro d s e H Q I h;exact isTrue_not (f d s e H (λc H1=>Q (!c) H1) I h)
def J9(d e:TE):TE:=λσ H Q=>d σ H λx H1=>∃c,x=.bl c/\if c=true then e σ H1 Q else Q (.bl false) H1
def tOrV(d e:TE):TE:=λσ H Q=>d σ H λx H1=>∃c,x=.bl c/\if c=true then Q (.bl true) H1 else e σ H1 Q
def J2(d:TE):TE:=λσ H Q=>d σ H λx H1=>∃c,x=.bl c/\Q (.bl (!c)) H1
theorem HH{op}(h:PE X a t):PE X (.BoolOp op [a] pos) t:=λpins s σ H Q I hw=>BoolOp_one (h pins s σ H Q I hw)
theorem A4(l:PE X a ta)(j:PE X (.BoolOp .And (b::aL) pos) tb):PE X (.BoolOp .And (a::b::aL) pos) (J9 ta tb):=by
 intro d s i H Q I h;refine BoolOp_and (aj (l d s i H _ I h) λv s1 hpq=> ?_);obtain⟨x,g,f,k,e⟩:=hpq;obtain⟨c,rfl,e⟩:=e;cases k;refine NW ?_;cases c with
 |true=>exact j d s1 i g Q f e|false=>exact⟨.bl false,g,f,rfl,e⟩
theorem Fy(l:PE X a ta)(j:PE X (.BoolOp .Or (b::aL) pos) tb):PE X (.BoolOp .Or (a::b::aL) pos) (tOrV ta tb):=by
 intro d s i H Q I h;refine BoolOp_or (aj (l d s i H _ I h) λv s1 hpq=> ?_);obtain⟨x,g,f,k,e⟩:=hpq;obtain⟨c,rfl,e⟩:=e;cases k;refine NW ?_;cases c with
 |false=>exact j d s1 i g Q f e|true=>exact⟨.bl true,g,f,rfl,e⟩
theorem HI(k:PE X a ta):PE X (.UnaryOp .Not a pos) (J2 ta):=by intro d s j H Q I h;refine UnaryOp_ (aj (k d s j H _ I h) λv s1 hpq=> ?_);obtain⟨x,g,f,i,e⟩:=hpq;obtain⟨c,rfl,e⟩:=e;cases i;exact not_of (NW ⟨.bl (!c),g,f,rfl,e⟩)
def tIf(t:TT)(e d:TE):TE:=λσ H Q=>t σ H λc H1=>if c=true then e σ H1 Q else d σ H1 Q
theorem A3(l:PT X c tA)(m:PE X a ta)(k:PE X b tb):PE X (.IfExp c a b pos) (tIf tA ta tb):=by
 intro e s f H Q I h;refine wpAny_IfExp (aj (l e s f H _ I h) λd s1 hpq=> ?_);obtain⟨i,g,j⟩:=hpq;cases d with
 |true=>exact m e s1 f i Q g j|false=>exact k e s1 f i Q g j
end
def bQ(K:W.Frag)(H:Hp)(a:Addr)(c:List V):Prop:=
 Rd H a (.lst c) \/ ∃(o:Obj)(b:Array Value)(n:Nat),K.lookup a=some o/\o.cls=.type "list"/\o.dict=none/\o.data=.seq b n/\b.size<=sizeLine/\aR c b.toList
def bg(K:W.Frag)(H:Hp)(a:Addr)(c:List V):Prop:=
 Rd H a (.tup c) \/ ∃(o:Obj)(b:Array Value)(n:Nat),K.lookup a=some o/\o.cls=.type "tuple"/\o.dict=none/\o.data=.seq b n/\b.size<=sizeLine/\aR c b.toList
noncomputable def absV:Value->Option V
 | .none=>some .non| .bool b=>some (.bl b)| .int i _=>some (.int i)| .str x _=>some (.str x)| .bytes b _=>some (.byt b)| .float b _=>some (.flt b)| .ref a=>some (.ref a)| .type n=>some (.ty n)|_=>none
theorem RelV.abs(r:RelV x u):absV u=some x:=by
 cases x with
 |non=>cases r;rfl|bl _=>cases r;rfl|int _=>obtain⟨t,rfl⟩:=r;rfl
 |str _=>obtain⟨t,rfl⟩:=r;rfl
 |byt _=>obtain⟨t,rfl⟩:=r;rfl
 |flt _=>obtain⟨t,rfl⟩:=r;rfl
 |ref _=>cases r;rfl|ty _=>cases r;rfl
theorem RelV.inj(r:RelV x u)(q:RelV y u):x=y:=MZ (r.abs.symm.trans q.abs)
theorem aR.inj(h:aR c b)(k:aR a b):c=a:=by
 induction h generalizing a with
 |nil=>cases k;rfl|cons r t f=>
  cases k with
  |cons d e=>rw[r.inj d,f e]
section
variable{X:Cx}{pins:List (Addr×Obj)}{σ:St}{H:Hp}{s:Shared}{a:Addr}{xs ys:List V}
theorem bQ.of{K:W.Frag}(h:H a=some (.lst xs)):bQ K H a xs:=.inl (.inl h)
theorem bg.of{K:W.Frag}(h:H a=some (.tup xs)):bg K H a xs:=.inl (.inl h)
theorem Inv.list(I:Inv X pins σ H s)(h:bQ X.K H a xs):∃b:List Value,aR xs b/\PlainL s.heap a b.toArray/\xs.length<=sizeLine:=by
 rcases h with h|⟨o,b,n,c,f,d,g,i,r⟩
 .obtain⟨z,b,n,r,e⟩:=h.ok I.hok
  exact⟨b,r,⟨_,n,e,rfl,rfl,rfl⟩,z⟩
 .refine⟨b.toList,r,⟨o,n,I.kIn a o c,f,d,by simpa using g⟩,?_⟩
  have e:=r.length;simp only[Ml]at e;omega
theorem Inv.tuple(I:Inv X pins σ H s)(h:bg X.K H a xs):∃b:List Value,aR xs b/\IsTup s.heap a b.toArray/\xs.length<=sizeLine:=by
 rcases h with h|⟨o,b,n,c,d,_,f,g,r⟩
 .obtain⟨z,b,r,p⟩:=h.ok I.hok
  exact⟨b,r,p.tup,z⟩
 .refine⟨b.toList,r,⟨o,I.kIn a o c,d,n,by simpa using f⟩,?_⟩
  have e:=r.length;simp only[Ml]at e;omega
theorem Inv.tupleD(I:Inv X pins σ H s)(h:bg X.K H a xs):∃o,s.heap.get? a=some o/\o.cls=.type "tuple"/\o.dict=none:=by
 rcases h with h|⟨o,b,n,i,g,f,_⟩
 .obtain⟨z,b,r,o,e,c,n,_,d⟩:=h.ok I.hok
  exact⟨o,e,c,d⟩
 .exact⟨o,I.kIn a o i,g,f⟩
theorem Inv.list_inj(I:Inv X pins σ H s)(h:bQ X.K H a xs)(j:bQ X.K H a ys):xs=ys:=by
 obtain⟨c,r,⟨o,n,e,_,_,d⟩,_⟩:=I.list h;obtain⟨b,i,⟨k,l,f,_,_,g⟩,_⟩:=I.list j;rw[e]at f;cases f;rw[d]at g
 injection g with d1 _
 have:c=b:=by simpa using Mw Array.toList d1
 subst this;exact r.inj i
theorem Inv.tuple_inj(I:Inv X pins σ H s)(h:bg X.K H a xs)(j:bg X.K H a ys):xs=ys:=by
 obtain⟨c,r,⟨o,e,_,n,d⟩,_⟩:=I.tuple h;obtain⟨b,i,⟨k,g,_,l,f⟩,_⟩:=I.tuple j;rw[e]at g;cases g;rw[d]at f
 injection f with d1 _
 have:c=b:=by simpa using Mw Array.toList d1
 subst this;exact r.inj i
end
noncomputable abbrev Cx.wish(X:Cx)(E:Value->Shared->Prop):Cx:={X with xe:=E}
noncomputable abbrev Cx.nox(X:Cx):Cx:=X.wish λ_ _=>False
theorem Cx.Ok.wish{X:Cx}(a:X.Ok)(E:Value->Shared->Prop):(X.wish E).Ok:= ⟨a.mod,a.kind,a.glob,a.blt,a.above,a.inj,a.has,a.cab,a.hd,a.frames,a.stk,a.exf,a.bs,a.bsz,a.noex,a.exfs,a.funs,a.frf⟩
theorem Cx.Ok.unwish{X:Cx}(a:(X.wish E).Ok):X.Ok:= ⟨a.mod,a.kind,a.glob,a.blt,a.above,a.inj,a.has,a.cab,a.hd,a.frames,a.stk,a.exf,a.bs,a.bsz,a.noex,a.exfs,a.funs,a.frf⟩
section
variable{X:Cx}{pins:List (Addr×Obj)}{σ:St}{H:Hp}{s:Shared}{E:Value->Shared->Prop}
theorem Inv.wish(I:Inv X pins σ H s)(E:Value->Shared->Prop):Inv (X.wish E) pins σ H s:=⟨I.ok.wish E,I.os,I.bare,I.base,I.loc,I.cell,I.free,I.freeC,I.pin,I.hok,I.len⟩
theorem Inv.unwish(I:Inv (X.wish E) pins σ H s):Inv X pins σ H s:=⟨I.ok.unwish,I.os,I.bare,I.base,I.loc,I.cell,I.free,I.freeC,I.pin,I.hok,I.len⟩
theorem SP.unwish(h:SP (X.wish E) pins D f c):SP X pins D f c:=by
 cases f with
 |next=>obtain⟨a,b,I,q⟩:=h;exact⟨a,b,I.unwish,q⟩
 |brk=>obtain⟨a,b,I,q⟩:=h;exact⟨a,b,I.unwish,q⟩
 |cont=>obtain⟨a,b,I,q⟩:=h;exact⟨a,b,I.unwish,q⟩
 |ret u=>obtain⟨v,a,b,I,r,q⟩:=h;exact⟨v,a,b,I.unwish,r,q⟩
theorem wA.nox(h:wA X.nox a t):wA X a t:=λpins s σ H D I hw=>
 Nj (h pins s σ H D (I.wish _) hw) (λ_ _ q=>q.unwish) λ_ _ z=>False.elim z
end
section
variable{X:Cx}{st:Stmt}{aL:List Stmt}{t u:TS}{e:Expr}{te:TE}{pos:Pos}
def Ft:TS:=λD σ H=>D.nx σ H
def tSeq(t u:TS):TS:=λD σ H=>t {D with nx:=u D} σ H
theorem iV:wA X [] Ft:=λ_ _ σ H _ I h=>wpAny_execs_nil ⟨σ,H,I,h⟩
theorem ak(d:PS X i t)(g:wA X aL u):wA X (i::aL) (tSeq t u):=by
 intro a s k H D I h;refine wpAny_execs_cons (aj (d a s k H {D with nx:=u D} I h) λf s1 q=> ?_);cases f with
 |next=>obtain⟨b,c,j,q⟩:=q;exact g a s1 b c D j q
 |ret v=>exact q|brk=>exact q|cont=>exact q
theorem aw(b:PS X st t):wA X [st] t:=by
 intro a s c H D I h;refine wpAny_execs_cons (aj (b a s c H D I h) λf s1 q=> ?_);cases f with
 |next=>exact wpAny_execs_nil q|ret v=>exact q|brk=>exact q|cont=>exact q
def Gd:TS:=λD σ H=>D.bk σ H
def J6:TS:=λD σ H=>D.ct σ H
theorem Dl:PS X (.Pass pos) Ft:=λ_ _ σ H _ I h=>wpAny_Pass ⟨σ,H,I,h⟩
theorem Ar:PS X (.Break pos) Gd:=λ_ _ σ H _ I h=>wpAny_Break ⟨σ,H,I,h⟩
theorem sD:PS X (.Continue pos) J6:=λ_ _ σ H _ I h=>wpAny_Continue ⟨σ,H,I,h⟩
theorem Inv.quiet(I:Inv X a b H s):interactive X.env=false:=by simp[interactive,I.ok.kind]
def J3(a:TE):TS:=λD σ H=>a σ H λ_ H1=>D.nx σ H1
theorem pO(d:PE X e te)(c:swapsWith e none pos.line X.env=pure false:=by rfl):PS X (.Expr e pos) (J3 te):=by intro a s b H D I h;exact wpAny_Expr_any (aj (d a s b H _ I h) λv s1 ⟨x,H1,I1,r1,q1⟩=>⟨b,H1,I1,q1⟩) I.quiet c
def tRet(a:TE):TS:=λD σ H=>a σ H D.rt
theorem ja(c:PE X e te):PS X (.Return (some e) pos) (tRet te):=by intro a s b H D I h;exact wpAny_Return_some (aj (c a s b H _ I h) λv s1 ⟨x,H1,I1,r1,q1⟩=>⟨x,b,H1,I1,r1,q1⟩)
def J0:TS:=λD _ H=>D.rt .non H
theorem Dk:PS X (.Return none pos) J0:=λ_ _ σ H _ I h=>wpAny_Return_none ⟨.non,σ,H,I,rfl,h⟩
def tIfS(c:TT)(t u:TS):TS:=λD σ H=>c σ H λb H1=>if b=true then t D σ H1 else u D σ H1
theorem sC(n:PT X c j)(o:wA X a t)(m:wA X b u):PS X (.If c a b pos) (tIfS j t u):=by
 intro f s g H D I h;refine wpAny_If (aj (n f s g H _ I h) λd s1 hpq=> ?_);obtain⟨k,i,l⟩:=hpq;cases d with
 |true=>exact o f s1 g k D i l|false=>exact m f s1 g k D i l
end
abbrev TG:=V->St->Hp->(St->Hp->Prop)->Prop
abbrev Jc:=List V->St->Hp->(St->Hp->Prop)->Prop
def PG(X:Cx)(a:Expr)(t:TG):Prop:=
 ∀(b:List (Addr×Obj))(s:Shared)(e:St)(H:Hp)(v:V)(u:Value)(Q:St->Hp->Prop),Inv X b e H s->RelV v u->t v e H Q -> wpAny (model X.prog X.w) X.A (assign a X.env u) (λ_ s' =>∃c d,Inv X b c d s' /\Q c d) X.xe s
def Lp(X:Cx)(g:List Expr)(t:Jc):Prop:=
 ∀(a:List (Addr×Obj))(s:Shared)(f:St)(H:Hp)(e:List V)(d:List Value)(Q:St->Hp->Prop),Inv X a f H s->aR e d->t e f H Q -> wpAny (model X.prog X.w) X.A (assignInOrder ((assignEach g X.env).map (·.2)) d) (λ_ s' =>∃b c,Inv X a b c s' /\Q b c) X.xe s
abbrev Ja:=V->V->V->Hp->(Hp->Prop)->Prop
def Lo(X:Cx)(t:Ja):Prop:=
 ∀(a:List (Addr×Obj))(s:Shared)(d:St)(H:Hp)(o i v:V)(c e u:Value)(Q:Hp->Prop),Inv X a d H s->RelV o c->RelV i e->RelV v u->t o i v H Q -> wpAny (model X.prog X.w) X.A (setItem c e u) (λ_ s' =>∃b,Inv X a d b s' /\Q b) X.xe s
abbrev TIp:=V->V->Hp->VK->Prop
def PIp(X:Cx)(c:Operator)(t:TIp):Prop:=
 ∀(a:List (Addr×Obj))(s:Shared)(b:St)(H:Hp)(x y:V)(v u:Value)(Q:VK),Inv X a b H s->RelV x v->RelV y u->t x y H Q -> wpAny (model X.prog X.w) X.A (inplaceOp c v u) (EP X a b Q) X.xe s
section
variable{X:Cx}{pos:Pos}
def tP(i:Nat):TG:=λv σ H Q=>Q (σ.set i (some v)) H
theorem aq(b:X.N.Nodup)(e:X.N[i]? =some x)(c:Loc X.env.scope x)(d:X.fn x=true\/X.env.scope.names.lookup x=some .local:=by first|exact .inl rfl|exact .inr rfl|assumption):PG X (.Name x pos) (tP i):=by intro a s f H v u Q I r h;exact wpAny_assign_Name (lE I b e c r (λs' I' =>⟨_,H,I',h⟩) d)
def gNil:Jc:=λvs σ H Q=>vs=[]/\Q σ H
def K3(t:TG)(u:Jc):Jc:=λvs σ H Q=>∃v r,vs=v::r/\t v σ H λσ' H' =>u r σ' H' Q
theorem iZ:Lp X [] gNil:=by intro a s b H d c Q I r h;obtain⟨e,h⟩:=h;subst e;cases r;exact assignInOrder_nil ⟨b,H,I,h⟩
theorem cE(k:PG X e t)(l:Lp X b u)
  (n:(assignEach (e::b) X.env).map (·.2)=assign e X.env::(assignEach b X.env).map (·.2):=by rfl):Lp X (e::b) (K3 t u):=by
 intro a s j H q o Q I r h;obtain⟨v,p,m,h⟩:=h;subst m;cases r with
 |cons r f=>rw[n];refine assignInOrder_cons (aj (k a s j H _ _ _ I r h) λ_ s1 hpq=> ?_);obtain⟨c,g,d,i⟩:=hpq;exact l a s1 c g _ _ Q d f i
def gTup(K:W.Frag)(n:Nat)(t:Jc):TG:=λv σ H Q=>∃a b,v=.ref a/\bg K H a b/\b.length=n/\t b σ H Q
theorem lY(p:X.calm=true)(h:Lp X d t)
  (x:(assignEach d X.env).length=n:=by rfl) (f:(assignEach d X.env).findIdx? (·.1)=none:=by rfl):PG X (.Tuple d k pos) (gTup X.K n t):=by
 intro c s j H v u Q I r g;obtain⟨a,A,y,m,z,g⟩:=g;subst y;cases r;obtain⟨q,i,w,B⟩:=I.tuple m;refine assign_Tuple_tuple (I.ok.hd p) w (by simp[x,<-z,i.length]) f λh' hx=> ?_;have l:Inv X c j H {s with heap:=h'}:=I.kept (t' :=s.toks) λb o e=>hx b o (Md (MY e)) e;exact h c _ j H A _ Q l (by simpa using i) g
def gSub(b a:TE)(t:Ja):TG:=λv σ H Q=>b σ H λo H1=>a σ H1 λi H2=>t o i v H2 λH3=>Q σ H3
theorem HG(A:PE X o d)(z:PE X i c)(e:Lo X t)
  (k:∀v,assign (.Subscript o i pos) X.env v=(do
   let ov<-holding [v] (eval o X.env)
   let iv<-holding [v,ov] (eval i X.env)
   standAt pos
   holding [v,ov,iv] (setItem ov iv v)
   release [v,ov,iv] []):=by intro _;rfl):PG X (.Subscript o i pos) (gSub d c t):=by
 intro a s b H v u Q I r h;rw[k];refine L8 (NR (aj (A a s b H _ I h) λov s1 hpq=> ?_));obtain⟨x,m,f,B,n⟩:=hpq;refine L8 (NR (aj (z a s1 b m _ f n) λiv s2 hpq=> ?_));obtain⟨y,l,j,p,C⟩:=hpq;refine L8 (wpAny_standAt (L8 (NR (aj (e a s2 b l x y v ov iv u _ j B p r C) λ_ s3 hpq=> ?_))));obtain⟨w,q,g⟩:=hpq;exact wpAny_release ⟨b,w,q,g⟩
def Ge(a:TE)(g:TG):TS:=λD σ H=>a σ H λx H1=>g x σ H1 D.nx
theorem G6(k:PE X e c)(j:PG X b g)(f:swapsWithSole [b] e pos.line X.env=pure false:=by rfl)(l:swappedStores [b] e X.env=pure none:=by rfl)
  (i:(assignEach [b] X.env).map (·.2)=[assign b X.env]:=by rfl):PS X (.Assign [b] e pos) (Ge c g):=by
 intro a s d H D I h;refine wpAny_Assign_stores (aj (k a s d H _ I h) λv s1 ⟨x,H1,I1,r1,q1⟩=> ?_) f l;rw[i];exact aj (j a s1 d H1 x v _ I1 r1 q1) λ_ s2 q=>q
theorem d6(f:X.N.Nodup)(k:X.N[i]? =some x)(j:Loc X.env.scope x)(g:PE X e c)(d:swapsWith e (some (.Name x a)) pos.line X.env=pure false:=by rfl)(l:X.fn x=true\/X.env.scope.names.lookup x=some .local:=by first|exact .inl rfl|exact .inr rfl|assumption):
  PS X (.Assign [.Name x a] e pos) (Ge c (tP i)):=by
 intro b s m H D I h;refine wpAny_Assign_Name (aj (g b s m H _ I h) λv s1 ⟨y,H1,I1,r1,q1⟩=> ?_) d;exact lE I1 f k j r1 (λs2 I2=>⟨_,H1,I2,q1⟩) l
def tAug(i:Nat)(b:TE)(a:TIp):TS:=λD σ H=>∃x,σ[i]? =some (some x)/\b σ H λy H1=>a x y H1 λz H2=>D.nx (σ.set i (some z)) H2
theorem Gz(Q:X.N.Nodup)(p:X.N[i]? =some x)(g:Loc X.env.scope x)(L:PE X e t)(O:PIp X j n)(T:X.fn x=true\/X.env.scope.names.lookup x=some .local:=by first|exact .inl rfl|exact .inr rfl|assumption):
  PS X (.AugAssign (.Name x f) j e pos) (tAug i t n):=by
 intro a s o H D I h;obtain⟨v,R,h⟩:=h;obtain⟨m,M,S⟩:=I.loc;have V:Jp X.env.scope x:=by rcases g with k|k;exact .inl k;exact .inr (.inl k)
 obtain⟨u,r,l⟩:=S i x v p R V;refine wpAny_AugAssign_Name ?_;have q:wpAny (model X.prog X.w) X.A (eval e X.env) (λw s₂=>wpAny (model X.prog X.w) X.A (inplaceOp j u w) (λr s₃=>wpAny (model X.prog X.w) X.A (storeName X.env x r) (λ_=>SP X a D .next) X.xe s₃) X.xe s₂) X.xe s:=by refine aj (L a s o H _ I h) λw s1 hpq=> ?_;obtain⟨y,F,z,P,G⟩:=hpq;refine aj (O a s1 o F v y u w _ z r P G) λz s2 hpq=> ?_;obtain⟨W,E,B,J,U⟩:=hpq;exact lE B Q p g J (λs3 I3=>⟨_,E,I3,U⟩) T
 rcases l with⟨b,K⟩|⟨b,c,C,d⟩
 .exact wpAny_loadName_local I.ok.kind b M K q
 .rcases b with b|b
  .exact wpAny_loadName_cell I.ok.kind b C d q
  .rcases g with k|k
   .have:X.env.scope.names.lookup x=some .free:=b
    rw[k]at this;cases this
   .have:X.env.scope.names.lookup x=some .free:=b
    rw[k]at this;cases this
def ipI(f:Int->Int->Int):TIp:=λx y H Q=>∃i j,x=.int i/\y=.int j/\Q (.int (f i j)) H
theorem IQ:PIp X .Add (ipI λi j=>i+j):=by intro a s g H x y v u Q I e b h;obtain⟨i,j,d,c,q⟩:=h;subst d;subst c;obtain⟨t,rfl⟩:=e;obtain⟨f,rfl⟩:=b;exact iadd_int ⟨.int _,H,I.tok _,⟨_,rfl⟩,q⟩
theorem IP:PIp X .Sub (ipI λi j=>i-j):=by intro a s g H x y v u Q I e b h;obtain⟨i,j,d,c,q⟩:=h;subst d;subst c;obtain⟨t,rfl⟩:=e;obtain⟨f,rfl⟩:=b;exact isub_int ⟨.int _,H,I.tok _,⟨_,rfl⟩,q⟩
def GZ(c:TT)(g:TS):TS:=λD a H=>∃W:Nat->St->Hp->Prop,(∃m,W m a H)/\∀m a H,W m a H -> c a H λb H1=>if b=true then∃N:St->Hp->Prop,(∀d e,N d e ->∃f,f <m/\W f d e)/\g {D with nx:=N,ct:=N,bk:=D.nx} a H1 else D.nx a H1
theorem sA(y:PassesOwn (model X.prog X.w) X.A X.env X.xe)(G:PT X c u)(L:wA X g B):PS X (.While c g [] pos) (GZ u B):=by
 intro a s K H D I h;obtain⟨W,⟨P,J⟩,j⟩:=h;refine wpAny_While (codeAny_whileLoop (λn s' =>∃i C,Inv X a i C s' /\W n i C) ?_ P ⟨K,H,I,J⟩);rintro n M ⟨e,z,F,O⟩;refine Og y (aj (G a M e z _ F (j n e z O)) λb s2 hpq=> ?_);obtain⟨x,t,l⟩:=hpq;cases b with
 |true=>
  obtain⟨N,E,l⟩:=l;rw[MF rfl];refine Og y (aj (L a s2 e x _ t l) λf s3 q3=> ?_);cases f with
  |next=>obtain⟨d,k,o,q⟩:=q3;obtain⟨r,p,m⟩:=E d k q;exact⟨r,p,d,k,o,m⟩
  |cont=>obtain⟨d,k,o,q⟩:=q3;obtain⟨r,p,m⟩:=E d k q;exact⟨r,p,d,k,o,m⟩
  |brk=>exact q3|ret v=>exact q3
 |false=>rw[ME MI];exact wpAny_execs_nil ⟨e,x,t,l⟩
end
set_option tactic.hygienic true
structure It where
 go:Nat->Hp->Prop
 yld:Nat->Hp->V->Hp->Prop
 stop:Nat->Hp->Prop
def j8(X:Cx)(a:List (Addr×Obj))(H:Hp)(b:Addr):Prop:=
 H b=none/\b≠X.env.locals/\b∉X.fs/\(b∈X.ex\/X.s₀.heap.objs.size<=b)/\(∀x c,X.env.cells.lookup x=some c->c≠b)/\∀p∈X.pn++a,p.1≠b
theorem Inv.fpOk(I:Inv X a h H s)(d:s.heap.objs.size<=b)(g:f b=none):j8 X a f b:=by
 refine⟨g,Nd (M0 I.lt d),I.nofs d,.inr (Mq I.sz d),λx c e z=> ?_,λp hp z=> ?_⟩
 .obtain⟨v,q⟩:=I.cell x c e
  exact absurd (M0 q.lt (by rw[z];exact d)) (OU _)
 .exact absurd (M0 (MY (I.pin p hp).1) (by rw[z];exact d)) (OU _)
structure nU(P:Program)(w:World)(K:W.Frag)(tg:Expr)(J:It)(fp:List Addr)(it:Addr)(tn:Nat->Heap->Prop):Prop where
 mem:it∈fp
 obj:∀i h,tn i h->∀b∈fp,∃o,h.get? b=some o/\∀v,o.data≠.cell v
 keep:∀i h h',tn i h->(∀b∈fp,∀o,h.get? b=some o->h'.get? b=some o)->tn i h'
 item:∀(X:Cx),X.prog=P->X.w=w->X.K=K->X.calm=true->∀(i:Nat)(pins:List (Addr×Obj))(s:Shared)(σ:St)(H:Hp)(E:Value->Shared->Prop),Inv X pins σ H s->(∀b∈fp,j8 X pins H b)->tn i s.heap->J.go i H ->
  wpAny (model P w) X.A (pyNext (.ref it)) (fun r s1=>∃u,r=some u /\
   wpAny (model P w) X.A (letOwnedTupleGo tg (.ref it) u) (fun _ s2=>∃x H',Inv X pins σ H' s2/\RelV x u/\J.yld i H x H' /\tn (i+1) s2.heap/\∀b∈fp,H' b=none) E s1) E s
 done:∀(X:Cx),X.prog=P->X.w=w->X.K=K->X.calm=true->∀(i:Nat)(pins:List (Addr×Obj))(s:Shared)(σ:St)(H:Hp)(E:Value->Shared->Prop),Inv X pins σ H s->(∀b∈fp,j8 X pins H b)->tn i s.heap->J.stop i H ->
  wpAny (model P w) X.A (pyNext (.ref it)) (fun r s1=>r=none/\Inv X pins σ H s1) E s
 self:∀(A:Around)(i:Nat)(s:Shared)(Q:Value->Shared->Prop)(E:Value->Shared->Prop),tn i s.heap->Q (.ref it) s->wpAny (model P w) A (pyIter (.ref it)) Q E s
abbrev TI:=St->Hp->(It->Hp->Prop)->Prop
def PIE(X:Cx)(a:List (Addr×Obj))(j:St)(i:Expr)(R:It->Hp->Prop)(d:Value)(h:Shared):Prop:=
 ∃(f:Addr)(g:List Addr)(e:Nat->Heap->Prop)(J:It)(c:Hp),d=.ref f/\Inv X a j c h/\nU X.prog X.w X.K i J g f e/\e 0 h.heap/\(∀b∈g,j8 X a c b)/\R J c
def PI(X:Cx)(e b:Expr)(d:TI):Prop:=
 ∀(a:List (Addr×Obj))(s:Shared)(c:St)(H:Hp)(R:It->Hp->Prop),Inv X a c H s->d c H R -> wpAny (model X.prog X.w) X.A (eval b X.env) (λv s1=>wpAny (model X.prog X.w) X.A (pyIter v) (PIE X a c e R) X.xe s1) X.xe s
set_option tactic.hygienic false
theorem oJ(ho:s.heap.get? it=some o)(hc:o.cls=.type n)(hd:o.data=.fields vs)
    (hn:["enumerate","zip","dict_itemiterator","dict_reverseitemiterator","odict_iterator","itertools.zip_longest","itertools.pairwise"].contains n=false) (hQ:Q () s):wpAny M A (letOwnedTupleGo tg (.ref it) u) Q E s:=by
  unfold letOwnedTupleGo
  cases tg<;>first
    | exact MC hQ
    | (cases u<;>first
        | exact MC hQ
        | (refine L8 (wpAny_load ho ?_)
           rw[hc,hd];show wpAny M A (if(["enumerate","zip","dict_itemiterator","dict_reverseitemiterator","odict_iterator","itertools.zip_longest","itertools.pairwise"].contains n&&vs[0]? ==some (rawInt _))=true then _ else _) Q E s;rw[ME (by intro h;rw[hn,Pj]at h;cases h)];exact MC hQ))
noncomputable def Jj(K:W.Frag)(a:Addr):It:=
 ⟨λi H=>∃b x,bQ K H a b/\b[i]? =some x,λi H x H' =>H' =H/\∀b,bQ K H a b->b[i]? =some x,λi H=>∃b,bQ K H a b/\b.length<=i⟩
noncomputable def Ji(K:W.Frag)(a:Addr):It:=
 ⟨λi H=>∃b x,bg K H a b/\b[i]? =some x,λi H x H' =>H' =H/\∀b,bg K H a b->b[i]? =some x,λi H=>∃b,bg K H a b/\b.length<=i⟩
noncomputable def GB(a:Int)(n:Nat):It:=⟨λi _=>i<n,λi H x H' =>H' =H/\x=.int (a+i),λi _=>n<=i⟩
theorem yJ{P:Program}{w:World}{K:W.Frag}{Q:Expr}(a j:Addr):nU P w K Q (Jj K a) [j] j (λi h=>h.IsListIter j a i) where
 mem:=by simp
 obj:=λi h f b hb=>by
  have e:b=j:=by simpa using hb
  subst e;obtain⟨o,e,c,d⟩:=f;exact⟨o,e,λv z=>by rw[d]at z;cases z⟩
 keep:=λi h h' f k=>f.at λo e=>k j (by simp) o e
 item:=by intro X y D v J i g s L H E I m f q;subst y D v;obtain⟨S,x,l,t⟩:=q;obtain⟨A,r,p,R⟩:=I.list l;obtain⟨u,T,M⟩:=r.get t;obtain⟨B,G,O,C,n,F⟩:=m j (by simp);refine wpAny_pyNext_list_item f p.isList (x:=u) (by simpa using T) λh' st' sb=> ?_;have N:Inv X g L H {s with heap:=h'}:=I.turned (t' :=s.toks) (λb o hb e=>(sb.2 b hb).trans e) B G C n F;obtain⟨o,e,c,d⟩:=id st';exact⟨u,rfl,oJ (s:={s with heap:=h'}) e c d (by decide) ⟨x,H,N,M,⟨rfl,λys hy=>by rw[I.list_inj hy l];exact t⟩,st',λb hb=>(m b hb).1⟩⟩
 done:=by intro X y D v J i g s L H E I m f q;subst y D v;obtain⟨S,l,t⟩:=q;obtain⟨A,r,p,R⟩:=I.list l;obtain⟨B,G,O,C,n,F⟩:=m j (by simp);have U:=r.length;exact wpAny_pyNext_list_end (I.ok.hd J) f p.isList (by simp;omega) λh' eb=>⟨rfl,I.turned (t' :=s.toks) (λb o hb e=>eb b o hb e) B G C n F⟩
 self:=λ_ _ _ _ _ f h=>wpAny_pyIter_listiter f h
theorem ub{P:Program}{w:World}{K:W.Frag}{Q:Expr}(a j:Addr):nU P w K Q (Ji K a) [j] j (λi h=>h.IsTupleIter j a i) where
 mem:=by simp
 obj:=λi h f b hb=>by
  have e:b=j:=by simpa using hb
  subst e;obtain⟨o,e,c,d⟩:=f;exact⟨o,e,λv z=>by rw[d]at z;cases z⟩
 keep:=λi h h' f k=>f.at λo e=>k j (by simp) o e
 item:=by intro X A D y J i g s L H E I n f r;subst A D y;obtain⟨S,x,m,v⟩:=r;obtain⟨l,t,p,R⟩:=I.tuple m;obtain⟨u,T,M⟩:=t.get v;obtain⟨B,G,O,C,q,F⟩:=n j (by simp);refine wpAny_pyNext_tuple_item f (show s.heap.IsTuple a l.toArray from p) (x:=u) (by simpa using T) λh' st' sb=> ?_;have N:Inv X g L H {s with heap:=h'}:=I.turned (t' :=s.toks) (λb o hb e=>(sb.2 b hb).trans e) B G C q F;obtain⟨o,e,c,d⟩:=id st';exact⟨u,rfl,oJ (s:={s with heap:=h'}) e c d (by decide) ⟨x,H,N,M,⟨rfl,λys hy=>by rw[I.tuple_inj hy m];exact v⟩,st',λb hb=>(n b hb).1⟩⟩
 done:=by intro X A D y J i g s L H E I n f r;subst A D y;obtain⟨S,m,v⟩:=r;obtain⟨l,t,p,R⟩:=I.tuple m;obtain⟨B,G,O,C,q,F⟩:=n j (by simp);have U:=t.length;exact wpAny_pyNext_tuple_end (I.ok.hd J) f (show s.heap.IsTuple a l.toArray from p) (by simp;omega) λh' eb=>⟨rfl,I.turned (t' :=s.toks) (λb o hb e=>eb b o hb e) B G C q F⟩
 self:=λ_ _ _ _ _ f h=>wpAny_pyIter_tupleiter f h
theorem uc{P:Program}{w:World}{K:PySem.W.Frag}{F:Expr}(c:Addr)(f:Int)(n:Nat):nU P w K F (GB f n) [c] c (λi h=>IsRangeIter h c (f+(i:Nat)*1) ((n:Int)-(i:Nat)) 1) where
 mem:=by simp
 obj:=λi h a b hb=>by
  have e:b=c:=by simpa using hb
  subst e;exact⟨_,a,λv z=>by have G:Data.fields _=Data.cell v:=z;cases G⟩
 keep:=λi h h' a k=>k c (by simp) _ a
 item:=by intro X q x p m i d s B H E I g a l;subst q x p;obtain⟨r,A,D,u,j,y⟩:=g c (by simp);have W:=Walks.range (prog:=X.prog) (w:=X.w) (I.ok.hd m) c f 1 n;refine W.item i s _ _ l a λv h' tk hv st' kk=> ?_;obtain⟨t,rfl⟩:=hv;have C:Inv X d B H {s with heap:=h',toks:=tk}:=I.turned (λb o hb e=>kk b o (by simpa using hb) e) r A u j y;refine⟨_,rfl,oJ (s:={s with heap:=h',toks:=tk}) (n:="range_iterator") st' rfl rfl (by decide) ⟨.int (f+i),H,C,⟨t,?_⟩,⟨rfl,rfl⟩,st',λb hb=>(g b hb).1⟩⟩;rw[Int.mul_one]
 done:=by intro X q x p m i d s B H E I g a l;subst q x p;obtain⟨r,A,D,u,j,y⟩:=g c (by simp);exact wpAny_pyNext_range_end (I.ok.hd m) a (by have:n<=i:=l;omega) λh' eb=>⟨rfl,I.turned (t' :=s.toks) (λb o hb e=>eb b o hb e) r A u j y⟩
 self:=λ_ _ _ _ _ a h=>wpAny_pyIter_rangeiter a h
section
variable{X:Cx}{tg:Expr}
def Kw(K:W.Frag)(c:TE):TI:=λσ H R=>c σ H λx H1=>∃a,x=.ref a/\(∃b,bQ K H1 a b)/\R (Jj K a) H1
def iTup(K:W.Frag)(c:TE):TI:=λσ H R=>c σ H λx H1=>∃a,x=.ref a/\(∃b,bg K H1 a b)/\R (Ji K a) H1
theorem gA(n:PE X l f):PI X tg l (Kw X.K f):=by
 intro c s m H R I h;refine aj (n c s m H _ I h) λv s1 hpq=> ?_;obtain⟨x,i,d,r,j⟩:=hpq;obtain⟨a,e,⟨v,g⟩,q⟩:=j;subst e;cases r;obtain⟨k,t,p,u⟩:=d.list g;refine P0 p.isList ?_;refine⟨s1.heap.objs.size,[s1.heap.objs.size],_,_,i,rfl,d.kept (t' :=s1.toks) λb o e=>MD _ e,yJ a _,⟨_,MW _ rfl,rfl,rfl⟩,λb hb=> ?_,q⟩;have e:b=s1.heap.objs.size:=by simpa using hb
 subst e;exact d.fpOk (MJ _) (d.hok.fresh (MJ _))
theorem uv(n:PE X l g):PI X tg l (iTup X.K g):=by
 intro c s m H R I h;refine aj (n c s m H _ I h) λv s1 hpq=> ?_;obtain⟨x,j,d,r,k⟩:=hpq;obtain⟨a,e,⟨v,i⟩,q⟩:=k;subst e;cases r;obtain⟨f,t,p,u⟩:=d.tuple i;refine Px (show s1.heap.IsTuple a f.toArray from p) ?_;refine⟨s1.heap.objs.size,[s1.heap.objs.size],_,_,j,rfl,d.kept (t' :=s1.toks) λb o e=>MD _ e,ub a _,⟨_,MW _ rfl,rfl,rfl⟩,λb hb=> ?_,q⟩;have e:b=s1.heap.objs.size:=by simpa using hb
 subst e;exact d.fpOk (MJ _) (d.hok.fresh (MJ _))
theorem rg(I:Inv X d g H s)(j: -(2^62)<=a)(k:a<2^62)(i: -(2^62)<=c)(l:c<2^62)
  (q:R (GB a (c-a).toNat) H):wpAny (model X.prog X.w) X.A (pyIter (.ref s.heap.objs.size)) (PIE X d g tg R) E {s with heap:=s.heap.push {cls:=.type "range",data:=.fields #[.int a t,.int c u,.int 1 v]},toks:=h}:=by
 refine wpAny_pyIter_range (IsRange.new ..) (small_one j k i l) ?_;have f:Inv X d g H {s with heap:=s.heap.push {cls:=.type "range",data:=.fields #[.int a t,.int c u,.int 1 v]},toks:=h}:=I.kept λb o e=>MD _ e
 refine⟨(s.heap.push {cls:=.type "range",data:=.fields #[.int a t,.int c u,.int 1 v]}).objs.size,[(s.heap.push {cls:=.type "range",data:=.fields #[.int a t,.int c u,.int 1 v]}).objs.size],_,_,H,rfl,f.kept (t' :=h) λb o e=>MD _ e,uc _ a (c-a).toNat,?_,λb hb=> ?_,q⟩
 .have n:a+((0:Nat):Int)*1=a:=by simp
  have m:(((c-a).toNat:Nat):Int)-((0:Nat):Int)=Builtin.Range.rangeSize a c 1:=by rw[rangeSize_one];split<;>omega
  show IsRangeIter _ _ (a+((0:Nat):Int)*1) ((((c-a).toNat:Nat):Int)-((0:Nat):Int)) 1;rw[n,m];exact MW _ rfl
 .have e:b=(s.heap.push {cls:=.type "range",data:=.fields #[.int a t,.int c u,.int 1 v]}).objs.size:=by simpa using hb
  subst e;exact f.fpOk (MJ _) (f.hok.fresh (MJ _))
def Ks(a:TA):TI:=λσ H R=>a σ H λvs H1=>∃j:Int,vs=[.int j]/\ -(2^62)<=j/\j<2^62/\R (GB 0 j.toNat) H1
def Kr(a:TA):TI:=λσ H R=>a σ H λvs H1=>∃i j:Int,vs=[.int i,.int j]/\(-(2^62)<=i/\i<2^62/\ -(2^62)<=j/\j<2^62)/\R (GB i (j-i).toNat) H1
theorem jc(f:Gl X "range")(l:X.mg "range"=none)(i:PA X [a] d)(n:starEach [a] X.env=[(false,eval a X.env)]:=by rfl):PI X tg (.Call (.Name "range" p) [a] [] pos) (Ks d):=by
 intro b s k H R I h;refine Call_ (dF I f l boot_range (NE (aj (i pos b s k H _ I h) λus s1 ⟨vs,H1,I1,r1,c⟩=> ?_) n rfl));obtain⟨j,e,c,m,q⟩:=c;subst e;cases r1 with
 |cons r g=>cases g;obtain⟨t,rfl⟩:=r;exact call_range_1 (rg I1 (by omega) (by omega) c m (by simpa using q))
theorem yb(n:Gl X "range")(x:X.mg "range"=none)(o:PA X [a,b] k)(l:starEach [a,b] X.env=[(false,eval a X.env),(false,eval b X.env)]:=by rfl)(d:starEach [b] X.env=[(false,eval b X.env)]:=by rfl):
  PI X tg (.Call (.Name "range" p) [a,b] [] pos) (Kr k):=by
 intro c s v H R I h;refine Call_ (dF I n x boot_range (NE (aj (o pos c s v H _ I h) λus s1 ⟨vs,H1,I1,r1,g⟩=> ?_) (by rw[l,d]) (by rw[d];rfl)));obtain⟨i,j,e,⟨g,y,m,u⟩,q⟩:=g;subst e;cases r1 with
 |cons r f=>
  cases f with
  |cons w f=>cases f;obtain⟨t,rfl⟩:=r;obtain⟨z,rfl⟩:=w;exact call_range_2 (rg I1 g y m u q)
def tFor(f:TI)(g:TG)(e:TS):TS:=λD a H=>f a H λJ H1=>∃W:Nat->Nat->St->Hp->Prop,(∃m,W 0 m a H1)/\∀i m a H,W i m a H -> (J.stop i H/\D.nx a H)\/(J.go i H/\∃N:St->Hp->Prop,(∀c b,N c b ->∃d,d <m/\W (i+1) d c b)/\∀x b,J.yld i H x b ->g x a b λσ2 H2=>e {D with nx:=N,ct:=N,bk:=D.nx} σ2 H2)
noncomputable def lV(a:List Addr)(h:Heap):List (Addr×Obj):=a.filterMap λb=>(h.get? b).map λo=>(b,o)
theorem eh(c:b∈a)(e:h.get? b=some o):(b,o)∈lV a h:=List.mem_filterMap.mpr ⟨b,c,by rw[e];rfl⟩
theorem ye(f:p∈lV a h):p.1∈a/\h.get? p.1=some p.2:=by
 obtain⟨b,c,e⟩:=List.mem_filterMap.mp f;cases q:h.get? b with
 |none=>rw[q]at e;cases e|some o=>rw[q]at e;have d:(b,o)=p:=MZ e;subst d;exact⟨c,q⟩
theorem Inv.pinned(I:Inv X a h H s)(i:∀b∈c,j8 X a H b)(j:∀b∈c,∃o,s.heap.get? b=some o/\∀v,o.data≠.cell v):Inv X (a++lV c s.heap) h H s:= I.pins_of λp hp=>(Mi.mp hp).elim (λz=>I.pin p (Mv _ z)) λz=>by obtain⟨f,e⟩:=ye z;obtain⟨m,k,l,_⟩:=i p.1 f;obtain⟨o,g,d⟩:=j p.1 f;rw[e]at g;cases g;exact⟨e,m,k,l,d⟩
theorem Inv.unpinned(I:Inv X (a++c) b H s):Inv X a b H s:=I.pins_of λp hp=>I.pin p (Mv _ (Mr _ hp))
theorem d7(G:PassesOwn (model X.prog X.w) X.A X.env X.xe)(hc:X.calm=true)(hi:PI X tg k wi)(hg:PG X tg g)(t:wA X C tb)
  (hs:∀x,foldedSetIterable k X.env x=pure x:=by intro _;rfl):PS X (.For tg k C [] pos) (tFor wi g tb):=by
 intro c s σ H D I h;refine wpAny_For (aj (hi c s σ H _ I h) λv s1 h1=>aj h1 λitv s2 h2=> ?_) hs;obtain⟨it,L,tn,J,H2,e,I2,T,Y,f2,W,⟨m0,w0⟩,P⟩:=h2;subst e;have q:∀{z:Hp},(∀b∈L,z b=none)->∀b∈L,j8 X c z b:=λhn b t=>⟨hn b t,(f2 b t).2⟩;refine codeAny_forLoop_any (λn s' =>∃i p z,Inv X c p z s' /\tn i s'.heap/\(∀b∈L,z b=none)/\W i n p z) ?_ m0 ⟨0,σ,H2,I2,Y,λb t=>(f2 b t).1,w0⟩;rintro n s3 ⟨i,l,R,I3,O,Q,w3⟩
 rcases P i n l R w3 with⟨K,qn⟩|⟨go,N,hN,M⟩
 .refine Og G (aj (T.done X rfl rfl rfl hc i c s3 l R X.xe I3 (q Q) O K) λr s4 hpq=> ?_)
  obtain⟨U,I4⟩:=hpq;subst U;exact wpAny_execs_nil ⟨l,R,I4,qn⟩
 .refine Og G (aj (T.item X rfl rfl rfl hc i c s3 l R X.xe I3 (q Q) O go) λr s4 hpq=> ?_)
  obtain⟨u,U,h4⟩:=hpq;subst U;refine Og G (aj h4 λ_ s5 hpq=> ?_);obtain⟨x,H5,I5,r5,y5,E,V⟩:=hpq;have S:=I5.pinned (q V) (T.obj _ _ E);refine Og G (aj (hg _ s5 l H5 x u _ S r5 (M x H5 y5)) λ_ s6 hpq=> ?_);obtain⟨Z,H6,I6,q6⟩:=hpq;refine Og G (aj (t _ s6 Z H6 _ I6 q6) λf s7 B=> ?_);have y:∀{a:St}{j:Hp},Inv X (c++lV L s5.heap) a j s7->N a j->∃m,m<n/\∃i p z,Inv X c p z s7/\tn i s7.heap/\(∀b∈L,z b=none)/\W i m p z:=λ{a j} r F=>by obtain⟨m',hm,w7⟩:=hN a j F;refine⟨m',hm,i+1,a,j,r.unpinned,T.keep _ _ _ E λb t o e=>(r.pin (b,o) (Mv _ (Mv _ (eh t e)))).1,λb t=> ?_,w7⟩;obtain⟨o,e,d⟩:=T.obj _ _ E b t;exact(r.pin (b,o) (Mv _ (Mv _ (eh t e)))).2.1
  cases f with
  |next=>obtain⟨a,j,r,F⟩:=B;exact y r F
  |cont=>obtain⟨a,j,r,F⟩:=B;exact y r F
  |brk=>obtain⟨a,j,r,B⟩:=B;exact⟨a,j,r.unpinned,B⟩
  |ret v=>obtain⟨x7,a,j,r,r7,B⟩:=B;exact⟨x7,a,j,r.unpinned,r7,B⟩
end
theorem tS{K:PySem.W.Frag}{a:Addr}{xs:List V}{g:TG}{j:TS}{D:cq}{b:St}{H:Hp}(c:Nat->St->Hp->Prop)(o:c 0 b H)(s:∀i b H,i<=xs.length->c i b H->bQ K H a xs)
  (l:∀i x b H,xs[i]? =some x->c i b H->g x b H λσ2 H2=>j {D with nx:=c (i+1),ct:=c (i+1),bk:=D.nx} σ2 H2) (r:∀b H,c xs.length b H->D.nx b H):
  ∃W:Nat->Nat->St->Hp->Prop,(∃m,W 0 m b H)/\∀i m b H,W i m b H -> ((Jj K a).stop i H/\D.nx b H)\/((Jj K a).go i H/\∃N:St->Hp->Prop,(∀h d,N h d ->∃k,k <m/\W (i+1) k h d)/\∀x d,(Jj K a).yld i H x d ->g x b d λσ2 H2=>j {D with nx:=N,ct:=N,bk:=D.nx} σ2 H2):=by
 refine⟨λi m b H=>m=xs.length-i/\i<=xs.length/\c i b H,⟨xs.length,by simp,Mk _,o⟩,?_⟩;rintro i m b H ⟨rfl,n,p⟩;have q:=s i b H n p
 by_cases f:i<xs.length
 .refine .inr ⟨⟨xs,xs[i],q,by simp[f]⟩,c (i+1),λσ' d p' =>⟨xs.length-(i+1),by omega,rfl,f,p'⟩,λx d y=> ?_⟩
  obtain⟨e,y⟩:=y;subst e;exact l i x b _ (y xs q) p
 .have e:i=xs.length:=by omega
  subst e;exact .inl ⟨⟨xs,q,MJ _⟩,r b H p⟩
theorem Eg{K:PySem.W.Frag}{a:Addr}{xs:List V}{g:TG}{j:TS}{D:cq}{b:St}{H:Hp}(c:Nat->St->Hp->Prop)(o:c 0 b H)(s:∀i b H,i<=xs.length->c i b H->bg K H a xs)
  (l:∀i x b H,xs[i]? =some x->c i b H->g x b H λσ2 H2=>j {D with nx:=c (i+1),ct:=c (i+1),bk:=D.nx} σ2 H2) (r:∀b H,c xs.length b H->D.nx b H):
  ∃W:Nat->Nat->St->Hp->Prop,(∃m,W 0 m b H)/\∀i m b H,W i m b H -> ((Ji K a).stop i H/\D.nx b H)\/((Ji K a).go i H/\∃N:St->Hp->Prop,(∀h d,N h d ->∃k,k <m/\W (i+1) k h d)/\∀x d,(Ji K a).yld i H x d ->g x b d λσ2 H2=>j {D with nx:=N,ct:=N,bk:=D.nx} σ2 H2):=by
 refine⟨λi m b H=>m=xs.length-i/\i<=xs.length/\c i b H,⟨xs.length,by simp,Mk _,o⟩,?_⟩;rintro i m b H ⟨rfl,n,p⟩;have q:=s i b H n p
 by_cases f:i<xs.length
 .refine .inr ⟨⟨xs,xs[i],q,by simp[f]⟩,c (i+1),λσ' d p' =>⟨xs.length-(i+1),by omega,rfl,f,p'⟩,λx d y=> ?_⟩
  obtain⟨e,y⟩:=y;subst e;exact l i x b _ (y xs q) p
 .have e:i=xs.length:=by omega
  subst e;exact .inl ⟨⟨xs,q,MJ _⟩,r b H p⟩
theorem oM{lo:Int}{n:Nat}{g:TG}{h:TS}{D:cq}{a:St}{H:Hp}(d:Nat->St->Hp->Prop)(l:d 0 a H)
  (k:∀i a H,i<n->d i a H->g (.int (lo+i)) a H λσ2 H2=>h {D with nx:=d (i+1),ct:=d (i+1),bk:=D.nx} σ2 H2) (o:∀a H,d n a H->D.nx a H):
  ∃W:Nat->Nat->St->Hp->Prop,(∃m,W 0 m a H)/\∀i m a H,W i m a H -> ((GB lo n).stop i H/\D.nx a H)\/((GB lo n).go i H/\∃N:St->Hp->Prop,(∀f c,N f c ->∃j,j <m/\W (i+1) j f c)/\∀x c,(GB lo n).yld i H x c ->g x a c λσ2 H2=>h {D with nx:=N,ct:=N,bk:=D.nx} σ2 H2):=by
 refine⟨λi m a H=>m=n-i/\i<=n/\d i a H,⟨n,by simp,Mk _,l⟩,?_⟩;rintro i m a H ⟨rfl,q,p⟩
 by_cases b:i<n
 .refine .inr ⟨b,d (i+1),λσ' c p' =>⟨n-(i+1),by omega,rfl,b,p'⟩,λx c y=> ?_⟩
  obtain⟨e,y⟩:=y;subst e y;exact k i a _ b p
 .have e:i=n:=by omega
  subst e;exact .inl ⟨MJ _,o a H p⟩
abbrev R2:=V->V->Hp->VK->Prop
def dI(X:Cx)(f:Value->Value->Sem Value)(r:R2):Prop:=
 ∀(a:List (Addr×Obj))(s:Shared)(b:St)(H:Hp)(x y:V)(v u:Value)(Q:VK),Inv X a b H s->RelV x v->RelV y u->r x y H Q -> wpAny (model X.prog X.w) X.A (f v u) (EP X a b Q) X.xe s
def UnR(X:Cx)(f:Value->Sem Value)(r:V->Hp->VK->Prop):Prop:=
 ∀(a:List (Addr×Obj))(s:Shared)(b:St)(H:Hp)(x:V)(v:Value)(Q:VK),Inv X a b H s->RelV x v->r x H Q -> wpAny (model X.prog X.w) X.A (f v) (EP X a b Q) X.xe s
def bS(X:Cx)(f:Value)(r:List V->Hp->VK->Prop):Prop:=
 ∀(a:List (Addr×Obj))(s:Shared)(d:St)(H:Hp)(c:List V)(b:List Value)(Q:VK),Inv X a d H s->aR c b->r c H Q -> wpAny (model X.prog X.w) X.A (call f b) (EP X a d Q) X.xe s
def TruR(X:Cx)(r:V->Hp->(Bool->Hp->Prop)->Prop):Prop:=
 ∀(a:List (Addr×Obj))(s:Shared)(b:St)(H:Hp)(x:V)(v:Value)(Q:Bool->Hp->Prop),Inv X a b H s->RelV x v->r x H Q -> wpAny (model X.prog X.w) X.A (truthy v) (TP X a b Q) X.xe s
def tOp(r:R2)(a b:TE):TE:=λσ H Q=>a σ H λx H1=>b σ H1 λy H2=>r x y H2 Q
def tUn(r:V->Hp->VK->Prop)(a:TE):TE:=λσ H Q=>a σ H λx H1=>r x H1 Q
def rI(C:Int->Int->Prop)(g:Int->Int->V):R2:=λx y H Q=>∃i j,x=.int i/\y=.int j/\C i j/\Q (g i j) H
def Ah(g:Int->Int->V):R2:=λx y H Q=>∃i j,x=.int i/\y=.int j/\Q (g i j) H
def rU(g:Int->V):V->Hp->VK->Prop:=λx H Q=>∃i,x=.int i/\Q (g i) H
section
variable{X:Cx}{a b c:Expr}{ta tb tc:TE}{pos:Pos}
theorem JM(m:PE X a ta)(p:PE X b tb){d:List (Addr×Obj)}{s:Shared}{g:St}{H:Hp}{R:V->V->Hp->Prop}(I:Inv X d g H s)
  (h:ta g H λx j=>tb g j λy e=>R x y e) {Q:Value->Shared->Prop} {f:Value->Value->Sem Value}
  (r:∀v u i x y e,Inv X d g e i->RelV x v->RelV y u->R x y e->wpAny (model X.prog X.w) X.A (f v u) Q X.xe i):
  wpAny (model X.prog X.w) X.A (eval a X.env) (λv s₁=>wpAny (model X.prog X.w) X.A (eval b X.env) (λu s₂=>wpAny (model X.prog X.w) X.A (f v u) Q X.xe s₂) X.xe s₁) X.xe s:=by
 refine aj (m d s g H _ I h) λv s1 hpq=> ?_;obtain⟨x,j,k,q,n⟩:=hpq;refine aj (p d s1 g j _ k n) λu i hpq=> ?_;obtain⟨y,e,l,o,t⟩:=hpq;exact r v u i x y e l q o t
theorem fR(f:dI X (binaryOp e) r)(j:PE X a ta)(g:PE X b tb):PE X (.BinOp a e b pos) (tOp r ta tb):=by intro d s i H Q I h;exact wpAny_BinOp (JM j g I h λv u s2 x y H2 I2 rx ry q=>f d s2 i H2 x y v u Q I2 rx ry q)
theorem Fx(g:UnR X (unaryOp e) r)(i:PE X a ta):PE X (.UnaryOp e a pos) (tUn r ta):=by intro d s f H Q I h;exact UnaryOp_ (aj (i d s f H _ I h) λv s1 ⟨x,H1,I1,r1,q1⟩=>g d s1 f H1 x v Q I1 r1 q1)
theorem Ke{g:Int->Int->Int}
  (d:∀(i j:Int)(t u:Tok)(s:Shared)(Q:Value->Shared->Prop)(E:Value->Shared->Prop),C i j->Q (.int (g i j) s.toks) {s with toks:=s.toks+1}->wpAny (model X.prog X.w) X.A (f (.int i t) (.int j u)) Q E s):
  dI X f (rI C λi j=>.int (g i j)):=by
 intro e s o H x y v u Q I n m h;obtain⟨i,j,rfl,rfl,l,q⟩:=h;obtain⟨t,rfl⟩:=n;obtain⟨k,rfl⟩:=m;exact d i j t k s _ _ l ⟨.int (g i j),H,I.tok _,⟨_,rfl⟩,q⟩
theorem D3{g:Int->Int->Int}
  (d:∀(i j:Int)(t u:Tok)(s:Shared)(Q:Value->Shared->Prop)(E:Value->Shared->Prop),Q (.int (g i j) s.toks) {s with toks:=s.toks+1}->wpAny (model X.prog X.w) X.A (f (.int i t) (.int j u)) Q E s):
  dI X f (Ah λi j=>.int (g i j)):=by
 intro e s n H x y v u Q I m l h;obtain⟨i,j,rfl,rfl,q⟩:=h;obtain⟨t,rfl⟩:=m;obtain⟨k,rfl⟩:=l;exact d i j t k s _ _ ⟨.int (g i j),H,I.tok _,⟨_,rfl⟩,q⟩
theorem D4{g:Int->Int->Bool}
  (d:∀(i j:Int)(t u:Tok)(s:Shared)(Q:Value->Shared->Prop)(E:Value->Shared->Prop),Q (.bool (g i j)) s->wpAny (model X.prog X.w) X.A (f (.int i t) (.int j u)) Q E s):
  dI X f (Ah λi j=>.bl (g i j)):=by
 intro e s n H x y v u Q I m l h;obtain⟨i,j,rfl,rfl,q⟩:=h;obtain⟨t,rfl⟩:=m;obtain⟨k,rfl⟩:=l;exact d i j t k s _ _ ⟨.bl (g i j),H,I,rfl,q⟩
def CPow(i j:Int):Prop:=0<=j/\j<=1000000/\i.natAbs<2^64
def Jl(i j:Int):Prop:=(-(2^64)<i/\i<2^64)\/(-(2^64)<j/\j<2^64)
theorem Jl.ok(h:Jl i j):IntMulOk i j:=by
 rcases h with⟨d,e⟩|⟨d,e⟩
 .exact .of_left (intBits_le_64 d e)
 .exact .of_right (intBits_le_64 d e)
theorem la:dI X (binaryOp .Add) (Ah λi j=>.int (i+j)):=D3 λ_ _ _ _ _ _ _ q=>add_int q
theorem HM:dI X (binaryOp .Sub) (Ah λi j=>.int (i-j)):=D3 λ_ _ _ _ _ _ _ q=>sub_int q
theorem HR:dI X (binaryOp .Mult) (rI Jl λi j=>.int (i*j)):=Ke λ_ _ _ _ _ _ _ hc q=>mul_int q hc.ok
theorem HS:dI X (binaryOp .Mod) (rI (λ_ j=>0<j) λi j=>.int (i%j)):=Ke λi j _ _ _ _ _ hc q=>by have d:(0:Int)<j:=hc;exact mod_int' (by omega) (by rw[Int.fmod_eq_emod_of_nonneg i (by omega)];exact q)
theorem HN:dI X (binaryOp .LShift) (rI CPow λi j=>.int (i*2^j.toNat)):=Ke λ_ _ _ _ _ _ _ hc q=>lshift_int_small hc.1 hc.2.1 hc.2.2 q
theorem A8:dI X (binaryOp .BitAnd) (Ah λi j=>.int (Builtin.bitAnd i j)):=D3 λ_ _ _ _ _ _ _ q=>and_int q
theorem F1:dI X (binaryOp .BitOr) (Ah λi j=>.int (Builtin.bitOr i j)):=D3 λ_ _ _ _ _ _ _ q=>or_int q
theorem unI{g:Int->Int}
  (d:∀(i:Int)(t:Tok)(s:Shared)(Q:Value->Shared->Prop)(E:Value->Shared->Prop),Q (.int (g i) s.toks) {s with toks:=s.toks+1}->wpAny (model X.prog X.w) X.A (f (.int i t)) Q E s):
  UnR X f (rU λi=>.int (g i)):=by
 intro e s k H x v Q I j h;obtain⟨i,rfl,q⟩:=h;obtain⟨t,rfl⟩:=j;exact d i t s _ _ ⟨.int (g i),H,I.tok _,⟨_,rfl⟩,q⟩
theorem zw:UnR X (unaryOp .USub) (rU λi=>.int (-i)):=unI λ_ _ _ _ _ q=>neg_int q
end
noncomputable def Gi:V->V->Bool
 | .non,.non=>true| .non,.int _=>true| .int _,.non=>true| .non,.bl _=>true| .bl _,.non=>true| .non,.str _=>true| .str _,.non=>true
 | .int _,.int _=>true| .bl _,.bl _=>true| .str _,.str _=>true| .byt _,.byt _=>true
 | .int _,.str _=>true| .str _,.int _=>true| .bl _,.str _=>true| .str _,.bl _=>true
 |_,_=>false
def rEq:R2:=λx y H Q=>Gi x y=true/\Q (.bl (decide (x=y))) H
def rNe:R2:=λx y H Q=>Gi x y=true/\Q (.bl (!decide (x=y))) H
theorem xc:decide (V.int i=V.int j)=(i==j):=by rw[Ms];simp
theorem CM:decide (V.bl i=V.bl j)=(i==j):=by rw[Ms];simp
theorem xa:decide (V.str i=V.str j)=(i==j):=by rw[Ms];simp
theorem xf:decide (V.byt i=V.byt j)=(i.toList==j.toList):=by rw[Ms];cases i;cases j;simp
section
variable{X:Cx}{a b c:Expr}{ta tb tc:TE}{pos:Pos}
theorem ae(I:Inv X d g H s)(q:Q (.bl k) H)(e:k=f):EP X d g Q (.bool f) s:=by subst e;exact⟨.bl k,H,I,rfl,q⟩
theorem wn:dI X (compareOp .Eq) rEq:=by
 intro k s l H x y v u Q I g d h;obtain⟨f,q⟩:=h;cases x with
 |non=>
  cases g;cases y with
  |non=>cases d;exact PySem.EqNone.eq_none_none (ae I q (by simp))|bl j=>cases d;exact PySem.EqNone.eq_none_bool (ae I q (by simp))|int j=>obtain⟨e,rfl⟩:=d;exact PySem.EqNone.eq_none_int (ae I q (by simp))
  |str j=>obtain⟨e,rfl⟩:=d;exact PySem.EqNone.eq_none_str (ae I q (by simp))
  |_=>exact absurd (show false=true from f) MI
 |bl i=>
  cases g;cases y with
  |non=>cases d;exact PySem.EqNone.eq_bool_none (ae I q (by simp))|bl j=>cases d;exact eq_bool (ae I q CM)|str j=>obtain⟨e,rfl⟩:=d;exact PySem.EqMixed.eq_bool_str (ae I q (by simp))
  |_=>exact absurd (show false=true from f) MI
 |int i=>
  obtain⟨t,rfl⟩:=g;cases y with
  |non=>cases d;exact PySem.EqNone.eq_int_none (ae I q (by simp))|int j=>obtain⟨e,rfl⟩:=d;exact eq_int (ae I q xc)
  |str j=>obtain⟨e,rfl⟩:=d;exact PySem.EqMixed.eq_int_str (ae I q (by simp))
  |_=>exact absurd (show false=true from f) MI
 |str i=>
  obtain⟨t,rfl⟩:=g;cases y with
  |non=>cases d;exact PySem.EqNone.eq_str_none (ae I q (by simp))|bl j=>cases d;exact PySem.EqMixed.eq_str_bool (ae I q (by simp))|int j=>obtain⟨e,rfl⟩:=d;exact PySem.EqMixed.eq_str_int (ae I q (by simp))
  |str j=>obtain⟨e,rfl⟩:=d;exact eq_str (ae I q xa)
  |_=>exact absurd (show false=true from f) MI
 |byt i=>
  obtain⟨t,rfl⟩:=g;cases y with
  |byt j=>obtain⟨e,rfl⟩:=d;exact W.eq_bytes (ae I q xf)
  |_=>exact absurd (show false=true from f) MI
 |_=>cases y<;>exact absurd (show false=true from f) MI
theorem KZ:dI X (compareOp .NotEq) rNe:=by
 intro k s l H x y v u Q I g d h;obtain⟨f,q⟩:=h;cases x with
 |non=>
  cases g;cases y with
  |non=>cases d;exact PySem.EqNone.ne_none_none (ae I q (by simp))|bl j=>cases d;exact PySem.EqNone.ne_none_bool (ae I q (by simp))|int j=>obtain⟨e,rfl⟩:=d;exact PySem.EqNone.ne_none_int (ae I q (by simp))
  |str j=>obtain⟨e,rfl⟩:=d;exact PySem.EqNone.ne_none_str (ae I q (by simp))
  |_=>exact absurd (show false=true from f) MI
 |bl i=>
  cases g;cases y with
  |non=>cases d;exact PySem.EqNone.ne_bool_none (ae I q (by simp))|bl j=>cases d;exact ne_bool (ae I q (Mw not CM))|str j=>obtain⟨e,rfl⟩:=d;exact PySem.EqMixed.ne_bool_str (ae I q (by simp))
  |_=>exact absurd (show false=true from f) MI
 |int i=>
  obtain⟨t,rfl⟩:=g;cases y with
  |non=>cases d;exact PySem.EqNone.ne_int_none (ae I q (by simp))|int j=>obtain⟨e,rfl⟩:=d;exact ne_int (ae I q (Mw not xc))
  |str j=>obtain⟨e,rfl⟩:=d;exact PySem.EqMixed.ne_int_str (ae I q (by simp))
  |_=>exact absurd (show false=true from f) MI
 |str i=>
  obtain⟨t,rfl⟩:=g;cases y with
  |non=>cases d;exact PySem.EqNone.ne_str_none (ae I q (by simp))|bl j=>cases d;exact PySem.EqMixed.ne_str_bool (ae I q (by simp))|int j=>obtain⟨e,rfl⟩:=d;exact PySem.EqMixed.ne_str_int (ae I q (by simp))
  |str j=>obtain⟨e,rfl⟩:=d;exact ne_str (ae I q (Mw not xa))
  |_=>exact absurd (show false=true from f) MI
 |byt i=>
  obtain⟨t,rfl⟩:=g;cases y with
  |byt j=>obtain⟨e,rfl⟩:=d;exact W.ne_bytes (ae I q (Mw not xf))
  |_=>exact absurd (show false=true from f) MI
 |_=>cases y<;>exact absurd (show false=true from f) MI
theorem Ka:dI X (compareOp .Lt) (Ah λi j=>.bl (decide (i<j))):=D4 λ_ _ _ _ _ _ _ q=>lt_int q
theorem Kb:dI X (compareOp .LtE) (Ah λi j=>.bl (decide (i<=j))):=D4 λ_ _ _ _ _ _ _ q=>le_int q
theorem Kc:dI X (compareOp .Gt) (Ah λi j=>.bl (decide (j<i))):=D4 λ_ _ _ _ _ _ _ q=>gt_int q
theorem Kd:dI X (compareOp .GtE) (Ah λi j=>.bl (decide (j<=i))):=D4 λ_ _ _ _ _ _ _ q=>ge_int q
theorem A6:dI X (compareOp .Is) (λx y H Q=>y=.non/\Q (.bl (decide (x=.non))) H):=by
 intro e s g H x y v u Q I d f h;obtain⟨rfl,q⟩:=h;cases f;refine is_none_gen (ae I q ?_)
 cases x<;>first
  |(cases d;rfl)
  |(obtain⟨t,rfl⟩:=d;rfl)
theorem wm:dI X (compareOp .IsNot) (λx y H Q=>y=.non/\Q (.bl (!decide (x=.non))) H):=by
 intro e s g H x y v u Q I d f h;obtain⟨rfl,q⟩:=h;cases f;refine isnot_none_gen (ae I q ?_)
 cases x<;>first
  |(cases d;rfl)
  |(obtain⟨t,rfl⟩:=d;rfl)
theorem vI(b:Expr)(h:d≠.In:=by decide)(e:d≠.NotIn:=by decide):behindInMarks d b=false:=by
 have f:(d==CmpOp.In)=false:=by cases d<;>first|rfl|exact absurd rfl h
 have g:(d==CmpOp.NotIn)=false:=by cases d<;>first|rfl|exact absurd rfl e
 cases b<;>simp[behindInMarks,f,g]
theorem Dv(f:dI X (compareOp e) r)(k:PE X a ta)(g:PE X b tb)(i:behindInMarks e b=false):PE X (.Compare a [e] [b] pos) (tOp r ta tb):=by intro d s j H Q I h;exact wpAny_Compare1 (JM k g I h λv u s2 x y H2 I2 rx ry q=>f d s2 j H2 x y v u Q I2 rx ry q) i
def Fs(t:TE):TT:=λσ H Q=>t σ H λx H' =>∃k,x=.bl k/\Q k H'
theorem iU(i:dI X (compareOp f) r)(m:PE X a ta)(j:PE X b tb)(l:behindInMarks f b=false):PT X (.Compare a [f] [b] pos) (Fs (tOp r ta tb)):=by
 intro d s g H Q I h
 refine wpAny_isTrue_Compare1 (aj (m d s g H _ I h) λv s1 ⟨x,H1,I1,r1,q1⟩=>aj (j d s1 g H1 _ I1 q1) λu s2 ⟨y,H2,I2,r2,q2⟩=>aj (i d s2 g H2 x y v u _ I2 r1 r2 q2) λc s3 ⟨z,H3,I3,r3,k,e,q3⟩=> ?_) l
 subst e;cases r3;exact NW ⟨H3,I3,q3⟩
def AL(r d:R2)(f e g:TE):TE:=λσ H Q=>f σ H λx H1=>e σ H1 λy H2=>r x y H2 λz H3=>∃k,z=.bl k /\ (if k=true then g σ H3 λw' H4=>d y w' H4 Q else Q (.bl false) H3)
theorem sO(m:dI X (compareOp j) r)(i:dI X (compareOp f) l)(q:PE X a ta)(n:PE X b tb)(p:PE X c tc)
  (o:lastMarks [j,f] [b,c]=false:=by with_unfolding_all rfl):PE X (.Compare a [j,f] [b,c] pos) (AL r l ta tb tc):=by
 intro d s g H Q I h
 refine Compare_chain (aj (q d s g H _ I h) λv s1 ⟨x,H1,I1,r1,q1⟩=>chain_link (aj (n d s1 g H1 _ I1 q1) λu s2 ⟨y,H2,I2,r2,q2⟩=>aj (m d s2 g H2 x y v u _ I2 r1 r2 q2) λd s3 ⟨z,H3,I3,r3,k,e,q3⟩=> ?_)) o
 subst e;cases r3;refine NW ?_;cases k with
 |false=>exact ite_ff ⟨.bl false,H3,I3,rfl,q3⟩|true=>exact ite_tt (chain_last (aj (p d s3 g H3 _ I3 q3) λw' s4 ⟨z',H4,I4,r4,q4⟩=>i d s4 g H4 y z' u w' Q I4 r2 r4 q4))
theorem rm(w:dI X (compareOp i) r)(j:dI X (compareOp f) l)(n:PE X a ta)(q:PE X b tb)(m:PE X c tc)
  (t:lastMarks [i,f] [b,c]=false:=by with_unfolding_all rfl):PT X (.Compare a [i,f] [b,c] pos) (Fs (AL r l ta tb tc)):=by
 intro d s g H Q I h
 refine isTrue_chain (aj (n d s g H _ I h) λv s1 ⟨x,H1,I1,r1,q1⟩=>test_link (aj (q d s1 g H1 _ I1 q1) λu s2 ⟨y,H2,I2,r2,q2⟩=>aj (w d s2 g H2 x y v u _ I2 r1 r2 q2) λd s3 ⟨z,H3,I3,r3,k,e,q3⟩=> ?_)) t
 subst e;cases r3;refine NW ?_;cases k with
 |false=>obtain⟨A,p,o⟩:=q3;cases p;exact ite_ff ⟨H3,I3,o⟩
 |true=>refine ite_tt (test_last (aj (m d s3 g H3 _ I3 q3) λw' s4 ⟨z',H4,I4,r4,q4⟩=>aj (j d s4 g H4 y z' u w' _ I4 r2 r4 q4) λd' s5 ⟨z2,H5,I5,r5,k2,e2,q5⟩=> ?_));subst e2;cases r5;exact NW ⟨H5,I5,q5⟩
def JZ(K:W.Frag)(x:V)(H:Hp)(k:Bool):Prop:=
 match x with
 | .non=>k=false| .bl b=>k=b| .int i=>k=(i !=0)| .str y=>y.length<=sizeLine/\k=((y.length:Int) !=0)| .byt y=>y.size<=sizeLine/\k=((y.size:Int) !=0)| .ref p=>(∃e,bQ K H p e/\k= !e.isEmpty)\/(∃e,bg K H p e/\k= !e.isEmpty)\/∃d,H p=some (.dK d)/\k= !d.isEmpty|_=>False
theorem vQ{e:Type}{d:List (e×V)}{f:List (e×Value)}(r:KV d f):(!f.isEmpty)= !d.isEmpty:=by cases r<;>rfl
theorem l9(r:aR e d):(!d.toArray.isEmpty)= !e.isEmpty:=by cases r<;>simp
theorem gg:(sizeLine:Nat)<2^63:=by rw[M8];decide
theorem GT:TruR X (λx H Q=>∃k,JZ X.K x H k/\Q k H):=by
 intro A s E H x v Q I l h;obtain⟨k,e,q⟩:=h;have F:=gg;have G:sizeLine=16777216:=M8;cases x with
 |non=>cases l;have d:k=false:=e;subst d;exact truthy_none ⟨H,I,q⟩
 |bl b=>cases l;have d:k=b:=e;subst d;exact NW ⟨H,I,q⟩
 |int i=>obtain⟨t,rfl⟩:=l;have d:k=(i !=0):=e;subst d;exact PySem.P.truthy_int ⟨H,I,q⟩
 |str y=>obtain⟨t,rfl⟩:=l;obtain⟨D,d⟩:y.length<=sizeLine/\k=((y.length:Int) !=0):=e;subst d;exact PySem.P.truthy_str (by omega) ⟨H,I.tok _,q⟩
 |byt y=>obtain⟨t,rfl⟩:=l;obtain⟨D,d⟩:y.size<=sizeLine/\k=((y.size:Int) !=0):=e;subst d;exact W.truthy_bytes (by omega) ⟨H,I.tok _,q⟩
 |ref p=>
  cases l;have d:(∃j,bQ X.K H p j/\k= !j.isEmpty)\/(∃j,bg X.K H p j/\k= !j.isEmpty)\/∃f,H p=some (.dK f)/\k= !f.isEmpty:=e
  rcases d with⟨j,n,d⟩|⟨j,n,d⟩|⟨f,n,d⟩
  .subst d
   obtain⟨z,r,u,B⟩:=I.list n;have g:=r.length;exact wpAny_truthy_list u.isList (by simp only[MQ];omega) ⟨H,I.tok _,by rw[l9 r];exact q⟩
  .subst d
   obtain⟨z,r,u,B⟩:=I.tuple n;have g:=r.length;exact truthy_tuple u (by simp only[MQ];omega) ⟨H,I.tok _,by rw[l9 r];exact q⟩
  .subst d
   obtain⟨B,C,o,r,m⟩:f.length<=sizeLine/\(p==sysModules)=false/\∃o,KV f o/\s.heap.DictOf (aT X.prog X.w) p o:=I.hok p _ n;have g:f.length=o.length:=Pf r;exact wpAny_truthy_dict C m (by omega) ⟨H,I.tok _,by rw[vQ r];exact q⟩
 |_=>exact(show False from e).elim
theorem Ao(ha:PE X a ta)(he:∀whole,isTrue a X.env whole=(do let v<-whole;standAt a.pos;holding [v] (truthy v))):
  PT X a (λσ H Q=>ta σ H λx H' =>∃k,JZ X.K x H' k/\Q k H'):=by
 intro pins s σ H Q I h;exact isTrue_plain (aj (ha pins s σ H _ I h) λv s1 ⟨x,H1,I1,r1,q1⟩=>GT pins s1 σ H1 x v Q I1 r1 q1) (he _)
theorem vB:dI X (binaryOp .Add) (λx y H Q=>∃i j,x=.str i/\y=.str j/\i.length+j.length<=sizeLine/\Q (.str (i++j)) H):=by intro d s l H x y v u Q I f e h;obtain⟨i,j,rfl,rfl,g,q⟩:=h;obtain⟨t,rfl⟩:=f;obtain⟨k,rfl⟩:=e;exact add_str (λt' tk=>⟨.str (i++j),H,I.tok _,⟨_,rfl⟩,q⟩) g
theorem vals1(r:aR [x] d):∃u,d=[u]/\RelV x u:=by
 cases r with
 |cons e f=>cases f;exact⟨_,rfl,e⟩
theorem vals2(r:aR [x,y] d):∃u e,d=[u,e]/\RelV x u/\RelV y e:=by
 cases r with
 |cons h i=>
  cases i with
  |cons f g=>cases g;exact⟨_,_,rfl,h,f⟩
theorem zM(hc:X.calm=true):bS X (.builtin "max") (λxs H Q=>∃i j,xs=[.int i,.int j]/\Q (.int (if j>i then j else i)) H):=by
 intro pins s σ H xs us Q I r h;obtain⟨i,j,rfl,q⟩:=h;obtain⟨u,w',rfl,⟨t,rfl⟩,⟨t',rfl⟩⟩:=vals2 r;refine max_two_ints (I.ok.hd hc) λh' tk k=>⟨_,H,I.kept k,?_,q⟩
 by_cases hj:j>i;rw[MF hj,MF hj];exact⟨_,rfl⟩;rw[ME hj,ME hj];exact⟨_,rfl⟩
theorem zL(hc:X.calm=true):bS X (.builtin "min") (λxs H Q=>∃i j,xs=[.int i,.int j]/\Q (.int (if j<i then j else i)) H):=by
 intro pins s σ H xs us Q I r h;obtain⟨i,j,rfl,q⟩:=h;obtain⟨u,w',rfl,⟨t,rfl⟩,⟨t',rfl⟩⟩:=vals2 r;refine min_two_ints (I.ok.hd hc) λh' tk k=>⟨_,H,I.kept k,?_,q⟩
 by_cases hj:j<i;rw[MF hj,MF hj];exact⟨_,rfl⟩;rw[ME hj,ME hj];exact⟨_,rfl⟩
theorem og:bS X (.type "int") (λxs H Q=>(∃i,xs=[.int i]/\Q (.int i) H)\/∃k,xs=[.bl k]/\Q (.int (if k then 1 else 0)) H):=by
 intro pins s σ H xs us Q I r h
 rcases h with⟨i,rfl,q⟩|⟨k,rfl,q⟩
 .obtain⟨u,rfl,t,rfl⟩:=vals1 r
  exact call_int_int ⟨.int i,H,I,⟨_,rfl⟩,q⟩
 .obtain⟨u,rfl,r1⟩:=vals1 r
  cases r1;exact call_int_bool ⟨.int (if k then 1 else 0),H,I.tok _,⟨_,rfl⟩,q⟩
end
set_option tactic.hygienic true
structure Jg(h:Heap)(x dx C:Addr)(mA:Str->Option Value):Prop where
 obj:h.get? x=some (W.instObj C dx)
 ns:h.Ns1 dx mA
 ne:dx≠x
theorem yj{h:Heap}(n:h.Ns1 dx mA):∃od,h.get? dx=some od/\∀name,W.lookIn name od=some (mA name):=by
 obtain⟨o,es,ep,ho,hd,hk,_,hm⟩:=n;refine⟨o,ho,λname=> ?_⟩;have e:=hm name;unfold nsFind findBy at e;rw[<- Array.find?_toList]at e;unfold W.lookIn;rw[hd];dsimp only
 split
 .rename_i y q
  rw[q]at e;exact Mw some e
 .rename_i q
  rw[q]at e;have a:es.toList.any (·.refKey)=false:=by rw[List.any_eq_false];intro y hy;obtain⟨z,t,hkey⟩:=hk y (Array.mem_toList_iff.mp hy);simp[DictEntry.refKey,hkey]
  have a' :¬es.toList.any (·.refKey)=true:=by rw[a];exact MI
  rw[ME a'];exact Mw some e
theorem Jg.look(I:Jg h x d C c):∃b,W.InstAt h x (W.instObj C d) C (some b)/\∀a,W.lookIn a b=some (c a):=
 let⟨b,ho,hl⟩:=yj I.ns
 ⟨b,⟨I.obj,rfl,rfl,ho⟩,hl⟩
theorem j7.some_of(r:j7 (some v) o):∃u,o=some u/\RelV v u:=by
 cases o with
 |none=>exact(show False from r).elim|some u=>exact⟨u,rfl,r⟩
section
variable{P:Program}{w:World}{H H' :Hp}{h h' :Heap}{a C dx:Addr}{fs fs' :List (Str×V)}
theorem EW(c:fo P w H h)(e:H a=some (.ins C dx fs)):∃b,Jg h a dx C b/\(∀f,j7 (fs.lookup f) (b f))/\PySem.Within b (fs.map (·.1))/\fs.length<=1000/\H dx=some (.own a):=by obtain⟨d,z,g,i,b,n,r,q⟩:=(show al P w H h a (.ins C dx fs)from c a _ e);exact⟨b,⟨i,n,g⟩,r,q,z,d⟩
end
structure Cls(K:W.Frag)(C:Addr):Prop where
 pg:W.plainGet K C Str.empty=true
 hd:W.hasDictIn K C=true
 po:W.plainOver K C=true
 sa:W.findIn K (.ref C) "__setattr__"=some (some (.builtin "object.__setattr__"))
theorem Cls.get{K:W.Frag}(c:Cls K C)(f:Str):W.plainGet K C f=true:=c.pg
section
variable{X:Cx}{pins:List (Addr×Obj)}{σ:St}{H:Hp}{s:Shared}{A:Around}{E:Value->Shared->Prop}{Q:Value->Shared->Prop}{c:Value}{b:Bool}
inductive jz(K:W.Frag)(H:Hp):V->Value->Prop where
 | non:jz K H .non (.type "NoneType")
 | bl (x:Bool):jz K H (.bl x) (.type "bool")
 | int (i:Int):jz K H (.int i) (.type "int")
 | str (x:Str):jz K H (.str x) (.type "str")
 | flt (x:UInt64):jz K H (.flt x) (.type "float")
 | lst {a:Addr} {xs:List V} (e:H a=some (.lst xs)):jz K H (.ref a) (.type "list")
 | frz {a:Addr} {o:Obj} {xs:List V} (e:H a=some (.frz o (.lst xs))):jz K H (.ref a) (.type "list")
 | tup {a:Addr} {xs:List V} (e:H a=some (.tup xs)):jz K H (.ref a) (.type "tuple")
 | dK {a:Addr} {kvs:List (ah×V)} (e:H a=some (.dK kvs)):jz K H (.ref a) (.type "dict")
 | dT {a:Addr} {kvs:List (List ah×V)} (e:H a=some (.dT kvs)):jz K H (.ref a) (.type "dict")
 | ins {a C dx:Addr} {fs:List (Str×V)} (e:H a=some (.ins C dx fs)) (cl:Cls K C) (ha:W.findIn K (.ref C) "__class__"=some (some (.builtin "object.__class__")))
   (hn:W.specialIn K (.builtin "object.__class__") "__get__"=some (some (.builtin "getset_descriptor.__get__"))) (htk:W.takesIn K (.builtin "object.__class__")=some true)
   (hm:W.mroIn K C (.type "object")=some true):jz K H (.ref a) (.ref C)
theorem yt(I:Inv X pins σ H s)(f:RelV x u)(G:jz X.K H x t)(e:W.kitOne X.K t c=some b)(h:∀B,Q (.bool b) {s with toks:=B}):
  wpAny (model X.prog X.w) A (call (.builtin "isinstance") [u,c]) Q E s:=by
 cases G with
 |non=>cases(show u=Value.none from f);exact Oc W.kitx_none I.kIn True.intro e (λz=>nomatch z) h|bl y=>cases(show u=Value.bool y from f);exact Oc W.kitx_bool I.kIn True.intro e (λz=>nomatch z) h|int i=>obtain⟨t,q⟩:=(show∃t,u=Value.int i t from f);cases q;exact Oc W.kitx_int I.kIn True.intro e (λz=>nomatch z) h
 |str y=>obtain⟨t,q⟩:=(show∃t,u=Value.str y t from f);cases q;exact Oc W.kitx_str I.kIn True.intro e (λz=>nomatch z) h
 |flt y=>obtain⟨t,q⟩:=(show∃t,u=Value.float y t from f);cases q;exact Oc W.kitx_float I.kIn True.intro e (λz=>nomatch z) h
 | @lst a k d=>cases(show u=Value.ref a from f);obtain⟨_,_,n,_,g⟩:=(show al X.prog X.w H s.heap a (.lst k)from I.hok a _ d);exact Oc W.kitx_list I.kIn ⟨_,g,rfl⟩ e (λz=>nomatch z) h
 | @frz a N k d=>cases(show u=Value.ref a from f);obtain⟨_,_,_,n,_,g⟩:=(show al X.prog X.w H s.heap a (.frz N (.lst k))from I.hok a _ d);exact Oc W.kitx_list I.kIn ⟨_,g,rfl⟩ e (λz=>nomatch z) h
 | @tup a k d=>cases(show u=Value.ref a from f);obtain⟨_,_,_,p⟩:=(show al X.prog X.w H s.heap a (.tup k)from I.hok a _ d);obtain⟨o,g,l,_⟩:=p;exact Oc W.kitx_tuple I.kIn ⟨o,g,l⟩ e (λz=>nomatch z) h
 | @dK a j d=>cases(show u=Value.ref a from f);obtain⟨_,_,U,_,p⟩:=(show al X.prog X.w H s.heap a (.dK j)from I.hok a _ d);obtain⟨o,L,M,g,l,_⟩:=p;exact Oc W.kitx_dict I.kIn ⟨o,g,l.1⟩ e (λz=>nomatch z) h
 | @dT a j d=>cases(show u=Value.ref a from f);obtain⟨_,_,k,_,o,L,M,g,l,_⟩:=(show al X.prog X.w H s.heap a (.dT j)from I.hok a _ d);exact Oc W.kitx_dict I.kIn ⟨o,g,l.1⟩ e (λz=>nomatch z) h
 | @ins a C S P d r v F m D=>cases(show u=Value.ref a from f);obtain⟨R,O,_⟩:=EW I.hok d;obtain⟨T,J,_⟩:=O.look;exact Oc (W.kitx_own (r.get _) r.hd v F m D) I.kIn J e (λz=>nomatch z) h
end
structure fF(k:Nat)(A:Around):Prop where
 hd:A.handled=none
 dp:A.depth+3*k+5<recursionLimit
 un:A.units+16*k+200<cLine
theorem fF.mono(r:fF k A)(h:j<=k):fF j A:=⟨r.hd,by have:=r.dp;omega,by have:=r.un;omega⟩
theorem fF.deeper(r:fF (k+1) A)(a:Env):fF k (A.deeper a):= ⟨r.hd,by have:=r.dp;show A.depth+1+3*k+5<_;omega,by have:=r.un;show A.units+3+16*k+200<_;omega⟩
theorem fF.depth(r:fF k A):A.depth<recursionLimit:=by have:=r.dp;omega
theorem fF.units(r:fF k A):A.units+64<cLine:=by have:=r.un;omega
def tNil:TA:=λ_ H Q=>Q [] H
def J7(a:TE)(b:TA):TA:=λσ H Q=>a σ H λx H1=>b σ H1 λxs H2=>Q (x::xs) H2
section
variable{X:Cx}{e:Expr}{es:List Expr}{te:TE}{t:TA}{pos:Pos}
theorem ac:PA X [] tNil:=λ_ _ _ _ H Q I h=>Calls.spliced_nil ⟨[],H,I,.nil,h⟩
theorem aK(k:PE X e te)(d:PA X es t)(j:starEach (e::es) X.env=(false,eval e X.env)::starEach es X.env:=by rfl):PA X (e::es) (J7 te t):=by intro pos a s b H Q I h;rw[j];show wpAny _ _ (spliced ((false,eval e X.env)::backTo pos (starEach es X.env))) _ _ s;refine Calls.spliced_cons (aj (k a s b H _ I h) λu s1 hpq=> ?_);obtain⟨x,f,c,i,g⟩:=hpq;exact aj (d pos a s1 b f _ c g) λus s2 ⟨xs,H2,I2,r2,q2⟩=>⟨x::xs,H2,I2,.cons i r2,q2⟩
def tTup(t:TA):TE:=λσ H Q=>t σ H λxs H1=>xs.length<=sizeLine/\∀p,H1 p=none->Q (.ref p) (upd H1 p (.tup xs))
def tLst(t:TA):TE:=λσ H Q=>t σ H λxs H1=>xs.length<=sizeLine/\∀p,H1 p=none->Q (.ref p) (upd H1 p (.lst xs))
theorem ux{x1}(h:PA X es t):PE X (.Tuple es x1 pos) (tTup t):=by intro a s d H Q I b;refine wpAny_Tuple_spliced (aj (h pos a s d H _ I b) λus s1 ⟨xs,H1,I1,r,z,q⟩=>⟨by rw[<- r.length];exact z,?_⟩);have c:H1 s1.heap.objs.size=none:=I1.hok.fresh (MJ _);refine⟨.ref s1.heap.objs.size,upd H1 s1.heap.objs.size (.tup xs),I1.laid (t' :=s1.toks) (λb u e=>MD _ e) (MJ _) ?_,rfl,q _ c⟩;exact⟨z,us,r,⟨_,MW _ rfl,rfl,_,rfl,rfl⟩⟩
theorem uz(h:PA X es t):PE X (.List es pos) (tLst t):=by intro a s d H Q I b;refine wpAny_List_spliced (aj (h pos a s d H _ I b) λus s1 ⟨xs,H1,I1,r,z,q⟩=>⟨by rw[<- r.length];exact z,?_⟩);have c:H1 s1.heap.objs.size=none:=I1.hok.fresh (MJ _);refine⟨.ref s1.heap.objs.size,upd H1 s1.heap.objs.size (.lst xs),I1.laid (t' :=s1.toks) (λb u e=>MD _ e) (MJ _) ?_,rfl,q _ c⟩;exact⟨z,us,0,r,MW _ rfl⟩
end
abbrev Sp:=List V->Hp->VK->XK->Prop
abbrev zd:=List Env->Hp->Shared->XK->Value->Shared->Prop
structure Fi(P:Program)(w:World)(K:W.Frag)(mg:Str->Option Value)(base:Heap)(A:Around)(outer:List Env)(s:Shared)(H:Hp):Prop where
 frames:A.frames=some outer
 mod:Mod K mg base
 bs:∀b o,base.get? b=some o->s.heap.get? b=some o/\H b=none
 bsz:base.objs.size<=s.heap.objs.size
 funs:s.heap.FunFrames base outer
 frf:∀b∈vS outer,H b=none
 hok:fo P w H s.heap
 bare:AllBare s.gens
def CE(a:List Env)(P:Program)(w:World)(H:Hp)(s:Shared)(Q:VK)(u:Value)(b:Shared):Prop:=
 ∃v c,b.os=s.os/\AllBare b.gens/\Un (vS a) [] H c s.heap b.heap/\fo P w c b.heap/\RelV v u/\Q v c
def CR(c:zd)(a:List Env)(P:Program)(w:World)(H:Hp)(s:Shared)(Q:VK)(E:XK)(r:Result)(b:Shared):Prop:=
 match r with
 | .ok (.ret u)=>CE a P w H s Q u b| .ok _=>False| .error e=>c a H s E e b
structure bv(P:Program)(w:World)(K:W.Frag)(mg:Str->Option Value)(base:Heap)(CX:zd)(k:Nat)(f:Addr)(fd:FuncData)(ps:List Str)(sp:Sp):Prop where
 len:∀vs H Q E,sp vs H Q E->vs.length=ps.length
 run:∀(A:Around)(outer:List Env)(s:Shared)(H:Hp)(args:Args)(us:List Value)(vs:List V)(Q:VK)(E:XK),fF k A->Fi P w K mg base A outer s H->BindsTo s fd args (ps.zip us)->aR vs us->sp vs H Q E ->
  codeAny (model P w) A (.call (.ref f) args) (CR CX outer P w H s Q E) s
theorem bv.mono{K:W.Frag}(F:bv P w K g a e j f d c b)(h:j<=k):
  bv P w K g a e k f d c b:=⟨F.len,λA outer s H args us vs Q E hr=>F.run A outer s H args us vs Q E (hr.mono h)⟩
theorem bv.imp{K:W.Frag}(F:bv P w K mg base CX k f fd ps sp)
  (h:∀vs H Q E,sp' vs H Q E->sp vs H Q E):bv P w K mg base CX k f fd ps sp' :=
 ⟨λvs H Q E q=>F.len vs H Q E (h _ _ _ _ q),λA outer s H args us vs Q E hr he hb hv hs=>F.run A outer s H args us vs Q E hr he hb hv (h _ _ _ _ hs)⟩
section
variable{X:Cx}{pins:List (Addr×Obj)}{σ:St}{H:Hp}{s s' :Shared}
theorem Inv.env0(I:Inv X pins σ H s):Fi X.prog X.w X.K X.mg X.base X.A X.stack s H:= ⟨I.ok.frames,I.ok.mod,I.bs,Mq I.ok.bsz I.sz,I.stack,I.stkFree,I.hok,I.bare⟩
theorem Inv.after(I:Inv X pins σ H s)(h:CE X.stack X.prog X.w H s Q u s'):EP X pins σ Q u s' :=by obtain⟨v,e,f,a,i,b,r,q⟩:=h;obtain⟨j,g,d,t,c⟩:=s';obtain rfl:c =s.os:=f;exact⟨v,e,I.call (h' :=j) (g' :=g) (d' :=d) (t' :=t) (ch:=[]) i b a (λb z=>absurd z (by simp)),r,q⟩
end
def J8(b:Sp)(a:List V)(E:XK)(t:TA):TE:=λσ H Q=>t σ H λvs H1=>b (vs++a) H1 Q E
def Binds(K:W.Frag)(d:FuncData)(b:List Str)(c:List Value):Prop:=
 ∀(s:Shared)(a:List Value),K.In s.heap->(a++c).length=b.length->BindsTo s d ⟨a,[]⟩ (b.zip (a++c))
theorem Binds.all{K:W.Frag}(h:∀a:List Value,a.length=b.length->bindArgs c ⟨a,[]⟩=pure (b.zip a)):Binds K c b []:=λs a _ hl=>by rw[NH]at hl ⊢;exact .of_eq (h a hl)
def v9(d:zd)(X:Cx)(E:XK):Prop:=∀(a:List (Addr×Obj))(c:St)(H:Hp)(s:Shared)(e:Value)(b:Shared),Inv X a c H s->d X.stack H s E e b ->X.xe e b
section
variable{X:Cx}{CX:zd}{k:Nat}{f C:Addr}{fd:FuncData}{ps:List Str}{sp:Sp}{dvs:List V}{ds:List Value}{E:XK}{x m:Str}{p pos apos:Pos}{e o:Expr}{es:List Expr}{ta:TE}{t:TA}
theorem Gn(F:bv X.prog X.w X.K X.mg X.base CX k f fd ps sp)(n:fF k X.A)(l:Binds X.K fd ps ds)(q:aR dvs ds)(i:v9 CX X E)
  (I:Inv X a d H s) (r:aR c b) (h:sp (c++dvs) H Q E):wpAny (model X.prog X.w) X.A (call (.ref f) b) (EP X a d Q) X.xe s:=by
 have g:aR (c++dvs) (b++ds):=r.append q;have v:(b++ds).length=ps.length:=by rw[<- g.length];exact F.len _ _ _ _ h
 refine wpAny_call (codeAny_mono (F.run X.A X.stack s H ⟨b,[]⟩ (b++ds) (c++dvs) Q E n I.env0 (l s b I.kIn v) g h) λr s' hq=> ?_);cases r with
 |error e=>exact i a d H s e s' I hq|ok j=>
  cases j with
  |ret u=>exact I.after hq|next=>exact False.elim hq|brk=>exact False.elim hq|cont=>exact False.elim hq
theorem pT(F:bv X.prog X.w X.K X.mg X.base CX k f fd ps sp)(y:fF k X.A)(d:Gl X x)(u:X.mg x=some (.ref f))(j:W.keepIn X.K (.ref f)=true)(n:Binds X.K fd ps ds)(z:aR dvs ds)(g:v9 CX X E)
  (i:PA X (e::es) t) (b:(x==("__debug__":Str))=false:=by decide) (v:starEach (e::es) X.env=(false,eval e X.env)::starEach es X.env:=by rfl) (c:(backTo pos (starEach es X.env)).any (·.1)=false:=by rfl):
  PE X (.Call (.Name x p) (e::es) [] pos) (J8 sp dvs E t):=by
 intro a s l H Q I h;refine wpAny_Call_Name_kw (xE I d u ?_ b);refine W.callWith_K (h₀:=X.base) I.ok.mod.kin j (aj (i pos a s l H _ I h) λus s1 ⟨vs,H1,I1,r,q⟩=>⟨I1.kIn,?_⟩) v c;exact Gn F y n z g I1 r q
end
structure ck(N P:List Str)(sc:Scope):Prop where
 kind:sc.kind=.function
 co:sc.isCoroutine=false
 gen:sc.isGenerator=false
 nd:N.Nodup
 pre:N.take P.length=P
 par:∀x∈P,sc.names.lookup x=some .local\/sc.names.lookup x=some .cell
 nofree:∀y∈sc.names,y.2≠.free
set_option tactic.hygienic false
theorem oo{b:Str->Option NameKind}{x:Str}:∀{a:List (Str×Value)}{m:Str->Option Value},(∀v,(x,v)∉a)->bindL b a m x=m x
 |[],_,_=>rfl|(n,v)::r,m,h=>by
  unfold bindL;rw[oo λw hw=>h w (MA _ hw)]
  split
  .have:x≠n:=by rintro rfl;exact h v MB
   simp[this]
  .rfl
theorem ou{b:Str->Option NameKind}{x:Str}:∀{a:List (Str×Value)}{m:Str->Option Value},(∀v,(x,v)∉a)->bindC b a m x=m x
 |[],_,_=>rfl|(n,v)::r,m,h=>by
  unfold bindC;rw[ou λw hw=>h w (MA _ hw)]
  split;rfl
  .have:x≠n:=by rintro rfl;exact h v MB
   simp[this]
theorem oq{a:Str->Option NameKind}{x:Str}{v:Value}:∀{P:List Str}{b:List Value}{i:Nat}{m:Str->Option Value},P.Nodup->P[i]? =some x->b[i]? =some v->a x=some .local -> bindL a (P.zip b) m x=some v
 |[],_,_,_,_,h,_,_=>by simp at h|_::_,[],_,_,_,_,h,_=>by simp at h|p::P,w::b,0,m,nd,h1,h2,hk=>by simp at h1 h2;subst h1;subst h2;show bindL a ((p,w)::P.zip b) m p=_;unfold bindL;rw[oo λv hv=>(Mb.mp nd).1 (List.of_mem_zip hv).1,MF hk];simp
 |p::P,w::b,i+1,m,nd,h1,h2,hk=>by show bindL a ((p,w)::P.zip b) m x=_;unfold bindL;exact oq (i:=i) (Mb.mp nd).2 (by simpa using h1) (by simpa using h2) hk
theorem oy{a:Str->Option NameKind}{x:Str}{v:Value}:∀{P:List Str}{b:List Value}{i:Nat}{m:Str->Option Value},P.Nodup->P[i]? =some x->b[i]? =some v->a x≠some .local -> bindC a (P.zip b) m x=some v
 |[],_,_,_,_,h,_,_=>by simp at h|_::_,[],_,_,_,_,h,_=>by simp at h|p::P,w::b,0,m,nd,h1,h2,hk=>by simp at h1 h2;subst h1;subst h2;show bindC a ((p,w)::P.zip b) m p=_;unfold bindC;rw[ou λv hv=>(Mb.mp nd).1 (List.of_mem_zip hv).1,ME hk];simp
 |p::P,w::b,i+1,m,nd,h1,h2,hk=>by show bindC a ((p,w)::P.zip b) m x=_;unfold bindC;exact oy (i:=i) (Mb.mp nd).2 (by simpa using h1) (by simpa using h2) hk
noncomputable def start(N:List Str)(a:List V):St:=a.map some++List.replicate (N.length-a.length) none
noncomputable def tz(CX:zd)(P:Program)(w:World)(K:W.Frag)(mg:Str->Option Value)(base:Heap)(N:List Str)(qual:Str)(scope:Scope)(f:Addr)(cd:Value)(A:Around)(outer:List Env)(s:Shared)(H:Hp)(E:XK):Cx where
 prog:=P
 w:=w
 K:=K
 mg:=mg
 base:=base
 A:=A.deeper (envOfC qual scope s.heap.objs.size f cd)
 N:=N
 s₀:=s
 H₀:=H
 env:=envOfC qual scope s.heap.objs.size f cd
 outer:=outer
 stack:=envOfC qual scope s.heap.objs.size f cd::outer
 ex:=[]
 calm:=true
 fn:=λ_=>true
 pn:=[]
 xe:=λe s' =>wpAny (model P w) (A.deeper (envOfC qual scope s.heap.objs.size f cd)) (leaving (envOfC qual scope s.heap.objs.size f cd) e) (λ_ s'' =>CX outer H s E e s'') (λe' s'' =>CX outer H s E e' s'') s'
theorem uD{a:Scope}(h:a.names.lookup x=some .cell):∃c,(cellsFrom n a.names []).lookup x=some c:=by have q:=W.cellsFrom_some a.names n [] (.inl h);exact Option.isSome_iff_exists.mp q
theorem yu{CX:zd}{P:Program}{w:World}{K:W.Frag}{mg:Str->Option Value}{base:Heap}{N ps:List Str}{qual:Str}{scope:Scope}{f:Addr}{cd:Value}{A:Around}{outer:List Env}{s s1:Shared}{H:Hp}{E:XK}{us:List Value}{vs:List V}
  (S:ck N ps scope) (hd:A.handled=none) (e0:Fi P w K mg base A outer s H) (hl:vs.length=ps.length) (r:aR vs us)
  (x:InCallC s s.heap.objs.size (bindL (envOfC qual scope s.heap.objs.size f cd).kindOf (ps.zip us) λ_=>none) (cellsFrom (s.heap.objs.size+1) scope.names []) (bindC (envOfC qual scope s.heap.objs.size f cd).kindOf (ps.zip us) λ_=>none) s1):
  Inv (tz CX P w K mg base N qual scope f cd A outer s H E) [] (start N vs) H s1:=by
 have hpl:ps.length<=N.length:=by have:=Mw List.length S.pre;rw[Nh]at this;omega
 obtain⟨h1,tk,rfl,hk⟩:=x.done;have noA:∀b:Addr,b∉(tz CX P w K mg base N qual scope f cd A outer s H E).ex:=λb z=>absurd (show b∈([]:List Addr)from z) (by simp)
 refine⟨⟨e0.mod,S.kind,rfl,rfl,MJ _,λy z c h1 h2=> ?_,λy hy=> ?_,λy c _ h=> ?_,λ_=>hd,Around.frames_deeper e0.frames,.inr ⟨rfl,rfl⟩,λb z=>absurd z (noA b),e0.bs,e0.bsz,λb _ _=>noA b,λb z=>absurd z (noA b),e0.funs,e0.frf⟩,rfl,e0.bare,Un.kept hk,⟨_,x.toInCall.ns,λi y v h1 h2 h3=> ?_⟩,λy c h=>⟨_,x.cell y c h⟩,e0.hok.fresh (MJ _),λy c h=> ?_,λp hp=>absurd (show p∈([]:List (Addr×Obj))from hp) (by simp),e0.hok.kept hk,?_⟩
 .exact name_of_addr x.apart (My h1) (My h2)
 .have hy:scope.names.lookup y=some .cell\/scope.names.lookup y=some .free:=hy
  rcases hy with hy|hy
  .exact uD hy
  .exact absurd rfl (S.nofree _ (My hy))
 .exact Ob (x.above y c (My h))
 .have hi:i<vs.length:=by
   unfold start at h2
   by_cases hi:i<vs.length;exact hi
   .rw[Oi (by simpa using hi)]at h2
    rw[List.getElem?_replicate]at h2
    split at h2<;>cases h2
  have ha:vs[i]? =some v:=by
   unfold start at h2;rw[OM (by simpa using hi),MR]at h2;cases e:vs[i]? with
   |none=>rw[e]at h2;cases h2|some a=>rw[e]at h2;cases h2;rfl
  obtain⟨u,hu,rv⟩:=r.get ha;have hp:ps[i]? =some y:=by rw[<- S.pre,List.getElem?_take_of_lt (by omega)];exact h1
  have ndP:ps.Nodup:=by rw[<- S.pre];exact S.nd.sublist (Pm _ _)
  refine⟨u,rv,?_⟩
  rcases S.par y (Ma hp)with k|k
  .exact .inl ⟨k,oq ndP hp hu k⟩
  .obtain⟨c,e⟩:=uD (n:=s.heap.objs.size+1) k
   refine .inr ⟨.inl k,c,e,?_⟩;have q:=x.cell y c e;rw[oy ndP hp hu (by show scope.names.lookup y≠_;rw[k];decide)]at q;exact q
 .exact e0.hok.fresh (Ob (x.above y c (My h)))
 .unfold start
  show _=N.length;rw[MT,L9,List.length_replicate];omega
theorem K4{K:W.Frag}
   {G:List Str}  (lk:K.lookup f=some ⟨oc,od,.func (W.fnOf l qual g h scope Z X D Y an c ct),R⟩) (T:W.codeIn K c qual=true) (S:ck N G scope)
  (C:∀j H Q E,M j H Q E->j.length=G.length)
  (z:∀(A:Around)(a:List Env)(s:Shared)(H:Hp)(j:List V)(Q:VK)(E:XK),fF k (A.deeper (envOfC qual scope s.heap.objs.size f c))->M j H Q E -> ∃t,wA (tz L P w K F d N qual scope f c A a s H E) h t/\t {nx:=λ_ m=>Q .non m,rt:=Q} (start N j) H):
  bv P w K F d L (k+1) f (W.fnOf l qual g h scope Z X D Y an c ct) G M:=by
 refine⟨C,λA a s H args us j Q E hr e0 hb r hsp=> ?_⟩;have hl:=C _ _ _ _ hsp;have KX:K.In s.heap:=e0.mod.kin.keeps λb o e=>(e0.bs b o e).1;have U:s.heap.NoLimit:=e0.mod.nolimit.keeps λb o e=>(e0.bs b o e).1;have p:∀y∈G.zip us,scope.names.lookup y.1=some .local\/(scope.names.lookup y.1=some .cell/\((cellsFrom (s.heap.objs.size+1) scope.names []).lookup y.1).isSome=true):=λ⟨n,v⟩ hy=>by
  rcases S.par n (List.of_mem_zip hy).1 with q|q
  .exact .inl q
  .exact .inr ⟨q,W.cellsFrom_some _ _ _ (.inl q)⟩
 refine codeAny_call_function hr.depth (KX _ _ lk) rfl S.co S.gen rfl (W.codeRec_of KX T) (hb _ _ _ _ ?_);refine wpAny_newFunctionEnv_cells S.kind p λenv he s1 x=> ?_;subst he;refine⟨U.keeps x.toInCall.keep,codeAny_func ?_⟩;obtain⟨t,ht,hq⟩:=z A a s H j Q E (hr.deeper _) hsp;have I:Inv (tz L P w K F d N qual scope f c A a s H E) [] (start N j) H s1:=yu S hr.hd e0 hl r x;refine Nj (ht [] s1 (start N j) H _ I hq) (λfl s' hs=> ?_) λe s' hs=>hs
 have B:∀{i:St}{m:Hp}{v:V}{u:Value},Inv (tz L P w K F d N qual scope f c A a s H E) [] i m s' ->RelV v u->Q v m ->CE a P w H s Q u s' :=
  λ{i m v u} J O q=>⟨v,m,J.os,J.bare,J.base,J.hok,O,q⟩
 cases fl with
 |ret u=>obtain⟨v,i,m,J,O,q⟩:=hs;exact B J O q
 |next=>obtain⟨i,m,J,q⟩:=hs;exact B (v:=V.non) (u:=Value.none) J rfl q
 |brk=>obtain⟨_,_,_,q⟩:=hs;exact False.elim q
 |cont=>obtain⟨_,_,_,q⟩:=hs;exact False.elim q
section
variable{X:Cx}{x:Str}{p pos:Pos}{e:Expr}{es:List Expr}{t:TA}{id T:String}{r:List V->Hp->VK->Prop}
def tCB(r:List V->Hp->VK->Prop)(t:TA):TE:=λσ H Q=>t σ H λvs H1=>r vs H1 Q
theorem bi(j:bS X (.builtin id) r)(g:Gl X x)(f:X.mg x=none)(l:bootBuiltins x=some (.builtin id))(m:PA X (e::es) t)(k:x≠"__name__":=by decide)(b:(x==("__debug__":Str))=false:=by decide)
  (i:starEach (e::es) X.env=(false,eval e X.env)::starEach es X.env:=by rfl) (c:(backTo pos (starEach es X.env)).any (·.1)=false:=by rfl):PE X (.Call (.Name x p) (e::es) [] pos) (tCB r t):=by
 intro a s d H Q I h;refine wpAny_Call_Name_kw (dF I g f l ?_ k b);exact PyProof.Rows.callWith_builtin1 (aj (m pos a s d H _ I h) λus s1 ⟨vs,H1,I1,r1,q1⟩=>j a s1 d H1 vs us Q I1 r1 q1) i c
theorem cu(j:bS X (.type T) r)(g:Gl X x)(f:X.mg x=none)(l:bootBuiltins x=some (.type T))(m:PA X (e::es) t)(k:x≠"__name__":=by decide)(b:(x==("__debug__":Str))=false:=by decide)
  (i:starEach (e::es) X.env=(false,eval e X.env)::starEach es X.env:=by rfl) (c:(backTo pos (starEach es X.env)).any (·.1)=false:=by rfl):PE X (.Call (.Name x p) (e::es) [] pos) (tCB r t):=by
 intro a s d H Q I h;refine wpAny_Call_Name_kw (dF I g f l ?_ k b);exact NE (aj (m pos a s d H _ I h) λus s1 ⟨vs,H1,I1,r1,q1⟩=>j a s1 d H1 vs us Q I1 r1 q1) i c
end
end L2
namespace HT
open PySem PyProof.Rows
noncomputable def lexLt:List Int->List Int->Bool
 |[],[]=>false|[],_::_=>true|_::_,[]=>false|x::xs,y::ys=>if x=y then lexLt xs ys else decide (x<y)
set_option tactic.hygienic false
theorem Hu(x y:Int)(a b:List Int):lexLt (x::a) (y::b)=if x=y then lexLt a b else decide (x<y):=rfl
theorem C1:lexLt [] []=false:=rfl
theorem BR(y:Int)(a:List Int):lexLt [] (y::a)=true:=rfl
theorem BS(x:Int)(a:List Int):lexLt (x::a) []=false:=rfl
section
variable{prog:Program}{w:World}{A:Around}{E:Value->Shared->Prop}{s:Shared}
theorem FG(B:IsTup s.heap t d.toArray)(C:IsTup s.heap b a.toArray)(p:d≠[])
  (y:a=[]->Q (.ref t) s) (z:a≠[]->Q (.ref s.heap.objs.size) {s with heap:=s.heap.push {cls:=.type "tuple",data:=.seq (d++a).toArray}})
  (m:d.length+a.length<=sizeLine):wpAny (model prog w) A (binaryOp .Add (.ref t) (.ref b)) Q E s:=by
 obtain⟨⟨cls,u,data,q⟩,j,o,n,v⟩:=id B;obtain⟨⟨r,h,l,g⟩,c,f,x,i⟩:=id C;simp only at o v f i;subst o v f i;have e:d.toArray++a.toArray=(d++a).toArray:=by simp
 by_cases k:a=[]
 .exact concat_meets ⟨_,j,rfl⟩ ⟨_,c,rfl⟩ noFill_tuple_add seq_tuple_add PySem.F.slot_tuple_add PySem.F.entry_tuple_add (Pr _ _)
   (tuple_addW1 t b d.toArray a.toArray n x u h q g (by simpa using p) (by simp[k])) ⟨j,c,y k⟩
 .refine concat_meets ⟨_,j,rfl⟩ ⟨_,c,rfl⟩ noFill_tuple_add seq_tuple_add PySem.F.slot_tuple_add PySem.F.entry_tuple_add (Pr _ _)
   (tuple_addW2 t b d.toArray a.toArray n x u h q g (by simpa using p) (by simpa using k) (by rw[MQ,MQ];exact m)) ⟨j,c,?_⟩
  rw[e];exact z k
noncomputable def bh(n d:Nat):Option Int->Nat
 |none=>d|some v=>if v<0 then(v+(n:Int)).toNat else min v.toNat n
theorem rV(n d:Nat):bh n d none=d:=rfl
theorem kh(n d k:Nat):bh n d (some (k:Int))=min k n:=by show(if(k:Int)<0 then((k:Int)+(n:Int)).toNat else min (k:Int).toNat n)=min k n;rw[ME (by omega),Na]
theorem Gj(n d:Nat)(b:d<=n)(o:Option Int):bh n d o<=n:=by
 cases o with
 |none=>exact b|some v=>
  show(if v<0 then(v+(n:Int)).toNat else min v.toNat n)<=n
  by_cases a:v<0;rw[MF a];omega;rw[ME a];exact Nat.min_le_right _ _
theorem xh(v:Int)(n d:Nat):(if v<0 then max (v+(n:Int)) 0 else min v (n:Int))=((bh n d (some v):Nat):Int):=by
 show(if v<0 then max (v+(n:Int)) 0 else min v (n:Int))=(((if v<0 then(v+(n:Int)).toNat else min v.toNat n):Nat):Int)
 by_cases a:v<0;simp only[MF a];omega;simp only[ME a];omega
theorem v5(lo hi:Option Int)(n:Nat):Builtin.Slice.sliceAdjust lo hi 1 (n:Int)=(((bh n 0 lo:Nat):Int),((bh n n hi:Nat):Int)):=by
 have h1:¬((1:Int)<0):=by omega
 unfold Builtin.Slice.sliceAdjust;simp only[h1,Oe];refine Pg ?_ ?_
 .cases lo with
  |none=>rfl|some v=>exact xh v n 0
 .cases hi with
  |none=>rfl|some v=>exact xh v n n
theorem ut(i j:Nat):Builtin.Slice.slicePlaces (i:Int) (j:Int) 1=j-i:=by
 unfold Builtin.Slice.slicePlaces;have a:(1:Int)>0:=by omega
 simp only[a,PN,Int.ediv_one]
 split<;>omega
theorem lJ(p:IsPart v o)(h:Q o s):wpAny (model prog w) A (Builtin.Slice.slicePartIndex v) Q E s:=by
 cases p with
 |none=>exact slicePart_none h|int i t=>exact slicePart_int h
theorem eN{sl:Addr}{vl vu:Value}{lo hi:Option Int}{n:Nat}{Q:Int×Int×Nat->Shared->Prop}(hs:s.heap.IsSliceOf sl vl vu .none)(pl:IsPart vl lo)(pu:IsPart vu hi)
  (h:Q (((bh n 0 lo:Nat):Int),1,bh n n hi-bh n 0 lo) s):wpAny (model prog w) A (Builtin.Slice.sliceApplied (.ref sl) (pure (n:Int))) Q E s:=by
 obtain⟨os,hos,hcs,hds⟩:=id hs;unfold Builtin.Slice.sliceApplied Builtin.Slice.sliceFields;refine L8 (L8 (OL hos hds (x:=vl) rfl (L8 (OL hos hds (x:=vu) rfl (L8 (OL hos hds (x:=.none) rfl (MC ?_)))))));refine L8 (slicePart_none ?_);show wpAny _ _ (if((1:Int)==0)=true then _ else _) _ _ s;rw[ME (by decide)];refine L8 (lJ pl (L8 (lJ pu (L8 (MC ?_)))));show wpAny _ _ (match Builtin.Slice.sliceAdjust lo hi 1 (n:Int)with|(lo,hi)=>pure (lo,(1:Int),Builtin.Slice.slicePlaces lo hi 1)) _ _ s;rw[v5 lo hi n];show wpAny _ _ (pure (((bh n 0 lo:Nat):Int),(1:Int),Builtin.Slice.slicePlaces ((bh n 0 lo:Nat):Int) ((bh n n hi:Nat):Int) 1)) _ _ s;rw[ut];exact MC h
theorem Ax(a:Array Value)(i k:Nat):((List.range k).filterMap λ(m:Nat)=>a[((i:Int)+(m:Int)*1).toNat]?).toArray=((a.toList.drop i).take k).toArray:=by
 have e:(λ(m:Nat)=>a[((i:Int)+(m:Int)*1).toNat]?)=λm=>a[i+m]? :=by
  funext m
  have:((i:Int)+(m:Int)*1).toNat=i+m:=by omega
  rw[this]
 rw[e];have:=pick_run a i k;rw[List.filterMap_map]at this;have b:((λx=>a[x]?)∘λx=>i+x)=λm=>a[i+m]? :=rfl;rw[b]at this;rw[this]
theorem i5(e:IsTup s.heap t a)(l:s.heap.IsSliceOf g n o .none)(p:IsPart n c)(r:IsPart o d)
  (x:¬(bh a.size 0 c=0/\bh a.size a.size d=a.size))
  (h:Q (.ref s.heap.objs.size) {s with heap:=s.heap.push {cls:=.type "tuple",data:=.seq ((a.toList.drop (bh a.size 0 c)).take (bh a.size a.size d-bh a.size 0 c)).toArray}})
  (y:a.size<=sizeLine):wpAny (model prog w) A (getItem (.ref t) (.ref g)) Q E s:=by
 have b:sizeOk (.seq ((a.toList.drop (bh a.size 0 c)).take (bh a.size a.size d-bh a.size 0 c)).toArray):=by show((a.toList.drop (bh a.size 0 c)).take (bh a.size a.size d-bh a.size 0 c)).toArray.size<=sizeLine;rw[MQ,Nh,N7,Ml];omega
 have z:bh a.size a.size d<=a.size:=Gj _ _ (MJ _) d;obtain⟨u,i,k,v⟩:=id l;have f:s.TypeIs (.ref g) "slice":=⟨u,i,k⟩;unfold getItem
 try with_reducible refine NR ?_
 first|refine L8 (MC ?_)|skip
 refine L8 (wpAny_sequenceKey e.typeIs (by decide) ?_)
 refine L8 (NM (name:=Str.ofString "__getitem__") e.typeIs ND (Mx ND e.typeIs entry_tuple_getitem ?_ (args_tuple_getitem _ _)))
 show wpAny _ _ (Builtin.Tuple.tupleItemsOf (.ref t) >>= _) _ _ s;refine L8 (tupleItemsOf_ e ?_);refine L8 (PP f ?_);rw[MF (by decide)];refine L8 (eN l p r ?_);have j:¬((((bh a.size 0 c:Nat):Int)==0&&(1:Int)==1&&(bh a.size a.size d-bh a.size 0 c)==a.size)=true):=by intro q;rw[MH,MH]at q;have B:((bh a.size 0 c:Nat):Int)=0:=Mf q.1.1;have C:bh a.size a.size d-bh a.size 0 c=a.size:=Mf q.2;exact x ⟨by omega,by omega⟩
 show wpAny _ _ (if(((bh a.size 0 c:Nat):Int)==0&&(1:Int)==1&&(bh a.size a.size d-bh a.size 0 c)==a.size)=true then _ else _) _ _ s;rw[ME j,Ax]
 first
  |exact L8 (m:=Builtin.Tuple.tupleExact _) (M4 (MC ⟨_,rfl,MC h⟩) b)
  |exact L8 (m:=Builtin.Tuple.tupleExact _) (M4 (L8 (MC (MC ⟨_,rfl,MC h⟩))) b)
  |exact L8 (L8 (m:=Builtin.Tuple.tupleExact _) (M4 (MC (MC ⟨_,rfl,MC h⟩)) b))
  |exact L8 (L8 (m:=Builtin.Tuple.tupleExact _) (M4 (MC ⟨_,rfl,MC h⟩) b))
end
end HT
namespace L2
open PySem PySem.Spec PyProof.Rows
abbrev TO:=St->Hp->(Option Int->Hp->Prop)->Prop
def PO(X:Cx)(e:Option Expr)(t:TO):Prop:=
 ∀(a:List (Addr×Obj))(s:Shared)(b:St)(H:Hp)(Q:Option Int->Hp->Prop),Inv X a b H s->t b H Q -> wpAny (model X.prog X.w) X.A (evalPart e X.env) (λu s' =>∃o c,Inv X a b c s' /\IsPart u o/\Q o c) X.xe s
def DO:TO:=λ_ H Q=>Q none H
def J1(t:TE):TO:=λσ H Q=>t σ H λx H1=>∃i,x=.int i/\Q (some i) H1
set_option tactic.hygienic false
theorem intsAre_of:∀{b:List Value},aR (a.map V.int) b->IntsAre b a:=by
 induction a with
 |nil=>intro b r;rw[Nk]at r;cases r;exact .nil|cons n a d=>
  intro b r;rw[MM]at r;cases r with
  |cons c f=>obtain⟨t,e⟩:=c;subst e;exact .cons n t (d f)
section
variable{X:Cx}{e:Expr}{te:TE}{lo hi:Option Expr}{tl th:TO}{pos p2:Pos}
theorem Dp:PO X none DO:=by intro a s b H Q I h;rw[evalPart_none];exact MC ⟨none,H,I,.none,h⟩
theorem Do(h:PE X e te):PO X (some e) (J1 te):=by intro a s j H Q I g;rw[evalPart_some];refine aj (h a s j H _ I g) λu s1 hpq=> ?_;obtain⟨x,c,b,f,d⟩:=hpq;obtain⟨i,rfl,q⟩:=d;obtain⟨t,rfl⟩:=f;exact⟨some i,c,b,.int i t,q⟩
def Ln(X:Cx)(r:V->Option Int->Option Int->Hp->VK->Prop):Prop:=
 ∀(a:List (Addr×Obj))(s:Shared)(g:St)(H:Hp)(x:V)(v c h:Value)(d f:Option Int)(b:Addr)(Q:VK),Inv X a g H s->RelV x v->s.heap.IsSliceOf b c h .none->IsPart c d->IsPart h f->r x d f H Q -> ∃T i,typeLookup (.type T) "__getitem__"=pure (some (.builtin i))/\s.TypeIs v T/\wpAny (model X.prog X.w) X.A (getItem v (.ref b)) (EP X a g Q) X.xe s
def tSl(r:V->Option Int->Option Int->Hp->VK->Prop)(b:TE)(c a:TO):TE:=λσ H Q=>b σ H λx H1=>c σ H1 λl H2=>a σ H2 λu H3=>r x l u H3 Q
theorem A1(y:Ln X r)(p:PE X e te)(z:PO X lo tl)(C:PO X hi th):PE X (.Subscript e (.Slice lo hi none p2) pos) (tSl r te tl th):=by intro a s b H Q I h;refine Subscript_ (aj (p a s b H _ I h) λv s1 hpq=> ?_);obtain⟨x,j,d,B,k⟩:=hpq;refine wpAny_Slice (aj (z a s1 b j _ d k) λvl s2 ⟨l,H2,I2,pl,q2⟩=>aj (C a s2 b H2 _ I2 q2) λvu s3 hpq=> ?_);obtain⟨u,c,n,m,f⟩:=hpq;rw[evalPart_none];refine MC ?_;have i:Inv X a b c {s3 with heap:=s3.heap.push {cls:=.type "slice",data:=.fields #[vl,vu,.none]}}:=n.kept (t' :=s3.toks) λb ob q=>MD _ q;obtain⟨T,D,t,o,g⟩:=y a {s3 with heap:=s3.heap.push {cls:=.type "slice",data:=.fields #[vl,vu,.none]}} b c x v vl vu l u s3.heap.objs.size Q i B (Heap.IsSliceOf.new ..) pl m f;show wpAny (model X.prog X.w) X.A (subscriptTail e (.Slice lo hi none p2) v (.ref s3.heap.objs.size)) (EP X a b Q) X.xe {s3 with heap:=s3.heap.push {cls:=.type "slice",data:=.fields #[vl,vu,.none]}};exact tail_any (ops:=[.ref s3.heap.objs.size,v]) o t g (by with_unfolding_all rfl)
noncomputable def uA(a:List V)(b c:Option Int):List V:=(a.drop (HT.bh a.length 0 b)).take (HT.bh a.length a.length c-HT.bh a.length 0 b)
theorem kK(a:List V)(b c:Option Int):(uA a b c).length<=a.length:=by unfold uA;rw[Nh,N7];omega
def rSlT(K:W.Frag):V->Option Int->Option Int->Hp->VK->Prop:=λx lo hi H Q=>∃a b,x=.ref a/\bg K H a b /\ ¬(HT.bh b.length 0 lo=0/\HT.bh b.length b.length hi=b.length)/\∀p,H p=none->Q (.ref p) (upd H p (.tup (uA b lo hi)))
theorem Gf:Ln X (rSlT X.K):=by
 intro i s y H x v z A d g w Q I t l n p h;obtain⟨a,c,rfl,m,u,q⟩:=h;cases t;obtain⟨f,r,j,k⟩:=I.tuple m;have b:f.toArray.size=c.length:=by rw[MQ];exact r.length.symm
 refine⟨"tuple",_,ND.lookup,j.typeIs,?_⟩;refine HT.i5 j l n p (by rw[b];exact u) ?_ (by rw[b];exact k);rw[b];refine⟨.ref s.heap.objs.size,_,I.laid (t' :=s.toks) (o:=.tup (uA c d g)) (λb ob q=>MD _ q) (MJ _) ?_,rfl,q _ (I.hok.fresh (MJ _))⟩;exact⟨Mq (kK c d g) k,_,(r.drop (HT.bh c.length 0 d)).take (HT.bh c.length c.length g-HT.bh c.length 0 d),fm.new _ _⟩
def rLtT(K:W.Frag):R2:=λx y H Q=>∃a b c d,x=.ref a/\y=.ref b/\bg K H a (c.map V.int)/\bg K H b (d.map V.int)/\Q (.bl (HT.lexLt c d)) H
def KO(K:W.Frag):R2:=λx y H Q=>∃a b d c,x=.ref a/\y=.ref b/\bg K H a d/\bg K H b c/\d≠[]/\d.length+c.length<=sizeLine /\ (c=[]->Q (.ref a) H)/\(c≠[]->∀p,H p=none->Q (.ref p) (upd H p (.tup (d++c))))
theorem aR.nil_iff(r:aR a b):b=[]↔a=[]:=by
 cases r with
 |nil=>simp|cons _ _=>simp
theorem Dz:dI X (binaryOp .Add) (KO X.K):=by intro f s E H x y v u Q I B A h;obtain⟨a,b,C,p,rfl,rfl,k,t,j,i,m,D⟩:=h;cases B;cases A;obtain⟨n,d,l,_⟩:=I.tuple k;obtain⟨g,c,r,_⟩:=I.tuple t;refine HT.FG l r (λz=>j (d.nil_iff.mp z)) (λz=>⟨.ref a,H,I,rfl,m (c.nil_iff.mp z)⟩) (λz=> ?_) (by rw[<- d.length,<-c.length];exact i);refine⟨.ref s.heap.objs.size,_,I.laid (t' :=s.toks) (o:=.tup (C++p)) (λb ob q=>MD _ q) (MJ _) ?_,rfl,D (λw=>z (c.nil_iff.mpr w)) _ (I.hok.fresh (MJ _))⟩;exact⟨by rw[MT];exact i,_,d.append c,fm.new _ _⟩
end
noncomputable def uU(n:Nat)(i:Int):Option Nat:=if 0<=i then(if i<n then some i.toNat else none)else if -(n:Int)<=i then some (i+n).toNat else none
noncomputable def ci{b:Type}(a:List b)(i:Int):Option b:=(uU a.length i).bind λj=>a[j]?
theorem xG(h:uU n i=some j):seqIndex? i n=some j/\j<n/\ -(n:Int)<=i/\i<n:=by
 unfold uU at h
 by_cases b:0<=i
 .rw[MF b]at h
  by_cases a:i<n
  .rw[MF a]at h
   have e:i.toNat=j:=MZ h;exact⟨by rw[seqIndex_of b a,e],by omega,by omega,a⟩
  .rw[ME a]at h;cases h
 .rw[ME b]at h
  by_cases a: -(n:Int)<=i
  .rw[MF a]at h
   have e:(i+n).toNat=j:=MZ h;exact⟨by rw[seqIndex_neg (by omega) a,e],by omega,a,by omega⟩
  .rw[ME a]at h;cases h
theorem qU{b:Type}{a:List b}{v:b}(h:ci a i=some v):∃j,seqIndex? i a.length=some j/\a[j]? =some v/\j<a.length/\ -(a.length:Int)<=i/\i<a.length:=by
 unfold ci at h;cases e:uU a.length i with
 |none=>rw[e]at h;cases h|some j=>rw[e]at h;obtain⟨c,d,g,f⟩:=xG e;exact⟨j,c,h,d,g,f⟩
theorem bC{a:Type}{xs:List a}{j:Nat}{v:a}(h:xs[j]? =some v):ci xs (j:Int)=some v:=by
 have b:j<xs.length:=(MV.mp h).1;have e:uU xs.length (j:Int)=some j:=by unfold uU;rw[MF (by omega),MF (by omega)];simp
 unfold ci;rw[e];exact h
theorem Cp{b:Type}(a:List b)(v:b):ci (a++[v]) (-1)=some v:=by
 have c:(a++[v]).length=a.length+1:=by simp
 have e:uU (a++[v]).length (-1)=some a.length:=by
  unfold uU;rw[c,ME (by decide),MF (by omega)]
  congr 1
  omega
 unfold ci;rw[e];show(a++[v])[a.length]? =some v;simp
def xm(b:Expr):Prop:=∀o i,subscripted b false o i=operate [o,i] (getItem o i)
def Lw(X:Cx)(r:R2):Prop:=
 ∀(c a:Expr)(b:List (Addr×Obj))(s:Shared)(d:St)(H:Hp)(x y:V)(v u:Value)(Q:VK),Inv X b d H s->RelV x v->RelV y u->r x y H Q -> subscripted a false v u=operate [v,u] (getItem v u)->wpAny (model X.prog X.w) X.A (subscriptTail c a v u) (EP X b d Q) X.xe s
def MtR(X:Cx)(e:String)(r:V->List V->Hp->VK->Prop):Prop:=
 ∀(a:List (Addr×Obj))(s:Shared)(d:St)(H:Hp)(x:V)(c:List V)(v:Value)(b:List Value)(Q:VK),Inv X a d H s->RelV x v->aR c b->r x c H Q -> wpAny (model X.prog X.w) X.A (call (.builtin e) (v::b)) (EP X a d Q) X.xe s
section
variable{X:Cx}{a b:Expr}{ta tb:TE}{pos:Pos}
theorem n8(e:Lw X r)(i:PE X a ta)(d:PE X b tb)(f:xm b):PE X (.Subscript a b pos) (tOp r ta tb):=by intro c s g H Q I h;exact Subscript_ (JM i d I h λv u s2 x y H2 I2 rx ry q=>e a b c s2 g H2 x y v u Q I2 rx ry q (f _ _))
def rIxL(K:W.Frag):R2:=λx y H Q=>∃p c i v,x=.ref p/\y=.int i/\bQ K H p c/\ci c i=some v/\Q v H
def rIxT(K:W.Frag):R2:=λx y H Q=>∃p c i v,x=.ref p/\y=.int i/\bg K H p c/\ci c i=some v/\Q v H
def rIxS:R2:=λx y H Q=>∃z i c,x=.str z/\y=.int i/\z.length<=sizeLine/\ci z.cps.toList i=some c/\Q (.str ⟨#[c]⟩) H
theorem fA:Lw X (rIxL X.K):=by
 intro n m c s A H x y v u Q I M L h C;obtain⟨p,S,i,z,rfl,rfl,D,J,q⟩:=h;cases M;obtain⟨t,rfl⟩:=L;obtain⟨l,r,k,R⟩:=I.list D;obtain⟨j,e,F,O,G,E⟩:=qU J;obtain⟨w,o,f⟩:=r.get F;have N:=r.length;have P:=gg;have d:EP X c A Q w s:=⟨z,H,I,f,q⟩
 by_cases B:0<=i
 .have g:i.toNat=j:=by
   rw[seqIndex_of B E]at e;exact MZ e
  exact item_listR k.isList B (by omega) (by rw[g];simpa using o) d C
 .have g:(i+(l.toArray.size:Int)).toNat=j:=by
   rw[seqIndex_neg (by omega) G]at e;rw[MQ,<-N];exact MZ e
  exact subscriptTail_builtinR (x:=w) k.isList.typeIs slot_list_getitem.lookup
   (wpAny_getItem_list_neg (Q:=λr s' =>r=w/\EP X c A Q r s') k.isList (by omega) (by rw[MQ]<;>omega) (by omega) (by rw[g];simpa using o) ⟨rfl,d⟩) C
theorem Bj:Lw X (rIxT X.K):=by
 intro g f c s l H x y v u Q I E D h G;obtain⟨p,P,i,z,rfl,rfl,m,C,q⟩:=h;cases E;obtain⟨t,rfl⟩:=D;obtain⟨o,r,k,O⟩:=I.tuple m;obtain⟨j,A,B,J,M,L⟩:=qU C;obtain⟨w,n,d⟩:=r.get B;have F:=r.length;have N:=gg;have e:EP X c l Q w s:=⟨z,H,I,d,q⟩
 exact subscriptTail_builtinR (x:=w) k.typeIs slot_tuple_getitem.lookup
  (getItem_tuple (j:=j) (Q:=λr s' =>r=w/\EP X c l Q r s') k (by omega) (by omega) (by rw[MQ,<-F];exact A) (by simpa using n) ⟨rfl,e⟩) G
theorem Bk:Lw X rIxS:=by
 intro e d f s E H x y v u Q I r p h B;obtain⟨z,i,c,rfl,rfl,G,n,q⟩:=h;obtain⟨t,rfl⟩:=r;obtain⟨C,rfl⟩:=p;obtain⟨j,g,l,D,m,k⟩:=qU n;have A:z.cps.toList.length=z.length:=by simp[Str.length]
 rw[A]at g m k;have F:=gg
 exact tail_any (typeIs_str s z t) slot_str_getitem.lookup (getItem_str (c:=c) (by have w:decide (i< -(2^63:Int))=false:=MU (by omega);have o:decide (i ≥ 2^63)=false:=MU (by omega);rw[w,o,Bool.or_false]) (by rw[g];simpa using l) ⟨.str ⟨#[c]⟩,H,I.tok _,⟨_,rfl⟩,q⟩) B
theorem vJ(c:List Value)(n j:Nat)(u:Value):Obj.mapSeq (·.setIfInBounds j u) {cls:=.type "list",data:=.seq c.toArray n}={cls:=.type "list",data:=.seq (c.set j u).toArray n}:=by simp[Obj.mapSeq]
theorem Inv.lst{d:List (Addr×Obj)}{g:St}{H:Hp}{s:Shared}{p:Addr}{f:List V}(I:Inv X d g H s)(h:H p=some (.lst f)):
  ∃(c:List Value)(n:Nat),aR f c/\s.heap.get? p=some {cls:=.type "list",data:=.seq c.toArray n}/\f.length<=sizeLine:=by
 obtain⟨z,c,n,r,e⟩:=I.hok p _ h;exact⟨c,n,r,e,z⟩
theorem Inv.lstUpd{s:Shared}{j:List V}{g c:List Value}(I:Inv X d k H s)(h:H p=some (.lst v))
  (m:s.heap.get? p=some {cls:=.type "list",data:=.seq g.toArray n}) (l:f {cls:=.type "list",data:=.seq g.toArray n}={cls:=.type "list",data:=.seq c.toArray i}) (r:aR j c) (o:j.length<=sizeLine) (t:Nat):
  Inv X d k (upd H p (.lst j)) {s with heap:=s.heap.update p f,toks:=t}:=by
 have e:(s.heap.update p f).get? p=some {cls:=.type "list",data:=.seq c.toArray i}:=by rw[M6 f m (by rw[l]<;>rfl),l]
 refine I.write (x:=p) (e:=p) (by rw[h];trivial) (.inl rfl) (λb u hb q=>(Mz _ _ (NZ hb)).trans q) ⟨_,e⟩ ?_;exact⟨o,c,i,r,e⟩
def KM:V->V->V->Hp->(Hp->Prop)->Prop:=λo i v H Q=>∃p c k j,o=.ref p/\i=.int k/\H p=some (.lst c)/\uU c.length k=some j/\Q (upd H p (.lst (c.set j v)))
theorem AW:Lo X KM:=by
 intro c s D H o i v J K u Q I E C A h;obtain⟨p,G,k,j,rfl,rfl,w,B,q⟩:=h;cases E;obtain⟨t,rfl⟩:=C;obtain⟨d,n,r,g,F⟩:=I.lst w;obtain⟨e,L,m,y⟩:=xG B;have l:=r.length;have M:=gg
 have x:Inv X c D (upd H p (.lst (G.set j v))) {s with heap:=s.heap.update p (Obj.mapSeq (·.setIfInBounds j u))}:=
  I.lstUpd w g (vJ d n j u) (r.set A j) (by rw[Nm];exact F) s.toks
 by_cases z:0<=k
 .have f:k.toNat=j:=by
   rw[seqIndex_of z y]at e;exact MZ e
  exact W.ki_setAt g z (by omega) (by rw[MQ,<-l];exact y) (by rw[f];exact⟨_,x,q⟩)
 .have f:(k+(d.toArray.size:Int)).toNat=j:=by
   rw[seqIndex_neg (by omega) m]at e;rw[MQ,<-l];exact MZ e
  exact W.ki_setBack g (by omega) (by rw[MQ,<-l];exact m) (by omega) (by rw[f];exact⟨_,x,q⟩)
theorem pF(c d:Option Int)(n:Nat):(sliceBounds c d none n).1=((HT.bh n 0 c:Nat):Int)/\(sliceBounds c d none n).2.1=((HT.bh n n d:Nat):Int)/\(sliceBounds c d none n).2.2=1:=by
 refine⟨?_,?_,rfl⟩
 .cases c with
  |none=>simp[sliceBounds,HT.bh]|some i=>
   simp only[sliceBounds,HT.bh,Option.getD_none,show(1:Int)>0 by decide,PN]
   by_cases h:i<0;simp only[h,PN]<;>omega;simp only[h,Oe]<;>omega
 .cases d with
  |none=>simp[sliceBounds,HT.bh]|some i=>
   simp only[sliceBounds,HT.bh,Option.getD_none,show(1:Int)>0 by decide,PN]
   by_cases h:i<0;simp only[h,PN]<;>omega;simp only[h,Oe]<;>omega
theorem nA(c:List Value)(d e:Option Int):slicePick c.toArray d e none=((c.drop (HT.bh c.length 0 d)).take (HT.bh c.length c.length e-HT.bh c.length 0 d)).toArray:=by obtain⟨f,g,h⟩:=pF d e c.toArray.size;unfold slicePick;rw[f,g,h];simp only[sliceRange_one,pick_run,MQ]<;>rfl
def rSlL(K:W.Frag):V->Option Int->Option Int->Hp->VK->Prop:=λx lo hi H Q=>∃a c,x=.ref a/\bQ K H a c/\∀p,H p=none->Q (.ref p) (upd H p (.lst (uA c lo hi)))
theorem DU:Ln X (rSlL X.K):=by intro g s w H x v y z e f u Q I p j l m h;obtain⟨a,c,rfl,k,q⟩:=h;cases p;obtain⟨n,r,i,t⟩:=I.list k;have d:=r.length;refine⟨"list",_,slot_list_getitem.lookup,i.isList.typeIs,?_⟩;refine wpAny_getItem_list_slice i.isList j l m .none (by simp) ?_ (by rw[MQ]<;>omega);rw[nA,<-d];refine⟨.ref s.heap.objs.size,_,I.laid (t' :=s.toks) (o:=.lst (uA c e f)) (λb ob q=>MD _ q) (MJ _) ?_,rfl,q _ (I.hok.fresh (MJ _))⟩;exact⟨Mq (kK c e f) t,_,0,(r.drop (HT.bh c.length 0 e)).take (HT.bh c.length c.length f-HT.bh c.length 0 e),MW _ rfl⟩
noncomputable def gN:V->Bool
 | .non=>true| .bl _=>true| .int _=>true| .str _=>true|_=>false
noncomputable def zg:V->V->Bool
 | .non,.non=>true| .bl a,.bl b=>a==b| .bl a,.int b=>(if a then 1 else 0)==b| .int a,.bl b=>a==(if b then 1 else 0)| .int a,.int b=>a==b| .str a,.str b=>a==b|_,_=>false
theorem JA(f:RelV y u)(c:RelV x v)(g:gN y=true)(e:gN x=true):SeqAt.EqAt A s u v (zg y x):=by
 cases y with
 |non=>
  cases f;cases x with
  |non=>cases c;exact SeqAt.EqAt.same _|bl b=>cases c;exact SeqAt.EqAt.none_bool b|int b=>obtain⟨t,rfl⟩:=c;exact SeqAt.EqAt.none_int b t
  |str b=>obtain⟨t,rfl⟩:=c;exact SeqAt.EqAt.none_str b t
  |_=>exact absurd (show false=true from e) MI
 |bl a=>
  cases f;cases x with
  |non=>cases c;exact SeqAt.EqAt.bool_none a|bl b=>cases c;exact SeqAt.EqAt.bool_bool a b|int b=>obtain⟨t,rfl⟩:=c;exact SeqAt.EqAt.bool_int a b t
  |str b=>obtain⟨t,rfl⟩:=c;exact SeqAt.EqAt.bool_str a b t
  |_=>exact absurd (show false=true from e) MI
 |int a=>
  obtain⟨d,rfl⟩:=f;cases x with
  |non=>cases c;exact SeqAt.EqAt.int_none a d|bl b=>cases c;exact SeqAt.EqAt.int_bool a d b|int b=>obtain⟨t,rfl⟩:=c;exact SeqAt.EqAt.int_int a d b t
  |str b=>obtain⟨t,rfl⟩:=c;exact SeqAt.EqAt.int_str a d b t
  |_=>exact absurd (show false=true from e) MI
 |str a=>
  obtain⟨d,rfl⟩:=f;cases x with
  |non=>cases c;exact SeqAt.EqAt.str_none a d|bl b=>cases c;exact SeqAt.EqAt.str_bool a d b|int b=>obtain⟨t,rfl⟩:=c;exact SeqAt.EqAt.str_int a d b t
  |str b=>obtain⟨t,rfl⟩:=c;exact SeqAt.EqAt.str_str a d b t
  |_=>exact absurd (show false=true from e) MI
 |_=>exact absurd (show false=true from g) MI
noncomputable def Ej(x:V)(u:Value):Bool:=match u with
 | .none=>zg .non x| .bool b=>zg (.bl b) x| .int i _=>zg (.int i) x| .str z _=>zg (.str z) x|_=>false
theorem CC(r:RelV y u)(f:gN y=true):Ej x u=zg y x:=by
 cases y with
 |non=>cases r;rfl|bl b=>cases r;rfl|int i=>obtain⟨t,rfl⟩:=r;rfl
 |str z=>obtain⟨t,rfl⟩:=r;rfl
 |_=>exact absurd (show false=true from f) MI
theorem qV{x:V}:∀{c:List V}{d:List Value},aR c d->c.all gN=true->d.any (Ej x)=c.any λy=>zg y x
 |_,_,.nil,_=>rfl|y::c,u::d,.cons r t,f=>by rw[Ov,MH]at f;rw[Ou,Ou,CC r f.1,qV t f.2]
theorem lq{A:Around}{s:Shared}{x:V}{v:Value}(g:RelV x v)(h:gN x=true):∀{e:List V}{d:List Value},aR e d->e.all gN=true->∀u∈d,SeqAt.EqAt A s u v (Ej x u)
 |_,_,.nil,_=>λu c=>by cases c|y::e,u::d,.cons r t,f=>λu' c=>by
  rw[Ov,MH]at f
  rcases MP.mp c with rfl|c
  .rw[CC r f.1];exact JA r g f.1 h
  .exact lq g h t f.2 u' c
noncomputable def inV(x:V)(c:List V):Bool:=c.any λy=>zg y x
def rIn(K:W.Frag)(neg:Bool):R2:=λx y H Q=>∃p c,y=.ref p/\(bQ K H p c\/bg K H p c)/\gN x=true/\c.all gN=true/\Q (.bl (if neg then !inV x c else inV x c)) H
theorem ie:dI X (compareOp .NotIn) (rIn X.K true):=by
 intro g s m H x y v u Q I j k h;obtain⟨p,n,rfl,d,i,e,q⟩:=h;cases k
 rcases d with d|d
 .obtain⟨c,r,f,l⟩:=I.list d
  refine SeqAt.notIn_listAt (Ej x) f.isList (λw hw=>lq j i r e w (by simpa using hw)) ⟨.bl _,H,I,rfl,?_⟩;rw[show c.toArray.any (Ej x)=c.any (Ej x)by simp,qV r e];exact q
 .obtain⟨c,r,f,l⟩:=I.tuple d
  refine SeqAt.notIn_tupleAt (Ej x) f (λw hw=>lq j i r e w (by simpa using hw)) ⟨.bl _,H,I,rfl,?_⟩;rw[show c.toArray.any (Ej x)=c.any (Ej x)by simp,qV r e];exact q
theorem cH:bS X (.builtin "len") (λxs H Q=>∃p ys,xs=[.ref p]/\(bQ X.K H p ys\/bg X.K H p ys)/\Q (.int ys.length) H):=by
 intro pins s σ H xs us Q I r h;obtain⟨p,ys,rfl,hq,q⟩:=h;obtain⟨u,rfl,rx⟩:=vals1 r;cases rx;have hn:=gg
 rcases hq with hq|hq
 .obtain⟨its,r',pl,hz⟩:=I.list hq
  have hlen:=r'.length;exact Calls.call_len_list pl.isList (by simp only[MQ]<;>omega) ⟨.int ys.length,H,I.tok _,⟨s.toks+1,by rw[MQ,hlen]⟩,q⟩
 .obtain⟨its,r',pl,hz⟩:=I.tuple hq
  have hlen:=r'.length;exact len_tuple pl (by simp only[MQ]<;>omega) ⟨.int ys.length,H,I.tok _,⟨s.toks+1,by rw[MQ,hlen]⟩,q⟩
theorem jG:bS X (.builtin "len") (λxs H Q=>∃z,xs=[.str z]/\z.length<=sizeLine/\Q (.int z.length) H):=by intro pins s σ H xs us Q I r h;obtain⟨z,rfl,hz,q⟩:=h;obtain⟨u,rfl,t,rfl⟩:=vals1 r;have hn:=gg;exact len_str (by omega) ⟨.int z.length,H,I.tok _,⟨_,rfl⟩,q⟩
theorem qR:bS X (.type "list") (λxs H Q=>∃p ys,xs=[.ref p]/\(bQ X.K H p ys\/bg X.K H p ys)/\∀l,H l=none->Q (.ref l) (upd H l (.lst ys))):=by
 intro pins s σ H xs us Q I r h;obtain⟨p,ys,rfl,hq,q⟩:=h;obtain⟨u,rfl,rx⟩:=vals1 r;cases rx
 have fin:∀(its:List Value),aR ys its->ys.length<=sizeLine->∀(h' :Heap)(c' :Nat),(∀b o',s.heap.get? b=some o' ->h'.get? b=some o') -> h'.get? s.heap.objs.size=some {cls:=.type "list",dict:=none,data:=.seq its.toArray c',slots:= #[]}->EP X pins σ Q (.ref s.heap.objs.size) {s with heap:=h'}:=λits r' hz h' c' kp e=>⟨.ref s.heap.objs.size,_,I.laid (t' :=s.toks) kp (MJ _) (show al X.prog X.w _ h' _ (.lst ys)from⟨hz,its,c',r',e⟩),rfl,q _ (I.hok.fresh (MJ _))⟩
 rcases hq with hq|hq
 .obtain⟨its,r',pl,hz⟩:=I.list hq
  have hlen:=r'.length;obtain⟨o,ho,hc,n,hd⟩:=pl.isList;exact call_list_seq p (.inl rfl) ho hc hd (λh' c' kp e=>fin its r' hz h' c' kp e) (by simp only[MQ]<;>omega)
 .obtain⟨its,r',pl,hz⟩:=I.tuple hq
  have hlen:=r'.length;obtain⟨o,ho,hc,n,hd⟩:=pl;exact call_list_seq p (.inr rfl) ho hc hd (λh' c' kp e=>fin its r' hz h' c' kp e) (by simp only[MQ]<;>omega)
theorem gQ:bS X (.type "tuple") (λxs H Q=>∃p ys,xs=[.ref p]/\((bQ X.K H p ys/\∀l,H l=none->Q (.ref l) (upd H l (.tup ys)))\/(bg X.K H p ys/\Q (.ref p) H))):=by
 intro pins s σ H xs us Q I r h;obtain⟨p,ys,rfl,h⟩:=h;obtain⟨u,rfl,rx⟩:=vals1 r;cases rx
 rcases h with⟨hq,q⟩|⟨hq,q⟩
 .obtain⟨its,r',pl,hz⟩:=I.list hq
  have hlen:=r'.length;refine call_tuple_list pl.isList (λh' kp=> ?_) (by simp only[MQ]<;>omega);have I1:Inv X pins σ H {s with heap:=h'}:=I.kept (t' :=s.toks) kp
  have I2:Inv X pins σ (upd H h'.objs.size (.tup ys)) {s with heap:=h'.push {cls:=.type "tuple",data:=.seq its.toArray}}:=
   I1.laid (t' :=s.toks) (λb o e=>MD _ e) (MJ _) (show al X.prog X.w _ _ _ (.tup ys)from⟨hz,its,r',fm.new _ _⟩)
  exact⟨.ref h'.objs.size,_,I2,rfl,q _ (I1.hok.fresh (MJ _))⟩
 .obtain⟨its,r',pl,hz⟩:=I.tuple hq
  exact call_tuple_same pl ⟨.ref p,H,I,rfl,q⟩
def tyV(K:W.Frag)(T:String)(x:V)(H:Hp):Prop:=match x with
 | .str _=>T="str"| .int _=>T="int"| .ref p=>(T="list"/\∃d,bQ K H p d)\/(T="tuple"/\∃d,bg K H p d) \/ (T="dict"/\((∃c,H p=some (.dK c))\/∃c,H p=some (.dT c)))\/(T="set"/\∃S n,H p=some (.set S n))|_=>False
theorem zx(I:Inv X g A H s)(r:RelV x v)(j:tyV X.K T x H):
  s.TypeIs v T/\∀a,v=.ref a->∃u,s.heap.get? a=some u/\u.dict=none:=by
 cases x with
 |str z=>obtain⟨t,rfl⟩:=r;cases(show T="str" from j);exact⟨typeIs_str s z t,λ_ e=>nomatch e⟩
 |int i=>obtain⟨t,rfl⟩:=r;cases(show T="int" from j);exact⟨typeIs_int s i t,λ_ e=>nomatch e⟩
 |ref p=>
  cases r
  rcases j with⟨rfl,C,k⟩|⟨rfl,C,k⟩|⟨rfl,f⟩|⟨rfl,S,n,f⟩
  .obtain⟨y,_,m,_⟩:=I.list k
   refine⟨m.isList.typeIs,λa e=> ?_⟩;cases e;obtain⟨o,n,e,c,B,_⟩:=m;exact⟨o,e,B⟩
  .obtain⟨o,q,h,w⟩:=I.tupleD k
   refine⟨⟨o,q,h⟩,λa e=> ?_⟩;cases e;exact⟨o,q,w⟩
  .have z:∃o,s.heap.get? p=some o/\o.ExactDict:=by
    rcases f with⟨l,f⟩|⟨l,f⟩
    .obtain⟨_,_,_,_,o,_,_,e,d,_⟩:=I.hok p _ f
     exact⟨o,e,d⟩
    .obtain⟨_,_,_,_,o,_,_,e,d,_⟩:=I.hok p _ f
     exact⟨o,e,d⟩
   obtain⟨o,e,d⟩:=z;refine⟨⟨o,e,d.1⟩,λa h=> ?_⟩;cases h;exact⟨o,e,d.2.1⟩
  .obtain⟨o,_,_,_,e,d,_⟩:=I.hok p _ f
   refine⟨⟨o,e,d.1⟩,λa h=> ?_⟩;cases h;exact⟨o,e,d.2.1⟩
 |_=>exact False.elim j
def tBM0(K:W.Frag)(T:String)(r:V->List V->Hp->VK->Prop)(c:TE):TE:=λσ H Q=>c σ H λx H1=>tyV K T x H1/\r x [] H1 Q
def tBM(K:W.Frag)(T:String)(r:V->List V->Hp->VK->Prop)(c:TE)(t:TA):TE:=λσ H Q=>c σ H λx H1=>tyV K T x H1/\t σ H1 λxs H2=>r x xs H2 Q
variable{o e:Expr}{es:List Expr}{to:TE}{t:TA}{name:Str}{apos cpos:Pos}{T id:String}{r:V->List V->Hp->VK->Prop}
theorem HK(m:PlainAttrs T)(g:Slot T name id)(i:typeOf (.builtin id)=pure (.type "method_descriptor"))(w:MtR X id r)(y:PE X o to)
  (d:attributeBase o name X.env (eval o X.env)=eval o X.env:=by rfl) (f:(apos.endLine==cpos.line)=true:=by rfl):PE X (.Call (.Attribute o name apos) [] [] cpos) (tBM0 X.K T r to):=by
 intro c s k H Q I h;refine wpAny_Call_method0_late d f (aj (y c s k H _ I h) λv s1 hpq=> ?_);obtain⟨x,n,j,l,z,p⟩:=hpq;obtain⟨q,u⟩:=zx j l z;exact⟨T,id,m,g,i,q,u,PY rfl (PySem.evalArgs_none (w c s1 k n x [] v [] Q j l .nil p))⟩
theorem KU(q:PlainAttrs T)(j:Slot T name id)(k:typeOf (.builtin id)=pure (.type "method_descriptor"))(B:MtR X id r)(C:PE X o to)(u:PA X (e::es) t)
  (f:attributeBase o name X.env (eval o X.env)=eval o X.env:=by rfl)
  (i:((backTo cpos (starEach (e::es) X.env)).all (λx=> !x.1)&&(backToKw cpos (keywordEach [] X.env)).all (λx=>x.1.isSome) && decide ((e::es).length+([]:List Keyword).length+(if([]:List Keyword).isEmpty then 0 else 1)<30))=true:=by rfl)
  (g:(apos.endLine==cpos.line)=true:=by rfl) (E:starEach (e::es) X.env=(false,eval e X.env)::starEach es X.env:=by rfl) (d:(backTo cpos (starEach es X.env)).any (·.1)=false:=by rfl):
  PE X (.Call (.Attribute o name apos) (e::es) [] cpos) (tBM X.K T r to t):=by
 intro c s l H Q I h;refine wpAny_Call_method_late f i g rfl (aj (C c s l H _ I h) λv s1 hpq=> ?_);obtain⟨x,w,m,p,D,y⟩:=hpq;obtain⟨z,A⟩:=zx m p D;refine⟨T,id,q,j,k,z,A,?_⟩;have n:=u cpos c s1 l w _ m y;rw[E]at n ⊢;refine PY (by show(false||(backTo cpos (starEach es X.env)).any (·.1))=false;rw[d]<;>rfl) (Calls.evalArgs_plain ?_);exact aj n λus s2 ⟨vs,H2,I2,r2,q2⟩=>B c s2 l H2 x vs v us Q I2 p r2 q2
end
def MtM(X:Cx)(e:String)(r:V->List V->Hp->VK->Prop):Prop:=
 ∀(a:List (Addr×Obj))(s:Shared)(d:St)(H:Hp)(x:V)(c:List V)(v:Value)(b:List Value)(Q:VK),Inv X a d H s->RelV x v->aR c b->r x c H Q -> wpAny (model X.prog X.w) X.A (call (.builtin e) (v::b)) (EP X a d Q) X.xe s
theorem aR.one(h:aR [x] a):∃u,a=[u]/\RelV x u:=vals1 h
theorem aR.two(h:aR [x,y] a):∃u v,a=[u,v]/\RelV x u/\RelV y v:=vals2 h
theorem aR.zero:∀{a:List Value},aR [] a->a=[]
 |_,.nil=>rfl
theorem aR.dropLast(h:aR b a):aR b.dropLast a.dropLast:=by
 induction h with
 |nil=>exact .nil|cons r t c=>
  cases t with
  |nil=>exact .nil|cons q d=>exact .cons r c
theorem aR.rep{a:List V}{b:List Value}(h:aR a b):∀k:Nat,aR (List.replicate k a).flatten (List.replicate k b).flatten
 |0=>.nil|k+1=>by rw[Os,Os,Pn,Pn];exact aR.append h (aR.rep h k)
theorem vT{c:Type}(l:List c):l.eraseIdx (l.length-1)=l.dropLast:=by
 induction l with
 |nil=>rfl|cons a r d=>
  cases r with
  |nil=>rfl|cons b r=>
   have e:(a::b::r).length-1=((b::r).length-1)+1:=by have f:(a::b::r).length=r.length+2:=rfl;have g:(b::r).length=r.length+1:=rfl;omega
   rw[e,List.eraseIdx_cons_succ,d]
   all_goals rfl
theorem foldl_rep(b:List Value):∀(k:Nat)(a:List Value),List.foldl (λx1 x2=>x1++x2) a.toArray (List.replicate k b.toArray)=(a++(List.replicate k b).flatten).toArray
 |0,a=>by simp|k+1,a=>by
  have e:a.toArray++b.toArray=(a++b).toArray:=by simp
  have c:(a++b)++(List.replicate k b).flatten=a++(List.replicate (k+1) b).flatten:=by rw[Os,Pn,NI]
  rw[<- c,<-foldl_rep b k (a++b),<-e,Os,NQ]
section
variable{X:Cx}{pins:List (Addr×Obj)}{σ:St}{H:Hp}{s:Shared}{l b:Addr}{xs ys zs:List V}
theorem Inv.lset{a its':List Value}(I:Inv X pins σ H s)(i:H l=some (.lst xs))
  (e:s.heap.get? l=some {cls:=.type "list",data:=.seq a.toArray n}) (g:f a.toArray=its'.toArray) (h:aR ys its') (d:ys.length<=sizeLine):
  Inv X pins σ (upd H l (.lst ys)) {s with heap:=s.heap.update l (Obj.mapSeq f),toks:=c}:=by
 have q:=PySem.IsL.update e f;rw[g]at q;refine I.write (x:=l) (e:=l) (by rw[i];exact trivial) (.inl rfl) (λb' u hb hu=>(Mz s.heap (Obj.mapSeq f) (NZ hb)).trans hu) ⟨_,q⟩ ?_;exact⟨d,its',_,h,q⟩
theorem Inv.lnew(I:Inv X pins σ H s)(d:aR ys a)(c:ys.length<=sizeLine):
  Inv X pins σ (upd H s.heap.objs.size (.lst ys)) {s with heap:=s.heap.push {cls:=.type "list",data:=.seq a.toArray},toks:=t'}:=
 I.laid (λ_ _ q=>MD _ q) (MJ _) ⟨c,a,0,d,MW _ rfl⟩
theorem Inv.fresh(I:Inv X pins σ H s):H s.heap.objs.size=none:=I.hok.fresh (MJ _)
theorem Inv.lstM(I:Inv X pins σ H s)(c:H l=some (.lst xs)):xs.length<=sizeLine/\∃(a:List Value)(n:Nat),aR xs a/\xs.length=a.length/\s.heap.get? l=some {cls:=.type "list",data:=.seq a.toArray n}:=by obtain⟨z,a,n,r,e⟩:=I.hok l _ c;exact⟨z,a,n,r,r.length,e⟩
theorem BI(h:n<=sizeLine):Builtin.List.listTooLong n=false:=by unfold Builtin.List.listTooLong;exact MU (by omega)
end
section
variable{X:Cx}
def Di:V->List V->Hp->VK->Prop:=λx vs H Q=>∃l a y,x=.ref l/\vs=[y]/\H l=some (.lst a)/\a.length<sizeLine/\Q .non (upd H l (.lst (a++[y])))
theorem oD:MtM X "list.append" Di:=by intro b s j H x k v i Q I g f h;obtain⟨l,p,y,rfl,rfl,c,m,q⟩:=h;cases g;obtain⟨u,rfl,d⟩:=f.one;obtain⟨z,a,n,r,o,e⟩:=I.lstM c;refine call_meets F.slot_list_append ⟨_,e,rfl⟩ F.entry_list_append (F.args_list_append_2 _ _) (PySem.list_append l a.toArray n u (by rw[MQ];omega)) ⟨e,?_⟩;refine⟨.non,_,I.lset (its' :=a++[u]) c e (by simp) (r.append (.cons d .nil)) ?_,rfl,q⟩;rw[MT,Nq];omega
def rPop:V->List V->Hp->VK->Prop:=λx vs H Q=>∃l a y,x=.ref l/\vs=[]/\H l=some (.lst a)/\a[a.length-1]? =some y/\Q y (upd H l (.lst a.dropLast))
theorem Hl:MtM X "list.pop" rPop:=by
 intro d s t H x w v p Q I k i h;obtain⟨l,A,y,rfl,rfl,f,j,q⟩:=h;cases k;have b:=i.zero;subst b;obtain⟨z,a,n,r,m,e⟩:=I.lstM f;obtain⟨u,o,g⟩:=r.get j;have c:a.toArray[a.toArray.size-1]? =some u:=by show a.toArray[a.length-1]? =some u;rw[<- Nb,<-m];exact o
 refine call_meets F.slot_list_pop ⟨_,e,rfl⟩ F.entry_list_pop (F.args_list_pop_1 _) (MeetsSeq.list_pop_last l a.toArray n u c (by rw[MQ];omega)) ⟨e,?_⟩;refine⟨y,_,I.lset (its' :=a.dropLast) f e ?_ r.dropLast ?_,g,q⟩
 .show a.toArray.eraseIdxIfInBounds (a.toArray.size-1)=a.dropLast.toArray
  rw[MQ,List.eraseIdxIfInBounds_toArray,vT]
 .rw[List.length_dropLast]
  omega
def rCat:R2:=λx y H Q=>∃l b a c,x=.ref l/\y=.ref b/\H l=some (.lst a)/\H b=some (.lst c)/\a.length+c.length<=sizeLine/\∀p,H p=none->Q (.ref p) (upd H p (.lst (a++c)))
theorem HZ:dI X (binaryOp .Add) rCat:=by
 intro d s w H x y v u Q I o k h;obtain⟨l,b,E,A,rfl,rfl,i,m,B,q⟩:=h;cases o;cases k;obtain⟨z,c,n,r,C,e⟩:=I.lstM i;obtain⟨t,a,D,g,p,j⟩:=I.lstM m;refine PySem.P.add_list e j ?_ (by rw[MQ,MQ];omega);have f:c.toArray++a.toArray=(c++a).toArray:=by simp
 rw[f];exact⟨.ref _,_,I.lnew (t' :=s.toks) (r.append g) (by rw[MT];omega),rfl,q _ I.fresh⟩
def rRep:R2:=λx y H Q=>∃l k a,x=.ref l/\y=.int k/\H l=some (.lst a)/\ -(2^63)<=k/\k<2^63/\a.length*k.toNat<=sizeLine /\ ∀p,H p=none->Q (.ref p) (upd H p (.lst (List.replicate k.toNat a).flatten))
theorem EM{c:Type}(a:List c)(k:Nat):(List.replicate k a).flatten.length=k*a.length:=by
 induction k with
 |zero=>simp|succ k b=>rw[Os,Pn,MT,b,Nat.succ_mul,Nat.add_comm]
theorem HP:dI X (binaryOp .Mult) rRep:=by
 intro pins s σ H x y v u Q I rx ry h;obtain⟨l,k,xs,rfl,rfl,hH,h1,h2,hz,q⟩:=h;cases rx;obtain⟨t,rfl⟩:=ry;obtain⟨z,its,n,r,hl,e⟩:=I.lstM hH;have hlen:its.toArray.size*k.toNat<=sizeLine:=by rw[MQ,<-hl];exact hz
 have hcap:¬its.toArray.size*k.toNat>(2^63-1)/8:=by
  have:(sizeLine:Nat)<=(2^63-1)/8:=by decide
  omega
 have hfit:¬(!Builtin.List.listFitsIndex k)=true:=by rw[fitsIndex_both h1 h2];exact MI
 have hlong:¬Builtin.List.listTooLong (its.toArray.size*k.toNat)=true:=by rw[BI hlen];exact MI
 have hnew:List.foldl (λx1 x2=>x1++x2) #[] (List.replicate (if its.toArray.isEmpty=true then 0 else k.toNat) its.toArray)=(List.replicate k.toNat its).flatten.toArray:=by
  have f0:∀m:Nat,List.foldl (λx1 x2=>x1++x2) #[] (List.replicate m its.toArray)=(List.replicate m its).flatten.toArray:=λm=>by have:=foldl_rep its m [];rw[List.nil_append]at this;exact this
  rw[f0];cases its with
  |nil=>simp|cons a r' =>rw[ME (by simp)]
 refine wpAny_binaryOp_repeat_ref (T:="list") (U:="int") (by decide) ⟨_,e,rfl⟩ (λs' =>typeIs_int s' k t) noFill_list_mul F.fills_int_mul F.slot_int_rmul repeat_list F.slot_int_index.lookup
  (call_meets F.slot_int_rmul (typeIs_int s k t) F.entry_int_rmul (F.args_int_rmul_2 _ _) (int___rmul___int_list k t l its.toArray n) ⟨e,rfl,⟨_,e,rfl⟩,call_meets F.slot_list_mul ⟨_,e,rfl⟩ F.entry_list_mul (F.args_list_mul_2 _ _) (AutoListH.list___mul___list_int_3 l its.toArray n k t hfit hcap hlong) ⟨e,?_⟩⟩)
 rw[hnew];exact⟨.ref _,_,I.lnew (t' :=s.toks) (r.rep k.toNat) (by rw[EM,Nat.mul_comm];exact hz),rfl,q _ I.fresh⟩
end
end L2
namespace Att
open PySem PySem.W PySem.Calls PyProof.Rows
set_option tactic.hygienic false
theorem kX:∀(c:List Int)(d:List Value),WellAll P h d (c.map WData.int)->IntsAre d c:=by
 intro c
 induction c with
 |nil=>intro d w;rw[Nk]at w;cases w;exact .nil
 |cons n c e=>
  intro d w;rw[MM]at w;cases w with
  |cons a b=>cases a;exact .cons _ _ (e _ b)
theorem yU{l:OpenLaw}(w:l.most=some n){h:Heap}
  (c:l.row.toRowW.claim.pre args=true) (k:WellAll P h e args):
  ∃a p b,e=[Value.ref a]/\args=[WData.list (b.map WData.int)]/\h.get? a=some {cls:=.type "list",data:=.seq p.toArray}/\IntsAre p b/\b.length<=n:=by
 have m:WShape.hasAll [] args [.list .int]=true:=(pre_splitW c).1;have o:l.pre.holds [] {args:=args}=true:=(pre_splitW c).2;obtain⟨d,r,rfl,t,u⟩:=hasAllW_cons m;obtain rfl:=hasAllW_nil u;obtain⟨z,rfl,q⟩:=hasW_list t;obtain⟨b,rfl⟩:=items_int q;have f:b.length<=n:=by
  unfold OpenLaw.pre at o;have j:(WTm.not (.lt (.lit (.int (n:Int))) (.len (.arg 0)))).holds [] {args:=[.list (b.map .int)]}=true:=by have j:=(holds_andW o).1;rw[w]at j;exact j
  have i:=condW_of j (w_not (w_lt w_lit (w_len_list (w_arg rfl))));rw[L9]at i;refine Nat.le_of_not_lt λq=> ?_;have s:(n:Int)<((b.length:Nat):Int):=by omega
  first
   |(rw[MO s]at i;exact absurd i (by decide))
   |(simp at i;omega)
 cases k with
 |cons v x=>
  cases x;cases v with
  |list y g=>exact⟨_,_,b,rfl,rfl,y,kX b _ g,f⟩
theorem yY(l:OpenLaw)(args:List WData):l.row.toRowW.claim.post args (.bool true) args=true:=
 postW_of (r:=l.row.toRowW) (X:=(true==true))
  (show WShape.has [] (.bool true) .bool=true by first|rfl|decide|simp[WShape.has,WShape.arms,WShape.armsAll])
  (show(WTm.eq .res (.lit (.bool true))).value [] {args:=args,res:=some (.bool true),after:=args}=some (.bool (true==true))from w_eq_bool (w_res rfl) w_lit) rfl
theorem uQ{l:OpenLaw}{d:DefRec}
  (R:l.most=some n) (B:d.params.defaults=[])
  (m:∀(w:World)(e b:Shared)(t x:Str->Option Value)(s:Addr)(o:Obj)(y u h:Value)(a:Addr)(i:List Value)(v:List Int),Ground q c [] E w e t x b.heap->D w b.heap -> b.heap.get? s=some o->o.data=.func (docDef d.name d.params d.body d.scope y u h)->b.heap.CodeRec u d.name->t d.name=some (.ref s) -> b.heap.get? a=some {cls:=.type "list",data:=.seq i.toArray}->IntsAre i v->v.length<=n->b.gens= #[] -> codeAny (model l.prog w) callerA (.call (.ref s) ⟨[.ref a],[]⟩) (λr s' =>r=.ok (.ret (.bool true))/\OldK b.heap s'.heap/\s'.os=b.os/\AllBare s'.gens) b):
  WalkO q c E D l.row.toRowW d [] (λf i=>PySem.call f i):=by
 intro w e b t x G Y s o y u h M J S T A H C L args F U j I Q z N;obtain rfl:M=.none:=Dflts.none H B;obtain rfl:J=.none:=Dflts.noKw H;obtain⟨a,i,v,rfl,rfl,p,g,k⟩:=yU R j z;refine enter_call (codeAny_mono (m w e b t x s o y u h a i v G Y S (fd_plain T) A C p g k L) λr s' hq=> ?_);obtain⟨rfl,O,K,P⟩:=hq;exact⟨.inl ⟨.bool true,.bool true,[],rfl,λ_=>rfl,.bool true,yY l _,λ_=>⟨List.Pairwise.nil,λ_ hm=>(nomatch hm)⟩⟩,O,K,P⟩
end Att
namespace L2
open PySem PySem.Spec PyProof.Rows
set_option tactic.hygienic false
theorem yH(h:IntsAre b a):aR (a.map V.int) b:=by
 induction h with
 |nil=>exact .nil|cons n t h c=>exact .cons ⟨t,rfl⟩ c
def Jf(H:Hp):Prop:=∀b,H b=none\/∃o a,H b=some (.frz o (.lst a))
theorem Ba{K:W.Frag}{c:Shared}{y:List Value}{G:List Int}
  (KX:K.In c.heap) (E:c.heap.Ns mainGlobals B) (g:c.heap.Ns builtinsNs Q) (U:∀x:Str,x≠"__name__"->Q x=bootBuiltins x) (I:c.heap.NoLimit) (hg:c.gens= #[])
  (O:c.heap.get? a=some {cls:=.type "list",data:=.seq y.toArray}) (hi:IntsAre y G) (hl:G.length<=sizeLine) (hr:fF k callerA)
  (F:∀i:Heap,K.In i->i.Ns mainGlobals B->bv P w K B i CX k Y fd [x] sp) (t:∀(s:Shared)(u:Value),BindsTo s fd ⟨[u],[]⟩ [(x,u)])
  (X:∀H:Hp,Jf H->bQ K H a (G.map V.int)->sp [.ref a] H (λv _=>v=.bl true) λ_ _ _=>False)
  (Z:∀H e j,CX [] H c (λ_ _ _=>False) e j ->False):
  codeAny (model P w) callerA (.call (.ref Y) ⟨[.ref a],[]⟩) (λr j=>r=.ok (.ret (.bool true))/\OldK c.heap j.heap/\j.os=c.os/\AllBare j.gens) c:=by
 have rv:=yH hi;have Kj:=hi.length
 have p:∀H:Hp,Jf H->bQ K H a (G.map V.int)->fo P w H c.heap->(∀b,H b≠none->b=a)->(H a≠none->K.lookup a=none) -> codeAny (model P w) callerA (.call (.ref Y) ⟨[.ref a],[]⟩) (λr j=>r=.ok (.ret (.bool true))/\OldK c.heap j.heap/\j.os=c.os/\AllBare j.gens) c:=by
  intro H hO hS J hA hK;have f:∀{b:Addr}{o:Obj},c.heap.get? b=some o->H b=none->(qH c.heap H).get? b=some o:=λe n=>Bv e n;have R:∀{b:Addr}{o:Obj}{L:Array DictEntry}{M:Nat},c.heap.get? b=some o->o.data=.dict L M->H b=none:=λ{b o L M} e d=>by
   cases q:H b with
   |none=>rfl|some u=>have S:b=a:=hA b (by rw[q];simp);subst S;rw[O]at e;cases e;have d' :Data.seq y.toArray _=Data.dict L M:=d;cases d'
  have l:∀{b:Addr}{m:Str->Option Value},c.heap.Ns b m->(qH c.heap H).Ns b m:=λ{b m} ⟨o,L,M,e,d,r⟩=>⟨o,L,M,f e (R e d),d,r⟩
  have C:K.In (qH c.heap H):=λb o e=>f (KX b o e) (by
   cases q:H b with
   |none=>rfl|some u=>have S:b=a:=hA b (by rw[q];simp);subst S;rw[hK (by rw[q];simp)]at e;cases e)
  have hM:Mod K B (qH c.heap H):=⟨C,l E,⟨Q,l g,U⟩,let⟨mc,h1,h2⟩:=I;⟨mc,l h1,h2⟩⟩;have e0:Fi P w K B (qH c.heap H) callerA [] c H:=⟨rfl,hM,λb o e=>ED e,Nat.le_of_eq (yv _ _),trivial,λb g=>absurd (show b∈([]:List Addr)from g) (by simp),J,.of_eq hg⟩;refine codeAny_mono ((F _ C (l E)).run callerA [] c H ⟨[.ref a],[]⟩ [.ref a] [.ref a] _ _ hr e0 (t c (.ref a)) (.cons rfl .nil) (X H hO hS)) λr j h=> ?_;cases r with
  |error e=>exact(Z H e j h).elim|ok fl=>
   cases fl with
   |next=>exact False.elim h|brk=>exact False.elim h|cont=>exact False.elim h|ret u=>
    obtain⟨v,H',os,D,un,A,r',q⟩:=h;have q' :v=.bl true:=q;subst q';obtain rfl:u=Value.bool true:=r';refine⟨rfl,OldK.of_keep λb o e=> ?_,os,D⟩;cases q:H b with
    |none=>exact un.keep b o e q (by intro z;exact absurd (show b∈([]:List Addr)from z) (by simp)) (by simp)|some u=>
     rcases hO b with z|⟨ob,xs,z⟩
     .rw[q]at z;cases z
     .have z2:=un.frzs b ob _ z
      obtain⟨e1,_⟩:=J b _ z;obtain⟨e2,_⟩:=A b _ z2;rw[e]at e1;cases e1;exact e2
 cases T:K.lookup a with
 |some o=>have e:=KX a o T;rw[O]at e;cases e;refine p (λ_=>none) (λ_=>.inl rfl) (.inr ⟨_,y.toArray,_,T,rfl,rfl,rfl,by rw[MQ,Kj];exact hl,by simpa using rv⟩) (λb u z=>by have N:(none:Option HO)=some u:=z;cases N) (λb z=>absurd rfl z) λz=>absurd rfl z
 |none=>
  refine p (λb=>if b=a then some (.frz {cls:=.type "list",data:=.seq y.toArray} (.lst (G.map V.int)))else none) (λb=> ?_) (.inl (.inr ⟨{cls:=.type "list",data:=.seq y.toArray},MF rfl⟩)) (λb u z=> ?_) (λb z=> ?_) λ_=>T
  .by_cases g:b=a
   .exact .inr ⟨_,_,MF g⟩
   .exact .inl (ME g)
  .by_cases g:b=a
   .have N:=(MF g).symm.trans z
    cases N;subst g;exact⟨O,by rw[L9];exact hl,y,_,rv,O⟩
   .have N:=(ME g).symm.trans z
    cases N
  .by_cases g:b=a
   .exact g
   .exact absurd (ME g) z
theorem DD{l:W.OpenLaw}{n k:Nat}{q:Program}{i:List Str}{I:(Str->Option Value)->Heap->Prop}{C:World->Heap->Prop}{d:DefRec}{K:Params->W.Frag}{CX:World->zd}{sp:World->Sp}{x:Str}
  (M:l.most=some n) (r:n<=sizeLine) (y:d.params.defaults=[]) (N:fF k callerA)
  (L:∀(w:World)(h:Heap),C w h->(K w.params).In h)
  (F:∀(w:World)(j:Str->Option Value)(p:Addr)(h:Heap),(K w.params).In h->h.Ns mainGlobals j->j d.name=some (.ref p) -> ∃t:FuncData,(∀(s:Shared)(u:Value),BindsTo s t ⟨[u],[]⟩ [(x,u)]) /\ ∀c:Heap,(K w.params).In c->c.Ns mainGlobals j->bv l.prog w (K w.params) j c (CX w) k p t [x] (sp w))
  (A:∀(w:World)(H:Hp)(a:Addr)(m:List Int),m.length<=n->Jf H->bQ (K w.params) H a (m.map V.int)->sp w [.ref a] H (λv _=>v=.bl true) λ_ _ _=>False)
  (B:∀(w:World)(H:Hp)(s:Shared)(e:Value)(z:Shared),CX w [] H s (λ_ _ _=>False) e z ->False):
  W.WalkO q i I C l.row.toRowW d [] (λf vs=>PySem.call f vs):=by
 refine Att.uQ M y λw s₀ s₁ j mb p o pm cd doc a vs m G Y ho hd hcd hmg hobj hints hlen hg=> ?_;have D:=L w _ Y;obtain⟨t,J,E⟩:=F w j p _ D G.T.g hmg;exact Ba D G.T.g G.T.b G.T.builtins G.T.nolimit hg hobj hints (Mq hlen r) N E J (λH hO hS=>A w H a m hlen hO hS) λH e z=>B w H s₁ e z
noncomputable def cf(s:Stmt):Arguments:=match s with
 | .FunctionDef _ a _ _ _ _ _ _ _ _=>a|_=>{posonlyargs:=[],args:=[],vararg:=none,kwonlyargs:=[],kw_defaults:=[],kwarg:=none,defaults:=[]}
noncomputable def bW(s:Stmt):List Stmt:=match s with
 | .FunctionDef _ _ b _ _ _ _ _ _ _=>b|_=>[]
noncomputable def aZ(s:Stmt):Scope:=match s with
 | .FunctionDef _ _ _ _ _ _ a _ _ _=>a|_=>{kind:=.function,names:=[],isGenerator:=false,isCoroutine:=false}
abbrev kd:zd:=λ_ _ _ _ _ _=>False
abbrev E0:XK:=λ_ _ _=>False
theorem A5:v9 kd X E0:=λ_ _ _ _ _ _ _ h=>h.elim
set_option tactic.hygienic true
structure Jq(K:W.Frag)(x qual:Str)(st:Stmt)(f:Addr)(fd:FuncData):Prop where
 ex:∃(oc:Value)(od:Option Addr)(kV doc pm:Value)(an:Option Addr)(cdv ct:Value)(osl:Array (Option Value)),
  fd=W.fnOf x qual (cf st) (bW st) (aZ st) .none kV doc pm an cdv ct/\K.lookup f=some ⟨oc,od,.func fd,osl⟩/\W.codeIn K cdv qual=true
 kp:W.keepIn K (.ref f)=true
section
variable{P:Program}{w:World}{K:W.Frag}{mg:Str->Option Value}{base:Heap}
theorem Jq.ok(F:Jq K x qual e f m)(S:ck N j (aZ e))(i:∀c H Q E,g c H Q E->c.length=j.length)
  (d:∀(b:Value)(A:Around)(a:List Env)(s:Shared)(H:Hp)(c:List V)(Q:VK)(E:XK),fF k (A.deeper (envOfC qual (aZ e) s.heap.objs.size f b))->g c H Q E -> ∃t,wA (tz kd P w K mg base N qual (aZ e) f b A a s H E).nox (bW e) t/\t {nx:=λ_ H' =>Q .non H',rt:=Q} (start N c) H):bv P w K mg base kd (k+1) f m j g:=by
 obtain⟨u,z,r,o,v,y,b,ct,n,rfl,p,l⟩:=F.ex;refine K4 p l S i λA a s H c Q E hr hsp=> ?_;obtain⟨t,h,q⟩:=d b A a s H c Q E hr hsp;exact⟨t,h.nox,q⟩
theorem Jq.binds(F:Jq K x qual c f k)
  (h:∀(e a g:Value)(j:Option Addr)(b ct:Value)(d:List Value),d.length=i.length->bindArgs (W.fnOf x qual (cf c) (bW c) (aZ c) .none e a g j b ct) ⟨d,[]⟩=pure (i.zip d)):Binds K k i []:=by
 obtain⟨n,p,e,a,g,j,b,ct,l,rfl,o,m⟩:=F.ex;exact .all (h e a g j b ct)
theorem Bz(l:K.lookup f=some ⟨m,j,.func (W.fnOf x qual (cf b) (bW b) (aZ b) .none h d i g a ct),e⟩)
  (c:W.codeIn K a qual=true) (k:W.keepIn K (.ref f)=true):Jq K x qual b f (W.fnOf x qual (cf b) (bW b) (aZ b) .none h d i g a ct):=⟨⟨m,j,h,d,i,g,a,ct,e,rfl,l,c⟩,k⟩
end
theorem Bu(a:fF k A):A.units+1<cLine:=Ph (Nat.add_le_add_left (by decide:1<=64) _) a.units
section
variable{X:Cx}
theorem pv(i:Nat)(b:X.N[i]? =some x:=by rfl)(d:Jp X.env.scope x:=by first|exact Or.inl rfl|exact Or.inr (Or.inl rfl)|exact Or.inr (Or.inr rfl))(c:(x==("__debug__":Str))=false:=by decide)
  (a:(x==("__classdict__":Str))=false:=by decide):PE X (.Name x pos) (Jz i):=uw b d c a
end
theorem pe{A B:Prop}(h:B):if false=true then A else B:=by rw[ME MI];exact h
theorem nD{A B:Prop}(h:A):if true=true then A else B:=by rw[MF rfl];exact h
theorem EU{c A B:Prop}[Decidable c](a:c->A)(b:¬c->B):if c then A else B:=by
 by_cases h:c
 .rw[MF h]
  exact a h
 .rw[ME h]
  exact b h
def aC(H a:Hp):Prop:=∀b o,H b=some o->a b=some o
theorem aC.refl(H:Hp):aC H H:=λ_ _ h=>h
theorem aC.trans(a:aC H e)(b:aC e d):aC H d:=λc o h=>b c o (a c o h)
theorem aC.free(e:aC H a)(h:a l=Option.none):H l=Option.none:=by
 cases q:H l with
 |none=>rfl|some o=>rw[e l o q]at h;cases h
theorem aC.seq{K:W.Frag}(e:aC H b)(h:bQ K H a c):bQ K b a c:=by
 rcases h with(h|⟨o,h⟩)|h
 .exact .inl (.inl (e _ _ h))
 .exact .inl (.inr ⟨o,e _ _ h⟩)
 .exact .inr h
end L2
set_option maxHeartbeats 4000000
namespace UM
open PySem PySem.Builtin PySem.Builtin.Str
structure L6(m:Nat)(rows:List Str):Prop where
 some:rows≠[]
 few:rows.length<=m
 wide:∃k,1<=k/\k<=m/\∀r∈rows,r.length=k
 signs:∀r∈rows,∀c∈r.cps.toList,c=120\/c=46
end UM
namespace L2
open PySem PySem.Spec PyProof.Rows
noncomputable def jC(a:Env):List (Str×NameKind)->List (Str×Addr)->List (Str×Addr)
 |[],acc=>acc|(n,k)::r,acc=>if(k==NameKind.free)=true then jC a r ((n,(a.cells.lookup n).getD 0)::acc)else jC a r acc
set_option tactic.hygienic false
theorem jo(h:(k==NameKind.free)=true):
  jC a ((n,k)::r) b=jC a r ((n,(a.cells.lookup n).getD 0)::b):=by
 show(if(k==NameKind.free)=true then _ else _)=_;rw[MF h]
theorem gn(h:¬(k==NameKind.free)=true):
  jC b ((n,k)::r) a=jC b r a:=by
 show(if(k==NameKind.free)=true then _ else _)=_;rw[ME h]
theorem uE(h:a.cells.lookup n=some c):cellOf a n=pure c:=by unfold cellOf;rw[h]
theorem vj(h:∀x∈scope.names,x.2=.free->∃c,b.cells.lookup x.1=some c):closureFor scope b=pure (jC b scope.names []):=by
 unfold closureFor
 suffices q:∀(l:List (Str×NameKind))(d:List (Str×Addr)),(∀x∈l,x.2=.free->∃c,b.cells.lookup x.1=some c) -> (forIn l d (λ(x:Str×NameKind) (r:List (Str×Addr))=>if(x.2==NameKind.free)=true then(do let a<-cellOf b x.1;pure (ForInStep.yield ((x.1,a)::r)))else pure (ForInStep.yield r)):Sem (List (Str×Addr)))=pure (jC b l d)by
  exact(Mw (λm=>m >>= pure) (q scope.names [] h)).trans (by rfl)
 intro l
 induction l with
 |nil=>intro d _;rfl|cons x l j=>
  intro d g;obtain⟨n,k⟩:=x;rw[List.forIn_cons]
  by_cases f:(k==NameKind.free)=true
  .obtain⟨c,i⟩:=g (n,k) MB (by simpa using f)
   rw[jo f];simp only[f,PN];rw[uE i];have e:(b.cells.lookup n).getD 0=c:=by rw[show b.cells.lookup n=some c from i];rfl
   rw[e];exact j _ λy hy=>g y (MA _ hy)
  .rw[gn f]
   simp only[f];exact j _ λy hy=>g y (MA _ hy)
theorem eW{a:Env}:∀{l:List (Str×NameKind)}{b:List (Str×Addr)}{x:Str}{c:Addr},(∀y∈l,y.2=.free->∃c,a.cells.lookup y.1=some c) -> (jC a l b).lookup x=some c->b.lookup x=some c\/a.cells.lookup x=some c
 |[],b,x,c,_,h=>.inl h|(n,k)::l,b,x,c,hl,h=>by
  have d:∀y∈l,y.2=.free->∃c,a.cells.lookup y.1=some c:=λy hy=>hl y (MA _ hy)
  by_cases j:(k==NameKind.free)=true
  .rw[jo j]at h
   rcases eW d h with q|q
   .rw[NA]at q
    cases i:(x==n)with
    |true=>
     rw[i]at q;have f:x=n:=by simpa using i
     subst f;obtain⟨m,g⟩:=hl (x,k) MB (by simpa using j);have e:a.cells.lookup x=some m:=g;rw[e]at q
     right
     rw[e]
     simpa using q
    |false=>rw[i]at q;exact .inl q
   .exact .inr q
  .rw[gn j]at h
   exact eW d h
theorem jB{env:Env}:∀{l:List (Str×NameKind)}{acc:List (Str×Addr)}{x:Str},((x,NameKind.free)∈l\/∃c,acc.lookup x=some c)->∃c,(jC env l acc).lookup x=some c
 |[],acc,x,h=>by
  rcases h with h|h
  .cases h
  .exact h
 |(n,k)::l,acc,x,h=>by
  by_cases a:(k==NameKind.free)=true
  .rw[jo a]
   refine jB ?_
   rcases h with h|⟨c,h⟩
   .rcases MP.mp h with e|e
    .right
     injection e with e1 e2
     subst e1;exact⟨(env.cells.lookup x).getD 0,by rw[NA];simp⟩
    .exact .inl e
   .right
    rw[NA];cases b:(x==n)with
    |true=>exact⟨_,rfl⟩|false=>exact⟨c,h⟩
  .rw[gn a]
   refine jB ?_
   rcases h with h|h
   .rcases MP.mp h with e|e
    .injection e with e1 e2
     subst e2;exact absurd rfl a
    .exact .inl e
   .exact .inr h
section
variable{prog:Program}{w:World}{A:Around}{R:Result->Shared->Prop}{s:Shared}
theorem qQ(I:Nat->Shared->Prop)
  (j:∀n s,I n s->wpAny (model prog w) A (pyNext k) (λr s₁=>match r with
   |none=>R (.ok .next) s₁|some v=>wpAny (model prog w) A (letOwnedTupleGo b k v) (λ_ s₁' =>wpAny (model prog w) A (assign b a v) (λ_ s₂ =>
     wpAny (model prog w) A (forIn i true λc r=>if r=true then do let ok<-isTrue c a (eval c a);pure (ForInStep.yield ok)else pure (ForInStep.yield r)) (λok s₃ =>
      if ok=true then wpAny (model prog w) A (eval f a) (λx s₄ =>
       wpAny (model prog w) A (call (.builtin "list.append") [g,x]) (λ_ s₅=>∃m,m<n/\I m s₅) (notedBy (model prog w) A a λe s' =>R (.error e) s') s₄) (notedBy (model prog w) A a λe s' =>R (.error e) s') s₃ else∃m,m<n/\I m s₃) (notedBy (model prog w) A a λe s' =>R (.error e) s') s₂) (notedBy (model prog w) A a λe s' =>R (.error e) s') s₁')
       (notedBy (model prog w) A a λe s' =>R (.error e) s') s₁) (notedBy (model prog w) A a λe s' =>R (.error e) s') s)
  (n:Nat) (h:I n s):
  codeAny (model prog w) A (.compLoop (.ListComp f [⟨b,d,i,0⟩] scope pos) 0 k g a) R s:=by
 refine codeAny_loop rfl I (λn s hI=> ?_) n h;show wpAny _ A ((compTurn (.ListComp f [⟨b,d,i,0⟩] scope pos) 0 k g a).onRaise (λx=>do noteFrame x a;theTreesLotGoes x)) _ _ s;refine wpAny_noted ?_;rw[compTurn_list];refine L8 (wpAny_standAt (L8 (Nj (j n s hI) (λr s₁ h₁=> ?_) λ_ _ h' =>h')));cases r with
 |none=>exact MC h₁|some v=>
  refine L8 (Nj h₁ (λ_ s₁' h₁' => ?_) λ_ _ h' =>h');refine L8 (Nj h₁' (λ_ s₂ h₂=>L8 (Nj h₂ (λok s₃ h₃=> ?_) λ_ _ h' =>h')) λ_ _ h' =>h');cases ok with
  |false=>exact MC ⟨rfl,h₃⟩|true=>exact L8 (L8 (Nj h₃ (λx s₄ h₄=>L8 (Nj h₄ (λ_ s₅ h₅=>MC (MC ⟨rfl,h₅⟩)) λ_ _ h' =>h')) λ_ _ h' =>h'))
end
noncomputable abbrev bH(X:Cx)(a:List Str)(scope:Scope)(C:Addr)(e:Shared)(b:Hp)(d:List Addr)(c:List (Str×Addr)):Cx where
 prog:=X.prog
 w:=X.w
 K:=X.K
 mg:=X.mg
 base:=X.base
 A:=X.A
 N:=a
 s₀:=e
 H₀:=b
 env:=compEnvC scope c C X.env
 outer:=X.stack
 stack:=X.stack
 ex:=d
 fn:=λx=>scope.names.lookup x==some .cell
 calm:=X.calm
 pn:=[]
 xe:=λ_ _=>False
def bY(X:Cx)(scope:Scope):List Str->List (Option Nat)->Prop
 |[],[]=>True|_::ns,none::r=>bY X scope ns r|x::ns,some i::r=>(X.N[i]? =some x/\scope.names.lookup x=some .free/\(X.env.scope.names.lookup x=some .cell\/X.env.scope.names.lookup x=some .free))/\bY X scope ns r|_,_=>False
noncomputable def bU(a:List (Option Nat))(b:St):St:=a.map λo=>match o with
 |none=>none|some i=>(b[i]?).join
theorem bY.len{X:Cx}{scope:Scope}:∀{b:List Str}{a:List (Option Nat)},bY X scope b a->a.length=b.length
 |[],[],_=>rfl|_::_,none::_,h=>Mw (·+1) (bY.len (show bY X scope _ _ from h))|_::_,some _::_,h=>Mw (·+1) (bY.len h.2)|[],_::_,h=>by cases h|_::_,[],h=>by cases h
theorem bY.at{X:Cx}{scope:Scope}{a:St}:∀{N' :List Str}{src:List (Option Nat)}{j:Nat}{x:Str}{v:V},bY X scope N' src->N'[j]? =some x->(bU src a)[j]? =some (some v) -> ∃i:Nat,X.N[i]? =some x/\a[i]? =some (some v)/\scope.names.lookup x=some .free/\(X.env.scope.names.lookup x=some .cell\/X.env.scope.names.lookup x=some .free)
 |[],[],j,x,v,_,h,_=>by simp at h|y::ns,none::r,0,x,v,_,_,h=>by simp[bU]at h|y::ns,none::r,j+1,x,v,s,h,h' =>bY.at (N' :=ns) (src:=r) (j:=j) s (by simpa using h) (by simpa [bU]using h')|y::ns,some i::r,0,x,v,s,h,h' =>by
  have e:y=x:=by simpa using h
  subst e;have q:(a[i]?).join=some v:=by simpa [bU]using h'
  refine⟨i,s.1.1,?_,s.1.2.1,s.1.2.2⟩;cases z:a[i]? with
  |none=>rw[z]at q;cases q|some o=>rw[z]at q;exact Mw some q
 |y::ns,some i::r,j+1,x,v,s,h,h' =>bY.at (N' :=ns) (src:=r) (j:=j) s.2 (by simpa using h) (by simpa [bU]using h')|[],_::_,_,_,_,s,_,_=>by cases s|_::_,[],_,_,_,s,_,_=>by cases s
def zV(X:Cx)(b:List Expr)(t:TT):Prop:=
 ∀(a:List (Addr×Obj))(s:Shared)(d:St)(H:Hp)(Q:Bool->Hp->Prop),Inv X a d H s->t d H Q -> wpAny (model X.prog X.w) X.A (forIn b true λc r=>if r=true then do let ok<-isTrue c X.env (eval c X.env);pure (ForInStep.yield ok)else pure (ForInStep.yield r)) (TP X a d Q) X.xe s
def Fq:TT:=λ_ H Q=>Q true H
theorem lX:zV X [] Fq:=λ_ _ _ H _ I h=>wpAny_tests_nil ⟨H,I,h⟩
theorem lW(h:PT X c t):zV X [c] t:=λpins s σ H Q I hw=>wpAny_tests_one (h pins s σ H Q I hw)
def Jh(X:Cx)(e:List Str)(c:List (Option Nat))(scope:Scope)(a:Expr)(l:List Expr)(i:Expr)(D:Addr)(o:St)(x:V)(d:List V)(q:Hp)(N:List V->Hp->Prop):Prop:=
 ∀(C:Addr)(k:Shared)(f:Hp)(m:List Addr)(h:List (Str×Addr)),∃(g:TG)(n:TT)(p:TE),PG (bH X e scope C k f m h) a g/\zV (bH X e scope C k f m h) l n/\PE (bH X e scope C k f m h) i p /\ g x (bU c o) q λσ2 H3=>(σ2.length=e.length/\∀(j:Nat)(v:V),(bU c o)[j]? =some (some v)->σ2[j]? =some (some v)) /\ n σ2 H3 λb H4=>if b=true then p σ2 H4 λv H5=>H5 D=some (.lst d)/\d.length<sizeLine/\N (d++[v]) (upd H5 D (.lst (d++[v])))else N d H4
def Ga(X:Cx)(j:List Str)(c:List (Option Nat))(scope:Scope)(a:Expr)(d:List Expr)(b:Expr)(h:TI):TE:=λσ H Q=>h σ H λJ H1=>∀D,H1 D=none -> ∃W:Nat->Nat->List V->Hp->Prop,(∃m,W 0 m [] (upd H1 D (.lst [])))/\∀i m f H,W i m f H -> (J.stop i H/\Q (.ref D) H)\/(J.go i H/\∀x e,J.yld i H x e ->Jh X j c scope a d b D σ x f e λys' H'' =>∃g,g <m/\W (i+1) g ys' H'')
section
variable{X:Cx}{pins:List (Addr×Obj)}{σ:St}{H:Hp}{s:Shared}
set_option tactic.hygienic true
structure zZ(X:Cx)(scope:Scope)(C:Addr)(cl:List (Str×Addr)):Prop where
 ex:∃own,cl=own++jC X.env scope.names []/\(∀n c,(n,c)∈own->C<c/\scope.names.lookup n=some .cell)/\(∀x,(x,NameKind.cell)∈scope.names->∃c,own.lookup x=some c)/\own.Pairwise fun x y=>x.2≠y.2
theorem zZ.sub(k:zZ X scope C d)(a:∀y∈scope.names,y.2=.free->∃c,X.env.cells.lookup y.1=some c)(e:d.lookup x=some c):
  (C<c/\scope.names.lookup x=some .cell)\/(scope.names.lookup x≠some .cell\/True)/\X.env.cells.lookup x=some c:=by
 obtain⟨b,rfl,f,g,i⟩:=k.ex;rw[OF]at e;cases z:b.lookup x with
 |some h=>rw[z]at e;cases e;exact .inl (f x c (My z))
 |none=>
  rw[z]at e
  rcases eW a e with q|q
  .cases q
  .exact .inr ⟨.inr trivial,q⟩
theorem Ev(I:Inv X pins σ H s)(j:scope.kind=.function)(k:zZ X scope C w)
  (i:∀y∈scope.names,y.2=.free->∃c,X.env.cells.lookup y.1=some c) (r:s.heap.objs.size<=C) (J:∀b∈P,j8 X pins H b) (u:∀b∈P,b<s.heap.objs.size):(bH X N' scope C s H P w).Ok:=by
 have D:∀x c,X.env.cells.lookup x=some c->c<s.heap.objs.size:=λx c e=>let⟨_,q⟩:=I.cell x c e;q.lt
 obtain⟨g,p,F,R,T⟩:=k.ex;have f:∀x c,w.lookup x=some c->(x,c)∈g\/X.env.cells.lookup x=some c:=λx c e=>by
  rw[p,OF]at e;cases z:g.lookup x with
  |some O=>rw[z]at e;cases e;exact .inl (My z)|none=>
   rw[z]at e
   rcases eW i e with q|q
   .cases q
   .exact .inr q
 refine⟨I.ok.mod,j,I.ok.glob,I.ok.blt,r,λx y c e1 e2=> ?_,λx hx=> ?_,λx c h e=> ?_,I.ok.hd,I.ok.frames,.inl rfl,λb hb=>⟨?_,λx c e=> ?_⟩,I.bs,Mq I.ok.bsz I.sz,λb o e hb=> ?_,λb hb hs=> ?_,I.stack,I.stkFree⟩
 .rcases f x c e1 with v|v<;>rcases f y c e2 with E|E
  .exact PySem.name_of_addr T v E
  .exact absurd (Oa (D y c E) (Ph r (F x c v).1)) (OU _)
  .exact absurd (Oa (D x c v) (Ph r (F y c E).1)) (OU _)
  .exact I.ok.inj x y c v E
 .-- a name of the block's that is no local of it is one that it closes over,or has a cell of its g
  have N:(relabel scope X.env).names.lookup x=some .cell\/(relabel scope X.env).names.lookup x=some .free:=hx;have S:∀k,(k=NameKind.cell\/k=NameKind.free)->(relabel scope X.env).names.lookup x=some k->(x,NameKind.free)∈scope.names\/(x,NameKind.cell)∈scope.names:=λk hk e=>by
   have m:=My e;obtain⟨⟨n,G⟩,M,Q⟩:=MG.mp m
   by_cases A:G =NameKind.free
   .subst A
    have d:(if(NameKind.free==NameKind.free&&X.env.scope.kind== .function&&X.env.kindOf n==some .cell)=true then(n,NameKind.cell)else(n,NameKind.free))=(x,k):=Q;have W:n=x:=by split at d <;>exact(Prod.mk.inj d).1
    rw[<- W];exact .inl M
   .have d:(if(G ==NameKind.free&&X.env.scope.kind== .function&&X.env.kindOf n==some .cell)=true then(n,NameKind.cell)else(n,G))=(x,k):=Q
    have L:(G ==NameKind.free)=false:=by simpa using A
    rw[L,Pj,Pj,ME MI]at d;obtain⟨U,V⟩:=Prod.mk.inj d;subst U V
    rcases hk with rfl|rfl
    .exact .inr M
    .exact .inl M
  have t:(x,NameKind.free)∈scope.names\/(x,NameKind.cell)∈scope.names->∃c,w.lookup x=some c:=by
   intro z;rw[p]
   rcases z with z|z
   .obtain⟨c,K⟩:=jB (env:=X.env) (l:=scope.names) (acc:=[]) (x:=x) (.inl z)
    rw[OF];cases g.lookup x with
    |some O=>exact⟨O,rfl⟩|none=>exact⟨c,K⟩
   .obtain⟨c,K⟩:=R x z
    exact⟨c,by rw[OF,K];rfl⟩
  rcases N with e|e
  .exact t (S _ (.inl rfl) e)
  .exact t (S _ (.inr rfl) e)
 .have h:scope.names.lookup x=some .cell:=by simpa using h
  obtain⟨O,B⟩:=R x (My h);have e:w.lookup x=some c:=e;rw[p,OF,B]at e;cases e;exact Mq r (Ob (F x c (My B)).1)
 .exact λe=>absurd (u b hb) (by show¬b<_;rw[e];exact Nat.not_lt.mpr r)
 .rcases f x c e with q|q
  .exact λz=>absurd (Oa (u b hb) (Ph r (F x c q).1)) (by rw[z];exact OU _)
  .exact(J b hb).2.2.2.2.1 x c q
 .rcases(J b hb).2.2.2.1 with q|q
  .exact I.ok.noex b o e q
  .exact absurd (MY e) (Nat.not_lt.mpr (Mq I.ok.bsz q))
 .rcases MP.mp (I.stkSub b hs)with q|q
  .exact(J b hb).2.1 q
  .exact(J b hb).2.2.1 q
theorem cQ:∀(names:List (Str×NameKind))(n:Nat)(a b:List (Str×Addr)),cellsFrom n names (a++b)=cellsFrom n names a++b
 |[],_,_,_=>rfl|(x,k)::r,n,a,b=>by
  unfold cellsFrom
  split;exact cQ r (n+1) ((x,n)::a) b;exact cQ r n a b
theorem eE:∀(names:List (Str×NameKind))(n:Nat)(a:List (Str×Addr))(x:Str)(c:Addr),(x,c)∈cellsFrom n names a->(x,c)∈a\/(x,NameKind.cell)∈names
 |[],_,_,_,_,h=>.inl h|(y,k)::r,n,a,x,c,h=>by
  unfold cellsFrom at h
  split at h
  .rename_i b
   have b:k=.cell:=by simpa using b
   rcases eE r (n+1) ((y,n)::a) x c h with q|q
   .rcases MP.mp q with e|e
    .cases e
     rw[b];exact .inr MB
    .exact .inl e
   .exact .inr (MA _ q)
  .rcases eE r n a x c h with q|q
   .exact .inl q
   .exact .inr (MA _ q)
set_option tactic.hygienic false
theorem FE(a:∀y∈scope.names,y.2=.cell->scope.names.lookup y.1=some .cell)(h:Heap)(d:h.objs.size=C+1):zZ X scope C (cellsFrom (C+1) scope.names (jC X.env scope.names [])):=by
 have b:=cellsFrom_ok scope.names h (C+1) [] ⟨λ_ _ hm=>(nomatch hm),List.Pairwise.nil⟩ (by rw[d];exact MJ _);rw[d]at b;refine⟨cellsFrom (C+1) scope.names [],by rw[<- cQ];rfl,λn c hm=>⟨(b.empty n c hm).2,?_⟩,λx hx=> ?_,b.apart⟩
 .rcases eE _ _ _ _ _ hm with q|q
  .cases q
  .exact a _ q rfl
 .have:=W.cellsFrom_some (x:=x) scope.names (C+1) [] (.inl (a _ hx rfl))
  exact Option.isSome_iff_exists.mp this
theorem CD
  (h:Q {scope:=scope,locals:=s.heap.objs.size,globals:=globals,cells:=cellsFrom (s.heap.objs.size+1) scope.names b,qual:=qual,func:=none,code:=a.code,frame:=a.frame,builtins:=a.builtins} {s with heap:=pushCells (s.heap.push {cls:=.type "dict",data:=.dict #[]}) scope.names}):
  wpAny M A (newFunctionEnv scope globals b [] qual none .none (some a)) Q E s:=by
 simp only[newFunctionEnv,Option.isSome_some,PN];refine L8 (wpAny_alloc ?_);refine L8 (wpAny_layCells _ (λname kind cells=>by cases c:kind==NameKind.cell<;>simp[]) _ _ _ _ ?_);rw[show({s with heap:=s.heap.push {cls:=.type "dict",data:=.dict #[]}}:Shared).heap.objs.size=s.heap.objs.size+1 from N2 ..];rw[List.forIn_nil];exact L8 (MC (MC h))
end
theorem iR{a:Env}:∀{names:List (Str×NameKind)}{x:Str},names.lookup x=some .free -> (names.map λ(n,k)=>if(k==NameKind.free&&a.scope.kind== .function&&a.kindOf n==some .cell)then(n,NameKind.cell)else(n,k)).lookup x=some .cell \/ (names.map λ(n,k)=>if(k==NameKind.free&&a.scope.kind== .function&&a.kindOf n==some .cell)then(n,NameKind.cell)else(n,k)).lookup x=some .free
 |[],_,h=>by simp at h|(n,k)::r,x,h=>by
  have d:= @iR a r x;show List.lookup x ((if(k==NameKind.free&&a.scope.kind== .function&&a.kindOf n==some .cell)=true then(n,NameKind.cell)else(n,k))::_)=_\/List.lookup x ((if(k==NameKind.free&&a.scope.kind== .function&&a.kindOf n==some .cell)=true then(n,NameKind.cell)else(n,k))::_)=_;cases b:x==n with
  |true=>
   simp only[NA,b]at h;cases h
   by_cases c:(NameKind.free==NameKind.free&&a.scope.kind== .function&&a.kindOf n==some .cell)=true;left;rw[MF c];simp only[NA,b];right;rw[ME c];simp only[NA,b]
  |false=>
   simp only[NA,b]at h
   by_cases c:(k==NameKind.free&&a.scope.kind== .function&&a.kindOf n==some .cell)=true;rw[MF c];simp only[NA,b];exact d h;rw[ME c];simp only[NA,b];exact d h
section
variable{X:Cx}{pins:List (Addr×Obj)}{σ:St}{H:Hp}{s:Shared}
theorem va(I:Inv X pins σ H s)(n:scope.kind=.function)(k:zZ X scope C p)
  (a:∀y∈scope.names,y.2=.free->∃c,X.env.cells.lookup y.1=some c) (g:bY X scope E j) (hf:∀b∈U,j8 X pins H b) (Q:∀b∈U,b<s.heap.objs.size)
  (t:D=s.heap.objs.size) (M:s.heap.objs.size<C) (R:d.Ns C m) (f:∀b o,s.heap.get? b=some o->d.get? b=some o) (J:d.get? D=some {cls:=.type "list",data:=.seq #[]})
  (N:∀x c,p.lookup x=some c->C<c->∃v,d.IsCell c v):
  Inv (bH X E scope C s H U p) [] (bU j σ) (upd H D (.lst [])) {s with heap:=d,toks:=tk}:=by
 have hn:H D=none:=by rw[t];exact I.hok.fresh (MJ _)
 have W:=Ev (N' :=E) I n k a (Ob M) hf Q;have P:D≠C:=by rw[t];exact Md M
 refine⟨W,rfl,I.bare,Un.laid f (by rw[t];exact MJ _) hn,⟨m,R,λj x v h1 h2 h3=> ?_⟩,λx c e=> ?_,?_,λx c e=> ?_,λp hp=>(by cases hp),I.hok.laid f (by rw[t];exact MJ _) ?_,?_⟩
 .obtain⟨i,e1,e2,O,h⟩:=g.at h1 h2
  obtain⟨m0,_,hl⟩:=I.loc;obtain⟨u,r,l⟩:=hl i x v e1 e2 (.inr h);refine⟨u,r,?_⟩;obtain⟨A,T,Y,o2,o3⟩:=k.ex;have w:A.lookup x=none:=by
   cases z:A.lookup x with
   |none=>rfl|some c=>have:=(Y x c (My z)).2;rw[O]at this;cases this
  obtain⟨L,F⟩:=jB (env:=X.env) (l:=scope.names) (acc:=[]) (x:=x) (.inl (My O));have S:X.env.cells.lookup x=some L:=by
   rcases eW a F with q|q
   .cases q
   .exact q
  have B:p.lookup x=some L:=by rw[T,OF,w];exact F
  rcases l with⟨V,_⟩|⟨V,c,Z,G⟩
  .have K:X.env.scope.names.lookup x=some .local:=V
   rcases h with h|h
   .rw[K]at h;cases h
   .rw[K]at h;cases h
  .have ec:L =c:=MZ (S.symm.trans Z)
   subst ec
   right
   exact⟨iR O,L,B,G.keeps f⟩
 .rcases k.sub a (show p.lookup x=some c from e)with q|q
  .exact N x c e q.1
  .obtain⟨v,z⟩:=I.cell x c q.2
   exact⟨v,z.keeps f⟩
 .show upd H D (.lst []) C=none
  rw[aA (NZ P)];exact I.hok.fresh (Ob M)
 .show upd H D (.lst []) c=none
  rcases k.sub a (show p.lookup x=some c from e)with q|q
  .have:s.heap.objs.size<c:=Oa M q.1
   rw[aA (by rw[t];exact Nd this)];exact I.hok.fresh (Ob this)
  .obtain⟨v,z⟩:=I.cell x c q.2
   rw[aA (by rw[t];exact Md z.lt)];exact I.freeC x c q.2
 .exact⟨Mk _,[],0,.nil,J⟩
 .show(j.map _).length=E.length
  rw[L9];exact g.len
theorem fo.but(x:fo P w H h)(k:∀b u,H b≠none->h.get? b=some u->d.get? b=some u):fo P w H d:=λa o e=>
 (x a o e).stay (λb u c q=>k b u (by rcases c with rfl|c;(rw[e];simp);(rw[c];simp)) q) (λ_ q=>q) λ_ _ q=>q
noncomputable def eT(a scope:Scope):Bool:=scope.names.all λy=> !(y.2==NameKind.free)||(a.names.lookup y.1==some .cell||a.names.lookup y.1==some .free)
theorem B4(h:eT a scope=true):∀y∈scope.names,y.2=.free->(a.names.lookup y.1=some .cell\/a.names.lookup y.1=some .free):=λy hy hf=>by
 have z:=MS.mp h y hy;rw[hf]at z
 simpa using z
theorem xF{K:List Expr}(hc:X.calm=true)(hi:PI X f p wi)(a6:bY X scope U G)
  (Z:scope.kind=.function) (a9:∀y∈scope.names,y.2=.cell->scope.names.lookup y.1=some .cell) (a4:∀y∈scope.names,y.2=.local->scope.names.lookup y.1=some .local)
  (d3:eT X.env.scope scope=true)
  (hs:∀x,foldedSetIterable p X.env x=pure x) (I:Inv X pins σ H s) (h:Ga X U G scope f K a8 wi σ H Q)
  (c6:∀(C a:Addr)(k s4:Shared)(L H3:Hp)(D:List Addr)(F:List (Str×Addr))(m:Str->Option Value),Inv X pins σ L k->(∀b∈D,j8 X pins L b)->(∀b,b<k.heap.objs.size->b≠C)->k.heap.objs.size<=C->Inv (bH X U scope C k L D F) [] (bU G σ) H3 s4->s4.heap.Ns C m->Q (.ref a) H3->∀v,compPost (model X.prog X.w) X.A X.xe use P (.ref a) C (.ok v) s4):
  wpAny (model X.prog X.w) X.A (comprehension (.ListComp a8 [⟨f,p,K,0⟩] scope pos) scope X.env (firstIterPos [⟨f,p,K,0⟩] pos) (newList []) (firstAsync [⟨f,p,K,0⟩]) (firstIter [⟨f,p,K,0⟩] X.env) use) P X.xe s:=by
 have B:∀y∈scope.names,y.2=.free->∃c,X.env.cells.lookup y.1=some c:=λy hy hf=>I.ok.has y.1 (B4 d3 y hy hf);refine wpAny_comprehension_free (use:=use) rfl hs (vj B) Z a4 ?_;refine aj (hi pins s σ H _ I h) λxv s1 h1=>aj h1 λitv k h2=> ?_;obtain⟨it,D,tn,J,L,e,I2,T,c2,f2,q⟩:=h2;subst e;have a2:∀b∈D,b<k.heap.objs.size:=λb hb=>by obtain⟨o,e,_⟩:=T.obj _ _ c2 b hb;exact MY e
 refine M4 (CD ?_);dsimp only
 generalize b1:k.heap.push {cls:=.type "list",dict:=none,data:=.seq ([]:List Value).toArray}=G2
 have hC:G2.objs.size=k.heap.objs.size+1:=by rw[<- b1,N2]
 have c3:k.heap.objs.size<=G2.objs.size:=by rw[hC];exact Oh _
 have M:k.heap.objs.size<G2.objs.size:=by rw[hC];exact Nat.lt_succ_self _
 have O:∀b,b<k.heap.objs.size->b≠G2.objs.size:=λb hb=>by rw[hC];exact Md (NT hb)
 obtain⟨F,N⟩:∃F,F=cellsFrom (G2.objs.size+1) scope.names (jC X.env scope.names []):=⟨_,rfl⟩;obtain⟨l,r⟩:∃l,l=pushCells (G2.push {cls:=.type "dict",data:=.dict #[]}) scope.names:=⟨_,rfl⟩;rw[<- N,<-r];have S:(G2.push {cls:=.type "dict",data:=.dict #[]}).objs.size=G2.objs.size+1:=N2 ..;have b5:zZ X scope G2.objs.size F:=by rw[N];exact FE a9 _ S
 have a3:l.Ns G2.objs.size (λ_=>none):=by rw[r];exact(Heap.Ns.new G2 (.type "dict")).keeps (pushCells_keeps _ _)
 have b7:∀b o,k.heap.get? b=some o->l.get? b=some o:=λb o e=>by rw[r];exact pushCells_keeps _ _ b o (MD _ (b1▸MD _ e))
 have c4:l.get? k.heap.objs.size=some {cls:=.type "list",data:=.seq #[]}:=by rw[r];exact pushCells_keeps _ _ _ _ (MD _ (b1▸MW _ rfl))
 have c5:∀x c,F.lookup x=some c->G2.objs.size<c->∃v,l.IsCell c v:=λx c e hlt' =>by
  have b6:=cellsFrom_ok scope.names (G2.push {cls:=.type "dict",data:=.dict #[]}) (G2.objs.size+1) [] ⟨λ_ _ hm=>(nomatch hm),List.Pairwise.nil⟩ (by rw[S];exact MJ _);rw[S]at b6;have e1:F=cellsFrom (G2.objs.size+1) scope.names []++jC X.env scope.names []:=by rw[N,<-cQ];rfl
  rw[e1,OF]at e;cases z:(cellsFrom (G2.objs.size+1) scope.names []).lookup x with
  |some c' =>rw[z]at e;cases e;exact⟨none,by rw[r];exact(b6.empty x c (My z)).1⟩
  |none=>
   rw[z]at e
   rcases eW B e with q|q
   .cases q
   .obtain⟨v,zc⟩:=I2.cell x c q
    exact absurd (Oa zc.lt M) (Nat.not_lt.mpr (Ob hlt'))
 have c9:L k.heap.objs.size=none:=I2.hok.fresh (MJ _);obtain⟨W,⟨m0,w0⟩,b'⟩:=q k.heap.objs.size c9;have b9:tn 0 l:=T.keep _ _ _ c2 λb hb o e=>b7 b o e;have c1:∀b∈D,b∉vS X.stack:=λb hb hz=>by
  rcases MP.mp (I2.stkSub b hz)with z|z
  .exact(f2 b hb).2.1 z
  .exact(f2 b hb).2.2.1 z
 have c8:∀x c,F.lookup x=some c->G2.objs.size<c\/X.env.cells.lookup x=some c:=λx c e=>by
  rcases b5.sub B e with q|q
  .exact .inl q.1
  .exact .inr q.2
 have R:∀{H' :Hp},(∀b∈D,H' b=none)->∀b∈D,j8 (bH X U scope G2.objs.size k L D F) [] H' b:=λhn b hb=>⟨hn b hb,O b (a2 b hb),c1 b hb,.inl hb,λx c e=>(by rcases c8 x c e with q|q;(exact λz=>absurd (Oa (a2 b hb) (Oa M q)) (by rw[z];exact OU _));exact(f2 b hb).2.2.2.2.1 x c q),λp hp=>by cases hp⟩
 have a7:∀s3:Shared,s3={k with heap:=l} -> codeAny (model X.prog X.w) X.A (.compLoop (.ListComp a8 [⟨f,p,K,0⟩] scope pos) 0 (.ref it) (.ref k.heap.objs.size) (compEnvC scope F G2.objs.size X.env))
    (compPost (model X.prog X.w) X.A X.xe use P (.ref k.heap.objs.size) G2.objs.size) s3:=by
  rintro s3 rfl
  refine qQ (λn s' =>∃i ys H',Inv (bH X U scope G2.objs.size k L D F) [] (bU G σ) H' s' /\tn i s'.heap/\(∀b∈D,H' b=none)/\W i n ys H') ?_ m0
   ⟨0,[],_,va I2 Z b5 B a6 f2 a2 rfl M a3 b7 c4 c5,b9,λb hb=>by rw[aA (Md (a2 b hb))];exact(f2 b hb).1,w0⟩
  rintro n s' ⟨i,ys,H3,I3,b8,c0,w3⟩
  rcases b' i n ys H3 w3 with⟨b3,qn⟩|⟨go,b4⟩
  .refine aj (T.done (bH X U scope G2.objs.size k L D F) rfl rfl rfl hc i [] s' _ H3 _ I3 (R c0) b8 b3) λr s4 hpq=> ?_
   obtain⟨hr,I4⟩:=hpq;subst hr;obtain⟨m,hn,_⟩:=I4.loc;exact c6 _ _ k s4 L H3 D F m I2 f2 O c3 I4 hn qn _
  .refine aj (T.item (bH X U scope G2.objs.size k L D F) rfl rfl rfl hc i [] s' _ H3 _ I3 (R c0) b8 go) λr s4 hpq=> ?_
   obtain⟨u,hr,h4⟩:=hpq;subst hr;refine aj h4 λ_ s5 hpq=> ?_;obtain⟨x,H5,I5,r5,y5,a',d0⟩:=hpq;obtain⟨g,tt,te,hg,ht,he,rd⟩:=b4 x H5 y5 G2.objs.size k L D F;have c7:=I5.pinned (R d0) (T.obj _ _ a');have a5:∀{α:Type}{t:Sem α}{Q' :α->Shared->Prop}{s' :Shared}{E:Value->Shared->Prop},wpAny (model X.prog X.w) X.A t Q' (λ_ _=>False) s' ->wpAny (model X.prog X.w) X.A t Q' E s' :=λz=>Nj z (λ_ _ y=>y) λ_ _ y=>y.elim
   have a0:∀{a1:St}{H7:Hp}{s7:Shared}{b0:List V},Inv (bH X U scope G2.objs.size k L D F) ([]++lV D s5.heap) a1 H7 s7->(a1.length=U.length/\∀(j:Nat)(v:V),(bU G σ)[j]? =some (some v)->a1[j]? =some (some v)) -> (∃m',m' <n/\W (i+1) m' b0 H7)->∃m,m<n/\∃i ys H',Inv (bH X U scope G2.objs.size k L D F) [] (bU G σ) H' s7/\tn i s7.heap/\(∀b∈D,H' b=none)/\W i m ys H' :=λ{a1 H7 s7 b0} I7 Y ⟨m',hm,w7⟩=>by refine⟨m',hm,i+1,b0,H7,(I7.unpinned).weak (by rw[show(bU G σ).length=U.length by(show(G.map _).length=_;rw[L9];exact a6.len)];exact Y.1.symm) Y.2,T.keep _ _ _ a' λb hb o e=>(I7.pin (b,o) (Mv _ (Mv _ (eh hb e)))).1,λb hb=> ?_,w7⟩;obtain⟨o,e,d⟩:=T.obj _ _ a' b hb;exact(I7.pin (b,o) (Mv _ (Mv _ (eh hb e)))).2.1
   refine a5 (aj (hg _ s5 _ H5 x u _ c7 r5 rd) λ_ s6 hpq=> ?_);obtain⟨b2,H6,I6,Y,q6⟩:=hpq;refine a5 (aj (ht _ s6 b2 H6 _ I6 q6) λb s7 hpq=> ?_);obtain⟨H7,I7,q7⟩:=hpq;cases b with
   |false=>exact a0 I7 Y q7|true=>rw[MF rfl]at q7 ⊢;refine a5 (aj (he _ s7 b2 H7 _ I7 q7) λy s8 hpq=> ?_);obtain⟨v,H8,I8,r8,d1,d2,q8⟩:=hpq;refine a5 (aj (oD _ s8 b2 H8 (.ref k.heap.objs.size) [v] (.ref k.heap.objs.size) [y] (λ_ H9=>∃m',m' <n/\W (i+1) m' (ys++[v]) H9) I8 rfl (.cons r8 .nil) ⟨_,_,_,rfl,rfl,d1,d2,q8⟩) λ_ s9 hpq=> ?_);obtain⟨_,H9,I9,_,q9⟩:=hpq;exact a0 I9 Y q9
 exact codeAny_compStart_list (a7 _ rfl) (T.self X.A 0 _ _ _ b9 (a7 _ rfl))
theorem A2(D:X.calm=true)(E:PI X c d B)(p:bY X scope N' src)
  (i:scope.kind=.function) (j:∀y∈scope.names,y.2=.cell->scope.names.lookup y.1=some .cell) (g:∀y∈scope.names,y.2=.local->scope.names.lookup y.1=some .local)
  (t:eT X.env.scope scope=true)
  (G:∀x,foldedSetIterable d X.env x=pure x:=by intro _;rfl):
  PE X (.ListComp l [⟨c,d,q,0⟩] scope pos) (Ga X N' src scope c q l B):=by
 intro A s J H Q I h;rw[eval_ListComp];refine xF D E p i j g t G I h λC a s2 s4 H2 H3 fp cl m I2 f2 below hCle I4 hn qn _=> ?_;refine⟨m,hn,λh' hs' => ?_⟩;have r:∀b o,s2.heap.get? b=some o->b≠C:=λb o e=>below b (MY e);have f:H3 C=none:=I4.free;have k:Un (vS X.stack) fp H2 H3 s2.heap s4.heap:=I4.base
 have F:Un (vS X.stack) fp H2 H3 s2.heap h' :=⟨λb o e n z1 z2=>(hs'.2 b (r b o e)).trans (k.keep b o e n z1 z2),λb o e n z1 z2=>let⟨sl,z⟩:=k.slot b o e n z1 z2;⟨sl,(hs'.2 b (r b o e)).trans z⟩,k.free,λb o e z=>let⟨o',z'⟩:=k.there b o e z;⟨o',(hs'.2 b (r b o e)).trans z'⟩,k.tups,k.frzs,k.tbls⟩
 have v:fo X.prog X.w H3 h' :=fo.but (h:=s4.heap) I4.hok λb u hb z=>(hs'.2 b (λw=>hb (by rw[w];exact f))).trans z;exact⟨.ref a,H3,I2.call' (s' :={s4 with heap:=h'}) (ch:=fp) I4.os F v I4.bare λb hb=>⟨(f2 b hb).2.2.2.1,(f2 b hb).2.1,(f2 b hb).2.2.2.2.1,(f2 b hb).2.2.2.2.2⟩,rfl,qn⟩
end
section
variable{X:Cx}
theorem all_range(d:List Bool):(List.range d.length).all (λi=>d.getD i true)=d.all id:=by
 rw[Ms,MS,MS]
 constructor
 .intro h b f
  obtain⟨i,c,e⟩:=List.mem_iff_getElem.mp f;have z:=h i (Mn.mpr c);rw[ML,MN c,e]at z;exact z
 .intro h i c
  have a:=Mn.mp c;rw[ML,MN a];exact h _ (OA a)
theorem uY{a:List Bool}(r:aR (a.map V.bl) b){i:Nat}(e:b[i]? =some v):v=.bool (a.getD i true):=by
 have g:=r.length;rw[L9]at g;have h:i<b.length:=(MV.mp e).1;have f:(a.map V.bl)[i]? =some (.bl (a.getD i true)):=by rw[MR,ML,MN (by omega)];rfl
 obtain⟨u,c,d⟩:=r.get f;rw[e]at c;cases c;exact d
theorem uH(hc:X.calm=true):bS X (.builtin "all") (λxs H Q=>∃(p:Addr)(bs:List Bool),xs=[.ref p]/\bQ X.K H p (bs.map V.bl)/\Q (.bl (bs.all id)) H):=by
 intro pins s σ H xs us Q I r h;obtain⟨p,bs,rfl,hq,q⟩:=h;obtain⟨u,rfl,rx⟩:=vals1 r;cases rx;obtain⟨its,r',pl,hz⟩:=I.list hq;have hlen:=r'.length;rw[L9]at hlen;have hp:p<s.heap.objs.size:=by obtain⟨o,e,_⟩:=pl.isList;exact MY e
 refine call_all_walk (P0 pl.isList ?_);refine⟨s.heap.objs.size,_,_,its.toArray.size,_,_,(λi=>bs.getD i true),rfl,Walks.list (A:=X.A.in1) (I.ok.hd hc) s.heap.objs.size p (Md hp) its.toArray,⟨⟨_,MW _ rfl,rfl,rfl⟩,pl.isList.push _⟩,?_,?_⟩
 .intro i v s' Q' E' hv hQ
  have e:=uY r' (i:=i) (v:=v) (by simpa using hv);subst e;exact NW hQ
 .intro h' tk hk
  refine⟨.bl (bs.all id),H,I.kept (t' :=tk) (λb o e=>hk b o (by simpa using Md (MY e)) (MD _ e)),?_,q⟩;rw[MQ,<-hlen,all_range];rfl
noncomputable def Ly(x:Str):It:=⟨λi _=>i<x.cps.size,λi H v H' =>H' =H/\∃c,x.cps[i]? =some c/\v=.str ⟨#[c]⟩,λi _=>i=x.cps.size⟩
def iStr(a:TE):TI:=λσ H R=>a σ H λx H1=>∃z,x=.str z/\R (Ly z) H1
theorem gS{P:Program}{w:World}{K:W.Frag}{tg:Expr}{a:Addr}{n:Nat}{T:Nat->Value->Prop}{m:Nat->Heap->Prop}{J:It}(C:∀A:Around,A.handled=none->Walks P w A a [a] [a] n T m)
  (l:∀i h,m i h->∃(o:Obj)(p:String)(R:Array Value),h.get? a=some o/\o.cls=.type p/\o.data=.fields R/\["enumerate","zip","dict_itemiterator","dict_reverseitemiterator","odict_iterator","itertools.zip_longest","itertools.pairwise"].contains p=false)
  (t:∀i H,J.go i H->i<n) (G:∀i H,J.stop i H->i=n) (hy:∀i H v,T i v->∃x,RelV x v/\J.yld i H x H)
  (g:∀(A:Around)(i:Nat)(s:Shared)(Q:Value->Shared->Prop)(E:Value->Shared->Prop),m i s.heap->Q (.ref a) s->wpAny (model P w) A (pyIter (.ref a)) Q E s):nU P w K tg J [a] a m where
 mem:=by simp
 obj:=λi h j b hb=>by
  have e:b=a:=by simpa using hb
  subst e;obtain⟨o,p,R,e,_,d,_⟩:=l i h j;exact⟨o,e,λv z=>by rw[d]at z;cases z⟩
 keep:=λi h h' j k=>(C {callerA with handled:=none} rfl).frame i h h' j k
 item:=by intro X F N D u i f s U H E I q j B;subst F N D;obtain⟨L,S,Z,M,r,O⟩:=q a (by simp);refine(C X.A (I.ok.hd u)).item i s _ _ (t i H B) j λv h' tk hv st' kk=> ?_;obtain⟨x,rx,y⟩:=hy i H v hv;have V:Inv X f U H {s with heap:=h',toks:=tk}:=I.turned (λb o hb e=>kk b o (by simpa using hb) e) L S M r O;obtain⟨o,p,R,e,c,d,Y⟩:=l (i+1) h' st';exact⟨_,rfl,oJ (s:={s with heap:=h',toks:=tk}) e c d Y ⟨x,H,V,rx,y,st',λb hb=>(q b hb).1⟩⟩
 done:=by intro X F N D u i f s U H E I q j B;subst F N D;obtain⟨L,S,Z,M,r,O⟩:=q a (by simp);have e:=G i H B;subst e;exact(C X.A (I.ok.hd u)).done s _ _ j λh' tk kk=>⟨rfl,I.turned (λb o hb e=>kk b o (by simpa using hb) e) L S M r O⟩
 self:=g
theorem HE(B:PE X l n):PI X r l (iStr n):=by
 intro a s y H R I h;refine aj (B a s y H _ I h) λv s1 hpq=> ?_;obtain⟨x,j,f,A,w⟩:=hpq;obtain⟨z,rfl,q⟩:=w;obtain⟨t,rfl⟩:=A;have p:∀b∈[s1.heap.objs.size],j8 X a j b:=λb hb=>by
  have e:b=s1.heap.objs.size:=by simpa using hb
  subst e;exact f.fpOk (MJ _) (f.hok.fresh (MJ _))
 have m:∀(i:Nat)(H:Hp)(v:Value),SignAt z i v->∃x,RelV x v/\(Ly z).yld i H x H:=λi H v hv=>by obtain⟨c,u,e,rfl⟩:=hv;exact⟨.str ⟨#[c]⟩,⟨_,rfl⟩,rfl,c,e,rfl⟩
 cases k:z.cps.all (·<128)with
 |false=>
  refine wpAny_pyIter_wide k ?_
  refine⟨s1.heap.objs.size,[s1.heap.objs.size],λi h=>h.IsStrIter s1.heap.objs.size "str_iterator" z t i,Ly z,j,rfl,f.kept (t' :=s1.toks) λb o e=>MD _ e,gS (λA hA=>Walks.strWide hA _ z t) (λi h st=> ?_) (λi H g=>g) (λi H g=>g) m (λA i s Q E st h=>wpAny_pyIter_striter_wide st h),⟨_,MW _ rfl,rfl,rfl⟩,p,q⟩
  obtain⟨o,e,c,d⟩:=st;exact⟨o,_,_,e,c,d,by decide⟩
 |true=>
  refine wpAny_pyIter_ascii k ?_
  refine⟨s1.heap.objs.size,[s1.heap.objs.size],λi h=>h.IsStrIter s1.heap.objs.size "str_ascii_iterator" z t i,Ly z,j,rfl,f.kept (t' :=s1.toks) λb o e=>MD _ e,gS (λA hA=>Walks.strAscii hA _ z t) (λi h st=> ?_) (λi H g=>g) (λi H g=>g) m (λA i s Q E st h=>wpAny_pyIter_striter_ascii st h),⟨_,MW _ rfl,rfl,rfl⟩,p,q⟩
  obtain⟨o,e,c,d⟩:=st;exact⟨o,_,_,e,c,d,by decide⟩
noncomputable def Itc(a c:Int)(n:Nat):It:=⟨λi _=>i<n,λi H x H' =>H' =H/\x=.int (a+i*c),λi _=>i=n⟩
def Kq(a:TA):TI:=λσ H R=>a σ H λvs H1=>∃i j c:Int,vs=[.int i,.int j,.int c]/\c≠0/\c.natAbs<1073741824/\Builtin.Range.small i j c=true/\R (Itc i c (Builtin.Range.rangeSize i j c).toNat) H1
theorem pM(i j c:Int):0<=Builtin.Range.rangeSize i j c:=by
 unfold Builtin.Range.rangeSize
 split
 .split
  .have:=Int.ediv_nonneg (a:=j-i-1) (b:=c) (by omega) (by omega)
   omega
  .exact Pq _
 .split
  .by_cases d:c=0
   .subst d
    simp
   .have:=Int.ediv_nonneg (a:=i-j-1) (b:= -c) (by omega) (by omega)
    omega
  .exact Pq _
theorem ya(D:Gl X "range")(L:X.mg "range"=none)(F:PA X [a,b,c] B)(O:starEach [a,b,c] X.env=(false,eval a X.env)::starEach [b,c] X.env:=by rfl)
  (z:(backTo pos (starEach [b,c] X.env)).any (·.1)=false:=by rfl):PI X G (.Call (.Name "range" p) [a,b,c] [] pos) (Kq B):=by
 intro d s C H R I h;refine Call_ (dF I D L boot_range (NE (aj (F pos d s C H _ I h) λus s1 ⟨vs,H1,I1,r1,q1⟩=> ?_) O z));obtain⟨i,j,k,e,J,x,w,q⟩:=q1;subst e;cases r1 with
 |cons r f=>
  cases f with
  |cons K f=>
   cases f with
   |cons A f=>
    cases f;obtain⟨t,rfl⟩:=r;obtain⟨n,rfl⟩:=K;obtain⟨l,rfl⟩:=A;refine call_range_3 J ?_ (.inl (PyProof.noPylong_small x));refine wpAny_pyIter_range (IsRange.new ..) w ?_;have y:Inv X d C H1 {s1 with heap:=s1.heap.push {cls:=.type "range",data:=.fields #[.int i t,.int j n,.int k l]}}:=I1.kept (t' :=s1.toks) λb o e=>MD _ e
    refine⟨_,[_],_,_,H1,rfl,y.kept (t' :=s1.toks) λb o e=>MD _ e,gS (λA hA=>Walks.range hA _ i k (Builtin.Range.rangeSize i j k).toNat) (λm h st=>⟨_,_,_,st,rfl,rfl,by decide⟩) (λm H g=>g) (λm H g=>g) (λm H v hv=> ?_) (λA m s Q E st h=>wpAny_pyIter_rangeiter st h),?_,λb hb=> ?_,q⟩
    .obtain⟨u,rfl⟩:=hv
     exact⟨.int (i+m*k),⟨_,rfl⟩,rfl,rfl⟩
    .have N:i+((0:Nat):Int)*k=i:=by simp
     have M:(((Builtin.Range.rangeSize i j k).toNat:Nat):Int)-((0:Nat):Int)=Builtin.Range.rangeSize i j k:=by have:=pM i j k;omega
     show IsRangeIter _ _ (i+((0:Nat):Int)*k) ((((Builtin.Range.rangeSize i j k).toNat:Nat):Int)-((0:Nat):Int)) k;rw[N,M];exact MW _ rfl
    .have e:b=(s1.heap.push {cls:=.type "range",data:=.fields #[.int i t,.int j n,.int k l]}).objs.size:=by simpa using hb
     subst e;exact y.fpOk (MJ _) (y.hok.fresh (MJ _))
theorem Inv.drew{fp:List Addr}(I:Inv X pins σ H s)(hf:∀b∈fp,j8 X pins H b)(k:∀b ob,b∉fp->s.heap.get? b=some ob->h'.get? b=some ob)
  (hp:s.heap.objs.size<=p) (new:al X.prog X.w (upd H p o) h' p o):Inv X pins σ (upd H p o) {s with heap:=h',toks:=t'}:=by
 have ne:∀b u,H b=some u->b≠p:=λb u e=>Md (M0 (I.hok.lt e) hp);have nf:∀b u,H b=some u->b∉fp:=λb u e hb=>by rw[(hf b hb).1]at e;cases e
 refine I.step (g' :=s.gens) (d' :=s.drawn) (ch:=fp) (λb hb=>⟨(hf b hb).2.2.2.1,(hf b hb).2.1,(hf b hb).2.2.2.2.1,(hf b hb).2.2.2.2.2⟩) (λb ob _ _ hc e _=>k b ob hc e) (λb ob _ _ hc e _=>⟨ob.slots,k b ob hc e⟩)
  (λb ob hc e n=>by rw[aA (Md (M0 (MY e) hp))];exact n) (λb ob hc e=>⟨ob,k b ob hc e⟩) (λb xs e=>by rw[aA (ne b _ e)];exact e) (λb ob u e=>by rw[aA (ne b _ e)];exact e)
  (λb ps e=>⟨#[],by rw[aA (ne b _ e),e];simp⟩) (λm hm=> ?_) (λb u e=> ?_) I.bare
 .obtain⟨ob,es,ep,ho,r⟩:=hm
  exact⟨ob,es,ep,k _ _ (λhb=>(hf _ hb).2.1 rfl) ho,r⟩
 .by_cases hb:b=p
  .subst hb
   rw[aB]at e;cases e;exact new
  .rw[aA hb]at e
   refine(I.hok b u e).stay (λc v hc q=>k c v ?_ q) (λc q=>by rw[aA (ne c _ q)];exact q) (λc xs q=>by rw[aA (ne c _ q)];exact q)
   rcases hc with rfl|hc
   .exact nf _ _ e
   .exact nf _ _ hc
theorem Inv.drew0{h:List Addr}(I:Inv X d j H s)(g:∀b∈h,j8 X d H b)(k:∀b a,b∉h->s.heap.get? b=some a->i.get? b=some a):
  Inv X d j H {s with heap:=i,toks:=t'}:=by
 have l:∀b u,H b=some u->b∉h:=λb u e hb=>by rw[(g b hb).1]at e;cases e
 refine I.step (g' :=s.gens) (d' :=s.drawn) (ch:=h) (λb hb=>⟨(g b hb).2.2.2.1,(g b hb).2.1,(g b hb).2.2.2.2.1,(g b hb).2.2.2.2.2⟩) (λb a _ _ f e _=>k b a f e) (λb a _ _ f e _=>⟨a.slots,k b a f e⟩)
  (λb a f e n=>n) (λb a f e=>⟨a,k b a f e⟩) (λb xs e=>e) (λb a u e=>e) (λb ps e=>⟨#[],by rw[e];simp⟩) (λm hm=> ?_) (λb u e=> ?_) I.bare
 .obtain⟨a,o,p,m,r⟩:=hm
  exact⟨a,o,p,k _ _ (λhb=>(g _ hb).2.1 rfl) m,r⟩
 .refine(I.hok b u e).stay (λc v f q=>k c v ?_ q) (λc q=>q) (λc xs q=>q)
  rcases f with rfl|f
  .exact l _ _ e
  .exact l _ _ f
noncomputable def Itz(K:W.Frag)(a b:Addr):It:=
  ⟨λi H=>∃d c x y,bQ K H a d/\bQ K H b c/\d[i]? =some x/\c[i]? =some y,λi H v H' =>∃p,H p=none/\v=.ref p/\∀d c x y,bQ K H a d->bQ K H b c->d[i]? =some x->c[i]? =some y->H' =upd H p (.tup [x,y]),λi H=>∃d c,bQ K H a d/\bQ K H b c/\(d.length<=i\/c.length<=i)⟩
def Lj(z e f d c a b:Addr)(i:Nat)(h:Heap):Prop:=IsZip h z e f .none/\IsPair h e (.ref d) (.ref c)/\(∃u v,IsPair h f u v)/\h.IsListIter d a i/\h.IsListIter c b i
theorem AA{P:Program}{w:World}{K:W.Frag}{es:List Expr}{kt:Nat}{F:Pos}{z m r p t a b:Addr}(D:ZipApart z m r p t a b):
  nU P w K (.Tuple es kt F) (Itz K a b) [z,m,r,p,t] z (Lj z m r p t a b) where
 mem:=by simp
 obj:=λi h j c f=>by
  obtain⟨n,d,⟨u,v,g⟩,⟨o1,V,_,d1⟩,⟨o2,S,_,d2⟩⟩:=j;simp only[MP,M9,OP]at f
  rcases f with rfl|rfl|rfl|rfl|rfl
  .exact⟨_,n,λv z=>by cases z⟩
  .exact⟨_,d,λv z=>by cases z⟩
  .exact⟨_,g,λv z=>by cases z⟩
  .exact⟨_,V,λv z=>by rw[d1]at z;cases z⟩
  .exact⟨_,S,λv z=>by rw[d2]at z;cases z⟩
 keep:=λi h h' j k=>by obtain⟨n,d,⟨u,v,g⟩,B,A⟩:=j;exact⟨k z (by simp) _ n,k m (by simp) _ d,⟨u,v,k r (by simp) _ g⟩,B.at λo e=>k p (by simp) o e,A.at λo e=>k t (by simp) o e⟩
 item:=by
  intro X Q hw Z f i l s σ H E I L j O;subst Q hw Z;obtain⟨xs,ys,x,y,M,N,ex,ey⟩:=O;obtain⟨R,T,Y,_⟩:=I.list M;obtain⟨G,rb,U,_⟩:=I.list N;obtain⟨u,eu,ru⟩:=T.get ex;obtain⟨v,ev,rv⟩:=rb.get ey;obtain⟨n,d,⟨u0,v0,g⟩,B,A⟩:=j;refine wpAny_pyNext_zip_item D n d g B A Y.isList U.isList (x:=u) (y:=v) (by simpa using eu) (by simpa using ev) λh' a1 a2 a3 a4 a5 a6 hk=> ?_;refine⟨_,rfl,wpAny_letOwnedTupleGo_zip a1 λh'' hz' hs' => ?_⟩;have C:z<s.heap.objs.size:=MY n;have kk:∀c o,c∉[z,m,r,p,t]->s.heap.get? c=some o->h''.get? c=some o:=λc o f e=>by simp only[MP,M9,OP,Pa]at f;obtain⟨c1,c2,c3,c4,c5⟩:=f;exact(hs'.2 c c1).trans (hk c o c1 c3 c4 c5 e)
  have tI:h''.get? m=some _:=(hs'.2 m D.TIz).trans (hk m _ D.TIz D.TITO D.TIi1 D.TIi2 d);have a0:h''.get? s.heap.objs.size=some {cls:=.type "tuple",data:=.seq #[u,v]}:=(hs'.2 _ (Nd C)).trans a5;have I1:Inv X l σ (upd H s.heap.objs.size (.tup [x,y])) {s with heap:=h''}:=I.drew (t' :=s.toks) L kk (MJ _) ⟨by show 2<=sizeLine;decide,[u,v],.cons ru (.cons rv .nil),⟨_,a0,rfl,_,rfl,rfl⟩⟩;refine⟨.ref s.heap.objs.size,upd H s.heap.objs.size (.tup [x,y]),I1,rfl,⟨s.heap.objs.size,I.hok.fresh (MJ _),rfl,λxs' ys' x' y' sa' sb' ex' ey' => ?_⟩,⟨hz',tI,⟨_,_,(hs'.2 r D.TOz).trans a2⟩,a3.at λo e=>(hs'.2 p D.i1z).trans e,a4.at λo e=>(hs'.2 t D.i2z).trans e⟩,λc f=> ?_⟩
  .have q1:=I.list_inj M sa'
   have q2:=I.list_inj N sb';subst q1 q2;rw[ex]at ex';rw[ey]at ey';cases ex';cases ey';rfl
  .rw[aA ?_]
   .exact(L c f).1
   .intro e
    have lt:c<s.heap.objs.size:=by
     simp only[MP,M9,OP]at f;obtain⟨o1,V,_⟩:=id B;obtain⟨o2,S,_⟩:=id A
     rcases f with rfl|rfl|rfl|rfl|rfl
     .exact C
     .exact MY d
     .exact MY g
     .exact MY V
     .exact MY S
    exact absurd e (Md lt)
 done:=by
  intro X Q hw Z f i l s σ H E I L j O;subst Q hw Z;obtain⟨xs,ys,M,N,J⟩:=O;obtain⟨R,T,Y,_⟩:=I.list M;obtain⟨G,rb,U,_⟩:=I.list N;obtain⟨n,d,⟨u0,v0,g⟩,B,A⟩:=j;have l1:=T.length;have l2:=rb.length;refine wpAny_pyNext_zip_end (I.ok.hd f) D n d g B A Y.isList U.isList ?_ λh' hk=>⟨rfl,I.drew0 (t' :=s.toks) L λc o f e=> ?_⟩
  .rcases J with q|q
   .exact .inl (by simp;omega)
   .exact .inr (by simp;omega)
  .simp only[MP,M9,OP,Pa]at f
   exact hk c o f.1 f.2.2.1 f.2.2.2.1 f.2.2.2.2 e
 self:=λ_ _ _ _ _ j h=>wpAny_pyIter_zip j.1 h
def iZip(K:W.Frag)(e:TA):TI:=λσ H R=>e σ H λvs H1=>∃a b d c,vs=[.ref a,.ref b]/\bQ K H1 a d/\bQ K H1 b c/\R (Itz K a b) H1
theorem HC(x:Gl X "zip")(C:X.mg "zip"=none)(A:PA X [a,b] m)(L:starEach [a,b] X.env=(false,eval a X.env)::starEach [b] X.env:=by rfl)
  (i:(backTo pos (starEach [b] X.env)).any (·.1)=false:=by rfl):PI X (.Tuple J F f) (.Call (.Name "zip" p) [a,b] [] pos) (iZip X.K m):=by
 intro d s n H R I h;refine Call_ (dF I x C boot_zip (NE (aj (A pos d s n H _ I h) λus s1 ⟨vs,H1,I1,r1,q1⟩=> ?_) L i));obtain⟨D,G,Q,O,e,M,E,q⟩:=q1;subst e;obtain⟨u,v,rfl,w,z⟩:=vals2 r1;cases w;cases z;obtain⟨B,N,k,_⟩:=I1.list M;obtain⟨t,P,l,_⟩:=I1.list E;have g:D<s1.heap.objs.size:=by obtain⟨o,e,_⟩:=k.isList;exact MY e
 have j:G<s1.heap.objs.size:=by obtain⟨o,e,_⟩:=l.isList;exact MY e
 refine call_zip_2 k.isList l.isList λh' hz hTI hTO hit1 hit2 hsz hk=> ?_;refine wpAny_pyIter_zip hz ?_;have y:Inv X d n H1 {s1 with heap:=h'}:=I1.kept (t' :=s1.toks) hk;refine⟨s1.heap.objs.size+4,[s1.heap.objs.size+4,s1.heap.objs.size+2,s1.heap.objs.size+3,s1.heap.objs.size,s1.heap.objs.size+1],_,_,H1,rfl,y,AA (zipApart_new g j),⟨hz,hTI,⟨_,_,hTO⟩,hit1,hit2⟩,λc hc=> ?_,q⟩;have r:s1.heap.objs.size<=c:=by
  simp only[MP,M9,OP]at hc
  rcases hc with rfl|rfl|rfl|rfl|rfl<;>omega
 exact I1.fpOk r (I1.hok.fresh r)
theorem A7:dI X (binaryOp .FloorDiv) (rI (λ_ j=>0<j/\j.natAbs.log2<9000) λi j=>.int (i/j)):=Ke λi j _ _ _ _ _ hc q=>by have a:(0:Int)<j:=hc.1;exact floordiv_int (by omega) (by rw[Int.fdiv_eq_ediv_of_nonneg i (by omega)];exact q) (.inl (PyProof.noPylong_of_log2 hc.2))
end
theorem aC.tup{K:W.Frag}{H b:Hp}{a:Addr}{c:List V}(e:aC H b)(h:bg K H a c):bg K b a c:=by
 rcases h with(h|⟨o,h⟩)|h
 .exact .inl (.inl (e _ _ h))
 .exact .inl (.inr ⟨o,e _ _ h⟩)
 .exact .inr h
theorem aG(h:H p=none)(o:HO):aC H (upd H p o):=λb u q=>by rw[aA (aD q h)];exact q
set_option tactic.hygienic true
theorem aC.upd{H H' :Hp}{D:Addr}{o:HO}(e:aC H H')(h:H D=none):aC H (upd H' D o):=fun b u q=>by rw[aA (aD q h)];exact e b u q
noncomputable def cy(z:Str):List V:=z.cps.toList.map λc=>V.str ⟨#[c]⟩
theorem lK(z:Str):(cy z).length=z.length:=by unfold cy;rw[L9,Ml];rfl
noncomputable def intsV(n:Nat):List V:=(List.range n).map λi=>V.int (i:Nat)
section
variable{X:Cx}{N' :List Str}{scope:Scope}{elt:Expr}{σ:St}{H1:Hp}{J:It}{xs:List V}
theorem uL(h:r.length+1=N'.length):
  ((bU (none::r) a).set 0 (some x)).length=N'.length/\∀(j:Nat)(v:V),(bU (none::r) a)[j]? =some (some v)->((bU (none::r) a).set 0 (some x))[j]? =some (some v):=by
 refine⟨by rw[Nm];simp[bU,h],λj v e=> ?_⟩;cases j with
 |zero=>simp[bU]at e|succ j=>simpa [bU]using e
end
structure GD(K:W.Frag)(mg:Str->Option Value)(x:Str)(st:Stmt)(ps:List Str)(f:Addr)(fd:FuncData):Prop where
 fn:Jq K x x st f fd
 nm:mg x=some (.ref f)
 bd:Binds K fd ps []
set_option tactic.hygienic false
theorem KS(b:Gl X x)(a:X.mg x=none)(e:bootBuiltins x=some (.type n))(d:x≠"__name__":=by decide)(c:(x==("__debug__":Str))=false:=by decide):PE X (.Name x pos) (tC (.ty n)):= Dw (v:=.ty n) b a e rfl d c
section
variable{K:W.Frag}
theorem fW(n:String):W.kitOne K (.type n) (.type n)=some true:=by unfold W.kitOne;rw[MF (by simp)]
end
noncomputable def Kj:V->Nat
 | .str z=>z.length|_=>0
def wP(K:W.Frag):Sp:=λvs H Q _=>∃(a:Addr)(b:List Int),vs=[.ref a]/\bQ K H a (b.map V.int)/\b.length<=63/\∀c,Q (.bl true) c
section
variable{κ:Type}[DecidableEq κ]
noncomputable def eG(a:List (κ×V))(k:κ):Option V:=(a.find? λkv=>decide (kv.1=k)).map (·.2)
noncomputable def dA(a:List (κ×V))(k:κ)(v:V):List (κ×V):=
 if(a.any λkv=>decide (kv.1=k))=true then a.map (λkv=>if kv.1=k then(kv.1,v)else kv)else a++[(k,v)]
theorem ku{p:κ×V}(e:p.1=k):eG (p::r) k=some p.2:=by simp[eG,e]
theorem kx{p:κ×V}(e:¬p.1=k):eG (p::r) k=eG r k:=by simp[eG,e]
theorem rB(k:κ):∀a:List (κ×V),(a.any λkv=>decide (kv.1=k))=(eG a k).isSome
 |[]=>rfl|p::r=>by
  rw[Ou]
  by_cases e:p.1=k;simp only[ku e,MO e,Bool.true_or,Option.isSome_some];rw[kx e,MU e,Bool.false_or];exact rB k r
theorem fU(a:List (κ×V))(k:κ)(v:V):(dA a k v).length<=a.length+1:=by
 unfold dA
 split;rw[L9];omega;rw[MT,MK,Ow];omega
theorem j7.isSome_eq(r:j7 o u):o.isSome=u.isSome:=by
 cases o with
 |none=>cases u with
  |none=>rfl|some _=>exact(show False from r).elim
 |some _=>cases u with
  |none=>exact(show False from r).elim|some _=>rfl
theorem j7.getD(r:j7 o u)(b:RelV d a):RelV (o.getD d) (u.getD a):=by
 cases o with
 |none=>cases u with
  |none=>exact b|some _=>exact(show False from r).elim
 |some _=>cases u with
  |none=>exact(show False from r).elim|some _=>exact r
theorem KV.val(r:KV a g)(k:κ):j7 (eG a k) (valueAt g k):=by
 unfold KV at r
 induction r with
 |nil=>exact True.intro| @cons p q l c h t j=>
  obtain⟨f,i⟩:=h
  by_cases e:p.1=k
  .have d:q.1=k:=f.symm.trans e
   have b:valueAt (q::c) k=some q.2:=by simp[valueAt,d]
   rw[ku e,b];exact i
  .have d:¬q.1=k:=λz=>e (f.trans z)
   have b:valueAt (q::c) k=valueAt c k:=by simp[valueAt,d]
   rw[kx e,b];exact j
theorem KV.any(r:KV a b)(k:κ):(a.any λkv=>decide (kv.1=k))=b.any λkv=>decide (kv.1=k):=by
 unfold KV at r
 induction r with
 |nil=>rfl|cons h t c=>rw[Ou,Ou,c,h.1]
theorem KV.repl(r:KV a c)(k:κ)(f:RelV y u):
  KV (a.map λkv=>if kv.1=k then(kv.1,y)else kv) (c.map λkv=>if kv.1=k then(kv.1,u)else kv):=by
 unfold KV at r ⊢
 induction r with
 |nil=>exact .nil| @cons p q j i h t g=>
  rw[MM,MM];refine .cons ?_ g;obtain⟨b,d⟩:=h
  by_cases e:p.1=k;rw[MF e,MF (b.symm.trans e)];exact⟨b,f⟩;rw[ME e,ME (λz=>e (b.trans z))];exact⟨b,d⟩
theorem KV.put(r:KV a b)(k:κ)(c:RelV y u):KV (dA a k y) (stored b k u):=by
 unfold dA stored;rw[r.any k]
 by_cases e:(b.any λkv=>decide (kv.1=k))=true
 .rw[MF e,MF e];exact r.repl k c
 .rw[ME e,ME e];exact Paired.snoc r ⟨rfl,c⟩
theorem KV.length{a:List (κ×V)}(r:KV a b):a.length=b.length:=Pf r
end
theorem oH(r:RelV (kV k) u):(aT P w).is k u=true:=by
 cases k with
 |inl i=>obtain⟨t,e⟩:=(show∃t,u=Value.int i t from r);subst e;exact sf P w i t
 |inr x=>obtain⟨t,e⟩:=(show∃t,u=Value.str x t from r);subst e;exact se P w x t
theorem oI{P:Program}{w:World}:∀{a:List ah}{b:List Value},aR (a.map kV) b->ItemsAre (aT P w) a b
 |[],_,r=>by rw[Nk]at r;cases r;exact .nil|k::a,_,r=>by
  rw[MM]at r;cases r with
  |cons h t=>exact .cons (oH h) (oI t)
abbrev KT(H:Hp):List (List ah×V)->List (List ah×Addr×Value)->Prop:=Paired λp q=>p.1=q.1/\H q.2.1=some (.tup (p.1.map kV))/\RelV p.2 q.2.2
theorem KT.val(r:KT H a g)(k:List ah):j7 (eG a k) ((atKey g k).map (·.2)):=by
 induction r with
 |nil=>exact True.intro| @cons p q l c h t j=>
  obtain⟨f,_,i⟩:=h
  by_cases e:p.1=k
  .have d:q.1=k:=f.symm.trans e
   have b:atKey (q::c) k=some q.2:=by simp[atKey,d]
   rw[ku e,b];exact i
  .have d:¬q.1=k:=λz=>e (f.trans z)
   have b:atKey (q::c) k=atKey c k:=by simp[atKey,d]
   rw[kx e,b];exact j
theorem KT.repl(r:KT H a d)(k:List ah)(g:RelV y u):
  KT H (a.map λkv=>if kv.1=k then(kv.1,y)else kv) (d.map (putAt k u)):=by
 induction r with
 |nil=>exact .nil| @cons p q j l h t i=>
  rw[MM,MM];refine .cons ?_ i;obtain⟨b,c,f⟩:=h;unfold putAt
  by_cases e:p.1=k;rw[MF e,MF (b.symm.trans e)];exact⟨b,c,g⟩;rw[ME e,ME (λz=>e (b.trans z))];exact⟨b,c,f⟩
theorem KT.put(r:KT H a c)(k:List ah)(f:H b=some (.tup (k.map kV)))(d:RelV y u):
  KT H (dA a k y) (storedH c k b u):=by
 have e:(a.any λkv=>decide (kv.1=k))=(atKey c k).isSome:=by rw[rB,(r.val k).isSome_eq,Option.isSome_map]
 unfold dA storedH;rw[e]
 by_cases q:(atKey c k).isSome=true;rw[MF q,MF q];exact r.repl k d;rw[ME q,ME q];exact Paired.snoc r ⟨rfl,f,d⟩
theorem KT.keeps(r:KT H a e)(f:∀b d,H b=some (.tup d)->c b=some (.tup d)):KT c a e:= Paired.mapP r λ_ _ z=>⟨z.1,f _ _ z.2.1,z.2.2⟩
section
variable{P:Program}{w:World}{H:Hp}{h:Heap}{a:Addr}
theorem Fv(b:fo P w H h)(e:Rd H a u):al P w H h a u:=e.ok b
theorem kJ(d:fo P w H h)(e:Rd H a (.dK b)):b.length<=sizeLine/\(a==sysModules)=false/\∃c,KV b c/\h.DictOf (aT P w) a c:= show al P w H h a (.dK b)from Fv d e
theorem CL(d:fo P w H h)(e:H a=some (.dK b)):b.length<=sizeLine/\(a==sysModules)=false/\∃c,KV b c/\h.DictOf (aT P w) a c:=kJ d (.inl e)
theorem jf(i:fo P w H h)(e:H a=some (.tup (b.map kV))):(tupleKind (aT P w)).is h b a:=by obtain⟨_,c,r,o,d,f,n,g,_⟩:=(show al P w H h a (.tup (b.map kV))from i a _ e);exact⟨o,c.toArray,n,d,f,g,by simpa using oI r⟩
theorem oT(g:fo P w H h)(e:Rd H a (.dT b)):b.length<=sizeLine/\(a==sysModules)=false /\ ∃d,KT H b d/\h.DictOfH (tupleKind (aT P w)) a d:=by
 obtain⟨z,y,d,r,o,v,A,n,s,j,u,k⟩:=(show al P w H h a (.dT b)from Fv g e);refine⟨z,y,d,r,o,v,A,n,s,j,u,λx c=> ?_,k⟩;have f:∀{l:List (List ah×V)}{m:List (List ah×Addr×Value)},KT H l m->∀x∈m,(tupleKind (aT P w)).is h x.1 x.2.1:=by
  intro l m q
  induction q with
  |nil=>intro x c;exact nomatch c| @cons p q C D i t B=>
   intro x c
   rcases MP.mp c with e|c
   .subst e
    exact jf g (by rw[<- i.1];exact i.2.1)
   .exact B x c
 exact f r x c
theorem F7(d:fo P w H h)(e:H a=some (.dT b)):b.length<=sizeLine/\(a==sysModules)=false /\ ∃c,KT H b c/\h.DictOfH (tupleKind (aT P w)) a c:=oT d (.inl e)
end
def fJ(H:Hp)(a:Addr)(y:V)(r:Option V):Prop:=
 (∃c k,Rd H a (.dK c)/\y=kV k/\r=eG c k)\/∃c k b,Rd H a (.dT c)/\y=.ref b/\H b=some (.tup (k.map kV))/\r=eG c k
def uS(H:Hp)(a:Addr)(y v:V)(d:Hp):Prop:=
 (∃c k,H a=some (.dK c)/\y=kV k/\c.length<sizeLine/\d =upd H a (.dK (dA c k v))) \/ ∃c k b,H a=some (.dT c)/\y=.ref b/\H b=some (.tup (k.map kV))/\c.length<sizeLine/\d =upd H a (.dT (dA c k v))
theorem fJ.k{k:ah}(e:H a=some (.dK b)):fJ H a (kV k) (eG b k):=.inl ⟨b,k,.inl e,rfl,rfl⟩
theorem fJ.t{k:List ah}(e:H a=some (.dT c))(d:H b=some (.tup (k.map kV))):fJ H a (.ref b) (eG c k):=.inr ⟨c,k,b,.inl e,rfl,d,rfl⟩
theorem uS.k{k:ah}(e:H a=some (.dK b))(c:b.length<sizeLine):uS H a (kV k) v (upd H a (.dK (dA b k v))):=.inl ⟨b,k,e,rfl,c,rfl⟩
theorem uS.t{c:List (List ah×V)}{k:List ah}(e:H a=some (.dT c))(f:H b=some (.tup (k.map kV)))(d:c.length<sizeLine):
  uS H a (.ref b) v (upd H a (.dT (dA c k v))):=.inr ⟨c,k,b,e,rfl,f,d,rfl⟩
section
variable{X:Cx}{pins:List (Addr×Obj)}{σ:St}{H:Hp}{s:Shared}{a:Addr}{y v:V}{u r:Value}{o:Option V}{A:Around}{E:Value->Shared->Prop}
theorem Inv.big(I:Inv X pins σ H s):sysModules<s.heap.objs.size:=by have h:mainGlobals<s.heap.objs.size:=(I.mod.glob.keeps I.bk).lt;exact Oa (by decide) h
theorem zF(B:A.units+1<cLine)(I:Inv X pins σ H s)(g:fJ H a y (some v))(t:RelV y u)(h:∀f x,Inv X pins σ H x ->RelV v f ->Q f x):
  wpAny (model X.prog X.w) A (getItem (.ref a) u) Q E s:=by
 rcases g with⟨m,k,e,j,l⟩|⟨m,k,b,e,j,D,l⟩
 .subst j
  obtain⟨z,G,F,d,n⟩:=kJ I.hok e;obtain⟨f,q,c⟩:=j7.some_of (v:=v) (o:=valueAt F k) (by rw[l];exact d.val k);exact wpAny_getItem_of (oH t) n.mapOf q (h f _ (I.tok _) c)
 .subst j
  cases(show u=Value.ref b from t);obtain⟨z,G,J,d,n⟩:=oT I.hok e;obtain⟨f,q,c⟩:=j7.some_of (v:=v) (o:=(atKey J k).map (·.2)) (by rw[l];exact d.val k);obtain⟨p,C,i⟩:=Option.map_eq_some_iff.mp q;refine wpAny_getItem_heap (Py B) (jf I.hok D) n C ?_;rw[i];exact h f _ (I.tok _) c
theorem Es(p:A.units+1<cLine)(I:Inv X pins σ H s)(g:fJ H a y o)(m:RelV y u)(h:∀n,Inv X pins σ H n ->Q (.bool (!o.isSome)) n):
  wpAny (model X.prog X.w) A (compareOp .NotIn u (.ref a)) Q E s:=by
 rcases g with⟨f,k,e,d,l⟩|⟨f,k,b,e,d,t,l⟩
 .subst d
  obtain⟨z,j,x,c,i⟩:=kJ I.hok e;refine wpAny_notIn_of (oH m) j i.mapOf ?_;rw[<- (c.val k).isSome_eq,<-l];exact h _ (I.tok _)
 .subst d
  cases(show u=Value.ref b from m);obtain⟨z,j,B,c,i⟩:=oT I.hok e;refine wpAny_notIn_heap (Py p) (jf I.hok t) j i ?_;have q:=(c.val k).isSome_eq;rw[Option.isSome_map]at q;rw[<- q,<-l];exact h _ (I.tok _)
theorem kq(I:Inv X pins σ H s)(h:Lr (H a))(j:Heap.SameBut a s.heap c)(i:∃q,c.get? a=some q)(f:al X.prog X.w (upd H a d) c a d):
  Inv X pins σ (upd H a d) {s with heap:=c,toks:=g}:=
 I.write (x:=a) (e:=a) h (.inl rfl) (λb q hb z=>(j.2 b hb).trans z) i f
theorem vY(z:b.length<=sizeLine)(h:(a==sysModules)=false)(c:KV b d)(g:e.DictOf (aT P w) a d):
  al P w f e a (.dK b):=⟨z,h,d,c,g⟩
theorem zE(S:A.units+1<cLine)(I:Inv X pins σ H s)(g:uS H a y v D)(C:RelV y u)(x:RelV v r)(h:∀F,Inv X pins σ D F ->Q () F):
  wpAny (model X.prog X.w) A (setItem (.ref a) u r) Q E s:=by
 rcases g with⟨c,k,e,i,l,j⟩|⟨c,k,b,e,i,B,l,j⟩
 .subst i j
  obtain⟨z,n,N,d,m⟩:=CL I.hok e;have p:N.length<=sizeLine:=by rw[<- d.length];exact z
  have t:(dA c k v).length<=sizeLine:=by have:=fU c k v;omega
  refine wpAny_setItem_pairs (hsz:=p) (oH C) m λh' dd' hs=>h _ ?_;have M:∃q,h'.get? a=some q:=let⟨q,_,_,f,_⟩:=dd';⟨q,f⟩
  exact kq I (by rw[e];exact True.intro) hs M (vY t n (d.put k x) dd')
 .subst i j
  cases(show u=Value.ref b from C);obtain⟨z,n,R,d,m⟩:=F7 I.hok e;have p:R.length<=sizeLine:=by rw[<- Pf d];exact z
  have t:(dA c k v).length<=sizeLine:=by have:=fU c k v;omega
  refine wpAny_setItem_heap (hsz:=p) (Py S) (jf I.hok B) m λh' dd' hs=>h _ ?_;obtain⟨q,O,P,f,L,G,K,_,J⟩:=dd';refine kq I (by rw[e];exact True.intro) hs ⟨q,f⟩ ⟨t,n,_,(d.put k B x).keeps λc ys ec=> ?_,q,O,P,f,L,G,K,J⟩;rw[aA (BM ec e (λz=>nomatch z))];exact ec
end
section
variable{X:Cx}{pins:List (Addr×Obj)}{σ:St}{H:Hp}{s:Shared}{a:Addr}{kvs:List (ah×V)}{k:ah}{u:Value}{A:Around}{E:Value->Shared->Prop}
theorem K8(I:Inv X pins σ H s)(e:Rd H a (.dK kvs))(h:∀t c,Inv X pins σ H c ->Q (.int kvs.length t) c):wpAny (model X.prog X.w) A (call (.builtin "len") [.ref a]) Q E s:=by obtain⟨z,f,g,b,d⟩:=kJ I.hok e;refine call_len_dict f d (by rw[<- b.length];rw[M8]at z;omega) ?_;rw[<- b.length];exact h _ _ (I.tok _)
end
def Lq(i:Expr):Prop:=∀a b,subscripted i false a b=operate [a,b] (getItem a b)
theorem DR
  (l:typeLookup (.type T) "__getitem__"=pure (some (.builtin k))) (j:Lq b)
  (h:wpAny (model a w) A (eval c e) (λo s₁=>wpAny (model a w) A (eval b e) (λi s₂=>s₂.TypeIs o T/\wpAny (model a w) A (getItem o i) Q E s₂) E s₁) E s):
  wpAny (model a w) A (eval (.Subscript c b pos) e) Q E s:=by
 refine Subscript_ (Nj h (λo s₁ h₁=>Nj h₁ (λi s₂ d=> ?_) λ_ _ x=>x) λ_ _ x=>x);obtain⟨g,d⟩:=d;unfold subscriptTail;refine L8 ?_;rw[getitemInPython_of_ne g.not_modules];refine L8 (Of g l ?_);have f:wpAny (model a w) A (subscripted b false o i) (λr s₃=>wpAny (model a w) A (letTemporaryGo c o r >>= λ_=>pure r) Q E s₃) E s₂:=by rw[j o i];exact wpAny_operating (Nj d (λr s₃ h₃=>L8 (wpAny_letTemporaryGo (MC h₃))) λ_ _ x=>x)
 first
  |exact MC (L8 f)
  |exact L8 (MC (L8 f))
  |exact L8 f
theorem tw(I:Inv X c h H s)(g:fJ H a y o):s.TypeIs (.ref a) "dict":=by
 rcases g with⟨f,k,e,_,_⟩|⟨f,k,b,e,_,_,_⟩
 .obtain⟨_,_,i,_,d⟩:=kJ I.hok e
  exact d.typeIs
 .obtain⟨_,_,j,_,d⟩:=oT I.hok e
  exact d.typeIs
def J5(b c:TE):TE:=λσ H Q=>b σ H λx H1=>c σ H1 λy H2=>∃a v,x=.ref a/\fJ H2 a y (some v)/\Q v H2
def DP(c b:TE):TE:=λσ H Q=>c σ H λy H1=>b σ H1 λx H2=>∃a o,x=.ref a/\fJ H2 a y o/\Q (.bl (!o.isSome)) H2
def KI(c d e:TE):TS:=λD σ H=>e σ H λv H1=>c σ H1 λx H2=>d σ H2 λy H3=>∃a b,x=.ref a/\uS H3 a y v b/\D.nx σ b
section
variable{X:Cx}{o i e value:Expr}{pos pos' tpos:Pos}{td ty tv:TE}
theorem pS(q:X.A.units+1<cLine)(l:PE X o td)(n:PE X i ty)(p:Lq i):PE X (.Subscript o i pos) (J5 td ty):=by intro b s d H Q I h;refine DR PySem.F.slot_dict_getitem.lookup p (aj (l b s d H _ I h) λu s1 ⟨x,H1,I1,rx,q1⟩=>aj (n b s1 d H1 _ I1 q1) λiv s2 hpq=> ?_);obtain⟨y,f,c,k,a,v,j,g,m⟩:=hpq;subst j;obtain rfl:u=Value.ref a:=rx;exact⟨tw c g,zF q c g k λw' s3 I3 rw' =>⟨v,f,I3,rw',m⟩⟩
theorem n9(f:X.A.units+1<cLine)(p:PE X i ty)(m:PE X o td):PC X .NotIn i o (DP ty td):=by intro b s c H Q I h;refine aj (p b s c H _ I h) λiv s1 ⟨y,H1,I1,ry,q1⟩=>aj (m b s1 c H1 _ I1 q1) λu s2 hpq=> ?_;obtain⟨x,j,d,n,a,k,l,g,q⟩:=hpq;subst l;obtain rfl:u=Value.ref a:=n;exact Es f d g ry λs3 I3=>⟨.bl (!k.isSome),j,I3,rfl,q⟩
theorem kl(j:X.A.units+1<cLine)(f:PE X o td)(k:PE X i ty)(l:PE X value tv)(d:swapsWith value (some (.Subscript o i pos')) pos.line X.env=pure false):
  PS X (.Assign [.Subscript o i pos'] value pos) (KI td ty tv):=by
 intro b s c H D I h;refine wpAny_Assign_Subscript (aj (l b s c H _ I h) λr s1 ⟨v,H1,I1,rv,q1⟩=>aj (f b s1 c H1 _ I1 q1) λu s2 ⟨x,H2,I2,rx,q2⟩=>aj (k b s2 c H2 _ I2 q2) λiv s3 ⟨y,H3,I3,ry,a,H4,ex,g,q3⟩=> ?_) d;subst ex;obtain rfl:u=Value.ref a:=rx;exact zE j I3 g ry rv λs4 I4=>⟨c,H4,I4,q3⟩
end
theorem tu(h:Heap)(a:sysModules<h.objs.size):al P w H (h.push {cls:=.type "dict",data:=.dict #[]}) h.objs.size (.dK []):= ⟨Mk _,N0.mpr (NZ (Md a)),[],.nil,Heap.DictOf.new h⟩
theorem CK(h:Heap)(a:sysModules<h.objs.size):al P w H (h.push {cls:=.type "dict",data:=.dict #[]}) h.objs.size (.dT []):= ⟨Mk _,N0.mpr (NZ (Md a)),[],.nil,_,#[],0,MW _ rfl,⟨rfl,rfl,rfl⟩,rfl,rfl,List.nodup_nil⟩
def Gb:TE:=λ_ H Q=>∀p,H p=none->Q (.ref p) (upd H p (.dK []))
section
variable{X:Cx}{pos:Pos}
theorem ia:PE X (.Dict [] [] pos) Gb:=λpins s σ H Q I h=>
 wpAny_Dict_empty ⟨.ref s.heap.objs.size,_,I.laid (a:=s.heap.objs.size) (o:=.dK []) (t' :=s.toks) (λ_ _ q=>MD _ q) (MJ _) (tu s.heap I.big),rfl,h _ (I.hok.fresh (MJ _))⟩
end
def ui:List (TE×TE)->St->Hp->(List (V×V)->Hp->Prop)->Prop
 |[],_,H,Q=>Q [] H|(tk,tv)::r,σ,H,Q=>tk σ H λx H1=>tv σ H1 λy H2=>ui r σ H2 λps H3=>Q ((x,y)::ps) H3
abbrev VV:List (V×V)->List (Value×Value)->Prop:=Paired λp q=>RelV p.1 q.1/\RelV p.2 q.2
def PPs(X:Cx)(pos:Pos)(c:List (Option Expr))(a:List Expr)(d:List (TE×TE)):Prop:=
 ∀(b:List (Addr×Obj))(s:Shared)(e:St)(H:Hp)(Q:List (V×V)->Hp->Prop),Inv X b e H s->ui d e H Q -> wpAny (model X.prog X.w) X.A (evalPairs (pairTrees c a X.env pos)) (λvs s' =>∃g f,Inv X b e f s' /\VV g vs/\Q g f) X.xe s
theorem Dm:PPs X pos [] [] []:=λpins s σ H Q I h=>pairTrees_nil_walk ⟨[],H,I,.nil,h⟩
theorem Au(i:PE X k b)(g:PE X v c)(f:PPs X pos e d a):
  PPs X pos (some k::e) (v::d) ((b,c)::a):=λpins s σ H Q I h=>
 pairTrees_cons_walk (aj (i pins s σ H _ I h) λu s1 ⟨x,H1,I1,rx,q1⟩=>aj (g pins s1 σ H1 _ I1 q1) λw2 s2 ⟨y,H2,I2,ry,q2⟩=>aj (f pins s2 σ H2 _ I2 q2) λws s3 ⟨ps,H3,I3,rel,q3⟩=>⟨(x,y)::ps,H3,I3,.cons ⟨rx,ry⟩ rel,q3⟩)
noncomputable def gf(b a:List (ah×V)):List (ah×V):=a.foldl (λacc kv=>dA acc kv.1 kv.2) b
theorem KV.merge:∀{a:List (ah×V)}{d:List (ah×Value)}{b:List (ah×V)}{c:List (ah×Value)},KV a d->KV b c->KV (gf b a) (merged c d):=by
 intro a d b c r;unfold KV at r
 induction r generalizing b c with
 |nil=>intro q;exact q| @cons p q j i h t f=>
  intro g;have e:KV (dA b p.1 p.2) (stored c q.1 q.2):=by have:=g.put p.1 h.2;rw[<- h.1];exact this
  exact f e
theorem gM:∀(b a:List (ah×V)),(gf a b).length<=a.length+b.length
 |[],a=>by show a.length<=a.length+0;omega|p::r,a=>by have c:=gM r (dA a p.1 p.2);have d:=fU a p.1 p.2;show(gf (dA a p.1 p.2) r).length<=_;rw[MK];omega
theorem md{P:Program}{w:World}:∀{d:List (ah×V)}{f:List (Value×Value)},VV (d.map λkv=>(kV kv.1,kv.2)) f->∃e,Carries (aT P w) f e/\KV d e
 |[],_,r=>by rw[Nk]at r;cases r;exact⟨[],True.intro,.nil⟩|p::d,_,r=>by
  rw[MM]at r;cases r with
  | @cons a b j k h t=>obtain⟨e,c,q⟩:=md (P:=P) (w:=w) t;obtain⟨i,g⟩:=b;exact⟨(p.1,g)::e,⟨oH h.1,rfl,c⟩,.cons ⟨rfl,h.2⟩ q⟩
def J4(b:List (TE×TE)):TE:=λσ H Q=>∀p,H p=none->ui b σ (upd H p (.dK [])) λps H2=>H2 p=some (.dK [])/\∃a:List (ah×V),ps=a.map (λkv=>(kV kv.1,kv.2))/\a.length<=15/\Q (.ref p) (upd H2 p (.dK (gf [] a)))
theorem Du(h:PPs X pos b d j)(i:b.all (·.isSome)=true)(F:b.length=d.length)(B:b≠[])
  (k:b.length<=15):PE X (.Dict b d pos) (J4 j):=by
 intro f s r H Q I q;have y:=I.hok.fresh (MJ s.heap.objs.size);have n:=I.laid (a:=s.heap.objs.size) (o:=.dK []) (h' :=s.heap.push {cls:=.type "dict",data:=.dict #[]}) (t' :=s.toks) (λ_ _ q=>MD _ q) (MJ _) (tu s.heap I.big);refine wpAny_Dict_walk (knd:=aT X.prog X.w) i F B k (aj (h f _ r _ _ n (q _ y)) λws s2 hpq=> ?_);obtain⟨L,K,m,l,e,g,E,M,J⟩:=hpq;subst E;obtain⟨G,c,A⟩:=md (P:=X.prog) (w:=X.w) l;obtain⟨z,C,v,p,u⟩:=CL m.hok e;cases p;refine⟨G,c,u,λh' dd' hs=>⟨.ref s.heap.objs.size,_,?_,rfl,J⟩⟩;have D:(gf [] g).length<=sizeLine:=by have t:=gM g [];rw[Ow]at t;rw[M8];omega
 have x:∃q,h'.get? s.heap.objs.size=some q:=let⟨q,_,_,hq,_⟩:=dd';⟨q,hq⟩
 exact kq m (by rw[e];exact True.intro) hs x (vY D C (A.merge .nil) dd')
set_option tactic.hygienic true
structure M1(X:Cx)(o:Expr)(m:Str)(apos:Pos)(e:Expr)(cpos:Pos):Prop where
 base:attributeBase o m X.env (eval o X.env)=eval o X.env
 few:((backTo cpos (starEach [e] X.env)).all (fun x=> !x.1)&&(backToKw cpos (keywordEach [] X.env)).all (fun x=>x.1.isSome)
  && decide (([e]:List Expr).length+([]:List Keyword).length+(if([]:List Keyword).isEmpty then 0 else 1)<30))=true
 line:(apos.endLine==cpos.line)=true
 trees:backTo cpos (starEach [e] X.env)=[(false,eval e X.env)]
structure M2(X:Cx)(o:Expr)(m:Str)(apos:Pos)(e f:Expr)(cpos:Pos):Prop where
 base:attributeBase o m X.env (eval o X.env)=eval o X.env
 few:((backTo cpos (starEach [e,f] X.env)).all (fun x=> !x.1)&&(backToKw cpos (keywordEach [] X.env)).all (fun x=>x.1.isSome)
  && decide (([e,f]:List Expr).length+([]:List Keyword).length+(if([]:List Keyword).isEmpty then 0 else 1)<30))=true
 line:(apos.endLine==cpos.line)=true
 trees:backTo cpos (starEach [e,f] X.env)=[(false,eval e X.env),(false,eval f X.env)]
def IsD(H:Hp)(a:Addr):Prop:=(∃b,Rd H a (.dK b))\/∃b,Rd H a (.dT b)
set_option tactic.hygienic false
theorem IN(I:Inv X g l H s)(d:IsD H a):
  s.TypeIs (.ref a) "dict"/\(∀b,Value.ref a=.ref b->∃c,s.heap.get? b=some c/\c.dict=none)/\(a==sysModules)=false:=by
 rcases d with⟨k,e⟩|⟨k,e⟩
 .obtain⟨_,j,m,_,f⟩:=kJ I.hok e
  refine⟨f.typeIs,λb q=> ?_,j⟩;cases q;obtain⟨c,_,_,h,i,_⟩:=f;exact⟨c,h,i.2.1⟩
 .obtain⟨_,j,n,_,f⟩:=oT I.hok e
  refine⟨f.typeIs,λb q=> ?_,j⟩;cases q;obtain⟨c,_,_,h,i,_⟩:=f;exact⟨c,h,i.2.1⟩
section
variable{X:Cx}{pins:List (Addr×Obj)}{σ:St}{H:Hp}{s:Shared}{a:Addr}{y d:V}{u r:Value}{o:Option V}{A:Around}{E:Value->Shared->Prop}
theorem JD(v:A.units+1<cLine)(I:Inv X pins σ H s)(g:fJ H a y o)(p:RelV y u)(q:RelV d r)(h:∀n t,Inv X pins σ H t ->RelV (o.getD d) n ->Q n t):
  wpAny (model X.prog X.w) A (call (.builtin "dict.get") [.ref a,u,r]) Q E s:=by
 rcases g with⟨j,k,e,i,l⟩|⟨j,k,b,e,i,x,l⟩
 .subst i
  obtain⟨z,m,C,c,f⟩:=kJ I.hok e;refine call_meetsIn PySem.F.slot_dict_get f.typeIs PySem.F.entry_dict_get (PySem.F.args_dict_get_3 _ _ _) (meets_dict_get_default (aT X.prog X.w) a (oH p) m r) ⟨_,f.mapOf,h _ _ (I.tok _) ?_⟩;rw[l];exact(c.val k).getD q
 .subst i
  cases(show u=Value.ref b from p);obtain⟨z,m,B,c,f⟩:=oT I.hok e;refine call_meetsIn PySem.F.slot_dict_get f.typeIs PySem.F.entry_dict_get (PySem.F.args_dict_get_3 _ _ _) (meetsH_dict_get_default (tupleKind (aT X.prog X.w)) a b m r) ⟨Py v,k,B,jf I.hok x,f,h _ _ (I.tok _) ?_⟩;rw[l];exact(c.val k).getD q
end
def Gc(b c d:TE):TE:=λσ H Q=>b σ H λx H1=>∃a,x=.ref a/\IsD H1 a/\c σ H1 λy H2=>d σ H2 λz H3=>∃o,fJ H3 a y o/\Q (o.getD z) H3
section
variable{X:Cx}{o e f:Expr}{apos cpos:Pos}{td ty tx:TE}
theorem sN(w:X.A.units+1<cLine)(q:PE X o td)(p:PE X e ty)(v:PE X f tx)(m:M2 X o "get" apos e f cpos):PE X (.Call (.Attribute o "get" apos) [e,f] [] cpos) (Gc td ty tx):=by
 intro b s c H Q I h;refine wpAny_Call_method m.base m.few m.line PySem.F.plainAttrs_dict PySem.F.slot_dict_get PySem.F.type_dict_get (aj (q b s c H _ I h) λu s1 hpq=> ?_);obtain⟨x,j,i,r,a,n,d,k⟩:=hpq;subst n;obtain rfl:u=Value.ref a:=r;obtain⟨t,l,_⟩:=IN i d;refine⟨t,l,?_⟩;rw[m.trees]
 refine PY rfl (Calls.evalArgs_plain (Calls.spliced_cons (aj (p b s1 c j _ i k) λiv s2 ⟨y,H2,I2,ry,q2⟩=>Calls.spliced_cons (aj (v b s2 c H2 _ I2 q2) λfv s3 ⟨z,H3,I3,rz,ov,g,q3⟩=>Calls.spliced_nil ?_))))
 exact JD w I3 g ry rz λw' s4 I4 rw' =>⟨_,H3,I4,rw',q3⟩
end
section
variable{X:Cx}{pins:List (Addr×Obj)}{σ:St}{H:Hp}{s:Shared}{a:Addr}{kvs:List (ah×V)}{A:Around}{E:Value->Shared->Prop}
theorem CN(I:Inv X pins σ H s)(e:Rd H a (.dK kvs))(h:∀p d,H p=none->Inv X pins σ (upd H p (.dK kvs)) d ->Q (.ref p) d):wpAny (model X.prog X.w) A (call (.type "dict") [.ref a]) Q E s:=by obtain⟨z,g,i,c,f⟩:=kJ I.hok e;refine kt_call_dict g f (by rw[<- c.length];exact z) λh' dd' hs=> ?_;refine h _ _ (I.hok.fresh (MJ _)) (I.laid (a:=s.heap.objs.size) (o:=.dK kvs) (t' :=s.toks) (λb q hq=> ?_) (MJ _) (vY z (N0.mpr (NZ (Md I.big))) c dd'));exact(hs.2 b (Md (MY hq))).trans (MD _ hq)
end
noncomputable def cd(a:List Str)(i j:Nat):Nat:=((a.getD i ⟨#[]⟩).cps.toList).getD j 0
noncomputable def fl(c:Nat):Nat:=if c=120 then 46 else 120
def Wd(a:List Str)(w:Nat):Prop:=∀r∈a,r.length=w
theorem Cc(f:Wd a w)(c:i<a.length)(g:j<w):∃z,a[i]? =some z/\z.cps.toList[j]? =some (cd a i j)/\z.length=w:=by
 have e:a[i]? =some a[i]:=MN c;have d:=f a[i] (OA c);have b:j<a[i].cps.toList.length:=by rw[Ml];show j<a[i].length;omega
 refine⟨a[i],e,?_,d⟩;unfold cd;rw[ML,ML,e,Option.getD_some,MN b,Option.getD_some]
open AutoSeq1 (wpAny_loadPart')
open AutoSeq1 (wpAny_loadPart')
section
variable{X:Cx}
theorem yd:dI X (compareOp .IsNot) (λx y H Q=>∃b c,x=.bl b/\y=.bl c/\Q (.bl (b !=c)) H):=by intro a s f H x y u v Q I d e h;obtain⟨b,c,rfl,rfl,q⟩:=h;cases d;cases e;exact isnot_bool ⟨.bl (b !=c),H,I,rfl,q⟩
end
section
variable{P:Program}{w:World}{A:Around}{E:Value->Shared->Prop}{s:Shared}
theorem Hc(g:s.heap.IsTupleIter b a i)(n:s.heap.IsTuple a c)(j:c[i]? =some v)
  (k:∀f,f.IsTupleIter b a (i+1)->Heap.SameBut b s.heap f ->Q v {s with heap:=f}):wpAny (model P w) A (Builtin.SmallTypes.nextOf (.ref b)) Q E s:=by
 obtain⟨r,e,m,d⟩:=id g;obtain⟨q,h,_,o,l⟩:=n;unfold Builtin.SmallTypes.nextOf;refine L8 (NM (name:=Str.ofString "__next__") g.typeIs F.slot_tuple_iterator_next (Mx F.slot_tuple_iterator_next g.typeIs F.entry_tuple_iterator_next ?_ (F.args_tuple_iterator_next_1 _)));show wpAny _ _ (field (.ref b) 0 >>= λ_=>_) _ _ s;refine L8 (OL e d (x:=.ref a) rfl ?_);show wpAny _ _ (if(Value.ref a==Value.none)=true then _ else _) _ _ s;rw[ME (by exact MI)];show wpAny _ _ (field (.ref b) 1 >>= λ_=>_) _ _ s;refine L8 (OL e d (x:=.int i 0) rfl ?_);show wpAny _ _ (seqItems? (.ref a) >>= λ_=>_) _ _ s;refine L8 (wpAny_seqItems h l ?_);simp only[Na,j];refine L8 (N1 e d (by simp) (MC ⟨v,rfl,MC (k _ ?_ (Nr ..))⟩));exact⟨_,M6 _ e (Nu (NL d _)),(PX ..).trans m,by rw[NL d];simp[rawInt]⟩
theorem vG(j:A.handled=none)(f:s.heap.IsTupleIter b a i)(t:s.heap.IsTuple a c)(n:c[i]? =none)
  (k:∀d e,Heap.ExtBut b s.heap d ->(∃o,d.get? e=some o/\o.cls=.type "StopIteration")->E (.ref e) {s with heap:=d}):wpAny (model P w) A (Builtin.SmallTypes.nextOf (.ref b)) Q E s:=by
 obtain⟨r,h,v,g⟩:=id f;obtain⟨q,l,_,u,p⟩:=t;unfold Builtin.SmallTypes.nextOf;refine L8 (NM (name:=Str.ofString "__next__") f.typeIs F.slot_tuple_iterator_next (Mx F.slot_tuple_iterator_next f.typeIs F.entry_tuple_iterator_next ?_ (F.args_tuple_iterator_next_1 _)));show wpAny _ _ (field (.ref b) 0 >>= λ_=>_) _ _ s;refine L8 (OL h g (x:=.ref a) rfl ?_);show wpAny _ _ (if(Value.ref a==Value.none)=true then _ else _) _ _ s;rw[ME (by exact MI)];show wpAny _ _ (field (.ref b) 1 >>= λ_=>_) _ _ s;refine L8 (OL h g (x:=.int i 0) rfl ?_);show wpAny _ _ (seqItems? (.ref a) >>= λ_=>_) _ _ s;refine L8 (wpAny_seqItems l p ?_);simp only[Na,n];refine L8 (PJ (L8 (N1 h g (by simp) ?_)));show wpAny _ _ (newExc (.type "StopIteration") [] >>= λ_=>_) _ _ _;refine L8 ?_;simp only[newExc,newTuple];refine L8 (M4 ?_ (by size_fits));refine L8 (m:=firstArgMember _ _) (OK (a:=Value.none) (by first|(simp only[firstArgMember];rfl)|rfl) ?_);refine M4 ?_ (by size_fits);simp only[raiseNew];refine L8 (wpAny_handled ?_)
 first|rw[j]|rw[show A.in1.handled=none by exact j]
 refine L8 (MC (wpAny_throw ?_));exact k _ _ (((Nr ..).extBut.push _).push _) ⟨_,MW _ rfl,rfl⟩
end
theorem zD{P:Program}{w:World}{A:Around}(f:A.handled=none)(c a:Addr)(g:a≠c)(b:Array Value):
  Draws P w A c [c,a] b.size (λi v=>b[i]? =some v) (λi h=>h.IsTupleIter c a i/\h.IsTuple a b) where
 live:=λ_ _ st=>by obtain⟨⟨r,d,_⟩,_⟩:=st;exact⟨r,d⟩
 frame:=λ_ _ _ st k=>⟨st.1.at λo e=>k c (by simp) o e,st.2.at λo e=>k a (by simp) o e⟩
 item:=λi s Q E hi st q=>by refine Hc st.1 st.2 (v:=b[i]) (by simp[hi]) λh' t' sb=>q _ h' s.toks (by simp[hi]) ⟨t',st.2.extBut sb.extBut g⟩ sb
 done:=λs Q E st q=>vG f st.1 st.2 (by simp) q
open AutoSeq1 (wpAny_loadPart')
set_option tactic.hygienic true
theorem sg(a:Addr)(b:Array Value)(n:Nat)(l:Option Addr)(j:Array (Option Value)):
  Meets (Builtin.«enumerate.__new__» ⟨[.type "enumerate",.ref a],[]⟩) (λ_ R s=>s.heap.get? a=some {cls:=.type "tuple",dict:=l,data:=.seq b n,slots:=j} /\ R (.ok (.ret (.ref (s.heap.push {cls:=.type "tuple_iterator",data:=.fields #[.ref a,.int 0 0]}).objs.size))) {s with heap:=(s.heap.push {cls:=.type "tuple_iterator",data:=.fields #[.ref a,.int 0 0]}).push {cls:=.type "enumerate",data:=.fields #[.none,.bool false,.ref s.heap.objs.size,rawInt 0,.none,.none]}}):=
 .of_wp λprog w A R s h=>by
  obtain⟨o,g,d,k,m⟩:=s;obtain⟨e,h⟩:=h;have i:=sub_enumerate;have f:Heap.IsTuple (Shared.heap ⟨o,g,d,k,m⟩) a b:=⟨_,e,rfl,n,rfl⟩
  wp_walk using OV e
  refine wpAny_stack_any λ_=>MC ?_
  split
  .rename_i c _ _ _ _ _
   cases(c==Value.type "enumerate")
   .wp_walk using OV e,Px f
    exact⟨_,rfl,h⟩
   .wp_walk using OV e,Px f
    exact⟨_,rfl,h⟩
  .wp_walk using OV e,Px f
   exact⟨_,rfl,h⟩
theorem vp(p:s.heap.IsTuple a d)
  (k:∀e,IsEnum e (s.heap.objs.size+1) s.heap.objs.size 0 .none->e.IsTupleIter s.heap.objs.size a 0->(∀b o,s.heap.get? b=some o->e.get? b=some o)->Q (.ref (s.heap.objs.size+1)) {s with heap:=e}):
  wpAny (model P w) A (call (.type "enumerate") [.ref a]) Q E s:=by
 obtain⟨⟨c,m,r,l⟩,j,f,n,h⟩:=p;simp only at f h;subst f h;refine callType_new F.called_enumerate (by decide) (F.typeCall_enumerate_1 _) (F.newCall_enumerate_1 _) (λob=>F.args_object_init_2 ob _) F.entry_enumerate_new (sg a d n m l) ⟨j,?_⟩;have i:(s.heap.push {cls:=.type "tuple_iterator",data:=.fields #[.ref a,.int 0 0]}).objs.size=s.heap.objs.size+1:=N2 ..;show _/\_;rw[i];have g:IsEnum ((s.heap.push {cls:=.type "tuple_iterator",data:=.fields #[.ref a,.int 0 0]}).push {cls:=.type "enumerate",data:=.fields #[.none,.bool false,.ref s.heap.objs.size,rawInt 0,.none,.none]}) (s.heap.objs.size+1) s.heap.objs.size 0 .none:=by have q:=MW (s.heap.push {cls:=.type "tuple_iterator",data:=.fields #[.ref a,.int 0 0]}) (o:={cls:=.type "enumerate",data:=.fields #[.none,.bool false,.ref s.heap.objs.size,rawInt 0,.none,.none]}) rfl;rw[i]at q;exact q
 exact⟨⟨_,g,rfl⟩,k _ g ⟨_,MD _ (MW _ rfl),rfl,rfl⟩ λb o y=>MD _ (MD _ y)⟩
noncomputable def Jk(b:Hp->List V->Prop):It:=
 ⟨λi H=>∃a x,b H a/\a[i]? =some x,λi H v H' =>∃p,H p=none/\v=.ref p/\∀a x,b H a->a[i]? =some x->H' =upd H p (.tup [.int (i:Nat),x]),λi H=>∃a,b H a/\a.length=i⟩
structure xo(P:Program)(w:World)(K:W.Frag)(src:Hp->List V->Prop)(e it:Addr)(tn:Nat->Heap->Prop):Prop where
 ne:e≠it
 obj:∀i h,tn i h->∃o,h.get? it=some o/\∀v,o.data≠.cell v
 keep:∀i h h',tn i h->(∀o,h.get? it=some o->h'.get? it=some o)->tn i h'
 inj:∀(X:Cx) pins s σ H xs ys,X.K=K->Inv X pins σ H s->src H xs->src H ys->xs=ys
 draws:∀(X:Cx) pins s σ H xs (i:Nat),X.prog=P->X.w=w->X.K=K->X.calm=true->Inv X pins σ H s->src H xs->tn i s.heap->∃(fp:List Addr)(Pw:Nat->Value->Prop)(St:Nat->Heap->Prop),
  Draws P w X.A.in1 it fp xs.length Pw St/\e∉fp/\St i s.heap/\(∀j v x,Pw j v->xs[j]? =some x->RelV x v)/\∀j h,St j h->tn j h
set_option tactic.hygienic false
theorem jT{P:Program}{w:World}{K:W.Frag}{es:List Expr}{kt:Nat}{A:Pos}{t:Hp->List V->Prop}{e m:Addr}{Y:Nat->Heap->Prop}(S:xo P w K t e m Y):
  nU P w K (.Tuple es kt A) (Jk t) [e,m] e (λi h=>(∃b,IsEnum h e m (i:Nat) b)/\Y i h) where
 mem:=by simp
 obj:=λi h g c p=>by
  obtain⟨⟨b,f⟩,j⟩:=g;simp only[MP,M9,OP]at p
  rcases p with rfl|rfl
  .exact⟨_,f,λv z=>by cases z⟩
  .exact S.obj i h j
 keep:=λi h h' g k=>by obtain⟨⟨b,f⟩,j⟩:=g;exact⟨⟨b,k e (by simp) _ f⟩,S.keep i h h' j λo q=>k m (by simp) o q⟩
 item:=by
  intro X C J B p i a s F H E I N g Q;obtain⟨⟨b,f⟩,j⟩:=g;obtain⟨M,x,L,v⟩:=Q;obtain⟨fp,Pw,St,D,r,n,l,d⟩:=S.draws X a s F H M i C J B p I L j;subst C J B;have R:i<M.length:=(MV.mp v).1;have G:e<s.heap.objs.size:=MY f;have O:m<s.heap.objs.size:=by obtain⟨o,U,_⟩:=S.obj i _ j;exact MY U
  refine wpAny_pyNext_enum_itemD D f n R S.ne r λu h' tk hu U hst' hT hsz hk=> ?_;refine⟨_,rfl,wpAny_letOwnedTupleGo_enum U λh'' he' hs' => ?_⟩;have kk:∀c o,c∉[e,m]->s.heap.get? c=some o->h''.get? c=some o:=λc o hc' y=>by simp only[MP,M9,OP,Pa]at hc';exact(hs'.2 c hc'.1).trans (hk c o hc'.1 hc'.2 y)
  have T:h''.get? s.heap.objs.size=some {cls:=.type "tuple",data:=.seq #[.int i tk,u]}:=(hs'.2 _ (Nd G)).trans hT
  have Z:Inv X a F (upd H s.heap.objs.size (.tup [.int (i:Nat),x])) {s with heap:=h'',toks:=tk+1}:=
   I.drew (t' :=tk+1) N kk (MJ _) ⟨by show 2<=sizeLine;decide,[.int i tk,u],.cons ⟨tk,rfl⟩ (.cons (l i u x hu v) .nil),⟨_,T,rfl,_,rfl,rfl⟩⟩
  refine⟨.ref s.heap.objs.size,_,Z,rfl,⟨s.heap.objs.size,I.hok.fresh (MJ _),rfl,λxs' x' hs2 hx2=> ?_⟩,⟨⟨u,by simpa using he'⟩,S.keep _ _ _ (d _ _ hst') λo y=>(hs'.2 m S.ne.symm).trans y⟩,λc hc' => ?_⟩
  .have q:=S.inj X a s F H _ _ rfl I L hs2
   subst q;rw[v]at hx2;cases hx2;rfl
  .rw[aA ?_]
   .exact(N c hc').1
   .simp only[MP,M9,OP]at hc'
    rcases hc' with rfl|rfl
    .exact Md G
    .exact Md O
 done:=by intro X C J B p i a s F H E I N g Q;obtain⟨⟨b,f⟩,j⟩:=g;obtain⟨M,L,v⟩:=Q;obtain⟨fp,Pw,St,D,r,n,l,d⟩:=S.draws X a s F H M i C J B p I L j;subst C J B;subst v;exact wpAny_pyNext_enum_endD D f n λh' hk=>⟨rfl,I.drew0 (t' :=s.toks) N λc o hc' y=>hk c o (by simp only[MP,M9,OP,Pa]at hc';exact hc'.2) y⟩
 self:=λ_ _ _ _ _ g h=>by obtain⟨⟨b,f⟩,_⟩:=g;exact P2 f h
theorem zB{P:Program}{w:World}{K:W.Frag}{a e b:Addr}(f:e≠b)(g:a≠b)(n:a≠e):xo P w K (λH xs=>bg K H a xs) e b (λi h=>h.IsTupleIter b a i) where
 ne:=f
 obj:=λi h st=>by obtain⟨o,t,_,d⟩:=st;exact⟨o,t,λv z=>by rw[d]at z;cases z⟩
 keep:=λi h h' st k=>st.at k
 inj:=λX pins s σ H xs ys hK I f g=>by subst hK;exact I.tuple_inj f g
 draws:=λX pins s σ H xs i hP hw hK hc I hs ht=>by
  subst hP hw hK;obtain⟨c,r,p,_⟩:=I.tuple hs;have l:=r.length;have D:=zD (P:=X.prog) (w:=X.w) (A:=X.A.in1) (I.ok.hd hc) b a g c.toArray;rw[MQ,<-l]at D;refine⟨_,_,_,D,by simp[f,n.symm],⟨ht,p⟩,λj v x hv hx=> ?_,λj h st=>st.1⟩;obtain⟨u,q,m⟩:=r.get hx;have e:c[j]? =some v:=by simpa using hv
  rw[q]at e;cases e;exact m
theorem zC{P:Program}{w:World}{K:W.Frag}{z:Str}{t:Tok}{e a:Addr}(b:e≠a):xo P w K (λ_ xs=>xs=cy z) e a (λi h=>h.IsStrIter a (strIterType z) z t i) where
 ne:=b
 obj:=λi h st=>by obtain⟨o,m,_,d⟩:=st;exact⟨o,m,λv z=>by rw[d]at z;cases z⟩
 keep:=λi h h' st k=>by obtain⟨o,m,r⟩:=st;exact⟨o,k o m,r⟩
 inj:=λX pins s σ H xs ys hK I b h2=>by rw[b,h2]
 draws:=λX pins s σ H xs i hP hw hK hc I hs ht=>by
  subst hP hw hK hs;have l:(cy z).length=z.cps.size:=by rw[lK];rfl
  have f:∀(j:Nat)(v:Value)(x:V),(∃c u,z.cps[j]? =some c/\v=.str ⟨#[c]⟩ u)->(cy z)[j]? =some x->RelV x v:=λj v x hv hx=>by obtain⟨c,u,g,rfl⟩:=hv;unfold cy at hx;rw[MR,Nb,g]at hx;cases hx;exact⟨u,rfl⟩
  rw[l];cases n:z.cps.all (·<128)with
  |true=>
   have e:strIterType z="str_ascii_iterator":=by unfold strIterType;rw[MF n]
   rw[e]at ht ⊢;exact⟨_,_,_,Draws.strAscii (prog:=X.prog) (w:=X.w) (A:=X.A.in1) (I.ok.hd hc) a z t,by simp[b],ht,f,λj h st=>st⟩
  |false=>
   have e:strIterType z="str_iterator":=by unfold strIterType;rw[ME (by rw[n];exact MI)]
   rw[e]at ht ⊢;exact⟨_,_,_,Draws.strWide (prog:=X.prog) (w:=X.w) (A:=X.A.in1) (I.ok.hd hc) a z t,by simp[b],ht,f,λj h st=>st⟩
section
variable{X:Cx}
def IZ(K:W.Frag)(c:TA):TI:=λσ H R=>c σ H λvs H1=>∃a b,vs=[.ref a]/\bg K H1 a b/\R (Jk λH b=>bg K H a b) H1
def Ia(a:TA):TI:=λσ H R=>a σ H λvs H1=>∃z,vs=[.str z]/\R (Jk λ_ xs=>xs=cy z) H1
theorem Ay(n:Gl X "enumerate")(x:X.mg "enumerate"=none)(v:PA X [a] k)(A:starEach [a] X.env=[(false,eval a X.env)]:=by rfl):
  PI X (.Tuple z y d) (.Call (.Name "enumerate" p) [a] [] pos) (IZ X.K k):=by
 intro b s f H R I h;refine Call_ (dF I n x boot_enumerate (NE (aj (v pos b s f H _ I h) λus s1 ⟨vs,H1,I1,r1,q1⟩=> ?_) A rfl));obtain⟨l,C,e,B,q⟩:=q1;subst e;obtain⟨u,rfl,m⟩:=vals1 r1;cases m;obtain⟨w,r,i,_⟩:=I1.tuple B;have j:l<s1.heap.objs.size:=by obtain⟨o,e,_⟩:=id i;exact MY e
 refine vp i λh' he gj hk=> ?_;refine P2 he ?_;have t:Inv X b f H1 {s1 with heap:=h'}:=I1.kept (t' :=s1.toks) hk;refine⟨s1.heap.objs.size+1,[s1.heap.objs.size+1,s1.heap.objs.size],_,_,H1,rfl,t,jT (zB (Nat.succ_ne_self _) (Md j) (Md (NT j))),⟨⟨_,he⟩,gj⟩,λc hc=> ?_,q⟩;have g:s1.heap.objs.size<=c:=by
  simp only[MP,M9,OP]at hc
  rcases hc with rfl|rfl<;>omega
 exact I1.fpOk g (I1.hok.fresh g)
theorem Az(j:Gl X "enumerate")(m:X.mg "enumerate"=none)(l:PA X [a] f)(r:starEach [a] X.env=[(false,eval a X.env)]:=by rfl):
  PI X (.Tuple o n d) (.Call (.Name "enumerate" p) [a] [] pos) (Ia f):=by
 intro b s g H R I h;refine Call_ (dF I j m boot_enumerate (NE (aj (l pos b s g H _ I h) λus s1 ⟨vs,H1,I1,r1,q1⟩=> ?_) r rfl));obtain⟨z,e,q⟩:=q1;subst e;obtain⟨u,rfl,t,rfl⟩:=vals1 r1;refine call_enumerate_str λh' he gj _ hk=> ?_;refine P2 he ?_;have k:Inv X b g H1 {s1 with heap:=h'}:=I1.kept (t' :=s1.toks) hk;refine⟨s1.heap.objs.size+1,[s1.heap.objs.size+1,s1.heap.objs.size],_,_,H1,rfl,k,jT (zC (Nat.succ_ne_self _)),⟨⟨_,he⟩,gj⟩,λc hc=> ?_,q⟩;have i:s1.heap.objs.size<=c:=by
  simp only[MP,M9,OP]at hc
  rcases hc with rfl|rfl<;>omega
 exact I1.fpOk i (I1.hok.fresh i)
theorem B5{src:Hp->List V->Prop}{b:List V}{g:TG}{l:TS}{D:cq}{a:St}{H:Hp}(c:Nat->St->Hp->Prop)(u:c 0 a H)(q:∀i a H,i<=b.length->c i a H->src H b)
  (o:∀i x p a H,b[i]? =some x->H p=none->c i a H->g (.ref p) a (upd H p (.tup [.int (i:Nat),x])) λσ2 H2=>l {D with nx:=c (i+1),ct:=c (i+1),bk:=D.nx} σ2 H2) (v:∀a H,c b.length a H->D.nx a H):
  ∃W:Nat->Nat->St->Hp->Prop,(∃m,W 0 m a H)/\∀i m a H,W i m a H -> ((Jk src).stop i H/\D.nx a H)\/((Jk src).go i H/\∃N:St->Hp->Prop,(∀h d,N h d ->∃n,n <m/\W (i+1) n h d)/\∀x d,(Jk src).yld i H x d ->g x a d λσ2 H2=>l {D with nx:=N,ct:=N,bk:=D.nx} σ2 H2):=by
 refine⟨λi m a H=>m=b.length-i/\i<=b.length/\c i a H,⟨b.length,by simp,Mk _,u⟩,?_⟩;rintro i m a H ⟨rfl,t,p⟩;have j:=q i a H t p
 by_cases f:i<b.length
 .have k:b[i]? =some b[i]:=by simp[f]
  refine .inr ⟨⟨b,_,j,k⟩,c (i+1),λσ' d p' =>⟨b.length-(i+1),by omega,rfl,f,p'⟩,λx d y=> ?_⟩;obtain⟨r,s,rfl,y⟩:=y;have e:=y b _ j k;subst e;exact o i _ r a H k s p
 .have e:i=b.length:=by omega
  subst e;exact .inl ⟨⟨b,j,rfl⟩,v a H p⟩
theorem j9{a:List Int}{i:Nat}(r:aR (a.map V.int) b)(h:b[i]? =some v):∃t,v=.int (a.getD i 0) t:=by have d:=r.length;rw[L9]at d;have g:i<b.length:=(MV.mp h).1;obtain⟨u,f,c⟩:=r.get (i:=i) (x:=.int (a[i]'(by omega))) (by simp[show i<a.length by omega]);rw[f]at h;cases h;obtain⟨t,e⟩:=c;refine⟨t,?_⟩;rw[e];simp[List.getD,show i<a.length by omega]
theorem kF(a:List Int):∀k,k<=a.length->preSum (λi=>a.getD i 0) k=(a.take k).sum
 |0,_=>by simp[preSum]|k+1,h=>by
  have e:a.take (k+1)=a.take k++[a[k]'(by omega)]:=by rw[OQ];simp[show k<a.length by omega]
  rw[preSum,kF a k (by omega),e,List.sum_append];simp[List.getD,show k<a.length by omega]
theorem nR(hc:X.calm=true):bS X (.builtin "sum") (λxs H Q=>∃(p:Addr)(ns:List Int),xs=[.ref p]/\bQ X.K H p (ns.map V.int)/\Q (.int ns.sum) H):=by
 intro pins s σ H xs us Q I r h;obtain⟨p,ns,rfl,hq,q⟩:=h;obtain⟨u,rfl,rx⟩:=vals1 r;cases rx;obtain⟨its,r',pl,hz⟩:=I.list hq;have hlen:=r'.length;rw[L9]at hlen;have hp:p<s.heap.objs.size:=by obtain⟨o,e,_⟩:=pl.isList;exact MY e
 refine call_sum_walkAnyS (P0 pl.isList ?_);refine⟨s.heap.objs.size,_,_,_,its.toArray.size,_,_,(λi=>ns.getD i 0),rfl,(Walks.list (A:=X.A.in1) (I.ok.hd hc) s.heap.objs.size p (Md hp) its.toArray).toS,⟨⟨_,MW _ rfl,rfl,rfl⟩,pl.isList.push _⟩,?_,?_,?_⟩
 .intro b hb
  simp at hb
  rcases hb with rfl|rfl
  .rw[size_push'];exact Nat.lt_succ_self _
  .rw[size_push'];exact NT hp
 .intro i v hv
  exact j9 r' (by simpa using hv)
 .intro s' t' hm
  obtain⟨m1,m2,m3,m4,m5⟩:=hm;have e:s' ={s with heap:=s'.heap,toks:=s'.toks}:=by cases s';simp only at m2 m3 m4;subst m2 m3 m4;rfl
  rw[e];refine⟨.int ns.sum,H,I.kept (t' :=s'.toks) (λb o z=>m1 b o (by simpa using Md (MY z)) (MD _ z)),⟨t',?_⟩,q⟩;rw[MQ,<-hlen,kF ns _ (MJ _),Nf]
theorem cX:∀{b:List Value}{a:List Int},IntsAre b a->aR (a.map V.int) b
 |_,_,.nil=>.nil|_,_,.cons n t r=>.cons ⟨t,rfl⟩ (cX r)
noncomputable def sortI(c:List Int):List Int:=c.mergeSort (λa b=>decide (a<=b))
theorem sortI_perm(a:List Int):(sortI a).Perm a:=List.mergeSort_perm _ _
theorem rR(d:List Int):(sortI d).Pairwise (·<=·):=by have:=List.pairwise_mergeSort (le:=λa b:Int=>decide (a<=b)) (λa b c h1 h2=>by simp at *;omega) (λa b=>by simp;omega) d;exact this.imp λh=>by simpa using h
theorem iM(h:c.Perm a)(s:c.Pairwise (·<=·)):c=sortI a:= Pu (le:=(·<=·)) (λa b _ _ h1 h2=>Int.le_antisymm h1 h2) s (rR a) (h.trans (sortI_perm a).symm)
theorem jr:bS X (.builtin "sorted") (λxs H Q=>∃(p:Addr)(ns:List Int),xs=[.ref p]/\bQ X.K H p (ns.map V.int)/\ns.length<64/\∀a,H a=none->Q (.ref a) (upd H a (.lst ((sortI ns).map V.int)))):=by intro pins s σ H xs us Q I r h;obtain⟨p,ns,rfl,hq,h64,q⟩:=h;obtain⟨u,rfl,rx⟩:=vals1 r;cases rx;obtain⟨its,r',pl,hz⟩:=I.list hq;have hlen:=r'.length;rw[L9]at hlen;refine sorted_ints pl.isList (intsAre_of r') (by omega) λout ns' a1 a2 a3=> ?_;have e:=iM a2 a3;subst e;obtain⟨c,hc⟩:=sortedAll_at s.heap its out;refine⟨.ref (s.heap.objs.size+1),_,I.laid (t' :=s.toks) (o:=.lst ((sortI ns).map V.int)) (λb o z=>sortedAll_old z) (Oh _) ?_,rfl,q _ (I.hok.fresh (Oh _))⟩;refine⟨?_,out.toList,c,cX a1,by simpa [seqObj]using hc⟩;rw[L9,(sortI_perm ns).length_eq];have:=M8;omega
theorem vX{P:Program}{w:World}{K:W.Frag}{a e b:Addr}(f:e≠b)(g:a≠b)(n:a≠e):xo P w K (λH xs=>bQ K H a xs) e b (λi h=>h.IsListIter b a i) where
 ne:=f
 obj:=λi h st=>by obtain⟨o,t,_,d⟩:=st;exact⟨o,t,λv z=>by rw[d]at z;cases z⟩
 keep:=λi h h' st k=>st.at k
 inj:=λX pins s σ H xs ys hK I f g=>by subst hK;exact I.list_inj f g
 draws:=λX pins s σ H xs i hP hw hK hc I hs ht=>by
  subst hP hw hK;obtain⟨c,r,p,_⟩:=I.list hs;have l:=r.length;have D:=Draws.list (prog:=X.prog) (w:=X.w) (A:=X.A.in1) (I.ok.hd hc) b a g c.toArray;rw[MQ,<-l]at D;refine⟨_,_,_,D,by simp[f,n.symm],⟨ht,p.isList⟩,λj v x hv hx=> ?_,λj h st=>st.1⟩;obtain⟨u,q,m⟩:=r.get hx;have e:c[j]? =some v:=by simpa using hv
  rw[q]at e;cases e;exact m
def Ib(K:W.Frag)(c:TA):TI:=λσ H R=>c σ H λvs H1=>∃a b,vs=[.ref a]/\bQ K H1 a b/\R (Jk λH b=>bQ K H a b) H1
theorem sM(n:Gl X "enumerate")(x:X.mg "enumerate"=none)(v:PA X [a] k)(A:starEach [a] X.env=[(false,eval a X.env)]:=by rfl):
  PI X (.Tuple z y d) (.Call (.Name "enumerate" p) [a] [] pos) (Ib X.K k):=by
 intro b s f H R I h;refine Call_ (dF I n x boot_enumerate (NE (aj (v pos b s f H _ I h) λus s1 ⟨vs,H1,I1,r1,q1⟩=> ?_) A rfl));obtain⟨l,C,e,B,q⟩:=q1;subst e;obtain⟨u,rfl,m⟩:=vals1 r1;cases m;obtain⟨w,r,i,_⟩:=I1.list B;have j:l<s1.heap.objs.size:=by obtain⟨o,e,_⟩:=i.isList;exact MY e
 refine call_enumerate_list i.isList λh' he gj hl hk=> ?_;refine P2 he ?_;have t:Inv X b f H1 {s1 with heap:=h'}:=I1.kept (t' :=s1.toks) hk;refine⟨s1.heap.objs.size+1,[s1.heap.objs.size+1,s1.heap.objs.size],_,_,H1,rfl,t,jT (vX (Nat.succ_ne_self _) (Md j) (Md (NT j))),⟨⟨_,he⟩,gj⟩,λc hc=> ?_,q⟩;have g:s1.heap.objs.size<=c:=by
  simp only[MP,M9,OP]at hc
  rcases hc with rfl|rfl<;>omega
 exact I1.fpOk g (I1.hok.fresh g)
def Cy(i j:Int):Prop:=i.natAbs<2^2000/\j.natAbs<2^2000
theorem intBits_le(h:k.natAbs<2^2000):Builtin.Int.intBits k<=2000:=by
 unfold Builtin.Int.intBits
 split;exact Mk _
 .have:k.natAbs.log2<2000:=by
   rcases Nat.eq_zero_or_pos k.natAbs with b|a
   .rw[b];decide
   .exact(Nat.log2_lt (Nd a)).mpr h
  omega
theorem Cy.ok(h:Cy i j):IntMulOk i j:=by
 unfold IntMulOk;have h1:=intBits_le h.1;have h2:=intBits_le h.2;have h3:Builtin.Int.intTooBig (Builtin.Int.intBits i+Builtin.Int.intBits j)=false:=by
  unfold Builtin.Int.intTooBig;have:((4000:Nat):Int)<=(bitsLine:Nat):=by decide
  exact MU (by omega)
 rw[h3];simp
theorem Dy:dI X (binaryOp .Mult) (rI Cy λi j=>.int (i*j)):=Ke λ_ _ _ _ _ _ _ hc q=>mul_int q hc.ok
theorem vm:bS X (.builtin "len") (λxs H Q=>∃a kvs,xs=[V.ref a]/\Rd H a (.dK kvs)/\Q (.int kvs.length) H):=by intro pins s σ H xs us Q I r h;obtain⟨a,kvs,rfl,ha,q⟩:=h;obtain⟨u,rfl,ru⟩:=vals1 r;cases ru;exact K8 I ha λt s' I' =>⟨.int kvs.length,H,I',⟨t,rfl⟩,q⟩
theorem uG:bS X (.type "dict") (λxs H Q=>∃a kvs,xs=[V.ref a]/\Rd H a (.dK kvs)/\∀p,H p=none->Q (.ref p) (upd H p (.dK kvs))):=by intro pins s σ H xs us Q I r h;obtain⟨a,kvs,rfl,ha,q⟩:=h;obtain⟨u,rfl,ru⟩:=vals1 r;cases ru;exact CN I ha λp s' hp I' =>⟨.ref p,_,I',rfl,q p hp⟩
theorem Inv.known(I:Inv X f k H s)(d:H a=some (.dK g))(v:s.heap.get? a=some o):Inv X f k (upd H a (.frz o (.dK g))) s:=by
 have i:∀b h,H b=some (.tup h)->upd H a (.frz o (.dK g)) b=some (.tup h):=λb h e=>by rw[aA (λz=>by subst z;rw[d]at e;cases e)];exact e
 refine⟨I.ok,I.os,I.bare,⟨I.base.keep,I.base.slot,λb ob e n hx=> ?_,I.base.there,λb h e=>i b h (I.base.tups b h e),λb ob u e=> ?_,λb ps e=> ?_⟩,I.loc,I.cell,?_,λx c e=> ?_,λp hp=> ?_,λb u e=> ?_,I.len⟩
 .have:=I.base.free b ob e n hx
  rw[aA (λz=>by subst z;rw[d]at this;cases this)];exact this
 .have:=I.base.frzs b ob u e
  rw[aA (λz=>by subst z;rw[d]at this;cases this)];exact this
 .obtain⟨m,e⟩:=I.base.tbls b ps e
  exact⟨m,by rw[aA (λz=>by subst z;rw[d]at e;cases e)];exact e⟩
 .rw[aA (λz=>by have:=I.free;rw[z,d]at this;cases this)]
  exact I.free
 .have:=I.freeC x c e
  rw[aA (λz=>by rw[z,d]at this;cases this)];exact this
 .obtain⟨t,j,r⟩:=I.pin p hp
  exact⟨t,by rw[aA (λz=>by rw[z,d]at j;cases j)];exact j,r⟩
 .by_cases l:b=a
  .subst l
   rw[aB]at e;cases e;refine⟨v,?_⟩;exact(I.hok b _ d).stay (λ_ _ _ q=>q) (λc q=>by rw[aA (λz=>by subst z;rw[d]at q;cases q)];exact q) i
  .rw[aA l]at e
   exact(I.hok b u e).stay (λ_ _ _ q=>q) (λc q=>by rw[aA (λz=>by subst z;rw[d]at q;cases q)];exact q) i
def NF(X:Cx)(a:Addr):Prop:=∀o u,X.H₀ a≠some (.frz o u)
theorem Inv.nf(I:Inv X b d H s)(f:H a=some (.dK c)):NF X a:=λo u e=>by have:=I.base.frzs a o u e;rw[f]at this;cases this
theorem Inv.unknown(I:Inv X f k H s)(v:NF X a)(d:H a=some (.frz o (.dK g))):Inv X f k (upd H a (.dK g)) s:=by
 have i:∀b h,H b=some (.tup h)->upd H a (.dK g) b=some (.tup h):=λb h e=>by rw[aA (λz=>by subst z;rw[d]at e;cases e)];exact e
 refine⟨I.ok,I.os,I.bare,⟨I.base.keep,I.base.slot,λb ob e n hx=> ?_,I.base.there,λb h e=>i b h (I.base.tups b h e),λb ob u e=> ?_,λb ps e=> ?_⟩,I.loc,I.cell,?_,λx c e=> ?_,λp hp=> ?_,λb u e=> ?_,I.len⟩
 .have:=I.base.free b ob e n hx
  rw[aA (λz=>by subst z;rw[d]at this;cases this)];exact this
 .have:=I.base.frzs b ob u e
  rw[aA (λz=>by subst z;exact v _ _ e)];exact this
 .obtain⟨m,e⟩:=I.base.tbls b ps e
  exact⟨m,by rw[aA (λz=>by subst z;rw[d]at e;cases e)];exact e⟩
 .rw[aA (λz=>by have:=I.free;rw[z,d]at this;cases this)]
  exact I.free
 .have:=I.freeC x c e
  rw[aA (λz=>by rw[z,d]at this;cases this)];exact this
 .obtain⟨t,j,r⟩:=I.pin p hp
  exact⟨t,by rw[aA (λz=>by rw[z,d]at j;cases j)];exact j,r⟩
 .by_cases l:b=a
  .subst l
   rw[aB]at e;cases e;exact(I.hok b _ d).2.stay (λ_ _ _ q=>q) (λc q=>by rw[aA (λz=>by subst z;rw[d]at q;cases q)];exact q) i
  .rw[aA l]at e
   exact(I.hok b u e).stay (λ_ _ _ q=>q) (λc q=>by rw[aA (λz=>by subst z;rw[d]at q;cases q)];exact q) i
noncomputable def L3(a:Addr)(o:Obj)(b:List (ah×V)):It:=
 ⟨λi H=>H a=some (.frz o (.dK b))/\i<b.length,λi H v H' =>∃p,H p=none/\v=.ref p/\∀k x,b[i]? =some (k,x)->H' =upd H p (.tup [kV k,x]),λi H=>H a=some (.frz o (.dK b))/\i=b.length⟩
theorem IJ(h:(aT P w).is k v=true):RelV (kV k) v:=by
 cases k with
 |inl i=>obtain⟨t,e⟩:=Value.isInt_shape h;exact⟨t,e⟩
 |inr z=>obtain⟨t,e⟩:=Value.isStrOf_shape h;exact⟨t,e⟩
theorem gI:entryFor table "dict_itemiterator.__iter__"=some Builtin.«dict_keyiterator.__iter__» := entryFor_alias (id' :="dict_keyiterator.__iter__") (by kernel_rfl) rfl (by decide +kernel) (by kernel_rfl)
set_option tactic.hygienic true
theorem ud{P:Program}{w:World}{K:W.Frag}{es:List Expr}{kt:Nat}{G:Pos}{a f:Addr}{o:Obj}{d:List (ah×V)}{j:List (ah×Value)}{M:Nat}{h0:Heap}(a0:a≠f)(C:KV d j)(J:h0.DictAt (aT P w) a j M)(ho:h0.get? a=some o):
  nU P w K (.Tuple es kt G) (L3 a o d) [f] f (λi h=>∃u A,IsItemIter h f a i j.length M u A) where
 mem:=by simp
 obj:=λi h m b hb=>by
  have e:b=f:=by simpa using hb
  subst e;obtain⟨u,A,e⟩:=m;exact⟨_,e,λv z=>by cases z⟩
 keep:=λi h h' m k=>by obtain⟨u,A,e⟩:=m;exact⟨u,A,k f (by simp) _ e⟩
 item:=by
  intro X T Z S hc i n s σ H E I L m N;subst T Z S;obtain⟨B,R⟩:=N;obtain⟨u,A,p⟩:=m;have O:s.heap.get? a=some o:=(I.hok a _ B).1;have g:s.heap.DictAt (aT X.prog X.w) a j M:=J.at' λo' e=>by rw[ho]at e;cases e;exact O
  have hl:d.length=j.length:=C.length;obtain⟨⟨k,x⟩,hx⟩:∃q,d[i]? =some q:=⟨d[i],by simp[R]⟩;have U:∀{d:List (ah×V)}{j:List (ah×Value)}{i:Nat}{q:ah×V},KV d j->d[i]? =some q->∃v,j[i]? =some (q.1,v)/\RelV q.2 v:=by
   intro d j i q r
   induction r generalizing i with
   |nil=>intro e;simp at e|cons a t ih=>
    intro e;cases i with
    |zero=>simp at e;subst e;rename_i c _ _;exact⟨c.2,by simp[a.1],a.2⟩
    |succ i=>simpa using ih (by simpa using e)
  obtain⟨v,hv,rv⟩:=U C hx;have D:f<s.heap.objs.size:=MY p;refine wpAny_pyNext_items_item p g hv λkv h' hkey hout hT hsz hk=> ?_;refine⟨_,rfl,wpAny_letOwnedTupleGo_items (s:={s with heap:=h'}) hout λh'' he' hs' => ?_⟩;have kk:∀c o,c∉[f]->s.heap.get? c=some o->h''.get? c=some o:=λc o hc' y=>by
   have l:c≠f:=by simpa using hc'
   exact(hs'.2 c l).trans (hk c o l y)
  have Y:h''.get? s.heap.objs.size=some {cls:=.type "tuple",data:=.seq #[kv,v]}:=(hs'.2 _ (Nd D)).trans hT
  have I1:Inv X n σ (upd H s.heap.objs.size (.tup [kV k,x])) {s with heap:=h''}:=
   I.drew (t' :=s.toks) L kk (MJ _) ⟨by show 2<=sizeLine;decide,[kv,v],.cons (IJ hkey) (.cons rv .nil),⟨_,Y,rfl,_,rfl,rfl⟩⟩
  refine⟨.ref s.heap.objs.size,_,I1,rfl,⟨s.heap.objs.size,I.hok.fresh (MJ _),rfl,λk' x' hx' => ?_⟩,⟨_,_,he'⟩,λc hc' => ?_⟩
  .rw[hx]at hx'
   cases hx';rfl
  .have l:c=f:=by simpa using hc'
   subst l;rw[aA (Md D)];exact(L c (by simp)).1
 done:=by
  intro X T Z S hc i n s σ H E I L m N;subst T Z S;obtain⟨B,rfl⟩:=N;obtain⟨u,A,p⟩:=m;have O:s.heap.get? a=some o:=(I.hok a _ B).1;have g:s.heap.DictAt (aT X.prog X.w) a j M:=J.at' λo' e=>by rw[ho]at e;cases e;exact O
  have hl:d.length=j.length:=C.length;exact wpAny_pyNext_items_end (I.ok.hd hc) p g (by rw[hl];simp) λh' hk=>⟨rfl,I.drew0 (t' :=s.toks) L λc o hc' y=>hk c o (by simpa using hc') y⟩
 self:=λA i s Q E m h=>by obtain⟨u,A,p⟩:=m;refine On ⟨_,p,rfl⟩ PySem.F.slot_dict_itemiterator_iter (Mx PySem.F.slot_dict_itemiterator_iter ⟨_,p,rfl⟩ gI ?_ (PySem.F.args_dict_itemiterator_iter_1 _));show wpAny _ _ (ret (.ref f)) _ _ s;exact MC ⟨_,rfl,"dict_itemiterator",_,⟨_,p,rfl⟩,PySem.F.slot_dict_itemiterator_next.lookup,h⟩
def IY(X:Cx)(c:TE):TI:=λσ H R=>c σ H λx H1=>∃a b,x=.ref a/\H1 a=some (.dK b)/\∀o,NF X a->R (L3 a o b) (upd H1 a (.frz o (.dK b)))
set_option tactic.hygienic false
theorem sZ(Q:PE X o G)(i:attributeBase o "items" X.env (eval o X.env)=eval o X.env:=by rfl)(j:(g.endLine==f.line)=true:=by rfl):
  PI X (.Tuple U T k) (.Call (.Attribute o "items" g) [] [] f) (IY X G):=by
 intro d s D H R I h;refine wpAny_Call_method0_late i j (aj (Q d s D H _ I h) λv s1 hpq=> ?_);obtain⟨x,N,p,S,O⟩:=hpq;obtain⟨a,L,rfl,t,q⟩:=O;cases S;obtain⟨z,V,C,B,n⟩:=CL p.hok t;obtain⟨J,A⟩:=n.dictAt;obtain⟨m,M,b,y,_⟩:=id A;refine⟨"dict","dict.items",PySem.F.plainAttrs_dict,PySem.F.slot_dict_items,PySem.F.type_dict_items,n.typeIs,λb e=> ?_,PY rfl (PySem.evalArgs_none ?_)⟩
 .cases e
  exact⟨m,b,y.2.1⟩
 refine call_meetsIn PySem.F.slot_dict_items n.typeIs PySem.F.entry_dict_items (PySem.F.args_dict_items_1 _) (meets_dict_items (aT X.prog X.w) a V) ⟨⟨C,n⟩,?_⟩;have r:Inv X d D N {s1 with heap:=s1.heap.push {cls:=.type "dict_items",data:=.fields #[.ref a]}}:=p.kept (t' :=s1.toks) λb u e=>MD _ e;have v:=A.push {cls:=.type "dict_items",data:=.fields #[.ref a]};refine wpAny_pyIter_items ⟨_,MW _ rfl,rfl,rfl⟩ v ?_;have E:a<s1.heap.objs.size:=MY b;have P:=r.kept (t' :=s1.toks) (h' :=(s1.heap.push {cls:=.type "dict_items",data:=.fields #[.ref a]}).push {cls:=.type "dict_itemiterator",data:=.fields #[.none,.bool false,.ref a,.int 0 0,.int C.length 0,.int J 0,.none,.none]}) λb u e=>MD _ e;have l:((s1.heap.push {cls:=.type "dict_items",data:=.fields #[.ref a]}).push {cls:=.type "dict_itemiterator",data:=.fields #[.none,.bool false,.ref a,.int 0 0,.int C.length 0,.int J 0,.none,.none]}).get? a=some m:=MD _ (MD _ b);have K:=P.known t l;refine⟨(s1.heap.push {cls:=.type "dict_items",data:=.fields #[.ref a]}).objs.size,[(s1.heap.push {cls:=.type "dict_items",data:=.fields #[.ref a]}).objs.size],_,_,_,rfl,K,ud (o:=m) (h0:=s1.heap) (Md (by rw[size_push'];exact NT E)) B A b,⟨_,_,MW _ rfl⟩,λc hc=> ?_,q m (p.nf t)⟩;have e:c=(s1.heap.push {cls:=.type "dict_items",data:=.fields #[.ref a]}).objs.size:=by simpa using hc
 subst e;refine(r.fpOk (MJ _) ?_);rw[aA (Nd (by rw[size_push'];exact NT E))];exact r.hok.fresh (MJ _)
noncomputable def thaw(X:Cx)(D:cq):cq where
 nx:=λσ H=>∃a o b,H a=some (.frz o (.dK b))/\NF X a/\D.nx σ (upd H a (.dK b))
 bk:=λσ H=>∃a o b,H a=some (.frz o (.dK b))/\NF X a/\D.bk σ (upd H a (.dK b))
 ct:=λσ H=>∃a o b,H a=some (.frz o (.dK b))/\NF X a/\D.ct σ (upd H a (.dK b))
 rt:=λv H=>∃a o b,H a=some (.frz o (.dK b))/\NF X a/\D.rt v (upd H a (.dK b))
theorem Dj(h:PS X l t):PS X l (λD j H=>t (thaw X D) j H):=by
 intro i s j H D I n;refine aj (h i s j H _ I n) λf s1 q=> ?_;cases f with
 |next=>obtain⟨b,k,e,a,o,c,d,g,q⟩:=q;exact⟨b,_,e.unknown g d,q⟩
 |brk=>obtain⟨b,k,e,a,o,c,d,g,q⟩:=q;exact⟨b,_,e.unknown g d,q⟩
 |cont=>obtain⟨b,k,e,a,o,c,d,g,q⟩:=q;exact⟨b,_,e.unknown g d,q⟩
 |ret v=>obtain⟨b,x,k,e,m,a,o,c,d,g,q⟩:=q;exact⟨b,x,_,e.unknown g d,m,q⟩
theorem yz{a:Addr}{o:Obj}{b:List (ah×V)}{g:TG}{q:TS}{D:cq}{c:St}{H:Hp}(d:Nat->St->Hp->Prop)(z:d 0 c H)(t:∀i c H,i<=b.length->d i c H->H a=some (.frz o (.dK b)))
  (s:∀i k x p c H,b[i]? =some (k,x)->H p=none->d i c H->g (.ref p) c (upd H p (.tup [kV k,x])) λσ2 H2=>q {D with nx:=d (i+1),ct:=d (i+1),bk:=D.nx} σ2 H2) (A:∀c H,d b.length c H->D.nx c H):
  ∃W:Nat->Nat->St->Hp->Prop,(∃m,W 0 m c H)/\∀i m c H,W i m c H -> ((L3 a o b).stop i H/\D.nx c H)\/((L3 a o b).go i H/\∃N:St->Hp->Prop,(∀j h,N j h ->∃r,r <m/\W (i+1) r j h)/\∀x h,(L3 a o b).yld i H x h ->g x c h λσ2 H2=>q {D with nx:=N,ct:=N,bk:=D.nx} σ2 H2):=by
 refine⟨λi m c H=>m=b.length-i/\i<=b.length/\d i c H,⟨b.length,by simp,Mk _,z⟩,?_⟩;rintro i m c H ⟨rfl,w,p⟩;have l:=t i c H w p
 by_cases f:i<b.length
 .have n:b[i]? =some b[i]:=by simp[f]
  refine .inr ⟨⟨l,f⟩,d (i+1),λσ' h p' =>⟨b.length-(i+1),by omega,rfl,f,p'⟩,λx h y=> ?_⟩;obtain⟨u,v,rfl,y⟩:=y;have e:=y b[i].1 b[i].2 n;subst e;exact s i _ _ u c H n v p
 .have e:i=b.length:=by omega
  subst e;exact .inl ⟨⟨l,rfl⟩,A c H p⟩
end
namespace RV
end RV
end L2
namespace L2
open PySem PySem.Spec PyProof.Rows
namespace RV
def IsRv(h:Heap)(a:Addr)(x:Str)(t:Tok)(i:Int):Prop:=∃o,h.get? a=some o/\o.cls=.type "reversed"/\o.data=.fields #[.str x t,rawInt i]
end RV
end L2
namespace L2
open PySem PySem.Spec PyProof.Rows
namespace RV
end RV
end L2
namespace L2
open PySem PySem.Spec PyProof.Rows
namespace RV
open Builtin Builtin.Str Builtin.Int
end RV
end L2
namespace L2
open PySem PySem.Spec PyProof.Rows
section
variable{X:Cx}
set_option tactic.hygienic false
theorem Inv.knownT(I:Inv X f k H s)(d:H a=some (.dT g))(v:s.heap.get? a=some o):Inv X f k (upd H a (.frz o (.dT g))) s:=by
 have i:∀b h,H b=some (.tup h)->upd H a (.frz o (.dT g)) b=some (.tup h):=λb h e=>by rw[aA (λz=>by subst z;rw[d]at e;cases e)];exact e
 refine⟨I.ok,I.os,I.bare,⟨I.base.keep,I.base.slot,λb ob e n hx=> ?_,I.base.there,λb h e=>i b h (I.base.tups b h e),λb ob u e=> ?_,λb ps e=> ?_⟩,I.loc,I.cell,?_,λx c e=> ?_,λp hp=> ?_,λb u e=> ?_,I.len⟩
 .have:=I.base.free b ob e n hx
  rw[aA (λz=>by subst z;rw[d]at this;cases this)];exact this
 .have:=I.base.frzs b ob u e
  rw[aA (λz=>by subst z;rw[d]at this;cases this)];exact this
 .obtain⟨m,e⟩:=I.base.tbls b ps e
  exact⟨m,by rw[aA (λz=>by subst z;rw[d]at e;cases e)];exact e⟩
 .rw[aA (λz=>by have:=I.free;rw[z,d]at this;cases this)]
  exact I.free
 .have:=I.freeC x c e
  rw[aA (λz=>by rw[z,d]at this;cases this)];exact this
 .obtain⟨t,j,r⟩:=I.pin p hp
  exact⟨t,by rw[aA (λz=>by rw[z,d]at j;cases j)];exact j,r⟩
 .by_cases l:b=a
  .subst l
   rw[aB]at e;cases e;refine⟨v,?_⟩;exact(I.hok b _ d).stay (λ_ _ _ q=>q) (λc q=>by rw[aA (λz=>by subst z;rw[d]at q;cases q)];exact q) i
  .rw[aA l]at e
   exact(I.hok b u e).stay (λ_ _ _ q=>q) (λc q=>by rw[aA (λz=>by subst z;rw[d]at q;cases q)];exact q) i
theorem Inv.nfT(I:Inv X b d H s)(f:H a=some (.dT c)):NF X a:=λo u e=>by have:=I.base.frzs a o u e;rw[f]at this;cases this
theorem Inv.unknownT(I:Inv X f k H s)(v:NF X a)(d:H a=some (.frz o (.dT g))):Inv X f k (upd H a (.dT g)) s:=by
 have i:∀b h,H b=some (.tup h)->upd H a (.dT g) b=some (.tup h):=λb h e=>by rw[aA (λz=>by subst z;rw[d]at e;cases e)];exact e
 refine⟨I.ok,I.os,I.bare,⟨I.base.keep,I.base.slot,λb ob e n hx=> ?_,I.base.there,λb h e=>i b h (I.base.tups b h e),λb ob u e=> ?_,λb ps e=> ?_⟩,I.loc,I.cell,?_,λx c e=> ?_,λp hp=> ?_,λb u e=> ?_,I.len⟩
 .have:=I.base.free b ob e n hx
  rw[aA (λz=>by subst z;rw[d]at this;cases this)];exact this
 .have:=I.base.frzs b ob u e
  rw[aA (λz=>by subst z;exact v _ _ e)];exact this
 .obtain⟨m,e⟩:=I.base.tbls b ps e
  exact⟨m,by rw[aA (λz=>by subst z;rw[d]at e;cases e)];exact e⟩
 .rw[aA (λz=>by have:=I.free;rw[z,d]at this;cases this)]
  exact I.free
 .have:=I.freeC x c e
  rw[aA (λz=>by rw[z,d]at this;cases this)];exact this
 .obtain⟨t,j,r⟩:=I.pin p hp
  exact⟨t,by rw[aA (λz=>by rw[z,d]at j;cases j)];exact j,r⟩
 .by_cases l:b=a
  .subst l
   rw[aB]at e;cases e;exact(I.hok b _ d).2.stay (λ_ _ _ q=>q) (λc q=>by rw[aA (λz=>by subst z;rw[d]at q;cases q)];exact q) i
  .rw[aA l]at e
   exact(I.hok b u e).stay (λ_ _ _ q=>q) (λc q=>by rw[aA (λz=>by subst z;rw[d]at q;cases q)];exact q) i
section
variable{prog:Program}{w:World}{A:Around}{E:Value->Shared->Prop}{s:Shared}{d:Addr}{od:Obj}{es:Array DictEntry}{ep:Nat}
theorem Bl(e:(d==sysModules)=false)(b:s.heap.get? d=some od)(f:od.ExactDict)(a:od.data=.dict es ep)
  (g:Q (.ref s.heap.objs.size) {s with heap:=s.heap.push ⟨.type "dict_keyiterator",none,.fields #[.ref d,.int 0 0,.int es.size 0,.int ep 0],#[]⟩}):wpAny (model prog w) A (pyIter (.ref d)) Q E s:=by
 have c:s.TypeIs (.ref d) "dict":=⟨od,b,f.1⟩
 refine On c F.slot_dict_iter
  (Mx F.slot_dict_iter c F.entry_dict_iter ?_ (F.args_dict_iter_1 _))
 unfold Builtin.«dict.__iter__» Builtin.Dict.dictSlotNone;refine L8 (L8 (wpAny_notOrdered_dict c (MC ?_)));show wpAny _ _ (Builtin.Dict.showsAll d >>= _) _ _ s;unfold Builtin.Dict.showsAll;rw[ME (by rw[e];simp)];refine L8 (MC (L8 (Oo b a (L8 (wpAny_dictEpoch b a ?_)))))
 refine L8 (M4 (MC ⟨_,rfl,"dict_keyiterator",_,⟨_,MW _ rfl,rfl⟩,F.slot_dict_keyiterator_next.lookup,?_⟩))
 simpa [rawInt]using g
theorem BL(o:s.heap.IsKeyIter b d i es.size ep)(k:s.heap.get? d=some od)(j:od.data=.dict es ep)(l:es[i]? =some e)
  (r:∀m,m.IsKeyIter b d (i+1) es.size ep->Heap.SameBut b s.heap m ->Q (some e.key) {s with heap:=m}):wpAny (model prog w) A (pyNext (.ref b)) Q E s:=by
 obtain⟨t,f,n,a⟩:=id o;have g:=o.typeIs;unfold pyNext
 refine L8 (O7 (NM (name:=Str.ofString "__next__") g F.slot_dict_keyiterator_next (Mx F.slot_dict_keyiterator_next g F.entry_dict_keyiterator_next ?_ (F.args_dict_keyiterator_next_1 _))))
 refine L8 (MC (L8 (L8 ?_)))
 first
  |refine L8 (Od g (MC ?_))
  |refine L8 (O6 g (MC ?_))
 refine L8 (wpAny_fieldsOf f a ?_);have h:Builtin.Dict_items.ownsTuple "dict_keyiterator"=false:=by decide
 simp only[h,OI,Oe];show wpAny _ _ (ite ((Value.ref d==Value.none)=true) _ _) _ _ s;rw[ME (show¬((Value.ref d==Value.none)=true)by intro z;cases z)];refine L8 (MC (L8 (Oo k j ?_)));rw[ME (by simp)];refine L8 (MC (L8 (wpAny_dictEpoch k j ?_)));rw[ME (by simp)];refine MC ?_;have p:i<es.size:=by
  rcases Ol i es.size with z|z
  .exact z
  .rw[Array.getElem?_eq_none z]at l
   cases l
 have q:es[i]=e:=by rw[Op p]at l;exact MZ l
 simp only[show¬((i:Int)<0)from by omega,Oe,Na,Op p];refine L8 ?_
 first
  |refine L8 (Od g (MC ?_))
  |refine L8 (O6 g (MC ?_))
 refine L8 (wpAny_isOneOf_keyiter g ?_);show wpAny _ _ (setField (.ref b) 1 (rawInt ((i:Int)+1)) >>= _) _ _ s;refine L8 (N1 f a (by simp) ?_)
 have c:(s.heap.update b (Obj.mapFields (·.setIfInBounds 1 (rawInt ((i:Int)+1))))).IsKeyIter b d (i+1) es.size ep:=
  ⟨_,M6 _ f (Nu (NL a _)),(PX ..).trans n,by rw[NL a];simp[rawInt]⟩
 refine L8 (NR (L8 (wpAny_isOneOf_keyiter (s:={s with heap:=s.heap.update b (Obj.mapFields (·.setIfInBounds 1 (rawInt ((i:Int)+1))))}) c.typeIs ?_)));show wpAny _ _ (pure es[i].key) _ _ _;rw[q];exact MC (MC ⟨_,rfl,MC (r _ c (Nr ..))⟩)
theorem Em(o:A.handled=none)(n:s.heap.IsKeyIter k d i es.size ep)(j:s.heap.get? d=some od)(f:od.data=.dict es ep)(p:es.size<=i)
  (q:∀l,Heap.ExtBut k s.heap l ->Q none {s with heap:=l}):wpAny (model prog w) A (pyNext (.ref k)) Q E s:=by
 obtain⟨t,h,r,g⟩:=id n;have c:=n.typeIs;unfold pyNext
 refine L8 (O7 (NM (name:=Str.ofString "__next__") c F.slot_dict_keyiterator_next (Mx F.slot_dict_keyiterator_next c F.entry_dict_keyiterator_next ?_ (F.args_dict_keyiterator_next_1 _))))
 refine L8 (MC (L8 (L8 ?_)))
 first
  |refine L8 (Od c (MC ?_))
  |refine L8 (O6 c (MC ?_))
 refine L8 (wpAny_fieldsOf h g ?_);have e:Builtin.Dict_items.ownsTuple "dict_keyiterator"=false:=by decide
 simp only[e,OI,Oe];show wpAny _ _ (ite ((Value.ref d==Value.none)=true) _ _) _ _ s;rw[ME (show¬((Value.ref d==Value.none)=true)by intro z;cases z)];refine L8 (MC (L8 (Oo j f ?_)));rw[ME (by simp)];refine L8 (MC (L8 (wpAny_dictEpoch j f ?_)));rw[ME (by simp)];refine MC ?_;simp only[show¬((i:Int)<0)from by omega,Oe,Na,Array.getElem?_eq_none p];refine L8 ?_
 first
  |refine L8 (Od c (MC ?_))
  |refine L8 (O6 c (MC ?_))
 show wpAny _ _ (setField (.ref k) 0 .none >>= _) _ _ s;refine L8 (N1 h g (by simp) ?_);show wpAny _ _ (newExc (.type "StopIteration") [] >>= _) _ _ _;refine L8 ?_;simp only[newExc,newTuple];refine L8 (M4 ?_ (by size_fits))
 refine L8 (m:=firstArgMember _ _)
  (OK (a:=Value.none) (by first|rfl|(simp only[firstArgMember];rfl)) ?_)
 refine M4 ?_ (by size_fits);simp only[raiseNew];refine L8 (wpAny_handled ?_);rw[show A.in1.handled=none from o];refine L8 (MC (wpAny_throw ?_))
 refine L8
  (Ox (T:="StopIteration") (b:=true) ⟨_,MW _ rfl,rfl⟩ isSubtype_stop ?_)
 exact MC (q _ (((Nr ..).extBut.push _).push _))
theorem B8{l:List DictEntry}:∀(_:(l.map (·.hash)).Nodup)(x:_),(l.filter λe=>e.hash==x).length<=1:=by
 induction l with
 |nil=>intro _ x;simp|cons a l f=>
  intro b x;rw[MM,Mb]at b;rw[Ni]
  by_cases h:a.hash=x
  .have e:l.filter (λe=>e.hash==x)=[]:=by
    rw[List.filter_eq_nil_iff];intro y c z;exact b.1 (MG.mpr ⟨y,c,by rw[h];exact Mf z⟩)
   rw[e,MF (by rw[h];exact beq_self_eq_true _)];exact MJ _
  .rw[ME (λz=>h (Mf z))]
   exact f b.2 x
theorem tm{id:String}(ho:s.heap.get? d=some od)(hd:od.data=.dict es ep)(ht:∀e∈es,∃b its,e.key=.ref b/\IsTup s.heap b its)(hn:(es.toList.map (·.hash)).Nodup)(h:Q es s):
  wpAny (model prog w) A (Builtin.Dict.entriesForEmpty id d) Q E s:=by
 unfold Builtin.Dict.entriesForEmpty;refine L8 (Oo ho hd ?_);refine L8 (PySem.MeetsSeq2.wpAny_forIn_array _ (λaL _ s' =>s' =s/\∀e∈aL,e∈es) _ ?_ ?_ es PUnit.unit ⟨rfl,λe he=>Array.mem_toList_iff.mp he⟩)
 .rintro e aL b s' ⟨rfl,hm⟩
  obtain⟨k,its,ek,it⟩:=ht e (hm e MB);rw[ek];unfold Builtin.Dict.quietEq;dsimp only;refine L8 (L8 (Of it.typeIs F.slot_tuple_eq.lookup (MC ?_)));rw[MF (by decide)];have one:¬(Array.filter (λx=>x.hash==e.hash) es).size>1:=by have:=B8 hn e.hash;rw[<- Array.toList_filter]at this;have q:(Array.filter (λx=>x.hash==e.hash) es).toList.length=(Array.filter (λx=>x.hash==e.hash) es).size:=Ml;omega
  rw[ME one];exact MC ⟨rfl,λe' he' =>hm e' (MA _ he')⟩
 .rintro b s' ⟨rfl,_⟩
  exact MC h
theorem CP(hoS:(d==sysModules)=false)(ho:s.heap.get? d=some od)(hc:od.ExactDict)(hd:od.data=.dict es ep)(h0:0<es.size)(hsz:es.size<=sizeLine)
  (ht:∀e∈es,∃b its,e.key=.ref b/\IsTup s.heap b its) (hn:(es.toList.map (·.hash)).Nodup)
  (h:∀h',h'.get? s.heap.objs.size=some ⟨.type "dict",none,.dict es 1,#[]⟩->(∀b q,s.heap.get? b=some q->h'.get? b=some q)->Q (.ref s.heap.objs.size) {s with heap:=h'}):
  wpAny (model prog w) A (call (.type "dict") [.ref d]) Q E s:=by
 refine callType_codes (Q₁:=λobj s₁=>obj=.ref s.heap.objs.size/\s₁={s with heap:=s.heap.push ⟨.type "dict",none,.dict #[] 0,#[]⟩})
  F.kt_called_dict (F.kt_typeCall_dict_1 _) F.entry_dict_init (kt_code_dict_new _ ⟨rfl,rfl⟩) ?_
 rintro obj s₁ ⟨rfl,rfl⟩;have lt:d<s.heap.objs.size:=MY ho;have new:(s.heap.push ⟨.type "dict",none,.dict #[] 0,#[]⟩).get? s.heap.objs.size=some ⟨.type "dict",none,.dict #[] 0,#[]⟩:=MW _ rfl;have ho' :(s.heap.push ⟨.type "dict",none,.dict #[] 0,#[]⟩).get? d=some od:=MD _ ho;have tn:Shared.TypeIs {s with heap:=s.heap.push ⟨.type "dict",none,.dict #[] 0,#[]⟩} (.ref s.heap.objs.size) "dict":=⟨_,new,rfl⟩;have to:Shared.TypeIs {s with heap:=s.heap.push ⟨.type "dict",none,.dict #[] 0,#[]⟩} (.ref d) "dict":=⟨_,ho',hc.1⟩;refine⟨tn,F.args_dict_init_2 _ _,?_⟩;unfold Builtin.«dict.__init__»;refine L8 ?_;unfold Builtin.Dict.selfAndRest;refine L8 (wpAny_notOrdered_dict tn (MC ?_));show wpAny _ _ (Builtin.Dict.updateFrom "dict.__init__" s.heap.objs.size (.ref d) [] .none) _ _ _;unfold Builtin.Dict.updateFrom;refine L8 (PP to ?_);rw[ME (by decide)];refine L8 ?_;unfold Builtin.Dict.merge;refine L8 ?_;unfold Builtin.Dict.readDirectly;refine L8 (Ox to isSubtype_dict_dict ?_);simp only[Bool.not_true,OI,Oe];refine L8 (Of to F.slot_dict_iter.lookup (MC ?_));simp only[beq_self_eq_true,PN];refine L8 (MC ?_);unfold Builtin.Dict.mergeDict;rw[ME (λz=>absurd (Mf z) (Nd lt))];unfold Builtin.Dict.showsAll;rw[ME (by rw[hoS];simp)];refine L8 (MC (L8 (Oo ho' hd ?_)));have nf:(decide (es.size<=8)&&es.all λe=>(keyPart e.key).isSome)=false:=by rw[Bool.and_eq_false_iff];refine .inr ?_;rw[Array.all_eq_false];obtain⟨b,its,e,_⟩:=ht es[0] (Array.getElem_mem h0);exact⟨0,h0,by rw[e];simp[keyPart]⟩
 dsimp only;rw[nf,MF (by decide)];refine L8 (Oo new rfl ?_);rw[MF (by decide)];refine L8 (tm ho' hd (λe he=> ?_) hn ?_)
 .obtain⟨b,its,e1,o1,e2,e3⟩:=ht e he
  exact⟨b,its,e1,o1,MD _ e2,e3⟩
 rw[MF (by simp only[NJ,Array.isEmpty_eq_false_iff];intro z;rw[z]at h0;exact absurd h0 (by decide))];refine L8 (wpAny_updateDictKeysTo new rfl (MC ?_) (by omega));show wpAny _ _ (Builtin.Dict.addKeywords s.heap.objs.size [] >>= _) _ _ _;refine L8 (MC (MC ⟨rfl,h _ ?_ λb q e=> ?_⟩))
 .exact M6 _ new rfl
 .have ne:b≠s.heap.objs.size:=Md (MY e)
  exact((Nr _ s.heap.objs.size _).2 b ne).trans (MD _ e)
end
def Apart(P:Program)(w:World)(a:List (List ah)):Prop:=(a.map (tupleKeyHash (aT P w))).Nodup
theorem Paired.mem2{g f:Type}{F:g->f->Prop}:∀{c:List g}{d:List f},Paired F c d->∀b∈d,∃a∈c,F a b:=by
 intro c d h b e
 induction h with
 |nil=>cases e|cons r t i=>
  rcases MP.mp e with rfl|e
  .exact⟨_,MB,r⟩
  .obtain⟨a,j,h⟩:=i e
   exact⟨a,MA _ j,h⟩
theorem Paired.keys:∀{a:List (List ah×V)}{b:List (List ah×Addr×Value)},KT H a b->b.map (·.1)=a.map (·.1):=by
 intro a b h
 induction h with
 |nil=>rfl|cons r t c=>rw[MM,MM,c,r.1]
theorem Paired.at1{e f:Type}{F:e->f->Prop}:∀{c:List e}{d:List f}{i:Nat}{a:e},Paired F c d->c[i]? =some a->∃b,d[i]? =some b/\F a b
 |_,_,_,_,.nil,h=>by simp at h|_,_,0,_,.cons r t,h=>by simp at h;subst h;exact⟨_,by simp,r⟩
 |_,_,i+1,_,.cons r t,h=>by simpa using Paired.at1 t (by simpa using h)
theorem uF:bS X (.type "dict") (λxs H Q=>∃a kvs,xs=[V.ref a]/\H a=some (.dT kvs)/\kvs≠[]/\Apart X.prog X.w (kvs.map (·.1))/\∀p,H p=none->Q (.ref p) (upd H p (.dT kvs))):=by
 intro pins s σ H xs us Q I r h;obtain⟨a,kvs,rfl,ha,h0,hap,q⟩:=h;obtain⟨u,rfl,ru⟩:=vals1 r;cases ru;obtain⟨z,hd,ys,rel,o,es,ep,h1,h2,h3,h4,h5⟩:=(show al X.prog X.w H s.heap a (.dT kvs)from I.hok a _ ha);have hl:kvs.length=ys.length:=Pf rel;have he:es.size=ys.length:=by have:=Mw List.length h4;rw[Ml,L9]at this;exact this
 have tup:∀e∈es,∃b its,e.key=.ref b/\IsTup s.heap b its:=λe hm=>by have hm:=Array.mem_toList_iff.mpr hm;rw[h4]at hm;obtain⟨y,hy,rfl⟩:=MG.mp hm;obtain⟨kv,_,f⟩:=Paired.mem2 rel y hy;obtain⟨_,its,_,it⟩:=(show al X.prog X.w H s.heap y.2.1 (.tup _)from I.hok _ _ f.2.1);exact⟨y.2.1,_,rfl,it.tup⟩
 have nd:(es.toList.map (·.hash)).Nodup:=by
  rw[h4,Mg];have e:(ys.map ((λx:DictEntry=>x.hash)∘entryOfKey (tupleKind (aT X.prog X.w))))=(ys.map (·.1)).map (tupleKeyHash (aT X.prog X.w)):=by rw[Mg];rfl
  rw[e,Paired.keys rel];exact hap
 have pos:0<es.size:=by rw[he,<-hl];exact List.length_pos_iff.mpr h0
 refine CP hd h1 h2 h3 pos (by rw[he,<-hl];exact z) tup nd λh' hn hk=> ?_;have big:s.heap.objs.size≠sysModules:=Nd I.big;refine⟨.ref s.heap.objs.size,_,I.laid (a:=s.heap.objs.size) (o:=.dT kvs) (t' :=s.toks) hk (MJ _) ⟨z,N0.mpr big,ys,Paired.imp' (λp y f=>⟨f.1,?_,f.2.2⟩) rel,_,es,1,hn,⟨rfl,rfl,rfl⟩,rfl,h4,h5⟩,rfl,q _ (I.hok.fresh (MJ _))⟩;rw[aA (Md (I.hok.lt f.2.1))];exact f.2.1
noncomputable def Lz(a:Addr)(o:Obj)(c:List (List ah×V)):It:=
 ⟨λi H=>H a=some (.frz o (.dT c))/\i<c.length,λi H v H' =>H' =H/\∃b,v=.ref b/\∀k x,c[i]? =some (k,x)->H b=some (.tup (k.map kV)),λi H=>H a=some (.frz o (.dT c))/\i=c.length⟩
theorem yK{P:Program}{w:World}{K:W.Frag}{tg:Expr}{a l:Addr}{o:Obj}{c:List (List ah×V)}{r:Array DictEntry}{Q:Nat}(O:o.data=.dict r Q)(hz:r.size=c.length):
  nU P w K tg (Lz a o c) [l] l (λi h=>h.IsKeyIter l a i r.size Q) where
 mem:=by simp
 obj:=λi h g b hb=>by
  have e:b=l:=by simpa using hb
  subst e;obtain⟨Y,e,_,d⟩:=g;exact⟨Y,e,λv z=>by rw[d]at z;cases z⟩
 keep:=λi h h' g k=>g.at λo e=>k l (by simp) o e
 item:=by
  intro X D J C S i j s U H E I t g u;subst D J C;obtain⟨m,B⟩:=u;obtain⟨p,ok⟩:=(show al X.prog X.w H s.heap a (.frz o (.dT c))from I.hok a _ m);obtain⟨z,_,ys,L,o2,n,A,h1,h2,R,h4,h5⟩:=ok;have eo:o2=o:=MZ (h1.symm.trans p);subst eo;have ed:n=r/\A=Q:=by rw[O]at R;cases R;exact⟨rfl,rfl⟩
  obtain⟨rfl,rfl⟩:=ed;obtain⟨⟨k,x⟩,T⟩:∃q,c[i]? =some q:=⟨c[i],by simp[B]⟩;obtain⟨y,hy,f⟩:=Paired.at1 L T;have he:n[i]? =some (entryOfKey (tupleKind (aT X.prog X.w)) y):=by rw[<- Nb,h4,MR,hy];rfl
  obtain⟨F,N,f2,G,v,M⟩:=t l (by simp);refine BL g p O he λh' st' sb=> ?_;have Z:Inv X j U H {s with heap:=h'}:=I.turned (t' :=s.toks) (λb o hb e=>(sb.2 b hb).trans e) F N G v M;obtain⟨Y,e',c',d'⟩:=id st';refine⟨_,rfl,oJ (s:={s with heap:=h'}) e' c' d' (by decide) ⟨.ref y.2.1,H,Z,rfl,⟨rfl,y.2.1,rfl,λk' x' hx' => ?_⟩,st',λb hb=>(t b hb).1⟩⟩;rw[T]at hx';cases hx';exact f.2.1
 done:=by intro X D J C S i j s U H E I t g u;subst D J C;obtain⟨m,rfl⟩:=u;obtain⟨p,_⟩:=(show al X.prog X.w H s.heap a (.frz o (.dT c))from I.hok a _ m);obtain⟨F,N,f2,G,v,M⟩:=t l (by simp);exact Em (I.ok.hd S) g p O (by rw[hz];exact MJ _) λh' eb=>⟨rfl,I.turned (t' :=s.toks) (λb o hb e=>eb b o hb e) F N G v M⟩
 self:=λ_ _ _ _ _ g h=>wpAny_pyIter_keyiter g h
def Kx(X:Cx)(c:TE):TI:=λσ H R=>c σ H λx H1=>∃a b,x=.ref a/\H1 a=some (.dT b)/\∀o,NF X a->R (Lz a o b) (upd H1 a (.frz o (.dT b)))
theorem wc(J:PE X l m):PI X r l (Kx X m):=by
 intro d s y H R I h;refine aj (J d s y H _ I h) λv s1 hpq=> ?_;obtain⟨x,t,c,E,u⟩:=hpq;obtain⟨a,f,rfl,g,q⟩:=u;cases E;obtain⟨z,F,L,j,o,n,G,i,A,k,B,K⟩:=(show al X.prog X.w t s1.heap a (.dT f)from c.hok a _ g);have C:n.size=f.length:=by have:=Mw List.length B;rw[Ml,L9]at this;rw[this];exact(Pf j).symm
 refine Bl F i A k ?_;have D:a<s1.heap.objs.size:=MY i;have p:=c.kept (t' :=s1.toks) (h' :=s1.heap.push ⟨.type "dict_keyiterator",none,.fields #[.ref a,.int 0 0,.int n.size 0,.int G 0],#[]⟩) λb o e=>MD _ e;have v:=p.knownT g (MD _ i);refine⟨s1.heap.objs.size,[s1.heap.objs.size],_,_,_,rfl,v,yK k C,⟨_,MW _ rfl,rfl,rfl⟩,λb hb=> ?_,q o (c.nfT g)⟩;have e:b=s1.heap.objs.size:=by simpa using hb
 subst e;refine(c.fpOk (MJ _) ?_);rw[aA (Nd D)];exact c.hok.fresh (MJ _)
theorem yc(hu:X.A.units+1<cLine)(hk:PE X k tk)(hv:PE X v tv):PE X (.Dict [some k] [v] pos) (λσ H Q=>∀p,H p=none->tk σ (upd H p (.dT [])) λy H1=>tv σ H1 λx H2=>
  ∃b kk,y=.ref b/\H2 b=some (.tup (kk.map kV))/\H2 p=some (.dT [])/\Q (.ref p) (upd H2 p (.dT [(kk,x)]))):=by
 intro pins s σ H Q I q;have hn:=I.hok.fresh (MJ s.heap.objs.size);have I1:=I.laid (a:=s.heap.objs.size) (o:=.dT []) (h' :=s.heap.push {cls:=.type "dict",data:=.dict #[]}) (t' :=s.toks) (λ_ _ q=>MD _ q) (MJ _) (CK s.heap I.big);refine wpAny_Dict_any rfl rfl (by simp) (by show 1<=15;decide) (pairTrees_cons_walk (aj (hk pins _ σ _ _ I1 (q _ hn)) λky s2 ⟨y,H2,I2,ry,q2⟩=>aj (hv pins _ σ _ _ I2 q2) λvx s3 ⟨x,H3,I3,rx,q3⟩=>pairTrees_nil_walk ?_));obtain⟨b,kk,rfl,hb,hp,q3⟩:=q3;cases ry;obtain⟨z,hd,xs,rel,dd⟩:=F7 I3.hok hp;cases rel;unfold storeAll;rw[List.forIn_cons];refine L8 (L8 (wpAny_dictSet_heap (hsz:=Mk _) (show X.A.units<cLine by omega) (jf I3.hok hb) dd λh' dd' hs=>MC ?_));dsimp only;rw[List.forIn_nil];refine MC ⟨.ref s.heap.objs.size,_,?_,rfl,q3⟩;obtain⟨q,es,ep,hq,h2,h3,h4,_,h5⟩:=dd';have nil:KT H3 ([]:List (List ah×V)) []:=.nil;refine kq I3 (by rw[hp];exact True.intro) hs ⟨q,hq⟩ ⟨by show 1<=sizeLine;decide,hd,_,(nil.put kk hb rx).keeps λc ys ec=> ?_,q,es,ep,hq,h2,h3,h4,h5⟩;rw[aA (BM ec hp (λz=>nomatch z))];exact ec
section
variable{prog:Program}{w:World}{A:Around}{E:Value->Shared->Prop}{s:Shared}
theorem uC(i:IsTup s.heap l b.toArray)(e:b.length<=sizeLine)
  (h:Q b {s with heap:=(s.heap.push (seqObj "list" #[] 0)).update s.heap.objs.size (Obj.mapSeq (·++b.toArray))}):wpAny (model prog w) A (collect (.ref l)) Q E s:=by
 obtain⟨o,d,g,n,f⟩:=id i;unfold collect;refine L8 (wpAny_runValue (N6 entry_proto_collect' ?_));show wpAny _ _ (do again (.builtin "list.__iadd__" ⟨[<- newList [],.ref l],[]⟩)) _ _ s
 refine L8 (Pe (MC ⟨Code.quiet_builtin _ (by decide +kernel),N6 entry_list_iadd' ?_⟩))
 show wpAny _ _ (Builtin.List.listExtendWith (.ref s.heap.objs.size) (.ref l) (.ref s.heap.objs.size))
  _ _ {s with heap:=s.heap.push (seqObj "list" #[] 0)}
 unfold Builtin.List.listExtendWith;have c:(s.heap.push (seqObj "list" #[] 0)).get? l=some o:=MD _ d;have a:(s.heap.push (seqObj "list" #[] 0)).get? s.heap.objs.size=some (seqObj "list" #[] 0):=MW _ rfl;refine L8 (PP (T:="tuple") ⟨o,c,g⟩ ?_);rw[MF (by rw[show(Value.type "tuple"==Value.type "tuple")=true from rfl];simp)];refine L8 (listItems_at c f (L8 (listItems_at (xs:= #[]) (n:=0) a rfl ?_)));rw[ME (by simp)]
 refine L8 (listUpdate_at (xs:= #[]) (n:=0) a rfl (MC ?_) (Mk _) (by show(#[]++b.toArray).size<=sizeLine+1;simp only[Array.size_append,MQ,Ow];omega))
 show wpAny (model prog w) A (load s.heap.objs.size >>= _) Q E _;refine L8 (wpAny_load (get?_update_seq a _) ?_);show wpAny _ _ (pure ((#[]:Array Value)++b.toArray).toList) Q E _;rw[show((#[]:Array Value)++b.toArray).toList=b by simp];exact MC h
theorem rO(hl:IsTup s.heap l vs.toArray)(hI:IntsAre vs ns)(h64:vs.length<64)
  (h:∀(out:Array Value)(ms:List Int),IntsAre out.toList ms->ms.Perm ns->ms.Pairwise (·<=·)->Q (.ref (s.heap.objs.size+1)) {s with heap:=sortedAll s.heap vs out}):wpAny (model prog w) A (call (.builtin "sorted") [.ref l]) Q E s:=by
 refine Pz kind_sorted plain_sorted entry_sorted (args_sorted1 _) ?_;unfold Builtin.«sorted»;have hz:vs.length<=sizeLine:=by have:=M8;omega
 refine L8 (m:=checkCount "sorted" 1 1 _) (MC (L8 (uC hl hz (L8 (Pe ?_)))));have sz:((s.heap.push (seqObj "list" #[] 0)).update s.heap.objs.size (Obj.mapSeq (·++vs.toArray))).objs.size=s.heap.objs.size+1:=by rw[Heap.size_update,size_push']
 have at1:(((s.heap.push (seqObj "list" #[] 0)).update s.heap.objs.size (Obj.mapSeq (·++vs.toArray))).push (seqObj "list" vs.toArray 0)).get? (s.heap.objs.size+1)=some (seqObj "list" vs.toArray 0):=by rw[<- sz];exact MW _ rfl
 show wpAny _ _ _ _ _ {s with heap:=((s.heap.push (seqObj "list" #[] 0)).update s.heap.objs.size (Obj.mapSeq (·++vs.toArray))).push (seqObj "list" vs.toArray 0)};rw[sz]
 refine L8 (NR (Mx slot_list_sort ⟨_,at1,rfl⟩ entry_list_sort (list_sort_tree at1 hI h64 λout ms a1 a2 a3=>⟨_,rfl,MC ⟨_,rfl,h out ms a1 a2 a3⟩⟩) (args_list_sort _)))
end
theorem kY:bS X (.builtin "sorted") (λxs H Q=>∃(p:Addr)(ns:List Int),xs=[.ref p]/\bg X.K H p (ns.map V.int)/\ns.length<64/\∀a,H a=none->Q (.ref a) (upd H a (.lst ((sortI ns).map V.int)))):=by intro pins s σ H xs us Q I r h;obtain⟨p,ns,rfl,hq,h64,q⟩:=h;obtain⟨u,rfl,rx⟩:=vals1 r;cases rx;obtain⟨its,r',pl,hz⟩:=I.tuple hq;have hlen:=r'.length;rw[L9]at hlen;refine rO pl (intsAre_of r') (by omega) λout ms a1 a2 a3=> ?_;have e:=iM a2 a3;subst e;obtain⟨c,hc⟩:=sortedAll_at s.heap its out;refine⟨.ref (s.heap.objs.size+1),_,I.laid (t' :=s.toks) (o:=.lst ((sortI ns).map V.int)) (λb o z=>sortedAll_old z) (Oh _) ?_,rfl,q _ (I.hok.fresh (Oh _))⟩;refine⟨?_,out.toList,c,cX a1,by simpa [seqObj]using hc⟩;rw[L9,(sortI_perm ns).length_eq];have:=M8;omega
noncomputable def Jx(X:Cx)(D:cq):cq where
 nx:=λσ H=>∃a o b,H a=some (.frz o (.dT b))/\NF X a/\D.nx σ (upd H a (.dT b))
 bk:=λσ H=>∃a o b,H a=some (.frz o (.dT b))/\NF X a/\D.bk σ (upd H a (.dT b))
 ct:=λσ H=>∃a o b,H a=some (.frz o (.dT b))/\NF X a/\D.ct σ (upd H a (.dT b))
 rt:=λv H=>∃a o b,H a=some (.frz o (.dT b))/\NF X a/\D.rt v (upd H a (.dT b))
theorem sB(h:PS X l t):PS X l (λD j H=>t (Jx X D) j H):=by
 intro i s j H D I n;refine aj (h i s j H _ I n) λf s1 q=> ?_;cases f with
 |next=>obtain⟨b,k,e,a,o,c,d,g,q⟩:=q;exact⟨b,_,e.unknownT g d,q⟩
 |brk=>obtain⟨b,k,e,a,o,c,d,g,q⟩:=q;exact⟨b,_,e.unknownT g d,q⟩
 |cont=>obtain⟨b,k,e,a,o,c,d,g,q⟩:=q;exact⟨b,_,e.unknownT g d,q⟩
 |ret v=>obtain⟨b,x,k,e,m,a,o,c,d,g,q⟩:=q;exact⟨b,x,_,e.unknownT g d,m,q⟩
theorem tT{a:Addr}{o:Obj}{c:List (List ah×V)}{g:TG}{r:TS}{D:cq}{d:St}{H:Hp}(f:Nat->St->Hp->Prop)(w:f 0 d H)(u:∀i d H,i<=c.length->f i d H->H a=some (.frz o (.dT c)))
  (t:∀i k x b d H,c[i]? =some (k,x)->H b=some (.tup (k.map kV))->f i d H->g (.ref b) d H λσ2 H2=>r {D with nx:=f (i+1),ct:=f (i+1),bk:=D.nx} σ2 H2) (z:∀d H,f c.length d H->D.nx d H):
  ∃W:Nat->Nat->St->Hp->Prop,(∃m,W 0 m d H)/\∀i m d H,W i m d H -> ((Lz a o c).stop i H/\D.nx d H)\/((Lz a o c).go i H/\∃N:St->Hp->Prop,(∀l j,N l j ->∃s,s <m/\W (i+1) s l j)/\∀x j,(Lz a o c).yld i H x j ->g x d j λσ2 H2=>r {D with nx:=N,ct:=N,bk:=D.nx} σ2 H2):=by
 refine⟨λi m d H=>m=c.length-i/\i<=c.length/\f i d H,⟨c.length,by simp,Mk _,w⟩,?_⟩;rintro i m d H ⟨rfl,v,p⟩;have n:=u i d H v p
 by_cases h:i<c.length
 .have q:c[i]? =some c[i]:=by simp[h]
  refine .inr ⟨⟨n,h⟩,f (i+1),λσ' j p' =>⟨c.length-(i+1),by omega,rfl,h,p'⟩,λx j y=> ?_⟩;obtain⟨rfl,b,rfl,y⟩:=y;exact t i _ _ b d _ q (y c[i].1 c[i].2 q) p
 .have e:i=c.length:=by omega
  subst e;exact .inl ⟨⟨n,rfl⟩,z d H p⟩
end
end L2
namespace SQ
open PySem
noncomputable def lst(m:Nat):List Nat:=(List.range 8).filter λv=>m/2^v%2==1
noncomputable def put(m v:Nat):Nat:=if m/2^v%2=1 then m else m+2^v
noncomputable def gW(led:Bool)(m:Nat):SetTable:={mask:=if(lst m).length<5 then 7 else 31,place:=(lst m).toArray,dummies:= #[],finger:=0,led:=led,moves:=if(lst m).length<5 then 0 else 1,plain:=true}
noncomputable def kZ(m v:Nat):Nat:=((lst m).filter (·<v)).length
noncomputable def cw(led:Bool)(m v:Nat):SetTable:={gW led m with place:=(lst (put m v)).toArray}
noncomputable def sj(a b:SetTable):Bool:=a.mask==b.mask&&a.place.toList==b.place.toList&&a.dummies.toList==b.dummies.toList&&a.finger==b.finger&&a.led==b.led&&a.moves==b.moves&&a.plain==b.plain
set_option tactic.hygienic false
theorem ij(h:sj a b=true):a=b:=by obtain⟨s,⟨w⟩,⟨x⟩,t,m,n,u⟩:=a;obtain⟨l,⟨q⟩,⟨k⟩,v,r,o,p⟩:=b;simp only[sj,MH,OT]at h;obtain⟨⟨⟨⟨⟨⟨f,g⟩,c⟩,i⟩,d⟩,e⟩,j⟩:=h;subst f g c i d e j;rfl
noncomputable def pd(led:Bool)(m v:Nat):Bool:=
 if m/2^v%2==1 then true else
 (match(gW led m).freeSlot (v:Int)with
  |some (j,d)=>j==v&& !d|none=>false) &&
 sj ((gW led m).put v).1 (cw led m v)&&((gW led m).put v).2==kZ m v&&lst (put m v)==(lst m).take (kZ m v)++v::(lst m).drop (kZ m v)&&(cw led m v).fits (lst (put m v)).length &&
 (if(cw led m v).tooFull then(match(cw led m v).relaid ((lst (put m v)).map Int.ofNat).toArray (SetTable.grown (lst (put m v)).length)with
  |some (t,o)=>sj t (gW led (put m v))&&o.toList==List.range (lst (put m v)).length&&(gW led (put m v)).fits (lst (put m v)).length|none=>false)else sj (cw led m v) (gW led (put m v)))
theorem BY:(List.range 256).all (λm=>(List.range 8).all λv=>pd true m v&&pd false m v&&decide (put m v<256))=true:=by decide +kernel
noncomputable def GJ(m:Nat):Bool:=(List.range (lst m).length).all λi=>SetTable.below (lst m).toArray (if i=0 then 0 else(lst m).getD (i-1) 0+1)==i
theorem zr:(List.range 256).all (λm=>GJ m&&SetTable.below (lst m).toArray (if(lst m).length=0 then 0 else(lst m).getD ((lst m).length-1) 0+1)==(lst m).length)=true:=by decide +kernel
theorem B6:(List.range 256).all (λm=>(gW true m).fits (lst m).length&&(gW false m).fits (lst m).length)=true:=by decide +kernel
theorem fits(a:m<256)(led:Bool):(gW led m).fits (lst m).length=true:=by have h:=MS.mp B6 m (Mn.mpr a);rw[MH]at h;cases led;exact h.2;exact h.1
theorem ER(a:m<256)(b:v<8)(led:Bool):pd led m v=true/\put m v<256:=by have h:=MS.mp (MS.mp BY m (Mn.mpr a)) v (Mn.mpr b);rw[MH,MH,Mm]at h;refine⟨?_,h.2⟩;cases led;exact h.1.2;exact h.1.1
theorem pZ:v∈lst m↔v<8/\m/2^v%2=1:=by unfold lst;rw[Mh,Mn,OT]
theorem Al(h:v∈lst m):put m v=m:=by unfold put;rw[MF (pZ.mp h).2]
theorem l6(s:m<256)(i:v<8)(u:v∉lst m)(led:Bool):
  (gW led m).freeSlot (v:Int)=some (v,false)/\(gW led m).put v=(cw led m v,kZ m v)/\lst (put m v)=(lst m).take (kZ m v)++v::(lst m).drop (kZ m v)/\(cw led m v).fits (lst (put m v)).length=true /\ (if(cw led m v).tooFull then(cw led m v).relaid ((lst (put m v)).map Int.ofNat).toArray (SetTable.grown (lst (put m v)).length)=some (gW led (put m v),(List.range (lst (put m v)).length).toArray)/\(gW led (put m v)).fits (lst (put m v)).length=true else cw led m v=gW led (put m v)):=by
 have h:=(ER s i led).1;unfold pd at h;have w:(m/2^v%2==1)=false:=by
  cases e:m/2^v%2==1
  .rfl
  .exact absurd (pZ.mpr ⟨i,by simpa using e⟩) u
 rw[w]at h;simp only[OI,Oe,MH,OT]at h;obtain⟨⟨⟨⟨⟨g,q⟩,l⟩,r⟩,n⟩,f⟩:=h;refine⟨?_,Pg (ij q) l,r,n,?_⟩
 .cases e:(gW led m).freeSlot (v:Int)with
  |none=>rw[e]at g;cases g|some p=>obtain⟨j,d⟩:=p;rw[e]at g;simp only[MH,OT,NJ]at g;rw[g.1,g.2]
 .by_cases k:(cw led m v).tooFull=true
  .rw[MF k]at f ⊢
   cases e:(cw led m v).relaid ((lst (put m v)).map Int.ofNat).toArray (SetTable.grown (lst (put m v)).length)with
   |none=>rw[e]at f;cases f|some p=>obtain⟨t,o⟩:=p;rw[e]at f;simp only[MH,OT]at f;obtain⟨⟨a,b⟩,c⟩:=f;refine⟨?_,c⟩;obtain⟨o⟩:=o;rw[ij a];have b:o=_:=b;rw[b]
  .rw[ME k]at f ⊢
   exact ij f
noncomputable def kU:Value->Option Int
 | .int i _=>some i|_=>none
theorem oB(h:kU x=some i):∃t,x=.int i t:=by cases x<;>simp[kU]at h;subst h;exact⟨_,rfl⟩
def fr(a:List (Int×Value))(m:Nat):Prop:=a.map (λe=>(e.1,kU e.2))=(lst m).map λv:Nat=>((v:Int),some (v:Int))
def SX(w:World)(a:Addr)(m:Nat)(h:Heap):Prop:=∃o b c,h.get? a=some o/\o.ExactSet/\o.data=.set b c (gW (!w.params.followText "set-order") m)/\fr b.toList m
theorem mB:∀v,v<8->hashInt (v:Nat)=(v:Nat):=by decide +kernel
theorem fr.len(h:fr a m):a.length=(lst m).length:=by
 have:=Mw List.length h
 simpa using this
theorem Ho(h:v∈lst m):v<8:=(pZ.mp h).1
theorem fr.at(h:fr a m)(b:e∈a):∃v t,v∈lst m/\e=((v:Int),.int (v:Int) t):=by have:(e.1,kU e.2)∈a.map (λe=>(e.1,kU e.2)):=MG.mpr ⟨e,b,rfl⟩;rw[h]at this;obtain⟨v,c,q⟩:=MG.mp this;obtain⟨d,f⟩:=e;simp only[Prod.mk.injEq]at q;obtain⟨t,z⟩:=oB q.2.symm;exact⟨v,t,c,by rw[z,<-q.1]⟩
theorem fr.has(h:fr b m)(c:v∈lst m):∃t,((v:Int),Value.int (v:Int) t)∈b:=by
 have:((v:Int),some (v:Int))∈(lst m).map λv:Nat=>((v:Int),some (v:Int)):=MG.mpr ⟨v,c,rfl⟩;rw[<- h]at this;obtain⟨e,a,q⟩:=MG.mp this;obtain⟨u,t,-,rfl⟩:=h.at a;simp only[kU,Prod.mk.injEq]at q;have:u=v:=by omega
 subst this;exact⟨t,a⟩
section
variable{prog:Program}{w:World}{A:Around}{E:Value->Shared->Prop}{s:Shared}
theorem fr.elems(h:fr a m):ElemsOf (intKind prog w) a:=by intro e b;obtain⟨v,t,c,rfl⟩:=h.at b;exact⟨⟨v,by simp[intKind,Value.isInt],(mB v (Ho c)).symm⟩,rfl⟩
theorem fr.insert(h:fr a.toList m)(b:m<256)(e:v<8)(d:v∉lst m):fr (SetTable.insertAt a (kZ m v) ((v:Int),.int (v:Int) t)).toList (put m v):=by obtain⟨-,-,c,-,-⟩:=l6 b e d true;unfold fr at h ⊢;rw[c,SetTable.toList_insertAt];rw[MX,MM,List.map_take,Ps,h,MX,MM,List.map_take,Ps];rfl
theorem Li(hm:m<256)(hv:v<8)(hS:SX w a m s.heap)(h:∀h' b,Heap.SameBut a s.heap h' ->SX w a (put m v) h' ->Q b {s with heap:=h'}):
  wpAny (model prog w) A (setAddHashed a (.int (v:Int) tk) (hashInt (v:Nat))) Q E s:=by
 obtain⟨o,es,ep,ho,hex,hd,he⟩:=hS
 generalize hled:(!w.params.followText "set-order")=led at hd
 have hsz:es.size=(lst m).length:=he.len;have hf:(gW led m).fits es.size=true:=by rw[hsz];exact fits hm led
 have hel:ElemsOf (intKind prog w) es.toList:=he.elems;have h8:(lst m).length<=8:=by unfold lst;exact Mq (Mu _ _) (by simp)
 have hb:es.size<scanBound:=by rw[hsz];unfold scanBound;omega
 have hkey:(intKind prog w).is (v:Int) (.int (v:Int) tk)=true:=by simp[intKind,Value.isInt]
 unfold setAddHashed setAddHashedIn;refine NR (L8 (PQ ho hd hf ?_));dsimp only;rw[byScan_of (knd:=intKind prog w) rfl hb hel,MF rfl];unfold setAddByScan;refine L8 (L8 (PJ (L8 (wpAny_setScan_of (knd:=intKind prog w) hkey ho hd hf hel ?_))));cases hr:List.findIdx? (λe=>(intKind prog w).is (v:Int) e.2) es.toList with
 |some j=>
  refine MC (MC ?_);have hin:v∈lst m:=by
   obtain⟨hj,hp,-⟩:=List.findIdx?_eq_some_iff_getElem.mp hr;obtain⟨u,t,hu,z⟩:=he.at (OA hj);rw[z]at hp;have hp:Value.isInt (v:Int) (.int (u:Int) t)=true:=hp;obtain⟨t',e⟩:=Value.isInt_shape hp;have e2:u=v:=by
    injection e with e1 e2
    omega
   rw[<- e2];exact hu
  have:=h s.heap false (Heap.SameBut.refl a s.heap) (by rw[Al hin];exact⟨o,es,ep,ho,hex,by rw[hled];exact hd,he⟩);exact this
 |none=>
  have hn:v∉lst m:=λhin=>by obtain⟨t,z⟩:=he.has hin;have:=List.findIdx?_eq_none_iff.mp hr _ z;simp[intKind,Value.isInt]at this
  obtain⟨k1,k2,k3,k4,k5⟩:=l6 hm hv hn led;have hE:=he.insert (t:=tk) hm hv hn;have hl:=hE.len;have hl2:(lst (put m v)).length<=8:=by unfold lst;exact Mq (Mu _ _) (by simp)
  have eL:layNew (gW led m) es (hashInt (v:Nat)) (.int (v:Int) tk)=(SetTable.insertAt es (kZ m v) ((v:Int),.int (v:Int) tk),cw led m v,false,false):=by
   unfold layNew;rw[mB v hv,k1];dsimp only;rw[k2];dsimp only;have z:(cw led m v).fits (SetTable.insertAt es (kZ m v) ((v:Int),.int (v:Int) tk)).size=true:=by rw[<- Ml,hl];exact k4
   unfold SetTable.orStandIn;rw[z];rfl
  dsimp only;rw[eL];dsimp only;refine L8 ((MC ?_:wpAny (model prog w) A (pure ()) _ E _));have hplain:(cw led m v).plain=true:=rfl;rw[hplain,MF rfl,hashByValue_scannable 8 rfl];refine L8 (MC ?_);have hpk:plainKind (.int (v:Int) tk)=true:=rfl;simp only[hpk,PN];have hz1:(SetTable.insertAt es (kZ m v) ((v:Int),.int (v:Int) tk)).size<=sizeLine:=by rw[<- Ml,hl,M8];omega
  refine L8 (wpAny_storeSet_of ho hd ?_ hz1);have ho1:(s.heap.update a (Obj.putSet (SetTable.insertAt es (kZ m v) ((v:Int),.int (v:Int) tk)) (cw led m v))).get? a=some {o with data:=.set (SetTable.insertAt es (kZ m v) ((v:Int),.int (v:Int) tk)) (ep+1) (cw led m v)}:=by have z:=M6 (Obj.putSet (SetTable.insertAt es (kZ m v) ((v:Int),.int (v:Int) tk)) (cw led m v)) ho (by rw[putSet_of _ _ hd];rfl);rw[putSet_of _ _ hd]at z;exact z
  have sb1:=Nr s.heap a (Obj.putSet (SetTable.insertAt es (kZ m v) ((v:Int),.int (v:Int) tk)) (cw led m v));have nd:(!false&&(cw led m v).tooFull)=(cw led m v).tooFull:=rfl;rw[nd]
  by_cases ht:(cw led m v).tooFull=true
  .rw[MF ht]at k5 ⊢
   have er:relayAll (cw led m v) (SetTable.insertAt es (kZ m v) ((v:Int),.int (v:Int) tk)) (SetTable.grown (SetTable.insertAt es (kZ m v) ((v:Int),.int (v:Int) tk)).size)=(SetTable.insertAt es (kZ m v) ((v:Int),.int (v:Int) tk),gW led (put m v),false):=by
    generalize hg:SetTable.insertAt es (kZ m v) ((v:Int),.int (v:Int) tk)=es1 at hE hl ⊢
    have hm1:es1.map (·.1)=((lst (put m v)).map Int.ofNat).toArray:=by
     apply Array.toList_inj.mp
     rw[Array.toList_map];have:=Mw (List.map Prod.fst) hE;rw[Mg,Mg]at this;exact this
    have hz:es1.size=(lst (put m v)).length:=by rw[<- Ml,hl]
    unfold relayAll;rw[hm1,hz,k5.1];dsimp only;have hf2:(List.range (lst (put m v)).length).toArray.filterMap (es1[·]?)=es1:=by
     apply Array.toList_inj.mp
     rw[Array.toList_filterMap,<-hz];exact filterMap_getElem?_range es1
    rw[hf2,hz,k5.2];have:coversAll (List.range (lst (put m v)).length).toArray (lst (put m v)).length=true:=by unfold coversAll;exact List.isPerm_iff.mpr (List.Perm.refl _)
    rw[this];rfl
   rw[er];dsimp only;refine L8 ((MC ?_:wpAny (model prog w) A (pure ()) _ E _));refine L8 (wpAny_storeSet_of ho1 rfl ?_ hz1);refine MC (MC ?_);have z:=M6 (Obj.putSet (SetTable.insertAt es (kZ m v) ((v:Int),.int (v:Int) tk)) (gW led (put m v))) ho1 (by rw[putSet_of _ _ rfl];rfl);rw[putSet_of _ _ rfl]at z;exact h _ _ (sb1.trans (Nr _ a _)) ⟨_,_,_,z,hex,by rw[hled],hE⟩
  .rw[ME ht]at k5 ⊢
   refine MC (MC ?_);exact h _ _ sb1 ⟨_,_,_,ho1,hex,by rw[hled,<-k5],hE⟩
end
noncomputable def pH(f:Nat->Nat):Nat->Nat->Nat->Nat
 |0,_,m=>m|k+1,i,m=>pH f k (i+1) (put m (f i))
theorem SX.at(x:SX w a m h)(k:∀o,h.get? a=some o->b.get? a=some o):SX w a m b:=
 let⟨o,es,ep,ho,r⟩:=x
 ⟨o,es,ep,k o ho,r⟩
section
variable{prog:Program}{w:World}{A:Around}{E:Value->Shared->Prop}
theorem Hr(W:WalksS prog w A.in1 I fp wr G n P St)(hD:D∉fp)(f:Nat->Nat)(hf:∀i v,P i v->f i<8/\∃t,v=.int (f i:Nat) t):
  ∀(k i:Nat)(s:Shared)(m:Nat),n-i=k->i<=n->St i s->m<256->SX w D m s.heap->(∀s',Moved (D::wr) G s s' ->SX w D (pH f k i m) s'.heap->R (.ok (.ret .none)) s') -> codeAny (model prog w) A (.builtin "set.update.loop" ⟨[.ref D,.ref I],[]⟩) R s:=by
 have hDw:D∉wr:=λz=>hD (W.sub _ z);have sub:∀b∈wr,b∈D::wr:=λb z=>MA _ z;intro k
 induction k with
 |zero=>
  intro i s m hk hi st hm hS hR;have e:i=n:=by omega
  subst e;refine N6 PyProof.Rows.F.entry_set_update_loop ?_;rw[OZ Oq _];show wpAny _ A.in1 (pyNext (.ref I) >>= _) _ _ s;refine L8 (W.done s _ _ st λs' mv=> ?_);show wpAny _ A.in1 (ret Value.none) _ _ s';exact MC (hR s' (mv.mono sub) (hS.at λo z=>mv.heap D o hDw z))
 |succ k ih=>
  intro i s m hk hi st hm hS hR;have lt:i<n:=by omega
  refine N6 PyProof.Rows.F.entry_set_update_loop ?_;rw[OZ Oq _];show wpAny _ A.in1 (pyNext (.ref I) >>= _) _ _ s;refine L8 (W.item i s _ _ lt st λv s' hP st' mv=> ?_);obtain⟨h8,t,rfl⟩:=hf i v hP;have hS1:SX w D m s'.heap:=hS.at λo z=>mv.heap D o hDw z;show wpAny _ A.in1 (holding [Value.int (f i:Nat) t] (setAdd D (.int (f i:Nat) t)) >>= _) _ _ s';refine L8 (NR ?_);unfold setAdd;refine NR (L8 ((intKind prog w).pyHash (k:=(f i:Nat)) (by simp[intKind,Value.isInt]) ?_));refine Li (s:={s' with toks:=s'.toks+1}) hm h8 hS1 λh' b sb hS2=> ?_;refine MC ⟨P4 Oq _,ih (i+1) _ _ (by omega) lt (W.frame _ s' h' _ st' (Oh _) λc hc o z=> ?_) (ER hm h8 true).2 hS2 λs2 mv2 hS3=> ?_⟩
  .rw[sb.2 c λ(q:c=D)=>hD (by rw[<- q];exact hc)]
   exact z
  .refine hR s2 (Moved.trans W.gtrans ((mv.mono sub).then_heap (Oh _) λc o hc z=> ?_) mv2) hS3
   rw[sb.2 c λ(q:c=D)=>hc (by rw[q];exact MB)];exact z
variable{s:Shared}
noncomputable def bare(led:Bool):Obj:={cls:=.type "set",dict:=none,data:=.set #[] 0 (.fresh 0 0 led)}
theorem FV(e:h.get? a=some (bare (!w.params.followText "set-order"))):SX w a 0 h:=by
 refine⟨_,#[],0,e,⟨rfl,rfl,rfl⟩,?_,by unfold fr;rfl⟩;unfold bare;have:gW (!w.params.followText "set-order") 0=.fresh 0 0 (!w.params.followText "set-order"):=by cases w.params.followText "set-order"<;>exact ij (by decide +kernel)
 rw[this]
theorem Kf(v:Value)(h:Q (.ref s.heap.objs.size) {s with heap:=s.heap.push (bare (!w.params.followText "set-order"))}):
  codeAny (model prog w) A (.call (.builtin "set.__new__") ⟨[.type "set",v],[]⟩) (wants Q E) s:=by
 refine codeAny_of_tree ?_;show wpAny _ A.in1 (do checkBuiltinCall "set.__new__" ⟨[.type "set",v],[]⟩;again (.builtin "set.__new__" ⟨[.type "set",v],[]⟩)) _ _ s;refine L8 (OK (F.newCall_set_1 v) (MC ⟨P4 F.plain_set_new _,N6 F.entry_set_new ?_⟩));rw[OZ F.plain_set_new _];unfold Builtin.«set.__new__» Builtin.Frozenset.newClass;have a:=sub_set_self;obtain⟨e,g,d,b,c⟩:=s;dsimp only
 wp_walk
 refine Oy (MC ?_);dsimp only;simp only[newObj];refine L8 (wpAny_alloc (MC ?_));exact MC h
set_option tactic.hygienic true
set_option maxHeartbeats 3200000 in
theorem KC{l:Addr}{its:Array Value}{f:Nat->Nat}{Q:Value->Shared->Prop}(hh:A.handled=none)(hl:s.heap.IsList l its)(hi:∀i v,its[i]? =some v->f i<8/\∃t,v=.int (f i:Nat) t)
  (h:∀(h' :Heap)(tk:Nat),SX w s.heap.objs.size (pH f its.size 0 0) h' ->(∀b o,b<s.heap.objs.size->s.heap.get? b=some o->h'.get? b=some o)->Q (.ref s.heap.objs.size) {s with heap:=h',toks:=tk}):
  wpAny (model prog w) A (call (.type "set") [.ref l]) Q E s:=by
 obtain⟨c,tl,mro⟩:=F.called_set.mro;have made:=F.called_set.made;have sub:=F.called_set.sub;refine wpAny_call (codeAny_of_tree ?_);show wpAny _ _ (callAny (.type "set") _) _ _ _;refine MC ⟨Code.quiet_builtin _ (by decide +kernel),N6 F.entry_type_call ?_⟩;rw[Around.under_plain (weight_type_call_type "set" [.ref l] []) rfl];have n1:=F.called_set.notType;have n2:=F.called_set.canCreate;have n3:=F.typeCall_set_1 (.ref l)
 repeat(any_goals (first|assumption|wp_step))
 refine codeAny_mono (Kf (.ref l) (E:=E) (Q:=fun ob s₁=>ob=.ref s.heap.objs.size/\s₁={s with heap:=s.heap.push (bare (!w.params.followText "set-order"))}) ⟨rfl,rfl⟩) fun r s₁ hr=> ?_;cases r with
 | error e=>exact hr
 | ok fl=>
  cases fl with
  | ret ob=>
   obtain⟨rfl,rfl⟩:=hr;have hS:(s.heap.push (bare (!w.params.followText "set-order"))).get? s.heap.objs.size=some (bare (!w.params.followText "set-order")):=MW _ rfl;have hT:Shared.TypeIs {s with heap:=s.heap.push (bare (!w.params.followText "set-order"))} (.ref s.heap.objs.size) "set":=⟨_,hS,rfl⟩;have m1:=F.called_set.init.lookup;have m2:=F.called_set.init.bind (.ref s.heap.objs.size)
   repeat(any_goals (first|assumption|wp_step))
   refine codeAny_mono (codeAny_call_builtin (R:=wants (fun r s₂=>r=.none/\∃h' tk,s₂={s with heap:=h',toks:=tk}/\SX w s.heap.objs.size (pH f its.size 0 0) h' /\(∀b o,b<s.heap.objs.size->s.heap.get? b=some o->h'.get? b=some o)) E) F.called_set.init.plain F.entry_set_init (check_set_init_1 hT ?_)) fun r₂ s₂ hr₂=> ?_
   .obtain⟨ol,hol,cl,nl,dl⟩:=hl
    obtain⟨oc,od,ot,os⟩:=ol;simp only at cl dl;subst cl dl;have hol' :(s.heap.push (bare (!w.params.followText "set-order"))).get? l=some {cls:=.type "list",dict:=od,data:=.seq its nl,slots:=os}:=MD _ hol;have q1:=F.sub_list_set;have q2:=F.sub_list_frozenset;have q3:(Value.type "list"==Value.type "dict")=false:=by decide
    have hl1:(s.heap.push (bare (!w.params.followText "set-order"))).IsList l its:=⟨_,hol',rfl,nl,rfl⟩;unfold Builtin.«set.__init__» noKeywords Builtin.Frozenset.updateFrom
    generalize hPI:pyIter=PI
    wp_walk
    subst hPI;refine P0 hl1 (L8 (wpAny_runValue ?_));have lS:l<s.heap.objs.size:=MY hol;have h3:A.in1.in1.in1.handled=none:=by simp[hh]
    have nI:l≠(s.heap.push (bare (!w.params.followText "set-order"))).objs.size:=by
     rw[N2];exact Md (NT lS)
    have nf:s.heap.objs.size∉[(s.heap.push (bare (!w.params.followText "set-order"))).objs.size,l]:=by
     rw[N2];simp only[MP,M9,OP,Pa];exact⟨Md (Nat.lt_succ_self _),Nd lS⟩
    refine Hr ((Walks.list h3 _ l nI its).toS) nf f hi its.size 0 _ 0 (by omega) (Mk _) ⟨⟨_,MW _ rfl,rfl,rfl⟩,hl1.push _⟩ (by omega) (FV (MD _ hS)) ?_;intro s' mv hS';obtain⟨h',g',d',tk',os'⟩:=s';have e1:g' =s.gens:=mv.gens;have e2:d' =s.drawn:=mv.drawn;have e3:os' =s.os:=mv.os;subst e1 e2 e3;show wpAny _ _ _ _ _ _;refine MC ?_;show wpAny _ _ (ret Value.none) _ _ _;refine MC ⟨rfl,h',tk',rfl,hS',fun b o hb e=> ?_⟩;refine mv.heap b o ?_ (MD _ (MD _ e));have z1:b≠s.heap.objs.size:=Md hb;have z2:b≠(s.heap.push (bare (!w.params.followText "set-order"))).objs.size:=by
     rw[N2];exact Md (NT hb)
    simp only[MP,M9,OP,Pa];exact⟨z1,z2⟩
   .cases r₂ with
    | error e=>exact hr₂
    | ok fl₂ =>
     cases fl₂ with
     | ret r=>
      obtain⟨rfl,h',tk,rfl,hS',hk'⟩:=hr₂
      repeat(any_goals (first|assumption|wp_step))
      exact h _ _ hS' hk'
     | _=>exact hr₂.elim
  | _=>exact hr.elim
end
theorem vW:entryFor table "set.__iter__"=some Builtin.«frozenset.__iter__» := entryFor_alias (id' :="frozenset.__iter__") (by kernel_rfl) rfl (by decide +kernel) (by kernel_rfl)
theorem cr:Slot "set_iterator" "__next__" "set_iterator.__next__" :=
 .of (owner:="set_iterator") (n:="__next__") (by rw[PF,OS];kernel_rfl) (by decide +kernel) (by decide +kernel) (by decide +kernel)
  (by first|exact .inl (by decide +kernel)|exact .inr (by decide +kernel)) (by rw[PU];kernel_rfl)
theorem mN:entryFor table "set_iterator.__next__"=some Builtin.«set_iterator.__next__»:=entryFor_of_tree (by kernel_rfl)
theorem oz(a:Value):argsOk "set_iterator.__next__" ⟨[a],[]⟩:=by
 unfold argsOk
 kernel_rfl
theorem wb{b:Type}(f:Nat->Nat):∀(k i:Nat)(l:List b)(o:Array b),l.length=k->(pickOrder.go f k i l o).toList.Perm (o.toList++l)
 |0,i,l,o,h=>by have:l=[]:=List.eq_nil_of_length_eq_zero h;subst this;unfold pickOrder.go;simp
 |k+1,i,l,o,h=>by
  unfold pickOrder.go;have a:f i%l.length<l.length:=Nat.mod_lt _ (by omega);rw[MN a];dsimp only;refine(wb f k (i+1) _ _ (by rw[List.length_eraseIdx,MF a];omega)).trans ?_;rw[Array.toList_push,NI];refine List.Perm.append_left _ ?_;have e:l=l.take (f i%l.length)++l[f i%l.length]::l.drop (f i%l.length+1):=by rw[<- Np a,List.take_append_drop]
  rw[List.eraseIdx_eq_take_drop_succ];refine List.Perm.trans ?_ (List.Perm.of_eq e.symm);rw[List.singleton_append];exact PL.symm
theorem n6{b:Type}(f:Nat->Nat)(a:Array b):(pickOrder f a).toList.Perm a.toList:=by
 have:=wb f a.size 0 a.toList #[] rfl
 simpa [pickOrder]using this
section
variable{prog:Program}{w:World}{A:Around}{E:Value->Shared->Prop}{s:Shared}
set_option tactic.hygienic true
structure Ord(w:World)(a m ep:Nat)(es:Array (Int×Value))(vs:List Value)(sl:Nat->Nat):Prop where
 len:vs.length=es.size
 perm:vs.Perm (es.toList.map (·.2))
 go:∀{prog:Program}{A:Around}{E:Value->Shared->Prop}{s:Shared}{o:Obj}(i:Nat)(Q:Option (Value×Nat)->Shared->Prop),s.heap.get? a=some o->o.data=.set es ep (gW (!w.params.followText "set-order") m) ->
  Q ((vs[i]?).map fun v=>(v,sl (i+1))) s->i<=es.size->wpAny (model prog w) A (setNext a (sl i) i ep) Q E s
theorem Jw(a:m<256):(∀i,i<(lst m).length->SetTable.below (lst m).toArray (if i=0 then 0 else(lst m).getD (i-1) 0+1)=i)/\SetTable.below (lst m).toArray (if(lst m).length=0 then 0 else(lst m).getD ((lst m).length-1) 0+1)=(lst m).length:=by
 have h:=MS.mp zr m (Mn.mpr a);rw[MH,OT]at h;refine⟨λi hi=> ?_,h.2⟩;have:=MS.mp h.1 i (Mn.mpr hi)
 simpa using this
theorem KW(g:m<256)(u:fr b.toList m):∃r k,Ord w a m ep b r k/\k 0=0:=by
 have p:b.size=(lst m).length:=u.len;cases d:w.params.followText "set-order" with
 |true=>
  refine⟨(pickOrder (w.params.setOrder a ep) b).toList.map (·.2),λ_=>0,⟨?_,(n6 _ _).map _,λ{prog A E s o} i Q ho hd q hi=> ?_⟩,rfl⟩
  .rw[L9,(n6 _ _).length_eq,Ml]
  .have f:(gW (!w.params.followText "set-order") m).fits b.size=true:=by rw[p];exact fits g _
   unfold setNext;refine L8 (PQ ho hd f ?_);dsimp only;unfold setsByText;refine L8 (L8 (Oy (MC ?_)));rw[show(model prog w).w.params.followText "set-order"=true from d,MF rfl,ME (by simp)];unfold setWalk;refine L8 (L8 (PQ ho hd f ?_));dsimp only;unfold setsByText;refine L8 (L8 (Oy (MC ?_)));rw[show(model prog w).w.params.followText "set-order"=true from d,MF rfl];refine L8 (Oy (MC (MC ?_)));have:((pickOrder (w.params.setOrder a ep) b)[i]?).map (λe=>(e.2,0))=(((pickOrder (w.params.setOrder a ep) b).toList.map (·.2))[i]?).map λv=>(v,0):=by rw[MR,Nb];cases(pickOrder (w.params.setOrder a ep) b)[i]? <;>rfl
   rw[<- this]at q;exact q
 |false=>
  refine⟨b.toList.map (·.2),λi=>if i=0 then 0 else(lst m).getD (i-1) 0+1,⟨by simp,List.Perm.refl _,λ{prog A E s o} i Q ho hd q hi=> ?_⟩,rfl⟩;have f:(gW (!w.params.followText "set-order") m).fits b.size=true:=by rw[p];exact fits g _
  unfold setNext;refine L8 (PQ ho hd f ?_);dsimp only;unfold setsByText;refine L8 (L8 (Oy (MC ?_)));rw[show(model prog w).w.params.followText "set-order"=false from d,ME MI];rw[d]
  split
  .rename_i z
   exact absurd (show(false:Bool)=true from z) MI
  refine L8 ((MC ?_:wpAny (model prog w) A (pure ()) _ E _));have n:=Jw g;have t:(gW (!false) m).place=(lst m).toArray:=rfl;rw[t];have c:SetTable.below (lst m).toArray (if i=0 then 0 else(lst m).getD (i-1) 0+1)=i:=by
   rcases Ol i (lst m).length with h|h
   .exact n.1 i h
   .have e:i=(lst m).length:=by omega
    rw[e];exact n.2
  rw[c]
  have:(match b[i]?,(lst m).toArray[i]? with
   |some (_,x),some j=>some (x,j+1)|_,_=>none)=((b.toList.map (·.2))[i]?).map λv=>(v,if i+1=0 then 0 else(lst m).getD (i+1-1) 0+1):=by
   rw[MR,Nb]
   rcases Ol i b.size with h|h
   .have l:i<(lst m).length:=by omega
    rw[Op h,List.getElem?_toArray,MN l];simp[l]
   .rw[Array.getElem?_eq_none h,List.getElem?_toArray,NK (by omega)]
    rfl
  rw[<- this]at q;exact MC q
end
theorem nj:Slot "set_iterator" "__iter__" "set_iterator.__iter__" :=
 .of (owner:="set_iterator") (n:="__iter__") (by rw[PF,OS];kernel_rfl) (by decide +kernel) (by decide +kernel) (by decide +kernel)
  (by first|exact .inl (by decide +kernel)|exact .inr (by decide +kernel)) (by rw[PU];kernel_rfl)
theorem vV:entryFor table "set_iterator.__iter__"=some Builtin.«dict_keyiterator.__iter__» := entryFor_alias (id' :="dict_keyiterator.__iter__") (by kernel_rfl) rfl (by decide +kernel) (by kernel_rfl)
theorem zQ(a:Value):argsOk "set_iterator.__iter__" ⟨[a],[]⟩:=by
 unfold argsOk
 kernel_rfl
def zX(I a i n b j:Nat)(h:Heap):Prop:=∃o,h.get? I=some o/\o.cls=.type "set_iterator"/\o.data=.fields #[.int (j:Nat) 0,.int (i:Nat) 0,.ref a,.int (n:Nat) 0,.int (b:Nat) 0]
theorem zX.typeIs{s:Shared}(x:zX I a i n b j s.heap):s.TypeIs (.ref I) "set_iterator":=let⟨o,ho,hc,_⟩:=x;⟨o,ho,hc⟩
theorem zX.keep(x:zX I a i n c j h)(k:∀o,h.get? I=some o->b.get? I=some o):zX I a i n c j b:=let⟨o,ho,r⟩:=x;⟨o,k o ho,r⟩
section
variable{prog:Program}{w:World}{A:Around}
set_option tactic.hygienic true
set_option maxHeartbeats 3200000 in
theorem GI(hh:A.handled=none){I a m ep:Nat}{es:Array (Int×Value)}{vs:List Value}{sl:Nat->Nat}{so:Obj}(hne:a≠I)(hm:m<256)(he:fr es.toList m)(hd:so.data=.set es ep (gW (!w.params.followText "set-order") m))(O:Ord w a m ep es vs sl):
  Walks prog w A I [I,a] [I] vs.length (fun i v=>vs[i]? =some v) (fun i h=>zX I a i es.size ep (sl i) h/\h.get? a=some so) where
 sub:=fun b hb=>by simp at hb;simp[hb]
 frame:=fun _ _ _ st hk=>⟨st.1.keep fun o e=>hk I (by simp) o e,hk a (by simp) so st.2⟩
 item:=fun i s Q E hi st hQ=>by
  obtain⟨it,ha⟩:=st;obtain⟨o,ho,hc,hdt⟩:=id it;have hf:(gW (!w.params.followText "set-order") m).fits es.size=true:=by rw[show es.size=(lst m).length from he.len];exact fits hm _
  have hx:vs[i]? =some vs[i]:=MN hi;unfold pyNext;refine L8 (O7 (NM (name:=Str.ofString "__next__") it.typeIs cr (Mx cr it.typeIs mN ?_ (oz _))));unfold Builtin.«set_iterator.__next__»;refine L8 (m:=slotArgs _ _ _) (MC ?_);refine L8 (wpAny_fieldsOf ho hdt ?_);dsimp only;refine L8 (wpAny_setEntries_of ha hd hf ?_);rw[ME (by simp)];refine L8 (O.go i _ ha hd ?_ (by have:=O.len;omega));rw[hx];dsimp only[Option.map];refine L8 (N1 ho hdt (by simp) ?_);have e1:=M6 (Obj.mapFields (·.setIfInBounds 0 (rawInt (sl (i+1):Nat)))) ho (Nu (NL hdt _));have d1:=NL hdt (·.setIfInBounds 0 (rawInt (sl (i+1):Nat)));refine L8 (N1 e1 d1 (by simp) (MC ⟨_,rfl,MC ?_⟩));have e2:=M6 (Obj.mapFields (·.setIfInBounds 1 (rawInt ((i:Nat)+1)))) e1 (Nu (NL d1 _));refine hQ _ _ s.toks hx ⟨⟨_,e2,((PX ..).trans (PX ..)).trans hc,?_⟩,?_⟩ fun b ob hb e=> ?_
  .rw[NL d1]
   simp[rawInt]
  .rw[Mz _ _ (NZ hne),Mz _ _ (NZ hne)]
   exact ha
  .have nb:I≠b:=fun z=>hb (by simp[z])
   rw[Mz _ _ nb,Mz _ _ nb];exact e
 done:=fun s Q E st hQ=>by
  obtain⟨it,ha⟩:=st;obtain⟨o,ho,hc,hdt⟩:=id it;have hf:(gW (!w.params.followText "set-order") m).fits es.size=true:=by rw[show es.size=(lst m).length from he.len];exact fits hm _
  unfold pyNext;refine L8 (O7 (NM (name:=Str.ofString "__next__") it.typeIs cr (Mx cr it.typeIs mN ?_ (oz _))));unfold Builtin.«set_iterator.__next__»;refine L8 (m:=slotArgs _ _ _) (MC ?_);refine L8 (wpAny_fieldsOf ho hdt ?_);dsimp only;refine L8 (wpAny_setEntries_of ha hd hf ?_);rw[ME (by simp)];refine L8 (O.go vs.length _ ha hd ?_ (by have:=O.len;omega));rw[NK (MJ _)];dsimp only[Option.map];refine L8 (N1 ho hdt (by simp) ?_);refine L8 ?_;simp only[newExc,newTuple];refine L8 (M4 ?_ (by size_fits));refine L8 (m:=firstArgMember _ _) (OK (a:=Value.none) (by first|rfl|(simp only[firstArgMember];rfl)) ?_);refine M4 ?_ (by size_fits);simp only[raiseNew];refine L8 (wpAny_handled ?_);rw[show A.in1.handled=none from hh];refine L8 (MC (wpAny_throw ?_));refine L8 (Ox (T:="StopIteration") (b:=true) ⟨_,MW _ rfl,rfl⟩ isSubtype_stop ?_);refine MC (hQ _ s.toks fun b ob hb e=> ?_);have nb:b≠I:=fun z=>hb (by simp[z]);exact(((Nr ..).extBut.push _).push _) b ob nb e
 self:=fun i s Q E st hQ=>by
  refine On st.1.typeIs nj (Mx nj st.1.typeIs vV ?_ (zQ _));exact MC ⟨_,rfl,"set_iterator",_,st.1.typeIs,cr.lookup,hQ⟩
end
section
variable{prog:Program}{w:World}{A:Around}{E:Value->Shared->Prop}{s:Shared}
theorem IK(l:m<256)(n:fr c.toList m)(d:s.heap.get? a=some o)(e:o.ExactSet)(f:o.data=.set c j (gW (!w.params.followText "set-order") m))
  (h:Q (.ref s.heap.objs.size) {s with heap:=s.heap.push {cls:=.type "set_iterator",data:=.fields #[.int (0:Nat) 0,.int (0:Nat) 0,.ref a,.int (c.size:Nat) 0,.int (j:Nat) 0]}}):wpAny (model prog w) A (pyIter (.ref a)) Q E s:=by
 have k:s.TypeIs (.ref a) "set":=⟨o,d,e.1⟩;have i:(gW (!w.params.followText "set-order") m).fits c.size=true:=by rw[show c.size=(lst m).length from n.len];exact fits l _
 refine On k F.slot_set_iter (Mx F.slot_set_iter k vW ?_ (F.args_set_iter_1 _));unfold Builtin.«frozenset.__iter__»;refine L8 (m:=Builtin.Frozenset.slot0 _ _) (MC ?_);unfold Builtin.Frozenset.sizeOf;refine L8 (L8 (wpAny_setEntries_of d f i (MC ?_)));have g:wpAny (model prog w) A.in1 (setDrawn a) (λb s1=>b=false/\s1=s) E s:=by unfold setDrawn;refine L8 (PQ d f i ?_);dsimp only;unfold setsByText;refine L8 (L8 (Oy (MC (MC ⟨?_,rfl⟩))));cases(model prog w).w.params.followText "set-order";rfl;rfl
 refine L8 (Nj g (λb s1 hb=> ?_) λ_ _ x=>x);obtain⟨rfl,rfl⟩:=hb;rw[ME MI];refine L8 (MC (L8 (wpAny_setEpoch_of d f i ?_)));refine L8 (M4 (MC ⟨_,rfl,"set_iterator",_,⟨_,MW _ rfl,rfl⟩,cr.lookup,h⟩))
set_option tactic.hygienic true
set_option maxHeartbeats 3200000 in
theorem zJ{a m:Nat}{Q:List Value->Shared->Prop}(hh:A.handled=none)(hm:m<256)(hS:SX w a m s.heap)
  (h:∀(s' :Shared)(vs:List Value),vs.map kU=vs.map kU->(vs.map kU).Perm ((lst m).map fun v:Nat=>some (v:Int))->(∀b o,s.heap.get? b=some o->s'.heap.get? b=some o)->s.heap.objs.size<s'.heap.objs.size->s'.gens=s.gens->s'.drawn=s.drawn->s'.os=s.os->Q vs s'):
  wpAny (model prog w) A (collect (.ref a)) Q E s:=by
 obtain⟨o,es,ep,ho,hex,hd,he⟩:=hS;obtain⟨vs,sl,O,hs0⟩:=KW (w:=w) (a:=a) (ep:=ep) hm he;have ha:a<s.heap.objs.size:=MY ho;have hz:es.size=(lst m).length:=he.len;have h8:(lst m).length<=8:=by
  unfold lst;exact Mq (Mu _ _) (by simp)
 have hvl:vs.length<=8:=by rw[O.len,hz];exact h8
 unfold collect;refine L8 (wpAny_runValue (N6 F.entry_proto_collect ?_));rw[OZ F.plain_proto_collect _];show wpAny _ A.in1 (newList [] >>= fun l=>again (.builtin "list.__iadd__" ⟨[l,.ref a],[]⟩)) _ _ s;refine L8 (M4 (MC ⟨P4 F.plain_list_iadd _,N6 F.entry_list_iadd ?_⟩));rw[OZ F.plain_list_iadd _]
 generalize hL:({cls:=.type "list",data:=.seq ([]:List Value).toArray}:Obj)=L0
 have k1:(s.heap.push L0).get? a=some o:=MD _ ho;have k2:(s.heap.push L0).get? s.heap.objs.size=some L0:=MW _ (by rw[<- hL];rfl);have hT:Shared.TypeIs {s with heap:=s.heap.push L0} (.ref a) "set":=⟨o,k1,hex.1⟩;show wpAny _ A.in1 (Builtin.List.listExtendWith (.ref s.heap.objs.size) (.ref a) (.ref s.heap.objs.size)) _ _ _;unfold Builtin.List.listExtendWith;refine L8 (PP hT ?_);have n1:Builtin.List.listSameRef (.ref s.heap.objs.size) (.ref a)=false:=by
  simp only[Builtin.List.listSameRef,N0];exact Nd ha
 rw[ME (by rw[n1];decide)];refine L8 (IK (s:={s with heap:=s.heap.push L0}) hm he k1 hex hd ?_);dsimp only;rw[show(s.heap.push L0).objs.size=s.heap.objs.size+1 from N2 _ _]
 generalize hI:({cls:=.type "set_iterator",data:=.fields #[.int (0:Nat) 0,.int (0:Nat) 0,.ref a,.int (es.size:Nat) 0,.int (ep:Nat) 0]}:Obj)=I0
 have sz:(s.heap.push L0).objs.size=s.heap.objs.size+1:=N2 _ _;have j0:((s.heap.push L0).push I0).get? (s.heap.objs.size+1)=some I0:=by rw[<- sz];exact MW _ (by rw[<- hI];rfl)
 have j1:((s.heap.push L0).push I0).get? a=some o:=MD _ k1;have j2:((s.heap.push L0).push I0).get? s.heap.objs.size=some L0:=MD _ k2;have hT2:Shared.TypeIs {s with heap:=(s.heap.push L0).push I0} (.ref a) "set":=⟨o,j1,hex.1⟩;have hhint:wpAny (model prog w) A.in1 (Builtin.List.listLengthHint (.ref a)) (fun b s1=>s1={s with heap:=(s.heap.push L0).push I0}) E {s with heap:=(s.heap.push L0).push I0}:=by
  unfold Builtin.List.listLengthHint;refine L8 (Of hT2 F.slot_set_len.lookup ?_)
  (generalize aU:("set.__len__":String)=id0;(fail_if_success (clear aU id0));wp_delta;rw[show splitId id0=some ("set","__len__")from by subst aU;decide +kernel];subst aU)
  refine L8 (Ox (b:=true) hT2 (by rw[PU];kernel_rfl) ?_);rw[ME (show¬((!true)=true)from MI)];dsimp only;rw[MF (by decide)];refine L8 (PP hT2 ?_);exact MC rfl
 refine L8 (NR (Nj hhint (fun b s1 hb=> ?_) fun _ _ x=>x));subst hb
 split
 case isFalse z=>
  refine absurd ?_ z;rw[No];exact .inr (by decide)
 refine L8 (PJ ?_);have hW:=GI (prog:=prog) (w:=w) (A:=A.in1) hh (I:=s.heap.objs.size+1) (a:=a) (so:=o) (by omega) hm he hd O;have u1:=M6 (Obj.mapSeq (·.push Value.none)) j2 (by rw[<- hL];rfl);refine L8 ?_;show wpAny _ A.in1 (updateSeq s.heap.objs.size (·.push .none) >>= fun _=>updateSeq s.heap.objs.size (·.pop)) _ _ _;subst hL;refine L8 (wpAny_updateSeq j2 rfl ?_);refine wpAny_updateSeq u1 rfl ?_;have u2:=M6 (Obj.mapSeq (·.pop)) u1 rfl
 have oth:∀b ob,b≠s.heap.objs.size->((s.heap.push {cls:=.type "list",data:=.seq ([]:List Value).toArray}).push I0).get? b=some ob ->
   ((((s.heap.push {cls:=.type "list",data:=.seq ([]:List Value).toArray}).push I0).update s.heap.objs.size (Obj.mapSeq (·.push Value.none))).update s.heap.objs.size (Obj.mapSeq (·.pop))).get? b=some ob:=fun b ob nb e=>by
  rw[Mz _ _ (NZ nb),Mz _ _ (NZ nb)];exact e
 have nf:s.heap.objs.size∉[s.heap.objs.size+1,a]:=by
  simp only[MP,M9,OP,Pa];exact⟨by omega,Nd ha⟩
 refine MC ⟨P4 F.plain_extend_loop _,codeAny_extend_loopS hW.toS (by rw[M8];omega) _ nf _ vs.length 0 _ _ _ rfl (Mk _) ⟨⟨I0,oth _ _ (by omega) j0,by rw[<- hI],by rw[<- hI,hs0]⟩,oth _ _ (Md ha) j1⟩ u2 (ItemsOf.nil _) fun s' acc c mv hacc his=> ?_⟩;show wpAny _ A (load s.heap.objs.size >>= _) _ _ s';refine L8 (wpAny_load hacc ?_);have eacc:acc.toList=vs:=by
  apply Pp
  intro i;rw[Nb];cases e:acc[i]? with
  | some v=>exact(his.2 i v e).symm
  | none=>
   have:acc.size<=i:=by simpa using e
   rw[his.1]at this;exact(NK this).symm
 show wpAny _ _ (pure acc.toList) _ _ _;rw[eacc];refine MC (h s' vs rfl ?_ (fun b ob e=> ?_) (MY hacc) mv.gens mv.drawn mv.os)
 .have:=O.perm.map kU
  refine this.trans (List.Perm.of_eq ?_);rw[Mg];have z:=Mw (List.map Prod.snd) he;rw[Mg,Mg]at z;exact z
 .have hb:=MY e
  refine mv.heap b ob ?_ (oth b ob (Md hb) (MD _ (MD _ e)));simp only[MP,M9,OP,Pa];exact⟨Md hb,Md (NT hb)⟩
end
end SQ
namespace SQ
open PySem PyProof.Rows
set_option tactic.hygienic false
theorem xJ:∀{a:List Value}{b:List Int},a.map kU=b.map some->IntsAre a b
 |[],[],_=>.nil|[],_::_,h=>by cases h|_::_,[],h=>by cases h|v::a,n::b,h=>by
  rw[MM,MM]at h
  injection h with h1 h2
  obtain⟨t,rfl⟩:=oB h1;exact .cons n t (xJ h2)
theorem lu(m:Nat):(lst m).Pairwise (·<·):=by unfold lst;exact List.Pairwise.filter _ (List.pairwise_lt_range)
section
variable{prog:Program}{w:World}{A:Around}{E:Value->Shared->Prop}{s:Shared}
theorem AQ(hh:A.handled=none)(hm:m<256)(hS:SX w a m s.heap)
  (h:∀(s' :Shared)(D c:Nat)(out:Array Value),IntsAre out.toList ((lst m).map λv:Nat=>(v:Int))->s.heap.objs.size<=D->s'.heap.get? D=some (seqObj "list" out c)->(∀b o,s.heap.get? b=some o->s'.heap.get? b=some o)->s'.gens=s.gens->s'.drawn=s.drawn->s'.os=s.os->Q (.ref D) s'):
  wpAny (model prog w) A (call (.builtin "sorted") [.ref a]) Q E s:=by
 have h8:(lst m).length<=8:=by unfold lst;exact Mq (Mu _ _) (by simp)
 refine Pz kind_sorted plain_sorted entry_sorted (args_sorted1 _) ?_;unfold Builtin.«sorted»;refine L8 (m:=checkCount "sorted" 1 1 _) (MC ?_);refine L8 (zJ (A:=A.in1) hh hm hS λs1 vs _ pm old lt g d os=> ?_);obtain⟨ns,en,pn⟩:∃ns:List Int,vs.map kU=ns.map some/\ns.Perm ((lst m).map λv:Nat=>(v:Int)):=by
  have:∀(ys:List (Option Int))(xs:List Int),ys.Perm (xs.map some)->∃ns:List Int,ys=ns.map some/\ns.Perm xs:=by
   intro ys xs p;refine⟨ys.filterMap id,?_,?_⟩
   .have hall:∀y∈ys,y.isSome=true:=λy hy=>by
     obtain⟨x,-,rfl⟩:=MG.mp (p.mem_iff.mp hy);rfl
    clear p
    induction ys with
    |nil=>rfl|cons y r ih=>
     cases y with
     |none=>exact absurd (hall none MB) (by simp)|some v=>rw[List.filterMap_cons_some (by rfl),MM,<-ih λz hz=>hall z (MA _ hz)]
   .have:=p.filterMap id
    rw[List.filterMap_map]at this
    simpa using this
  refine this _ _ (pm.trans (List.Perm.of_eq ?_));rw[Mg];rfl
 have hI:=xJ en;have hl:vs.length<64:=by have e1:=Mw List.length en;rw[L9,L9]at e1;have e2:=pn.length_eq;rw[L9]at e2;omega
 refine L8 (Pe ?_);have ho:(s1.heap.push (seqObj "list" vs.toArray 0)).get? s1.heap.objs.size=some (seqObj "list" vs.toArray 0):=MW _ rfl;refine L8 (NR (Mx slot_list_sort ⟨_,ho,rfl⟩ entry_list_sort (list_sort_tree ho hI hl λout ns' a1 a2 a3=>⟨_,rfl,?_⟩) (args_list_sort _)));have e:ns' =(lst m).map λv:Nat=>(v:Int):=by refine Pu (le:=(·<=·)) (λa b _ _ h1 h2=>Int.le_antisymm h1 h2) a3 ?_ (a2.trans pn);rw[OR];exact(lu m).imp λz=>by omega
 subst e;obtain⟨c,hc⟩:=sortedHeap_at (vs:=vs) (out:=out) ho;refine MC ⟨_,rfl,h _ _ c out a1 (Ob lt) hc (λb o z=> ?_) g d os⟩;have hb:=MY (old b o z);rw[sortedHeap_old (Md hb) (by rw[N2];exact NT hb)];exact MD _ (old b o z)
end
end SQ
namespace L2
open PySem PySem.Spec PyProof.Rows
noncomputable def maskOf(a:List Int):Nat:=SQ.pH (λi=>(a.getD i 0).toNat) a.length 0 0
noncomputable def cF(a:List Int):List Int:=(SQ.lst (maskOf a)).map λv:Nat=>(v:Int)
set_option tactic.hygienic false
theorem wS(f:Nat->Nat):∀(k i m:Nat),(∀j,j<k->f (i+j)<8)->m<256->SQ.pH f k i m<256
 |0,_,m,_,h=>h|k+1,i,m,hf,h=>by unfold SQ.pH;refine wS f k (i+1) _ (λj hj=> ?_) (SQ.ER h (hf 0 (by omega)) true).2;have:=hf (j+1) (by omega);rw[show i+1+j=i+(j+1)by omega];exact this
theorem xA(h:∀n∈a,0<=n/\n<8):maskOf a<256:=by
 unfold maskOf;refine wS _ _ _ _ (λj hj=> ?_) (by omega);rw[Nc];have:a.getD j 0∈a:=by rw[ML,MN hj];exact OA hj
 have:=h _ this;omega
section
variable{X:Cx}
theorem oa(hc:X.calm=true):bS X (.type "set") (λxs H Q=>∃(p:Addr)(ns:List Int),xs=[.ref p]/\bQ X.K H p (ns.map V.int)/\(∀n∈ns,0<=n/\n<8)/\∀a,H a=none->Q (.ref a) (upd H a (.ext (SQ.SX X.w a (maskOf ns))))):=by
 intro pins s σ H xs us Q I r h;obtain⟨p,ns,rfl,hq,h8,q⟩:=h;obtain⟨u,rfl,rx⟩:=vals1 r;cases rx;obtain⟨its,r',pl,hz⟩:=I.list hq;have hlen:=r'.length;rw[L9]at hlen;refine SQ.KC (f:=λi=>(ns.getD i 0).toNat) (I.ok.hd hc) pl.isList (λi v hv=> ?_) λh' tk hS old=> ?_
 .have hv:its[i]? =some v:=by simpa using hv
  obtain⟨t,e⟩:=j9 r' hv;have hi:i<ns.length:=by have:=(MV.mp hv).1;omega
  have hm:ns.getD i 0∈ns:=by rw[ML,MN hi];exact OA hi
  have:=h8 _ hm;refine⟨by omega,t,?_⟩;rw[e]
  congr 1
  omega
 .have ez:its.toArray.size=ns.length:=by rw[MQ,hlen]
  rw[ez]at hS;refine⟨.ref s.heap.objs.size,_,I.laid (t' :=tk) (o:=.ext (SQ.SX X.w s.heap.objs.size (maskOf ns))) (λb o z=>old b o (MY z) z) (MJ _) ⟨hS,?_,λh1 h2 x k=>x.at k⟩,rfl,q _ (I.hok.fresh (MJ _))⟩;obtain⟨o,es,ep,ho,_⟩:=hS;exact⟨o,ho⟩
theorem Inv.ext(I:Inv X b d H s)(h:H a=some (.ext c)):c s.heap:=(show al X.prog X.w H s.heap a (.ext c)from I.hok a _ h).1
theorem jq(hc:X.calm=true):bS X (.builtin "sorted") (λxs H Q=>∃(p:Addr)(m:Nat),xs=[.ref p]/\m<256/\H p=some (.ext (SQ.SX X.w p m))/\∀a,H a=none->Q (.ref a) (upd H a (.lst ((SQ.lst m).map λv:Nat=>V.int (v:Int))))):=by
 intro pins s σ H xs us Q I r h;obtain⟨p,m,rfl,hm,hp,q⟩:=h;obtain⟨u,rfl,rx⟩:=vals1 r;cases rx;refine SQ.AQ (I.ok.hd hc) hm (I.ext hp) λs' D c out a1 le hD old g d os=> ?_;obtain⟨h',g',d',tk',os'⟩:=s';dsimp only at g d os hD old;subst g d os;refine⟨.ref D,_,I.laid (t' :=tk') (o:=.lst ((SQ.lst m).map λv:Nat=>V.int (v:Int))) (λb o z=>old b o z) le ?_,rfl,q _ (I.hok.fresh le)⟩;have h8:(SQ.lst m).length<=8:=by unfold SQ.lst;exact Mq (Mu _ _) (by simp)
 refine⟨by rw[L9,M8];omega,out.toList,c,?_,by simpa [seqObj]using hD⟩;have:=cX a1;rw[Mg]at this;exact this
theorem nS:bS X (.builtin "len") (λxs H Q=>∃(p:Addr)(m:Nat),xs=[.ref p]/\m<256/\H p=some (.ext (SQ.SX X.w p m))/\Q (.int ((SQ.lst m).length:Nat)) H):=by
 intro pins s σ H xs us Q I r h;obtain⟨p,m,rfl,hm,hp,q⟩:=h;obtain⟨u,rfl,rx⟩:=vals1 r;cases rx;obtain⟨o,es,ep,ho,hex,hd,he⟩:=I.ext hp;have hz:es.size=(SQ.lst m).length:=he.len;have h8:(SQ.lst m).length<=8:=by unfold SQ.lst;exact Mq (Mu _ _) (by simp)
 refine PySem.call_len_set ho hex hd (by rw[hz];exact SQ.fits hm _) (by omega) ?_;refine⟨.int ((SQ.lst m).length:Nat),H,I.kept (t' :=s.toks+1+1) (λb o e=>e),?_,q⟩;rw[hz];exact⟨_,rfl⟩
end
end L2
namespace SW
open PySem.W PyProof.Rows
noncomputable def run{b:Type}(f:Nat->Nat->Bool):KasT b->b
 | .ret a=>a| .ask i j k=>run f (k (f i j))
set_option tactic.hygienic false
theorem eO{a b:Type}(f:Nat->Nat->Bool)(g:a->KasT b):∀t:KasT a,run f (t.bind g)=run f (g (run f t))
 | .ret _=>rfl| .ask i j k=>eO f g (k (f i j))
section
variable(key:Nat->Int)
noncomputable def F:Nat->Nat->Bool:=λi j=>decide (key i<key j)
noncomputable def K(p:Array Nat)(i:Nat):Int:=key (p.getD i 0)
def zh(p:Array Nat)(k:Nat):Prop:=∀i,i+1<k->K key p i<=K key p (i+1)
def Fh(p:Array Nat)(k:Nat):Prop:=∀i,i+1<k->K key p (i+1)<=K key p i
variable{key}
theorem zh.le{p:Array Nat}{k:Nat}(h:zh key p k):∀(d i:Nat),i+d<k->K key p i<=K key p (i+d)
 |0,_,_=>Pq _|d+1,i,hk=>Int.le_trans (zh.le h d i (by omega)) (h (i+d) (by omega))
theorem zh.mono(h:zh key p k)(a:i<=j)(b:j<k):K key p i<=K key p j:=by
 have:=h.le (j-i) i (by omega)
 rwa [show i+(j-i)=j by omega]at this
theorem Fh.le{p:Array Nat}{k:Nat}(h:Fh key p k):∀(d i:Nat),i+d<k->K key p (i+d)<=K key p i
 |0,_,_=>Pq _|d+1,i,hk=>Int.le_trans (h (i+d) (by omega)) (Fh.le h d i (by omega))
theorem Fh.mono(h:Fh key p k)(a:i<=j)(b:j<k):K key p j<=K key p i:=by
 have:=h.le (j-i) i (by omega)
 rwa [show i+(j-i)=j by omega]at this
theorem Cw(a:j<=p.size)(x:Nat):K key (kas_rev p i j) x=if i<=x/\x<j then K key p (i+j-1-x)else K key p x:=by
 unfold K kas_rev;rw[NU,getElem?_mirror_all a]
 split;rw[NU];rw[NU]
theorem asc(p:Array Nat):∀k n,n<=run (F key) (kas_asc p k n)/\run (F key) (kas_asc p k n)<=n+k/\(∀i,n<=i->i<run (F key) (kas_asc p k n)->K key p (i-1)<=K key p i) /\ (run (F key) (kas_asc p k n)<n+k->K key p (run (F key) (kas_asc p k n))<K key p (run (F key) (kas_asc p k n)-1))
 |0,n=>⟨MJ _,MJ _,λi h1 h2=>absurd (show i<n from h2) (by omega),λh=>absurd (show n<n+0 from h) (by omega)⟩|k+1,n=>by
  have e:run (F key) (kas_asc p (k+1) n)=if K key p n<K key p (n-1)then n else run (F key) (kas_asc p k (n+1)):=by
   show run (F key) (if F key (p.getD n 0) (p.getD (n-1) 0)=true then .ret n else kas_asc p k (n+1))=_;unfold F K
   by_cases c:key (p.getD n 0)<key (p.getD (n-1) 0)
   .rw[MF (by simpa using c),MF c]
    rfl
   .rw[ME (by simpa using c),ME c]
  rw[e]
  by_cases c:K key p n<K key p (n-1)
  .rw[MF c]
   exact⟨MJ _,by omega,λi h1 h2=>by omega,λ_=>c⟩
  .rw[ME c]
   obtain⟨f,d,a,b⟩:=asc p k (n+1);refine⟨by omega,by omega,λi h1 h2=> ?_,λh=>b (by omega)⟩
   rcases Ol n i with h|h
   .exact a i h h2
   .have:i=n:=by omega
    subst this;omega
set_option tactic.hygienic true
structure Dn(p:Array Nat)(n q:Nat):Prop where
 one:q+1<=n
 sz:n<=p.size
 fal:Fh key p n
 eqs:∀i,n-(q+1)<=i->i<n->K key p i=K key p (n-1)
theorem iQ(p:Array Nat)(i j:Nat):(kas_rev p i j).size=p.size:=mirror_size _ _ _ _
theorem mw(a:j<=p.size)(h:∀x,i<=x->x<j->K key p x=K key p (j-1))(x:Nat):K key (kas_rev p i j) x=K key p x:=by
 rw[Cw a]
 split
 .rename_i c
  rw[h (i+j-1-x) (by omega) (by omega),h x c.1 c.2]
 .rfl
set_option tactic.hygienic false
theorem Er:∀(k:Nat)(p:Array Nat)(n q:Nat),Dn (key:=key) p n q->n+k<=p.size -> Dn (key:=key) (run (F key) (kas_desc k p n q)).1 (run (F key) (kas_desc k p n q)).2.1 (run (F key) (kas_desc k p n q)).2.2/\(run (F key) (kas_desc k p n q)).1.Perm p/\(run (F key) (kas_desc k p n q)).2.1<=n+k
 |0,p,n,q,h,_=>⟨h,Pc _,MJ _⟩|k+1,p,n,q,h,hk=>by
  have h1:=h.one;have e:run (F key) (kas_desc (k+1) p n q)=if K key p n<K key p (n-1)then(if q>0 then run (F key) (kas_desc k (kas_rev p (n-(q+1)) n) (n+1) 0)else run (F key) (kas_desc k p (n+1) 0))else if K key p (n-1)<K key p n then(p,n,q)else run (F key) (kas_desc k p (n+1) (q+1)):=by
   show run (F key) (if F key (p.getD n 0) (p.getD (n-1) 0)=true then(if q>0 then kas_desc k (kas_rev p (n-(q+1)) n) (n+1) 0 else kas_desc k p (n+1) 0)else .ask (p.getD (n-1) 0) (p.getD n 0) λd=>if d=true then .ret (p,n,q)else kas_desc k p (n+1) (q+1))=_
   by_cases c:K key p n<K key p (n-1)
   .rw[MF (show F key (p.getD n 0) (p.getD (n-1) 0)=true by simpa [F,K]using c),MF c]
    split<;>rfl
   .rw[ME (show¬F key (p.getD n 0) (p.getD (n-1) 0)=true by simpa [F,K]using c),ME c]
    show run (F key) (if F key (p.getD (n-1) 0) (p.getD n 0)=true then .ret (p,n,q)else kas_desc k p (n+1) (q+1))=_
    by_cases d:K key p (n-1)<K key p n
    .rw[MF (show F key (p.getD (n-1) 0) (p.getD n 0)=true by simpa [F,K]using d),MF d]
     rfl
    .rw[ME (show¬F key (p.getD (n-1) 0) (p.getD n 0)=true by simpa [F,K]using d),ME d]
  have longer:∀p' :Array Nat,p'.size=p.size->(∀x,K key p' x=K key p x)->K key p n<=K key p (n-1)->Fh key p' (n+1):=λp' z kk c i hi=>by
   rw[kk,kk]
   rcases Ol (i+1) n with y|y
   .exact h.fal i y
   .have:i=n-1:=by omega
    subst this;rw[show n-1+1=n by omega];exact c
  have new:∀p' :Array Nat,p'.size=p.size->(∀x,K key p' x=K key p x)->K key p n<=K key p (n-1)->Dn (key:=key) p' (n+1) 0:=λp' z kk c=>
   ⟨by omega,by omega,longer p' z kk c,λi i1 i2=>by
    have:i=n+1-1:=by omega
    rw[this]⟩
  rw[e]
  by_cases c:K key p n<K key p (n-1)
  .rw[MF c]
   by_cases hq:q>0
   .rw[MF hq]
    have kk:=mw (key:=key) (i:=n-(q+1)) h.sz h.eqs;obtain⟨a1,a2,a3⟩:=Er k (kas_rev p (n-(q+1)) n) (n+1) 0 (new _ (iQ _ _ _) kk (by omega)) (by rw[iQ];omega);exact⟨a1,a2.trans (PH _ _ _ _),by omega⟩
   .rw[ME hq]
    obtain⟨a1,a2,a3⟩:=Er k p (n+1) 0 (new p rfl (λ_=>rfl) (by omega)) (by omega);exact⟨a1,a2,by omega⟩
  .rw[ME c]
   by_cases d:K key p (n-1)<K key p n
   .rw[MF d]
    exact⟨h,Pc _,by dsimp only;omega⟩
   .rw[ME d]
    obtain⟨a1,a2,a3⟩:=Er k p (n+1) (q+1) ⟨by omega,by omega,longer p rfl (λ_=>rfl) (by omega),λi i1 i2=>by
     have z:K key p n=K key p (n-1):=by omega
     rw[show n+1-1=n by omega,z]
     rcases Ol i n with y|y
     .exact h.eqs i (by omega) y
     .have:i=n:=by omega
      rw[this,z]⟩ (by omega)
    exact⟨a1,a2,by omega⟩
def Good(p:Array Nat)(a:Nat)(r:Nat×Array Nat):Prop:=1<=r.1/\r.1<=a/\zh key r.2 r.1/\r.2.Perm p
theorem tail3(d:1<=n)(g:n<=nrem)(e:nrem<=p.size)(b:Fh key p n):Good (key:=key) p nrem (run (F key) (kas_tail3 n nrem p)):=by
 unfold kas_tail3;rw[eO];obtain⟨h,f,c,-⟩:=asc (key:=key) (kas_rev p 0 n) (nrem-n) n;refine⟨by show 1<=run (F key) (kas_asc (kas_rev p 0 n) (nrem-n) n);omega,by show run (F key) (kas_asc (kas_rev p 0 n) (nrem-n) n)<=nrem;omega,λi a=> ?_,PH _ _ _ _⟩;show K key (kas_rev p 0 n) i<=K key (kas_rev p 0 n) (i+1);have a:i+1<run (F key) (kas_asc (kas_rev p 0 n) (nrem-n) n):=a
 rcases Ol (i+1) n with y|y
 .rw[Cw (by omega),Cw (by omega),MF (by omega),MF (by omega)]
  exact b.mono (by omega) (by omega)
 .have:=c (i+1) y a
  rwa [show i+1-1=i by omega]at this
theorem descPart(s:1<=n)(t:n+1<=nrem)(u:nrem<=p.size)(q:Fh key p (n+1)):Good (key:=key) p nrem (run (F key) (kas_descPart n nrem p)):=by
 unfold kas_descPart;rw[eO];obtain⟨d,a,l⟩:=Er (key:=key) (nrem-(n+1)) p (n+1) 0 ⟨by omega,by omega,q,λi i1 i2=>by
  have:i=n+1-1:=by omega
  rw[this]⟩ (by omega)
 generalize run (F key) (kas_desc (nrem-(n+1)) p (n+1) 0)=r at d a l
 obtain⟨e,b,j⟩:=r;dsimp only at d a l ⊢;have m:=d.one;have o:e.size=p.size:=a.size_eq
 split
 .have k:=mw (key:=key) (i:=b -(j +1)) d.sz d.eqs
  obtain⟨f,g,c,h⟩:=tail3 (key:=key) (p:=kas_rev e (b -(j +1)) b) (n:=b) (nrem:=nrem) (by omega) (by omega) (by rw[iQ];omega) (λi hi=>by rw[k,k];exact d.fal i hi);exact⟨f,g,c,(h.trans (PH _ _ _ _)).trans a⟩
 .obtain⟨f,g,c,h⟩:=tail3 (key:=key) (p:=e) (n:=b) (nrem:=nrem) (by omega) (by omega) (by omega) d.fal
  exact⟨f,g,c,h.trans a⟩
theorem count(w:1<=a)(t:a<=p.size):Good (key:=key) p a (run (F key) (kas_count a p)):=by
 unfold kas_count;rw[eO];obtain⟨f,u,m,l⟩:=asc (key:=key) p (a-1) 1
 generalize run (F key) (kas_asc p (a-1) 1)=n at f u m l
 have d:zh key p n:=λi hi=>by
  have:=m (i+1) (by omega) hi
  rwa [show i+1-1=i by omega]at this
 by_cases e:n=a
 .rw[MF (by simpa using e)]
  exact⟨f,by show n<=a;omega,d,Pc _⟩
 .rw[ME (by simpa using e)]
  have g:=l (by omega)
  by_cases h:n>1
  .rw[MF h]
   show Good p a (run (F key) (if F key (p.getD 0 0) (p.getD (n-1) 0)=true then .ret (n,p)else kas_descPart n a (kas_rev p 0 n)))
   by_cases c:K key p 0<K key p (n-1)
   .rw[MF (show F key (p.getD 0 0) (p.getD (n-1) 0)=true by simpa [F,K]using c)]
    exact⟨f,by show n<=a;omega,d,Pc _⟩
   .rw[ME (show¬F key (p.getD 0 0) (p.getD (n-1) 0)=true by simpa [F,K]using c)]
    have b:∀x,0<=x->x<n->K key p x=K key p (n-1):=λx _ hx=>by have z:=d.mono (show 0<=x by omega) hx;have v:=d.mono (show x<=n-1 by omega) (by omega);omega
    have k:=mw (key:=key) (i:=0) (j:=n) (by omega) b;obtain⟨q,r,o,s⟩:=descPart (key:=key) (p:=kas_rev p 0 n) (n:=n) (nrem:=a) f (by omega) (by rw[iQ];omega) (λi hi=>by
     rw[k,k]
     rcases Ol (i+1) n with y|y
     .rw[b (i+1) (by omega) y,b i (by omega) (by omega)]
      exact Pq _
     .have:i=n-1:=by omega
      subst this;rw[show n-1+1=n by omega];omega)
    exact⟨q,r,o,s.trans (PH _ _ _ _)⟩
  .rw[ME h]
   have:n=1:=by omega
   subst this;exact descPart (key:=key) (by omega) (by omega) t (λi hi=>by
    have:i=0:=by omega
    subst this;have g:K key p (0+1)<K key p 0:=g;exact Int.le_of_lt g)
theorem G8{p:Array Nat}{n:Nat}(a:zh key p n):∀(k l r:Nat),l<=r->r<=n->r-l<=k->(∀i,i<l->K key p i<=K key p n)->(∀i,r<=i->i<n->K key p n<K key p i) -> run (F key) (kas_place p n k l r)<=n/\(∀i,i<run (F key) (kas_place p n k l r)->K key p i<=K key p n)/\∀i,run (F key) (kas_place p n k l r)<=i->i<n->K key p n<K key p i
 |0,l,r,lr,rn,hk,h1,h2=>by
  have:l=r:=by omega
  subst this;exact⟨rn,h1,h2⟩
 |k+1,l,r,lr,rn,hk,h1,h2=>by
  unfold kas_place
  by_cases e:l ≥ r
  .have:l=r:=by omega
   subst this;rw[MF e];exact⟨rn,h1,h2⟩
  .rw[ME e]
   have d:(l+r)/2<r:=by omega
   have b:l<=(l+r)/2:=by omega
   show run (F key) (if F key (p.getD n 0) (p.getD ((l+r)/2) 0)=true then kas_place p n k l ((l+r)/2)else kas_place p n k ((l+r)/2+1) r)<=n/\_;show(λt=>run (F key) t<=n/\(∀i,i<run (F key) t->K key p i<=K key p n)/\∀i,run (F key) t<=i->i<n->K key p n<K key p i) (if F key (p.getD n 0) (p.getD ((l+r)/2) 0)=true then kas_place p n k l ((l+r)/2)else kas_place p n k ((l+r)/2+1) r)
   by_cases c:K key p n<K key p ((l+r)/2)
   .rw[MF (show F key (p.getD n 0) (p.getD ((l+r)/2) 0)=true by simpa [F,K]using c)]
    refine G8 a k l ((l+r)/2) b (by omega) (by omega) h1 λi i1 i2=> ?_;exact Int.lt_of_lt_of_le c (a.mono i1 i2)
   .rw[ME (show¬F key (p.getD n 0) (p.getD ((l+r)/2) 0)=true by simpa [F,K]using c)]
    refine G8 a k ((l+r)/2+1) r (by omega) rn (by omega) (λi hi=> ?_) h2;exact Int.le_trans (a.mono (show i<=(l+r)/2 by omega) (by omega)) (by omega)
theorem Lu(a:n<p.size)(b:L<=n)(x:Nat):K key (bubble p n (n-L)) x=if x=L then K key p n else if L<x/\x<=n then K key p (x-1)else K key p x:=by
 unfold K;rw[NU,getElem?_bubble a _ (by omega),show n-(n-L)=L by omega];rw[NU (i:=n),NU (i:=x-1),NU (i:=x)]
 split;rfl
 .split
  .rfl
  .rfl
theorem bin:∀(k:Nat)(p:Array Nat)(n:Nat),n+k<=p.size->zh key p n->zh key (run (F key) (kas_bin k p n)) (n+k)/\(run (F key) (kas_bin k p n)).Perm p
 |0,p,n,_,h=>⟨h,Pc _⟩|k+1,p,n,hk,h=>by
  unfold kas_bin;rw[eO];obtain⟨b,d,a⟩:=G8 (key:=key) h n 0 n (by omega) (by omega) (by omega) (λi hi=>by omega) (λi i1 i2=>by omega)
  generalize run (F key) (kas_place p n n 0 n)=L at b d a
  have f:=Lu (key:=key) (p:=p) (n:=n) (L:=L) (by omega) b;have m:zh key (bubble p n (n-L)) (n+1):=λi hi=>by
   rw[f,f]
   by_cases e:i=L
   .rw[MF e,ME (by omega),MF (by omega)]
    have:=a (i+1-1) (by omega) (by omega);omega
   .rw[ME e]
    by_cases g:i+1=L
    .rw[MF g,ME (by omega)]
     exact d i (by omega)
    .rw[ME g]
     by_cases c:L<i/\i<=n
     .rw[MF c,MF (by omega)]
      exact h.mono (by omega) (by omega)
     .rw[ME c,ME (by omega)]
      exact h.mono (by omega) (by omega)
  obtain⟨j,l⟩:=bin k (bubble p n (n-L)) (n+1) (by rw[bubble_size];omega) m;exact⟨by rw[show n+(k+1)=n+1+k by omega];exact j,l.trans (bubble_perm _ _ _)⟩
theorem sort(h:1<=n):(run (F key) (kas_sort n)).toList.Perm (List.range n)/\((run (F key) (kas_sort n)).toList.map key).Pairwise (·<=·):=by
 have a:(run (F key) (kas_sort n)).Perm (List.toArray (List.range n))/\zh key (run (F key) (kas_sort n)) n:=by
  unfold kas_sort;rw[eO];obtain⟨o,s,f,b⟩:=count (key:=key) (p:=List.toArray (List.range n)) h (by simp)
  generalize run (F key) (kas_count n (List.toArray (List.range n)))=r at o s f b
  have t:r.2.size=n:=by rw[b.size_eq];simp
  split
  .have:max r.1 1=r.1:=by omega
   rw[this];obtain⟨l,m⟩:=bin (key:=key) (n-r.1) r.2 r.1 (by omega) f;exact⟨m.trans b,by rw[show n=r.1+(n-r.1)by omega];rw[show r.1+(n-r.1)-r.1=n-r.1 by omega];exact l⟩
  .have:r.1=n:=by omega
   exact⟨b,by rw[<- this];exact f⟩
 obtain⟨g,k⟩:=a;have c:=Array.perm_iff_toList_perm.mp g;refine⟨by simpa using c,?_⟩
 generalize run (F key) (kas_sort n)=p at g k c
 have u:p.toList.length=n:=by rw[c.length_eq];simp
 rw[Pk];intro i j e d q;rw[L9]at e d;rw[OB,OB];have:=k.mono (show i<=j by omega) (by omega);unfold K at this;rw[Ml]at e d
 simpa [Array.getD,e,d]using this
end
end SW
namespace SW
open PySem PySem.W PyProof.Rows
def Ok{c:Type}(n:Nat)(P:c->Prop):KasT c->Prop
 | .ret a=>P a| .ask i j k=>i<n/\j<n/\∀b,Ok n P (k b)
set_option tactic.hygienic false
theorem Ok.bind{c d:Type}{n:Nat}{P:c->Prop}{R:d->Prop}{g:c->KasT d}(e:∀a,P a->Ok n R (g a)):∀{t:KasT c},Ok n P t->Ok n R (t.bind g)
 | .ret a,h=>e a h| .ask i j k,h=>⟨h.1,h.2.1,λb=>Ok.bind e (h.2.2 b)⟩
theorem Ok.wp{c:Type}{n:Nat}{P:c->Prop}{b:Nat->Nat->(Bool->Shared->Prop)->Shared->Prop}{f:Nat->Nat->Bool}{Q:c->Shared->Prop}{s:Shared}(d:∀i j C,i<n->j<n->C (f i j) s->b i j C s):
  ∀{t:KasT c},Ok n P t->Q (run f t) s->t.kasWp b Q s
 | .ret a,_,h=>h| .ask i j k,o,h=>d i j _ o.1 o.2.1 (Ok.wp d (o.2.2 _) h)
def B(n:Nat)(p:Array Nat):Prop:=∀x,p.getD x 0<n
theorem B.perm(g:0<n)(h:B n p)(f:a.Perm p):B n a:=λx=>by
 by_cases c:x<a.size
 .have e:a.getD x 0=a[x]:=by simp[Array.getD,c]
  have b:a[x]∈a.toList:=Array.getElem_mem_toList c;have b:=(Array.perm_iff_toList_perm.mp f).mem_iff.mp b;obtain⟨i,d,z⟩:=List.getElem_of_mem b;have:=h i;rw[Ml]at d;rw[e,<-z]
  simpa [Array.getD,d]using this
 .have e:a.getD x 0=0:=by simp[Array.getD,c]
  rw[e];exact g
section
variable{n:Nat}(hn:0<n)
include hn
theorem vD{p:Array Nat}(h:B n p):∀k m,Ok n (λ_=>True) (kas_asc p k m)
 |0,_=>trivial|k+1,m=>⟨h _,h _,λb=>by cases b<;>first|exact trivial|exact vD h k (m+1)⟩
theorem km:∀(k:Nat)(p:Array Nat)(m q:Nat),B n p->Ok n (λr=>B n r.1) (kas_desc k p m q)
 |0,p,_,_,h=>h|k+1,p,m,q,h=>⟨h _,h _,λb=>by
  cases b with
  |true=>
   show Ok n _ (if q>0 then kas_desc k (kas_rev p (m-(q+1)) m) (m+1) 0 else kas_desc k p (m+1) 0)
   split;exact km k _ _ _ (h.perm hn (PH _ _ _ _));exact km k _ _ _ h
  |false=>exact⟨h _,h _,λb=>by
    cases b
    .exact km k p (m+1) (q+1) h
    .exact h⟩⟩
theorem sR(h:B n p):Ok n (λr=>B n r.2) (kas_tail3 m r p):=by unfold kas_tail3;refine Ok.bind (P:=λ_=>True) (λ_ _=> ?_) (vD hn (h.perm hn (PH _ _ _ _)) _ _);exact h.perm hn (PH _ _ _ _)
theorem kG(h:B n p):Ok n (λr=>B n r.2) (kas_descPart m r p):=by
 unfold kas_descPart;refine Ok.bind (P:=λr=>B n r.1) (λa ha=> ?_) (km hn _ _ _ _ h)
 split;exact sR hn (ha.perm hn (PH _ _ _ _));exact sR hn ha
theorem BB(h:B n p):Ok n (λr=>B n r.2) (kas_count r p):=by
 unfold kas_count;refine Ok.bind (P:=λ_=>True) (λa _=> ?_) (vD hn h _ _)
 split;exact h
 .split
  .exact⟨h _,h _,λb=>by
    cases b
    .exact kG hn (h.perm hn (PH _ _ _ _))
    .exact h⟩
  .exact kG hn h
theorem lb{p:Array Nat}{m:Nat}(h:B n p):∀k l r,Ok n (λ_=>True) (kas_place p m k l r)
 |0,_,_=>trivial|k+1,l,r=>by
  unfold kas_place
  split;exact trivial
  .exact⟨h _,h _,λb=>by
    cases b
    .exact lb h k _ _
    .exact lb h k _ _⟩
theorem BC:∀(k:Nat)(p:Array Nat)(m:Nat),B n p->Ok n (λp=>B n p) (kas_bin k p m)
 |0,_,_,h=>h|k+1,p,m,h=>Ok.bind (λl _=>BC k _ _ (h.perm hn (bubble_perm _ _ _))) (lb hn h _ _ _)
theorem EA:Ok n (λp=>B n p) (kas_sort n):=by
 have b:B n (List.toArray (List.range n)):=λx=>by
  by_cases a:x<n
  .have:(List.toArray (List.range n)).getD x 0=x:=by simp[Array.getD,a]
   omega
  .have:(List.toArray (List.range n)).getD x 0=0:=by simp[Array.getD,a]
   omega
 unfold kas_sort;refine Ok.bind (P:=λr=>B n r.2) (λr hr=> ?_) (BB hn b)
 split;exact BC hn _ _ _ hr;exact hr
end
section
variable{prog:Program}{w:World}{A:Around}{E:Value->Shared->Prop}{s:Shared}
noncomputable def wg(a:Nat->Int)(b:List Value):List Value:=(run (F a) (kas_sort b.length)).toList.map λi=>b.getD i Value.none
theorem Dx(h:1<=b.length):(wg a b).length=b.length:=by unfold wg;rw[L9,(sort (key:=a) h).1.length_eq,M3]
theorem EI{κ:SortKind}(ho:s.heap.get? a=some (seqObj "list" vs.toArray n))(h2:2<=vs.length)(h64:vs.length<64)
  (hk:∀(s1:Shared)(Q:SortKind->Shared->Prop),(∀b o,b≠a->s.heap.get? b=some o->s1.heap.get? b=some o)->Q κ s1->wpAny (model prog w) A (keyKind' vs.toArray) Q E s1)
  (hc:∀(s1:Shared) i j C,(∀b o,b≠a->s.heap.get? b=some o->s1.heap.get? b=some o)->i<vs.length->j<vs.length->C (F key i j) s1->kas_ask prog w A κ vs i j C s1)
  (h:P (.done (.ret .none)) {s with heap:=sortedHeap s.heap a vs (wg key vs).toArray}):
  wpAny (model prog w) A (Builtin.«list.sort» ⟨[.ref a],[]⟩) P E s:=by
 have ha:a<s.heap.objs.size:=MY ho;rw[list_sort_plain];refine L8 (listItems_at ho rfl (L8 (listUpdate_at ho rfl ?_ (by rw[MQ,M8];omega) (Mk _))));obtain⟨e1,g1⟩:∃e1,(s.heap.update a (Obj.mapSeq λ_=>(#[]:Array Value))).get? a=some (seqObj "list" #[] e1):=⟨_,get?_update_seq ho λ_=> #[]⟩;refine L8 (seqEpoch_at g1 rfl (L8 (wpAny_newTuple ?_ (by show vs.length<=_;rw[M8];omega))));refine L8 (Pe ?_ (Mk _));refine NR ?_;have g2:(((s.heap.update a (Obj.mapSeq λ_=>(#[]:Array Value))).push (seqObj "tuple" vs.toArray 0)).push (seqObj "list" #[] 0)).get? a=some (seqObj "list" #[] e1):=MD _ (MD _ g1)
 have old:∀b o,b≠a->s.heap.get? b=some o->(((s.heap.update a (Obj.mapSeq λ_=>(#[]:Array Value))).push (seqObj "tuple" vs.toArray 0)).push (seqObj "list" #[] 0)).get? b=some o:=λb o nb e=>MD _ (MD _ (by rw[Mz _ _ (NZ nb)];exact e))
 show wpAny (model prog w) A _ P E {s with heap:=((s.heap.update a (Obj.mapSeq λ_=>(#[]:Array Value))).push (seqObj "tuple" vs.toArray 0)).push (seqObj "list" #[] 0)};dsimp only;have n2:¬vs.toArray.size<2:=by rw[MQ];omega
 rw[ME n2,ME n2];refine L8 (hk _ _ old ?_)
 refine L8 (Nj (kat_run (Q:=λst' s' =>∃p:Array Nat,p=run (F key) (kas_sort vs.length)/\s' ={s with heap:=((s.heap.update a (Obj.mapSeq λ_=>(#[]:Array Value))).push (seqObj "tuple" vs.toArray 0)).push (seqObj "list" #[] 0)}/\arrOf st' =p.map (kas_item (vs.toArray.zip vs.toArray))/\failedOf st' =none) (G:=λp s' =>p=run (F key) (kas_sort vs.length)/\s' ={s with heap:=((s.heap.update a (Obj.mapSeq λ_=>(#[]:Array Value))).push (seqObj "tuple" vs.toArray 0)).push (seqObj "list" #[] 0)}) rfl h2 h64 (λp' st' s' _ a2 a3 a4=>⟨p',a4.1,a4.2,a2,a3⟩) ((EA (by omega)).wp (λi j C hi hj q=>hc _ i j C old hi hj q) ⟨rfl,rfl⟩)) ?_ λ_ _ e=>e)
 rintro⟨⟨⟩,st'⟩ s' ⟨p,rfl,rfl,har,hf⟩;dsimp only;have hout:(arrOf st').map (·.2)=(wg key vs).toArray:=kat_snds rfl har;rw[hout];refine L8 (seqEpoch_at g2 rfl ?_);refine L8 (listUpdate_at g2 rfl ?_ (Mk _) (by rw[MQ,Dx (by omega),M8];omega));rw[hf];simp only[bne_self_eq_false,OI,Oe];exact MC h
end
end SW
set_option maxHeartbeats 400000
namespace SW
open PySem PySem.W PyProof.Rows
def eF(h:Heap)(v:Value)(q:Int×Int):Prop:=∃a t u,v=.ref a/\IsTup h a #[.int q.1 t,.int q.2 u]
set_option tactic.hygienic false
theorem eF.keep(x:eF h v q)(k:∀b o,h.get? b=some o->c.get? b=some o):eF c v q:=by obtain⟨a,t,u,e,z⟩:=x;exact⟨a,t,u,e,z.keeps k⟩
noncomputable def eA(q:Int×Int):Int:=1000*q.1+q.2
section
variable{prog:Program}{w:World}{A:Around}{E:Value->Shared->Prop}{s:Shared}
theorem EH(hx:eF s.heap x p)(hy:eF s.heap y q)(bp:0<=p.2/\p.2<1000)(bq:0<=q.2/\q.2<1000)(h:C (decide (eA p<eA q)) s):wpAny (model prog w) A (keyLt' (tuples' true) x y) C E s:=by
 obtain⟨a,t,u,rfl,o,ho,-,n,hd⟩:=hx;obtain⟨b,t',u',rfl,o',ho',-,n',hd'⟩:=hy;refine kat_lt ho hd ho' hd' ?_;unfold eA at h;refine kat_cons (wpAny_eqBool_int (kat_go (λe=>kat_yes (kat_cons (wpAny_eqBool_int (kat_go (λe2=>kat_yes (kat_nil ?_)) λe2=>kat_no (kat_one _ _ (lt_int ?_)))))) λe=>kat_no (oneLt_int ?_)))
 .have e:=OT.mp e
  have e2:=OT.mp e2;rw[show decide (1000*p.1+p.2<1000*q.1+q.2)=false from MU (by omega)]at h;exact h
 .have e:=OT.mp e
  show C (decide (p.2<q.2)) s;rw[show decide (1000*p.1+p.2<1000*q.1+q.2)=decide (p.2<q.2)from OY.mpr (by omega)]at h;exact h
 .have e:p.1≠q.1:=λz=>by rw[z]at e;simp at e
  rw[show decide (1000*p.1+p.2<1000*q.1+q.2)=decide (p.1<q.1)from OY.mpr (by omega)]at h;exact h
theorem vL{Q:SortKind->Shared->Prop}(j:1<=c.length)(e:Paired (eF s.heap) c ps)(h:Q (tuples' true) s):wpAny (model prog w) A (keyKind' c.toArray) Q E s:=by
 obtain⟨b,g,y,p⟩:∃b,KatTups s.heap c b/\b.length=c.length/\∀v∈b,∃i t,v=.int i t:=by
  clear j h
  induction e with
  |nil=>exact⟨[],.nil,rfl,λv hv=>by cases hv⟩|cons r _ q=>
   obtain⟨b,f,m,x⟩:=q;obtain⟨a,t,u,rfl,o,k,d,n,l⟩:=r;refine⟨_,KatTups.cons k d l rfl f,by simp[m],λv hv=> ?_⟩
   rcases MP.mp hv with z|z
   .exact⟨_,_,z⟩
   .exact x v z
 refine kat_kind (T:=.type "int") g (by omega) (λv hv=> ?_) (by decide) h;obtain⟨i,t,rfl⟩:=p v hv;exact .now
theorem yT:∀{a:List Value},a.length<2->(a.toArray.zip a.toArray).map (·.2)=a.toArray
 |[],_=>by simp|[_],_=>by simp|_::_::_,h=>absurd h (by simp)
theorem uo:∀{a:List Value},a.length<2->(List.range a.length).map (λi=>a.getD i Value.none)=a
 |[],_=>rfl|[_],_=>rfl|_::_::_,h=>absurd h (by simp)
theorem AV{f:Nat->Int}:∀{n:Nat},n<2->((List.range n).map f).Pairwise (·<=·)
 |0,_=>.nil|1,_=>by show([f 0]:List Int).Pairwise (·<=·);exact List.pairwise_singleton _ _|_+2,h=>absurd h (by omega)
theorem si(d:s.heap.get? a=some (seqObj "list" b.toArray n))(f:b.length<2)
  (h:P (.done (.ret .none)) {s with heap:=sortedHeap s.heap a b b.toArray}):wpAny (model prog w) A (Builtin.«list.sort» ⟨[.ref a],[]⟩) P E s:=by
 rw[list_sort_plain];refine L8 (listItems_at d rfl (L8 (listUpdate_at d rfl ?_ (by rw[MQ,M8];omega) (Mk _))));obtain⟨e,j⟩:∃e,(s.heap.update a (Obj.mapSeq λ_=>(#[]:Array Value))).get? a=some (seqObj "list" #[] e):=⟨_,get?_update_seq d λ_=> #[]⟩;refine L8 (seqEpoch_at j rfl (L8 (wpAny_newTuple ?_ (by show b.length<=_;rw[M8];omega))));refine L8 (Pe ?_ (Mk _));refine NR ?_;have g:(((s.heap.update a (Obj.mapSeq λ_=>(#[]:Array Value))).push (seqObj "tuple" b.toArray 0)).push (seqObj "list" #[] 0)).get? a=some (seqObj "list" #[] e):=MD _ (MD _ j);show wpAny (model prog w) A _ P E {s with heap:=((s.heap.update a (Obj.mapSeq λ_=>(#[]:Array Value))).push (seqObj "tuple" b.toArray 0)).push (seqObj "list" #[] 0)};dsimp only;have i:b.toArray.size<2:=by rw[MQ];exact f
 rw[MF i,MF i];refine L8 (MC ?_);rw[StateT.run_pure];refine L8 (MC ?_);dsimp only;have c:(arrOf (SortSt.mk' general' (b.toArray.zip b.toArray) #[] 7 none)).map (·.2)=b.toArray:=by exact yT f
 rw[c];refine L8 (seqEpoch_at g rfl ?_);refine L8 (listUpdate_at g rfl ?_ (Mk _) (by rw[MQ,M8];omega));simp only[bne_self_eq_false,OI,Oe];exact MC h
theorem jd{F:Value->Int×Int->Prop}:∀{b:List Value}{a:List (Int×Int)},Paired F b a->∀i,i<b.length->F (b.getD i Value.none) (a.getD i (0,0))/\a.getD i (0,0)∈a
 |_,_,.cons r _,0,_=>⟨r,MB⟩|_,_,.cons _ t,i+1,h=>by have:=jd t i (by simpa using h);exact⟨this.1,MA _ this.2⟩
theorem pC(hl:s.heap.IsList l vs.toArray)(hp:Paired (eF s.heap) vs ps)(hb:∀q∈ps,0<=q.2/\q.2<1000)(h64:vs.length<64)
  (h:∀js:List Nat,js.Perm (List.range vs.length)->(js.map λi=>eA (ps.getD i (0,0))).Pairwise (·<=·)->Q (.ref (s.heap.objs.size+1)) {s with heap:=sortedAll s.heap vs (js.map λi=>vs.getD i Value.none).toArray}):
  wpAny (model prog w) A (call (.builtin "sorted") [.ref l]) Q E s:=by
 refine Pz kind_sorted plain_sorted entry_sorted (args_sorted1 _) ?_;unfold Builtin.«sorted»;refine L8 (m:=checkCount "sorted" 1 1 _) (MC ?_);refine L8 (collect_list hl ?_ (by rw[M8];omega));refine L8 (Pe ?_ (by rw[M8];omega));have hsz:((s.heap.push (seqObj "list" #[] 0)).update s.heap.objs.size (Obj.mapSeq (·++vs.toArray))).objs.size=s.heap.objs.size+1:=by rw[Heap.size_update,size_push']
 have hoL:(((s.heap.push (seqObj "list" #[] 0)).update s.heap.objs.size (Obj.mapSeq (·++vs.toArray))).push (seqObj "list" vs.toArray 0)).get? (s.heap.objs.size+1)=some (seqObj "list" vs.toArray 0):=by rw[<- hsz];exact MW _ rfl
 have keep:∀b o,s.heap.get? b=some o->(((s.heap.push (seqObj "list" #[] 0)).update s.heap.objs.size (Obj.mapSeq (·++vs.toArray))).push (seqObj "list" vs.toArray 0)).get? b=some o:=λb o e=>by have lt:b<s.heap.objs.size:=MY e;refine MD _ ?_;rw[Mz _ _ (Nd lt)];exact MD _ e
 show wpAny _ _ _ _ _ {s with heap:=((s.heap.push (seqObj "list" #[] 0)).update s.heap.objs.size (Obj.mapSeq (·++vs.toArray))).push (seqObj "list" vs.toArray 0)};rw[hsz]
 by_cases h2:vs.length<2
 .refine L8 (NR (Mx slot_list_sort ⟨_,hoL,rfl⟩ entry_list_sort (si hoL h2 ⟨_,rfl,?_⟩) (args_list_sort _)))
  have q:=h (List.range vs.length) (List.Perm.refl _) (AV h2);rw[uo h2]at q;exact MC ⟨_,rfl,q⟩
 .have hp2:∀s1:Shared,(∀b o,b≠s.heap.objs.size+1->(((s.heap.push (seqObj "list" #[] 0)).update s.heap.objs.size (Obj.mapSeq (·++vs.toArray))).push (seqObj "list" vs.toArray 0)).get? b=some o->s1.heap.get? b=some o)->∀{v:Value}{q:Int×Int},eF s.heap v q->eF s1.heap v q:=λs1 k v q x=>
   x.keep λb o e=>k b o (Md (NT (MY e))) (keep b o e)
  refine L8 (NR (Mx slot_list_sort ⟨_,hoL,rfl⟩ entry_list_sort (EI (κ:=tuples' true) (key:=λi=>eA (ps.getD i (0,0))) hoL (by omega) h64 (λs1 Q1 k q1=> ?_) (λs1 i j C k hi hj c=> ?_) ⟨_,rfl,?_⟩) (args_list_sort _)))
  .exact vL (ps:=ps) (by omega) (L2.Paired.mapP hp λ_ _ x=>hp2 s1 k x) q1
  .obtain⟨x1,m1⟩:=jd hp i hi
   obtain⟨x2,m2⟩:=jd hp j hj;exact EH (hp2 s1 k x1) (hp2 s1 k x2) (hb _ m1) (hb _ m2) c
  .obtain⟨z1,z2⟩:=sort (key:=λi=>eA (ps.getD i (0,0))) (n:=vs.length) (by omega)
   exact MC ⟨_,rfl,h _ z1 z2⟩
end
end SW
namespace L2
open PySem PySem.Spec PyProof.Rows
inductive Je(K:W.Frag)(H:Hp):List V->List (Int×Int)->Prop
 | nil:Je K H [] []
 | cons {a:Addr} {q:Int×Int} {us:List V} {ps:List (Int×Int)} (h:bg K H a [.int q.1,.int q.2]) (t:Je K H us ps):Je K H (.ref a::us) (q::ps)
set_option tactic.hygienic false
theorem Je.len{K:W.Frag}(h:Je K H b a):b.length=a.length:=by
 induction h with
 |nil=>rfl|cons _ _ c=>simp[c]
theorem aR.pick{a:List V}{c:List Value}(r:aR a c):∀{b:List Nat},(∀j∈b,j<a.length)->aR (b.map λi=>a.getD i .non) (b.map λi=>c.getD i Value.none)
 |[],_=>.nil|j::b,h=>by have d:=h j MB;obtain⟨v,f,e⟩:=r.get (i:=j) (x:=a[j]) (MN d);refine .cons ?_ (aR.pick r λi hi=>h i (MA _ hi));dsimp only;rw[ML,MN d,ML,f];exact e
section
variable{X:Cx}
theorem jF:bS X (.builtin "sorted") (λxs H Q=>∃(p:Addr)(us:List V)(ps:List (Int×Int)),xs=[.ref p]/\bQ X.K H p us/\Je X.K H us ps/\us.length<64/\(∀q∈ps,0<=q.2/\q.2<1000) /\ ∀a (js:List Nat),H a=none->js.Perm (List.range us.length)->(js.map λi=>SW.eA (ps.getD i (0,0))).Pairwise (·<=·)->Q (.ref a) (upd H a (.lst (js.map λi=>us.getD i .non)))):=by
 intro pins s σ H xs us Q I r h;obtain⟨p,ws,ps,rfl,hq,hp,h64,hb,q⟩:=h;obtain⟨u,rfl,rx⟩:=vals1 r;cases rx;obtain⟨its,r',pl,hz⟩:=I.list hq;have hlen:=r'.length;have pr:Paired (SW.eF s.heap) its ps:=by
  clear q hb h64 hq pl hz hlen
  induction hp generalizing its with
  |nil=>cases r';exact .nil
  |cons ht _ ih=>
   cases r' with
   |cons rv t=>refine .cons ?_ (ih _ t);cases rv;obtain⟨ys,ry,tp,_⟩:=I.tuple ht;obtain⟨y1,y2,rfl,e1,e2⟩:=vals2 ry;obtain⟨t1,rfl⟩:=e1;obtain⟨t2,rfl⟩:=e2;exact⟨_,t1,t2,rfl,tp⟩
 refine SW.pC pl.isList pr hb (by omega) λjs pm pw=> ?_;obtain⟨c,hc⟩:=sortedAll_at s.heap its (js.map λi=>its.getD i Value.none).toArray;rw[<- hlen]at pm;refine⟨.ref (s.heap.objs.size+1),_,I.laid (t' :=s.toks) (o:=.lst (js.map λi=>ws.getD i .non)) (λb o z=>sortedAll_old z) (Oh _) ?_,rfl,q _ js (I.hok.fresh (Oh _)) pm pw⟩;refine⟨?_,js.map λi=>its.getD i Value.none,c,aR.pick r' λj hj=>Mn.mp (pm.mem_iff.mp hj),by simpa [seqObj]using hc⟩;rw[L9,pm.length_eq,M3,M8];omega
end
end L2
namespace SR
open PySem PyProof.Rows
end SR
set_option maxHeartbeats 800000
namespace SR
open PySem PyProof.Rows
set_option tactic.hygienic false
theorem pE:Slot "reversed" "__init__" "object.__init__" :=
 .of (owner:="object") (n:="__init__") (by rw[PF,OS];kernel_rfl) (by decide +kernel) (by decide +kernel) (by decide +kernel)
  (by first|exact .inl (by decide +kernel)|exact .inr (by decide +kernel)) (by rw[PU];kernel_rfl)
theorem bV:Slot "reversed" "__next__" "reversed.__next__" :=
 .of (owner:="reversed") (n:="__next__") (by rw[PF,OS];kernel_rfl) (by decide +kernel) (by decide +kernel) (by decide +kernel)
  (by first|exact .inl (by decide +kernel)|exact .inr (by decide +kernel)) (by rw[PU];kernel_rfl)
theorem cY:Slot "reversed" "__iter__" "reversed.__iter__" :=
 .of (owner:="reversed") (n:="__iter__") (by rw[PF,OS];kernel_rfl) (by decide +kernel) (by decide +kernel) (by decide +kernel)
  (by first|exact .inl (by decide +kernel)|exact .inr (by decide +kernel)) (by rw[PU];kernel_rfl)
theorem gO:entryFor table "reversed.__next__"=some Builtin.«reversed.__next__»:=entryFor_of_tree (by kernel_rfl)
theorem gP:entryFor table "reversed.__iter__"=some Builtin.«dict_keyiterator.__iter__» := entryFor_alias (id' :="dict_keyiterator.__iter__") (by kernel_rfl) (by first|rfl|decide +kernel) (by decide +kernel) (by kernel_rfl)
theorem jK(a:Value):argsOk "reversed.__next__" ⟨[a],[]⟩:=by unfold argsOk;kernel_rfl
theorem jL(a:Value):argsOk "reversed.__iter__" ⟨[a],[]⟩:=by unfold argsOk;kernel_rfl
theorem jp:TypeCalled "reversed" "reversed.__new__" "object.__init__" := ⟨by decide +kernel,by decide +kernel,⟨_,_,F.mro_reversed⟩,F.made_reversed,F.plain_reversed_new,F.sub_reversed_self,pE⟩
theorem rH:typeLookup (.type "tuple") "__reversed__"=pure none:=by rw[PF,OS];kernel_rfl
noncomputable def rvO(t:Addr)(i:Int):Obj:={cls:=.type "reversed",data:=.fields #[.ref t,rawInt i]}
def jP(I t:Addr)(i:Int)(h:Heap):Prop:=∃o,h.get? I=some o/\o.cls=.type "reversed"/\o.data=.fields #[.ref t,rawInt i]
theorem jP.typeIs{s:Shared}(x:jP I t i s.heap):s.TypeIs (.ref I) "reversed":=let⟨o,ho,hc,_⟩:=x;⟨o,ho,hc⟩
theorem jP.keep(x:jP I t i h)(k:∀o,h.get? I=some o->a.get? I=some o):jP I t i a:=let⟨o,ho,r⟩:=x;⟨o,k o ho,r⟩
section
variable{prog:Program}{w:World}{A:Around}{E:Value->Shared->Prop}{s:Shared}
theorem Hg(e:IsTup s.heap t c)(g:c.size<=sizeLine)(h:∀f,Q (.ref s.heap.objs.size) {s with heap:=s.heap.push (rvO t ((c.size:Int)-1)),toks:=f}):
  codeAny (model prog w) A (.call (.builtin "reversed.__new__") ⟨[.type "reversed",.ref t],[]⟩) (wants Q E) s:=by
 refine codeAny_of_tree ?_;show wpAny _ A.in1 (do checkBuiltinCall "reversed.__new__" ⟨[.type "reversed",.ref t],[]⟩;again (.builtin "reversed.__new__" ⟨[.type "reversed",.ref t],[]⟩)) _ _ s;refine L8 (OK (F.newCall_reversed_1 _) (MC ⟨P4 F.plain_reversed_new _,N6 F.entry_reversed_new ?_⟩));rw[OZ F.plain_reversed_new _];unfold Builtin.«reversed.__new__»;refine L8 (OK (newClass_reversed _) ?_)
 try dsimp only
 refine L8 (OK (a:=()) (by first|rfl|kernel_rfl) ?_);refine L8 (OK (a:=()) (by first|rfl|kernel_rfl) ?_)
 try dsimp only
 refine L8 (Of e.typeIs rH ?_)
 try dsimp only
 have d:wpAny (model prog w) A.in1 (do
   if<-isInstance (.ref t) (.type "dict")then return false
   match<-specialOf (.ref t) "__getitem__" with
   |none=>return false|some (.builtin id)=>
    if["tuple.__getitem__","str.__getitem__","bytes.__getitem__","bytearray.__getitem__","memoryview.__getitem__","numpy.ndarray.__getitem__","sqlite3.Row.__getitem__"].contains id then return true
    if id=="sqlite3.Blob.__getitem__" then return false
    unsupported "reversed.__new__:is-it-a-sequence"
   |some _=>return true) (λb s1=>b=true/\s1=s) E s:=by
  refine L8 (Ox (b:=false) e.typeIs F.sub_tuple_dict ?_);rw[ME MI];refine L8 (Of e.typeIs ND.lookup ?_);dsimp only;rw[MF (by decide)];exact MC ⟨rfl,rfl⟩
 refine L8 (Nj d (λb s1 hb=> ?_) λ_ _ x=>x);obtain⟨rfl,rfl⟩:=hb;rw[ME (show¬((!true)=true)from MI)];refine L8 (len_tuple e (by rw[M8]at g;omega) ?_);refine L8 (OK (a:=some (c.size:Int)) rfl ?_)
 try dsimp only
 refine L8 (m:=Builtin.SmallTypes.newRecord _ _) ?_;show wpAny _ _ (newObj (.type "reversed") (.fields #[.ref t,rawInt ((c.size:Int)-1)])) _ _ _;refine M4 (MC ?_);exact h _
theorem FH(ht:IsTup s.heap t its)(hz:its.size<=sizeLine)(h:∀tk,Q (.ref s.heap.objs.size) {s with heap:=s.heap.push (rvO t ((its.size:Int)-1)),toks:=tk}):
  wpAny (model prog w) A (call (.type "reversed") [.ref t]) Q E s:=by
 refine callType_codes (Q₁:=λob s₁=>s₁.TypeIs ob "reversed"/\Q ob s₁) jp (F.typeCall_reversed_1 _) F.entry_object_init (Hg ht hz λtk=>⟨⟨_,MW _ rfl,rfl⟩,h tk⟩) λob s₁ h₁=> ?_;exact⟨h₁.1,F.args_object_init_2 ob _,object_init_meets jp.init.lookup jp.made (by decide) prog w A.in1 _ s₁ ⟨h₁.1,rfl,h₁.2⟩⟩
theorem xY(k:A.handled=none)(l:jP I t ((c.size:Int)-1-(c.size:Nat)) s.heap/\IsTup s.heap t c)
  (n:∀h,(∀b o,b≠I->s.heap.get? b=some o->h.get? b=some o)->(∃o,h.get? I=some o)->Q none {s with heap:=h}):wpAny (model prog w) A (pyNext (.ref I)) Q E s:=by
 obtain⟨g,p⟩:=l;obtain⟨o,f,q,d⟩:=id g;unfold pyNext;refine L8 (O7 (NM (name:=Str.ofString "__next__") g.typeIs bV (Mx bV g.typeIs gO ?_ (jK _))));unfold Builtin.«reversed.__next__»;refine L8 (OK (a:=(Value.ref I,[])) rfl ?_)
 try dsimp only
 refine L8 (OL f d (x:=.ref t) rfl ?_);refine L8 (OL f d (x:=rawInt ((c.size:Int)-1-(c.size:Nat))) rfl ?_);show wpAny _ _ (if((c.size:Int)-1-(c.size:Nat))<0 then _ else _) _ _ s;rw[MF (by omega)];refine L8 (PJ ?_);have j:=M6 (Obj.mapFields (·.setIfInBounds 1 (rawInt (-1)))) f (Nu (NL d _));have i:=NL d (·.setIfInBounds 1 (rawInt (-1)));refine L8 (m:=(do setField (.ref I) 1 (rawInt (-1));setField (.ref I) 0 .none)) (L8 (N1 f d (by simp) (N1 j i (by simp) ?_)));unfold Builtin.SmallTypes.stopIteration;refine L8 (L8 ?_);simp only[newExc,newTuple];refine L8 (M4 ?_ (by size_fits));refine L8 (m:=firstArgMember _ _) (OK (a:=Value.none) (by first|rfl|(simp only[firstArgMember];rfl)) ?_);refine M4 ?_ (by size_fits);simp only[raiseNew];refine L8 (wpAny_handled ?_);rw[show A.in1.handled=none from k];refine L8 (MC (wpAny_throw ?_));refine L8 (Ox (T:="StopIteration") (b:=true) ⟨_,MW _ rfl,rfl⟩ isSubtype_stop ?_);refine MC (n _ (λb ob hb e=> ?_) ⟨_,MD _ (MD _ (M6 _ j (Nu (NL i _))))⟩);refine MD _ (MD _ ?_);rw[Mz _ _ (NZ hb),Mz _ _ (NZ hb)];exact e
theorem DB(y:A.handled=none){I t:Addr}{c:Array Value}(l:t≠I)(D:c.size<=sizeLine):
  Walks prog w A I [I,t] [I] c.size (λi v=>c[c.size-1-i]? =some v) (λi h=>jP I t ((c.size:Int)-1-(i:Nat)) h/\IsTup h t c) where
 sub:=λb hb=>by simp at hb;simp[hb]
 frame:=λ_ _ _ st hk=>⟨st.1.keep λo e=>hk I (by simp) o e,by
  obtain⟨o,d,r⟩:=st.2;exact⟨o,hk t (by simp) o d,r⟩⟩
 item:=λi s Q E hi st hQ=>by
  obtain⟨g,n⟩:=st;obtain⟨o,d,u,f⟩:=id g;have C:c.size<=16777216:=by rw[M8]at D;omega
  have q:c[c.size-1-i]? =some c[c.size-1-i]:=Op (by omega);unfold pyNext;refine L8 (O7 (NM (name:=Str.ofString "__next__") g.typeIs bV (Mx bV g.typeIs gO ?_ (jK _))));unfold Builtin.«reversed.__next__»;refine L8 (OK (a:=(Value.ref I,[])) rfl ?_)
  try dsimp only
  refine L8 (OL d f (x:=.ref t) rfl ?_);refine L8 (OL d f (x:=rawInt ((c.size:Int)-1-(i:Nat))) rfl ?_);show wpAny _ _ (if((c.size:Int)-1-(i:Nat))<0 then _ else _) _ _ s;rw[ME (by omega)];refine L8 (Of n.typeIs ND.lookup ?_);rw[ME (by simp)];refine L8 (wpAny_mkInt ?_);have p:IsTup ({s with toks:=s.toks+1}:Shared).heap t c:=n;refine L8 (O7 (getItem_tuple (j:=c.size-1-i) p (by omega) (by omega) ?_ q ?_))
  .have e:((c.size:Int)-1-(i:Nat))=((c.size-1-i:Nat):Int):=by omega
   rw[e];unfold seqIndex?;simp;omega
  .try dsimp only
   refine L8 (OL d f (x:=rawInt ((c.size:Int)-1-(i:Nat))) rfl ?_);refine L8 (N1 d f (by simp) (MC ⟨_,rfl,MC ?_⟩));refine hQ _ _ (s.toks+1) q ⟨⟨_,M6 _ d (Nu (NL f _)),(PX ..).trans u,?_⟩,?_⟩ λb ob hb e=> ?_
   .rw[NL f]
    simp[rawInt];omega
   .obtain⟨B,m,r⟩:=n
    exact⟨B,by rw[Mz _ _ (NZ l)];exact m,r⟩
   .rw[Mz _ _ (λz=>hb (by simp[z]))]
    exact e
 done:=λs Q E st hQ=>xY y st λh' k _=>hQ h' s.toks λb ob hb e=>k b ob (λz=>hb (by simp[z])) e
 self:=λi s Q E st hQ=>by refine On st.1.typeIs cY (Mx cY st.1.typeIs gP ?_ (jL _));exact MC ⟨_,rfl,"reversed",_,st.1.typeIs,bV.lookup,hQ⟩
end
end SR
namespace L2
open PySem PySem.Spec PyProof.Rows
end L2
set_option maxHeartbeats 4000000
namespace L2
open PySem PySem.Spec PyProof.Rows
section
variable{X:Cx}
noncomputable def Lx(K:W.Frag)(a:Addr)(n:Nat):It:=
 ⟨λi H=>i<n/\∃b,bg K H a b/\b.length=n,λi H x H' =>H' =H/\∀b,bg K H a b->b.length=n->b[n-1-i]? =some x,λi H=>i=n/\∃b,bg K H a b/\b.length=n⟩
set_option tactic.hygienic false
theorem AZ(k:SR.jP g a j h)(i:IsTup h a b):a≠g:=by rintro rfl;obtain⟨o,e,c,_⟩:=k;obtain⟨l,f,d,_⟩:=i;rw[e]at f;cases f;rw[c]at d;exact absurd d (by decide)
theorem rG{P:Program}{w:World}{K:W.Frag}{tg:Expr}(a m:Addr)(n:Nat):nU P w K tg (Lx K a n) [m] m (λi h=>SR.jP m a ((n:Int)-1-(i:Nat)) h) where
 mem:=by simp
 obj:=λi h j b hb=>by
  have e:b=m:=by simpa using hb
  subst e;obtain⟨o,e,c,d⟩:=j;exact⟨o,e,λv z=>by rw[d]at z;cases z⟩
 keep:=λi h h' j k=>j.keep λo e=>k m (by simp) o e
 item:=by
  intro X L O J F i p s V H E I B j D;subst L O J;obtain⟨hi,T,x,A⟩:=D;obtain⟨f,y,t,Y⟩:=I.tuple x;have l:=y.length;have g:f.toArray.size=n:=by rw[MQ,<-l];exact A
  have U:T[n-1-i]? =some (T[n-1-i]'(by omega)):=MN (by omega);obtain⟨u,hu,Z⟩:=y.get U;obtain⟨M,S,f2,N,C,R⟩:=B m (by simp);have G:=AZ j t;have q:SR.jP m a ((f.toArray.size:Int)-1-(i:Nat)) s.heap:=by rw[g];exact j
  refine(SR.DB (I.ok.hd F) G (by rw[g,<-A];exact Y)).item i s _ _ (by rw[g];exact hi) ⟨q,t⟩ λv h' tk hv st' sb=> ?_;have ev:v=u:=by
   rw[g]at hv;have:f.toArray[n-1-i]? =some u:=by simpa using hu
   rw[this]at hv;exact(MZ hv).symm
  subst ev;have I1:Inv X p V H {s with heap:=h',toks:=tk}:=I.turned (t' :=tk) (λb o hb e=>sb b o (by simpa using hb) e) M S N C R;have r:SR.jP m a ((n:Int)-1-((i+1:Nat):Int)) h' :=by have:=st'.1;rw[g]at this;exact this
  obtain⟨o,e,c,d⟩:=id r;exact⟨v,rfl,oJ (s:={s with heap:=h',toks:=tk}) e c d (by decide) ⟨_,H,I1,Z,⟨rfl,λys hy _=>by rw[I.tuple_inj hy x];exact U⟩,r,λb hb=>(B b hb).1⟩⟩
 done:=by
  intro X L O J F i p s V H E I B j D;subst L O J;obtain⟨rfl,T,x,A⟩:=D;obtain⟨f,y,t,Y⟩:=I.tuple x;have l:=y.length;have g:f.toArray.size=i:=by rw[MQ,<-l];exact A
  obtain⟨M,S,f2,N,C,R⟩:=B m (by simp);have q:SR.jP m a ((f.toArray.size:Int)-1-(f.toArray.size:Nat)) s.heap:=by rw[g];exact j
  exact SR.xY (I.ok.hd F) ⟨q,t⟩ λh' k _=>⟨rfl,I.turned (t' :=s.toks) (λb o hb e=>k b o hb e) M S N C R⟩
 self:=λA i s Q E j hQ=>by refine On j.typeIs SR.cY (Mx SR.cY j.typeIs SR.gP ?_ (SR.jL _));exact MC ⟨_,rfl,"reversed",_,j.typeIs,SR.bV.lookup,hQ⟩
def iRvT(K:W.Frag)(c:TA):TI:=λσ H R=>c σ H λvs H1=>∃a b,vs=[.ref a]/\bg K H1 a b/\R (Lx K a b.length) H1
theorem HF(v:Gl X "reversed")(z:X.mg "reversed"=none)(y:PA X [a] m)(B:starEach [a] X.env=[(false,eval a X.env)]:=by rfl):
  PI X f (.Call (.Name "reversed" p) [a] [] pos) (iRvT X.K m):=by
 intro d s j H R I h;refine Call_ (dF I v z boot_reversed (NE (aj (y pos d s j H _ I h) λus s1 ⟨vs,H1,I1,r1,q1⟩=> ?_) B rfl));obtain⟨l,c,e,C,q⟩:=q1;subst e;obtain⟨u,rfl,n⟩:=vals1 r1;cases n;obtain⟨g,r,t,A⟩:=I1.tuple C;have k:=r.length;refine SR.FH t (by rw[MQ,<-k];exact A) λtk=> ?_;have e:(((g.toArray.size:Nat):Int)-1)=(c.length:Int)-1:=by rw[MQ,k]
 rw[e];have i:SR.jP s1.heap.objs.size l ((c.length:Int)-1) (s1.heap.push (SR.rvO l ((c.length:Int)-1))):=⟨_,MW _ rfl,rfl,rfl⟩;refine(rG (P:=X.prog) (w:=X.w) (K:=X.K) (tg:=f) l s1.heap.objs.size c.length).self _ 0 _ _ _ (by rw[show(c.length:Int)-1-((0:Nat):Int)=(c.length:Int)-1 by omega];exact i) ?_;have x:Inv X d j H1 {s1 with heap:=s1.heap.push (SR.rvO l ((c.length:Int)-1)),toks:=tk}:=I1.kept (t' :=tk) λb o e=>MD _ e;refine⟨s1.heap.objs.size,[s1.heap.objs.size],_,_,H1,rfl,x,rG l _ c.length,?_,λb hb=> ?_,q⟩
 .show SR.jP s1.heap.objs.size l ((c.length:Int)-1-((0:Nat):Int)) _
  rw[show(c.length:Int)-1-((0:Nat):Int)=(c.length:Int)-1 by omega];exact i
 .have e:b=s1.heap.objs.size:=by simpa using hb
  subst e;exact I1.fpOk (MJ _) (I1.hok.fresh (MJ _))
end
end L2
namespace L2
open PySem PySem.Spec PyProof.Rows PySem.W
end L2
set_option genInjectivity false
namespace IR
open PySem
abbrev ah:=L2.ah
inductive PV where
 | non|bl (b:Bool)|int (i:Int)|str (z:Str)|lst (xs:List PV)|tup (xs:List PV)|dK (ks:List ah) (vs:List PV)|dT (ks:List (List ah)) (vs:List PV)
instance:Inhabited PV:=⟨.non⟩
mutual
noncomputable def imm:PV->Bool
 | .non=>true| .bl _=>true| .int _=>true| .str _=>true
 | .lst _=>false
 | .tup xs=>imms xs
 | .dK _ _=>false| .dT _ _=>false
noncomputable def imms:List PV->Bool
 | []=>true
 | x::xs=>imm x&&imms xs
end
inductive Bf where
 | len|int|str|list|tuple|sorted|min|max|sum|abs|all|any|lrange|lrange2|isin (t:String)|sumv|sset|lset|trev|lvals
mutual
inductive IE where
 | con (v:PV)|var (i:Nat)|bin (op:Operator) (a b:IE)|neg (a:IE)|cmp (op:CmpOp) (a b:IE)|chn (o1 o2:CmpOp) (a b c:IE)
 | and (a b:IE)|or (a b:IE)|not (a:IE)|ite (c:IC) (a b:IE)
 | call (f:Nat) (es:Fg)|bf (f:Bf) (es:Fg)
 | lst (es:Fg)|tup (es:Fg)|dnew|dlit (k:ah) (e:IE)|ix (a i:IE)|sl (a:IE) (lo hi:IO)
 | lc (elt:IE) (src:IT) (ifs:GC) (caps:List Nat)|lc2 (elt:IE) (src:IT) (ifs:GC) (caps:List Nat)|lci (a:IE) (i:Nat)|never
inductive Fg where
 | nil|cons (e:IE) (es:Fg)
inductive IO where
 | no|yes (e:IE)
inductive IC where
 | val (e:IE)|not (c:IC)|and (c d:IC)|or (c d:IC)
inductive GC where
 | no|yes (c:IC)
inductive IT where
 | seq (e:IE)|rng (es:Fg)|zip (a b:IE)|enum (a:IE)|rvd (a:IE)|never
end
mutual
inductive IS where
 | asg (i:Nat) (o:Bool) (cap:List Nat) (e:IE)|ret (cap:List Nat) (e:IE)|retN|ife (c:IC) (a b:zY)
 | forr (is:List Nat) (one:Bool) (cap:List Nat) (src:IT) (body:zY)|whil (c:IC) (body:zY)|pass|brk|cont
 | app (i:Nat) (cap:List Nat) (e:IE)|drop (e:IE)|aug (i:Nat) (op:Operator) (e:IE)|hand (m:Nat) (g:List PV->Option PV)|rais (x:Str)|never
inductive zY where
 | nil|cons (s:IS) (ss:zY)
end
inductive Bd where
 | lst|dK (ks:List ah)|dT (ks:List (List ah))
noncomputable def Bd.pv:Bd->List PV->PV
 | .lst,xs=>.lst xs| .dK ks,xs=>.dK ks xs| .dT ks,xs=>.dT ks xs
section
variable{κ α:Type}[DecidableEq κ]
noncomputable def KL:List κ->List α->κ->α->List α
 |k' ::ks,x::xs,k,y=>(if k' =k then y else x)::KL ks xs k y|_,xs,_,_=>xs
noncomputable def putL(a:List κ)(b:List α)(k:κ)(y:α):List α:=if k∈a then KL a b k y else b++[y]
noncomputable def KR(a:List κ)(k:κ):List κ:=if k∈a then a else a++[k]
end
noncomputable def Bg:PV->Option ah
 | .int i=>some (.inl i)| .str z=>some (.inr z)|_=>none
noncomputable def Bc:List PV->Option (List ah)
 |[]=>some []|x::xs=>(Bg x).bind λk=>(Bc xs).map (k::·)
inductive TV where
 | un|frz (v:PV) (n:Bool)|own (xs:List PV) (n:Bool)|owd (b:Bd) (xs:List PV) (n:Bool)
noncomputable def TV.ob:TV->Option (Bd×List PV×Bool)
 | .own a n=>some (.lst,a,n)| .owd b a n=>some (b,a,n)|_=>none
abbrev En:=List TV
noncomputable def TV.valD:TV->PV
 | .frz v _=>v|_=>.non
inductive RV where
 | frz (v:PV) (n:Bool)|bor (v:PV)|own (xs:List PV) (n:Bool)|owd (b:Bd) (xs:List PV) (n:Bool)
noncomputable def RV.val:RV->PV
 | .frz v _=>v| .bor v=>v| .own a _=>.lst a| .owd b a _=>b.pv a
noncomputable abbrev sc(v:PV):RV:=.frz v true
noncomputable def RV.keep:RV->Option (PV×Bool)
 | .frz v n=>some (v,n)| .bor v=>if imm v then some (v,true)else none| .own a n=>some (.lst a,n)| .owd b a n=>some (b.pv a,n)
noncomputable def xD(v:PV):RV:=if imm v then .frz v true else .bor v
noncomputable def RV.its:RV->Option (List PV×Bool)
 | .frz (.lst a) n=>some (a,n)| .frz (.tup a) n=>some (a,n)| .own a n=>some (a,n)| .bor (.lst a)=>if imms a then some (a,true)else none| .bor (.tup a)=>if imms a then some (a,true)else none|_=>none
noncomputable abbrev LN:Nat:=16777216
open L2 (uU ci)
noncomputable def signs(z:Str):List PV:=z.cps.toList.map λc=>.str ⟨#[c]⟩
noncomputable def sX(a:List PV)(n:Bool):Option RV:=if a.length<=LN then some (.own a n)else none
noncomputable def sW(a:List PV)(n:Bool):Option RV:=if a.length<=LN then some (.frz (.tup a) n)else none
noncomputable def vz(a b:RV):Option RV:=
 match a.val,b.val with
 | .int i,.int j=>some (sc (.int (i+j)))| .str x,.str y=>if x.length+y.length<=LN then some (sc (.str (x++y)))else none| .lst _,.lst _=>match a.its,b.its with
  |some (xs,n),some (ys,m)=>sX (xs++ys) (n&&m)|_,_=>none
 | .tup _,.tup _=>match a.its,b.its with
  |some (xs,n),some (ys,m)=>sW (xs++ys) (n&&m)|_,_=>none
 |_,_=>none
noncomputable def vw(a b:RV):Option RV:=
 match a.val,b.val with
 | .int i,.int j=>some (sc (.int (i-j)))|_,_=>none
noncomputable def qT(a b:RV):Option RV:=
 match a.val,b.val with
 | .int i,.int j=>if(-(2^64)<i/\i<2^64)\/(-(2^64)<j/\j<2^64)then some (sc (.int (i*j)))else if i.natAbs<2^2000/\j.natAbs<2^2000 then some (sc (.int (i*j)))else none|_,_=>none
noncomputable def fk(a b:RV):Option RV:=
 match a.val,b.val with
 | .int i,.int j=>if 0<j/\j<2^200 then some (sc (.int (i/j)))else none|_,_=>none
noncomputable def vy(a b:RV):Option RV:=
 match a.val,b.val with
 | .int i,.int j=>if 0<j then some (sc (.int (i%j)))else none|_,_=>none
noncomputable def jv(a b:RV):Option RV:=
 match a.val,b.val with
 | .int i,.int j=>if 0<=j/\j<=1000000/\i.natAbs<2^64 then some (sc (.int (i*2^j.toNat)))else none|_,_=>none
noncomputable def jw(a b:RV):Option RV:=
 match a.val,b.val with
 | .int i,.int j=>some (sc (.int (Builtin.bitAnd i j)))|_,_=>none
noncomputable def eX(c:Operator)(a b:RV):Option RV:=match c with
 | .Add=>vz a b| .Sub=>vw a b| .Mult=>qT a b| .FloorDiv=>fk a b| .Mod=>vy a b| .LShift=>jv a b| .BitAnd=>jw a b|_=>none
noncomputable def tY:PV->Bool
 | .non=>true| .bl _=>true| .int _=>true| .str _=>true|_=>false
noncomputable def eqs:PV->PV->Option Bool
 | .int i,.int j=>some (decide (i=j))| .str i,.str j=>some (decide (i=j))| .bl i,.bl j=>some (decide (i=j))| .non,.non=>some true| .non,.int _=>some false| .non,.bl _=>some false| .non,.str _=>some false| .int _,.non=>some false| .bl _,.non=>some false| .str _,.non=>some false
 | .int _,.str _=>some false| .str _,.int _=>some false| .bl _,.str _=>some false| .str _,.bl _=>some false
 |_,_=>none
noncomputable def Ei:PV->PV->Bool
 | .int i,.int j=>decide (i=j)| .str i,.str j=>decide (i=j)| .bl i,.bl j=>decide (i=j)| .bl b,.int j=>decide ((if b then 1 else 0:Int)=j)| .int j,.bl b=>decide (j=(if b then 1 else 0:Int))| .non,.non=>true|_,_=>false
mutual
noncomputable def nL:PV->PyData
 | .non=>.none
 | .bl b=>.bool b
 | .int i=>.int i
 | .str z=>.str z
 | .lst xs=>.list (eD xs)
 | .tup xs=>.tuple (eD xs)
 | .dK _ _=>.dict []
 | .dT _ _=>.dict []
noncomputable def eD:List PV->List PyData
 | []=>[]
 | x::xs=>nL x::eD xs
end
mutual
noncomputable def mM:PV->PV->Bool
 | .lst xs,.lst ys=>nK xs ys
 | .tup xs,.tup ys=>nK xs ys
 | a,b=>Ei a b
noncomputable def nK:List PV->List PV->Bool
 | [],[]=>true
 | x::xs,y::ys=>mM x y&&nK xs ys
 | [],_::_=>false
 | _::_,[]=>false
end
noncomputable def dH:Nat->PV->Bool
 |_,.non=>true|_,.bl _=>true|_,.int _=>true|_,.str z=>PyData.strOk z|0,.lst _=>false|0,.tup _=>false|n+1,.lst xs=>xs.all (dH n)|n+1,.tup xs=>xs.all (dH n)|_,.dK _ _=>false|_,.dT _ _=>false
noncomputable def F5(x y:PV):Option Bool:=match eqs x y with
 |some b=>some b|none=>if dH 12 x&&dH 12 y then some (mM x y)else none
noncomputable def xK(x:PV)(a:List PV):Option Bool:=
 if tY x/\a.all tY then some (a.any λy=>Ei y x)else if dH 12 x&&a.all (dH 12)then some (a.any λy=>mM y x)else none
mutual
noncomputable def F8(f:Int->Int->Bool)(g:Nat->Nat->Bool):PV->PV->Option Bool
 | .int i,.int j=>some (f i j)
 | .tup xs,.tup ys=>zK f g xs ys
 | _,_=>none
noncomputable def zK(f:Int->Int->Bool)(g:Nat->Nat->Bool):List PV->List PV->Option Bool
 | [],ys=>some (g 0 ys.length)
 | _::_,[]=>some (g 1 0)
 | x::xs,y::ys=>if mM x y then zK f g xs ys else F8 f g x y
end
noncomputable abbrev ltd:=F8 (λi j=>decide (i<j)) λa b=>decide (a<b)
noncomputable def ltT(x y:PV):Option Bool:=if dH 12 x&&dH 12 y then ltd x y else none
noncomputable abbrev gtd:=F8 (λi j=>decide (j<i)) λa b=>decide (b<a)
noncomputable abbrev Hv:=F8 (λi j=>decide (i<=j)) λa b=>decide (a<=b)
noncomputable abbrev Km:=zK (λi j=>decide (i<=j)) λa b=>decide (a<=b)
noncomputable abbrev ged:=F8 (λi j=>decide (j<=i)) λa b=>decide (b<=a)
noncomputable abbrev K0:=zK (λi j=>decide (j<=i)) λa b=>decide (b<=a)
noncomputable def gtT(x y:PV):Option Bool:=if dH 12 x&&dH 12 y then gtd x y else none
noncomputable def leT(x y:PV):Option Bool:=if dH 12 x&&dH 12 y then Hv x y else none
noncomputable def geT(x y:PV):Option Bool:=if dH 12 x&&dH 12 y then ged x y else none
noncomputable def CW(a b:PV):Option Bool:=
 match a,b with
 | .int i,.int j=>some (decide (i<j))| .tup xs,.tup ys=>ltT (.tup xs) (.tup ys)|_,_=>none
noncomputable def vh(a b:PV):Option Bool:=
 match a,b with
 | .int i,.int j=>some (decide (i<=j))| .tup xs,.tup ys=>leT (.tup xs) (.tup ys)|_,_=>none
noncomputable def CZ(a b:PV):Option Bool:=
 match a,b with
 | .int i,.int j=>some (decide (j<i))| .tup xs,.tup ys=>gtT (.tup xs) (.tup ys)|_,_=>none
noncomputable def vi(a b:PV):Option Bool:=
 match a,b with
 | .int i,.int j=>some (decide (j<=i))| .tup xs,.tup ys=>geT (.tup xs) (.tup ys)|_,_=>none
noncomputable def CY(a b:PV):Option Bool:=
 match a,b with
 | .non,.non=>some true|x,.non=>some false|_,_=>none
noncomputable def mV(a b:PV):Option Bool:=
 match a,b with
 | .non,.non=>some false|x,.non=>some true| .bl b,.bl c=>some (b !=c)|_,_=>none
noncomputable def mU(a b:PV):Option Bool:=
 match a,b with
 |x,.lst ys=>(xK x ys).map (!·)|x,.tup ys=>(xK x ys).map (!·)|_,_=>none
noncomputable def ai(c:CmpOp)(a b:PV):Option Bool:=match c with
 | .Lt=>CW a b| .LtE=>vh a b| .Gt=>CZ a b| .GtE=>vi a b| .Eq=>F5 a b| .NotEq=>(F5 a b).map (!·)| .Is=>CY a b| .IsNot=>mV a b| .NotIn=>mU a b|_=>none
noncomputable def rJ:PV->Option Bool
 | .non=>some false| .bl b=>some b| .int i=>some (i !=0)| .str z=>if z.length<=LN then some ((z.length:Int) !=0)else none| .lst a=>some !a.isEmpty| .tup a=>some !a.isEmpty| .dK c _=>some !c.isEmpty| .dT _ _=>none
noncomputable def fV:PV->Option Nat
 | .str z=>if z.length<=LN then some z.length else none| .lst a=>some a.length| .tup a=>some a.length| .dK b _=>some b.length|_=>none
noncomputable def bj(t:String):PV->Option Bool
 | .non=>if t="int"\/t="str"\/t="list"\/t="tuple"\/t="bool" then some false else none| .bl _=>if t="int"\/t="bool" then some true else if t="str"\/t="list"\/t="tuple" then some false else none| .int _=>if t="int" then some true else if t="bool"\/t="str"\/t="list"\/t="tuple" then some false else none| .str _=>if t="str" then some true else if t="bool"\/t="int"\/t="list"\/t="tuple" then some false else none| .lst _=>if t="list" then some true else if t="bool"\/t="int"\/t="str"\/t="tuple" then some false else none| .tup _=>if t="tuple" then some true else if t="bool"\/t="int"\/t="str"\/t="list" then some false else none| .dK _ _=>if t="bool"\/t="int"\/t="str"\/t="list"\/t="tuple" then some false else none| .dT _ _=>none
noncomputable def jH:List PV->Option (List Bool)
 |[]=>some []| .bl b::r=>(jH r).map (b::·)|_::_=>none
noncomputable def kB:List PV->Option (List Str)
 |[]=>some []| .str z::r=>(kB r).map (z::·)|_::_=>none
noncomputable def aS:List PV->Option (List Int)
 |[]=>some []| .int i::r=>(aS r).map (i::·)|_::_=>none
noncomputable def lrng(n:Nat):List PV:=(List.range n).map λi=>.int (i:Nat)
noncomputable def iX:PV->Option (Int×Int)
 | .tup c=>(aS c).bind λns=>match ns with
  |[a,b]=>some (a,b)|_=>none
 |_=>none
noncomputable def iW:List PV->Option (List (Int×Int))
 |[]=>some []|x::r=>(iX x).bind λq=>(iW r).map (q::·)
noncomputable def aJ(q:Int×Int):PV:=.tup [.int q.1,.int q.2]
noncomputable def eK(c:List (Int×Int)):List (Int×Int):=c.mergeSort λa b=>decide (SW.eA a<=SW.eA b)
noncomputable def rP(a:List PV):Option RV:=(iW a).bind λps=>if ps.length<64/\ps.all (λq=>decide (0<=q.2)&&decide (q.2<1000))=true then some (.own ((eK ps).map aJ) true)else none
noncomputable def nh(a:List PV):Option RV:=match aS a with
 |some b=>if b.length<64 then some (.own ((L2.sortI b).map PV.int) true)else none|none=>rP a
noncomputable def fM:PV->Option (List Int)
 | .lst a=>(aS a).bind λns=>if ns.all (λn=>decide (0<=n)&&decide (n<8))=true then some ns else none|_=>none
noncomputable def revT(a:RV):Option RV:=match a.val with
 | .tup _=>(match a.its with
  |some (xs,n)=>if xs.isEmpty then none else some (.frz (.tup xs.reverse) n)|none=>none)
 |_=>none
noncomputable def strI:PV->Option RV
 | .int i=>if i.natAbs.log2<1920 then some (sc (.str (Str.ofString (toString i))))else none|_=>none
noncomputable def Kh:PV->Option RV
 | .dK a b=>if a.length<=LN then(aS b).map λns=>.own (ns.map PV.int) true else none|_=>none
noncomputable def my(f:Bf)(d:List RV):Option RV:=
 match f,d with
 | .len,[a]=>(fV a.val).map λn=>sc (.int (n:Nat))| .int,[a]=>match a.val with
  | .int i=>some (sc (.int i))| .bl b=>some (sc (.int (if b then 1 else 0)))|_=>none
 | .list,[a]=>match a.its with
  |some (c,n)=>some (.own c n)|none=>none
 | .tuple,[a]=>match a.its with
  |some (c,n)=>some (.frz (.tup c) n)|none=>none
 | .all,[a]=>match a.val with
  | .lst c=>(jH c).map λbs=>sc (.bl (bs.all id))|_=>none
 | .sum,[a]=>match a.val with
  | .lst c=>(aS c).map λns=>sc (.int ns.sum)|_=>none
 | .sorted,[a]=>match a.val with
  | .lst c=>nh c|_=>none
 | .sumv,[a]=>match a.val with
  | .dK _ e=>(aS e).map λns=>sc (.int ns.sum)|_=>none
 | .sset,[a]=>(fM a.val).map λns=>.own ((L2.cF ns).map PV.int) true| .lset,[a]=>(fM a.val).map λns=>sc (.int ((L2.cF ns).length:Nat))| .trev,[a]=>revT a| .lvals,[a]=>Kh a.val| .str,[a]=>strI a.val| .isin t,[a]=>(bj t a.val).map λb=>sc (.bl b)| .min,[a,b]=>match a.val,b.val with
  | .int i,.int j=>some (sc (.int (if j<i then j else i)))|_,_=>none
 | .max,[a,b]=>match a.val,b.val with
  | .int i,.int j=>some (sc (.int (if j>i then j else i)))|_,_=>none
 | .lrange,[a]=>match a.val with
  | .int i=>if 0<=i/\i<=1000 then some (.own (lrng i.toNat) true)else none|_=>none
 | .lrange2,[a,b]=>match a.val,b.val with
  | .int i,.int j=>if -1000<=i/\j<=1000/\i<=j then some (.own ((List.range (j-i).toNat).map λk=>.int (i+(k:Nat))) true)else none|_,_=>none
 |_,_=>none
noncomputable def ixK(a:RV)(k:Int):Option RV:=
 match a with
 | .frz (.lst b) n=>(ci b k).map λe=>.frz e (n||imm e)
 | .frz (.tup b) n=>(ci b k).map λe=>.frz e (n||imm e)
 | .own b n=>(ci b k).map λe=>.frz e (n||imm e)
 | .bor (.lst b)=>(ci b k).map xD| .bor (.tup b)=>(ci b k).map xD| .frz (.str z) _=>if z.length<=LN then(ci z.cps.toList k).map λc=>sc (.str ⟨#[c]⟩)else none|_=>none
noncomputable def kI(a i:RV):Option RV:=match i.val with
 | .int k=>ixK a k|_=>none
noncomputable def cut{b:Type}(a:List b)(c d:Option Int):List b:=(a.drop (HT.bh a.length 0 c)).take (HT.bh a.length a.length d-HT.bh a.length 0 c)
noncomputable def slice(a:RV)(b c:Option Int):Option RV:=
 match a.val with
 | .lst _=>match a.its with
  |some (xs,n)=>some (.own (cut xs b c) (n||imms xs))
  |none=>none
 | .tup _=>match a.its with
  |some (xs,n)=>if HT.bh xs.length 0 b=0/\HT.bh xs.length xs.length c=xs.length then some (.frz (.tup xs) n)else some (.frz (.tup (cut xs b c)) n)|none=>none
 |_=>none
noncomputable def keeps:List RV->Option (List PV×Bool)
 |[]=>some ([],true)|r::rs=>r.keep.bind λ(v,n)=>(keeps rs).map λ(vs,m)=>(v::vs,n&&m)
noncomputable def tL(a:En)(i:Nat):Option RV:=
 match a[i]? with
 |some (.frz v n)=>some (.frz v n)|some (.own xs _)=>some (.bor (.lst xs))|some (.owd b xs _)=>some (.bor (b.pv xs))|_=>none
noncomputable def tG:Option RV->Option (Option Int)
 |none=>some none|some r=>match r.val with
  | .int i=>some (some i)|_=>none
noncomputable def cG(f:PV->Option (Option (PV×Bool))):List PV->Option (List PV×Bool)
 |[]=>some ([],true)|x::xs=>(f x).bind λr=>(cG f xs).map λ(vs,m)=>match r with
  |none=>(vs,m)|some (v,n)=>(v::vs,n&&m)
noncomputable def lZ:PV->Option (PV×PV)
 | .tup [a,b]=>some (a,b)|_=>none
noncomputable def kT:List RV->Option (List PV)
 |[a]=>match a.val with
  | .int j=>if -(2^62)<=j/\j<2^62 then some ((List.range j.toNat).map λi=>.int (0+(i:Nat)))else none|_=>none
 |[a,b]=>match a.val,b.val with
  | .int i,.int j=>if -(2^62)<=i/\i<2^62/\ -(2^62)<=j/\j<2^62 then some ((List.range (j-i).toNat).map λk=>.int (i+(k:Nat)))else none|_,_=>none
 |[a,b,c]=>match a.val,b.val,c.val with
  | .int i,.int j,.int k=>if k≠0/\k.natAbs<1073741824/\Builtin.Range.small i j k=true then some ((List.range (Builtin.Range.rangeSize i j k).toNat).map λm=>.int (i+(m:Nat)*k))else none|_,_,_=>none
 |_=>none
noncomputable def EV:PV->Option Int
 | .int i=>some i|_=>none
noncomputable def kM:PV->Option Bool
 | .bl b=>some b|_=>none
noncomputable def lL(x:RV):Option (List PV×Bool×Bool):=match x with
  | .frz (.str z) _=>some (signs z,true,false)| .bor (.lst xs)=>if imms xs then some (xs,true,true)else none| .bor (.tup xs)=>if imms xs then some (xs,true,true)else none| .bor _=>none|r=>r.its.map λ(xs,n)=>(xs,n,false)
noncomputable def wf(x y:PV):PV:=.tup [x,y]
noncomputable def fS(i:Nat)(x:PV):PV:=.tup [.int (i:Nat),x]
noncomputable def BP:RV->Option (List PV×Bool)
 | .frz (.lst a) n=>some (a,n)| .own a n=>some (a,n)|_=>none
noncomputable def Jm:RV->Option (List PV×Bool)
 | .frz (.tup xs) n=>some (xs,n)|_=>none
noncomputable def zi(x y:RV):Option (List PV×Bool):=
 match BP x,BP y with
 |some (xs,n),some (ys,m)=>if xs.length=ys.length then some (List.zipWith wf xs ys,n&&m)else none|_,_=>none
noncomputable def oS(x:RV):Option (List PV×Bool):=
 match x with
 | .frz (.str z) _=>some (List.zipWith fS (List.range z.length) (signs z),true)| .frz (.tup xs) n=>some (List.zipWith fS (List.range xs.length) xs,n)|x=>match BP x with
  |some (xs,n)=>some (List.zipWith fS (List.range xs.length) xs,n)|none=>none
noncomputable def nB(t:Int):List ah->List PV->Option (List Int)
 |[],[]=>some []| .inl k::ks,.int v::vs=>(nB t ks vs).map λr=>if Builtin.bitAnd k t=0 then v::r else r|_,_=>none
noncomputable def ym(r:RV)(t:Option TV):Option RV:=match r,t with
 | .frz (.dK ks vs) _,some (.frz (.int t) _)=>if ks.length<=LN then(nB t ks vs).map λns=>.own (ns.map PV.int) true else none|_,_=>none
section
variable(cd:Nat->List PV->Option PV)
noncomputable def mz:PV->RV
 | .lst a=>.own a true|v=>.frz v true
mutual
noncomputable def af:IE->En->Option RV
 | .con v,_=>some (sc v)
 | .var i,τ=>tL τ i
 | .bin op a b,τ=>(af a τ).bind fun x=>(af b τ).bind fun y=>eX op x y
 | .neg a,τ=>(af a τ).bind fun x=>(EV x.val).map fun i=>sc (.int (-i))
 | .cmp op a b,τ=>(af a τ).bind fun x=>(af b τ).bind fun y=>(ai op x.val y.val).map fun r=>sc (.bl r)
 | .chn o1 o2 a b c,τ=>(af a τ).bind fun x=>(af b τ).bind fun y=>(ai o1 x.val y.val).bind fun r=>if r then(af c τ).bind fun z=>(ai o2 y.val z.val).map fun r=>sc (.bl r)else some (sc (.bl false))
 | .and a b,τ=>(af a τ).bind fun x=>(kM x.val).bind fun t=>if t then af b τ else some (sc (.bl false))
 | .or a b,τ=>(af a τ).bind fun x=>(kM x.val).bind fun t=>if t then some (sc (.bl true))else af b τ
 | .not a,τ=>(af a τ).bind fun x=>(kM x.val).map fun b=>sc (.bl !b)
 | .ite c a b,τ=>(gE c τ).bind fun r=>if r then af a τ else af b τ
 | .call f es,τ=>(fX es τ).bind fun rs=>(cd f (rs.map RV.val)).map mz
 | .bf f es,τ=>(fX es τ).bind fun rs=>my f rs
 | .lst es,τ=>(fX es τ).bind fun rs=>(keeps rs).bind fun(vs,n)=>sX vs n
 | .tup es,τ=>(fX es τ).bind fun rs=>(keeps rs).bind fun(vs,n)=>sW vs n
 | .dnew,_=>some (.owd (.dK []) [] true)
 | .dlit k e,τ=>(af e τ).bind fun r=>r.keep.bind fun(v,_)=>if imm v then some (.owd (.dK [k]) [v] true)else none
 | .ix a i,τ=>(af a τ).bind fun x=>(af i τ).bind fun y=>kI x y
 | .sl a lo hi,τ=>(af a τ).bind fun x=>(Iy lo τ).bind fun l=>(Iy hi τ).bind fun h=>(tG l).bind fun l' =>(tG h).bind fun h' =>slice x l' h'
 | .lc elt src ifs caps,τ=>(qX src τ).bind fun(xs,n,_)=>if xs.length<=LN then(cG (fun x=>(jm ifs (.frz x (n||imm x)::caps.map fun i=>τ.getD i .un)).bind fun b=>
   if b then(af elt (.frz x (n||imm x)::caps.map fun i=>τ.getD i .un)).bind fun r=>r.keep.map some else some none) xs).map fun(vs,m)=>.own vs m else none
 | .lc2 elt src ifs caps,τ=>(qX src τ).bind fun(xs,n,_)=>if xs.length<=LN then(cG (fun x=>(lZ x).bind fun(a,b)=>(jm ifs (.frz a (n||imm a)::.frz b (n||imm b)::caps.map fun i=>τ.getD i .un)).bind fun t=>
   if t then(af elt (.frz a (n||imm a)::.frz b (n||imm b)::caps.map fun i=>τ.getD i .un)).bind fun r=>r.keep.map some else some none) xs).map fun(vs,m)=>.own vs m else none
 | .lci a i,τ=>(af a τ).bind fun x=>ym x τ[i]?
 | .never,_=>none
noncomputable def fX:Fg->En->Option (List RV)
 | .nil,_=>some []
 | .cons e es,τ=>(af e τ).bind fun x=>(fX es τ).map (x::·)
noncomputable def Iy:IO->En->Option (Option RV)
 | .no,_=>some none
 | .yes e,τ=>(af e τ).map some
noncomputable def gE:IC->En->Option Bool
 | .val e,τ=>(af e τ).bind fun x=>rJ x.val
 | .not c,τ=>(gE c τ).map (!·)
 | .and c d,τ=>(gE c τ).bind fun r=>if r then gE d τ else some false
 | .or c d,τ=>(gE c τ).bind fun r=>if r then some true else gE d τ
noncomputable def jm:GC->En->Option Bool
 | .no,_=>some true
 | .yes c,τ=>gE c τ
noncomputable def qX:IT->En->Option (List PV×Bool×Bool)
 | .seq e,τ=>(af e τ).bind lL
 | .rng es,τ=>(fX es τ).bind fun rs=>(kT rs).map fun xs=>(xs,true,false)
 | .zip a b,τ=>(af a τ).bind fun x=>(af b τ).bind fun y=>(zi x y).map fun(xs,n)=>(xs,n,false)
 | .enum a,τ=>(af a τ).bind fun x=>(oS x).map fun(xs,n)=>(xs,n,false)
 | .rvd a,τ=>(af a τ).bind fun x=>(Jm x).map fun(xs,n)=>(xs.reverse,n,false)
 | .never,_=>none
end
inductive Fl where
 | nx (τ:En)|bk (τ:En)|ct (τ:En)|rt (v:PV)
noncomputable def gJ(f:Fl)(k:En->Option Fl):Option Fl:=match f with
 | .nx a=>k a| .bk a=>some (.bk a)| .ct a=>some (.ct a)| .rt v=>some (.rt v)
noncomputable def qJ(a:En)(i:Nat):En:=
 match a[i]? with
 |some (.own xs n)=>a.set i (.frz (.lst xs) n)|some (.owd b xs n)=>a.set i (.frz (b.pv xs) n)|_=>a
noncomputable def br(a:List Nat)(b:En):En:=a.foldl qJ b
noncomputable def pN(o:Bool)(i:Nat)(r:RV)(a:En):Option En:=
 match o,r with
 |true,.own xs n=>some (a.set i (.own xs n))|true,.owd b xs n=>some (a.set i (.owd b xs n))|_,r=>r.keep.map λ(v,n)=>a.set i (.frz v n)
noncomputable def d0(n:Bool):List Nat->List PV->En->Option En
 |[],[],τ=>some τ|i::is,x::xs,τ=>d0 n is xs (τ.set i (.frz x (n||imm x)))
 |_,_,_=>none
noncomputable def pG(b:List Nat)(a n:Bool)(x:PV)(c:En):Option En:=
 if a then d0 n b [x] c else match x with
  | .tup d=>d0 n b d c|_=>none
noncomputable def setU(b:List Nat)(n:Bool)(x:PV)(c:En):Option En:=match x with
 | .tup a=>d0 n b a c| .lst a=>d0 n b a c|_=>none
noncomputable def mE(c:PV->En->Option En)(b:En->Option Fl):List PV->En->Option Fl
 |[],τ=>some (.nx τ)|x::xs,τ=>(c x τ).bind λτ1=>(b τ1).bind λf=>match f with
  | .nx a=>mE c b xs a| .ct a=>mE c b xs a| .bk a=>some (.nx a)| .rt v=>some (.rt v)
noncomputable def Cz(c:En->Option Bool)(d:En->Option Fl):Nat->En->Option Fl
 |0,_=>none|k+1,τ=>(c τ).bind λb=>if b then(d τ).bind λf=>(match f with
  | .nx a=>Cz c d k a| .ct a=>Cz c d k a| .bk a=>some (.nx a)| .rt v=>some (.rt v))else some (.nx τ)
variable(fu:Nat)
mutual
noncomputable def gw:IS->En->Option Fl
 | .asg i o cap e,τ=>let τ1:=br cap τ;(af cd e τ1).bind fun r=>(pN o i r τ1).map .nx
 | .ret cap e,τ=>let τ1:=br cap τ;(af cd e τ1).bind fun r=>r.keep.bind fun(v,n)=>if n then some (.rt v)else none
 | .retN,_=>some (.rt .non)
 | .ife c a b,τ=>(gE cd c τ).bind fun r=>if r then bo a τ else bo b τ
 | .forr is one cap src body,τ=>let τ1:=br cap τ;(qX cd src τ1).bind fun(xs,n,b)=>if b then none else mE (pG is one n) (fun τ=>bo body τ) xs τ1
 | .whil c body,τ=>Cz (fun τ=>gE cd c τ) (fun τ=>bo body τ) fu τ
 | .pass,τ=>some (.nx τ)
 | .brk,τ=>some (.bk τ)
 | .cont,τ=>some (.ct τ)
 | .app i cap e,τ=>let τ1:=br cap τ;(af cd e τ1).bind fun r=>r.keep.bind fun(v,m)=>match τ1[i]? with
  | some (.own xs n)=>if xs.length<LN then some (.nx (τ1.set i (.own (xs++[v]) (n&&m))))else none
  | _=>none
 | .drop e,τ=>(af cd e τ).map fun _=>.nx τ
 | .aug i op e,τ=>(af cd e τ).bind fun r=>match τ[i]?,r.val,op with
  | some (.frz (.int x) _),.int y,.Add=>some (.nx (τ.set i (.frz (.int (x+y)) true)))
  | some (.frz (.int x) _),.int y,.Sub=>some (.nx (τ.set i (.frz (.int (x-y)) true)))
  | _,_,_=>none
 | .hand m g,τ=>(g ((τ.take m).map TV.valD)).map .rt
 | .rais _,_=>none
 | .never,_=>none
noncomputable def bo:zY->En->Option Fl
 | .nil,τ=>some (.nx τ)
 | .cons s ss,τ=>(gw s τ).bind fun f=>gJ f (fun τ1=>bo ss τ1)
end
end
structure FD where
 nn:Nat
 np:Nat
 body:zY
noncomputable def entry(d:FD)(a:List PV):En:=a.map (λv=>.frz v (imm v))++List.replicate (d.nn-a.length) .un
noncomputable def eB:Option Fl->Option PV
 |some (.rt v)=>some v|some (.nx _)=>some .non|_=>none
noncomputable def aE(P:Nat->Option FD):Nat->Nat->List PV->Option PV
 |0,_,_=>none|k+1,f,vs=>(P f).bind λd=>if vs.length=d.np then eB (bo (aE P k) 1000000 d.body (entry d vs))else none
section
set_option autoImplicit true
set_option relaxedAutoImplicit true
variable{cd:Nat->List PV->Option PV}{fu:Nat}{τ:En}
set_option tactic.hygienic false
theorem dc:af cd (.con v) τ=(some (sc v)):=rfl
theorem dM:af cd (.var i) τ=(tL τ i):=rfl
theorem dh:af cd (.bin op a b) τ=((af cd a τ).bind λx=>(af cd b τ).bind λy=>eX op x y):=rfl
theorem dQ:af cd (.neg a) τ=((af cd a τ).bind λx=>(EV x.val).map λi=>sc (.int (-i))):=rfl
theorem de:af cd (.cmp op a b) τ=((af cd a τ).bind λx=>(af cd b τ).bind λy=>(ai op x.val y.val).map λr=>sc (.bl r)):=rfl
theorem df:af cd (.chn o1 o2 a b c) τ=((af cd a τ).bind λx=>(af cd b τ).bind λy=>(ai o1 x.val y.val).bind λr=>if r then(af cd c τ).bind λz=>(ai o2 y.val z.val).map λr=>sc (.bl r)else some (sc (.bl false))):=rfl
theorem dk:af cd (.and a b) τ=((af cd a τ).bind λx=>(kM x.val).bind λt=>if t then af cd b τ else some (sc (.bl false))):=rfl
theorem dv:af cd (.or a b) τ=((af cd a τ).bind λx=>(kM x.val).bind λt=>if t then some (sc (.bl true))else af cd b τ):=rfl
theorem dP:af cd (.not a) τ=((af cd a τ).bind λx=>(kM x.val).map λb=>sc (.bl !b)):=rfl
theorem dY:af cd (.ite c a b) τ=((gE cd c τ).bind λr=>if r then af cd a τ else af cd b τ):=rfl
theorem dg:af cd (.call f es) τ=((fX cd es τ).bind λrs=>(cd f (rs.map RV.val)).map mz):=rfl
theorem di:af cd (.bf f es) τ=((fX cd es τ).bind λrs=>my f rs):=rfl
theorem dR:af cd (.lst es) τ=((fX cd es τ).bind λrs=>(keeps rs).bind λ(vs,n)=>sX vs n):=rfl
theorem dN:af cd (.tup es) τ=((fX cd es τ).bind λrs=>(keeps rs).bind λ(vs,n)=>sW vs n):=rfl
theorem dz:af cd (.dnew) τ=(some (.owd (.dK []) [] true)):=rfl
theorem dZ:af cd (.dlit k e) τ=((af cd e τ).bind λr=>r.keep.bind λ(v,_)=>if imm v then some (.owd (.dK [k]) [v] true)else none):=rfl
theorem dX:af cd (.ix a i) τ=((af cd a τ).bind λx=>(af cd i τ).bind λy=>kI x y):=rfl
theorem dO:af cd (.sl a lo hi) τ=((af cd a τ).bind λx=>(Iy cd lo τ).bind λl=>(Iy cd hi τ).bind λh=>(tG l).bind λl' =>(tG h).bind λh' =>slice x l' h'):=rfl
theorem dW:af cd (.lc elt src ifs caps) τ=((qX cd src τ).bind λ(xs,n,_)=>if xs.length<=LN then(cG (λx=>(jm cd ifs (.frz x (n||imm x)::caps.map λi=>τ.getD i .un)).bind λb=>
   if b then(af cd elt (.frz x (n||imm x)::caps.map λi=>τ.getD i .un)).bind λr=>r.keep.map some else some none) xs).map λ(vs,m)=>.own vs m else none):=rfl
theorem dU:af cd (.lc2 elt src ifs caps) τ=((qX cd src τ).bind λ(xs,n,_)=>if xs.length<=LN then(cG (λx=>(lZ x).bind λ(a,b)=>(jm cd ifs (.frz a (n||imm a)::.frz b (n||imm b)::caps.map λi=>τ.getD i .un)).bind λt=>
   if t then(af cd elt (.frz a (n||imm a)::.frz b (n||imm b)::caps.map λi=>τ.getD i .un)).bind λr=>r.keep.map some else some none) xs).map λ(vs,m)=>.own vs m else none):=rfl
theorem dS:af cd (.lci a i) τ=((af cd a τ).bind λx=>ym x τ[i]?):=rfl
theorem dw:af cd (.never) τ=(none):=rfl
theorem C9:fX cd (.nil) τ=(some []):=rfl
theorem DA:fX cd (.cons e es) τ=((af cd e τ).bind λx=>(fX cd es τ).map (x::·)):=rfl
theorem z0u:Iy cd (.no) τ=(some none):=rfl
theorem z0v:Iy cd (.yes e) τ=((af cd e τ).map some):=rfl
theorem zj:gE cd (.val e) τ=((af cd e τ).bind λx=>rJ x.val):=rfl
theorem zm:gE cd (.not c) τ=((gE cd c τ).map (!·)):=rfl
theorem zn:gE cd (.and c d) τ=((gE cd c τ).bind λr=>if r then gE cd d τ else some false):=rfl
theorem zk:gE cd (.or c d) τ=((gE cd c τ).bind λr=>if r then some true else gE cd d τ):=rfl
theorem GG:jm cd (.no) τ=(some true):=rfl
theorem GF:jm cd (.yes c) τ=(gE cd c τ):=rfl
theorem C5:qX cd (.seq e) τ=((af cd e τ).bind lL):=rfl
theorem C7:qX cd (.rng es) τ=((fX cd es τ).bind λrs=>(kT rs).map λxs=>(xs,true,false)):=rfl
theorem C4:qX cd (.zip a b) τ=((af cd a τ).bind λx=>(af cd b τ).bind λy=>(zi x y).map λ(xs,n)=>(xs,n,false)):=rfl
theorem C8:qX cd (.enum a) τ=((af cd a τ).bind λx=>(oS x).map λ(xs,n)=>(xs,n,false)):=rfl
theorem C6:qX cd (.rvd a) τ=((af cd a τ).bind λx=>(Jm x).map λ(xs,n)=>(xs.reverse,n,false)):=rfl
theorem Fk:qX cd (.never) τ=(none):=rfl
theorem iF:gw cd fu (.asg i o cap e) τ=(let a:=br cap τ;(af cd e a).bind λr=>(pN o i r a).map .nx):=rfl
theorem g0:gw cd fu (.ret cap e) τ=(let a:=br cap τ;(af cd e a).bind λr=>r.keep.bind λ(v,n)=>if n then some (.rt v)else none):=rfl
theorem gz:gw cd fu (.retN) τ=(some (.rt .non)):=rfl
theorem hX:gw cd fu (.ife c a b) τ=((gE cd c τ).bind λr=>if r then bo cd fu a τ else bo cd fu b τ):=rfl
theorem iA:gw cd fu (.forr is one cap src body) τ=(let a:=br cap τ;(qX cd src a).bind λ(xs,n,b)=>if b then none else mE (pG is one n) (λτ=>bo cd fu body τ) xs a):=rfl
theorem gy:gw cd fu (.whil c body) τ=(Cz (λτ=>gE cd c τ) (λτ=>bo cd fu body τ) fu τ):=rfl
theorem hJ:gw cd fu (.pass) τ=(some (.nx τ)):=rfl
theorem iD:gw cd fu (.brk) τ=(some (.bk τ)):=rfl
theorem iC:gw cd fu (.cont) τ=(some (.ct τ)):=rfl
theorem iG:gw cd fu (.app i cap e) τ=(let a:=br cap τ;(af cd e a).bind λr=>r.keep.bind λ(v,m)=>match a[i]? with
  |some (.own xs n)=>if xs.length<LN then some (.nx (a.set i (.own (xs++[v]) (n&&m))))else none|_=>none):=rfl
theorem iB:gw cd fu (.drop e) τ=((af cd e τ).map λ_=>.nx τ):=rfl
theorem iE:gw cd fu (.aug i op e) τ=((af cd e τ).bind λr=>match τ[i]?,r.val,op with
  |some (.frz (.int x) _),.int y,.Add=>some (.nx (τ.set i (.frz (.int (x+y)) true)))|some (.frz (.int x) _),.int y,.Sub=>some (.nx (τ.set i (.frz (.int (x-y)) true)))|_,_,_=>none):=rfl
theorem hZ:gw cd fu (.hand m g) τ=((g ((τ.take m).map TV.valD)).map .rt):=rfl
theorem g9:gw cd fu (.rais w1) τ=(none):=rfl
theorem hU:gw cd fu (.never) τ=(none):=rfl
theorem ze:bo cd fu (.nil) τ=(some (.nx τ)):=rfl
theorem zf:bo cd fu (.cons s ss) τ=((gw cd fu s τ).bind λf=>gJ f (λτ1=>bo cd fu ss τ1)):=rfl
end
end IR
namespace IR
open PySem PySem.Spec PyProof.Rows L2
noncomputable def del(H:Hp)(p:Addr):Hp:=λb=>if b=p then none else H b
noncomputable def aU(H:Hp)(O:List Addr):Hp:=λb=>if b∈O then none else H b
theorem fY(s:aC H a):aC (del H p) (del a p):=λb o e=>by
 unfold del at e ⊢
 split at e;cases e
 .rename_i h
  rw[ME h];exact s b o e
theorem aP(s:aC H a):aC (aU H O) (aU a O):=λb o e=>by
 unfold aU at e ⊢
 split at e;cases e
 .rename_i h
  rw[ME h];exact s b o e
theorem be:aC (del H p) H:=λb o e=>by
 unfold del at e
 split at e;cases e;exact e
theorem aQ:aC (aU H O) H:=λb o e=>by
 unfold aU at e
 split at e;cases e;exact e
theorem xM(h:∀b∈a,b∈O):aC (aU H O) (aU H a):=λb o e=>by
 unfold aU at e ⊢
 split at e;cases e
 .rename_i n
  rw[ME λz=>n (h b z)];exact e
theorem EZ:aU H []=H:=by funext b;unfold aU;simp
section
variable(K:W.Frag)(Hi:Hp)
mutual
def Rp(n:Bool):PV->Hp->V->Prop
 | .non,_,u=>u=.non
 | .bl b,_,u=>u=.bl b
 | .int i,_,u=>u=.int i
 | .str z,_,u=>u=.str z
 | .lst xs,H,u=>∃p us,u=.ref p/\(n=true->Hi p=none/\H p=some (.lst us))/\bQ K H p us/\aI n xs (del H p) us
 | .tup xs,H,u=>∃p us,u=.ref p/\bg K H p us/\aI n xs H us
 | .dK ks vs,H,u=>∃p us,u=.ref p/\(n=true->Hi p=none)/\H p=some (.dK (ks.zip us))/\ks.length=us.length/\aI n vs (del H p) us
 | .dT ks vs,H,u=>∃p us,u=.ref p/\(n=true->Hi p=none)/\H p=some (.dT (ks.zip us))/\ks.length=us.length/\aI n vs (del H p) us
def aI(n:Bool):List PV->Hp->List V->Prop
 | [],_,us=>us=[]
 | x::xs,H,us=>∃u r,us=u::r/\Rp n x H u/\aI n xs H r
end
end
section
variable{K:W.Frag}{Hi:Hp}
mutual
theorem Rp.mono{n:Bool}:∀{v:PV}{H H' :Hp}{u:V},aC H H' ->Rp K Hi n v H u->Rp K Hi n v H' u
 | .non,_,_,_,_,h=>h
 | .bl _,_,_,_,_,h=>h
 | .int _,_,_,_,_,h=>h
 | .str _,_,_,_,_,h=>h
 | .lst xs,_,_,_,s,h=>by
  show∃_,_;obtain⟨p,us,e,q,l,r⟩:=h;exact⟨p,us,e,fun z=>⟨(q z).1,s _ _ (q z).2⟩,s.seq l,aI.mono (fY s) r⟩
 | .tup xs,_,_,_,s,h=>by
  show∃_,_;obtain⟨p,us,e,l,r⟩:=h;exact⟨p,us,e,s.tup l,aI.mono s r⟩
 | .dK ks vs,_,_,_,s,h=>by
  show∃_,_;obtain⟨p,us,e,q,l,z,r⟩:=h;exact⟨p,us,e,q,s _ _ l,z,aI.mono (fY s) r⟩
 | .dT ks vs,_,_,_,s,h=>by
  show∃_,_;obtain⟨p,us,e,q,l,z,r⟩:=h;exact⟨p,us,e,q,s _ _ l,z,aI.mono (fY s) r⟩
theorem aI.mono{n:Bool}:∀{xs:List PV}{H H' :Hp}{us:List V},aC H H' ->aI K Hi n xs H us->aI K Hi n xs H' us
 | [],_,_,_,_,h=>h
 | x::xs,_,_,_,s,h=>by
  show∃_,_;obtain⟨u,r,e,a,b⟩:=h;exact⟨u,r,e,Rp.mono s a,aI.mono s b⟩
end
mutual
theorem Rp.weak{n:Bool}:∀{v:PV}{H:Hp}{u:V},Rp K Hi n v H u->Rp K Hi false v H u
 | .non,_,_,h=>h
 | .bl _,_,_,h=>h
 | .int _,_,_,h=>h
 | .str _,_,_,h=>h
 | .lst xs,_,_,h=>by
  show∃_,_;obtain⟨p,us,e,q,l,r⟩:=h;exact⟨p,us,e,(fun z=>absurd z MI),l,aI.weak r⟩
 | .tup xs,_,_,h=>by
  show∃_,_;obtain⟨p,us,e,l,r⟩:=h;exact⟨p,us,e,l,aI.weak r⟩
 | .dK ks vs,_,_,h=>by
  show∃_,_;obtain⟨p,us,e,q,l,z,r⟩:=h;exact⟨p,us,e,(fun z=>absurd z MI),l,z,aI.weak r⟩
 | .dT ks vs,_,_,h=>by
  show∃_,_;obtain⟨p,us,e,q,l,z,r⟩:=h;exact⟨p,us,e,(fun z=>absurd z MI),l,z,aI.weak r⟩
theorem aI.weak{n:Bool}:∀{xs:List PV}{H:Hp}{us:List V},aI K Hi n xs H us->aI K Hi false xs H us
 | [],_,_,h=>h
 | x::xs,_,_,h=>by
  show∃_,_;obtain⟨u,r,e,a,b⟩:=h;exact⟨u,r,e,Rp.weak a,aI.weak b⟩
end
theorem Rp.low(h:Rp K Hi n v H u)(e:m=true->n=true):Rp K Hi m v H u:=by
 cases n with
 |true=>cases m with
  |true=>exact h|false=>exact h.weak
 |false=>cases m with
  |true=>cases e rfl|false=>exact h
theorem aI.low(h:aI K Hi n v H u)(e:m=true->n=true):aI K Hi m v H u:=by
 cases n with
 |true=>cases m with
  |true=>exact h|false=>exact h.weak
 |false=>cases m with
  |true=>cases e rfl|false=>exact h
mutual
theorem Rp.entry{Hj:Hp}{n:Bool}(k:n=true->∀p,Hi p=none->Hj p=none):∀{v:PV}{H:Hp}{u:V},Rp K Hi n v H u->Rp K Hj n v H u
 | .non,_,_,h=>h
 | .bl _,_,_,h=>h
 | .int _,_,_,h=>h
 | .str _,_,_,h=>h
 | .lst xs,_,_,h=>by
  show∃_,_;obtain⟨p,us,e,q,l,r⟩:=h;exact⟨p,us,e,fun z=>⟨k z _ (q z).1,(q z).2⟩,l,aI.entry k r⟩
 | .tup xs,_,_,h=>by
  show∃_,_;obtain⟨p,us,e,l,r⟩:=h;exact⟨p,us,e,l,aI.entry k r⟩
 | .dK ks vs,_,_,h=>by
  show∃_,_;obtain⟨p,us,e,q,l,z,r⟩:=h;exact⟨p,us,e,fun z=>k z _ (q z),l,z,aI.entry k r⟩
 | .dT ks vs,_,_,h=>by
  show∃_,_;obtain⟨p,us,e,q,l,z,r⟩:=h;exact⟨p,us,e,fun z=>k z _ (q z),l,z,aI.entry k r⟩
theorem aI.entry{Hj:Hp}{n:Bool}(k:n=true->∀p,Hi p=none->Hj p=none):∀{xs:List PV}{H:Hp}{us:List V},aI K Hi n xs H us->aI K Hj n xs H us
 | [],_,_,h=>h
 | x::xs,_,_,h=>by
  show∃_,_;obtain⟨u,r,e,a,b⟩:=h;exact⟨u,r,e,Rp.entry k a,aI.entry k b⟩
end
def v8(H G:Hp):Prop:=(∀b a,H b=some (.tup a)->G b=some (.tup a))/\∀b o a,H b=some (.frz o (.tup a))->G b=some (.frz o (.tup a))
theorem v8.at(t:v8 H G)(h:bg K H p a):bg K G p a:=by
 rcases h with(h|⟨o,h⟩)|h
 .exact .inl (.inl (t.1 _ _ h))
 .exact .inl (.inr ⟨o,t.2 _ _ _ h⟩)
 .exact .inr h
mutual
theorem Rp.imm{n m:Bool}:∀{v:PV}{H G:Hp}{u:V},imm v=true->v8 H G->Rp K Hi n v H u->Rp K Hi m v G u
 | .non,_,_,_,_,_,h=>h
 | .bl _,_,_,_,_,_,h=>h
 | .int _,_,_,_,_,_,h=>h
 | .str _,_,_,_,_,_,h=>h
 | .lst xs,_,_,_,i,_,h=>by unfold IR.imm at i;cases i
 | .tup xs,_,_,_,i,t,h=>by
  show∃_,_;unfold IR.imm at i;obtain⟨p,us,e,l,r⟩:=h;exact⟨p,us,e,t.at l,aI.imm i t r⟩
 | .dK ks vs,_,_,_,i,_,h=>by unfold IR.imm at i;cases i
 | .dT ks vs,_,_,_,i,_,h=>by unfold IR.imm at i;cases i
theorem aI.imm{n m:Bool}:∀{xs:List PV}{H G:Hp}{us:List V},imms xs=true->v8 H G->aI K Hi n xs H us->aI K Hi m xs G us
 | [],_,_,_,_,_,h=>h
 | x::xs,_,_,_,i,t,h=>by
  show∃_,_;unfold imms at i;rw[MH]at i;obtain⟨u,r,e,a,b⟩:=h;exact⟨u,r,e,Rp.imm i.1 t a,aI.imm i.2 t b⟩
end
theorem Rp.up(h:Rp K Hi n v H u):Rp K Hi (n||IR.imm v) v H u:=by
 cases e:IR.imm v with
 |true=>rw[Bool.or_true];exact Rp.imm e ⟨λ_ _ e=>e,λ_ _ _ e=>e⟩ h|false=>rw[Bool.or_false];exact h
theorem aI.up(h:aI K Hi n v H u):aI K Hi (n||IR.imms v) v H u:=by
 cases e:IR.imms v with
 |true=>rw[Bool.or_true];exact aI.imm e ⟨λ_ _ e=>e,λ_ _ _ e=>e⟩ h|false=>rw[Bool.or_false];exact h
theorem aI.len{n:Bool}:∀{c:List PV}{H:Hp}{d:List V},aI K Hi n c H d->c.length=d.length
 |[],_,_,h=>by rw[show _=_ from h];rfl|x::c,_,_,h=>by obtain⟨u,r,e,a,b⟩:=h;rw[e,MK,MK,aI.len b]
theorem aI.at{n:Bool}:∀{c:List PV}{H:Hp}{d:List V}{i:Nat}{x:PV},aI K Hi n c H d->c[i]? =some x->∃u,d[i]? =some u/\Rp K Hi n x H u
 |[],_,_,_,_,h,e=>by simp at e|y::c,_,_,i,x,h,e=>by
  obtain⟨u,r,rfl,a,b⟩:=h;cases i with
  |zero=>simp at e;subst e;exact⟨u,by simp,a⟩|succ i=>simpa using aI.at (i:=i) (x:=x) b (by simpa using e)
theorem aI.at'{n:Bool}:∀{c:List PV}{H:Hp}{d:List V}{i:Nat}{u:V},aI K Hi n c H d->d[i]? =some u->∃x,c[i]? =some x/\Rp K Hi n x H u
 |[],_,_,_,_,h,e=>by obtain rfl:=h;simp at e|y::c,_,_,i,x,h,e=>by
  obtain⟨u,r,rfl,a,b⟩:=h;cases i with
  |zero=>simp at e;subst e;exact⟨y,by simp,a⟩|succ i=>simpa using aI.at' (i:=i) (u:=x) b (by simpa using e)
theorem aI.nil{n:Bool}{H:Hp}:aI K Hi n [] H []:=by rfl
theorem aI.cons{n:Bool}{x:PV}{d:List PV}{H:Hp}{u:V}{c:List V}(a:Rp K Hi n x H u)(b:aI K Hi n d H c):aI K Hi n (x::d) H (u::c):=by show∃_,_;exact⟨u,c,rfl,a,b⟩
theorem aI.app{n:Bool}:∀{c d:List PV}{H:Hp}{e f:List V},aI K Hi n c H e->aI K Hi n d H f->aI K Hi n (c++d) H (e++f)
 |[],_,_,_,_,h,g=>by obtain rfl:=h;exact g|x::c,_,_,_,_,h,g=>by obtain⟨u,r,rfl,a,b⟩:=h;exact .cons a (aI.app b g)
theorem aI.take{n:Bool}:∀{c:List PV}{H:Hp}{d:List V}(k:Nat),aI K Hi n c H d->aI K Hi n (c.take k) H (d.take k)
 |[],_,_,_,h=>by obtain rfl:=h;simp;exact .nil|x::c,_,_,k,h=>by
  obtain⟨u,r,rfl,a,b⟩:=h;cases k with
  |zero=>exact .nil|succ k=>exact .cons a (aI.take k b)
theorem aI.drop{n:Bool}:∀{c:List PV}{H:Hp}{d:List V}(k:Nat),aI K Hi n c H d->aI K Hi n (c.drop k) H (d.drop k)
 |[],_,_,_,h=>by obtain rfl:=h;simp;exact .nil|x::c,_,_,k,h=>by
  obtain⟨u,r,rfl,a,b⟩:=h;cases k with
  |zero=>exact .cons a b|succ k=>exact aI.drop k b
theorem Rp.int:Rp K Hi n (.int i) H u↔u=.int i:=.rfl
theorem Rp.str:Rp K Hi n (.str i) H u↔u=.str i:=.rfl
theorem Rp.bl:Rp K Hi n (.bl i) H u↔u=.bl i:=.rfl
theorem Rp.non:Rp K Hi n .non H u↔u=.non:=.rfl
theorem Rp.tup{n:Bool}{b:List PV}{H:Hp}{u:V}:Rp K Hi n (.tup b) H u↔∃p a,u=.ref p/\bg K H p a/\aI K Hi n b H a:=.rfl
theorem Rp.lst{n:Bool}{b:List PV}{H:Hp}{u:V}:Rp K Hi n (.lst b) H u↔∃p a,u=.ref p/\(n=true->Hi p=none/\H p=some (.lst a))/\bQ K H p a/\aI K Hi n b (del H p) a:=.rfl
theorem aI.ints{n:Bool}{H:Hp}:∀{xs:List Int}{us:List V},aI K Hi n (xs.map PV.int) H us↔us=xs.map V.int
 |[],us=>by rfl|x::xs,us=>by
  rw[MM,MM]
  constructor
  .rintro⟨u,r,rfl,a,b⟩
   rw[Rp.int.mp a,aI.ints.mp b]
  .rintro rfl
   exact⟨_,_,rfl,Rp.int.mpr rfl,aI.ints.mpr rfl⟩
def At:Bd->List V->HO->Prop
 | .lst,us,o=>o=.lst us| .dK ks,us,o=>o=.dK (ks.zip us)/\ks.length=us.length| .dT ks,us,o=>o=.dT (ks.zip us)/\ks.length=us.length
def Mo(o:HO):Prop:=∃b a,At b a o
theorem Mo.lst{a:List V}:Mo (.lst a):=⟨.lst,a,rfl⟩
theorem Mo.tup{c:List V}(h:Mo (.tup c)):False:=by
 obtain⟨b,d,h⟩:=h;cases b with
 |lst=>cases h|dK a=>cases h.1|dT a=>cases h.1
variable(K Hi)in
structure ao(O:List Addr)(τ:En)(σ:L2.St)(H:Hp):Prop where
 same:aC Hi H
 own:∀l∈O,Hi l=none/\∃o,H l=some o/\Mo o
 frz:∀(i:Nat)(v:PV)(n:Bool),τ[i]? =some (.frz v n)->∃u,σ[i]? =some (some u)/\Rp K Hi n v (aU H O) u
 obs:∀(i:Nat)(t:TV)(b:Bd)(xs:List PV)(n:Bool),τ[i]? =some t->t.ob=some (b,xs,n)->∃l us o,σ[i]? =some (some (.ref l))/\l∈O/\H l=some o/\At b us o/\aI K Hi n xs (aU H O) us
 dst:∀(i j:Nat)(t t' :TV)(x y:Bd×List PV×Bool)(l:Addr),τ[i]? =some t->t.ob=some x->τ[j]? =some t' ->t'.ob=some y->σ[i]? =some (some (.ref l))->σ[j]? =some (some (.ref l))->i=j
section
variable{O:List Addr}{τ:En}{σ:L2.St}{H H' :Hp}
theorem ao.owns(R:ao K Hi O τ σ H)(i:Nat)(b:List PV)(n:Bool)(e:τ[i]? =some (.own b n)):∃l a,σ[i]? =some (some (.ref l))/\l∈O/\H l=some (.lst a)/\aI K Hi n b (aU H O) a:=by obtain⟨l,a,o,c,d,g,f,h⟩:=R.obs i _ .lst b n e rfl;cases f;exact⟨l,a,c,d,g,h⟩
theorem ao.ext(R:ao K Hi O τ σ H)(s:aC H H'):ao K Hi O τ σ H' where
 same:=R.same.trans s
 own:=λl hl=>⟨(R.own l hl).1,by obtain⟨o,e,m⟩:=(R.own l hl).2;exact⟨o,s _ _ e,m⟩⟩
 frz:=λi v n e=>by obtain⟨u,a,c⟩:=R.frz i v n e;exact⟨u,a,c.mono (aP s)⟩
 obs:=λi t b xs n e ht=>by obtain⟨l,f,o,a,c,g,d,h⟩:=R.obs i t b xs n e ht;exact⟨l,f,o,a,c,s _ _ g,d,h.mono (aP s)⟩
 dst:=R.dst
theorem ao.tups(R:ao K Hi O τ σ H):v8 H (aU H O):=by
 refine⟨λb xs e=> ?_,λb o xs e=> ?_⟩
 .unfold aU
  rw[ME λz=> ?_]
  .exact e
  .obtain⟨c,a,m⟩:=(R.own b z).2
   rw[e]at a;cases a;exact m.tup
 .unfold aU
  rw[ME λz=> ?_]
  .exact e
  .obtain⟨c,a,m⟩:=(R.own b z).2
   rw[e]at a;cases a;obtain⟨b,c,m⟩:=m;cases b with
   |lst=>cases m|dK d=>cases m.1|dT d=>cases m.1
theorem bE{a:Type}{l:List a}{i j:Nat}{x y:a}(h:(l.set i x)[j]? =some y):(i=j/\y=x)\/(i≠j/\l[j]? =some y):=by
 rw[PB]at h
 split at h
 .rename_i e
  split at h;exact .inl ⟨e,(MZ h).symm⟩;cases h
 .rename_i e
  exact .inr ⟨e,h⟩
theorem ao.setF(R:ao K Hi O τ σ H){i:Nat}{v:PV}{n:Bool}{u:V}(B:i<σ.length)(r:Rp K Hi n v (aU H O) u):ao K Hi O (τ.set i (.frz v n)) (σ.set i (some u)) H where
 same:=R.same
 own:=R.own
 frz:=λj w m e=>by
  rcases bE e with⟨rfl,c⟩|⟨g,c⟩
  .cases c
   exact⟨u,by rw[Nl B],r⟩
  .obtain⟨A,d,f⟩:=R.frz j w m c
   exact⟨A,by rw[NG g];exact d,f⟩
 obs:=λj t b xs m e ht=>by
  rcases bE e with⟨rfl,c⟩|⟨g,c⟩
  .subst c
   cases ht
  .obtain⟨l,q,o,d,f⟩:=R.obs j t b xs m c ht
   exact⟨l,q,o,by rw[NG g];exact d,f⟩
 dst:=λa b t t' x y l e1 ht e2 ht' d f=>by
  rcases bE e1 with⟨_,z⟩|⟨h,s⟩
  .subst z
   cases ht
  .rcases bE e2 with⟨_,z⟩|⟨k,p⟩
   .subst z
    cases ht'
   .rw[NG h]at d
    rw[NG k]at f;exact R.dst a b t t' x y l s ht p ht' d f
theorem ao.setB(R:ao K Hi O τ σ H)(k:L.ob=some (b0,P,n))(F:i<σ.length)(s:aC H H')(G:H p=none)(M:H' p=some o)(J:At b0 C o)(r:aI K Hi n P (aU H' (p::O)) C):
  ao K Hi (p::O) (τ.set i L) (σ.set i (some (.ref p))) H' :=by
 have Q:aC (aU H O) (aU H' (p::O)):=λb o e=>by
  unfold aU at e ⊢
  split at e;cases e
  .rename_i nb
   have v:b≠p:=aD e G;rw[ME (by simp[v,nb])];exact s b o e
 have hn:Hi p=none:=R.same.free G;refine⟨R.same.trans s,λl I=> ?_,λj w m e=> ?_,λj t b ys m e ht=> ?_,λa b t t' x y l e1 ht e2 ht' f d=> ?_⟩
 .rcases MP.mp I with rfl|I
  .exact⟨hn,o,M,_,_,J⟩
  .obtain⟨q,B,e,m⟩:=R.own l I
   exact⟨q,B,s _ _ e,m⟩
 .rcases bE e with⟨rfl,h⟩|⟨v,h⟩
  .rw[<- h]at k
   cases k
  .obtain⟨Y,f,d⟩:=R.frz j w m h
   exact⟨Y,by rw[NG v];exact f,d.mono Q⟩
 .rcases bE e with⟨rfl,h⟩|⟨v,h⟩
  .subst h
   rw[k]at ht;cases ht;exact⟨p,C,o,by rw[Nl F],MB,M,J,r⟩
  .obtain⟨l,B,N,f,d,W,S,U⟩:=R.obs j t b ys m h ht
   exact⟨l,B,N,by rw[NG v];exact f,MA _ d,s _ _ W,S,U.mono Q⟩
 .have z:∀(c:Nat)(t:TV)(x:Bd×List PV×Bool),τ[c]? =some t->t.ob=some x->σ[c]? =some (some (.ref l))->l≠p:=λc t x e ht g=>by
   obtain⟨Z,zs,q⟩:=x;obtain⟨l',B,N,X,q2,T,_⟩:=R.obs c t Z zs q e ht;rw[X]at g;cases g;exact aD T G
  rcases bE e1 with⟨rfl,D⟩|⟨E,D⟩
  .rw[Nl F]at f
   cases f
   rcases bE e2 with⟨rfl,_⟩|⟨u,A⟩
   .rfl
   .rw[NG u]at d
    exact absurd rfl (z b t' y A ht' d)
  .rw[NG E]at f
   rcases bE e2 with⟨rfl,A⟩|⟨u,A⟩
   .rw[Nl F]at d
    cases d;exact absurd rfl (z a t x D ht f)
   .rw[NG u]at d
    exact R.dst a b t t' x y l D ht A ht' f d
theorem ao.setO(R:ao K Hi O τ σ H)(e:i<σ.length)(s:aC H H')(c:H p=none)(d:H' p=some (.lst a))(r:aI K Hi n b (aU H' (p::O)) a):
  ao K Hi (p::O) (τ.set i (.own b n)) (σ.set i (some (.ref p))) H' :=R.setB (b0:=.lst) rfl e s c d rfl r
theorem ao.updB(R:ao K Hi O τ σ H)(e:τ[i]? =some t)(B:t.ob=some (b,N,n))(p:C.ob=some (b1,J,m))(D:σ[i]? =some (some (.ref l)))(G:At b1 u o)(r:aI K Hi m J (aU H O) u):
  ao K Hi O (τ.set i C) σ (L2.upd H l o):=by
 obtain⟨l',vs,o',F,v,g3,g4,g5⟩:=R.obs i t b N n e B;rw[D]at F;cases F;have L:aU (L2.upd H l o) O=aU H O:=by
  funext b
  unfold aU
  split;rfl
  .rename_i Z
   exact aA λz=>Z (z▸v)
 have X:=(R.own l v).1;have hi:i<τ.length:=(MV.mp e).1;refine⟨λb o q=> ?_,λk hk=> ?_,λj w q z=> ?_,λj f b2 zs q z ht2=> ?_,λa b f s x y c e1 h2 e2 h3 k1 k2=> ?_⟩
 .rw[aA (aD q X)]
  exact R.same b o q
 .obtain⟨q,A,z,T⟩:=R.own k hk
  refine⟨q,?_⟩
  by_cases c:k=l
  .subst c
   exact⟨o,aB,_,_,G⟩
  .exact⟨A,by rw[aA c];exact z,T⟩
 .rw[L]
  rcases bE z with⟨rfl,d⟩|⟨E,d⟩
  .rw[<- d]at p
   cases p
  .exact R.frz j w q d
 .rw[L]
  rcases bE z with⟨rfl,d⟩|⟨E,d⟩
  .subst d
   rw[p]at ht2;cases ht2;exact⟨l,u,o,D,v,aB,G,r⟩
  .obtain⟨M,A,Y,I,q2,Q,U,q5⟩:=R.obs j f b2 zs q d ht2
   refine⟨M,A,Y,I,q2,?_,U,q5⟩;rw[aA λc=> ?_]
   .exact Q
   .subst c
    exact E (R.dst i j t f _ _ M e B d ht2 D I)
 .have g:∀(c:Nat)(f:TV)(x:Bd×List PV×Bool),(τ.set i C)[c]? =some f->f.ob=some x->∃(s:TV)(y:Bd×List PV×Bool),τ[c]? =some s/\s.ob=some y:=λc f x z h=>by
   rcases bE z with⟨rfl,_⟩|⟨_,d⟩
   .exact⟨_,_,e,B⟩
   .exact⟨_,_,d,h⟩
  obtain⟨_,_,S,W⟩:=g a f x e1 h2;obtain⟨_,_,P,w2⟩:=g b s y e2 h3;exact R.dst a b _ _ _ _ c S W P w2 k1 k2
theorem ao.upd(R:ao K Hi O τ σ H)(e:τ[i]? =some (.own d n))(c:σ[i]? =some (some (.ref l)))(r:aI K Hi m a (aU H O) b):
  ao K Hi O (τ.set i (.own a m)) σ (L2.upd H l (.lst b)):=R.updB (b1:=.lst) e rfl rfl c rfl r
theorem Rp.at(e:n=true->Hi l=none)(h:G l=some o)(g:At b a o)(r:aI K Hi n c (del G l) a):Rp K Hi n (b.pv c) G (.ref l):=by
 cases b with
 |lst=>cases g;exact Rp.lst.mpr ⟨l,a,rfl,λz=>⟨e z,h⟩,bQ.of h,r⟩|dK d=>obtain⟨rfl,f⟩:=g;show Rp K Hi n (.dK d c) G (.ref l);show∃_,_;exact⟨l,a,rfl,e,h,f,r⟩
 |dT d=>obtain⟨rfl,f⟩:=g;show Rp K Hi n (.dT d c) G (.ref l);show∃_,_;exact⟨l,a,rfl,e,h,f,r⟩
theorem ao.freezeB(R:ao K Hi O τ σ H)(e:τ[i]? =some t)(B:t.ob=some (k,r,n)):∃v,ao K Hi v (τ.set i (.frz (k.pv r) n)) σ H/\∀b∈v,b∈O:=by
 obtain⟨l,U,o,s,A,L,F,I⟩:=R.obs i t k r n e B;refine⟨O.filter λb=>decide (b≠l),?_,λb hb=>(Mh.mp hb).1⟩;have d:∀b,b∈O.filter (λb=>decide (b≠l))↔b∈O/\b≠l:=λb=>by simp
 have D:aC (aU H O) (aU H (O.filter λb=>decide (b≠l))):=xM λb hb=>((d b).mp hb).1;have Q:aC (aU H O) (del (aU H (O.filter λb=>decide (b≠l))) l):=λb o z=>by
  unfold aU at z
  split at z;cases z
  .rename_i C
   have g:b≠l:=λc=>C (c▸A);unfold del aU;rw[ME g,ME λc=>C ((d b).mp c).1];exact z
 have T:aU H (O.filter λb=>decide (b≠l)) l=some o:=by unfold aU;rw[ME λc=>((d l).mp c).2 rfl];exact L
 refine⟨R.same,λb hb=>R.own b ((d b).mp hb).1,λj w m z=> ?_,λj t2 b2 ys m z ht2=> ?_,λa b t2 t3 x y c e1 h2 e2 h3 k1 k2=> ?_⟩
 .rcases bE z with⟨rfl,f⟩|⟨g,f⟩
  .cases f
   exact⟨.ref l,s,Rp.at (λ_=>(R.own l A).1) T F (I.mono Q)⟩
  .obtain⟨u,h,q⟩:=R.frz j w m f
   exact⟨u,h,q.mono D⟩
 .rcases bE z with⟨rfl,f⟩|⟨g,f⟩
  .subst f
   cases ht2
  .obtain⟨p,N,P,h,q,G,M,S⟩:=R.obs j t2 b2 ys m f ht2
   exact⟨p,N,P,h,(d p).mpr ⟨q,λc=>by subst c;exact g (R.dst i j _ _ _ _ p e B f ht2 s h)⟩,G,M,S.mono D⟩
 .rcases bE e1 with⟨_,z⟩|⟨_,J⟩
  .subst z
   cases h2
  .rcases bE e2 with⟨_,z⟩|⟨_,E⟩
   .subst z
    cases h3
   .exact R.dst a b t2 t3 x y c J h2 E h3 k1 k2
theorem ao.freeze(R:ao K Hi O τ σ H)(i:Nat):∃a,ao K Hi a (qJ τ i) σ H/\∀b∈a,b∈O:=by
 unfold qJ;cases e:τ[i]? with
 |none=>exact⟨O,R,λb hb=>hb⟩|some t=>
  cases t with
  |un=>exact⟨O,R,λb hb=>hb⟩|frz v n=>exact⟨O,R,λb hb=>hb⟩|own c n=>exact R.freezeB e rfl|owd b c n=>exact R.freezeB e rfl
theorem ao.freezes:∀{cap:List Nat}{O:List Addr}{c:En},ao K Hi O c σ H->∃a,ao K Hi a (br cap c) σ H/\∀b∈a,b∈O
 |[],O,_,R=>⟨O,R,λb hb=>hb⟩|i::cap,_,_,R=>by obtain⟨a,f,h⟩:=R.freeze i;obtain⟨g,d,e⟩:=ao.freezes (cap:=cap) f;exact⟨g,d,λb hb=>h b (e b hb)⟩
variable(K Hi)in
def ag(O:List Addr)(H a:Hp):RV->V->Prop
 | .frz v n,u=>Rp K Hi n v (aU a O) u| .bor v,u=>Rp K Hi false v a u| .own xs n,u=>∃p c,u=.ref p/\H p=none/\a p=some (.lst c)/\aI K Hi n xs (aU (del a p) O) c| .owd b xs n,u=>∃p c o,u=.ref p/\H p=none/\a p=some o/\At b c o/\aI K Hi n xs (aU (del a p) O) c
theorem ag.ext(h:ag K Hi O H H' r u)(s:aC H' g):ag K Hi O H g r u:=by
 cases r with
 |frz v n=>exact Rp.mono (aP s) h|bor v=>exact Rp.mono s h|own j n=>obtain⟨p,f,e,a,c,d⟩:=h;exact⟨p,f,e,a,s _ _ c,d.mono (aP (fY s))⟩
 |owd b j n=>obtain⟨p,f,o,e,a,c,i,d⟩:=h;exact⟨p,f,o,e,a,s _ _ c,i,d.mono (aP (fY s))⟩
theorem ag.back(h:ag K Hi O H H' r u)(s:aC g H):ag K Hi O g H' r u:=by
 cases r with
 |frz v n=>exact h|bor v=>exact h|own j n=>obtain⟨p,f,e,a,c,d⟩:=h;exact⟨p,f,e,s.free a,c,d⟩
 |owd b j n=>obtain⟨p,f,o,e,a,c,i,d⟩:=h;exact⟨p,f,o,e,s.free a,c,i,d⟩
theorem io:aU (del H' p) O=del (aU H' O) p:=by
 funext b
 unfold aU del;dsimp only
 split<;>split<;>(try rfl)<;>simp_all
theorem ag.keep(R:ao K Hi O τ σ H)(h:ag K Hi O H H' r u)(s:aC H H')(e:r.keep=some (v,n)):Rp K Hi n v (aU H' O) u:=by
 cases r with
 |frz w m=>cases e;exact h
 |bor w=>
  have e:(if imm w then some (w,true)else none)=some (v,n):=e
  split at e
  .rename_i i
   cases e;exact Rp.imm i (R.ext s).tups h
  .cases e
 |own q m=>
  cases e;obtain⟨p,f,e,c,g,j⟩:=h;have d:aU H' O p=some (.lst f):=by
   unfold aU;rw[ME λz=> ?_]
   .exact g
   .obtain⟨l,a,_⟩:=(R.own p z).2
    rw[c]at a;cases a
  exact Rp.lst.mpr ⟨p,f,e,λ_=>⟨R.same.free c,d⟩,bQ.of d,by rw[<- io];exact j⟩
 |owd b q m=>
  cases e;obtain⟨p,f,o,e,c,g,k,j⟩:=h;subst e;have d:aU H' O p=some o:=by
   unfold aU;rw[ME λz=> ?_]
   .exact g
   .obtain⟨l,a,_⟩:=(R.own p z).2
    rw[c]at a;cases a
  exact Rp.at (λ_=>R.same.free c) d k (by rw[<- io];exact j)
theorem ag.val(R:ao K Hi O τ σ H)(h:ag K Hi O H H' r u)(s:aC H H'):Rp K Hi false r.val H' u:=by
 cases r with
 |frz w m=>exact(Rp.mono aQ h).weak|bor w=>exact h|own a m=>exact(Rp.mono aQ (h.keep R s rfl)).weak|owd b a m=>exact(Rp.mono aQ (h.keep R s rfl)).weak
theorem ag.its(R:ao K Hi O τ σ H)(h:ag K Hi O H H' r u)(s:aC H H')(e:r.its=some (d,n)):
  ∃p a,u=.ref p/\((bQ K H' p a/\∃c,r.val=.lst c)\/(bg K H' p a/\∃c,r.val=.tup c))/\aI K Hi n d (aU H' O) a:=by
 cases r with
 |frz w m=>
  cases w with
  |lst c=>cases e;obtain⟨p,a,e,_,l,r⟩:=Rp.lst.mp h;exact⟨p,a,e,.inl ⟨(aQ (O:=O)).seq l,_,rfl⟩,r.mono be⟩
  |tup c=>cases e;obtain⟨p,a,e,l,r⟩:=Rp.tup.mp h;exact⟨p,a,e,.inr ⟨(aQ (O:=O)).tup l,_,rfl⟩,r⟩
  |_=>cases e
 |bor w=>
  cases w with
  |lst c=>
   have e:(if imms c then some (c,true)else none)=some (d,n):=e
   split at e
   .rename_i i
    cases e;obtain⟨p,a,e,_,l,r⟩:=Rp.lst.mp h;exact⟨p,a,e,.inl ⟨l,_,rfl⟩,aI.imm i (R.ext s).tups (r.mono be)⟩
   .cases e
  |tup c=>
   have e:(if imms c then some (c,true)else none)=some (d,n):=e
   split at e
   .rename_i i
    cases e;obtain⟨p,a,e,l,r⟩:=Rp.tup.mp h;exact⟨p,a,e,.inr ⟨l,_,rfl⟩,aI.imm i (R.ext s).tups r⟩
   .cases e
  |_=>cases e
 |own c m=>cases e;obtain⟨p,a,e,j,f,g⟩:=h;exact⟨p,a,e,.inl ⟨bQ.of f,_,rfl⟩,g.mono (aP be)⟩
 |owd b c m=>cases e
end
end
end IR
namespace IR
open PySem
structure Ct where
 N:List Str
 S:List (Str×NameKind)
 F:List (Str×Nat)
 G:List (Str×PV)
 B:List Str
 M:List Nat
noncomputable def slot:List Str->Str->Option Nat
 |[],_=>none|y::ys,x=>if y==x then some 0 else(slot ys x).map (·+1)
theorem fw:∀{N:List Str}{x:Str}{i:Nat},slot N x=some i->N[i]? =some x
 |[],_,_,h=>by cases h|y::ys,x,i,h=>by
  unfold slot at h
  split at h
  .rename_i e
   cases h;simp[Mf e]
  .cases e:slot ys x with
   |none=>rw[e]at h;cases h|some j=>
    rw[e]at h;cases h
    simpa using fw e
noncomputable def GK(S:List (Str×NameKind))(x:Str):Bool:=S.lookup x==some .local||S.lookup x==some .cell||S.lookup x==some .free
noncomputable def wq(x:Str):Bool:=x==("__debug__":Str)||x==("__classdict__":Str)||x==("__name__":Str)
noncomputable def bZ(ct:Ct)(x:Str):IE:=
 if wq x then .never else if GK ct.S x then(match slot ct.N x with
  |some i=>.var i|none=>.never)else if ct.S.lookup x==some .globalImplicit then(match ct.G.lookup x with
   |some v=>.con v|none=>.never)else .never
noncomputable def cS:Expr->Bool
 | .Set .. =>true|_=>false
noncomputable def wj:CmpOp->Bool
 | .Lt=>true| .LtE=>true| .Gt=>true| .GtE=>true| .Eq=>true| .NotEq=>true|_=>false
noncomputable def xI:Expr->Bool
 | .Slice .. =>true|_=>false
noncomputable def isStar:Expr->Bool
 | .Starred .. =>true|_=>false
noncomputable def plainB:Expr->Bool
 | .Name .. =>true| .Constant .. =>true|_=>false
noncomputable def o7:Const->IE
 | .int i=>.con (.int i)| .bool b=>.con (.bl b)| .str z=>.con (.str z)| .none=>.con .non|_=>.never
noncomputable def mH(c:BoolOp):List IE->IE
 |[]=>.never|[a]=>a|a::b::r=>match c with
  | .And=>.and a (mH c (b::r))| .Or=>.or a (mH c (b::r))
noncomputable def mG(c:BoolOp):List IC->IC
 |[]=>.val .never|[a]=>a|a::b::r=>match c with
  | .And=>.and a (mG c (b::r))| .Or=>.or a (mG c (b::r))
noncomputable def uO(x:Str)(k:Nat):Option Bf:=
 if x==("len":Str)&&k==1 then some .len else if x==("int":Str)&&k==1 then some .int else if x==("list":Str)&&k==1 then some .list else if x==("tuple":Str)&&k==1 then some .tuple
 else if x==("all":Str)&&k==1 then some .all else if x==("min":Str)&&k==2 then some .min else if x==("max":Str)&&k==2 then some .max else if x==("abs":Str)&&k==1 then some .abs
 else if x==("any":Str)&&k==1 then some .any else if x==("sum":Str)&&k==1 then some .sum else if x==("sorted":Str)&&k==1 then some .sorted else none
noncomputable def mj(x:Str)(k:Nat):Option Bf:=uO x k
noncomputable def wv(x y:Str):Option Bf:=
 if x==("sorted":Str)&&y==("set":Str)then some .sset
 else if x==("len":Str)&&y==("set":Str)then some .lset
 else none
noncomputable def zy(x:Str):Option String:=
 if x==("int":Str)then some "int" else if x==("bool":Str)then some "bool" else if x==("str":Str)then some "str" else if x==("list":Str)then some "list" else if x==("tuple":Str)then some "tuple" else none
noncomputable def own(ct:Ct)(x:Str):Bool:=ct.B.contains x&&ct.S.lookup x==some .globalImplicit
noncomputable def fi:Expr->Option (Str×List Expr)
 | .Call (.Name x _) es [] _=>some (x,es)|_=>none
theorem zN(h:fi e=some (x,es)):∃p q,e=.Call (.Name x p) es [] q:=by
 unfold fi at h
 split at h
 .cases h
  exact⟨_,_,rfl⟩
 .cases h
noncomputable def AS:List Expr->Option Expr
 |[b]=>some b|_=>none
noncomputable def wX(e:Expr):Option Expr:=(fi e).bind λc=>if c.1==("reversed":Str)then AS c.2 else none
theorem yX(h:wX a=some b):∃p q,a=.Call (.Name "reversed" p) [b] [] q:=by
 unfold wX at h;cases e:fi a with
 |none=>rw[e]at h;cases h|some c=>
  rw[e]at h;have h:(if c.1==("reversed":Str)then AS c.2 else none)=some b:=h
  split at h
  .rename_i z
   obtain⟨p,q,rfl⟩:=zN (x:=c.1) (es:=c.2) e;rw[Mf z];cases f:c.2 with
   |nil=>rw[f]at h;cases h|cons d r=>
    rw[f]at h;cases r with
    |nil=>cases h;exact⟨p,q,rfl⟩|cons g r=>cases h
  .cases h
noncomputable def nw(S names:List (Str×NameKind)):List (Str×NameKind):=names.map λ(n,k)=>if(k== .free&&true&&S.lookup n==some .cell)then(n,.cell)else(n,k)
noncomputable def frees(scope:Scope):List Str:=(scope.names.filter λy=>y.2== .free).map (·.1)
noncomputable def slots(N:List Str):List Str->Option (List Nat)
 |[]=>some []|x::xs=>(slot N x).bind λi=>(slots N xs).map (i::·)
noncomputable def yn(ct:Ct)(t:Str)(scope:Scope):Bool:=
 scope.kind== .function&&(scope.names.all λy=> !(y.2== .cell)||scope.names.lookup y.1==some .cell)&&(scope.names.all λy=> !(y.2== .local)||scope.names.lookup y.1==some .local) &&
 (scope.names.all λy=> !(y.2== .free)||(ct.S.lookup y.1==some .cell||ct.S.lookup y.1==some .free))&&decide (t::frees scope).Nodup&&(scope.names.lookup t==some .local||scope.names.lookup t==some .cell) &&
 (frees scope).all λx=>scope.names.lookup x==some .free
noncomputable def blk(ct:Ct)(t:Str)(scope:Scope):Ct:=⟨t::frees scope,nw ct.S scope.names,ct.F,ct.G,ct.B,[]⟩
noncomputable def ik(ct:Ct)(t a:Str)(scope:Scope):Bool:=
 scope.kind== .function&&(scope.names.all λy=> !(y.2== .cell)||scope.names.lookup y.1==some .cell)&&(scope.names.all λy=> !(y.2== .local)||scope.names.lookup y.1==some .local) &&
 (scope.names.all λy=> !(y.2== .free)||(ct.S.lookup y.1==some .cell||ct.S.lookup y.1==some .free))&&decide (t::a::frees scope).Nodup&&(scope.names.lookup t==some .local||scope.names.lookup t==some .cell)&&(scope.names.lookup a==some .local||scope.names.lookup a==some .cell) &&
 (frees scope).all λx=>scope.names.lookup x==some .free
noncomputable def blk2(ct:Ct)(t a:Str)(scope:Scope):Ct:=⟨t::a::frees scope,nw ct.S scope.names,ct.F,ct.G,ct.B,[]⟩
noncomputable def yh:List IE->Fg
 |[]=>.nil|e::es=>.cons e (yh es)
noncomputable def kW:Expr->Option Str
 | .Name x _=>some x|_=>none
noncomputable def li:Expr->Option (Str×Str)
 | .Tuple c _ _=>(match c with
  |[a,b]=>(kW a).bind λx=>(kW b).map λy=>(x,y)|_=>none)
 |_=>none
noncomputable def lD:Expr->Bool
 | .Subscript .. =>true|_=>false
noncomputable def qP:Expr->Option Expr
 | .Call f b c d=>if b.isEmpty&&c.isEmpty then(match f with
  | .Attribute o m a=>if m==("items":Str)&&a.endLine==d.line&&(lD o||plainB o)then some o else none
  |_=>none)else none
 |_=>none
noncomputable def JS:Expr->Option (Str×Str)
 | .BinOp a c b _=>if c== .BitAnd then(kW a).bind λx=>(kW b).map λy=>(x,y)else none|_=>none
noncomputable def vP:Expr->Bool
 | .Constant c _ _=>(match c with
  | .int i=>i==0|_=>false)
 |_=>false
noncomputable def Fc:Expr->Option (Str×Str)
 | .Compare a b d _=>(match b,d with
  |[o],[c]=>if o== .Eq&&vP c then JS a else none|_,_=>none)
 |_=>none
noncomputable def tF:IE->Nat->Bool
 | .var i,j=>i==j|_,_=>false
noncomputable def wI(a:List Comprehension):Option (Str×Str×Expr×List Expr):=match a with
 |[g]=>if g.is_async=0 then(li g.target).map λw=>(w.1,w.2,g.iter,g.ifs)else none|_=>none
noncomputable def xH(f:Str)(ct:Ct)(a:Expr)(b:List Comprehension)(scope:Scope):Option (Expr×Nat):=if f==("sum":Str)then(match b with
 |[g]=>(match g.ifs with
  |[c]=>(li g.target).bind λq=>(qP g.iter).bind λd=>(Fc c).bind λz=>(kW a).bind λy=>
   if lD d&&z.1==q.1&&y==q.2&&g.is_async==0&&ik ct q.1 q.2 scope&&decide (frees scope=[z.2])&&tF (bZ (blk2 ct q.1 q.2 scope) q.1) 0&&tF (bZ (blk2 ct q.1 q.2 scope) q.2) 1&&tF (bZ (blk2 ct q.1 q.2 scope) z.2) 2 then(slot ct.N z.2).map λi=>(d,i)else none
  |_=>none)
 |_=>none)else none
theorem lh(h:kW e=some x):∃p,e=.Name x p:=by
 unfold kW at h
 split at h;cases h;exact⟨_,rfl⟩;cases h
theorem ww(h:((kW a).bind λx=>(kW b).map λy=>(x,y))=some q):∃p d,a=.Name q.1 p/\b=.Name q.2 d:=by
 cases c:kW a with
 |none=>rw[c]at h;cases h|some x=>
  cases e:kW b with
  |none=>rw[c,e]at h;cases h|some y=>rw[c,e]at h;cases h;obtain⟨p,rfl⟩:=lh c;obtain⟨d,rfl⟩:=lh e;exact⟨p,d,rfl,rfl⟩
theorem oC(h:li e=some q):∃p a k b,e=.Tuple [.Name q.1 p,.Name q.2 a] k b:=by
 unfold li at h
 split at h
 .split at h
  .obtain⟨p,a,rfl,rfl⟩:=ww h
   exact⟨p,a,_,_,rfl⟩
  .cases h
 .cases h
theorem yI(h:wI i=some (t,f,a,b)):∃j d m e,i=[⟨.Tuple [.Name t j,.Name f d] m e,a,b,0⟩]:=by
 match i,h with
 |[],h=>cases h|_::_::_,h=>cases h|[⟨tg,it,fs,as⟩],h=>
  have c:(if as=0 then(li tg).map λw=>(w.1,w.2,it,fs)else none)=some (t,f,a,b):=h
  split at c
  .rename_i l
   subst l
   clear h
   cases g:li tg with
   |none=>rw[g]at c;cases c|some w=>rw[g]at c;cases c;obtain⟨o,n,k,p,rfl⟩:=oC g;exact⟨_,_,_,_,rfl⟩
  .cases c
theorem yP(h:lD e=true):∃a i p,e=.Subscript a i p:=by
 unfold lD at h
 split at h;exact⟨_,_,_,rfl⟩;cases h
theorem vZ(h:qP e=some d):∃g b,e=.Call (.Attribute d "items" g) [] [] b/\(g.endLine==b.line)=true/\(lD d||plainB d)=true:=by
 unfold qP at h
 split at h
 .rename_i f k l b
  split at h
  .rename_i c
   rw[MH,List.isEmpty_iff,List.isEmpty_iff]at c;obtain⟨rfl,rfl⟩:=c
   split at h
   .split at h
    .rename_i c
     simp only[MH]at c;cases h;obtain⟨⟨a,i⟩,j⟩:=c;have a:=Mf a;subst a;exact⟨_,_,rfl,i,j⟩
    .cases h
   .cases h
  .cases h
 .cases h
theorem Cn(h:JS e=some q):∃p a b,e=.BinOp (.Name q.1 p) .BitAnd (.Name q.2 a) b:=by
 unfold JS at h
 split at h
 .split at h
  .rename_i c
   obtain⟨p,a,rfl,rfl⟩:=ww h;have c:=Mf c;subst c;exact⟨p,a,_,rfl⟩
  .cases h
 .cases h
theorem vO(h:vP e=true):∃k p,e=.Constant (.int 0) k p:=by
 unfold vP at h
 split at h
 .split at h
  .have h:=Mf h
   subst h;exact⟨_,_,rfl⟩
  .cases h
 .cases h
theorem Cs(h:Fc e=some q):∃p b d k a f,e=.Compare (.BinOp (.Name q.1 p) .BitAnd (.Name q.2 b) d) [.Eq] [.Constant (.int 0) k a] f:=by
 unfold Fc at h
 split at h
 .split at h
  .split at h
   .rename_i c
    rw[MH]at c;obtain⟨p,b,d,rfl⟩:=Cn h;obtain⟨k,a,rfl⟩:=vO c.2;have c:=Mf c.1;subst c;exact⟨p,b,d,k,a,_,rfl⟩
   .cases h
  .cases h
 .cases h
theorem jg(h:tF e j=true):e=.var j:=by
 unfold tF at h
 split at h
 .have h:=Mf h
  subst h;rfl
 .cases h
inductive Itm(ct:Ct)(scope:Scope)(d:Expr)(i:Nat):Expr->List Comprehension->Prop
 | mk {x y t:Str} {p1 p2 p3 ap cp p4 p5 p6 p7 p8 p9:Pos} {k k2:Nat}:(ap.endLine==cp.line)=true->ik ct x y scope=true->frees scope=[t]->bZ (blk2 ct x y scope) x=.var 0->bZ (blk2 ct x y scope) y=.var 1->bZ (blk2 ct x y scope) t=.var 2->slot ct.N t=some i ->
  Itm ct scope d i (.Name y p9) [⟨.Tuple [.Name x p1,.Name y p2] k p3,.Call (.Attribute d "items" ap) [] [] cp,[.Compare (.BinOp (.Name x p4) .BitAnd (.Name t p5) p6) [.Eq] [.Constant (.int 0) k2 p7] p8],0⟩]
theorem yr(h:xH f ct a o scope=some (d,i)):f=("sum":Str)/\lD d=true/\Itm ct scope d i a o:=by
 refine NY λno=> ?_;unfold xH at h
 split at h
 .rename_i M
  split at h
  .rename_i g
   obtain⟨D,v,L,s⟩:=g;dsimp only at h
   split at h
   .rename_i c
    cases b:li D with
    |none=>rw[b]at h;cases h|some q=>
     cases e:qP v with
     |none=>rw[b,e]at h;cases h|some T=>
      cases l:Fc c with
      |none=>rw[b,e,l]at h;cases h|some z=>
       cases n:kW a with
       |none=>rw[b,e,l,n]at h;cases h|some y=>
        rw[b,e,l,n]at h;simp only[NO]at h
        split at h
        .rename_i c
         simp only[MH]at c;obtain⟨⟨⟨⟨⟨⟨⟨⟨I,t⟩,w⟩,G⟩,x⟩,A⟩,F⟩,H⟩,u⟩:=c;obtain⟨E,O⟩:=q;obtain⟨B,p⟩:=z;cases m:slot ct.N p with
         |none=>simp only[m,Option.map_none]at h;cases h|some j=>simp only[m,ON]at h;cases h;have C:B=E:=Mf t;have J:y=O:=Mf w;have r:s=0:=Mf G;subst C;subst J;subst r;obtain⟨S,V,k,U,rfl⟩:=oC b;obtain⟨X,cp,rfl,K,Z⟩:=vZ e;obtain⟨W,P,Q,Y,p7,R,rfl⟩:=Cs l;obtain⟨p9,rfl⟩:=lh n;exact no ⟨Mf M,I,.mk K x (Me A) (jg F) (jg H) (jg u) m⟩
        .cases h
   .cases h
  .cases h
 .cases h
mutual
noncomputable def ar:Nat->Ct->Expr->IE
 | 0,_,_=>.never
 | n+1,ct,e=>match e with
  | .Constant c _ _=>o7 c
  | .Name x _=>bZ ct x
  | .BinOp a op b _=>.bin op (ar n ct a) (ar n ct b)
  | .UnaryOp op a _=>match op with
   | .USub=>.neg (ar n ct a)
   | .Not=>.not (ar n ct a)
   | _=>.never
  | .Compare a ops cs _=>match ops,cs with
   | [op],[b]=>if cS b then .never else .cmp op (ar n ct a) (ar n ct b)
   | [op,op'],[b,c]=>if cS c|| !wj op' then .never else .chn op op' (ar n ct a) (ar n ct b) (ar n ct c)
   | _,_=>.never
  | .BoolOp op vs _=>if vs.length<2 then .never else mH op (vs.map (ar n ct))
  | .IfExp c a b _=>.ite (nX n ct c) (ar n ct a) (ar n ct b)
  | .List es _=>.lst (fH n ct es)
  | .Tuple es _ _=>.tup (fH n ct es)
  | .Dict ks vs _=>match ks,vs with
   | [],[]=>.dnew
   | [some (.Constant c _ _)],[v]=>match c with
    | .int i=>.dlit (.inl i) (ar n ct v)
    | .str z=>.dlit (.inr z) (ar n ct v)
    | _=>.never
   | _,_=>.never
  | .Subscript a i _=>match i with
   | .Slice lo hi st _=>match st with
    | none=>.sl (ar n ct a) (Fn n ct lo) (Fn n ct hi)
    | some _=>.never
   | i=>.ix (ar n ct a) (ar n ct i)
  | .Call f es ks cp=>match ks with
   | []=>match f with
    | .Name x _=>jU n ct x es
    | .Attribute o m ap=>if ap.endLine==cp.line then nW n ct o m es else .never
    | _=>.never
   | _=>.never
  | .ListComp elt gs scope _=>match gs with
   | [⟨.Name t _,iter,ifs,0⟩]=>if yn ct t scope then(match slots ct.N (frees scope)with
    | some caps=>.lc (ar n (blk ct t scope) elt) (AG n ct false iter) (match ifs with
     | []=>.no
     | [c]=>.yes (nX n (blk ct t scope) c)
     | _=>.yes (.val .never)) caps
    | none=>.never)else .never
   | gs=>(match wI gs with
    | some (t,t2,iter,ifs)=>if ik ct t t2 scope then(match slots ct.N (frees scope)with
     | some caps=>.lc2 (ar n (blk2 ct t t2 scope) elt) (AG n ct true iter) (match ifs with
      | []=>.no
      | [c]=>.yes (nX n (blk2 ct t t2 scope) c)
      | _=>.yes (.val .never)) caps
     | none=>.never)else .never
    | none=>.never)
  | _=>.never
noncomputable def fH:Nat->Ct->List Expr->Fg
 | 0,_,_=>.cons .never .nil
 | n+1,ct,es=>yh (es.map fun e=>if isStar e then .never else ar n ct e)
noncomputable def Fn:Nat->Ct->Option Expr->IO
 | 0,_,_=>.yes .never
 | n+1,ct,e=>match e with
  | none=>.no
  | some e=>.yes (ar n ct e)
noncomputable def nX:Nat->Ct->Expr->IC
 | 0,_,_=>.val .never
 | n+1,ct,e=>match e with
  | .UnaryOp op a p=>match op with
   | .Not=>.not (nX n ct a)
   | op=>.val (ar n ct (.UnaryOp op a p))
  | .BoolOp op vs _=>mG op (vs.map (nX n ct))
  | .IfExp _ _ _ _=>.val .never
  | e=>.val (ar n ct e)
noncomputable def jU:Nat->Ct->Str->List Expr->IE
 | 0,_,_,_=>.never
 | n+1,ct,x,es=>if wq x then .never else if ct.S.lookup x==some .globalImplicit then(match ct.F.lookup x with
  | some f=>match es with
   | []=>.never
   | es=>.call f (fH n ct es)
  | none=>if ct.B.contains x then(if x==("isinstance":Str)then(match es with
    | [a,.Name t _]=>match zy t with
     | some ty=>if isStar a then .never else if own ct t then .bf (.isin ty) (.cons (ar n ct a) .nil)else .never
     | none=>.never
    | _=>.never)else match es with
     | [.Call (.Name y _) [a] [] _]=>(match wv x y with
      | some f=>if isStar a|| !own ct y then .never else .bf f (.cons (ar n ct a) .nil)
      | none=>match mj x es.length with
       | some f=>.bf f (fH n ct es)
       | none=>.never)
     | [.ListComp elt gs scope _]=>(match xH x ct elt gs scope with
      | some (d,i)=>.bf .sum (.cons (.lci (ar n ct d) i) .nil)
      | none=>match mj x es.length with
       | some f=>.bf f (fH n ct es)
       | none=>.never)
     | es=>match mj x es.length with
      | some f=>.bf f (fH n ct es)
      | none=>.never)else .never)else .never
noncomputable def nW:Nat->Ct->Expr->Str->List Expr->IE
 | 0,_,_,_,_=>.never
 | n+1,ct,o,m,es=>if plainB o then(match es with
  | _=>.never)else .never
noncomputable def AG:Nat->Ct->Bool->Expr->IT
 | 0,_,_,_=>.never
 | n+1,ct,tp,e=>if cS e then .never else match wX e with
  | some a=>if isStar a|| !own ct ("reversed":Str)then .never else .rvd (ar n ct a)
  | none=>match fi e with
  | some (x,es)=>if x==("range":Str)then(if own ct x then .rng (fH n ct es)else .never)else if x==("zip":Str)then(match es with
    | [a,b]=>if isStar a||isStar b|| !tp|| !own ct x then .never else .zip (ar n ct a) (ar n ct b)
    | _=>.never)else if x==("enumerate":Str)then(match es with
    | [a]=>if isStar a|| !tp|| !own ct x then .never else .enum (ar n ct a)
    | _=>.never)else .seq (ar n ct e)
  | none=>.seq (ar n ct e)
end
noncomputable def nQ:Nat->Ct->Expr->List Nat
 |0,_,_=>[]|n+1,ct,e=>match e with
  | .Name x _=>(slot ct.N x).toList| .List c _=>c.flatMap (nQ n ct)| .Tuple c _ _=>c.flatMap (nQ n ct)| .IfExp _ a b _=>nQ n ct a++nQ n ct b|_=>[]
noncomputable def nP:Nat->Ct->Expr->List Nat
 |0,_,_=>[]|n+1,ct,e=>match e with
  | .Name x _=>(slot ct.N x).toList| .List c _=>c.flatMap (nP n ct)| .Tuple c _ _=>c.flatMap (nP n ct)| .BinOp a _ b _=>nP n ct a++nP n ct b| .IfExp _ a b _=>nP n ct a++nP n ct b| .Call (.Name x _) c _ _=>if x==("tuple":Str)||x==("list":Str)||x==("sorted":Str)then c.flatMap (nP n ct)else[]
  | .ListComp _ d _ _=>d.flatMap λg=>nP n ct g.iter|_=>[]
noncomputable def LU(ct:Ct)(x:Str)(e:Expr):List Nat:=match e with
 | .BinOp (.Name y _) .Add _ _=>if y==x then(slot ct.N x).toList else[]|_=>[]
noncomputable def LV(n:Nat)(ct:Ct)(e:Expr):List Nat:=match fi e with
 |some (x,es)=>if x==("zip":Str)||x==("enumerate":Str)||x==("reversed":Str)then es.flatMap (nQ n ct)else[]
 |none=>nQ n ct e
noncomputable def loc(ct:Ct)(x:Str):Option Nat:=if(ct.S.lookup x==some .local||ct.S.lookup x==some .cell)&& !wq x then slot ct.N x else none
noncomputable def Bm:Expr->Bool
 | .ListComp .. =>true| .SetComp .. =>true| .DictComp .. =>true|_=>false
noncomputable def Ag:Option Expr->Option Expr->Option Str
 |some (.Call (.Name x _) [] [] _),none=>some x|_,_=>none
noncomputable def locs(ct:Ct):List Expr->Option (List Nat)
 |[]=>some []| .Name x _::es=>(loc ct x).bind λi=>(locs ct es).map (i::·)|_::_=>none
noncomputable def AF(ct:Ct):Expr->Option (List Nat×Bool)
 | .Name x _=>(loc ct x).map λi=>([i],true)| .Tuple a _ _=>(locs ct a).map λis=>(is,false)|_=>none
mutual
noncomputable def uT:Nat->Ct->Stmt->IS
 | 0,_,_=>.never
 | n+1,ct,s=>match s with
  | .Return v _=>match v with
   | some e=>.ret (nP n ct e) (ar n ct e)
   | none=>.retN
  | .Assign ts e _=>match ts with
   | [.Name x _]=>match loc ct x with
    | some i=>.asg i (ct.M.contains i) (LU ct x e++nQ n ct e) (ar n ct e)
    | none=>.never
   | _=>.never
  | .If c a b _=>.ife (nX n ct c) (gG n ct a) (gG n ct b)
  | .For tg it body els _=>match els with
   | []=>match AF ct tg with
    | some (is,one)=>.forr is one (LV n ct it) (AG n ct (!one) it) (gG n ct body)
    | none=>.never
   | _=>.never
  | .While c body els _=>match els with
   | []=>.whil (nX n ct c) (gG n ct body)
   | _=>.never
  | .Pass _=>.pass
  | .Break _=>.brk
  | .Continue _=>.cont
  | .Expr e _=>match e with
   | .Call (.Attribute (.Name x _) m ap) es [] cp=>if ap.endLine==cp.line then(match loc ct x with
    | some i=>(match es with
     | [a]=>if isStar a then .never else if m==("append":Str)then .app i (nQ n ct a) (ar n ct a)else .never
     | _=>.never)
    | none=>.never)else .never
   | _=>.never
  | .Raise e c _=>match Ag e c with
   | some x=>if ct.S.lookup x==some .globalImplicit&& !wq x then .rais x else .never
   | none=>.never
  | .AugAssign t op e _=>match t with
   | .Name x _=>match loc ct x with
    | some i=>.aug i op (ar n ct e)
    | none=>.never
   | _=>.never
  | _=>.never
noncomputable def gG:Nat->Ct->List Stmt->zY
 | 0,_,_=>.cons .never .nil
 | n+1,ct,ss=>match ss with
  | []=>.nil
  | s::ss=>.cons (uT n ct s) (gG n ct ss)
end
section
set_option autoImplicit true
set_option relaxedAutoImplicit true
variable{n:Nat}{ct:Ct}
set_option tactic.hygienic false
theorem qw:ar 0 w0 w1=.never:=rfl
theorem qp:ar (n+1) ct (.Constant c w1 w2)=(o7 c):=rfl
theorem qi:ar (n+1) ct (.Name x w1)=(bZ ct x):=rfl
theorem qv:ar (n+1) ct (.BinOp a op b w1)=(.bin op (ar n ct a) (ar n ct b)):=rfl
theorem qb:ar (n+1) ct (.UnaryOp op a w1)=(match op with
   | .USub=>.neg (ar n ct a)| .Not=>.not (ar n ct a)|_=>.never):=rfl
theorem qr:ar (n+1) ct (.Compare a ops cs w1)=(match ops,cs with
   |[op],[b]=>if cS b then .never else .cmp op (ar n ct a) (ar n ct b)|[op,op'],[b,c]=>if cS c|| !wj op' then .never else .chn op op' (ar n ct a) (ar n ct b) (ar n ct c)
   |_,_=>.never):=rfl
theorem qu:ar (n+1) ct (.BoolOp op vs w1)=(if vs.length<2 then .never else mH op (vs.map (ar n ct))):=rfl
theorem qm:ar (n+1) ct (.IfExp c a b w1)=(.ite (nX n ct c) (ar n ct a) (ar n ct b)):=rfl
theorem qk:ar (n+1) ct (.List es w1)=(.lst (fH n ct es)):=rfl
theorem qe:ar (n+1) ct (.Tuple es w1 w2)=(.tup (fH n ct es)):=rfl
theorem qo:ar (n+1) ct (.Dict ks vs w1)=(match ks,vs with
   |[],[]=>.dnew|[some (.Constant c _ _)],[v]=>match c with
    | .int i=>.dlit (.inl i) (ar n ct v)| .str z=>.dlit (.inr z) (ar n ct v)|_=>.never
   |_,_=>.never):=rfl
theorem qg:ar (n+1) ct (.Subscript a i w1)=(match i with
   | .Slice b d c _=>match c with
    |none=>.sl (ar n ct a) (Fn n ct b) (Fn n ct d)|some _=>.never
   |i=>.ix (ar n ct a) (ar n ct i)):=rfl
theorem qt:ar (n+1) ct (.Call f es ks cp)=(match ks with
   |[]=>match f with
    | .Name x _=>jU n ct x es| .Attribute o m a=>if a.endLine==cp.line then nW n ct o m es else .never|_=>.never
   |_=>.never):=rfl
theorem qj:ar (n+1) ct (.ListComp elt gs scope w1)=(match gs with
   |[⟨.Name t _,iter,ifs,0⟩]=>if yn ct t scope then(match slots ct.N (frees scope)with
    |some a=>.lc (ar n (blk ct t scope) elt) (AG n ct false iter) (match ifs with
     |[]=>.no|[c]=>.yes (nX n (blk ct t scope) c)|_=>.yes (.val .never)) a
    |none=>.never)else .never
   |gs=>(match wI gs with
    |some (t,t2,iter,ifs)=>if ik ct t t2 scope then(match slots ct.N (frees scope)with
     |some a=>.lc2 (ar n (blk2 ct t t2 scope) elt) (AG n ct true iter) (match ifs with
      |[]=>.no|[c]=>.yes (nX n (blk2 ct t t2 scope) c)|_=>.yes (.val .never)) a
     |none=>.never)else .never
    |none=>.never)):=rfl
theorem z2a:fH 0 w0 w1=.cons .never .nil:=rfl
theorem z2b:fH (n+1) ct es=(yh (es.map λe=>if isStar e then .never else ar n ct e)):=rfl
theorem z2e:Fn 0 w0 w1=.yes .never:=rfl
theorem z2f:Fn (n+1) ct (none)=(.no):=rfl
theorem z2g:Fn (n+1) ct (some e)=(.yes (ar n ct e)):=rfl
theorem Jv:nX 0 w0 w1=.val .never:=rfl
theorem Js:nX (n+1) ct (.UnaryOp op a p)=(match op with
   | .Not=>.not (nX n ct a)|op=>.val (ar n ct (.UnaryOp op a p))):=rfl
theorem Ju:nX (n+1) ct (.BoolOp op vs w1)=(mG op (vs.map (nX n ct))):=rfl
theorem Jt:nX (n+1) ct (.IfExp w1 w2 w3 w4)=(.val .never):=rfl
theorem z1q:jU 0 w0 w1 w2=.never:=rfl
theorem z1r:jU (n+1) ct x es=(if wq x then .never else if ct.S.lookup x==some .globalImplicit then(match ct.F.lookup x with
  |some f=>match es with
   |[]=>.never|es=>.call f (fH n ct es)
  |none=>if ct.B.contains x then(if x==("isinstance":Str)then(match es with
    |[a,.Name t _]=>match zy t with
     |some b=>if isStar a then .never else if own ct t then .bf (.isin b) (.cons (ar n ct a) .nil)else .never|none=>.never
    |_=>.never)else match es with
     |[.Call (.Name y _) [a] [] _]=>(match wv x y with
      |some f=>if isStar a|| !own ct y then .never else .bf f (.cons (ar n ct a) .nil)
      |none=>match mj x es.length with
       |some f=>.bf f (fH n ct es)|none=>.never)
     |[.ListComp elt gs scope _]=>(match xH x ct elt gs scope with
      |some (d,i)=>.bf .sum (.cons (.lci (ar n ct d) i) .nil)|none=>match mj x es.length with
       |some f=>.bf f (fH n ct es)|none=>.never)
     |es=>match mj x es.length with
      |some f=>.bf f (fH n ct es)|none=>.never)else .never)else .never):=rfl
theorem z2c:nW 0 w0 w1 w2 w3=.never:=rfl
theorem z2d:nW (n+1) ct o m es=(if plainB o then(match es with
  |_=>.never)else .never):=rfl
theorem z2w:AG 0 w0 w1 w2=.never:=rfl
theorem z2x:AG (n+1) ct tp e=(if cS e then .never else match wX e with
  |some a=>if isStar a|| !own ct ("reversed":Str)then .never else .rvd (ar n ct a)
  |none=>match fi e with
  |some (x,es)=>if x==("range":Str)then(if own ct x then .rng (fH n ct es)else .never)else if x==("zip":Str)then(match es with
    |[a,b]=>if isStar a||isStar b|| !tp|| !own ct x then .never else .zip (ar n ct a) (ar n ct b)
    |_=>.never)else if x==("enumerate":Str)then(match es with
    |[a]=>if isStar a|| !tp|| !own ct x then .never else .enum (ar n ct a)
    |_=>.never)else .seq (ar n ct e)
  |none=>.seq (ar n ct e)):=rfl
theorem yF:uT 0 w0 w1=.never:=rfl
theorem xt:uT (n+1) ct (.Return v w1)=(match v with
   |some e=>.ret (nP n ct e) (ar n ct e)|none=>.retN):=rfl
theorem yE:uT (n+1) ct (.Assign ts e w1)=(match ts with
   |[.Name x _]=>match loc ct x with
    |some i=>.asg i (ct.M.contains i) (LU ct x e++nQ n ct e) (ar n ct e)|none=>.never
   |_=>.never):=rfl
theorem xy:uT (n+1) ct (.If c a b w1)=(.ife (nX n ct c) (gG n ct a) (gG n ct b)):=rfl
theorem xz:uT (n+1) ct (.For tg it body els w1)=(match els with
   |[]=>match AF ct tg with
    |some (is,one)=>.forr is one (LV n ct it) (AG n ct (!one) it) (gG n ct body)|none=>.never
   |_=>.never):=rfl
theorem xr:uT (n+1) ct (.While c body els w1)=(match els with
   |[]=>.whil (nX n ct c) (gG n ct body)|_=>.never):=rfl
theorem xw:uT (n+1) ct (.Pass w1)=(.pass):=rfl
theorem yC:uT (n+1) ct (.Break w1)=(.brk):=rfl
theorem yB:uT (n+1) ct (.Continue w1)=(.cont):=rfl
theorem yA:uT (n+1) ct (.Expr e w1)=(match e with
   | .Call (.Attribute (.Name x _) m ap) es [] cp=>if ap.endLine==cp.line then(match loc ct x with
    |some i=>(match es with
     |[a]=>if isStar a then .never else if m==("append":Str)then .app i (nQ n ct a) (ar n ct a)else .never|_=>.never)
    |none=>.never)else .never
   |_=>.never):=rfl
theorem xu:uT (n+1) ct (.Raise e c w1)=(match Ag e c with
   |some x=>if ct.S.lookup x==some .globalImplicit&& !wq x then .rais x else .never|none=>.never):=rfl
theorem yD:uT (n+1) ct (.AugAssign t op e w1)=(match t with
   | .Name x _=>match loc ct x with
    |some i=>.aug i op (ar n ct e)|none=>.never
   |_=>.never):=rfl
theorem z2h:gG 0 w0 w1=.cons .never .nil:=rfl
theorem z2j:gG (n+1) ct ([])=(.nil):=rfl
theorem z2i:gG (n+1) ct (s::ss)=(.cons (uT n ct s) (gG n ct ss)):=rfl
end
end IR
namespace L2
open PySem PySem.Spec PyProof.Rows
section
variable{X:Cx}
set_option tactic.hygienic false
theorem D1:dI X (binaryOp .Add) (λx y H Q=>∃(l b:Addr)(j i:List V),x=.ref l/\y=.ref b/\bQ X.K H l j/\bQ X.K H b i/\j.length+i.length<=sizeLine/\∀p,H p=none->Q (.ref p) (upd H p (.lst (j++i)))):=by
 intro w s S H x y v u Q I O M h;obtain⟨l,b,j,i,rfl,rfl,J,N,T,q⟩:=h;cases O;cases M;obtain⟨c,r,G,_⟩:=I.list J;obtain⟨a,A,o,_⟩:=I.list N;have U:=r.length;have P:=A.length;obtain⟨⟨cls,L,data,E⟩,C,z,n,D⟩:=id G.isList;obtain⟨⟨B,t,k,m⟩,d,f,R,g⟩:=id o.isList;simp only at z D f g;subst z D f g;have e:c.toArray++a.toArray=(c++a).toArray:=by simp
 refine concat_meets ⟨_,C,rfl⟩ ⟨_,d,rfl⟩ noFill_list_add seq_list_add PySem.F.slot_list_add PySem.F.entry_list_add (PySem.F.args_list_add_2 _ _) (list_addW l b c.toArray a.toArray n R L t E m (by rw[MQ,MQ];omega)) ⟨C,d,?_⟩;rw[e];exact⟨.ref _,_,I.lnew (t' :=s.toks) (r.append A) (by rw[MT];omega),rfl,q _ I.fresh⟩
theorem wo:dI X (binaryOp .Add) (λx y H Q=>∃(a b:Addr)(c i:List V),x=.ref a/\y=.ref b/\bg X.K H a c/\bg X.K H b i/\c.length+i.length<=sizeLine/\∀p w,aC H w ->bg X.K w p (c++i)->Q (.ref p) w):=by
 intro d s N H x y u v Q I E C h;obtain⟨a,b,c,i,rfl,rfl,l,o,R,q⟩:=h
 by_cases A:c=[]
 .subst A
  cases E;cases C;obtain⟨M,T,L,_⟩:=I.tuple l;obtain⟨k,U,O,_⟩:=I.tuple o;cases T;obtain⟨⟨cls,P,data,J⟩,D,z,n,G⟩:=id L;obtain⟨⟨B,t,m,r⟩,f,g,S,j⟩:=id O;simp only at z G g j;subst z G g j
  exact concat_meets ⟨_,D,rfl⟩ ⟨_,f,rfl⟩ noFill_tuple_add seq_tuple_add PySem.F.slot_tuple_add PySem.F.entry_tuple_add (Pr _ _)
   (tuple_addW0 a b #[] k.toArray n S P t J r rfl) ⟨D,f,⟨.ref b,H,I,rfl,q b H (aC.refl H) o⟩⟩
 .refine Dz d s N H (.ref a) (.ref b) u v Q I E C ⟨a,b,c,i,rfl,rfl,l,o,A,R,λe=> ?_,λ_ p hp=>q p _ (aG hp _) (bg.of aB)⟩
  subst e;exact q a H (aC.refl H) (by rw[NH];exact l)
theorem DT:Ln X (λx f k H Q=>∃a c,x=.ref a/\bg X.K H a c/\(HT.bh c.length 0 f=0/\HT.bh c.length c.length k=c.length)/\Q (.ref a) H):=by
 intro n s A H x v B D f k p Q I z m t u h;obtain⟨a,c,rfl,o,j,q⟩:=h;cases z;obtain⟨b,r,d,C⟩:=I.tuple o;have e:b.toArray.size=c.length:=by rw[MQ];exact r.length.symm
 refine⟨"tuple",_,ND.lookup,d.typeIs,?_⟩;obtain⟨w,i,l,y⟩:=id m;have g:s.TypeIs (.ref p) "slice":=⟨w,i,l⟩;unfold getItem
 try with_reducible refine NR ?_
 first|refine L8 (MC ?_)|skip
 refine L8 (wpAny_sequenceKey d.typeIs (by decide) ?_)
 refine L8 (NM (name:=Str.ofString "__getitem__") d.typeIs ND (Mx ND d.typeIs entry_tuple_getitem ?_ (args_tuple_getitem _ _)))
 show wpAny _ _ (Builtin.Tuple.tupleItemsOf (.ref a) >>= _) _ _ s;refine L8 (tupleItemsOf_ d ?_);refine L8 (PP g ?_);rw[MF (by decide)];refine L8 (HT.eN m t u ?_);rw[<- e]at j;show wpAny _ _ (if(((HT.bh b.toArray.size 0 f:Nat):Int)==0&&(1:Int)==1&&(HT.bh b.toArray.size b.toArray.size k-HT.bh b.toArray.size 0 f)==b.toArray.size)=true then _ else _) _ _ s;rw[MF (by rw[j.1,j.2];simp)];unfold Builtin.Tuple.tupleIsExact;refine L8 (L8 (PP d.typeIs (MC ?_)));rw[MF (by decide)];exact L8 (PJ (MC ⟨_,rfl,MC ⟨.ref a,H,I,rfl,q⟩⟩))
end
end L2
namespace IR
open PySem PySem.Spec PyProof.Rows L2
abbrev WE(X:Cx)(e:Expr)(b:L2.St)(H:Hp)(Q:VK):Prop:=∀(a:List (Addr×Obj))(s:Shared),Inv X a b H s->wpAny (model X.prog X.w) X.A (eval e X.env) (EP X a b Q) X.xe s
abbrev WT(X:Cx)(e:Expr)(b:L2.St)(H:Hp)(Q:Bool->Hp->Prop):Prop:=∀(a:List (Addr×Obj))(s:Shared),Inv X a b H s->wpAny (model X.prog X.w) X.A (isTrue e X.env (eval e X.env)) (TP X a b Q) X.xe s
abbrev WA(X:Cx)(c:List Expr)(b:L2.St)(H:Hp)(Q:List V->Hp->Prop):Prop:=∀(pos:Pos)(a:List (Addr×Obj))(s:Shared),Inv X a b H s->wpAny (model X.prog X.w) X.A (spliced (backTo pos (starEach c X.env))) (AP X a b Q) X.xe s
set_option tactic.hygienic false
theorem aa:PE X e (λσ H Q=>WE X e σ H Q):=λpins s σ H Q I h=>h pins s I
theorem lQ:PT X e (λσ H Q=>WT X e σ H Q):=λpins s σ H Q I h=>h pins s I
theorem vA:PA X e (λσ H Q=>WA X e σ H Q):=λpos pins s σ H Q I h=>h pos pins s I
theorem we(h:PE X e t)(q:t a H Q):WE X e a H Q:=λpins s I=>h pins s a H Q I q
theorem wt(h:PT X e t)(q:t a H Q):WT X e a H Q:=λpins s I=>h pins s a H Q I q
theorem wa(h:PA X e t)(q:t a H Q):WA X e a H Q:=λpos pins s I=>h pos pins s a H Q I q
def yR(K:W.Frag)(m:List PV->Option PV):Sp:=λvs H Q _=>∃a r,aI K H false a H vs/\m a=some r/\∀u b,aC H b ->Rp K H true r b u->Q u b
set_option tactic.hygienic true
structure bz(cd:Nat->List PV->Option PV)(X:Cx)(ct:Ct):Prop where
 N:X.N=ct.N
 nd:ct.N.Nodup
 S:X.env.scope.names=ct.S
 kind:X.env.scope.kind=.function
 calm:X.calm=true
 glob:∀x v,ct.G.lookup x=some v->∃u w,X.mg x=some u/\RelV w u/\∀Hi n H,Rp X.K Hi n v H w
 bl:∀x,ct.B.contains x=true->X.mg x=none
 fns:∀x f,ct.F.lookup x=some f->∃k a fd ps,bv X.prog X.w X.K X.mg X.base kd k a fd ps (yR X.K (cd f))/\fF k X.A/\X.mg x=some (.ref a)/\W.keepIn X.K (.ref a)=true/\Binds X.K fd ps []
 xe:PassesOwn (model X.prog X.w) X.A X.env X.xe
 un:X.A.units+64<cLine
section
variable{X:Cx}{Hi:Hp}{τ:En}
variable(X Hi τ)in
def aH(e:Expr)(r:RV):Prop:=∀(O:List Addr)(b:L2.St)(H:Hp)(Q:VK),ao X.K Hi O τ b H->(∀u a,aC H a ->ag X.K Hi O H a r u->Q u a)->WE X e b H Q
variable(X Hi τ)in
def fE(e:Expr)(b:Bool):Prop:=∀(O:List Addr)(c:L2.St)(H:Hp)(Q:Bool->Hp->Prop),ao X.K Hi O τ c H->(∀a,aC H a ->Q b a)->WT X e c H Q
variable(X Hi)in
def fG(O:List Addr)(H a:Hp):List RV->List V->Prop
 |[],us=>us=[]|r::rs,us=>∃u b,us=u::b/\ag X.K Hi O H a r u/\fG O H a rs b
variable(X Hi τ)in
def qW(d:List Expr)(e:List RV):Prop:=∀(O:List Addr)(c:L2.St)(H:Hp)(Q:List V->Hp->Prop),ao X.K Hi O τ c H->(∀b a,aC H a ->fG X Hi O H a e b->Q b a)->WA X d c H Q
theorem fN:sizeLine=16777216:=M8
theorem fG.back{O:List Addr}{g H d:Hp}(s:aC g H):∀{c:List RV}{f:List V},fG X Hi O H d c f->fG X Hi O g d c f
 |[],_,h=>h|r::c,_,h=>by obtain⟨u,i,e,a,b⟩:=h;exact⟨u,i,e,a.back s,fG.back s b⟩
theorem fG.vals{O:List Addr}{f:L2.St}{H c:Hp}(R:ao X.K Hi O τ f H)(s:aC H c):∀{d:List RV}{e:List V},fG X Hi O H c d e->aI X.K Hi false (d.map RV.val) c e
 |[],_,h=>by cases h;exact .nil|r::d,_,h=>by obtain⟨u,g,rfl,a,b⟩:=h;exact .cons (a.val R s) (fG.vals R s b)
theorem fG.keeps{O:List Addr}{l:L2.St}{H f:Hp}(R:ao X.K Hi O τ l H)(s:aC H f):∀{c:List RV}{j:List V}{g:List PV}{n:Bool},fG X Hi O H f c j->IR.keeps c=some (g,n)->aI X.K Hi n g (aU f O) j
 |[],_,_,_,h,e=>by cases h;cases e;exact .nil|r::c,_,g,n,h,e=>by
  obtain⟨u,m,rfl,a,b⟩:=h;unfold IR.keeps at e;cases d:r.keep with
  |none=>rw[d]at e;cases e|some p=>
   obtain⟨v,o⟩:=p;rw[d]at e;cases i:IR.keeps c with
   |none=>rw[i]at e;cases e|some p=>
    obtain⟨k,q⟩:=p;rw[i]at e;cases e;refine .cons ((a.keep R s d).low λz=> ?_) ((fG.keeps R s b i).low λz=> ?_)
    .rw[MH]at z;exact z.1
    .rw[MH]at z;exact z.2
theorem gK(h:∀G,Rp X.K Hi true v G u):ag X.K Hi O H a (sc v) u:=h _
theorem uB{cd:Nat->List PV->Option PV}(h:af cd (o7 c) τ=some r):aH X Hi τ (.Constant c k pos) r:=by
 intro O a H Q R q;cases c with
 |int i=>cases h;exact we dB (q _ _ (aC.refl _) (gK λ_=>Rp.int.mpr rfl))
 |bool b=>cases h;exact we wd (q _ _ (aC.refl _) (gK λ_=>Rp.bl.mpr rfl))
 |str b=>cases h;exact we uy (q _ _ (aC.refl _) (gK λ_=>Rp.str.mpr rfl))
 |none=>cases h;exact we HJ (q _ _ (aC.refl _) (gK λ_=>Rp.non.mpr rfl))
 |_=>cases h
theorem zt(e:a.names=S)(h:GK S x=true):Jp a x:=by
 unfold GK at h;unfold Jp;rw[e]
 simpa [No,or_assoc]using h
theorem dE(h:wq x=false):(x==("__debug__":Str))=false/\(x==("__classdict__":Str))=false/\x≠"__name__":=by unfold wq at h;simp only[Bool.or_eq_false_iff]at h;exact⟨h.1.1,h.1.2,λe=>by rw[e]at h;simp at h⟩
theorem ko(C:bz E X ct)(h:af E (bZ ct x) τ=some r):aH X Hi τ (.Name x pos) r:=by
 intro O P H Q R q;unfold bZ at h
 split at h;simp[dw]at h
 rename_i L;obtain⟨D,K,M⟩:=dE (Nz.mpr L)
 split at h
 .rename_i I
  cases A:slot ct.N x with
  |none=>rw[A]at h;simp[dw]at h|some i=>
   rw[A]at h;have h:tL τ i=some r:=by simpa [dc,dM,dh,dQ,de,df,dk,dv,dP,dY,dg,di,dR,dN,dz,dZ,dX,dO,dW,dU,dS,dw]using h
   refine we (uw (by rw[C.N];exact fw A) (zt C.S I) D K) ?_;unfold tL at h;cases j:τ[i]? with
   |none=>rw[j]at h;cases h|some t=>
    rw[j]at h;cases t with
    |un=>cases h|frz v n=>cases h;obtain⟨u,a,d⟩:=R.frz i v n j;exact⟨u,a,q u H (aC.refl _) d⟩
    |own y n=>
     cases h;obtain⟨l,B,a,d,f,p⟩:=R.owns i y n j;refine⟨_,a,q _ H (aC.refl _) ?_⟩;refine Rp.lst.mpr ⟨l,B,rfl,(λz=>absurd z MI),bQ.of f,p.weak.mono λb o e=> ?_⟩;unfold aU at e
     split at e;cases e
     .rename_i s
      unfold del;have k:b≠l:=λz=>s (z▸d);rw[ME k];exact e
    |owd b y n=>
     cases h;obtain⟨l,B,o,a,d,f,J,p⟩:=R.obs i _ b y n j rfl;refine⟨_,a,q _ H (aC.refl _) ?_⟩;refine Rp.at (λz=>absurd z MI) f J (p.weak.mono λc o e=> ?_);unfold aU at e
     split at e;cases e
     .rename_i s
      unfold del;have k:c≠l:=λz=>s (z▸d);rw[ME k];exact e
 .split at h
  .rename_i F
   cases m:ct.G.lookup x with
   |none=>rw[m]at h;simp[dw]at h|some v=>
    rw[m]at h;have h:some (sc v)=some r:=by simpa [dc,dM,dh,dQ,de,df,dk,dv,dP,dY,dg,di,dR,dN,dz,dZ,dX,dO,dW,dU,dS,dw]using h
    cases h;obtain⟨u,w,a,d,f⟩:=C.glob x v m;have g:Gl X x:=by
     show X.env.scope.names.lookup x=_;rw[C.S]
     simpa using F
    exact we (Dt g a d D) (q _ _ (aC.refl _) (gK λ_=>f _ _ _))
  .simp[dw]at h
theorem mi(j:dI X (binaryOp g) f)(h:aH X Hi τ a x)(i:aH X Hi τ b y)
  (k:∀(O:List Addr)(d:L2.St)(H c:Hp)(u v:V)(Q:VK),ao X.K Hi O τ d H->aC H c->ag X.K Hi O H c x u->ag X.K Hi O H c y v->(∀w e,aC c e->ag X.K Hi O H e r w->Q w e)->f u v c Q):
  aH X Hi τ (.BinOp a g b pos) r:=by
 intro O d H Q R q;refine we (fR j aa aa) ?_;refine h O d H _ R λu H1 s1 r1=>i O d H1 _ (R.ext s1) λv c s2 r2=> ?_;exact k O d H c u v Q R (s1.trans s2) (r1.ext s2) (r2.back s1) λw e s3 r3=>q w e (s1.trans (s2.trans s3)) r3
theorem ag.int(R:ao X.K Hi O τ b H)(s:aC H a)(h:ag X.K Hi O H a x u)(e:x.val=.int i):u=.int i:=by have z:=h.val R s;rw[e]at z;exact Rp.int.mp z
theorem ag.str(R:ao X.K Hi O τ b H)(s:aC H a)(h:ag X.K Hi O H a x u)(e:x.val=.str i):u=.str i:=by have z:=h.val R s;rw[e]at z;exact Rp.str.mp z
theorem ag.bl(R:ao X.K Hi O τ b H)(s:aC H a)(h:ag X.K Hi O H a x u)(e:x.val=.bl i):u=.bl i:=by have z:=h.val R s;rw[e]at z;exact Rp.bl.mp z
theorem ag.tup{O:List Addr}{d:L2.St}{H a:Hp}{x:RV}{u:V}{b:List PV}(R:ao X.K Hi O τ d H)(s:aC H a)(h:ag X.K Hi O H a x u)(e:x.val=.tup b):∃p c,u=.ref p/\bg X.K a p c/\aI X.K Hi false b a c:=by have z:=h.val R s;rw[e]at z;exact Rp.tup.mp z
theorem ag.lst{O:List Addr}{i:L2.St}{H a:Hp}{x:RV}{u:V}{c:List PV}(R:ao X.K Hi O τ i H)(s:aC H a)(h:ag X.K Hi O H a x u)(e:x.val=.lst c):∃p b,u=.ref p/\bQ X.K a p b/\aI X.K Hi false c a b:=by have z:=h.val R s;rw[e]at z;obtain⟨p,b,d,_,f,g⟩:=Rp.lst.mp z;exact⟨p,b,d,f,g.mono be⟩
theorem ag.itsL(R:ao X.K Hi O τ i H)(s:aC H c)(h:ag X.K Hi O H c r u)(e:r.its=some (d,n))(g:r.val=.lst k):
  ∃p b,u=.ref p/\bQ X.K c p b/\aI X.K Hi n d (aU c O) b:=by
 obtain⟨p,b,j,a,f⟩:=h.its R s e
 rcases a with⟨a,_⟩|⟨_,l,a⟩
 .exact⟨p,b,j,a,f⟩
 .rw[g]at a
  cases a
theorem ag.itsT(R:ao X.K Hi O τ i H)(s:aC H c)(h:ag X.K Hi O H c r u)(e:r.its=some (d,n))(g:r.val=.tup k):
  ∃p b,u=.ref p/\bg X.K c p b/\aI X.K Hi n d (aU c O) b:=by
 obtain⟨p,b,j,a,f⟩:=h.its R s e
 rcases a with⟨_,l,a⟩|⟨a,_⟩
 .rw[g]at a
  cases a
 .exact⟨p,b,j,a,f⟩
theorem ef(s:aC H a)(c:a p=none)(r:aI X.K Hi n f (aU a O) b):ag X.K Hi O H (L2.upd a p (.lst b)) (.own f n) (.ref p):=by refine⟨p,b,rfl,s.free c,aB,r.mono (aP λb o e=> ?_)⟩;have d:=aD e c;unfold del;rw[ME d,aA d];exact e
theorem qG(R:ao X.K Hi O τ c H)(s:aC H a)(b:a p=none):aU (L2.upd a p o) O p=some o:=by
 unfold aU;rw[ME λz=> ?_]
 .exact aB
 .obtain⟨d,e,_⟩:=(R.own p z).2
  rw[s _ _ e]at b;cases b
theorem xN(R:ao X.K Hi O τ c H)(s:aC H a)(h:bg X.K a p b):bg X.K (aU a O) p b:=(R.ext s).tups.at h
theorem Hq(a:aI X.K Hi n f H d)(b:aI X.K Hi m c H e):aI X.K Hi (n&&m) (f++c) H (d++e):=by
 refine aI.app (a.low λz=> ?_) (b.low λz=> ?_)
 .rw[MH]at z;exact z.1
 .rw[MH]at z;exact z.2
theorem AX:ag X.K Hi O H a (sc (.int i)) (.int i):=gK λ_=>Rp.int.mpr rfl
theorem Fu:ag X.K Hi O H a (sc (.bl i)) (.bl i):=gK λ_=>Rp.bl.mpr rfl
theorem scS:ag X.K Hi O H a (sc (.str i)) (.str i):=gK λ_=>Rp.str.mpr rfl
theorem wy(h:sX a n=some r):a.length<=LN/\r=.own a n:=by
 unfold sX at h
 split at h
 .rename_i e;cases h;exact⟨e,rfl⟩
 .cases h
theorem wx(h:sW a n=some r):a.length<=LN/\r=.frz (.tup a) n:=by
 unfold sW at h
 split at h
 .rename_i e;cases h;exact⟨e,rfl⟩
 .cases h
theorem binI(e:dI X (binaryOp d) (rI C g))(m:aH X Hi τ a x)(f:aH X Hi τ b y)(l:x.val=.int i)(k:y.val=.int j)(c:C i j)
  (h:∀G,Rp X.K Hi true w G (g i j)):aH X Hi τ (.BinOp a d b pos) (sc w):=
 mi e m f λO σ H H2 u v Q R s ru rv q=>⟨i,j,ru.int R s l,rv.int R s k,c,q _ _ (aC.refl _) (gK h)⟩
theorem Ci(d:dI X (binaryOp c) (Ah g))(h:aH X Hi τ a x)(e:aH X Hi τ b y)(l:x.val=.int i)(k:y.val=.int j)
  (f:∀G,Rp X.K Hi true w G (g i j)):aH X Hi τ (.BinOp a c b pos) (sc w):=
 mi d h e λO σ H H2 u v Q R s ru rv q=>⟨i,j,ru.int R s l,rv.int R s k,q _ _ (aC.refl _) (gK f)⟩
theorem uN(f:aH X Hi τ a x)(g:aH X Hi τ b y)(h:eX E x y=some r):aH X Hi τ (.BinOp a E b pos) r:=by
 cases E with
 |Add=>
  have h:vz x y=some r:=h;unfold vz at h
  split at h
  case h_1 i j e d=>cases h;exact Ci la f g e d λ_=>Rp.int.mpr rfl
  case h_2 i j e d=>
   split at h
   .rename_i o
    cases h;exact mi vB f g λO σ H H2 u v Q R s ru rv q=>⟨i,j,ru.str R s e,rv.str R s d,by rw[fN];exact o,q _ _ (aC.refl _) scS⟩
   .cases h
  case h_3 e d=>
   split at h
   .rename_i L n K m C G
    obtain⟨o,rfl⟩:=wy h;refine mi D1 f g λO σ H H2 u v Q R s ru rv q=> ?_;obtain⟨p,B,rfl,J,w⟩:=ru.itsL R s C e;obtain⟨F,l,rfl,I,t⟩:=rv.itsL R s G d;have D:=w.len;have A:=t.len;rw[MT]at o;exact⟨p,F,B,l,rfl,rfl,J,I,by rw[fN,<-D,<-A];exact o,λp3 hp=>q _ _ (aG hp _) (ef s hp (Hq w t))⟩
   .cases h
  case h_4 e d=>
   split at h
   .rename_i L n K m C G
    obtain⟨o,rfl⟩:=wx h;refine mi wo f g λO σ H H2 u v Q R s ru rv q=> ?_;obtain⟨p,B,rfl,J,w⟩:=ru.itsT R s C e;obtain⟨F,l,rfl,I,t⟩:=rv.itsT R s G d;have D:=w.len;have A:=t.len;rw[MT]at o;exact⟨p,F,B,l,rfl,rfl,J,I,by rw[fN,<-D,<-A];exact o,λp3 H3 s3 l3=>q _ _ s3 (Rp.tup.mpr ⟨p3,_,rfl,xN R (s.trans s3) l3,(Hq w t).mono (aP s3)⟩)⟩
   .cases h
  case h_5=>cases h
 |Sub=>
  have h:vw x y=some r:=h;unfold vw at h
  split at h
  case h_1 i j e d=>cases h;exact Ci HM f g e d λ_=>Rp.int.mpr rfl
  case h_2=>cases h
 |Mult=>
  have h:qT x y=some r:=h;unfold qT at h
  split at h
  case h_1 i j e d=>
   split at h
   .rename_i c
    cases h;exact binI HR f g e d c λ_=>Rp.int.mpr rfl
   .split at h
    .rename_i c
     cases h;exact binI Dy f g e d c λ_=>Rp.int.mpr rfl
    .cases h
  case h_2=>cases h
 |FloorDiv=>
  have h:fk x y=some r:=h;unfold fk at h
  split at h
  case h_1 i j e d=>
   split at h
   .rename_i c
    cases h;exact binI A7 f g e d ⟨c.1,Oa ((Nat.log2_lt (n:=j.natAbs) (k:=200) (by omega)).mpr (by omega)) (by decide)⟩ λ_=>Rp.int.mpr rfl
   .cases h
  case h_2=>cases h
 |Mod=>
  have h:vy x y=some r:=h;unfold vy at h
  split at h
  case h_1 i j e d=>
   split at h
   .rename_i c
    cases h;exact binI HS f g e d c λ_=>Rp.int.mpr rfl
   .cases h
  case h_2=>cases h
 |LShift=>
  have h:jv x y=some r:=h;unfold jv at h
  split at h
  case h_1 i j e d=>
   split at h
   .rename_i c
    cases h;exact binI HN f g e d c λ_=>Rp.int.mpr rfl
   .cases h
  case h_2=>cases h
 |BitAnd=>
  have h:jw x y=some r:=h;unfold jw at h
  split at h
  case h_1 i j e d=>cases h;exact Ci A8 f g e d λ_=>Rp.int.mpr rfl
  case h_2=>cases h
 |_=>exact absurd (show(none:Option RV)=some r from h) (by intro z;cases z)
mutual
theorem bO{pins:List (Addr×Obj)}{σ:L2.St}{H:Hp}{s:Shared}(I:Inv X pins σ H s):∀{a:PV}{n:Nat}{u:V}{u' :Value},dH n a=true->Rp X.K Hi false a H u->RelV u u' ->∃as,Reads s.heap u' (nL a) as
 | .non,_,_,_,_,r,e=>by cases Rp.non.mp r;cases e;exact⟨_,.none⟩
 | .bl b,_,_,_,_,r,e=>by cases Rp.bl.mp r;cases e;exact⟨_,.bool b⟩
 | .int i,_,_,_,_,r,e=>by cases Rp.int.mp r;obtain⟨t,rfl⟩:=e;exact⟨_,.int i t⟩
 | .str z,_,_,_,_,r,e=>by cases Rp.str.mp r;obtain⟨t,rfl⟩:=e;exact⟨_,.str z t⟩
 | .lst xs,n,_,_,f,r,e=>by
  obtain⟨p,us,rfl,_,l,r⟩:=Rp.lst.mp r;cases e;cases n with
  | zero=>cases f
  | succ n=>
   obtain⟨its,rv,pl,_⟩:=I.list l;obtain⟨as,z⟩:=gm I (xs:=xs) (n:=n) f (r.mono be) rv;obtain⟨o,ho,hc,m,hd⟩:=pl.isList;exact⟨_,.list ho hc hd (by simpa using z)⟩
 | .tup xs,n,_,_,f,r,e=>by
  obtain⟨p,us,rfl,l,r⟩:=Rp.tup.mp r;cases e;cases n with
  | zero=>cases f
  | succ n=>
   obtain⟨its,rv,pl,_⟩:=I.tuple l;obtain⟨as,z⟩:=gm I (xs:=xs) (n:=n) f r rv;obtain⟨o,ho,hc,m,hd⟩:=pl;exact⟨_,.tuple ho hc hd (by simpa using z)⟩
 | .dK _ _,n,_,_,f,_,_=>by cases n<;>cases f
 | .dT _ _,n,_,_,f,_,_=>by cases n<;>cases f
theorem gm{pins:List (Addr×Obj)}{σ:L2.St}{H:Hp}{s:Shared}(I:Inv X pins σ H s):∀{xs:List PV}{n:Nat}{us:List V}{us' :List Value},xs.all (dH n)=true->aI X.K Hi false xs H us->aR us us' ->∃as,ReadsAll s.heap us' (eD xs) as
 | [],_,_,_,_,r,e=>by
  obtain rfl:=r;cases e;exact⟨_,.nil⟩
 | x::xs,n,_,_,f,r,e=>by
  obtain⟨u,us,rfl,r1,r2⟩:=r;cases e with
  | cons e1 e2=>
   rw[Ov,MH]at f;obtain⟨as,z⟩:=bO I f.1 r1 e1;obtain⟨bs,y⟩:=gm I f.2 r2 e2;exact⟨_,.cons z y⟩
end
mutual
theorem du:∀{a:PV}{n:Nat},dH n a=true->(nL a).canLay0=true/\(nL a).depth<=n
 | .non,n,_=>⟨rfl,Mk _⟩
 | .bl _,n,_=>⟨rfl,Mk _⟩
 | .int _,n,_=>⟨rfl,Mk _⟩
 | .str z,n,h=>⟨by cases n<;>exact h,Mk _⟩
 | .lst xs,0,h=>by cases h
 | .lst xs,n+1,h=>⟨(eU (xs:=xs) (n:=n) h).1,Nat.succ_le_succ (eU (xs:=xs) (n:=n) h).2⟩
 | .tup xs,0,h=>by cases h
 | .tup xs,n+1,h=>⟨(eU (xs:=xs) (n:=n) h).1,Nat.succ_le_succ (eU (xs:=xs) (n:=n) h).2⟩
 | .dK _ _,n,h=>by cases n<;>cases h
 | .dT _ _,n,h=>by cases n<;>cases h
theorem eU:∀{xs:List PV}{n:Nat},xs.all (dH n)=true->PyData.canLayAll0 (eD xs)=true/\PyData.depthAll (eD xs)<=n
 | [],n,_=>⟨rfl,Mk _⟩
 | x::xs,n,h=>by
  rw[Ov,MH]at h;obtain⟨a,b⟩:=du h.1;obtain⟨c,d⟩:=eU h.2;refine⟨?_,?_⟩
  .show((nL x).canLay0&&PyData.canLayAll0 (eD xs))=true
   rw[a,c];rfl
  .show max (nL x).depth (PyData.depthAll (eD xs))<=n
   omega
end
mutual
theorem i8:∀(a b:PV),PyData.eqv (nL a) (nL b)=mM a b
 | .lst xs,b=>by
  cases b with
  | lst ys=>show PyData.eqvAll (eD xs) (eD ys)=nK xs ys;exact mL xs ys
  | _=>rfl
 | .tup xs,b=>by
  cases b with
  | tup ys=>show PyData.eqvAll (eD xs) (eD ys)=nK xs ys;exact mL xs ys
  | _=>rfl
 | .non,b=>by cases b<;>rfl
 | .bl x,b=>by cases b<;>first|rfl|exact beq_eq_decide _ _|(unfold mM;simp[nL,PyData.eqv,Ei,PK])
 | .int x,b=>by cases b<;>first|rfl|exact beq_eq_decide _ _|(unfold mM;simp[nL,PyData.eqv,Ei,PK])
 | .str x,b=>by cases b<;>first|rfl|exact beq_eq_decide _ _|(unfold mM;simp[nL,PyData.eqv,Ei,PK])
 | .dK k v,b=>by cases b<;>rfl
 | .dT k v,b=>by cases b<;>rfl
theorem mL:∀(xs ys:List PV),PyData.eqvAll (eD xs) (eD ys)=nK xs ys
 | [],[]=>rfl
 | [],_::_=>rfl
 | _::_,[]=>rfl
 | x::xs,y::ys=>by
  show(PyData.eqv (nL x) (nL y)&&PyData.eqvAll (eD xs) (eD ys))=(mM x y&&nK xs ys);rw[i8 x y,mL xs ys]
end
theorem mQ(x:PV):∀a:List PV,((eD a).any λy=>PyData.eqv y (nL x))=a.any λy=>mM y x
 |[]=>rfl|y::a=>by show(PyData.eqv (nL y) (nL x)||(eD a).any λy=>PyData.eqv y (nL x))=(mM y x||a.any λy=>mM y x);rw[i8,mQ x a]
variable(X Hi)in
def KN(g:Bool->Bool):R2:=λx y H Q=>∃a b,dH 12 a=true/\dH 12 b=true/\Rp X.K Hi false a H x/\Rp X.K Hi false b H y/\Q (.bl (g (mM a b))) H
theorem HY(z:X.A.units+64<cLine):dI X (compareOp .Eq) (KN X Hi id):=by intro c s p H x y u v Q I n k h;obtain⟨a,b,e,d,g,l,q⟩:=h;obtain⟨o,f⟩:=bO I e g n;obtain⟨r,m⟩:=bO I d l k;obtain⟨j,t⟩:=du e;obtain⟨i,w⟩:=du d;refine SeqAt.compareEq_reads f m j i (by omega) ?_;rw[i8];exact⟨.bl _,H,I,rfl,q⟩
theorem HQ(z:X.A.units+64<cLine):dI X (compareOp .NotEq) (KN X Hi not):=by intro c s p H x y u v Q I n k h;obtain⟨a,b,e,d,g,l,q⟩:=h;obtain⟨o,f⟩:=bO I e g n;obtain⟨r,m⟩:=bO I d l k;obtain⟨j,t⟩:=du e;obtain⟨i,w⟩:=du d;refine SeqAt.compareNe_reads f m j i (by omega) ?_;rw[i8];exact⟨.bl _,H,I,rfl,q⟩
variable(X Hi)in
def rIn2(g:Bool->Bool):R2:=λx y H Q=>∃a b,dH 12 a=true/\b.all (dH 12)=true/\Rp X.K Hi false a H x/\(Rp X.K Hi false (.lst b) H y\/Rp X.K Hi false (.tup b) H y)/\Q (.bl (g (b.any λy=>mM y a))) H
theorem pU(B:X.A.units+64<cLine):dI X (compareOp .NotIn) (rIn2 X Hi not):=by
 intro f s t H x y u v Q I p k h;obtain⟨a,j,l,c,m,b,q⟩:=h;obtain⟨r,e⟩:=bO I l m p;obtain⟨i,w⟩:=du l;obtain⟨g,z⟩:=eU c
 rcases b with b|b
 .obtain⟨o,d⟩:=bO I (a:=.lst j) (n:=13) c b k
  refine SeqAt.notIn_list_reads d e g i (by omega) ?_;rw[mQ];exact⟨.bl _,H,I,rfl,q⟩
 .obtain⟨o,d⟩:=bO I (a:=.tup j) (n:=13) c b k
  refine SeqAt.notIn_tuple_reads d e g i (by omega) ?_;rw[mQ];exact⟨.bl _,H,I,rfl,q⟩
def kR(d:CmpOp)(A:Around)(s:Shared)(a b:Value)(t:Bool):Prop:=∀(c:Program)(w:World)(E:Value->Shared->Prop)(Q:Value->Shared->Prop),Q (.bool t) s->wpAny (model c w) A (richCompare d a b) Q E s
inductive OW(op:CmpOp)(A:Around)(s:Shared):List (Value×Value)->Option Bool->Prop
 | nil:OW op A s [] none
 | eq {p q:Value} {r:List (Value×Value)} {t:Option Bool}:SeqAt.EqAt A s p q true->OW op A s r t->OW op A s ((p,q)::r) t
 | ne {p q:Value} {r:List (Value×Value)} {t:Bool}:SeqAt.EqAt A s p q false->kR op A s p q t->OW op A s ((p,q)::r) (some t)
structure Jb(op:CmpOp)(f:Int->Int->Bool)(g:Nat->Nat->Bool):Prop where
 int:∀{A:Around}{s:Shared}{i j:Int}{t t' :Tok},kR op A s (.int i t) (.int j t') (f i j)
 tup:∀{A:Around}{s:Shared}{l b:Addr}{xs ys:Array Value}{t:Option Bool},s.heap.IsTuple l xs->s.heap.IsTuple b ys->A.units<cLine->OW op A.in1 s (xs.toList.zip ys.toList) t->kR op A s (.ref l) (.ref b) (t.getD (g xs.size ys.size))
 co:∀a b:Value,compareOp op a b=richCompare op a b
 s1:∀n,g (n+1) 0=g 1 0
 s2:∀a b,g (a+1) (b+1)=g a b
theorem jZ{h:Heap}:∀{c:List PV}{d:List Value}{e:List Addr},ReadsAll h d (eD c) e->d.length=c.length
 |[],_,_,r=>by cases r;rfl|x::c,_,_,r=>by
  cases r with
  |cons a b=>rw[MK,MK,jZ b]
mutual
theorem Ca{op:CmpOp}{f:Int->Int->Bool}{g:Nat->Nat->Bool}(T:Jb op f g):∀{x y:PV}{n:Nat}{A:Around}{s:Shared}{a b:Value}{as bs:List Addr}{t:Bool},Reads s.heap a (nL x) as->Reads s.heap b (nL y) bs->dH n x=true->dH n y=true->A.units+n<cLine->F8 f g x y=some t->kR op A s a b t
 | .int i,y,_,_,_,_,_,_,_,_,ra,rb,_,_,_,h=>by
  cases y with
  | int j=>
   cases h;cases ra;cases rb;exact T.int
  | _=>cases h
 | .tup xs,y,n,A,s,_,_,_,_,t,ra,rb,fa,fb,hu,h=>by
  cases y with
  | tup ys=>
   cases n with
   | zero=>cases fa
   | succ n=>
    cases ra with
    | @tuple l o vs m _ _ h1 h2 h3 h4=>
     cases rb with
     | @tuple l' o' ws m' _ _ k1 k2 k3 k4=>
      obtain⟨o,ow,e⟩:=xg T (A:=A.in1) (n:=n) h4 k4 fa fb (by show A.units+1+n<cLine;omega) h;rw[Ml,Ml]at e;rw[e];exact T.tup ⟨_,h1,h2,_,h3⟩ ⟨_,k1,k2,_,k3⟩ (by omega) ow
  | _=>cases h
 | .non,_,_,_,_,_,_,_,_,_,_,_,_,_,_,h=>by cases h
 | .bl _,_,_,_,_,_,_,_,_,_,_,_,_,_,_,h=>by cases h
 | .str _,_,_,_,_,_,_,_,_,_,_,_,_,_,_,h=>by cases h
 | .lst _,_,_,_,_,_,_,_,_,_,_,_,_,_,_,h=>by cases h
 | .dK _ _,_,_,_,_,_,_,_,_,_,_,_,_,_,_,h=>by cases h
 | .dT _ _,_,_,_,_,_,_,_,_,_,_,_,_,_,_,h=>by cases h
theorem xg{op:CmpOp}{f:Int->Int->Bool}{g:Nat->Nat->Bool}(T:Jb op f g):∀{xs ys:List PV}{n:Nat}{A:Around}{s:Shared}{vs ws:List Value}{as bs:List Addr}{t:Bool},ReadsAll s.heap vs (eD xs) as->ReadsAll s.heap ws (eD ys) bs->xs.all (dH n)=true->ys.all (dH n)=true->A.units+n<cLine->zK f g xs ys=some t ->
  ∃o:Option Bool,OW op A s (vs.zip ws) o/\t=o.getD (g vs.length ws.length)
 | [],ys,_,_,_,_,_,_,_,_,ra,rb,_,_,_,h=>by
  cases h;cases ra;exact⟨none,.nil,by rw[jZ rb];rfl⟩
 | x::xs,[],_,_,_,_,_,_,_,_,ra,rb,_,_,_,h=>by
  cases h;cases rb;exact⟨none,by rw[List.zip_nil_right];exact .nil,by rw[jZ ra];exact(T.s1 _).symm⟩
 | x::xs,y::ys,n,A,s,_,_,_,_,t,ra,rb,fa,fb,hu,h=>by
  rw[Ov,MH]at fa fb;cases ra with
  | cons r rs=>
   cases rb with
   | cons r' rs' =>
    obtain⟨c1,d1⟩:=du fa.1;obtain⟨c2,d2⟩:=du fb.1;have he:=SeqAt.eqAt_reads (nL x) (nL y) A s _ _ _ _ r r' c1 c2 (by omega);rw[i8]at he;have h:(if mM x y=true then zK f g xs ys else F8 f g x y)=some t:=h;cases e:mM x y with
    | true=>
     rw[e]at h he;obtain⟨o,ow,z⟩:=xg T rs rs' fa.2 fb.2 hu h;refine⟨o,.eq he ow,?_⟩;rw[z,MK,MK,T.s2]
    | false=>
     rw[e]at h he;exact⟨some t,.ne he (Ca T r r' fa.1 fb.1 hu h),rfl⟩
end
variable(X Hi)in
def Ai(f:Int->Int->Bool)(g:Nat->Nat->Bool):R2:=λx y H Q=>∃a b t,dH 12 a=true/\dH 12 b=true/\Rp X.K Hi false a H x/\Rp X.K Hi false b H y/\F8 f g a b=some t/\Q (.bl t) H
set_option tactic.hygienic false
theorem pV(T:Jb i f g)(C:X.A.units+64<cLine):dI X (compareOp i) (Ai X Hi f g):=by intro c s w H x y u v Q I p m h;obtain⟨a,b,t,j,d,l,n,e,q⟩:=h;obtain⟨r,k⟩:=bO I j l p;obtain⟨B,o⟩:=bO I d n m;have z:=Ca T (A:=X.A) k o j d (by omega) e;rw[T.co];exact z _ _ _ _ ⟨.bl _,H,I,rfl,q⟩
theorem GP(l b:Addr)(xs ys:Array Value)(n n2:Nat)(d1 d2:Option Addr)(sl sl2:Array (Option Value)):Meets (Builtin.«tuple.__lt__» ⟨[.ref l,.ref b],[]⟩)
  (λA R s=>s.heap.get? l=some ⟨.type "tuple",d1,.seq xs n,sl⟩/\s.heap.get? b=some ⟨.type "tuple",d2,.seq ys n2,sl2⟩ /\ ∃t:Option Bool,OW .Lt A.in1 s (xs.toList.zip ys.toList) t/\R (.ok (.ret (.bool (t.getD (decide (xs.size<ys.size)))))) s):=
 .of_wp λprog w A R s h=>by
  obtain⟨hp,g,d,tk,os⟩:=s;obtain⟨h1,h2,t,ow,hR⟩:=h;have f2:=O8
  wp_walk using NV h1,NV h2,wpAny_forIn_list _ (λaL c s' =>c.1=none/\s' =⟨hp,g,d,tk,os⟩/\∃t:Option Bool,OW .Lt A.in1 ⟨hp,g,d,tk,os⟩ aL t/\R (.ok (.ret (.bool (t.getD (decide (xs.size<ys.size)))))) ⟨hp,g,d,tk,os⟩) _
  case turn=>
   rintro⟨y,x⟩ aL c s' ⟨hc,rfl,t,ow,hR⟩;cases ow with
   |eq he ow=>
    refine L8 (he prog w _ _ ?_)
    wp_walk
    exact⟨rfl,rfl,t,ow,hR⟩
   |ne he hl=>refine L8 (he prog w _ _ ?_);refine L8 (PJ (L8 (hl prog w _ _ ?_)));refine L8 (MC (MC ?_));exact MC ⟨_,rfl,hR⟩
  case fin=>
   rintro⟨c1,c2⟩ s' ⟨hc,rfl,t,ow,hR⟩;cases ow;simp only at hc;subst hc
   wp_walk
   exact⟨_,rfl,by simpa [Builtin.Tuple.tupleCompareSizes]using hR⟩
  case h=>exact⟨rfl,rfl,t,ow,hR⟩
theorem yi(x:s.heap.IsTuple l c)(q:s.heap.IsTuple b a)(o:A.units<cLine)(k:OW .Lt A.in1 s (c.toList.zip a.toList) t):kR .Lt A s (.ref l) (.ref b) (t.getD (decide (c.size<a.size))):=λprog w E Q h=>by obtain⟨⟨B,p,y,r⟩,e,i,n,j⟩:=id x;obtain⟨⟨C,u,D,v⟩,f,g,m,d⟩:=id q;simp only at i j g d;subst i j g d;exact PR (op:=.Lt) ⟨_,e,rfl⟩ ⟨_,f,rfl⟩ PySem.F.slot_tuple_lt PySem.F.entry_tuple_lt (PySem.F.args_tuple_lt_2 _ _) (GP l b c a n m p u r v) ⟨e,f,t,k,(λz=>nomatch z),h⟩ o
theorem Ki:Jb .Lt (λi j=>decide (i<j)) λa b=>decide (a<b):=⟨λ_ _ _ _ q=>PyProof.Rows.lt_int q,yi,λ_ _=>rfl,λn=>rfl,λa b=>OY.mpr (by omega)⟩
theorem HU(c:X.A.units+64<cLine):dI X (compareOp .Lt) (Ai X Hi (λi j=>decide (i<j)) λa b=>decide (a<b)):=pV Ki c
end
section
variable{X:Cx}{Hi:Hp}
set_option tactic.hygienic false
theorem GR(l b:Addr)(xs ys:Array Value)(n n2:Nat)(d1 d2:Option Addr)(sl sl2:Array (Option Value)):Meets (Builtin.«tuple.__gt__» ⟨[.ref l,.ref b],[]⟩)
  (λA R s=>s.heap.get? l=some ⟨.type "tuple",d1,.seq xs n,sl⟩/\s.heap.get? b=some ⟨.type "tuple",d2,.seq ys n2,sl2⟩ /\ ∃t:Option Bool,OW .Gt A.in1 s (xs.toList.zip ys.toList) t/\R (.ok (.ret (.bool (t.getD (decide (xs.size>ys.size)))))) s):=
 .of_wp λprog w A R s h=>by
  obtain⟨hp,g,d,tk,os⟩:=s;obtain⟨h1,h2,t,ow,hR⟩:=h;have f2:=O8
  wp_walk using NV h1,NV h2,wpAny_forIn_list _ (λaL c s' =>c.1=none/\s' =⟨hp,g,d,tk,os⟩/\∃t:Option Bool,OW .Gt A.in1 ⟨hp,g,d,tk,os⟩ aL t/\R (.ok (.ret (.bool (t.getD (decide (xs.size>ys.size)))))) ⟨hp,g,d,tk,os⟩) _
  case turn=>
   rintro⟨y,x⟩ aL c s' ⟨hc,rfl,t,ow,hR⟩;cases ow with
   |eq he ow=>
    refine L8 (he prog w _ _ ?_)
    wp_walk
    exact⟨rfl,rfl,t,ow,hR⟩
   |ne he hl=>refine L8 (he prog w _ _ ?_);refine L8 (PJ (L8 (hl prog w _ _ ?_)));refine L8 (MC (MC ?_));exact MC ⟨_,rfl,hR⟩
  case fin=>
   rintro⟨c1,c2⟩ s' ⟨hc,rfl,t,ow,hR⟩;cases ow;simp only at hc;subst hc
   wp_walk
   exact⟨_,rfl,by simpa [Builtin.Tuple.tupleCompareSizes]using hR⟩
  case h=>exact⟨rfl,rfl,t,ow,hR⟩
theorem yw(x:s.heap.IsTuple l c)(q:s.heap.IsTuple b a)(o:A.units<cLine)(k:OW .Gt A.in1 s (c.toList.zip a.toList) t):kR .Gt A s (.ref l) (.ref b) (t.getD (decide (c.size>a.size))):=λprog w E Q h=>by obtain⟨⟨B,p,y,r⟩,e,i,n,j⟩:=id x;obtain⟨⟨C,u,D,v⟩,f,g,m,d⟩:=id q;simp only at i j g d;subst i j g d;exact PR (op:=.Gt) ⟨_,e,rfl⟩ ⟨_,f,rfl⟩ PySem.F.slot_tuple_gt PySem.F.entry_tuple_gt (PySem.F.args_tuple_gt_2 _ _) (GR l b c a n m p u r v) ⟨e,f,t,k,(λz=>nomatch z),h⟩ o
theorem Ky:Jb .Gt (λi j=>decide (j<i)) λa b=>decide (b<a):=⟨λ_ _ _ _ q=>PyProof.Rows.gt_int q,yw,λ_ _=>rfl,λn=>rfl,λa b=>OY.mpr (by omega)⟩
theorem HW(c:X.A.units+64<cLine):dI X (compareOp .Gt) (Ai X Hi (λi j=>decide (j<i)) λa b=>decide (b<a)):=pV Ky c
theorem GQ(l b:Addr)(xs ys:Array Value)(n n2:Nat)(d1 d2:Option Addr)(sl sl2:Array (Option Value)):Meets (Builtin.«tuple.__le__» ⟨[.ref l,.ref b],[]⟩)
  (λA R s=>s.heap.get? l=some ⟨.type "tuple",d1,.seq xs n,sl⟩/\s.heap.get? b=some ⟨.type "tuple",d2,.seq ys n2,sl2⟩ /\ ∃t:Option Bool,OW .LtE A.in1 s (xs.toList.zip ys.toList) t/\R (.ok (.ret (.bool (t.getD (decide (xs.size<=ys.size)))))) s):=
 .of_wp λprog w A R s h=>by
  obtain⟨hp,g,d,tk,os⟩:=s;obtain⟨h1,h2,t,ow,hR⟩:=h;have f2:=O8
  wp_walk using NV h1,NV h2,wpAny_forIn_list _ (λaL c s' =>c.1=none/\s' =⟨hp,g,d,tk,os⟩/\∃t:Option Bool,OW .LtE A.in1 ⟨hp,g,d,tk,os⟩ aL t/\R (.ok (.ret (.bool (t.getD (decide (xs.size<=ys.size)))))) ⟨hp,g,d,tk,os⟩) _
  case turn=>
   rintro⟨y,x⟩ aL c s' ⟨hc,rfl,t,ow,hR⟩;cases ow with
   |eq he ow=>
    refine L8 (he prog w _ _ ?_)
    wp_walk
    exact⟨rfl,rfl,t,ow,hR⟩
   |ne he hl=>refine L8 (he prog w _ _ ?_);refine L8 (PJ (L8 (hl prog w _ _ ?_)));refine L8 (MC (MC ?_));exact MC ⟨_,rfl,hR⟩
  case fin=>
   rintro⟨c1,c2⟩ s' ⟨hc,rfl,t,ow,hR⟩;cases ow;simp only at hc;subst hc
   wp_walk
   exact⟨_,rfl,by simpa [Builtin.Tuple.tupleCompareSizes]using hR⟩
  case h=>exact⟨rfl,rfl,t,ow,hR⟩
theorem yk(x:s.heap.IsTuple l c)(q:s.heap.IsTuple b a)(o:A.units<cLine)(k:OW .LtE A.in1 s (c.toList.zip a.toList) t):kR .LtE A s (.ref l) (.ref b) (t.getD (decide (c.size<=a.size))):=λprog w E Q h=>by obtain⟨⟨B,p,y,r⟩,e,i,n,j⟩:=id x;obtain⟨⟨C,u,D,v⟩,f,g,m,d⟩:=id q;simp only at i j g d;subst i j g d;exact PR (op:=.LtE) ⟨_,e,rfl⟩ ⟨_,f,rfl⟩ PySem.F.slot_tuple_le PySem.F.entry_tuple_le (PySem.F.args_tuple_le_2 _ _) (GQ l b c a n m p u r v) ⟨e,f,t,k,(λz=>nomatch z),h⟩ o
theorem Kn:Jb .LtE (λi j=>decide (i<=j)) λa b=>decide (a<=b):=⟨λ_ _ _ _ q=>PyProof.Rows.le_int q,yk,λ_ _=>rfl,λn=>rfl,λa b=>OY.mpr (by omega)⟩
theorem HV(c:X.A.units+64<cLine):dI X (compareOp .LtE) (Ai X Hi (λi j=>decide (i<=j)) λa b=>decide (a<=b)):=pV Kn c
theorem GS(l b:Addr)(xs ys:Array Value)(n n2:Nat)(d1 d2:Option Addr)(sl sl2:Array (Option Value)):Meets (Builtin.«tuple.__ge__» ⟨[.ref l,.ref b],[]⟩)
  (λA R s=>s.heap.get? l=some ⟨.type "tuple",d1,.seq xs n,sl⟩/\s.heap.get? b=some ⟨.type "tuple",d2,.seq ys n2,sl2⟩ /\ ∃t:Option Bool,OW .GtE A.in1 s (xs.toList.zip ys.toList) t/\R (.ok (.ret (.bool (t.getD (decide (xs.size ≥ ys.size)))))) s):=
 .of_wp λprog w A R s h=>by
  obtain⟨hp,g,d,tk,os⟩:=s;obtain⟨h1,h2,t,ow,hR⟩:=h;have f2:=O8
  wp_walk using NV h1,NV h2,wpAny_forIn_list _ (λaL c s' =>c.1=none/\s' =⟨hp,g,d,tk,os⟩/\∃t:Option Bool,OW .GtE A.in1 ⟨hp,g,d,tk,os⟩ aL t/\R (.ok (.ret (.bool (t.getD (decide (xs.size ≥ ys.size)))))) ⟨hp,g,d,tk,os⟩) _
  case turn=>
   rintro⟨y,x⟩ aL c s' ⟨hc,rfl,t,ow,hR⟩;cases ow with
   |eq he ow=>
    refine L8 (he prog w _ _ ?_)
    wp_walk
    exact⟨rfl,rfl,t,ow,hR⟩
   |ne he hl=>refine L8 (he prog w _ _ ?_);refine L8 (PJ (L8 (hl prog w _ _ ?_)));refine L8 (MC (MC ?_));exact MC ⟨_,rfl,hR⟩
  case fin=>
   rintro⟨c1,c2⟩ s' ⟨hc,rfl,t,ow,hR⟩;cases ow;simp only at hc;subst hc
   wp_walk
   exact⟨_,rfl,by simpa [Builtin.Tuple.tupleCompareSizes]using hR⟩
  case h=>exact⟨rfl,rfl,t,ow,hR⟩
theorem yx(x:s.heap.IsTuple l c)(q:s.heap.IsTuple b a)(o:A.units<cLine)(k:OW .GtE A.in1 s (c.toList.zip a.toList) t):kR .GtE A s (.ref l) (.ref b) (t.getD (decide (c.size ≥ a.size))):=λprog w E Q h=>by obtain⟨⟨B,p,y,r⟩,e,i,n,j⟩:=id x;obtain⟨⟨C,u,D,v⟩,f,g,m,d⟩:=id q;simp only at i j g d;subst i j g d;exact PR (op:=.GtE) ⟨_,e,rfl⟩ ⟨_,f,rfl⟩ PySem.F.slot_tuple_ge PySem.F.entry_tuple_ge (PySem.F.args_tuple_ge_2 _ _) (GS l b c a n m p u r v) ⟨e,f,t,k,(λz=>nomatch z),h⟩ o
theorem K1:Jb .GtE (λi j=>decide (j<=i)) λa b=>decide (b<=a):=⟨λ_ _ _ _ q=>PyProof.Rows.ge_int q,yx,λ_ _=>rfl,λn=>rfl,λa b=>OY.mpr (by omega)⟩
theorem HX(c:X.A.units+64<cLine):dI X (compareOp .GtE) (Ai X Hi (λi j=>decide (j<=i)) λa b=>decide (b<=a)):=pV K1 c
end
section
variable{X:Cx}{Hi:Hp}{τ:En}
set_option tactic.hygienic false
theorem CB(h:eqs a b=some t)(ha:Rp X.K Hi false a H u)(hb:Rp X.K Hi false b H' v):Gi u v=true/\decide (u=v)=t:=by
  cases a<;>cases b<;>first
    | exact absurd (show(none:Option Bool)=some t from h) (by intro z;cases z)
    | (have e:=MZ (show some _=some t from h)
       subst e
       first
       | rw[Rp.int.mp ha]|rw[Rp.str.mp ha]|rw[Rp.bl.mp ha]|rw[Rp.non.mp ha]
       first
       | rw[Rp.int.mp hb]|rw[Rp.str.mp hb]|rw[Rp.bl.mp hb]|rw[Rp.non.mp hb]
       exact⟨rfl,by simp⟩)
theorem qM(c:Rp X.K Hi false a H u)(f:tY a=true):gN u=true:=by
 cases a with
 |non=>rw[Rp.non.mp c];rfl|bl b=>rw[Rp.bl.mp c];rfl|int b=>rw[Rp.int.mp c];rfl|str b=>rw[Rp.str.mp c];rfl|_=>cases f
theorem Iz(d:Rp X.K Hi false a H u)(c:Rp X.K Hi false b e v)(g:tY a=true)(f:tY b=true):zg u v=Ei a b:=by
 cases a<;>(try cases g)<;>cases b<;>(try cases f) <;>
  (first|rw[Rp.int.mp d]|rw[Rp.str.mp d]|rw[Rp.bl.mp d]|rw[Rp.non.mp d]) <;>
  (first|rw[Rp.int.mp c]|rw[Rp.str.mp c]|rw[Rp.bl.mp c]|rw[Rp.non.mp c]) <;>
  first|rfl|exact beq_eq_decide _ _|exact(beq_eq_decide _ _).symm|(simp[zg,Ei,PK];done)|(unfold zg Ei;simp only[beq_eq_decide])
theorem mI:∀{c:List PV}{H:Hp}{d:List V},aI X.K Hi false c H d->c.all tY=true->d.all gN=true
 |[],_,_,h,_=>by obtain rfl:=h;rfl|x::c,_,_,h,f=>by obtain⟨u,r,rfl,a,b⟩:=h;rw[Ov,MH]at f ⊢;exact⟨qM a f.1,mI b f.2⟩
theorem v4{x:PV}{i:Hp}{v:V}(e:Rp X.K Hi false x i v)(d:tY x=true):∀{c:List PV}{H:Hp}{g:List V},aI X.K Hi false c H g->c.all tY=true->inV v g=c.any λy=>Ei y x
 |[],_,_,h,_=>by obtain rfl:=h;rfl|y::c,_,_,h,f=>by obtain⟨u,r,rfl,a,b⟩:=h;rw[Ov,MH]at f;show(zg u v||inV v r)=_;rw[Ou,v4 e d b f.2,Iz a e f.1 d]
theorem BH(c:Rp X.K Hi false a H u)(h:∀z,a≠z\/z≠PV.non):u≠.non:=by
 intro e;subst e;cases a with
 |non=>rcases h .non with z|z<;>exact z rfl
 |bl b=>cases Rp.bl.mp c|int b=>cases Rp.int.mp c|str b=>cases Rp.str.mp c|lst i=>obtain⟨p,d,z,_⟩:=Rp.lst.mp c;cases z
 |tup i=>obtain⟨p,d,z,_⟩:=Rp.tup.mp c;cases z
 |dK g f=>obtain⟨p,d,z,_⟩:=c;cases z
 |dT g f=>obtain⟨p,d,z,_⟩:=c;cases z
set_option tactic.hygienic true
theorem fg(m:X.A.units+64<cLine)(h:ai F x.val y.val=some t):∃I:R2,dI X (compareOp F) I /\ ∀(O:List Addr)(f:L2.St)(H d:Hp)(u v:V)(Q:VK),ao X.K Hi O τ f H->aC H d->ag X.K Hi O H d x u->ag X.K Hi O H d y v->Q (.bl t) d->I u v d Q:=by
 cases F with
 |Lt=>
  have h:CW x.val y.val=some t:=h;unfold CW at h
  split at h
  case h_1 i j g a=>cases h;exact⟨_,Ka,λO f H d u v Q R s ru rv q=>⟨i,j,ru.int R s g,rv.int R s a,q⟩⟩
  case h_2 G w g a=>
   unfold ltT at h
   split at h
   .rename_i c
    rw[MH]at c;exact⟨_,HU (Hi:=Hi) m,λO f H d u v Q R s ru rv q=>⟨_,_,t,c.1,c.2,by have z:=ru.val R s;rw[g]at z;exact z,by have z:=rv.val R s;rw[a]at z;exact z,h,q⟩⟩
   .cases h
  case h_3=>cases h
 |LtE=>
  have h:vh x.val y.val=some t:=h;unfold vh at h
  split at h
  case h_1 i j g a=>cases h;exact⟨_,Kb,λO f H d u v Q R s ru rv q=>⟨i,j,ru.int R s g,rv.int R s a,q⟩⟩
  case h_2 G w g a=>
   unfold leT at h
   split at h
   .rename_i c
    rw[MH]at c;exact⟨_,HV (Hi:=Hi) m,λO f H d u v Q R s ru rv q=>⟨_,_,t,c.1,c.2,by have z:=ru.val R s;rw[g]at z;exact z,by have z:=rv.val R s;rw[a]at z;exact z,h,q⟩⟩
   .cases h
  case h_3=>cases h
 |Gt=>
  have h:CZ x.val y.val=some t:=h;unfold CZ at h
  split at h
  case h_1 i j g a=>cases h;exact⟨_,Kc,λO f H d u v Q R s ru rv q=>⟨i,j,ru.int R s g,rv.int R s a,q⟩⟩
  case h_2 G w g a=>
   unfold gtT at h
   split at h
   .rename_i c
    rw[MH]at c;exact⟨_,HW (Hi:=Hi) m,λO f H d u v Q R s ru rv q=>⟨_,_,t,c.1,c.2,by have z:=ru.val R s;rw[g]at z;exact z,by have z:=rv.val R s;rw[a]at z;exact z,h,q⟩⟩
   .cases h
  case h_3=>cases h
 |GtE=>
  have h:vi x.val y.val=some t:=h;unfold vi at h
  split at h
  case h_1 i j g a=>cases h;exact⟨_,Kd,λO f H d u v Q R s ru rv q=>⟨i,j,ru.int R s g,rv.int R s a,q⟩⟩
  case h_2 G w g a=>
   unfold geT at h
   split at h
   .rename_i c
    rw[MH]at c;exact⟨_,HX (Hi:=Hi) m,λO f H d u v Q R s ru rv q=>⟨_,_,t,c.1,c.2,by have z:=ru.val R s;rw[g]at z;exact z,by have z:=rv.val R s;rw[a]at z;exact z,h,q⟩⟩
   .cases h
  case h_3=>cases h
 |Eq=>
  have h:F5 x.val y.val=some t:=h;unfold F5 at h
  split at h
  .rename_i z
   cases h;refine⟨_,wn,λO f H d u v Q R s ru rv q=> ?_⟩;obtain⟨B,o⟩:=CB z (ru.val R s) (rv.val R s);exact⟨B,by rw[o];exact q⟩
  .split at h
   .rename_i c
    rw[MH]at c;cases h;exact⟨_,HY (Hi:=Hi) m,λO f H d u v Q R s ru rv q=>⟨_,_,c.1,c.2,ru.val R s,rv.val R s,q⟩⟩
   .cases h
 |NotEq=>
  have h:(F5 x.val y.val).map (!·)=some t:=h;obtain⟨k,e,rfl⟩:∃k,F5 x.val y.val=some k/\t= !k:=by
   cases e:F5 x.val y.val with
   |none=>rw[e]at h;cases h|some k=>rw[e]at h;cases h;exact⟨k,rfl,rfl⟩
  unfold F5 at e
  split at e
  .rename_i z
   cases e;refine⟨_,KZ,λO f H d u v Q R s ru rv q=> ?_⟩;obtain⟨B,o⟩:=CB z (ru.val R s) (rv.val R s);exact⟨B,by rw[o];exact q⟩
  .split at e
   .rename_i c
    rw[MH]at c;cases e;exact⟨_,HQ (Hi:=Hi) m,λO f H d u v Q R s ru rv q=>⟨_,_,c.1,c.2,ru.val R s,rv.val R s,q⟩⟩
   .cases e
 |Is=>
  have h:CY x.val y.val=some t:=h;unfold CY at h
  split at h
  case h_1 g a=>cases h;refine⟨_,A6,λO f H d u v Q R s ru rv q=> ?_⟩;have B:=ru.val R s;have o:=rv.val R s;rw[g]at B;rw[a]at o;exact⟨Rp.non.mp o,by rw[Rp.non.mp B];exact q⟩
  case h_2 a E=>
   cases h;refine⟨_,A6,λO f H d u v Q R s ru rv q=> ?_⟩;have o:=rv.val R s;rw[a]at o;have n:u≠.non:=BH (ru.val R s) λz=>by by_cases c:z=.non;left;intro D;exact E (D.trans c);right;exact c
   exact⟨Rp.non.mp o,by rw[MU n];exact q⟩
  case h_3=>cases h
 |IsNot=>
  have h:mV x.val y.val=some t:=h;unfold mV at h
  split at h
  case h_1 g a=>cases h;refine⟨_,wm,λO f H d u v Q R s ru rv q=> ?_⟩;have B:=ru.val R s;have o:=rv.val R s;rw[g]at B;rw[a]at o;exact⟨Rp.non.mp o,by rw[Rp.non.mp B];exact q⟩
  case h_2 a E=>
   cases h;refine⟨_,wm,λO f H d u v Q R s ru rv q=> ?_⟩;have o:=rv.val R s;rw[a]at o;have n:u≠.non:=BH (ru.val R s) λz=>by by_cases c:z=.non;left;intro D;exact E (D.trans c);right;exact c
   exact⟨Rp.non.mp o,by rw[MU n];exact q⟩
  case h_3 b c g a=>cases h;exact⟨_,yd,λO f H d u v Q R s ru rv q=>⟨b,c,ru.bl R s g,rv.bl R s a,q⟩⟩
  case h_4=>cases h
 |NotIn=>
  have h:mU x.val y.val=some t:=h;unfold mU at h
  split at h
  case h_1 w a=>
   obtain⟨k,e,rfl⟩:∃k,xK x.val w=some k/\t= !k:=by
    cases e:xK x.val w with
    |none=>rw[e]at h;cases h|some k=>rw[e]at h;cases h;exact⟨k,rfl,rfl⟩
   unfold xK at e
   split at e
   .rename_i c
    cases e;refine⟨_,ie,λO f H d u v Q R s ru rv q=> ?_⟩;obtain⟨p,C,rfl,l,r⟩:=rv.lst R s a;exact⟨p,C,rfl,.inl l,qM (ru.val R s) c.1,mI r c.2,by rw[v4 (ru.val R s) c.1 r c.2];exact q⟩
   .split at e
    .rename_i c
     rw[MH]at c;cases e;exact⟨_,pU (Hi:=Hi) m,λO f H d u v Q R s ru rv q=>⟨_,w,c.1,c.2,ru.val R s,.inl (by have z:=rv.val R s;rw[a]at z;exact z),q⟩⟩
    .cases e
  case h_2 w a=>
   obtain⟨k,e,rfl⟩:∃k,xK x.val w=some k/\t= !k:=by
    cases e:xK x.val w with
    |none=>rw[e]at h;cases h|some k=>rw[e]at h;cases h;exact⟨k,rfl,rfl⟩
   unfold xK at e
   split at e
   .rename_i c
    cases e;refine⟨_,ie,λO f H d u v Q R s ru rv q=> ?_⟩;obtain⟨p,C,rfl,l,r⟩:=rv.tup R s a;exact⟨p,C,rfl,.inr l,qM (ru.val R s) c.1,mI r c.2,by rw[v4 (ru.val R s) c.1 r c.2];exact q⟩
   .split at e
    .rename_i c
     rw[MH]at c;cases e;exact⟨_,pU (Hi:=Hi) m,λO f H d u v Q R s ru rv q=>⟨_,w,c.1,c.2,ru.val R s,.inr (by have z:=rv.val R s;rw[a]at z;exact z),q⟩⟩
    .cases e
  case h_3=>cases h
 |_=>exact absurd (show(none:Option Bool)=some t from h) (by intro z;cases z)
set_option tactic.hygienic false
theorem BJ(h:cS b=false):behindInMarks a b=false:=by cases b<;>first|rfl|cases h
theorem JE(c:X.A.units+64<cLine)(f:aH X Hi τ a x)(g:aH X Hi τ b y)(j:cS b=false)(h:ai e x.val y.val=some t):aH X Hi τ (.Compare a [e] [b] pos) (sc (.bl t)):=by obtain⟨l,i,k⟩:=fg (X:=X) (Hi:=Hi) (τ:=τ) c h;intro O d H Q R q;refine we (Dv i aa aa (BJ j)) ?_;refine f O d H _ R λu H1 s1 r1=>g O d H1 _ (R.ext s1) λv H2 s2 r2=> ?_;exact k O d H H2 u v Q R (s1.trans s2) (r1.ext s2) (r2.back s1) (q _ _ (s1.trans s2) Fu)
theorem CU(c:X.A.units+64<cLine)(f:aH X Hi τ a x)(g:aH X Hi τ b y)(j:cS b=false)(h:ai e x.val y.val=some t):fE X Hi τ (.Compare a [e] [b] pos) t:=by obtain⟨l,i,k⟩:=fg (X:=X) (Hi:=Hi) (τ:=τ) c h;intro O d H Q R q;refine wt (iU i aa aa (BJ j)) ?_;refine f O d H _ R λu H1 s1 r1=>g O d H1 _ (R.ext s1) λv H2 s2 r2=> ?_;exact k O d H H2 u v _ R (s1.trans s2) (r1.ext s2) (r2.back s1) ⟨t,rfl,q _ (s1.trans s2)⟩
theorem pX(h:cS c=false):lastMarks [d,a] [b,c]=false:=by show behindInMarks a c=false;exact BJ h
theorem Cb(f:X.A.units+64<cLine)(i:aH X Hi τ a x)(j:aH X Hi τ b y)(m:cS c=false)(h:ai n x.val y.val=some t)
  (g:if t=true then∃z,aH X Hi τ c z/\ai o2 y.val z.val=some t2 else t2=false/\∃w z,ai o2 w z=some false):aH X Hi τ (.Compare a [n,o2] [b,c] pos) (sc (.bl t2))/\fE X Hi τ (.Compare a [n,o2] [b,c] pos) t2:=by
 obtain⟨B,l,k⟩:=fg (X:=X) (Hi:=Hi) (τ:=τ) f h;cases t with
 |true=>
  rw[MF rfl]at g;obtain⟨z,s,p⟩:=g;obtain⟨o,e,r⟩:=fg (X:=X) (Hi:=Hi) (τ:=τ) f p
  constructor
  .intro O d H Q R q
   refine we (sO l e aa aa aa (pX m)) ?_;refine i O d H _ R λu H1 s1 r1=>j O d H1 _ (R.ext s1) λv H2 s2 r2=> ?_;refine k O d H H2 u v _ R (s1.trans s2) (r1.ext s2) (r2.back s1) ⟨true,rfl,?_⟩;rw[MF rfl];refine s O d H2 _ (R.ext (s1.trans s2)) λw H3 s3 r3=> ?_;exact r O d H H3 v w Q R (s1.trans (s2.trans s3)) ((r2.back s1).ext s3) (r3.back (s1.trans s2)) (q _ _ (s1.trans (s2.trans s3)) Fu)
  .intro O d H Q R q
   refine wt (rm l e aa aa aa (pX m)) ?_;refine i O d H _ R λu H1 s1 r1=>j O d H1 _ (R.ext s1) λv H2 s2 r2=> ?_;refine k O d H H2 u v _ R (s1.trans s2) (r1.ext s2) (r2.back s1) ⟨true,rfl,?_⟩;rw[MF rfl];refine s O d H2 _ (R.ext (s1.trans s2)) λw H3 s3 r3=> ?_;exact r O d H H3 v w _ R (s1.trans (s2.trans s3)) ((r2.back s1).ext s3) (r3.back (s1.trans s2)) ⟨t2,rfl,q _ (s1.trans (s2.trans s3))⟩
 |false=>
  rw[ME MI]at g;obtain⟨rfl,w,z,p⟩:=g;obtain⟨o,e,r⟩:=fg (X:=X) (Hi:=Hi) (τ:=τ) f (x:=sc w) (y:=sc z) p
  constructor
  .intro O d H Q R q
   refine we (sO l e aa aa aa (pX m)) ?_;refine i O d H _ R λu H1 s1 r1=>j O d H1 _ (R.ext s1) λv H2 s2 r2=> ?_;exact k O d H H2 u v _ R (s1.trans s2) (r1.ext s2) (r2.back s1) ⟨false,rfl,by rw[ME MI];exact q _ _ (s1.trans s2) Fu⟩
  .intro O d H Q R q
   refine wt (rm l e aa aa aa (pX m)) ?_;refine i O d H _ R λu H1 s1 r1=>j O d H1 _ (R.ext s1) λv H2 s2 r2=> ?_;exact k O d H H2 u v _ R (s1.trans s2) (r1.ext s2) (r2.back s1) ⟨false,rfl,by rw[ME MI];exact⟨false,rfl,q _ (s1.trans s2)⟩⟩
theorem uk(o:CmpOp)(h:wj o=true):∃w z:PV,ai o w z=some false:=by
 cases o
 .exact⟨.int 0,.int 1,rfl⟩
 .exact⟨.int 0,.int 0,rfl⟩
 .exact⟨.int 0,.int 0,rfl⟩
 .exact⟨.int 1,.int 0,rfl⟩
 .exact⟨.int 0,.int 0,rfl⟩
 .exact⟨.int 0,.int 1,rfl⟩
 all_goals cases h
theorem Hh(c:aH X Hi τ a x)(e:x.val=.int i):aH X Hi τ (.UnaryOp .USub a pos) (sc (.int (-i))):=by intro O b H Q R q;refine we (Fx zw aa) ?_;exact c O b H _ R λu H1 s1 r1=>⟨i,r1.int R s1 e,q _ _ s1 AX⟩
theorem He(c:aH X Hi τ a x)(e:x.val=.bl b):aH X Hi τ (.UnaryOp .Not a pos) (sc (.bl !b)):=by intro O d H Q R q;refine we (HI aa) ?_;exact c O d H _ R λu H1 s1 r1=>⟨b,r1.bl R s1 e,q _ _ s1 Fu⟩
theorem Hb(d:aH X Hi τ a x):aH X Hi τ (.BoolOp b [a] pos) x:=by intro O c H Q R q;exact we (HH aa) (d O c H _ R q)
theorem Le(g:aH X Hi τ a x)(e:x.val=.bl true)(f:aH X Hi τ (.BoolOp .And (b::c) pos) y):aH X Hi τ (.BoolOp .And (a::b::c) pos) y:=by intro O d H Q R q;refine we (A4 aa aa) ?_;exact g O d H _ R λu H1 s1 r1=>⟨true,r1.bl R s1 e,nD (f O d H1 _ (R.ext s1) λw H2 s2 r2=>q w H2 (s1.trans s2) (r2.back s1))⟩
theorem Lf(d:aH X Hi τ a x)(e:x.val=.bl false):aH X Hi τ (.BoolOp .And (a::b::c) pos) (sc (.bl false)):=by intro O f H Q R q;refine we (A4 aa aa) ?_;exact d O f H _ R λu H1 s1 r1=>⟨false,r1.bl R s1 e,pe (q _ _ s1 Fu)⟩
theorem or_f(g:aH X Hi τ a x)(e:x.val=.bl false)(f:aH X Hi τ (.BoolOp .Or (b::c) pos) y):aH X Hi τ (.BoolOp .Or (a::b::c) pos) y:=by intro O d H Q R q;refine we (Fy aa aa) ?_;exact g O d H _ R λu H1 s1 r1=>⟨false,r1.bl R s1 e,pe (f O d H1 _ (R.ext s1) λw H2 s2 r2=>q w H2 (s1.trans s2) (r2.back s1))⟩
theorem or_t(d:aH X Hi τ a x)(e:x.val=.bl true):aH X Hi τ (.BoolOp .Or (a::b::c) pos) (sc (.bl true)):=by intro O f H Q R q;refine we (Fy aa aa) ?_;exact d O f H _ R λu H1 s1 r1=>⟨true,r1.bl R s1 e,nD (q _ _ s1 Fu)⟩
theorem IL(e:fE X Hi τ c t)(h:aH X Hi τ (if t=true then a else b) r):aH X Hi τ (.IfExp c a b pos) r:=by
 intro O d H Q R q;refine we (A3 lQ aa aa) ?_;refine e O d H _ R λH1 s1=> ?_;cases t with
 |true=>exact nD ((show aH X Hi τ a r from h) O d H1 _ (R.ext s1) λw H2 s2 r2=>q w H2 (s1.trans s2) (r2.back s1))|false=>exact pe ((show aH X Hi τ b r from h) O d H1 _ (R.ext s1) λw H2 s2 r2=>q w H2 (s1.trans s2) (r2.back s1))
set_option tactic.hygienic true
theorem AB(h:rJ v=some b)(r:Rp X.K Hi false v H u):JZ X.K u H b:=by
 cases v with
 |non=>cases h;rw[Rp.non.mp r];rfl|bl c=>cases h;rw[Rp.bl.mp r];rfl|int i=>cases h;rw[Rp.int.mp r];rfl|str z=>
  have h:(if z.length<=LN then some ((z.length:Int) !=0)else none)=some b:=h
  split at h
  .rename_i c
   cases h;rw[Rp.str.mp r];exact⟨by rw[fN];exact c,rfl⟩
  .cases h
 |lst d=>cases h;obtain⟨p,a,rfl,_,l,r⟩:=Rp.lst.mp r;have:=r.len;exact .inl ⟨a,l,by cases d<;>cases a<;>simp_all⟩
 |tup d=>cases h;obtain⟨p,a,rfl,l,r⟩:=Rp.tup.mp r;have:=r.len;exact .inr (.inl ⟨a,l,by cases d<;>cases a<;>simp_all⟩)
 |dK e f=>cases h;obtain⟨p,a,rfl,_,l,z,r⟩:=r;exact .inr (.inr ⟨_,l,by cases e<;>cases a<;>simp_all⟩)
 |dT e f=>cases h
theorem GL(c:aH X Hi τ e x)(h:rJ x.val=some b)(d:∀a,isTrue e X.env a=(do let v<-a;standAt e.pos;holding [v] (truthy v))):fE X Hi τ e b:=by intro O f H Q R q;refine wt (Ao aa d) ?_;exact c O f H _ R λu H1 s1 r1=>⟨b,AB h (r1.val R s1),q _ s1⟩
theorem Hd(c:fE X Hi τ a b):fE X Hi τ (.UnaryOp .Not a pos) !b:=by intro O d H Q R q;exact wt (Gy lQ) (c O d H _ R λH1 s1=>q _ s1)
def nT(X:Cx)(g:Hp)(h:En)(e:Expr)(b:Bool):Prop:=∀(O:List Addr)(d:L2.St)(H:Hp)(Q:Bool->Hp->Prop),ao X.K g O h d H->(∀f,aC H f ->Q b f) -> ∀(c:Sem Value)(a:List (Addr×Obj))(s:Shared),Inv X a d H s->wpAny (model X.prog X.w) X.A (isTrue e X.env c) (TP X a d Q) X.xe s
theorem KP:PW X e (λσ H Q=>∀(b:Sem Value)(a:List (Addr×Obj))(s:Shared),Inv X a σ H s->wpAny (model X.prog X.w) X.A (isTrue e X.env b) (TP X a σ Q) X.xe s):=λwh a s σ H Q I h=>h wh a s I
theorem nT.tc(h:nT X Hi τ e b):fE X Hi τ e b:=λO σ H Q R q pins s I=>h O σ H Q R q _ pins s I
theorem Ha(f:fE X Hi τ a b):nT X Hi τ (.BoolOp g [a] pos) b:=by
 intro O d H Q R q e c s I;cases g with
 |And=>exact wY lQ e c s d H Q I (f O d H Q R q)|Or=>exact Aj lQ e c s d H Q I (f O d H Q R q)
theorem Cr(h:fE X Hi τ a t)(d:if t=true then nT X Hi τ (.BoolOp .And (b::f) pos) u else u=false):nT X Hi τ (.BoolOp .And (a::b::f) pos) u:=by
 intro O e H Q R q g c s I;refine Ak lQ KP g c s e H Q I ?_;refine h O e H _ R λH1 s1=> ?_;cases t with
 |true=>exact nD ((show nT X Hi τ _ u from d) O e H1 _ (R.ext s1) λH2 s2=>q _ (s1.trans s2))|false=>have d:u=false:=d;subst d;exact pe (q _ s1)
theorem Fz(h:fE X Hi τ a t)(d:if t=true then u=true else nT X Hi τ (.BoolOp .Or (b::f) pos) u):nT X Hi τ (.BoolOp .Or (a::b::f) pos) u:=by
 intro O e H Q R q g c s I;refine Fw lQ KP g c s e H Q I ?_;refine h O e H _ R λH1 s1=> ?_;cases t with
 |false=>exact pe ((show nT X Hi τ _ u from d) O e H1 _ (R.ext s1) λH2 s2=>q _ (s1.trans s2))|true=>have d:u=true:=d;subst d;exact nD (q _ s1)
end
end IR
namespace L2
open PySem PySem.Spec PyProof.Rows
section
variable{X:Cx}
inductive Ll(K:W.Frag)(H:Hp):V->Value->Prop where
 | of {x:V} {t:Value} (h:jz K H x t):Ll K H x t
 | lst {a:Addr} {xs:List V} (e:bQ K H a xs):Ll K H (.ref a) (.type "list")
 | tup {a:Addr} {xs:List V} (e:bg K H a xs):Ll K H (.ref a) (.type "tuple")
theorem vo:bS X (.builtin "isinstance") (λxs H Q=>∃x c t b,xs=[x,.ty c]/\Ll X.K H x t/\W.kitOne X.K t (.type c)=some b/\Q (.bl b) H):=by
 intro pins s σ H xs us Q I r h;obtain⟨x,c,t,b,rfl,ty,e,q⟩:=h;obtain⟨u,w',rfl,rx,ry⟩:=vals2 r;cases ry;cases ty with
 |of ty=>exact yt I rx ty e λtk=>⟨.bl b,H,I.tok _,rfl,q⟩|lst l=>cases rx;obtain⟨its,r',pl,hz⟩:=I.list l;obtain⟨o,n,h1,h2,_⟩:=pl;exact Oc W.kitx_list I.kIn ⟨o,h1,h2⟩ e (λz=>nomatch z) λtk=>⟨.bl b,H,I.tok _,rfl,q⟩
 |tup l=>cases rx;obtain⟨its,r',pl,hz⟩:=I.tuple l;obtain⟨o,h1,h2,_⟩:=pl;exact Oc W.kitx_tuple I.kIn ⟨o,h1,h2⟩ e (λz=>nomatch z) λtk=>⟨.bl b,H,I.tok _,rfl,q⟩
end
section
variable{K:W.Frag}
theorem kits:(W.kitOne K (.type "NoneType") (.type "int")=some false/\W.kitOne K (.type "NoneType") (.type "str")=some false/\W.kitOne K (.type "NoneType") (.type "list")=some false/\W.kitOne K (.type "NoneType") (.type "tuple")=some false/\W.kitOne K (.type "NoneType") (.type "bool")=some false) /\ (W.kitOne K (.type "bool") (.type "int")=some true/\W.kitOne K (.type "bool") (.type "str")=some false/\W.kitOne K (.type "bool") (.type "list")=some false/\W.kitOne K (.type "bool") (.type "tuple")=some false) /\ (W.kitOne K (.type "int") (.type "bool")=some false/\W.kitOne K (.type "int") (.type "str")=some false/\W.kitOne K (.type "int") (.type "list")=some false/\W.kitOne K (.type "int") (.type "tuple")=some false) /\ (W.kitOne K (.type "str") (.type "bool")=some false/\W.kitOne K (.type "str") (.type "int")=some false/\W.kitOne K (.type "str") (.type "list")=some false/\W.kitOne K (.type "str") (.type "tuple")=some false) /\ (W.kitOne K (.type "list") (.type "bool")=some false/\W.kitOne K (.type "list") (.type "int")=some false/\W.kitOne K (.type "list") (.type "str")=some false/\W.kitOne K (.type "list") (.type "tuple")=some false) /\ (W.kitOne K (.type "tuple") (.type "bool")=some false/\W.kitOne K (.type "tuple") (.type "int")=some false/\W.kitOne K (.type "tuple") (.type "str")=some false/\W.kitOne K (.type "tuple") (.type "list")=some false) /\ (W.kitOne K (.type "dict") (.type "bool")=some false/\W.kitOne K (.type "dict") (.type "int")=some false/\W.kitOne K (.type "dict") (.type "str")=some false/\W.kitOne K (.type "dict") (.type "list")=some false/\W.kitOne K (.type "dict") (.type "tuple")=some false):=by refine⟨⟨?_,?_,?_,?_,?_⟩,⟨?_,?_,?_,?_⟩,⟨?_,?_,?_,?_⟩,⟨?_,?_,?_,?_⟩,⟨?_,?_,?_,?_⟩,⟨?_,?_,?_,?_⟩,⟨?_,?_,?_,?_,?_⟩⟩<;>kernel_rfl
end
end L2
namespace IR
open PySem PySem.Spec PyProof.Rows L2
section
variable{X:Cx}{Hi:Hp}{τ:En}
theorem aY(h:isStar e=false):starEach (e::b) a=(false,eval e a)::starEach b a:=by cases e<;>first|rfl|cases h
theorem ig{a:Env}{pos:Pos}:∀{b:List Expr},(∀e∈b,isStar e=false)->(backTo pos (starEach b a)).any (·.1)=false
 |[],_=>rfl|e::b,h=>by rw[aY (h e MB)];show(false||(backTo pos (starEach b a)).any (·.1))=false;rw[ig λx hx=>h x (MA _ hx)];rfl
theorem JV:qW X Hi τ [] []:=by intro O a H Q R q;exact wa ac (q _ _ (aC.refl _) rfl)
theorem Fa(f:aH X Hi τ e r)(g:isStar e=false)(d:qW X Hi τ a b):qW X Hi τ (e::a) (r::b):=by intro O c H Q R q;refine wa (aK aa vA (aY g)) ?_;refine f O c H _ R λu H1 s1 r1=>d O c H1 _ (R.ext s1) λus H2 s2 r2=> ?_;exact q _ _ (s1.trans s2) ⟨u,us,rfl,r1.ext s2,r2.back s1⟩
theorem Hn(h:qW X Hi τ b c)(g:keeps c=some (a,n))(e:sX a n=some r):aH X Hi τ (.List b pos) r:=by obtain⟨d,rfl⟩:=wy e;intro O i H Q R q;refine we (uz vA) ?_;refine h O i H _ R λus H1 s1 r1=> ?_;have k:=r1.keeps R s1 g;have f:=k.len;exact⟨by rw[fN,<-f];exact d,λp hp=>q _ _ (s1.trans (aG hp _)) (ef s1 hp k)⟩
theorem GN(h:qW X Hi τ b c)(g:keeps c=some (a,n))(e:sW a n=some r):aH X Hi τ (.Tuple b m pos) r:=by obtain⟨d,rfl⟩:=wx e;intro O i H Q R q;refine we (ux vA) ?_;refine h O i H _ R λus H1 s1 r1=> ?_;have k:=r1.keeps R s1 g;have f:=k.len;exact⟨by rw[fN,<-f];exact d,λp hp=>q _ _ (s1.trans (aG hp _)) (Rp.tup.mpr ⟨p,us,rfl,bg.of (qG R s1 hp),k.mono (aP (aG hp _))⟩)⟩
theorem Ep:aH X Hi τ (.Dict [] [] pos) (.owd (.dK []) [] true):=by intro O b H Q R q;refine we ia ?_;intro p a;exact q _ _ (aG a _) ⟨p,[],_,rfl,a,aB,⟨rfl,rfl⟩,.nil⟩
theorem xZ(x:PE X m l)(f:∀d H Q,Q (kV k) H->l d H Q)(h:aH X Hi τ v r)(A:r.keep=some (w,n))(y:imm w=true):aH X Hi τ (.Dict [some m] [v] pos) (.owd (.dK [k]) [w] true):=by
 intro O d H Q R q;refine we (Du (Au x aa Dm) rfl rfl (by intro z;cases z) (by show 1<=15;decide)) ?_;intro p i;have g:=aG i (.dK []);refine f d _ _ ?_;refine h O d _ _ (R.ext g) λu H2 s2 r2=> ?_;have s:=r2.keep (R.ext g) s2 A;refine⟨s2 _ _ aB,[(k,u)],rfl,by show 1<=15;decide,?_⟩;have e:gf [] [(k,u)]=[(k,u)]:=by simp[gf,dA]
 rw[e];have t:aC H (L2.upd H2 p (.dK [(k,u)])):=λb o z=>by rw[aA (aD z i)];exact s2 _ _ (g _ _ z)
 refine q _ _ t ⟨p,[u],_,rfl,i,aB,⟨rfl,rfl⟩,.cons (Rp.imm y ⟨λb xs z=> ?_,λb o xs z=> ?_⟩ s) .nil⟩
 .have a:b≠p:=λc=>by
   subst c;have:=aQ _ _ z;rw[s2 _ _ aB]at this;cases this
  unfold aU at z ⊢
  split at z;cases z
  .rename_i j
   rw[ME j];unfold del;rw[ME a,aA a];exact z
 .have a:b≠p:=λc=>by
   subst c;have:=aQ _ _ z;rw[s2 _ _ aB]at this;cases this
  unfold aU at z ⊢
  split at z;cases z
  .rename_i j
   rw[ME j];unfold del;rw[ME a,aA a];exact z
def jQ(O:List Addr)(G:Hp):Prop:=∀l∈O,(∀a,G l≠some (.tup a))/\∀o a,G l≠some (.frz o (.tup a))
theorem Mo.noTup{G:Hp}(m:Mo o)(e:G l=some o):(∀a,G l≠some (.tup a))/\∀o a,G l≠some (.frz o (.tup a)):=by obtain⟨b,c,m⟩:=m;refine⟨λxs z=> ?_,λo a z=> ?_⟩<;>(rw[e]at z;cases z;cases b<;>first|cases m.1|cases m)
theorem jQ.del(h:jQ O G):jQ O (IR.del G p):=λl hl=>by
 refine⟨λxs e=> ?_,λo xs e=> ?_⟩
 .unfold IR.del at e
  split at e;cases e;exact(h l hl).1 xs e
 .unfold IR.del at e
  split at e;cases e;exact(h l hl).2 o xs e
theorem jQ.tups(h:jQ O G):v8 G (aU G O):=by
 refine⟨λb xs e=> ?_,λb o xs e=> ?_⟩
 .unfold aU
  rw[ME λz=>(h b z).1 xs e];exact e
 .unfold aU
  rw[ME λz=>(h b z).2 o xs e];exact e
mutual
theorem Rp.avoid{K:W.Frag}{Hj:Hp}{O:List Addr}(hO:∀l∈O,Hj l≠none):∀{v:PV}{G:Hp}{u:V},jQ O G->Rp K Hj true v G u->Rp K Hj true v (aU G O) u
 | .non,_,_,_,h=>h
 | .bl _,_,_,_,h=>h
 | .int _,_,_,_,h=>h
 | .str _,_,_,_,h=>h
 | .lst xs,G,_,t,h=>by
  show∃_,_;obtain⟨p,us,e,q,l,r⟩:=h;obtain⟨q1,q2⟩:=q rfl;have q3:aU G O p=some (.lst us):=by
   unfold aU;rw[ME fun z=>hO p z q1];exact q2
  exact⟨p,us,e,fun _=>⟨q1,q3⟩,bQ.of q3,by rw[<- io];exact aI.avoid hO t.del r⟩
 | .tup xs,_,_,t,h=>by
  show∃_,_;obtain⟨p,us,e,l,r⟩:=h;exact⟨p,us,e,t.tups.at l,aI.avoid hO t r⟩
 | .dK ks vs,G,_,t,h=>by
  show∃_,_;obtain⟨p,us,e,q,l,z,r⟩:=h;refine⟨p,us,e,q,?_,z,by rw[<- io];exact aI.avoid hO t.del r⟩;unfold aU;rw[ME fun z=>hO p z (q rfl)];exact l
 | .dT ks vs,G,_,t,h=>by
  show∃_,_;obtain⟨p,us,e,q,l,z,r⟩:=h;refine⟨p,us,e,q,?_,z,by rw[<- io];exact aI.avoid hO t.del r⟩;unfold aU;rw[ME fun z=>hO p z (q rfl)];exact l
theorem aI.avoid{K:W.Frag}{Hj:Hp}{O:List Addr}(hO:∀l∈O,Hj l≠none):∀{xs:List PV}{G:Hp}{us:List V},jQ O G->aI K Hj true xs G us->aI K Hj true xs (aU G O) us
 | [],_,_,_,h=>h
 | x::xs,_,_,t,h=>by
  show∃_,_;obtain⟨u,r,e,a,b⟩:=h;exact⟨u,r,e,Rp.avoid hO t a,aI.avoid hO t b⟩
end
theorem DK(R:ao X.K Hi O τ o H)(c:aC H a)(s:aC a b)(h:Rp X.K a true v b u):ag X.K Hi O H b (mz v) u:=by
 have j:∀p,a p=none->Hi p=none:=λp hp=>R.same.free (c.free hp);have i:∀l∈O,a l≠none:=λl hl z=>by obtain⟨d,e,_⟩:=(R.own l hl).2;rw[c _ _ e]at z;cases z
 have g:jQ O b:=λl hl=>by obtain⟨d,e,k⟩:=(R.own l hl).2;have n:=s _ _ (c _ _ e);exact k.noTup n
 have f:Rp X.K Hi true v (aU b O) u:=(Rp.avoid i g h).entry λ_=>j;cases v with
 |lst w=>obtain⟨p,d,e,q,l,r⟩:=Rp.lst.mp h;obtain⟨m,t⟩:=q rfl;exact⟨p,d,e,c.free m,t,(aI.avoid i g.del r).entry λ_=>j⟩
 |_=>exact f
theorem call_ok(C:bz h X ct)(m:wq x=false)(l:ct.S.lookup x=some .globalImplicit)(y:ct.F.lookup x=some f)
  (i:∀a∈e::c,isStar a=false) (o:qW X Hi τ (e::c) d) (n:h f (d.map RV.val)=some v):aH X Hi τ (.Call (.Name x p) (e::c) [] pos) (mz v):=by
 intro O s H Q R q;obtain⟨k,a,A,B,F,w,t,r,j⟩:=C.fns x f y;have g:Gl X x:=by show X.env.scope.names.lookup x=_;rw[C.S];exact l
 refine we (pT F w g t r j .nil A5 vA (dE m).1 (aY (i e MB)) (ig λb hb=>i b (MA _ hb))) ?_;refine o O s H _ R λus H1 s1 r1=> ?_;have u:=r1.vals R s1;rw[NH];exact⟨_,v,u.entry (λz=>by cases z),n,λu H' s' ru=>q _ _ (s1.trans s') (DK R s1 s' ru)⟩
theorem eS(C:bz a X ct)(h:own ct x=true):Gl X x/\X.mg x=none:=by
 unfold own at h;rw[MH]at h;refine⟨?_,C.bl x h.1⟩;show X.env.scope.names.lookup x=_;rw[C.S]
 simpa using h.2
theorem kO(C:bz n X ct)(l:bS X (.builtin i) h)(t:own ct x=true)(o:bootBuiltins x=some (.builtin i))(f:wq x=false)(j:isStar a=false)(m:aH X Hi τ a e)
  (k:∀(O:List Addr)(d:L2.St)(H c:Hp)(u:V)(Q:VK),ao X.K Hi O τ d H->aC H c->ag X.K Hi O H c e u->(∀w b,aC c b->ag X.K Hi O H b r w->Q w b)->h [u] c Q):aH X Hi τ (.Call (.Name x p) [a] [] pos) r:=by
 intro O d H Q R q;obtain⟨g,s⟩:=eS C t;refine we (bi l g s o (aK aa ac (aY j)) (dE f).2.2 (dE f).1 (aY j) rfl) ?_;exact m O d H _ R λu H1 s1 r1=>k O d H H1 u Q R s1 r1 λw b s3 r3=>q w b (s1.trans s3) r3
theorem wM(C:bz n X ct)(l:bS X (.type i) h)(t:own ct x=true)(o:bootBuiltins x=some (.type i))(f:wq x=false)(j:isStar a=false)(m:aH X Hi τ a e)
  (k:∀(O:List Addr)(d:L2.St)(H c:Hp)(u:V)(Q:VK),ao X.K Hi O τ d H->aC H c->ag X.K Hi O H c e u->(∀w b,aC c b->ag X.K Hi O H b r w->Q w b)->h [u] c Q):aH X Hi τ (.Call (.Name x p) [a] [] pos) r:=by
 intro O d H Q R q;obtain⟨g,s⟩:=eS C t;refine we (cu l g s o (aK aa ac (aY j)) (dE f).2.2 (dE f).1 (aY j) rfl) ?_;exact m O d H _ R λu H1 s1 r1=>k O d H H1 u Q R s1 r1 λw b s3 r3=>q w b (s1.trans s3) r3
theorem b2_go(C:bz y X ct)(h:bS X (.builtin n) m)(B:own ct x=true)(z:bootBuiltins x=some (.builtin n))(l:wq x=false)(s:isStar a=false)(d:isStar b=false)(t:aH X Hi τ a j)(i:aH X Hi τ b o)
  (k:∀(O:List Addr)(e:L2.St)(H c:Hp)(u v:V)(Q:VK),ao X.K Hi O τ e H->aC H c->ag X.K Hi O H c j u->ag X.K Hi O H c o v->(∀w f,aC c f->ag X.K Hi O H f r w->Q w f)->m [u,v] c Q):aH X Hi τ (.Call (.Name x p) [a,b] [] pos) r:=by
 intro O e H Q R q;obtain⟨g,A⟩:=eS C B;refine we (bi h g A z (aK aa (aK aa ac (aY d)) (aY s)) (dE l).2.2 (dE l).1 (aY s) (ig λc h=>by simp at h;subst h;exact d)) ?_;exact t O e H _ R λu H1 s1 r1=>i O e H1 _ (R.ext s1) λv c s2 r2=>k O e H c u v Q R (s1.trans s2) (r1.ext s2) (r2.back s1) λw f s3 r3=>q w f (s1.trans (s2.trans s3)) r3
theorem uI:∀{d:List PV}{f:List Bool}{H:Hp}{g:List V},jH d=some f->aI X.K Hi false d H g->g=f.map V.bl
 |[],f,_,_,h,r=>by cases h;exact r|x::d,f,_,_,h,r=>by
  obtain⟨u,i,rfl,a,b⟩:=r;cases x with
  |bl c=>
   have h:(jH d).map (c::·)=some f:=h;cases e:jH d with
   |none=>rw[e]at h;cases h|some j=>rw[e]at h;cases h;rw[Rp.bl.mp a,uI e b];rfl
  |_=>cases h
theorem eR:∀{d:List PV}{f:List Int}{H:Hp}{g:List V},aS d=some f->aI X.K Hi false d H g->g=f.map V.int
 |[],f,_,_,h,r=>by cases h;exact r|x::d,f,_,_,h,r=>by
  obtain⟨u,i,rfl,a,b⟩:=r;cases x with
  |int c=>
   have h:(aS d).map (c::·)=some f:=h;cases e:aS d with
   |none=>rw[e]at h;cases h|some j=>rw[e]at h;cases h;rw[Rp.int.mp a,eR e b];rfl
  |_=>cases h
theorem IM(h:bj t v=some b)(r:Rp X.K Hi false v H u):∃c,Ll X.K H u c/\W.kitOne X.K c (.type t)=some b:=by
 obtain⟨⟨P,Q,G,B,F⟩,⟨j,o,f,N⟩,⟨s,A,m,w⟩,⟨C,I,z,J⟩,⟨R,O,q,k⟩,⟨L,y,M,i⟩,⟨n,D,g,E,S⟩⟩:= @kits X.K;cases v with
 |non=>
  rw[Rp.non.mp r];refine⟨_,.of .non,?_⟩;simp only[bj]at h
  split at h
  .rename_i c
   cases h
   rcases c with rfl|rfl|rfl|rfl|rfl<;>assumption
  .cases h
 |bl x=>
  rw[Rp.bl.mp r];refine⟨_,.of (.bl x),?_⟩;simp only[bj]at h
  split at h
  .rename_i c
   cases h
   rcases c with rfl|rfl
   .assumption
   .exact fW _
  .split at h
   .rename_i c
    cases h
    rcases c with rfl|rfl|rfl<;>assumption
   .cases h
 |int x=>
  rw[Rp.int.mp r];refine⟨_,.of (.int x),?_⟩;simp only[bj]at h
  split at h
  .rename_i c
   cases h;subst c;exact fW _
  .split at h
   .rename_i c
    cases h
    rcases c with rfl|rfl|rfl|rfl<;>assumption
   .cases h
 |str x=>
  rw[Rp.str.mp r];refine⟨_,.of (.str x),?_⟩;simp only[bj]at h
  split at h
  .rename_i c
   cases h;subst c;exact fW _
  .split at h
   .rename_i c
    cases h
    rcases c with rfl|rfl|rfl|rfl<;>assumption
   .cases h
 |lst x=>
  obtain⟨p,a,rfl,_,l,_⟩:=Rp.lst.mp r;refine⟨_,.lst l,?_⟩;simp only[bj]at h
  split at h
  .rename_i c
   cases h;subst c;exact fW _
  .split at h
   .rename_i c
    cases h
    rcases c with rfl|rfl|rfl|rfl<;>assumption
   .cases h
 |tup x=>
  obtain⟨p,a,rfl,l,_⟩:=Rp.tup.mp r;refine⟨_,.tup l,?_⟩;simp only[bj]at h
  split at h
  .rename_i c
   cases h;subst c;exact fW _
  .split at h
   .rename_i c
    cases h
    rcases c with rfl|rfl|rfl|rfl<;>assumption
   .cases h
 |dK e d=>
  obtain⟨p,a,rfl,_,l,_⟩:=r;refine⟨_,.of (.dK l),?_⟩;simp only[bj]at h
  split at h
  .rename_i c
   cases h
   rcases c with rfl|rfl|rfl|rfl|rfl<;>assumption
  .cases h
 |dT e d=>cases h
theorem FJ(h:zy t=some a):bootBuiltins t=some (.type a)/\wq t=false:=by
 unfold zy at h
 split at h
 .rename_i c;cases h;rw[Mf c];exact⟨PyProof.Rows.boot_int,by decide⟩
 split at h
 .rename_i c;cases h;rw[Mf c];exact⟨PyProof.Rows.boot_bool,by decide⟩
 split at h
 .rename_i c;cases h;rw[Mf c];exact⟨PyProof.Rows.boot_str,by decide⟩
 split at h
 .rename_i c;cases h;rw[Mf c];exact⟨PyProof.Rows.boot_list,by decide⟩
 split at h
 .rename_i c;cases h;rw[Mf c];exact⟨PyProof.Rows.boot_tuple,by decide⟩
 cases h
theorem isin_ok(C:bz r X ct)(z:own ct ("isinstance":Str)=true)(v:zy t=some i)(j:own ct t=true)(l:isStar a=false)(n:aH X Hi τ a m)(h:bj i m.val=some b):
  aH X Hi τ (.Call (.Name "isinstance" p) [a,.Name t y] [] pos) (sc (.bl b)):=by
 intro O s H Q R q;obtain⟨g,w⟩:=eS C z;obtain⟨o,f⟩:=eS C j;obtain⟨x,d⟩:=FJ v;refine we (bi vo g w boot_isinstance (aK aa (aK (KS o f x (dE d).2.2 (dE d).1) ac) (aY l)) (by decide) (by decide) (aY l) rfl) ?_;refine n O s H _ R λu H1 s1 r1=> ?_;obtain⟨c,e,k⟩:=IM h (r1.val R s1);exact⟨u,i,c,b,rfl,e,k,q _ _ s1 Fu⟩
end
end IR
namespace L2
open PySem PySem.Spec PyProof.Rows
end L2
namespace IR
open PySem L2
section
variable{X:Cx}{Hi:Hp}{τ:En}
theorem pQ(h:iX x=some q):x=aJ q:=by
 cases x with
 |tup xs=>
  have h:((aS xs).bind λns=>match ns with
   |[a,b]=>some (a,b)|_=>none)=some q:=h
  cases e:aS xs with
  |none=>rw[e]at h;cases h|some ns=>
   rw[e]at h
   match ns,h with
   |[a,b],h=>
    cases h;have:xs=[PV.int a,PV.int b]:=by
     have key:∀(xs:List PV)(ns:List Int),aS xs=some ns->xs=ns.map PV.int:=by
      intro xs
      induction xs with
      |nil=>intro ns z;cases z;rfl|cons y r ih=>
       intro ns z;cases y with
       |int i=>
        have z:(aS r).map (i::·)=some ns:=z;cases e2:aS r with
        |none=>rw[e2]at z;cases z|some m=>rw[e2]at z;cases z;rw[ih m e2];rfl
       |_=>cases z
     exact key xs _ e
    subst this;rfl
 |_=>cases h
theorem sE:∀{c:List PV}{a:List (Int×Int)},iW c=some a->c=a.map aJ
 |[],_,h=>by cases h;rfl|x::r,a,h=>by
  have h:((iX x).bind λq=>(iW r).map (q::·))=some a:=h;cases e:iX x with
  |none=>rw[e]at h;cases h|some q=>
   rw[e]at h;have h:(iW r).map (q::·)=some a:=h;cases b:iW r with
   |none=>rw[b]at h;cases h|some m=>rw[b]at h;cases h;rw[pQ e,sE b];rfl
theorem aI.prs{n:Bool}{H:Hp}:∀{b:List (Int×Int)}{a:List V},aI X.K Hi n (b.map aJ) H a->Je X.K H a b
 |[],a,h=>by
  have h:a=[]:=by exact h
  subst h;exact .nil
 |q::b,a,h=>by
  rw[MM]at h;obtain⟨u,r,rfl,d,f⟩:=h;obtain⟨p,c,rfl,l,g⟩:=Rp.tup.mp d;have e:c=[V.int q.1,V.int q.2]:=by have:=(aI.ints (K:=X.K) (Hi:=Hi) (n:=n) (H:=H) (xs:=[q.1,q.2]) (us:=c)).mp g;exact this
  subst e;exact .cons l (aI.prs f)
theorem aI.pick{n:Bool}{H:Hp}{c:List PV}{a:List V}(r:aI X.K Hi n c H a):∀{b:List Nat},(∀j∈b,j<a.length)->aI X.K Hi n (b.map λi=>c.getD i .non) H (b.map λi=>a.getD i .non)
 |[],_=>.nil|j::b,h=>by have d:=h j MB;obtain⟨x,f,e⟩:=r.at' (i:=j) (u:=a[j]) (MN d);refine .cons ?_ (aI.pick r λi hi=>h i (MA _ hi));dsimp only;rw[ML,f,ML,MN d];exact e
theorem gX(a:List (Int×Int)):(eK a).Perm a:=List.mergeSort_perm _ _
theorem rQ(d:List (Int×Int)):(eK d).Pairwise λa b=>SW.eA a<=SW.eA b:=by have:=List.pairwise_mergeSort (le:=λa b:Int×Int=>decide (SW.eA a<=SW.eA b)) (λa b c h1 h2=>by simp only[Mm]at *;omega) (λa b=>by simp only[No,Mm];omega) d;exact this.imp λh=>by simpa using h
theorem Be(d:0<=a.2/\a.2<1000)(c:0<=b.2/\b.2<1000)(h:SW.eA a=SW.eA b):a=b:=by unfold SW.eA at h;exact Pg (by omega) (by omega)
theorem pD(e:∀q∈c,0<=q.2/\q.2<1000)(p:d.Perm c)(s:d.Pairwise λa b=>SW.eA a<=SW.eA b):d=eK c:= Pu (le:=λa b=>SW.eA a<=SW.eA b) (λa b ha hb' h1 h2=>Be (e _ (p.mem_iff.mp ha)) (e _ ((gX c).mem_iff.mp hb')) (by omega)) s (rQ c) (p.trans (gX c).symm)
theorem ur{b:Type}(d:b)(a:List b):(List.range a.length).map (λi=>a.getD i d)=a:=by
 apply List.ext_getElem (by simp)
 intro i e c;simp[c]
theorem av:∀a:List (Int×Int),imms (a.map aJ)=true
 |[]=>rfl|q::a=>by show(imm (aJ q)&&imms (a.map aJ))=true;rw[av a];rfl
theorem AR(C:bz w X ct)(A:own ct ("sorted":Str)=true)(E:isStar a=false)(v:aH X Hi τ a m)(e:m.val=.lst g)(h:rP g=some r):
  aH X Hi τ (.Call (.Name "sorted" p) [a] [] pos) r:=by
 unfold rP at h;cases f:iW g with
 |none=>rw[f]at h;cases h|some b=>
  rw[f]at h;have h:(if b.length<64/\b.all (λq=>decide (0<=q.2)&&decide (q.2<1000))=true then some (RV.own ((eK b).map aJ) true)else none)=some r:=h
  split at h
  .rename_i c
   cases h;refine kO C jF A PyProof.Rows.boot_sorted (by decide) E v λO σ H H2 u Q R s r q=> ?_;obtain⟨p,k,rfl,l,r⟩:=r.lst R s e;have x:=sE f;subst x;have t:=r.prs;have D:=t.len;have o:∀q∈b,0<=q.2/\q.2<1000:=λq hq=>by
    have:=MS.mp c.2 q hq
    simpa using this
   refine⟨p,k,b,rfl,l,t,by omega,o,λd js hd pm pw=>q _ _ (aG hd _) (ef s hd ?_)⟩;have d:∀j∈js,j<k.length:=λj d=>Mn.mp (pm.mem_iff.mp d);have B:js.map (λi=>b.getD i (0,0))=eK b:=by
    refine pD o ?_ ?_
    .have:=pm.map λi=>b.getD i (0,0)
     rw[D,ur]at this;exact this
    .rw[OR]at pw ⊢
     exact pw
   have y:js.map (λi=>(b.map aJ).getD i .non)=(eK b).map aJ:=by
    rw[<- B,Mg];refine M7 λi hi=> ?_;have:=d i hi;have z:i<b.length:=by omega
    simp[z]
   have n:=r.pick d;rw[y]at n;exact n.imm (av _) (R.ext s).tups
  .cases h
end
end IR
namespace IR
open PySem PySem.Spec PyProof.Rows L2
section
variable{X:Cx}{Hi:Hp}{τ:En}
theorem BU(C:bz m X ct)(f:own ct ("len":Str)=true)(g:isStar a=false)(d:aH X Hi τ a i)(h:fV i.val=some n):
  aH X Hi τ (.Call (.Name "len" p) [a] [] pos) (sc (.int n)):=by
 cases e:i.val with
 |str z=>
  rw[e]at h;have h:(if z.length<=LN then some z.length else none)=some n:=h
  split at h
  .rename_i c
   cases h;exact kO C jG f OE (by decide) g d λO σ H H2 u Q R s r q=>⟨z,by rw[r.str R s e],by rw[fN];exact c,q _ _ (aC.refl _) AX⟩
  .cases h
 |lst t=>rw[e]at h;cases h;refine kO C cH f OE (by decide) g d λO σ H H2 u Q R s r q=> ?_;obtain⟨p,b,rfl,l,r⟩:=r.lst R s e;exact⟨p,b,rfl,.inl l,by rw[<- r.len];exact q _ _ (aC.refl _) AX⟩
 |tup t=>rw[e]at h;cases h;refine kO C cH f OE (by decide) g d λO σ H H2 u Q R s r q=> ?_;obtain⟨p,b,rfl,l,r⟩:=r.tup R s e;exact⟨p,b,rfl,.inr l,by rw[<- r.len];exact q _ _ (aC.refl _) AX⟩
 |dK j v=>
  rw[e]at h;cases h;refine kO C vm f OE (by decide) g d λO σ H H2 u Q R s r q=> ?_;have z:=r.val R s;rw[e]at z;obtain⟨p,b,rfl,_,k,o,_⟩:=z;refine⟨p,_,rfl,.inl k,?_⟩;have:(j.zip b).length=j.length:=by rw[List.length_zip,<-o,Pd]
  rw[this];exact q _ _ (aC.refl _) AX
 |_=>rw[e]at h;cases h
theorem jx(h:uO x k=some f):(x="len"/\k=1/\f=.len)\/(x="int"/\k=1/\f=.int)\/(x="list"/\k=1/\f=.list)\/(x="tuple"/\k=1/\f=.tuple)\/(x="all"/\k=1/\f=.all)\/(x="min"/\k=2/\f=.min)\/(x="max"/\k=2/\f=.max)\/(x="abs"/\k=1/\f=.abs)\/(x="any"/\k=1/\f=.any)\/(x="sum"/\k=1/\f=.sum)\/(x="sorted"/\k=1/\f=.sorted):=by
 unfold uO at h
 split at h
 .rename_i c;rw[MH]at c;cases h;exact .inl ⟨Mf c.1,Mf c.2,rfl⟩
 split at h
 .rename_i c;rw[MH]at c;cases h;exact .inr (.inl ⟨Mf c.1,Mf c.2,rfl⟩)
 split at h
 .rename_i c;rw[MH]at c;cases h;exact .inr (.inr (.inl ⟨Mf c.1,Mf c.2,rfl⟩))
 split at h
 .rename_i c;rw[MH]at c;cases h;exact .inr (.inr (.inr (.inl ⟨Mf c.1,Mf c.2,rfl⟩)))
 split at h
 .rename_i c;rw[MH]at c;cases h;exact .inr (.inr (.inr (.inr (.inl ⟨Mf c.1,Mf c.2,rfl⟩))))
 split at h
 .rename_i c;rw[MH]at c;cases h;exact .inr (.inr (.inr (.inr (.inr (.inl ⟨Mf c.1,Mf c.2,rfl⟩)))))
 split at h
 .rename_i c;rw[MH]at c;cases h;exact .inr (.inr (.inr (.inr (.inr (.inr (.inl ⟨Mf c.1,Mf c.2,rfl⟩))))))
 split at h
 .rename_i c;rw[MH]at c;cases h;exact .inr (.inr (.inr (.inr (.inr (.inr (.inr (.inl ⟨Mf c.1,Mf c.2,rfl⟩)))))))
 split at h
 .rename_i c;rw[MH]at c;cases h;exact .inr (.inr (.inr (.inr (.inr (.inr (.inr (.inr (.inl ⟨Mf c.1,Mf c.2,rfl⟩))))))))
 split at h
 .rename_i c;rw[MH]at c;cases h;exact .inr (.inr (.inr (.inr (.inr (.inr (.inr (.inr (.inr (.inl ⟨Mf c.1,Mf c.2,rfl⟩)))))))))
 split at h
 .rename_i c;rw[MH]at c;cases h;exact .inr (.inr (.inr (.inr (.inr (.inr (.inr (.inr (.inr (.inr (⟨Mf c.1,Mf c.2,rfl⟩))))))))))
 cases h
theorem bf1_ok(C:bz y X ct)(k:own ct x=true)(v:mj x 1=some f)(m:isStar a=false)(g:aH X Hi τ a d)(h:my f [d]=some r):
  aH X Hi τ (.Call (.Name x p) [a] [] pos) r:=by
 have v:uO x 1=some f:=v
 rcases jx v with⟨rfl,_,rfl⟩|⟨rfl,_,rfl⟩|⟨rfl,_,rfl⟩|⟨rfl,_,rfl⟩|⟨rfl,_,rfl⟩|⟨_,z,_⟩|⟨_,z,_⟩|⟨rfl,_,rfl⟩|⟨rfl,_,rfl⟩|⟨rfl,_,rfl⟩|⟨rfl,_,rfl⟩
 .have h:(fV d.val).map (λn=>sc (.int (n:Nat)))=some r:=h
  cases e:fV d.val with
  |none=>rw[e]at h;cases h|some n=>rw[e]at h;cases h;exact BU C k m g e
 .unfold my at h
  cases e:d.val with
  |int i=>simp only[e]at h;cases h;exact wM C og k PyProof.Rows.boot_int (by decide) m g λO σ H H2 u Q R s r q=>.inl ⟨i,by rw[r.int R s e],q _ _ (aC.refl _) AX⟩
  |bl i=>simp only[e]at h;cases h;exact wM C og k PyProof.Rows.boot_int (by decide) m g λO σ H H2 u Q R s r q=>.inr ⟨i,by rw[r.bl R s e],q _ _ (aC.refl _) AX⟩
  |_=>simp only[e]at h;cases h
 .have h:(match d.its with|some (b,n)=>some (RV.own b n)|none=>none)=some r:=h
  cases e:d.its with
  |none=>rw[e]at h;cases h|some w=>obtain⟨b,n⟩:=w;rw[e]at h;cases h;refine wM C qR k PyProof.Rows.boot_list (by decide) m g λO σ H H2 u Q R s r q=> ?_;obtain⟨p,o,rfl,l,r⟩:=r.its R s e;exact⟨p,o,rfl,l.imp (·.1) (·.1),λl2 hl=>q _ _ (aG hl _) (ef s hl r)⟩
 .have h:(match d.its with|some (b,n)=>some (RV.frz (.tup b) n)|none=>none)=some r:=h
  cases e:d.its with
  |none=>rw[e]at h;cases h|some w=>
   obtain⟨b,n⟩:=w;rw[e]at h;cases h;refine wM C gQ k PyProof.Rows.boot_tuple (by decide) m g λO σ H H2 u Q R s r q=> ?_;obtain⟨p,o,rfl,l,r⟩:=r.its R s e;refine⟨p,o,rfl,l.imp (λl=>⟨l.1,λl2 hl=> ?_⟩) (λl=>⟨l.1,?_⟩)⟩
   .exact q _ _ (aG hl _) (Rp.tup.mpr ⟨l2,o,rfl,bg.of (qG R s hl),r.mono (aP (aG hl _))⟩)
   .exact q _ _ (aC.refl _) (Rp.tup.mpr ⟨p,o,rfl,xN R s l.1,r⟩)
 .unfold my at h
  cases e:d.val with
  |lst b=>
   simp only[e]at h;cases j:jH b with
   |none=>rw[j]at h;cases h|some t=>rw[j]at h;cases h;refine kO C (uH C.calm) k boot_all (by decide) m g λO σ H H2 u Q R s r q=> ?_;obtain⟨p,o,rfl,l,r⟩:=r.lst R s e;have:=uI j r;subst this;exact⟨p,t,rfl,l,q _ _ (aC.refl _) Fu⟩
  |_=>simp only[e]at h;cases h
 .cases z
 .cases z
 .exact absurd (show(none:Option RV)=some r from h) (by simp)
 .exact absurd (show(none:Option RV)=some r from h) (by simp)
 .have h:(match d.val with
   | .lst b=>(aS b).map λns=>sc (.int ns.sum)|_=>none)=some r:=h
  cases e:d.val with
  |lst b=>
   simp only[e]at h;cases j:aS b with
   |none=>rw[j]at h;cases h|some t=>rw[j]at h;cases h;refine kO C (nR C.calm) k boot_sum (by decide) m g λO σ H H2 u Q R s r q=> ?_;obtain⟨p,o,rfl,l,r⟩:=r.lst R s e;have:=eR j r;subst this;exact⟨p,t,rfl,l,q _ _ (aC.refl _) AX⟩
  |_=>simp only[e]at h;cases h
 .have h:(match d.val with
   | .lst b=>nh b|_=>none)=some r:=h
  cases e:d.val with
  |lst b=>
   simp only[e]at h;unfold nh at h;cases j:aS b with
   |none=>rw[j]at h;exact AR C k m g e h
   |some t=>
    rw[j]at h;have h:(if t.length<64 then some (RV.own ((L2.sortI t).map PV.int) true)else none)=some r:=h
    split at h
    .rename_i c
     cases h;refine kO C jr k boot_sorted (by decide) m g λO σ H H2 u Q R s r q=> ?_;obtain⟨p,o,rfl,l,r⟩:=r.lst R s e;have:=eR j r;subst this;exact⟨p,t,rfl,l,c,λa g=>q _ _ (aG g _) (ef s g (aI.ints.mpr rfl))⟩
    .cases h
  |_=>simp only[e]at h;cases h
theorem JQ(C:bz w X ct)(o:own ct x=true)(m:mj x 2=some f)(t:isStar a=false)(e:isStar b=false)(n:aH X Hi τ a k)(g:aH X Hi τ b l)(h:my f [k,l]=some r):
  aH X Hi τ (.Call (.Name x p) [a,b] [] pos) r:=by
 refine NY λno=> ?_;have m:uO x 2=some f:=m
 rcases jx m with⟨_,z,_⟩|⟨_,z,_⟩|⟨_,z,_⟩|⟨_,z,_⟩|⟨_,z,_⟩|⟨rfl,_,rfl⟩|⟨rfl,_,rfl⟩|⟨_,z,_⟩|⟨_,z,_⟩|⟨_,z,_⟩|⟨_,z,_⟩
 .cases z
 .cases z
 .cases z
 .cases z
 .cases z
 .unfold my at h
  cases c:k.val with
  |int i=>
   cases d:l.val with
   |int j=>simp only[c,d]at h;cases h;exact no<|b2_go C (zL C.calm) o boot_min (by decide) t e n g λO σ H H2 u v Q R s r r2 q=>⟨i,j,by rw[r.int R s c,r2.int R s d],q _ _ (aC.refl _) AX⟩
   |_=>simp only[c,d]at h;cases h
  |_=>simp only[c]at h;cases h
 .unfold my at h
  cases c:k.val with
  |int i=>
   cases d:l.val with
   |int j=>simp only[c,d]at h;cases h;exact no<|b2_go C (zM C.calm) o boot_max (by decide) t e n g λO σ H H2 u v Q R s r r2 q=>⟨i,j,by rw[r.int R s c,r2.int R s d],q _ _ (aC.refl _) AX⟩
   |_=>simp only[c,d]at h;cases h
  |_=>simp only[c]at h;cases h
 .cases z
 .cases z
 .cases z
 .cases z
theorem Dq(h:xI b=false):xm b:=by intro o i;cases b<;>first|rfl|cases h
theorem mn(r:aI X.K Hi n a H b)(h:ci a k=some e):∃u,ci b k=some u/\Rp X.K Hi n e H u:=by
 unfold ci at h ⊢;rw[<- r.len];cases c:uU a.length k with
 |none=>rw[c]at h;cases h|some j=>rw[c]at h;exact r.at (i:=j) h
theorem Bq(F:X.A.units+64<cLine)(I:xI i=false)(E:aH X Hi τ a x)(J:aH X Hi τ i y)(h:kI x y=some r):aH X Hi τ (.Subscript a i pos) r:=by
 have t:∀{B:R2}(D:Lw X B),(∀(O:List Addr)(g:L2.St)(H d:Hp)(u v:V)(Q:VK),ao X.K Hi O τ g H->aC H d->ag X.K Hi O H d x u->ag X.K Hi O H d y v->(∀w,ag X.K Hi O H d r w->Q w d)->B u v d Q)->aH X Hi τ (.Subscript a i pos) r:=by intro B D k O g H Q R q;refine we (n8 D aa aa (Dq I)) ?_;refine E O g H _ R λu H1 s1 r1=>J O g H1 _ (R.ext s1) λv d s2 r2=> ?_;exact k O g H d u v Q R (s1.trans s2) (r1.ext s2) (r2.back s1) λw r3=>q w d (s1.trans s2) r3
 unfold kI at h
 split at h
 case h_1 k o=>
  unfold ixK at h
  split at h
  case h_1 f n=>
   cases c:ci f k with
   |none=>rw[c]at h;cases h|some e=>rw[c]at h;cases h;refine t fA λO g H d u v Q R s r1 r2 q=> ?_;obtain⟨p,j,rfl,_,l,r⟩:=Rp.lst.mp (show Rp X.K Hi n (.lst f) (aU d O) u from r1);obtain⟨w,m,b⟩:=mn r c;exact⟨p,j,k,w,rfl,r2.int R s o,(aQ (O:=O)).seq l,m,q w (b.mono be).up⟩
  case h_2 f n=>
   cases c:ci f k with
   |none=>rw[c]at h;cases h|some e=>rw[c]at h;cases h;refine t Bj λO g H d u v Q R s r1 r2 q=> ?_;obtain⟨p,j,rfl,l,r⟩:=Rp.tup.mp (show Rp X.K Hi n (.tup f) (aU d O) u from r1);obtain⟨w,m,b⟩:=mn r c;exact⟨p,j,k,w,rfl,r2.int R s o,(aQ (O:=O)).tup l,m,q w b.up⟩
  case h_3 f n=>
   cases c:ci f k with
   |none=>rw[c]at h;cases h|some e=>rw[c]at h;cases h;refine t fA λO g H d u v Q R s r1 r2 q=> ?_;obtain⟨p,j,rfl,M,G,r⟩:=r1;obtain⟨w,m,b⟩:=mn r c;exact⟨p,j,k,w,rfl,r2.int R s o,bQ.of G,m,q w (b.mono (aP be)).up⟩
  case h_4 f=>
   cases c:ci f k with
   |none=>rw[c]at h;cases h|some e=>
    rw[c]at h;cases h;refine t fA λO g H d u v Q R s r1 r2 q=> ?_;obtain⟨p,j,rfl,_,l,r⟩:=Rp.lst.mp (show Rp X.K Hi false (.lst f) d u from r1);obtain⟨w,m,b⟩:=mn r c;refine⟨p,j,k,w,rfl,r2.int R s o,l,m,q w ?_⟩;unfold xD
    split
    .rename_i C
     exact Rp.imm C (R.ext s).tups (b.mono be)
    .exact b.mono be
  case h_5 f=>
   cases c:ci f k with
   |none=>rw[c]at h;cases h|some e=>
    rw[c]at h;cases h;refine t Bj λO g H d u v Q R s r1 r2 q=> ?_;obtain⟨p,j,rfl,l,r⟩:=Rp.tup.mp (show Rp X.K Hi false (.tup f) d u from r1);obtain⟨w,m,b⟩:=mn r c;refine⟨p,j,k,w,rfl,r2.int R s o,l,m,q w ?_⟩;unfold xD
    split
    .rename_i C
     exact Rp.imm C (R.ext s).tups b
    .exact b
  case h_6 z n=>
   split at h
   .rename_i L
    cases c:ci z.cps.toList k with
    |none=>rw[c]at h;cases h|some e=>rw[c]at h;cases h;exact t Bk λO g H d u v Q R s r1 r2 q=>⟨z,k,e,r1.str R s rfl,r2.int R s o,by rw[fN];exact L,c,q _ scS⟩
   .cases h
  case h_7=>cases h
 case h_2=>cases h
variable(X Hi τ)in
def zW(e:Option Expr)(o:Option Int):Prop:=match e,o with
 |none,none=>True|some e,some i=>∃r,aH X Hi τ e r/\r.val=.int i|_,_=>False
theorem lI{lo:Option Expr}(hr:Ln X rr)(ha:aH X Hi τ a x)(hl:zW X Hi τ lo l)(hh:zW X Hi τ hi h)
  (k:∀(O:List Addr)(σ:L2.St)(H H2:Hp)(u:V)(Q:VK),ao X.K Hi O τ σ H->aC H H2->ag X.K Hi O H H2 x u->(∀w H3,aC H2 H3->ag X.K Hi O H H3 r w->Q w H3)->rr u l h H2 Q):aH X Hi τ (.Subscript a (.Slice lo hi none p2) pos) r:=by
 have part:∀{e:Option Expr}{o:Option Int},zW X Hi τ e o->∃t,PO X e t/\∀(O:List Addr)(σ:L2.St)(H:Hp)(Q:Option Int->Hp->Prop),ao X.K Hi O τ σ H->(∀H',aC H H' ->Q o H')->t σ H Q:=by
  intro e o he;cases e with
  |none=>
   cases o with
   |none=>exact⟨_,Dp,λO σ H Q R q=>q H (aC.refl _)⟩|some i=>cases he
  |some e=>
   cases o with
   |none=>cases he|some i=>obtain⟨r,h1,h2⟩:=he;exact⟨_,Do aa,λO σ H Q R q=>h1 O σ H _ R λu H1 s1 r1=>⟨i,r1.int R s1 h2,q _ s1⟩⟩
 obtain⟨tl,pl,ql⟩:=part hl;obtain⟨th,ph,qh⟩:=part hh;intro O σ H Q R q;refine we (A1 hr aa pl ph) ?_;refine ha O σ H _ R λu H1 s1 r1=>ql O σ H1 _ (R.ext s1) λH2 s2=>qh O σ H2 _ (R.ext (s1.trans s2)) λH3 s3=> ?_;exact k O σ H H3 u Q R (s1.trans (s2.trans s3)) (r1.ext (s2.trans s3)) λw H4 s4 r4=>q w H4 (s1.trans (s2.trans (s3.trans s4))) r4
theorem aI.cut(r:aI X.K Hi n d H a)(b c:Option Int):aI X.K Hi n (IR.cut d b c) H (uA a b c):=by unfold IR.cut uA;rw[<- r.len];exact(r.drop _).take _
theorem ag.whole(R:ao X.K Hi O τ g H)(s:aC H c)(h:ag X.K Hi O H c x u)(e:x.its=some (f,n))(d:x.val=.tup a):ag X.K Hi O H c (.frz (.tup f) n) u:=by
 cases x with
 |frz w m=>obtain rfl:w=.tup a:=d;cases e;exact h
 |bor w=>
  obtain rfl:w=.tup a:=d;have e:(if imms a then some (a,true)else none)=some (f,n):=e
  split at e
  .rename_i i
   cases e;exact Rp.imm (by rw[imm];exact i) (R.ext s).tups (show Rp X.K Hi false (.tup _) c u from h)
  .cases e
 |own a m=>cases d|owd b a m=>cases b<;>cases d
theorem AU(i:aH X Hi τ a x)(k:zW X Hi τ o l)(j:zW X Hi τ t h)(e:slice x l h=some r):aH X Hi τ (.Subscript a (.Slice o t none v) pos) r:=by
 unfold slice at e
 split at e
 case h_1 f=>
  cases b:x.its with
  |none=>rw[b]at e;cases e|some w=>obtain⟨y,n⟩:=w;rw[b]at e;cases e;refine lI DU i k j λO σ H H2 u Q R s r1 q=> ?_;obtain⟨p,d,rfl,g,c⟩:=r1.itsL R s b f;exact⟨p,d,rfl,g,λp3 hp=>q _ _ (aG hp _) (ef s hp (c.up.cut _ _))⟩
 case h_2 f=>
  cases b:x.its with
  |none=>rw[b]at e;cases e|some w=>
   obtain⟨y,n⟩:=w;rw[b]at e;dsimp only at e
   split at e
   .rename_i m
    cases e;refine lI DT i k j λO σ H H2 u Q R s r1 q=> ?_;obtain⟨p,d,rfl,g,c⟩:=r1.itsT R s b f;exact⟨p,d,rfl,g,by rw[<- c.len];exact m,q _ _ (aC.refl _) (r1.whole R s b f)⟩
   .rename_i m
    cases e;refine lI Gf i k j λO σ H H2 u Q R s r1 q=> ?_;obtain⟨p,d,rfl,g,c⟩:=r1.itsT R s b f;refine⟨p,d,rfl,g,by rw[<- c.len];exact m,λp3 hp=>q _ _ (aG hp _) ?_⟩;exact Rp.tup.mpr ⟨p3,_,rfl,bg.of (qG R s hp),(c.cut _ _).mono (aP (aG hp _))⟩
 case h_3=>cases e
end
end IR
namespace IR
open PySem L2
section
variable{X:Cx}{Hi:Hp}{τ:En}
theorem BO{c d:Type}{o:Option c}{f:c->d}{b:d}(h:o.map f=some b):∃a,o=some a/\f a=b:=by
 cases o with
 |none=>cases h|some a=>cases h;exact⟨a,rfl,rfl⟩
theorem ni(h:fM v=some ns):∃xs,v=.lst xs/\aS xs=some ns/\∀n∈ns,0<=n/\n<8:=by
 cases v with
 |lst xs=>
  have h:((aS xs).bind λns=>if ns.all (λn=>decide (0<=n)&&decide (n<8))=true then some ns else none)=some ns:=h;cases e:aS xs with
  |none=>rw[e]at h;cases h|some ms=>
   rw[e]at h;have h:(if ms.all (λn=>decide (0<=n)&&decide (n<8))=true then some ms else none)=some ns:=h
   split at h
   .rename_i c
    cases h;exact⟨xs,rfl,e,λn hn=>by simpa using MS.mp c n hn⟩
   .cases h
 |_=>cases h
theorem nst_ok{cd:Nat->List PV->Option PV}(C:bz cd X ct)(ho:own ct x=true)(ho2:own ct y=true)(hf:wv x y=some f)(hs:isStar a=false)(ha:aH X Hi τ a ra)(h:my f [ra]=some r):
  aH X Hi τ (.Call (.Name x p) [.Call (.Name y p2) [a] [] pos2] [] pos) r:=by
 unfold wv at hf
 split at hf
 .rename_i c
  rw[MH]at c;have hx:=Mf c.1;have hy:=Mf c.2;subst hx hy;cases hf;have h:(fM ra.val).map (λns=>RV.own ((cF ns).map PV.int) true)=some r:=h;obtain⟨ns,hn,rfl⟩:=BO h;obtain⟨xs,e,eb,h8⟩:=ni hn;intro O σ H Q R q;obtain⟨g,hm⟩:=eS C ho;obtain⟨g2,hm2⟩:=eS C ho2;refine we (bi (jq C.calm) g hm PyProof.Rows.boot_sorted (aK (cu (oa C.calm) g2 hm2 PyProof.Rows.boot_set (aK aa ac (aY hs)) (by decide) (by decide) (aY hs) rfl) ac) (by decide) (by decide) rfl rfl) ?_;refine ha O σ H _ R λu H1 s1 r1=> ?_;obtain⟨l,us,rfl,hl,rr⟩:=r1.lst R s1 e;have eu:=eR eb rr;subst eu;refine⟨l,ns,rfl,hl,h8,λb hb=>⟨b,maskOf ns,rfl,xA h8,aB,λd hd=> ?_⟩⟩;have s2:=s1.trans (aG hb (.ext (SQ.SX X.w b (maskOf ns))));refine q _ _ (s2.trans (aG hd _)) (ef s2 hd (aI.ints.mpr ?_));unfold cF;rw[Mg];rfl
 split at hf
 .rename_i c
  rw[MH]at c;have hx:=Mf c.1;have hy:=Mf c.2;subst hx hy;cases hf;have h:(fM ra.val).map (λns=>sc (.int ((cF ns).length:Nat)))=some r:=h;obtain⟨ns,hn,rfl⟩:=BO h;obtain⟨xs,e,eb,h8⟩:=ni hn;intro O σ H Q R q;obtain⟨g,hm⟩:=eS C ho;obtain⟨g2,hm2⟩:=eS C ho2;refine we (bi nS g hm OE (aK (cu (oa C.calm) g2 hm2 PyProof.Rows.boot_set (aK aa ac (aY hs)) (by decide) (by decide) (aY hs) rfl) ac) (by decide) (by decide) rfl rfl) ?_;refine ha O σ H _ R λu H1 s1 r1=> ?_;obtain⟨l,us,rfl,hl,rr⟩:=r1.lst R s1 e;have eu:=eR eb rr;subst eu;refine⟨l,ns,rfl,hl,h8,λb hb=>⟨b,maskOf ns,rfl,xA h8,aB,?_⟩⟩;have e3:(cF ns).length=(SQ.lst (maskOf ns)).length:=by unfold cF;rw[L9]
  rw[<- e3];exact q _ _ (s1.trans (aG hb _)) AX
 .cases hf
end
end IR
namespace IR
open PySem PySem.Spec PyProof.Rows L2
section
variable{X:Cx}{Hi:Hp}{τ:En}
def WI(X:Cx)(c a:Expr)(d:L2.St)(H:Hp)(R:It->Hp->Prop):Prop:=∃b,PI X c a b/\b d H R
theorem HD:PI X b a (λσ H R=>WI X b a σ H R):=λpins s σ H R I ⟨wi,h,q⟩=>h pins s σ H R I q
def wB(O:List Addr)(H:Hp):Prop:=∀l∈O,∃o,H l=some o/\Mo o
theorem ao.lsts{K:W.Frag}(R:ao K Hi O τ a H):wB O H:=λl hl=>(R.own l hl).2
def GA(B:Hp)(H:Hp)(O:List Addr):Prop:=wB O H/\aC B (aU H O)
def OkB(B:Hp)(H:Hp)(O:List Addr):Prop:=wB O H/\aC B H
theorem wB.tups(h:wB O H):v8 H (aU H O):=by refine jQ.tups λl hl=> ?_;obtain⟨b,e,a⟩:=h l hl;exact a.noTup e
variable(X Hi)in
structure kP(J:It)(Ok:Hp->List Addr->Prop)(xs:List PV)(n:Bool):Prop where
 go:∀(H:Hp)(O:List Addr)(i:Nat),Ok H O->i<xs.length->J.go i H
 stop:∀(H:Hp)(O:List Addr),Ok H O->J.stop xs.length H
 yld:∀(H:Hp)(O:List Addr)(i:Nat)(u:V)(H' :Hp),Ok H O->i<xs.length->J.yld i H u H' ->aC H H' /\∃x,xs[i]? =some x/\Rp X.K Hi n x (aU H' O) u
variable(X Hi τ)in
def kc(e a:Expr)(f:List PV)(n b:Bool):Prop:=∀(O:List Addr)(d:L2.St)(H:Hp)(R:It->Hp->Prop),ao X.K Hi O τ d H -> (∀J c,aC H c->kP X Hi J (if b=true then OkB c else GA (aU c O)) f n->R J c)->WI X e a d H R
theorem F6{B:Hp}{p:Addr}{a:List V}{b:List PV}{n:Bool}(l:bQ X.K B p a)(r:aI X.K Hi n b B a):kP X Hi (Jj X.K p) (GA B) b n where
 go:=λH O i ok hi=>⟨a,a[i]'(by rw[<- r.len];exact hi),(ok.2.trans aQ).seq l,by simp⟩
 stop:=λH O ok=>⟨a,(ok.2.trans aQ).seq l,by rw[r.len];exact MJ _⟩
 yld:=λH O i u H' ok hi y=>by obtain⟨e,y⟩:=y;subst e;obtain⟨x,c,d⟩:=r.at' (y a ((ok.2.trans aQ).seq l));exact⟨aC.refl _,x,c,d.mono ok.2⟩
theorem K5{B:Hp}{p:Addr}{a:List V}{b:List PV}{n:Bool}(l:bg X.K B p a)(r:aI X.K Hi n b B a):kP X Hi (Ji X.K p) (GA B) b n where
 go:=λH O i ok hi=>⟨a,a[i]'(by rw[<- r.len];exact hi),(ok.2.trans aQ).tup l,by simp⟩
 stop:=λH O ok=>⟨a,(ok.2.trans aQ).tup l,by rw[r.len];exact MJ _⟩
 yld:=λH O i u H' ok hi y=>by obtain⟨e,y⟩:=y;subst e;obtain⟨x,c,d⟩:=r.at' (y a ((ok.2.trans aQ).tup l));exact⟨aC.refl _,x,c,d.mono ok.2⟩
theorem JC{B:Hp}{p:Addr}{a:List V}{b:List PV}{n m:Bool}(l:bQ X.K B p a)(r:aI X.K Hi m b B a)(f:imms b=true):kP X Hi (Jj X.K p) (OkB B) b n where
 go:=λH O i ok hi=>⟨a,a[i]'(by rw[<- r.len];exact hi),ok.2.seq l,by simp⟩
 stop:=λH O ok=>⟨a,ok.2.seq l,by rw[r.len];exact MJ _⟩
 yld:=λH O i u H' ok hi y=>by obtain⟨e,y⟩:=y;subst e;have g:aI X.K Hi n b (aU H' O) a:=aI.imm f ok.1.tups (r.mono ok.2);obtain⟨x,c,d⟩:=g.at' (y a (ok.2.seq l));exact⟨aC.refl _,x,c,d⟩
theorem JB{B:Hp}{p:Addr}{a:List V}{b:List PV}{n m:Bool}(l:bg X.K B p a)(r:aI X.K Hi m b B a)(f:imms b=true):kP X Hi (Ji X.K p) (OkB B) b n where
 go:=λH O i ok hi=>⟨a,a[i]'(by rw[<- r.len];exact hi),ok.2.tup l,by simp⟩
 stop:=λH O ok=>⟨a,ok.2.tup l,by rw[r.len];exact MJ _⟩
 yld:=λH O i u H' ok hi y=>by obtain⟨e,y⟩:=y;subst e;have g:aI X.K Hi n b (aU H' O) a:=aI.imm f ok.1.tups (r.mono ok.2);obtain⟨x,c,d⟩:=g.at' (y a (ok.2.tup l));exact⟨aC.refl _,x,c,d⟩
theorem cJ(z:Str):(signs z).length=z.cps.size:=by unfold signs;rw[L9,Ml]
theorem signs_at{i:Nat}(h:z.cps[i]? =some c):(signs z)[i]? =some (.str ⟨#[c]⟩):=by unfold signs;rw[MR,Nb,h];rfl
theorem K6{B:Hp}{z:Str}{n:Bool}:kP X Hi (Ly z) (GA B) (signs z) n where
 go:=λH O i ok hi=>by rw[cJ]at hi;exact hi
 stop:=λH O ok=>by show(signs z).length=z.cps.size;exact cJ z
 yld:=λH O i u H' ok hi y=>by obtain⟨e,c,a,rfl⟩:=y;subst e;exact⟨aC.refl _,_,signs_at a,Rp.str.mpr rfl⟩
theorem xV{B:Hp}{b:Int}{k:Nat}{n:Bool}:kP X Hi (GB b k) (GA B) ((List.range k).map λi=>.int (b+(i:Nat))) n where
 go:=λH O i ok a=>by show i<k;simpa using a
 stop:=λH O ok=>by show k<=_;simp
 yld:=λH O i u H' ok a y=>by
  obtain⟨e,rfl⟩:=y;subst e;have a:i<k:=by simpa using a
  exact⟨aC.refl _,_,by rw[MR,NC a];rfl,Rp.int.mpr rfl⟩
theorem CG{B:Hp}{b c:Int}{k:Nat}{n:Bool}:kP X Hi (Itc b c k) (GA B) ((List.range k).map λi=>.int (b+(i:Nat)*c)) n where
 go:=λH O i ok a=>by show i<k;simpa using a
 stop:=λH O ok=>by show _=k;simp
 yld:=λH O i u H' ok a y=>by
  obtain⟨e,rfl⟩:=y;subst e;have a:i<k:=by simpa using a
  exact⟨aC.refl _,_,by rw[MR,NC a];rfl,Rp.int.mpr rfl⟩
theorem Gg(i:aH X Hi τ e r)(h:lL r=some (f,n,b)):kc X Hi τ s e f n b:=by
 intro O g H R d q;cases r with
 |frz v m=>
  cases v with
  |str z=>cases h;refine⟨_,HE aa,?_⟩;exact i O g H _ d λu H1 s1 r1=>⟨z,r1.str d s1 rfl,q _ _ s1 K6⟩
  |lst c=>cases h;refine⟨_,gA aa,?_⟩;refine i O g H _ d λu H1 s1 r1=> ?_;obtain⟨p,a,rfl,_,l,r⟩:=Rp.lst.mp (show Rp X.K Hi n (.lst f) (aU H1 O) u from r1);exact⟨p,rfl,⟨a,(aQ (O:=O)).seq l⟩,q _ _ s1 (F6 l (r.mono be))⟩
  |tup c=>cases h;refine⟨_,uv aa,?_⟩;refine i O g H _ d λu H1 s1 r1=> ?_;obtain⟨p,a,rfl,l,r⟩:=Rp.tup.mp (show Rp X.K Hi n (.tup f) (aU H1 O) u from r1);exact⟨p,rfl,⟨a,(aQ (O:=O)).tup l⟩,q _ _ s1 (K5 l r)⟩
  |_=>cases h
 |bor v=>
  cases v with
  |lst c=>
   have h:(if imms c then some (c,true,true)else none)=some (f,n,b):=h
   split at h
   .rename_i j
    cases h;refine⟨_,gA aa,?_⟩;refine i O g H _ d λu H1 s1 r1=> ?_;obtain⟨p,a,rfl,_,l,r⟩:=Rp.lst.mp (show Rp X.K Hi false (.lst f) H1 u from r1);exact⟨p,rfl,⟨a,l⟩,q _ _ s1 (JC l (r.mono be) j)⟩
   .cases h
  |tup c=>
   have h:(if imms c then some (c,true,true)else none)=some (f,n,b):=h
   split at h
   .rename_i j
    cases h;refine⟨_,uv aa,?_⟩;refine i O g H _ d λu H1 s1 r1=> ?_;obtain⟨p,a,rfl,l,r⟩:=Rp.tup.mp (show Rp X.K Hi false (.tup f) H1 u from r1);exact⟨p,rfl,⟨a,l⟩,q _ _ s1 (JB l r j)⟩
   .cases h
  |_=>cases h
 |owd x c m=>cases h|own c m=>
  cases h;refine⟨_,gA aa,?_⟩;refine i O g H _ d λu H1 s1 r1=> ?_;obtain⟨p,a,rfl,t,o,r⟩:=r1;have w:aU H1 O p=some (.lst a):=by
   unfold aU;rw[ME λz=> ?_]
   .exact o
   .obtain⟨y,k,_⟩:=(d.own p z).2
    rw[t]at k;cases k
  exact⟨p,rfl,⟨a,bQ.of o⟩,q _ _ s1 (F6 (bQ.of w) (r.mono (aP be)))⟩
theorem Gq(C:bz J X ct)(M:own ct ("range":Str)=true)(n:∀a∈m,isStar a=false)(v:qW X Hi τ m t)(D:m.length=t.length)(h:kT t=some F):
  kc X Hi τ G (.Call (.Name "range" p) m [] pos) F true false:=by
 intro O y H R f q;obtain⟨g,A⟩:=eS C M;unfold kT at h
 split at h
 .rename_i o
  cases e:o.val with
  |int j=>
   simp only[e]at h
   split at h
   .rename_i c
    cases h
    match m,D with
    |[a],_=>refine⟨_,jc g A vA (aY (n a (by simp))),?_⟩;refine v O y H _ f λus H1 s1 r1=> ?_;obtain⟨u,E,rfl,r,z⟩:=r1;cases z;exact⟨j,by rw[r.int f s1 e],c.1,c.2,q _ _ s1 xV⟩
   .cases h
  |_=>simp only[e]at h;cases h
 .rename_i o B
  cases e:o.val with
  |int i=>
   cases l:B.val with
   |int j=>
    simp only[e,l]at h
    split at h
    .rename_i c
     cases h
     match m,D with
     |[a,b],_=>
      have K:starEach [a,b] X.env=[(false,eval a X.env),(false,eval b X.env)]:=by rw[aY (n a (by simp)),aY (n b (by simp))];rfl
      refine⟨_,yb g A vA K (aY (n b (by simp))),?_⟩;refine v O y H _ f λus H1 s1 r1=> ?_;obtain⟨u,E,rfl,r,N,w,rfl,x,z⟩:=r1;cases z;exact⟨i,j,by rw[r.int f s1 e,x.int f s1 l],c,q _ _ s1 xV⟩
    .cases h
   |_=>simp only[e,l]at h;cases h
  |_=>simp only[e]at h;cases h
 .rename_i o B L
  cases e:o.val with
  |int i=>
   cases l:B.val with
   |int j=>
    cases s:L.val with
    |int k=>
     simp only[e,l,s]at h
     split at h
     .rename_i c
      cases h
      match m,D with
      |[a,b,d],_=>refine⟨_,ya g A vA (aY (n a (by simp))) (ig λz hz=>n z (by simp at hz ⊢;rcases hz with rfl|rfl<;>simp)),?_⟩;refine v O y H _ f λus H1 s1 r1=> ?_;obtain⟨u,E,rfl,r,N,w,rfl,x,Q,P,rfl,I,z⟩:=r1;cases z;exact⟨i,j,k,by rw[r.int f s1 e,x.int f s1 l,I.int f s1 s],c.1,c.2.1,c.2.2,q _ _ s1 CG⟩
     .cases h
    |_=>simp only[e,l,s]at h;cases h
   |_=>simp only[e,l]at h;cases h
  |_=>simp only[e]at h;cases h
 .cases h
theorem pc(R:ao X.K Hi O τ g H)(s:aC H b)(h:BP r=some (c,n))(d:ag X.K Hi O H b r u):∃p a,u=.ref p/\bQ X.K (aU b O) p a/\aI X.K Hi n c (aU b O) a:=by
 cases r with
 |frz v m=>
  cases v with
  |lst f=>cases h;obtain⟨p,a,rfl,_,l,r⟩:=Rp.lst.mp (show Rp X.K Hi n (.lst c) (aU b O) u from d);exact⟨p,a,rfl,l,r.mono be⟩
  |_=>cases h
 |bor v=>cases h|owd o f m=>cases h|own f m=>
  cases h;obtain⟨p,a,rfl,j,i,r⟩:=d;have k:aU b O p=some (.lst a):=by
   unfold aU;rw[ME λz=> ?_]
   .exact i
   .obtain⟨q,e,_⟩:=(R.own p z).2
    rw[j]at e;cases e
  exact⟨p,a,rfl,bQ.of k,r.mono (aP be)⟩
theorem kn(l:wB O H)(b:H p=none)(r:aI X.K Hi n c (aU H O) a):Rp X.K Hi n (.tup c) (aU (L2.upd H p (.tup a)) O) (.ref p):=by
 refine Rp.tup.mpr ⟨p,a,rfl,bg.of ?_,r.mono (aP (aG b _))⟩;unfold aU;rw[ME λz=> ?_]
 .exact aB
 .obtain⟨a,e,_⟩:=l p z
  rw[e]at b;cases b
theorem GE(C:bz S X ct)(ho:own ct ("zip":Str)=true)(B:isStar a=false)(k:isStar b=false)(N:aH X Hi τ a D)(V:aH X Hi τ b I)(h:zi D I=some (G,n)):
  kc X Hi τ (.Tuple L kt j) (.Call (.Name "zip" p) [a,b] [] pos) G n false:=by
 intro O F H R r q;obtain⟨g,W⟩:=eS C ho;unfold zi at h
 split at h
 .rename_i T n1 Z n2 e1 Y
  split at h
  .rename_i f
   cases h;refine⟨_,HC g W (aK aa (aK aa ac (aY k)) (aY B)) (aY B) (ig λc hc=>by simp at hc;subst hc;exact k),?_⟩;refine N O F H _ r λu H1 s1 r1=>V O F H1 _ (r.ext s1) λv H2 s2 r2=> ?_;obtain⟨Q,c,rfl,m,E⟩:=pc r (s1.trans s2) e1 (r1.ext s2);obtain⟨U,d,rfl,o,J⟩:=pc r (s1.trans s2) Y (r2.back s1);refine⟨Q,U,c,d,rfl,(aQ (O:=O)).seq m,(aQ (O:=O)).seq o,q _ _ (s1.trans s2) ?_⟩;have M:=E.len;have z2:=J.len;have v:(List.zipWith wf T Z).length=c.length:=by rw[OX,<-f,Pd];exact M
   refine⟨λG P i ok hi=> ?_,λG P ok=> ?_,λG P i w G' ok hi y=> ?_⟩
   .rw[v]at hi
    exact⟨c,d,c[i],d[i]'(by omega),(ok.2.trans aQ).seq m,(ok.2.trans aQ).seq o,by simp,by simp⟩
   .exact⟨c,d,(ok.2.trans aQ).seq m,(ok.2.trans aQ).seq o,.inl (by rw[v];exact MJ _)⟩
   .rw[v]at hi
    obtain⟨p3,l,rfl,y⟩:=y;have e:=y c d c[i] (d[i]'(by omega)) ((ok.2.trans aQ).seq m) ((ok.2.trans aQ).seq o) (by simp) (by simp);subst e;obtain⟨K,x,s⟩:=E.at' (i:=i) (u:=c[i]) (by simp);obtain⟨x2,A,t⟩:=J.at' (i:=i) (u:=d[i]'(by omega)) (by simp);refine⟨aG l _,wf K x2,by rw[OJ,x,A],kn ok.1 l (.cons ((s.mono ok.2).low λz=> ?_) (.cons ((t.mono ok.2).low λz=> ?_) .nil))⟩
    .rw[MH]at z;exact z.1
    .rw[MH]at z;exact z.2
  .cases h
 .cases h
theorem Db(C:bz t X ct)(z:own ct ("reversed":Str)=true)(j:isStar a=false)(m:aH X Hi τ a (.frz (.tup f) n)):
  kc X Hi τ s (.Call (.Name "reversed" p) [a] [] pos) f.reverse n false:=by
 intro O v H R A q;obtain⟨g,x⟩:=eS C z;refine⟨_,HF g x (aK aa ac (aY j)) (aY j),?_⟩;refine m O v H _ A λu H1 s1 r1=> ?_;obtain⟨o,c,rfl,l,r⟩:=Rp.tup.mp (show Rp X.K Hi n (.tup f) (aU H1 O) u from r1);refine⟨o,c,rfl,(aQ (O:=O)).tup l,q _ _ s1 ?_⟩;have b:=r.len;refine⟨λG P i ok hi=> ?_,λG P ok=> ?_,λG P i w G' ok hi y=> ?_⟩
 .rw[Ot]at hi
  exact⟨by omega,c,(ok.2.trans aQ).tup l,rfl⟩
 .exact⟨by rw[Ot];exact b,c,(ok.2.trans aQ).tup l,rfl⟩
 .rw[Ot]at hi
  obtain⟨rfl,y⟩:=y;have e:=y c ((ok.2.trans aQ).tup l) rfl;obtain⟨k,h,d⟩:=r.at' e;refine⟨aC.refl _,k,?_,d.mono ok.2⟩;rw[List.getElem?_reverse hi,b];exact h
theorem Dc(h:Jm r=some (a,n)):r=.frz (.tup a) n:=by
 unfold Jm at h
 split at h
 .cases h
  rfl
 .cases h
theorem Gm(C:bz g X ct)(e:own ct ("reversed":Str)=true)(i:isStar a=false)(d:aH X Hi τ a c)(h:Jm c=some (b,n)):
  kc X Hi τ f (.Call (.Name "reversed" p) [a] [] pos) b.reverse n false:=by
 rw[Dc h]at d;exact Db C e i d
theorem Ek(C:bz Q X ct)(S:own ct ("enumerate":Str)=true)(v:isStar a=false)(D:aH X Hi τ a I)(h:oS I=some (M,n)):
  kc X Hi τ (.Tuple N T x) (.Call (.Name "enumerate" p) [a] [] pos) M n false:=by
 intro O F H R A q;obtain⟨g,G⟩:=eS C S;unfold oS at h
 split at h
 .rename_i z m
  cases h;refine⟨_,Az g G (aK aa ac (aY v)) (aY v),?_⟩;refine D O F H _ A λu H1 s1 r1=>⟨z,by rw[r1.str A s1 rfl],q _ _ s1 ?_⟩;have j:(List.zipWith fS (List.range z.length) (signs z)).length=z.length:=by rw[OX,cJ,M3];exact Pd _
  have f:(cy z).length=z.length:=lK z;refine⟨λG P i ok hi=> ?_,λG P ok=> ?_,λG P i w G' ok hi y=> ?_⟩
  .rw[j]at hi
   exact⟨_,(cy z)[i]'(by omega),rfl,by simp⟩
  .exact⟨_,rfl,by rw[j,f]⟩
  .rw[j]at hi
   obtain⟨L,b,rfl,y⟩:=y;have V:i<z.cps.size:=hi;obtain⟨c,J⟩:∃c,z.cps[i]? =some c:=⟨z.cps[i],by simp[V]⟩;have s:(cy z)[i]? =some (.str ⟨#[c]⟩):=by unfold cy;rw[MR,Nb,J];rfl
   have e:=y _ (.str ⟨#[c]⟩) rfl s;subst e;refine⟨aG b _,fS i (.str ⟨#[c]⟩),by rw[OJ,signs_at J,NC hi],kn ok.1 b (.cons (Rp.int.mpr rfl) (.cons (Rp.str.mpr rfl) .nil))⟩
 .rename_i k m
  cases h;refine⟨_,Ay g G (aK aa ac (aY v)) (aY v),?_⟩;refine D O F H _ A λu H1 s1 r1=> ?_;obtain⟨E,d,rfl,l,r⟩:=Rp.tup.mp (show Rp X.K Hi n (.tup k) (aU H1 O) u from r1);refine⟨E,d,rfl,(aQ (O:=O)).tup l,q _ _ s1 ?_⟩;have j:(List.zipWith fS (List.range k.length) k).length=k.length:=by rw[OX,M3];exact Pd _
  have f:=r.len;refine⟨λG P i ok hi=> ?_,λG P ok=> ?_,λG P i w G' ok hi y=> ?_⟩
  .rw[j]at hi
   exact⟨d,d[i]'(by omega),(ok.2.trans aQ).tup l,by simp⟩
  .exact⟨d,(ok.2.trans aQ).tup l,by rw[j,f]⟩
  .rw[j]at hi
   obtain⟨L,b,rfl,y⟩:=y;have s:d[i]? =some (d[i]'(by omega)):=by simp
   have e:=y d _ ((ok.2.trans aQ).tup l) s;subst e;obtain⟨B,t,o⟩:=r.at' s;exact⟨aG b _,fS i B,by rw[OJ,t,NC hi],kn ok.1 b (.cons (Rp.int.mpr rfl) (.cons (o.mono ok.2) .nil))⟩
 .split at h
  .rename_i k m U
   cases h;refine⟨_,sM g G (aK aa ac (aY v)) (aY v),?_⟩;refine D O F H _ A λu H1 s1 r1=> ?_;obtain⟨E,d,rfl,l,r⟩:=pc A s1 U r1;refine⟨E,d,rfl,(aQ (O:=O)).seq l,q _ _ s1 ?_⟩;have j:(List.zipWith fS (List.range k.length) k).length=k.length:=by rw[OX,M3];exact Pd _
   have f:=r.len;refine⟨λG P i ok hi=> ?_,λG P ok=> ?_,λG P i w G' ok hi y=> ?_⟩
   .rw[j]at hi
    exact⟨d,d[i]'(by omega),(ok.2.trans aQ).seq l,by simp⟩
   .exact⟨d,(ok.2.trans aQ).seq l,by rw[j,f]⟩
   .rw[j]at hi
    obtain⟨L,b,rfl,y⟩:=y;have s:d[i]? =some (d[i]'(by omega)):=by simp
    have e:=y d _ ((ok.2.trans aQ).seq l) s;subst e;obtain⟨B,t,o⟩:=r.at' s;exact⟨aG b _,fS i B,by rw[OJ,t,NC hi],kn ok.1 b (.cons (Rp.int.mpr rfl) (.cons (o.mono ok.2) .nil))⟩
  .cases h
theorem jX{N:List Str}:∀{b:List Str}{a:List Nat},slots N b=some a->b.length=a.length
 |[],a,h=>by cases h;rfl|x::b,a,h=>by
  unfold slots at h;cases e:slot N x with
  |none=>rw[e]at h;cases h|some i=>
   rw[e]at h;cases c:slots N b with
   |none=>simp[c]at h|some d=>simp[c]at h;subst h;simp[jX c]
theorem rS{N:List Str}:∀{b:List Str}{a:List Nat}{j i:Nat},slots N b=some a->a[j]? =some i->∃x,b[j]? =some x/\N[i]? =some x
 |[],a,j,i,h,hj=>by cases h;simp at hj|x::b,a,j,i,h,hj=>by
  unfold slots at h;cases e:slot N x with
  |none=>rw[e]at h;cases h|some d=>
   rw[e]at h;cases c:slots N b with
   |none=>simp[c]at h|some f=>
    simp[c]at h;subst h;cases j with
    |zero=>simp at hj;subst hj;exact⟨x,by simp,fw e⟩
    |succ j=>simpa using rS c (by simpa using hj)
theorem l5(h:yn ct t scope=true):scope.kind=.function/\(∀y∈scope.names,y.2=.cell->scope.names.lookup y.1=some .cell)/\(∀y∈scope.names,y.2=.local->scope.names.lookup y.1=some .local) /\ (∀y∈scope.names,y.2=.free->(ct.S.lookup y.1=some .cell\/ct.S.lookup y.1=some .free))/\(t::frees scope).Nodup/\(scope.names.lookup t=some .local\/scope.names.lookup t=some .cell)/\∀x∈frees scope,scope.names.lookup x=some .free:=by
 unfold yn at h;simp only[MH]at h;obtain⟨⟨⟨⟨⟨⟨a,b⟩,d⟩,c⟩,f⟩,i⟩,g⟩:=h;refine⟨Mf a,λy hy e=> ?_,λy hy e=> ?_,λy hy e=> ?_,Me f,by simpa using i,λx hx=> ?_⟩
 .have:=MS.mp b y hy
  rw[e]at this
  simpa using this
 .have:=MS.mp d y hy
  rw[e]at this
  simpa using this
 .have:=MS.mp c y hy
  rw[e]at this
  simpa using this
 .have:=MS.mp g x hx
  simpa using this
theorem iS{a:Env}:∀{names:List (Str×NameKind)}{x:Str},names.lookup x=some .cell -> (names.map λ(n,k)=>if(k==NameKind.free&&a.scope.kind== .function&&a.kindOf n==some .cell)then(n,NameKind.cell)else(n,k)).lookup x=some .cell
 |[],_,h=>by simp at h|(n,k)::r,x,h=>by
  have d:= @iS a r x;show List.lookup x ((if(k==NameKind.free&&a.scope.kind== .function&&a.kindOf n==some .cell)=true then(n,NameKind.cell)else(n,k))::_)=_;cases b:x==n with
  |true=>simp only[NA,b]at h;cases h;rw[ME (by simp)];simp only[NA,b]
  |false=>
   simp only[NA,b]at h
   by_cases c:(k==NameKind.free&&a.scope.kind== .function&&a.kindOf n==some .cell)=true;rw[MF c];simp only[NA,b];exact d h;rw[ME c];simp only[NA,b];exact d h
theorem iJ(h:scope.names.lookup t=some .local\/scope.names.lookup t=some .cell):L2.Loc (bH X b scope a f c e d).env.scope t:=by
 rcases h with h|h
 .exact .inl (lookup_relabel_local h)
 .exact .inr (iS h)
theorem k9(h:scope.names.lookup t=some .local\/scope.names.lookup t=some .cell):(bH X b scope a f c e d).fn t=true\/(bH X b scope a f c e d).env.scope.names.lookup t=some .local:=by
 rcases h with h|h
 .exact .inr (lookup_relabel_local h)
 .left
  show(scope.names.lookup t==some .cell)=true;rw[h];rfl
theorem bz.blk{cd:Nat->List PV->Option PV}{ct:Ct}(C:bz cd X ct){t:Str}{scope:Scope}(h:yn ct t scope=true)(Cf:Addr)(s2:Shared)(H2:Hp)(fp:List Addr)(cl:List (Str×Addr)):bz cd (bH X (t::frees scope) scope Cf s2 H2 fp cl) (blk ct t scope):=by
 obtain⟨h1,h2,h3,h4,h5,h6,h7⟩:=l5 h;refine⟨rfl,h5,?_,h1,C.calm,C.glob,C.bl,C.fns,NS,C.un⟩;show(scope.names.map fun(n,k)=>if(k==NameKind.free&&X.env.scope.kind== .function&&X.env.kindOf n==some .cell)then(n,NameKind.cell)else(n,k))=nw ct.S scope.names;unfold nw;refine M7 fun y hy=> ?_;obtain⟨n,k⟩:=y;have e:(X.env.scope.kind==ScopeKind.function)=true:=by rw[C.kind];rfl
 have e2:X.env.kindOf n=ct.S.lookup n:=by
  show X.env.scope.names.lookup n=_;rw[C.S]
 dsimp only;rw[e,e2]
theorem gB(h:ik ct t a scope=true):scope.kind=.function/\(∀y∈scope.names,y.2=.cell->scope.names.lookup y.1=some .cell)/\(∀y∈scope.names,y.2=.local->scope.names.lookup y.1=some .local) /\ (∀y∈scope.names,y.2=.free->(ct.S.lookup y.1=some .cell\/ct.S.lookup y.1=some .free))/\(t::a::frees scope).Nodup/\(scope.names.lookup t=some .local\/scope.names.lookup t=some .cell)/\(scope.names.lookup a=some .local\/scope.names.lookup a=some .cell)/\∀x∈frees scope,scope.names.lookup x=some .free:=by
 unfold ik at h;simp only[MH]at h;obtain⟨⟨⟨⟨⟨⟨⟨b,c⟩,g⟩,d⟩,i⟩,f⟩,k⟩,j⟩:=h;refine⟨Mf b,λy hy e=> ?_,λy hy e=> ?_,λy hy e=> ?_,Me i,by simpa using f,by simpa using k,λx hx=> ?_⟩
 .have:=MS.mp c y hy
  rw[e]at this
  simpa using this
 .have:=MS.mp g y hy
  rw[e]at this
  simpa using this
 .have:=MS.mp d y hy
  rw[e]at this
  simpa using this
 .have:=MS.mp j x hx
  simpa using this
theorem bz.blk2{cd:Nat->List PV->Option PV}{ct:Ct}(C:bz cd X ct){t t2:Str}{scope:Scope}(h:ik ct t t2 scope=true)(Cf:Addr)(s2:Shared)(H2:Hp)(fp:List Addr)(cl:List (Str×Addr)):bz cd (bH X (t::t2::frees scope) scope Cf s2 H2 fp cl) (blk2 ct t t2 scope):=by
 obtain⟨h1,h2,h3,h4,h5,h6,h8,h7⟩:=gB h;refine⟨rfl,h5,?_,h1,C.calm,C.glob,C.bl,C.fns,NS,C.un⟩;show(scope.names.map fun(n,k)=>if(k==NameKind.free&&X.env.scope.kind== .function&&X.env.kindOf n==some .cell)then(n,NameKind.cell)else(n,k))=nw ct.S scope.names;unfold nw;refine M7 fun y hy=> ?_;obtain⟨n,k⟩:=y;have e:(X.env.scope.kind==ScopeKind.function)=true:=by rw[C.kind];rfl
 have e2:X.env.kindOf n=ct.S.lookup n:=by
  show X.env.scope.names.lookup n=_;rw[C.S]
 dsimp only;rw[e,e2]
theorem iL{g:Nat->List PV->Option PV}{ct:Ct}(C:bz g X ct){scope:Scope}:∀{b:List Str}{a:List Nat},slots ct.N b=some a->(∀x∈b,scope.names.lookup x=some .free/\(ct.S.lookup x=some .cell\/ct.S.lookup x=some .free))->bY X scope b (a.map some)
 |[],a,h,_=>by cases h;exact True.intro|x::b,a,h,k=>by
  unfold slots at h;cases e:slot ct.N x with
  |none=>rw[e]at h;cases h|some i=>
   rw[e]at h;cases c:slots ct.N b with
   |none=>simp[c]at h|some j=>simp[c]at h;subst h;obtain⟨f,d⟩:=k x MB;exact⟨⟨by rw[C.N];exact fw e,f,by rw[C.S];exact d⟩,iL C c λy hy=>k y (MA _ hy)⟩
theorem BE{t:TV}(h:t.ob=some x):t≠.un:=λe=>by subst e;cases h
theorem ao.block{K:W.Frag}{c:List Nat}(R:ao K Hi O τ y H)(T:c.Nodup)(r:Rp K Hi n x (aU H O) u):
  ao K Hi O (.frz x n::c.map λi=>τ.getD i .un) (some u::bU (c.map some) y) H:=by
 have f:∀(j:Nat)(v:TV),(c.map λi=>τ.getD i .un)[j]? =some v->v≠.un->∃i,c[j]? =some i/\τ[i]? =some v:=λj v e hv=>by
  rw[MR]at e;cases G:c[j]? with
  |none=>rw[G]at e;cases e|some i=>
   rw[G]at e;refine⟨i,rfl,?_⟩;have e:τ.getD i .un=v:=MZ e;rw[ML]at e;cases J:τ[i]? with
   |none=>rw[J]at e;exact absurd e.symm hv|some w=>rw[J]at e;exact Mw some e
 have d:∀(j i:Nat),c[j]? =some i->(bU (c.map some) y)[j]? =some ((y[i]?).join):=λj i e=>by unfold bU;rw[MR,MR,e];rfl
 refine⟨R.same,R.own,λj v m e=> ?_,λj t bd ys m e ht=> ?_,λa b t t' x1 y1 l p ht k ht' g h=> ?_⟩
 .cases j with
  |zero=>simp at e;obtain⟨rfl,rfl⟩:=e;exact⟨u,by simp,r⟩
  |succ j=>obtain⟨i,g,h⟩:=f j _ (by simpa using e) (by simp);obtain⟨w,z,C⟩:=R.frz i v m h;exact⟨w,by rw[Nx,d j i g,z];rfl,C⟩
 .cases j with
  |zero=>simp at e;subst e;cases ht
  |succ j=>obtain⟨i,g,h⟩:=f j _ (by simpa using e) (BE ht);obtain⟨l,M,o,z,C⟩:=R.obs i t bd ys m h ht;exact⟨l,M,o,by rw[Nx,d j i g,z];rfl,C⟩
 .cases a with
  |zero=>simp at p;subst p;cases ht
  |succ a=>
   cases b with
   |zero=>simp at k;subst k;cases ht'
   |succ b=>
    obtain⟨i,q,D⟩:=f a _ (by simpa using p) (BE ht);obtain⟨j,s,I⟩:=f b _ (by simpa using k) (BE ht');rw[Nx,d a i q]at g;rw[Nx,d b j s]at h;obtain⟨L,A,Y⟩:=x1;obtain⟨P,B,Z⟩:=y1;obtain⟨l1,Q,o1,E,_⟩:=R.obs i t L A Y D ht;obtain⟨l2,U,o2,F,_⟩:=R.obs j t' P B Z I ht';rw[E]at g;rw[F]at h;cases g;cases h;have e:=R.dst i j t t' _ _ l D ht I ht' E F;subst e
    congr 1
    have N:a<c.length:=(MV.mp q).1;have S:b<c.length:=(MV.mp s).1;have p:c[a]=i:=by rw[MN N]at q;exact MZ q
    have k:c[b]=i:=by rw[MN S]at s;exact MZ s
    exact(List.getElem_inj T).mp (p.trans k.symm)
theorem gr{N:List Str}:∀{c:List Str}{a:List Nat},slots N c=some a->c.Nodup->a.Nodup
 |[],a,h,_=>by cases h;exact List.nodup_nil|x::c,a,h,nd=>by
  unfold slots at h;cases e:slot N x with
  |none=>rw[e]at h;cases h|some i=>
   rw[e]at h;cases b:slots N c with
   |none=>simp[b]at h|some j=>simp[b]at h;subst h;refine Mb.mpr ⟨λhm=> ?_,gr b (Mb.mp nd).2⟩;obtain⟨k,g⟩:=List.mem_iff_getElem?.mp hm;obtain⟨y,f,d⟩:=rS b g;rw[fw e]at d;cases d;exact(Mb.mp nd).1 (Ma f)
theorem ao.hide{K:W.Frag}(R:ao K Hi O τ h H)(s:aC H a)(j:H D=none)(z:a D=some (.lst p)):ao K Hi (D::O) τ h a:=by
 have k:aC (aU H O) (aU a (D::O)):=λb o e=>by
  unfold aU at e ⊢
  split at e;cases e
  .rename_i A
   have w:b≠D:=aD e j;rw[ME (by simp[w,A])];exact s b o e
 refine⟨R.same.trans s,λl g=> ?_,λi v n e=> ?_,λi t b xs n e ht=> ?_,R.dst⟩
 .rcases MP.mp g with rfl|g
  .exact⟨R.same.free j,_,z,.lst⟩
  .obtain⟨q,f,e,x⟩:=R.own l g
   exact⟨q,f,s _ _ e,x⟩
 .obtain⟨u,c,d⟩:=R.frz i v n e
  exact⟨u,c,d.mono k⟩
 .obtain⟨l,f,o,c,d,y,m,r⟩:=R.obs i t b xs n e ht
  exact⟨l,f,o,c,MA _ d,s _ _ y,m,r.mono k⟩
theorem pY(h:cS e=false):∀x,foldedSetIterable e d x=pure x:=by
 intro x;cases e with
 |Set a b c=>cases h|_=>rfl
noncomputable def LR(e:Nat->List PV->Option PV)(c:GC)(a:IE)(n:Bool)(d:En):PV->Option (Option (PV×Bool)):=λx=>(jm e c (.frz x (n||imm x)::d)).bind λb=>if b then(af e a (.frz x (n||imm x)::d)).bind λr=>r.keep.map some else some none
theorem BX{cd:Nat->List PV->Option PV}
  (gj:kc X Hi τ tg iter xs n b) (hz:xs.length<=LN) (hblk:∀(Cf:Addr)(s2:Shared)(H2:Hp)(fp:List Addr)(cl:List (Str×Addr)),bz cd (bH X Nn scope Cf s2 H2 fp cl) ctb)
  (hifs:∀(X' :Cx)(τ' :En)(k:Bool),bz cd X' ctb->jm cd ifs' τ' =some k->∃tt,zV X' ifs tt/\∀(O:List Addr)(σ:L2.St)(H:Hp)(Q:Bool->Hp->Prop),ao X'.K Hi O τ' σ H->(∀H',aC H H' ->Q k H')->tt σ H Q)
  (helt:∀(X' :Cx)(τ' :En)(r:RV),bz cd X' ctb->af cd elt' τ' =some r->aH X' Hi τ' elt r)
  (step:∀(O:List Addr)(σ:L2.St)(D:Addr)(x:PV)(r0:Option (PV×Bool))(u:V)(G' :Hp)(Cf:Addr)(s2:Shared)(H2:Hp)(fp:List Addr)(cl:List (Str×Addr)),CF x=some r0->ao X.K Hi (D::O) τ σ G' ->Rp X.K Hi n x (aU G' (D::O)) u -> ∃(τx:En)(σx:L2.St)(g:TG),((jm cd ifs' τx).bind λt=>if t then(af cd elt' τx).bind λr=>r.keep.map some else some none)=some r0/\ao X.K Hi (D::O) τx σx G' /\PG (bH X Nn scope Cf s2 H2 fp cl) tg g /\ ∀K:L2.St->Hp->Prop,K σx G' ->g u (bU pre σ) G' λσ2 H3=>(σ2.length=Nn.length/\∀(j:Nat)(v:V),(bU pre σ)[j]? =some (some v)->σ2[j]? =some (some v))/\K σ2 H3)
  (hrun:cG CF xs=some (VS,NN)) (O:List Addr) (σ:L2.St) (H:Hp) (Q:VK) (R:ao X.K Hi O τ σ H) (q:∀u H',aC H H' ->ag X.K Hi O H H' (.own VS NN) u->Q u H'):Ga X Nn pre scope tg ifs elt (λσ H R=>WI X tg iter σ H R) σ H Q:=by
 refine gj O σ H _ R λJ H1 s1 En=> ?_;intro D hD;have ok:∀(G:Hp)(ys:List V),aC H1 G->G D=some (.lst ys)->(if b=true then OkB H1 else GA (aU H1 O)) G (D::O):=by
  intro G ys sG gD;have ls:wB (D::O) G:=λl hl=>by
   rcases MP.mp hl with rfl|hl
   .exact⟨_,gD,.lst⟩
   .obtain⟨us,e,mo⟩:=(R.own l hl).2
    exact⟨us,sG _ _ (s1 _ _ e),mo⟩
  cases b with
  |true=>exact⟨ls,sG⟩|false=>
   refine⟨ls,λc o e=> ?_⟩;unfold aU at e ⊢
   split at e;cases e
   .rename_i nb
    have ne:c≠D:=aD e hD;rw[ME (by simp[ne,nb])];exact sG c o e
 refine⟨λi m ys G=>m=xs.length-i/\i<=xs.length/\aC H1 G/\G D=some (.lst ys)/\ys.length<=i/\∃dn ws mm,cG CF (xs.drop i)=some (ws,mm)/\VS=dn++ws/\(NN=true->mm=true)/\aI X.K Hi NN dn (aU G (D::O)) ys,⟨xs.length,by simp,Mk _,aG hD _,aB,MJ _,[],VS,NN,hrun,rfl,id,.nil⟩,?_⟩
 rintro i m ys G ⟨rfl,hi,sG,gD,hyl,dn,ws,mm,hc1,hv,hn,hr⟩
 by_cases hlt:i<xs.length
 .refine .inr ⟨En.go G (D::O) i (ok G ys sG gD) hlt,λu G' y=> ?_⟩
  obtain⟨sGG,x,hx,rx⟩:=En.yld G (D::O) i u G' (ok G ys sG gD) hlt y;intro Cf s2 H2 fp cl;have C' :=hblk Cf s2 H2 fp cl;have hd:xs.drop i=x::xs.drop (i+1):=by rw[Np hlt];rw[MN hlt]at hx;rw[MZ hx]
  rw[hd]at hc1;unfold cG at hc1;cases hf:CF x with
  |none=>rw[hf]at hc1;cases hc1|some r0=>
   rw[hf]at hc1;cases hcr:cG CF (xs.drop (i+1))with
   |none=>rw[hcr]at hc1;cases hc1|some w=>
    obtain⟨ws',mm'⟩:=w;rw[hcr]at hc1;have gD' :G' D=some (.lst ys):=sGG _ _ gD;obtain⟨τx,σx,g,hf,RB,pg,hg⟩:=step O σ D x r0 u G' Cf s2 H2 fp cl hf (R.hide (s1.trans (sG.trans sGG)) (s1.free hD) gD') rx;cases hco:jm cd ifs' τx with
    |none=>rw[hco]at hf;cases hf|some k=>
     rw[hco]at hf;obtain⟨tt,ptt,qtt⟩:=hifs _ _ _ C' hco;refine⟨g,tt,_,pg,ptt,aa,hg _ ?_⟩;refine qtt (D::O) _ G' _ RB λG4 s4=> ?_;cases k with
     |false=>rw[ME MI];have hf:(some none:Option (Option (PV×Bool)))=some r0:=hf;cases hf;cases hc1;exact⟨xs.length-(i+1),by omega,rfl,hlt,sG.trans (sGG.trans s4),s4 _ _ gD',by omega,dn,ws,mm,hcr,hv,hn,hr.mono (aP (sGG.trans s4))⟩
     |true=>
      rw[MF rfl];have hf:((af cd elt' τx).bind λr=>r.keep.map some)=some r0:=hf;cases he:af cd elt' τx with
      |none=>rw[he]at hf;cases hf|some r=>
       rw[he]at hf;have hf:r.keep.map some=some r0:=hf;cases hk:r.keep with
       |none=>rw[hk]at hf;cases hf|some vn=>
        obtain⟨v,nv⟩:=vn;rw[hk]at hf;cases hf;have hc1:some (v::ws',nv&&mm')=some (ws,mm):=hc1;cases hc1;refine helt _ _ _ C' he (D::O) _ G4 _ (RB.ext s4) λw G5 s5 r5=> ?_;have kp:=r5.keep (RB.ext s4) s5 hk;have gD5:=s5 _ _ (s4 _ _ gD');have sT:=sG.trans (sGG.trans (s4.trans s5));have hz' :xs.length<=16777216:=hz;refine⟨gD5,by rw[fN];omega,xs.length-(i+1),by omega,rfl,hlt,sT.upd hD,aB,by rw[MT];simp;omega,dn++[v],ws',mm',hcr,by rw[hv];simp,λz=> ?_,?_⟩
        .have:=hn z
         rw[MH]at this;exact this.2
        .have e:aU (L2.upd G5 D (.lst (ys++[w]))) (D::O)=aU G5 (D::O):=by
          funext c
          unfold aU
          split;rfl
          .rename_i nc
           exact aA λz=>nc (z▸MB)
         rw[e];refine(hr.mono (aP (sGG.trans (s4.trans s5)))).app (.cons (kp.low λz=> ?_) .nil);have:=hn z;rw[MH]at this;exact this.1
 .have e:i=xs.length:=by omega
  subst e;rw[PM]at hc1;cases hc1;refine .inl ⟨En.stop G (D::O) (ok G ys sG gD),q _ _ (s1.trans sG) ?_⟩;refine⟨D,ys,rfl,s1.free hD,gD,?_⟩;rw[hv,NH];refine hr.mono λc o e=> ?_;unfold aU at e;unfold aU del
  split at e;cases e
  .rename_i nc
   have n1:c≠D:=λz=>nc (z▸MB);have n2:c∉O:=λz=>nc (MA _ z);rw[ME n2,ME n1];exact e
set_option tactic.hygienic false
theorem EQ(C:bz l X ct){V:List PV}
  (h:yn ct t scope=true) (E:slots ct.N (frees scope)=some a) (I:cS d=false) (Y:kc X Hi τ (.Name t B) d G n b) (Z:G.length<=LN)
  (A:∀(m:Cx)(c:En)(k:Bool),bz l m (blk ct t scope)->jm l g c =some k->∃J,zV m ifs J/\∀(O:List Addr)(f:L2.St)(H:Hp)(Q:Bool->Hp->Prop),ao m.K Hi O c f H->(∀o,aC H o ->Q k o)->J f H Q)
  (v:∀(m:Cx)(c:En)(r:RV),bz l m (blk ct t scope)->af l j c =some r->aH m Hi c elt r)
  (w:cG (LR l g j n (a.map λi=>τ.getD i .un)) G=some (V,U)):bY X scope (t::frees scope) (none::a.map some)/\eT X.env.scope scope=true /\ ∀(O:List Addr)(f:L2.St)(H:Hp)(Q:VK),ao X.K Hi O τ f H->(∀u o,aC H o ->ag X.K Hi O H o (.own V U) u->Q u o)->Ga X (t::frees scope) (none::a.map some) scope (.Name t B) ifs elt (λσ H R=>WI X (.Name t B) d f H R) f H Q:=by
 obtain⟨h1,h2,h3,T,L,P,M⟩:=l5 h;have q:∀x∈frees scope,(x,NameKind.free)∈scope.names:=λx hx=>My (M x hx);have s:bY X scope (t::frees scope) (none::a.map some):=iL C E λx hx=>⟨M x hx,T _ (q x hx) rfl⟩;have F:eT X.env.scope scope=true:=by
  unfold eT;rw[MS];intro y W;rw[C.S]
  by_cases e:y.2=.free
  .rcases T y W e with z|z<;>simp[e,z]
  .simp[e]
 have p:=jX E;refine⟨s,F,BX Y Z (C.blk h) A v (λO f D x r0 u G' Cf s2 H2 fp cl hf R rx=> ?_) w⟩;exact⟨_,some u::bU (a.map some) f,tP 0,hf,R.block (gr E (Mb.mp L).2) rx.up,aq L rfl (iJ P) (k9 P),λK k=>⟨uL (by simp[p]),k⟩⟩
theorem ao.consF{K:W.Frag}(R:ao K Hi O τ f H)(r:Rp K Hi n x (aU H O) u):ao K Hi O (.frz x n::τ) (some u::f) H:=by
 refine⟨R.same,R.own,λj v m e=> ?_,λj t bd ys m e ht=> ?_,λa b t t' x1 y1 l e1 ht e2 ht' h1 h2=> ?_⟩
 .cases j with
  |zero=>simp at e;obtain⟨rfl,rfl⟩:=e;exact⟨u,by simp,r⟩
  |succ j=>obtain⟨w,d,c⟩:=R.frz j v m (by simpa using e);exact⟨w,by simpa using d,c⟩
 .cases j with
  |zero=>simp at e;subst e;cases ht
  |succ j=>obtain⟨l,g,o,d,c⟩:=R.obs j t bd ys m (by simpa using e) ht;exact⟨l,g,o,by simpa using d,c⟩
 .cases a with
  |zero=>simp at e1;subst e1;cases ht
  |succ a=>
   cases b with
   |zero=>simp at e2;subst e2;cases ht'
   |succ b=>rw[R.dst a b t t' x1 y1 l (by simpa using e1) ht (by simpa using e2) ht' (by simpa using h1) (by simpa using h2)]
theorem oh{b:List Str}(h:r.length+2=b.length):
  (((bU (none::none::r) a).set 0 (some x)).set 1 (some y)).length=b.length/\∀(j:Nat)(v:V),(bU (none::none::r) a)[j]? =some (some v)->(((bU (none::none::r) a).set 0 (some x)).set 1 (some y))[j]? =some (some v):=by
 refine⟨by rw[Nm,Nm];simp[bU,h],λj v e=> ?_⟩;cases j with
 |zero=>simp[bU]at e|succ j=>
  cases j with
  |zero=>simp[bU]at e|succ j=>simpa [bU]using e
noncomputable def CQ(f:Nat->List PV->Option PV)(d:GC)(c:IE)(n:Bool)(e:En):PV->Option (Option (PV×Bool)):=λx=>(lZ x).bind λ(a,b)=>(jm f d (.frz a (n||imm a)::.frz b (n||imm b)::e)).bind λt=>if t then(af f c (.frz a (n||imm a)::.frz b (n||imm b)::e)).bind λr=>r.keep.map some else some none
theorem BW(C:bz p X ct)
  (h:ik ct t f scope=true) (L:slots ct.N (frees scope)=some a) (Y:cS d=false) (gj:kc X Hi τ (.Tuple [.Name t J,.Name f m] P o) d U n b) (hz:U.length<=LN)
  (G:∀(q:Cx)(c:En)(k:Bool),bz p q (blk2 ct t f scope)->jm p j c =some k->∃Z,zV q ifs Z/\∀(O:List Addr)(g:L2.St)(H:Hp)(Q:Bool->Hp->Prop),ao q.K Hi O c g H->(∀s,aC H s ->Q k s)->Z g H Q)
  (E:∀(q:Cx)(c:En)(r:RV),bz p q (blk2 ct t f scope)->af p l c =some r->aH q Hi c elt r)
  (F:cG (CQ p j l n (a.map λi=>τ.getD i .un)) U=some (VS,NN)):bY X scope (t::f::frees scope) (none::none::a.map some)/\eT X.env.scope scope=true /\ ∀(O:List Addr)(g:L2.St)(H:Hp)(Q:VK),ao X.K Hi O τ g H->(∀u s,aC H s ->ag X.K Hi O H s (.own VS NN) u->Q u s)->Ga X (t::f::frees scope) (none::none::a.map some) scope (.Tuple [.Name t J,.Name f m] P o) ifs elt (λσ H R=>WI X (.Tuple [.Name t J,.Name f m] P o) d g H R) g H Q:=by
 obtain⟨h1,h2,h3,h4,M,h6,h8,h7⟩:=gB h;have A:∀x∈frees scope,(x,NameKind.free)∈scope.names:=λx hx=>My (h7 x hx);have B:bY X scope (t::f::frees scope) (none::none::a.map some):=iL C L λx hx=>⟨h7 x hx,h4 _ (A x hx) rfl⟩;have T:eT X.env.scope scope=true:=by
  unfold eT;rw[MS];intro y hy;rw[C.S]
  by_cases e:y.2=.free
  .rcases h4 y hy e with z|z<;>simp[e,z]
  .simp[e]
 have v:=jX L;refine⟨B,T,BX gj hz (C.blk2 h) G E (λO g D x r0 u G' Cf s2 H2 fp cl hf R rx=> ?_) F⟩;unfold CQ at hf;obtain⟨V,x2,rfl⟩:∃V x2,x=.tup [V,x2]:=by
  cases I:lZ x with
  |none=>rw[I]at hf;cases hf|some w=>
   unfold lZ at I
   split at I;exact⟨_,_,rfl⟩;cases I
 obtain⟨pa,us,rfl,lt,rt⟩:=Rp.tup.mp rx;obtain⟨W,a0,rfl,ra,rt⟩:=rt;obtain⟨u2,a1,rfl,rb,rt⟩:=rt;obtain rfl:=rt
 exact⟨_,some W::some u2::bU (a.map some) g,_,hf,(R.block (gr L (Mb.mp (Mb.mp M).2).2) rb.up).consF ra.up,lY (C.blk2 h Cf s2 H2 fp cl).calm (cE (aq (i:=0) M rfl (iJ h6) (k9 h6)) (cE (aq (i:=1) M rfl (iJ h8) (k9 h8)) iZ rfl) rfl) rfl rfl,λK k=>⟨pa,_,rfl,(aQ (O:=D::O)).tup lt,rfl,W,_,rfl,u2,_,rfl,rfl,⟨oh (by simp[v]),k⟩⟩⟩
theorem Ds(h:PE X e t):PE X e (λσ H Q=>t σ H λv H' =>∃a o kvs,H' a=some (.frz o (.dK kvs))/\NF X a/\Q v (L2.upd H' a (.dK kvs))):=by intro pins s σ H Q I hr;refine aj (h pins s σ H _ I hr) λu s1 q=> ?_;obtain⟨v,H',I',rv,a,o,kvs,ha,nf,q⟩:=q;exact⟨v,_,I'.unknown nf ha,rv,q⟩
set_option tactic.hygienic true
theorem BV(h:ym d t=some r):∃a b n T m c,d=.frz (.dK a b) n/\t=some (.frz (.int T) m)/\a.length<=LN/\nB T a b=some c/\r=.own (c.map PV.int) true:=by
 unfold ym at h
 split at h
 .split at h
  .rename_i a b n T m f
   cases e:nB T a b with
   |none=>rw[e]at h;cases h|some c=>rw[e]at h;cases h;exact⟨_,_,_,_,_,_,rfl,rfl,f,e,rfl⟩
  .cases h
 .cases h
set_option tactic.hygienic false
theorem wQ{n:Bool}{T:Int}:∀{b:List ah}{a:List PV}{d:List Int}{G:Hp}{g:List V},nB T b a=some d->aI X.K Hi n a G g->∃f:List (Int×Int),b.zip g=f.map (λq=>(Sum.inl q.1,V.int q.2))/\f.length=b.length/\d=(f.filter λq=>decide (Builtin.bitAnd q.1 T=0)).map (·.2)
 |[],a,d,G,g,h,r=>by
  cases a with
  |nil=>cases h;exact⟨[],rfl,rfl,rfl⟩|cons v a=>cases h
 |k::b,a,d,G,g,h,r=>by
  cases a with
  |nil=>cases k<;>cases h|cons v a=>
   cases k with
   |inr z=>cases v<;>cases h|inl k=>
    cases v with
    |int v=>
     have h:(nB T b a).map (λr=>if Builtin.bitAnd k T=0 then v::r else r)=some d:=h;cases e:nB T b a with
     |none=>rw[e]at h;cases h|some t=>
      rw[e]at h;obtain⟨u,j,rfl,p,l⟩:=r;obtain⟨f,s,m,i⟩:=wQ e l;have o:=Rp.int.mp p;subst o;have h:=MZ h;refine⟨(k,v)::f,by rw[List.zip_cons_cons,s];rfl,by simp[m],?_⟩;rw[<- h,i]
      by_cases c:Builtin.bitAnd k T=0<;>simp[c]
    |_=>cases h
theorem rW{n:Bool}{G:Hp}:∀{a:List Int},aI X.K Hi n (a.map PV.int) G (a.map V.int)
 |[]=>.nil|_::_=>.cons (Rp.int.mpr rfl) rW
theorem Af{K:W.Frag}:ao K (λ_=>none) [] [.frz (.int a) true,.frz (.int b) true,.frz (.int c) true] [some (.int a),some (.int b),some (.int c)] G:=by
 refine⟨λ_ _ e=>(by cases e),λl hl=>(by cases hl),λj v m e=> ?_,λj t bd ys m e ht=> ?_,λi j t t' x y l e1 ht=> ?_⟩
 .match j,e with
  |0,e=>cases e;exact⟨_,rfl,Rp.int.mpr rfl⟩|1,e=>cases e;exact⟨_,rfl,Rp.int.mpr rfl⟩|2,e=>cases e;exact⟨_,rfl,Rp.int.mpr rfl⟩|j+3,e=>simp at e
 .match j,e with
  |0,e=>cases e;cases ht|1,e=>cases e;cases ht|2,e=>cases e;cases ht|j+3,e=>simp at e
 .match i,e1 with
  |0,e=>cases e;cases ht|1,e=>cases e;cases ht|2,e=>cases e;cases ht|j+3,e=>simp at e
theorem Hz(C:bz B X ct)(h:ik ct x y scope=true)(hf:frees scope=[t])
  (v0:bZ (blk2 ct x y scope) x=.var 0) (v1:bZ (blk2 ct x y scope) y=.var 1) (v2:bZ (blk2 ct x y scope) t=.var 2) (hi:slot ct.N t=some i) (U:lD d=true) (v:(ap.endLine==cp.line)=true) (hd:aH X Hi τ d ra) (hr:ym ra τ[i]? =some r):
  aH X Hi τ (.ListComp (.Name y p9) [⟨.Tuple [.Name x p1,.Name y p2] k p3,.Call (.Attribute d "items" ap) [] [] cp,[.Compare (.BinOp (.Name x p4) .BitAnd (.Name t p5) p6) [.Eq] [.Constant (.int 0) k2 p7] p8],0⟩] scope lp) r:=by
 obtain⟨ks,vs,nn,T,nt,ns,rfl,a',W,hs,rfl⟩:=BV hr;obtain⟨h1,h2,h3,h4,h5,h6,h8,h7⟩:=gB h;have hc:slots ct.N (frees scope)=some [i]:=by rw[hf];unfold slots;rw[hi];rfl
 have I:bY X scope (x::y::frees scope) (none::none::[some i]):=iL C hc λz W=>⟨h7 z W,h4 _ (My (h7 z W)) rfl⟩;have b0:eT X.env.scope scope=true:=by
  unfold eT;rw[MS];intro y hy;rw[C.S]
  by_cases e:y.2=.free
  .rcases h4 y hy e with z|z<;>simp[e,z]
  .simp[e]
 obtain⟨a1,a2,a3,rfl⟩:=yP U;intro O σ H Q R q;refine we (Ds (A2 C.calm (sZ aa rfl v) I h1 h2 h3 b0 (λ_=>rfl))) ?_;refine hd O σ H _ R λu H1 s1 Y=> ?_;have Y:Rp X.K Hi nn (.dK ks vs) (aU H1 O) u:=Y;obtain⟨p,us,rfl,_,F,hl,rl⟩:=Y;obtain⟨f,e1,e2,e3⟩:=wQ hs rl;obtain⟨w,a9,rw⟩:=R.frz i _ _ a';have hw:=Rp.int.mp rw;subst hw;have F:=aQ _ _ F;rw[e1]at F;refine⟨p,_,rfl,F,λo nf D hD=> ?_⟩;have M:D≠p:=λe=>by subst e;rw[aB]at hD;cases hD
 have A:∀G,aC (L2.upd H1 p (.frz o (.dK (f.map λq=>(Sum.inl q.1,V.int q.2))))) G->G p=some (.frz o (.dK (f.map λq=>(Sum.inl q.1,V.int q.2)))):=λG s=>s _ _ aB
 refine⟨λi m J G=>m=f.length-i/\i<=f.length/\aC (L2.upd H1 p (.frz o (.dK (f.map λq=>(Sum.inl q.1,V.int q.2))))) G/\G D=some (.lst J)/\J.length<=i/\ns.map V.int=J++((f.drop i).filter λq=>decide (Builtin.bitAnd q.1 T=0)).map λq=>V.int q.2,⟨f.length,by simp,Mk _,aG hD _,aB,MJ _,by rw[e3];simp⟩,?_⟩
 rintro j m J G ⟨rfl,hj,E,gD,b1,n⟩
 by_cases g:j<f.length
 .refine .inr ⟨⟨A G E,by rw[L9];exact g⟩,λu G' Z=> ?_⟩
  obtain⟨a,ha,rfl,Z⟩:=Z;have e:=Z (.inl f[j].1) (.int f[j].2) (by simp[g]);subst e;intro Cf s2 H2 fp cl;have L:=C.blk2 h Cf s2 H2 fp cl;have l:aC G (L2.upd G a (.tup [kV (.inl f[j].1),.int f[j].2])):=aG ha _;refine⟨_,_,_,lY L.calm (cE (aq (i:=0) h5 rfl (iJ h6) (k9 h6)) (cE (aq (i:=1) h5 rfl (iJ h8) (k9 h8)) iZ rfl) rfl) rfl rfl,lW lQ,aa,?_⟩;refine⟨a,_,rfl,bg.of aB,rfl,_,_,rfl,_,_,rfl,rfl,⟨oh (by rw[hf];rfl),?_⟩⟩;have a0:((bU (none::none::[some i]) σ).set 0 (some (kV (.inl f[j].1)))).set 1 (some (.int f[j].2))=[some (.int f[j].1),some (.int f[j].2),some (.int T)]:=by simp[bU,a9,kV]
  rw[a0];have a5:af B (bZ (blk2 ct x y scope) x) [.frz (.int f[j].1) true,.frz (.int f[j].2) true,.frz (.int T) true]=some (sc (.int f[j].1)):=by rw[v0];rfl
  have a7:af B (bZ (blk2 ct x y scope) y) [.frz (.int f[j].1) true,.frz (.int f[j].2) true,.frz (.int T) true]=some (sc (.int f[j].2)):=by rw[v1];rfl
  have a4:af B (bZ (blk2 ct x y scope) t) [.frz (.int f[j].1) true,.frz (.int f[j].2) true,.frz (.int T) true]=some (sc (.int T)):=by rw[v2];rfl
  have RB:=Af (K:=X.K) (G:=L2.upd G a (.tup [kV (.inl f[j].1),.int f[j].2])) (a:=f[j].1) (b:=f[j].2) (c:=T);have a8:f.drop j=f[j]::f.drop (j+1):=Np g;rw[a8,Ni]at n
  have hT:fE (bH X (x::y::frees scope) scope Cf s2 H2 fp cl) (λ_=>none) [.frz (.int f[j].1) true,.frz (.int f[j].2) true,.frz (.int T) true] (.Compare (.BinOp (.Name x p4) .BitAnd (.Name t p5) p6) [.Eq] [.Constant (.int 0) k2 p7] p8) (decide (Builtin.bitAnd f[j].1 T=0)):=
   CU L.un (uN (ko L a5) (ko L a4) rfl) (uB (cd:=B) rfl) rfl rfl
  refine hT [] _ _ _ RB λG4 s4=> ?_;have b2:ks.length<=16777216:=W
  by_cases c:Builtin.bitAnd f[j].1 T=0
  .rw[MF (by simpa using c)]at n ⊢
   refine ko L a7 [] _ G4 _ (RB.ext s4) λw G5 s5 P=> ?_;have P:Rp X.K (λ_=>none) true (.int f[j].2) (aU G5 []) w:=P;have P:=Rp.int.mp P;subst P;have sT:=E.trans (l.trans (s4.trans s5));exact⟨s5 _ _ (s4 _ _ (l _ _ gD)),by rw[fN];omega,f.length-(j+1),by omega,rfl,g,sT.upd hD,aB,by rw[MT];simp;omega,by rw[n];simp⟩
  .rw[ME (by simpa using c)]at n ⊢
   exact⟨f.length-(j+1),by omega,rfl,g,E.trans (l.trans s4),s4 _ _ (l _ _ gD),by omega,n⟩
 .have e:j=f.length:=by omega
  subst e;refine .inl ⟨⟨A G E,by rw[L9]⟩,p,o,_,A G E,nf,?_⟩;have a6:H1 D=none:=by rw[aA M]at hD;exact hD
  refine q _ _ (λb ob e=> ?_) ⟨D,J,rfl,s1.free a6,by rw[aA M];exact gD,?_⟩
  .have e' :=s1 _ _ e
   by_cases hb:b=p
   .subst hb
    rw[F]at e';cases e';exact aB
   .rw[aA hb]
    exact E _ _ (by rw[aA hb];exact e')
  .rw[PM,List.filter_nil,Nk,NH]at n
   rw[<- n];exact rW
end
set_option tactic.hygienic false
theorem bind_some{c d:Type}{o:Option c}{f:c->Option d}{b:d}(h:o.bind f=some b):∃a,o=some a/\f a=some b:=by
 cases o with
 |none=>cases h|some a=>exact⟨a,rfl,h⟩
theorem map_some{c d:Type}{o:Option c}{f:c->d}{b:d}(h:o.map f=some b):∃a,o=some a/\f a=b:=by
 cases o with
 |none=>cases h|some a=>exact⟨a,rfl,MZ h⟩
set_option tactic.hygienic true
structure kS(cd:Nat->List PV->Option PV)(n:Nat):Prop where
 e:∀(X:Cx)(ct:Ct)(Hi:Hp)(τ:En)(e:Expr)(r:RV),bz cd X ct->af cd (ar n ct e) τ=some r->aH X Hi τ e r
 cm:∀(X:Cx)(ct:Ct)(Hi:Hp)(τ:En)(a:Expr)(ops:List CmpOp)(cs:List Expr)(pos:Pos)(r:RV),bz cd X ct->af cd (ar n ct (.Compare a ops cs pos)) τ=some r->∃t,r=sc (.bl t)/\fE X Hi τ (.Compare a ops cs pos) t
 es:∀(X:Cx)(ct:Ct)(Hi:Hp)(τ:En)(es:List Expr)(rs:List RV),bz cd X ct->fX cd (fH n ct es) τ=some rs->qW X Hi τ es rs/\(∀a∈es,isStar a=false)/\es.length=rs.length/\∀(i:Nat)(a:Expr)(r:RV),es[i]? =some a->rs[i]? =some r->aH X Hi τ a r
 o:∀(X:Cx)(ct:Ct)(Hi:Hp)(τ:En)(e:Option Expr)(o:Option RV)(i:Option Int),bz cd X ct->Iy cd (Fn n ct e) τ=some o->tG o=some i->zW X Hi τ e i
 c:∀(X:Cx)(ct:Ct)(Hi:Hp)(τ:En)(e:Expr)(b:Bool),bz cd X ct->gE cd (nX n ct e) τ=some b->fE X Hi τ e b
 call:∀(X:Cx)(ct:Ct)(Hi:Hp)(τ:En)(x:Str)(es:List Expr)(p pos:Pos)(r:RV),bz cd X ct->af cd (jU n ct x es) τ=some r->aH X Hi τ (.Call (.Name x p) es [] pos) r
 mth:∀(X:Cx)(ct:Ct)(Hi:Hp)(τ:En)(o:Expr)(m:Str)(es:List Expr)(ap cp:Pos)(r:RV),bz cd X ct->(ap.endLine==cp.line)=true->af cd (nW n ct o m es) τ=some r->aH X Hi τ (.Call (.Attribute o m ap) es [] cp) r
 t:∀(X:Cx)(ct:Ct)(Hi:Hp)(τ:En)(tp:Bool)(e tg:Expr)(xs:List PV)(k b:Bool),bz cd X ct->(tp=true->∃ts kk p,tg=.Tuple ts kk p)->qX cd (AG n ct tp e) τ=some (xs,k,b)->kc X Hi τ tg e xs k b/\cS e=false
section
variable{cd:Nat->List PV->Option PV}
theorem jt(h:kM v=some b):v=.bl b:=by cases v<;>first|(cases h;done)|(cases h;rfl)
theorem Bo(h:EV v=some b):v=.int b:=by cases v<;>first|(cases h;done)|(cases h;rfl)
theorem vC{c:Type}{l:List c}(h:l.length=1):∃a,l=[a]:=by
 cases l with
 |nil=>cases h|cons a l=>
  cases l with
  |nil=>exact⟨a,rfl⟩|cons b l=>cases h
theorem uZ{c:Type}{l:List c}(h:l.length=2):∃a b,l=[a,b]:=by
 cases l with
 |nil=>cases h|cons a l=>obtain⟨b,rfl⟩:=vC (show l.length=1 from O9 h);exact⟨a,b,rfl⟩
theorem aO(h:af cd .never a=some r){P:Prop}:P:=by simp[dw]at h
theorem tX{X:Cx}{k:Hp}{d:En}{i:BoolOp}{pos:Pos}{f:Expr->IE}(g:∀e r,af cd (f e) d=some r->aH X k d e r):∀{l:List Expr}{r:RV},af cd (mH i (l.map f)) d=some r->aH X k d (.BoolOp i l pos) r
 |[],r,h=>aO h|[a],r,h=>Hb (g a r h)|a::b::aL,r,h=>by
  have m:= @tX X k d i pos f g (b::aL);cases i with
  |And=>
   have h:af cd (.and (f a) (mH .And ((b::aL).map f))) d=some r:=h;simp only[dk]at h;obtain⟨x,c,h⟩:=bind_some h;have c:=g a x c;obtain⟨t,j,h⟩:=bind_some h;have e:=jt j;cases t with
   |true=>exact Le c e (m h)|false=>cases h;exact Lf c e
  |Or=>
   have h:af cd (.or (f a) (mH .Or ((b::aL).map f))) d=some r:=h;simp only[dv]at h;obtain⟨x,c,h⟩:=bind_some h;have c:=g a x c;obtain⟨t,j,h⟩:=bind_some h;have e:=jt j;cases t with
   |true=>cases h;exact or_t c e|false=>exact or_f c e (m h)
theorem tW{X:Cx}{j:Hp}{d:En}{i:BoolOp}{pos:Pos}{f:Expr->IC}(g:∀e b,gE cd (f e) d=some b->fE X j d e b):∀{k:List Expr}{b:Bool},gE cd (mG i (k.map f)) d=some b->nT X j d (.BoolOp i k pos) b
 |[],r,h=>by have h:gE cd (.val .never) d=some r:=h;simp[zj,dw]at h
 |[a],r,h=>Ha (g a r h)|a::b::aL,r,h=>by
  have l:= @tW X j d i pos f g (b::aL);cases i with
  |And=>
   have h:gE cd (.and (f a) (mG .And ((b::aL).map f))) d=some r:=h;simp only[zn]at h;obtain⟨x,c,h⟩:=bind_some h;have c:=g a x c;cases x with
   |true=>exact Cr c (l h)|false=>cases h;exact Cr c rfl
  |Or=>
   have h:gE cd (.or (f a) (mG .Or ((b::aL).map f))) d=some r:=h;simp only[zk]at h;obtain⟨x,c,h⟩:=bind_some h;have c:=g a x c;cases x with
   |true=>cases h;exact Fz c rfl|false=>exact Fz c (l h)
theorem wz{X:Cx}{l:Hp}{d:En}{f:Expr->IE}(m:∀e r,af cd (f e) d=some r->aH X l d e r):∀{c:List Expr}{b:List RV},fX cd (yh (c.map λe=>if isStar e then .never else f e)) d=some b->qW X l d c b/\(∀a∈c,isStar a=false)/\c.length=b.length/\∀(i:Nat)(a:Expr)(r:RV),c[i]? =some a->b[i]? =some r->aH X l d a r
 |[],b,h=>by
  have h:some []=some b:=by simpa [yh,C9,DA]using h
  cases h;exact⟨JV,λa j=>(by cases j),rfl,λi a r e=>(by simp at e)⟩
 |e::c,b,h=>by
  have h:fX cd (.cons (if isStar e then .never else f e) (yh (c.map λe=>if isStar e then .never else f e))) d=some b:=h;simp only[DA]at h;obtain⟨x,g,h⟩:=bind_some h;obtain⟨t,o,h⟩:=map_some h;subst h;obtain⟨p,s,n,q⟩:=wz m o;cases k:isStar e with
  |true=>rw[k]at g;exact aO g|false=>
   rw[k]at g;refine⟨Fa (m e x g) k p,λa j=> ?_,by rw[MK,MK,n],λi a r e1 e2=> ?_⟩
   .rcases MP.mp j with rfl|j
    .exact k
    .exact s a j
   .cases i with
    |zero=>simp at e1 e2;subst e1 e2;exact m _ _ g
    |succ i=>exact q i a r (by simpa using e1) (by simpa using e2)
theorem LS(j:kS cd n)(C:bz cd X ct)(h:af cd (ar (n+1) ct (.Compare a i v pos)) g=some r):
  ∃t,r=sc (.bl t)/\aH X Hi g (.Compare a i v pos) r/\fE X Hi g (.Compare a i v pos) t:=by
 refine NY λno=> ?_;simp only[qr]at h
 split at h
 .rename_i D b
  split at h;exact aO h
  .rename_i d
   have d:=Nz.mpr d;simp only[de]at h;obtain⟨x,p,h⟩:=bind_some h;obtain⟨y,u,h⟩:=bind_some h;obtain⟨t,l,h⟩:=map_some h;subst h;have k:=j.e X ct Hi g a x C p;have m:=j.e X ct Hi g b y C u;exact no<|⟨t,rfl,JE C.un k m d l,CU C.un k m d l⟩
 .rename_i D f b c
  split at h;exact aO h
  .rename_i d
   rw[No,Pa]at d;obtain⟨d,A⟩:=d;have A:wj f =true:=by simpa using A
   have d:=Nz.mpr d;simp only[df]at h;obtain⟨x,p,h⟩:=bind_some h;obtain⟨y,u,h⟩:=bind_some h;obtain⟨t,l,h⟩:=bind_some h;have k:=j.e X ct Hi g a x C p;have m:=j.e X ct Hi g b y C u;cases t with
   |true=>rw[MF rfl]at h;obtain⟨z,E,h⟩:=bind_some h;obtain⟨o,w,h⟩:=map_some h;subst h;have B:=j.e X ct Hi g c z C E;obtain⟨q,s⟩:=Cb C.un (pos:=pos) k m d l (t2:=o) (o2:=f) (by rw[MF rfl];exact⟨z,B,w⟩);exact no<|⟨o,rfl,q,s⟩
   |false=>rw[ME MI]at h;cases h;obtain⟨q,s⟩:=Cb C.un (pos:=pos) k m d l (t2:=false) (o2:=f) (by rw[ME MI];exact⟨rfl,uk f A⟩);exact no<|⟨false,rfl,q,s⟩
 .exact aO h
theorem LW(w:kS cd n)(C:bz cd X ct)(h:af cd (jU (n+1) ct x g) l=some r):aH X q l (.Call (.Name x p) g [] pos) r:=by
 refine NY λno=> ?_;simp only[z1r]at h
 split at h;exact aO h
 rename_i R;have R:=Nz.mpr R
 split at h
 .rename_i H
  have H:ct.S.lookup x=some .globalImplicit:=by simpa using H
  cases G:ct.F.lookup x with
  |some f=>
   rw[G]at h;dsimp only at h;cases g with
   |nil=>exact aO h|cons e g=>simp only[dg]at h;obtain⟨s,c,h⟩:=bind_some h;obtain⟨v,hv,h⟩:=map_some h;subst h;obtain⟨Y,E,J,I⟩:=w.es X ct q l (e::g) s C c;exact no<|call_ok C R H G E Y hv
  |none=>
   rw[G]at h;dsimp only at h
   split at h
   .rename_i hb
    have j:own ct x=true:=by unfold own;rw[hb,H];rfl
    have plain:∀{g:List Expr}{r:RV},af cd (match mj x g.length with|some f=>IE.bf f (fH n ct g)|none=>.never) l=some r->aH X q l (.Call (.Name x p) g [] pos) r:=by
     intro g r h;cases m:mj x g.length with
     |none=>rw[m]at h;exact aO h|some f=>
      rw[m]at h;simp only[di]at h;obtain⟨s,c,h⟩:=bind_some h;obtain⟨Y,E,J,I⟩:=w.es X ct q l g s C c;have P:∀a,g=[a]->aH X q l (.Call (.Name x p) g [] pos) r:=by intro a L;subst L;obtain⟨o,rfl⟩:=vC (show s.length=1 from J.symm);exact bf1_ok C j m (E a (by simp)) (I 0 a o rfl rfl) h
      have M:∀a b,g=[a,b]->aH X q l (.Call (.Name x p) g [] pos) r:=by intro a b L;subst L;obtain⟨o,rb,rfl⟩:=uZ (show s.length=2 from J.symm);exact JQ C j m (E a (by simp)) (E b (by simp)) (I 0 a o rfl rfl) (I 1 b rb rfl rfl) h
      have A:g.length=1\/g.length=2:=by rcases jx m with⟨_,z,_⟩|⟨_,z,_⟩|⟨_,z,_⟩|⟨_,z,_⟩|⟨_,z,_⟩|⟨_,z,_⟩|⟨_,z,_⟩|⟨_,z,_⟩|⟨_,z,_⟩|⟨_,z,_⟩|⟨_,z,_⟩<;>simp[z]
      rcases A with A|A
      .obtain⟨a,K⟩:=vC A
       exact P a K
      .obtain⟨a,b,K⟩:=uZ A
       exact M a b K
    split at h
    .rename_i Q
     have Q:x=("isinstance":Str):=Mf Q;subst Q
     split at h
     .rename_i a t W
      split at h
      .rename_i ty N
       split at h;exact aO h
       .rename_i u
        have u:=Nz.mpr u
        split at h
        .rename_i T
         simp only[di,C9,DA]at h;obtain⟨s,c,h⟩:=bind_some h;obtain⟨o,k,D⟩:=bind_some c;cases D;have h:(bj ty o.val).map (λb=>sc (.bl b))=some r:=h;obtain⟨b,O,h⟩:=map_some h;subst h;exact no<|isin_ok C j N T u (w.e X ct q l a o C k) O
        .exact aO h
      .exact aO h
     .exact aO h
    .split at h
     .rename_i y yp a V
      split at h
      .rename_i f G
       split at h;exact aO h
       .rename_i u
        simp only[No,Pa,OC,Bool.not_eq_false']at u;simp only[di,C9,DA]at h;obtain⟨s,c,h⟩:=bind_some h;obtain⟨o,k,D⟩:=bind_some c;cases D;exact no<|nst_ok C j u.2 G u.1 (w.e X ct q l a o C k) h
      .exact no<|plain h
     .rename_i a0 gs scope lp
      split at h
      .rename_i d i gj
       obtain⟨rfl,B,⟨hl,g1,g2,g3,Z,g5,g6⟩⟩:=yr gj;simp only[di,dS,C9,DA]at h;obtain⟨s,c,h⟩:=bind_some h;obtain⟨rl,U,D⟩:=bind_some c;obtain⟨o,k,h3⟩:=bind_some U;cases D;exact no<|bf1_ok C j (show mj ("sum":Str) 1=some .sum from rfl) rfl (Hz C g1 g2 g3 Z g5 g6 B hl (w.e X ct q l d o C k) h3) h
      .exact no<|plain h
     .exact no<|plain h
   .exact aO h
 .exact aO h
theorem mthE(f:kS cd n)(C:bz cd X ct)(g:(a.endLine==c.line)=true)(h:af cd (nW (n+1) ct o m b) d=some r):aH X e d (.Call (.Attribute o m a) b [] c) r:=by
 refine NY λno=> ?_;simp only[z2d]at h
 split at h;exact aO h;exact aO h
theorem Ko(l:kS cd n)(C:bz cd X ct)(I:H=true->∃z D p,B=.Tuple z D p)(h:qX cd (AG (n+1) ct H e) i=some (v,k,b)):kc X j i B e v k b/\cS e=false:=by
 simp only[z2x]at h
 split at h;simp[Fk]at h
 rename_i d;have d:=Nz.mpr d;refine⟨?_,d⟩;have o:qX cd (.seq (ar n ct e)) i=some (v,k,b)->kc X j i B e v k b:=by intro h;simp only[C5]at h;obtain⟨r,T,h⟩:=bind_some h;exact Gg (l.e X ct j i e r C T) h
 have m:∀{P:Prop},qX cd .never i=some (v,k,b)->P:=by intro P h;simp[Fk]at h
 split at h
 .rename_i a M
  split at h;exact m h
  .rename_i c
   simp only[No,Pa,OC,Bool.not_eq_false']at c;obtain⟨p,q,rfl⟩:=yX M;simp only[C6]at h;obtain⟨s,g,h⟩:=bind_some h;obtain⟨w,u,h⟩:=map_some h;cases h;exact Gm C c.2 c.1 (l.e X ct j i a s C g) u
 split at h
 .rename_i x J c
  obtain⟨p,pos,rfl⟩:∃p pos,e=.Call (.Name x p) J [] pos:=by
   unfold fi at c
   split at c;cases c;exact⟨_,_,rfl⟩;cases c
  split at h
  .rename_i f
   have f:=Mf f;subst f
   split at h
   .rename_i S
    simp only[C7]at h;obtain⟨U,G,h⟩:=bind_some h;obtain⟨W,N,h⟩:=map_some h;cases h;obtain⟨O,Q,L,V⟩:=l.es X ct j i J U C G;exact Gq C S Q O L N
   .exact m h
  .split at h
   .rename_i f
    have f:=Mf f;subst f
    split at h
    .rename_i a Y
     split at h;exact m h
     .rename_i c
      simp only[No,Pa,OC,NJ]at c;obtain⟨⟨⟨y,K⟩,F⟩,A⟩:=c;obtain⟨z,D,t,rfl⟩:=I (by simpa using F);simp only[C4]at h;obtain⟨s,g,h⟩:=bind_some h;obtain⟨R,E,h⟩:=bind_some h;obtain⟨w,u,h⟩:=map_some h;cases h;exact GE C (by simpa using A) y K (l.e X ct j i _ s C g) (l.e X ct j i _ R C E) u
    .exact m h
   .split at h
    .rename_i f
     have f:=Mf f;subst f
     split at h
     .rename_i a
      split at h;exact m h
      .rename_i c
       simp only[No,Pa,OC,NJ]at c;obtain⟨⟨y,F⟩,A⟩:=c;obtain⟨z,D,t,rfl⟩:=I (by simpa using F);simp only[C8]at h;obtain⟨s,g,h⟩:=bind_some h;obtain⟨w,u,h⟩:=map_some h;cases h;exact Ek C (by simpa using A) y (l.e X ct j i _ s C g) u
     .exact m h
    .exact o h
 .exact o h
theorem lcE(o:kS cd n)(C:bz cd X ct)(h:af cd (ar (n+1) ct (.ListComp g M scope pos)) B=some r):
  ∃J a d N' s,M=[⟨J,a,d,0⟩]/\bY X scope N' s/\scope.kind=.function/\(∀y∈scope.names,y.2=.cell->scope.names.lookup y.1=some .cell)/\(∀y∈scope.names,y.2=.local->scope.names.lookup y.1=some .local)/\eT X.env.scope scope=true/\cS a=false /\ ∀(O:List Addr)(j:L2.St)(H:Hp)(Q:VK),ao X.K Hi O B j H->(∀u T,aC H T ->ag X.K Hi O H T r u->Q u T)->Ga X N' s scope J d g (λσ H R=>WI X J a j H R) j H Q:=by
 refine NY λno=> ?_;simp only[qj]at h
 split at h
 .rename_i t p a d
  split at h
  .rename_i i
   cases m:slots ct.N (frees scope)with
   |none=>rw[m]at h;exact aO h|some A=>
    rw[m]at h;simp only[dW]at h;obtain⟨w,W,h⟩:=bind_some h;obtain⟨Y,G,b⟩:=w;dsimp only at h
    split at h
    .rename_i V
     obtain⟨U,l,h⟩:=map_some h;obtain⟨VS,NN⟩:=U;subst h;obtain⟨P,f⟩:=o.t X ct Hi B false a (.Name t p) Y G b C (λz=>by cases z) W;obtain⟨E,I,F,g4,g5,g6,g7⟩:=l5 i;obtain⟨L,Z,D⟩:=EQ (elt:=g) (ifs:=d) C i m f P V (λX' τ' k C' hk=>by
      split at hk
      .simp only[GG]at hk
       cases hk;exact⟨_,lX,λO j H Q R q=>q H (aC.refl _)⟩
      .rename_i c
       simp only[GF]at hk;exact⟨_,lW lQ,λO j H Q R q=>o.c X' _ Hi τ' _ k C' hk O j H Q R q⟩
      .simp[GF,zj,dw]at hk) (λX' τ' r' C' hr' =>o.e X' _ Hi τ' g r' C' hr') l
     exact no<|⟨.Name t p,a,d,_,_,rfl,L,E,I,F,Z,f,D⟩
    .cases h
  .exact aO h
 .cases S:wI M with
  |none=>rw[S]at h;exact aO h|some w=>
   obtain⟨t,t2,a,d⟩:=w;rw[S]at h;obtain⟨p,v,kk,x,rfl⟩:=yI S;dsimp only at h
   split at h
   .rename_i i
    cases m:slots ct.N (frees scope)with
    |none=>rw[m]at h;exact aO h|some A=>
     rw[m]at h;simp only[dU]at h;obtain⟨w,W,h⟩:=bind_some h;obtain⟨Y,G,b⟩:=w;dsimp only at h
     split at h
     .rename_i V
      obtain⟨U,l,h⟩:=map_some h;obtain⟨VS,NN⟩:=U;subst h;obtain⟨P,f⟩:=o.t X ct Hi B true a (.Tuple [.Name t p,.Name t2 v] kk x) Y G b C (λ_=>⟨_,_,_,rfl⟩) W;obtain⟨E,I,F,g4,g5,g6,g8,g7⟩:=gB i;obtain⟨L,Z,D⟩:=BW (elt:=g) (ifs:=d) C i m f P V (λX' τ' k C' hk=>by
       split at hk
       .simp only[GG]at hk
        cases hk;exact⟨_,lX,λO j H Q R q=>q H (aC.refl _)⟩
       .rename_i c
        simp only[GF]at hk;exact⟨_,lW lQ,λO j H Q R q=>o.c X' _ Hi τ' _ k C' hk O j H Q R q⟩
       .simp[GF,zj,dw]at hk) (λX' τ' r' C' hr' =>o.e X' _ Hi τ' g r' C' hr') l
      exact no<|⟨.Tuple [.Name t p,.Name t2 v] kk x,a,d,_,_,rfl,L,E,I,F,Z,f,D⟩
     .cases h
   .exact aO h
theorem expE(g:kS cd n)(C:bz cd X ct)(h:af cd (ar (n+1) ct e) j=some r):aH X d j e r:=by
 cases e with
 |Constant c k pos=>simp only[qp]at h;exact uB h|Name x pos=>simp only[qi]at h;exact ko C h|BinOp a L b pos=>simp only[qv,dh]at h;obtain⟨x,s,h⟩:=bind_some h;obtain⟨y,J,h⟩:=bind_some h;exact uN (g.e X ct d j a x C s) (g.e X ct d j b y C J) h
 |UnaryOp L a pos=>
  simp only[qb]at h;cases L with
  |USub=>simp only[dQ]at h;obtain⟨x,s,h⟩:=bind_some h;obtain⟨i,z,h⟩:=map_some h;subst h;exact Hh (g.e X ct d j a x C s) (Bo z)
  |Not=>simp only[dP]at h;obtain⟨x,s,h⟩:=bind_some h;obtain⟨i,z,h⟩:=map_some h;subst h;exact He (g.e X ct d j a x C s) (jt z)
  |_=>exact aO h
 |Compare a a0 cs pos=>obtain⟨t,_,M,_⟩:=LS g (Hi:=d) C h;exact M
 |BoolOp L N pos=>
  simp only[qu]at h
  split at h;exact aO h;exact tX (λe r h=>g.e X ct d j e r C h) h
 |IfExp c a b pos=>
  simp only[qm,dY]at h;obtain⟨t,ht,h⟩:=bind_some h;refine IL (g.c X ct d j c t C ht) ?_;cases t with
  |true=>exact g.e X ct d j a r C h|false=>exact g.e X ct d j b r C h
 |List D pos=>simp only[qk,dR]at h;obtain⟨E,A,h⟩:=bind_some h;obtain⟨w,B,h⟩:=bind_some h;obtain⟨N,F⟩:=w;exact Hn (g.es X ct d j D E C A).1 B h
 |Tuple D k pos=>simp only[qe,dN]at h;obtain⟨E,A,h⟩:=bind_some h;obtain⟨w,B,h⟩:=bind_some h;obtain⟨N,F⟩:=w;exact GN (g.es X ct d j D E C A).1 B h
 |Dict P N pos=>
  simp only[qo]at h
  split at h
  .simp only[dz]at h
   cases h;exact Ep
  .rename_i c _ _ v
   split at h
   .simp only[dZ]at h
    obtain⟨x,s,h⟩:=bind_some h;obtain⟨w,B,h⟩:=bind_some h;obtain⟨v',F⟩:=w;dsimp only at h
    split at h
    .rename_i z
     cases h;exact xZ dB (λ_ _ _ q=>q) (g.e X ct d j v x C s) B z
    .cases h
   .simp only[dZ]at h
    obtain⟨x,s,h⟩:=bind_some h;obtain⟨w,B,h⟩:=bind_some h;obtain⟨v',F⟩:=w;dsimp only at h
    split at h
    .rename_i z
     cases h;exact xZ uy (λ_ _ _ q=>q) (g.e X ct d j v x C s) B z
    .cases h
   .exact aO h
  .exact aO h
 |Subscript a i pos=>
  simp only[qg]at h
  split at h
  .rename_i lo z V sp
   cases V with
   |none=>simp only[dO]at h;obtain⟨x,s,h⟩:=bind_some h;obtain⟨l,S,h⟩:=bind_some h;obtain⟨u,hu,h⟩:=bind_some h;obtain⟨W,G,h⟩:=bind_some h;obtain⟨u',I,h⟩:=bind_some h;exact AU (g.e X ct d j a x C s) (g.o X ct d j lo l W C S G) (g.o X ct d j z u u' C hu I) h
   |some V=>exact aO h
  .rename_i K
   simp only[dX]at h;obtain⟨x,s,h⟩:=bind_some h;obtain⟨y,J,h⟩:=bind_some h;refine Bq C.un ?_ (g.e X ct d j a x C s) (g.e X ct d j i y C J) h;cases i<;>first|rfl|(exfalso;exact K _ _ _ _ rfl)
 |Call f D P U=>
  simp only[qt]at h;cases P with
  |nil=>
   dsimp only at h;cases f with
   |Name x p=>exact g.call X ct d j x D p U r C h|Attribute o m ap=>
    dsimp only at h
    split at h
    .rename_i S
     exact g.mth X ct d j o m D ap U r C S h
    .exact aO h
   |_=>exact aO h
  |cons k P=>exact aO h
 |ListComp a1 gs scope pos=>obtain⟨tg,T,a2,N',Z,rfl,M,h2,Y,h4,h5,h6,h7⟩:=lcE g (Hi:=d) C h;intro O σ H Q R q;exact we (A2 C.calm HD M h2 Y h4 h5 (pY h6)) (h7 O σ H Q R q)
 |_=>(try simp only[qw,qp,qi,qv,qb,qr,qu,qm,qk,qe,qo,qg,qt,qj]at h);exact aO h
theorem tstE(j:kS cd n)(C:bz cd X ct)(h:gE cd (nX (n+1) ct e) f=some b):fE X g f e b:=by
 have plain:∀{e:Expr},gE cd (.val (ar n ct e)) f=some b->(∀d,isTrue e X.env d=(do let v<-d;standAt e.pos;holding [v] (truthy v)))->fE X g f e b:=by intro e h q;simp only[zj]at h;obtain⟨x,k,h⟩:=bind_some h;exact GL (j.e X ct g f e x C k) h q
 cases e with
 |UnaryOp o a p=>
  simp only[Js]at h;cases o with
  |Not=>simp only[zm]at h;obtain⟨t,l,h⟩:=map_some h;subst h;exact Hd (j.c X ct g f a t C l)
  |_=>exact plain h λ_=>rfl
 |BoolOp o s p=>simp only[Ju]at h;exact(tW (λe b h=>j.c X ct g f e b C h) h).tc
 |IfExp c a r p=>simp[Jt,zj,dw]at h
 |Compare a i m pos=>have h:gE cd (.val (ar n ct (.Compare a i m pos))) f=some _:=h;simp only[zj]at h;obtain⟨x,k,h⟩:=bind_some h;obtain⟨t,rfl,l⟩:=j.cm X ct g f a i m pos x C k;cases h;exact l
 |_=>(try simp only[Jv,Js,Ju,Jt]at h);exact plain h λ_=>rfl
theorem jN:∀n:Nat,kS cd n
 |0=>by
  refine⟨λX ct Hi τ e r C h=> ?_,λX ct Hi τ a ops cs pos r C h=> ?_,λX ct Hi τ es rs C h=> ?_,λX ct Hi τ e o i C h=> ?_,λX ct Hi τ e b C h=> ?_,λX ct Hi τ x es p pos r C h=> ?_,λX ct Hi τ o m es ap cp r C hl h=> ?_,λX ct Hi τ tp e tg xs k b C ht h=> ?_⟩
  .simp[qw,dw]at h
  .simp[qw,dw]at h
  .simp[z2a,C9,DA,dw]at h
  .simp[z2e,z0v,dw]at h
  .simp[Jv,zj,dw]at h
  .simp[z1q,dw]at h
  .simp[z2c,dw]at h
  .simp[z2w,Fk]at h
 |n+1=>by
  have c:=jN n;refine⟨λX ct Hi τ e r C h=>expE c C h,λX ct Hi τ a ops cs pos r C h=> ?_,λX ct Hi τ es rs C h=> ?_,λX ct Hi τ e o i C h hi=> ?_,λX ct Hi τ e b C h=>tstE c C h,λX ct Hi τ x es p pos r C h=>LW c C h,λX ct Hi τ o m es ap cp r C hl h=>mthE c C hl h,λX ct Hi τ tp e tg xs k b C ht h=>Ko c C ht h⟩
  .obtain⟨t,d,_,f⟩:=LS c (Hi:=Hi) C h
   exact⟨t,d,f⟩
  .simp only[z2b]at h
   exact wz (λe r h=>c.e X ct Hi τ e r C h) h
  .cases e with
   |none=>simp only[z2f,z0u]at h;cases h;cases hi;exact True.intro
   |some e=>
    simp only[z2g,z0v]at h;obtain⟨r,l,h⟩:=map_some h;subst h;simp only[tG]at hi
    split at hi
    .rename_i j g
     cases hi;exact⟨r,c.e X ct Hi τ e r C l,g⟩
    .cases hi
end
end IR
namespace L2
open PySem PySem.Spec PyProof.Rows
section
variable{X:Cx}{pins:List (Addr×Obj)}{σ:St}{H:Hp}{s:Shared}
theorem Aq(T:X.calm=true)(hi:PI X d f O)(z:bY X scope P u)
  (r:scope.kind=.function) (t:∀y∈scope.names,y.2=.cell->scope.names.lookup y.1=some .cell) (l:∀y∈scope.names,y.2=.local->scope.names.lookup y.1=some .local)
  (F:eT X.env.scope scope=true)
  (hs:∀x,foldedSetIterable f X.env x=pure x) (Z:X.N.Nodup) (L:X.N[M]? =some j) (B:Loc X.env.scope j) (W:X.fn j=true\/X.env.scope.names.lookup j=some .local)
  (E:swapsWith (.ListComp k [⟨d,f,n,0⟩] scope pos) (some (.Name j g)) i.line X.env=pure true):
  PS X (.Assign [.Name j g] (.ListComp k [⟨d,f,n,0⟩] scope pos) i) (Ge (Ga X P u scope d n k O) (tP M)):=by
 intro q s V H S I h;rw[exec_Assign_Name_used j g _ i E];refine L8 (wpAny_standAt (L8 ?_));show wpAny (model X.prog X.w) X.A (comprehension (.ListComp k [⟨d,f,n,0⟩] scope pos) scope X.env _ (newList []) false _ (some (assign (.Name j g) X.env)) >>= λ_=>pure ()) _ _ _;refine L8 (aj (Q:=λ_ s' =>SP X q S .next s') ?_ λ_ s9 h9=>MC (MC h9));refine xF (use:=some (assign (.Name j g) X.env)) T hi z r t l F hs I h λC a' s2 s4 H2 H3 fp cl m I2 f2 below hCle I4 hn qn _=> ?_;have u4:Un (vS X.stack) fp H2 H3 s2.heap s4.heap:=I4.base;have R:Inv X q V H3 s4:=I2.call' (s' :=s4) (ch:=fp) I4.os u4 I4.hok I4.bare λb hb=>⟨(f2 b hb).2.2.2.1,(f2 b hb).2.1,(f2 b hb).2.2.2.2.1,(f2 b hb).2.2.2.2.2⟩;have G:H3 C=none:=I4.free;refine wpAny_assign_Name (ng R Z L B (v:=.ref a') rfl (λs5 I5 ⟨a,sb,D⟩=> ?_) W);have J:C≠a:=by
  rcases D with rfl|D
  .exact(below _ I2.lt).symm
  .obtain⟨v,K⟩:=I2.cell _ _ D
   exact(below _ K.lt).symm
 refine⟨m,?_,λh' hs' => ?_⟩
 .obtain⟨ob,es,ep,Y,U⟩:=hn
  exact⟨ob,es,ep,(sb.2 _ J).trans Y,U⟩
 .refine⟨_,H3,I5.turned (t' :=s5.toks) (it:=C) (λb o ne e=>(hs'.2 b ne).trans e) G (below _ I2.lt).symm (.inr (Mq I2.sz hCle)) (λx c e=> ?_) (λp hp=> ?_),qn⟩
  .obtain⟨v,K⟩:=I2.cell x c e
   exact below _ K.lt
  .exact below _ (MY (I2.pin p hp).1)
end
end L2
namespace IR
open PySem PySem.Spec PyProof.Rows L2
section
variable{X:Cx}{Hi:Hp}{τ:En}{cd:Nat->List PV->Option PV}{ct:Ct}
abbrev WS(X:Cx)(b:Stmt)(D:cq)(c:L2.St)(H:Hp):Prop:=∀(a:List (Addr×Obj))(s:Shared),Inv X a c H s->wpAny (model X.prog X.w) X.A (exec b X.env) (SP X a D) X.xe s
abbrev WSs(X:Cx)(b:List Stmt)(D:cq)(c:L2.St)(H:Hp):Prop:=∀(a:List (Addr×Obj))(s:Shared),Inv X a c H s->wpAny (model X.prog X.w) X.A (execs b X.env) (SP X a D) X.xe s
theorem ps_w:PS X a (λD σ H=>WS X a D σ H):=λpins s σ H D I h=>h pins s I
theorem ny:wA X a (λD σ H=>WSs X a D σ H):=λpins s σ H D I h=>h pins s I
theorem ws(h:PS X b t)(q:t D a H):WS X b D a H:=λpins s I=>h pins s a H D I q
theorem wss(h:wA X b t)(q:t D a H):WSs X b D a H:=λpins s I=>h pins s a H D I q
variable(X Hi)in
def xq(O:List Addr)(H:Hp)(c:En)(P:L2.St->Hp->Prop):Prop:=∀(a:L2.St)(b:Hp)(d:List Addr),ao X.K Hi d c a b ->a.length=X.N.length->aC (aU H O) (aU b d)->P a b
variable(X Hi)in
def Cu(c:Fl)(O:List Addr)(H:Hp)(D:cq):Prop:=match c with
 | .nx a=>xq X Hi O H a D.nx| .bk a=>xq X Hi O H a D.bk| .ct a=>xq X Hi O H a D.ct| .rt v=>∀u b,aC Hi b ->Rp X.K Hi true v b u->D.rt u b
variable(X Hi τ)in
def nV(b:Stmt)(c:Fl):Prop:=∀(O:List Addr)(a:L2.St)(H:Hp)(D:cq),ao X.K Hi O τ a H->a.length=X.N.length->Cu X Hi c O H D->WS X b D a H
variable(X Hi τ)in
def zU(b:List Stmt)(c:Fl):Prop:=∀(O:List Addr)(a:L2.St)(H:Hp)(D:cq),ao X.K Hi O τ a H->a.length=X.N.length->Cu X Hi c O H D->WSs X b D a H
theorem xq.from(h:xq X Hi O H a P)(s:aC (aU H O) (aU b c)):xq X Hi c b a P:=λσ2 H2 O2 R hl s2=>h σ2 H2 O2 R hl (s.trans s2)
theorem Cu.from(h:Cu X Hi b O H D)(s:aC (aU H O) (aU c d)):Cu X Hi b d c D:=by
 cases b with
 |nx a=>exact xq.from (show xq X Hi O H a D.nx from h) s|bk a=>exact xq.from (show xq X Hi O H a D.bk from h) s|ct a=>exact xq.from (show xq X Hi O H a D.ct from h) s|rt v=>exact h
theorem lw(C:bz cd X ct)(h:loc ct x=some i):X.N[i]? =some x/\L2.Loc X.env.scope x/\wq x=false/\GK ct.S x=true:=by
 unfold loc at h
 split at h
 .rename_i c
  rw[MH]at c;refine⟨by rw[C.N];exact fw h,?_,by simpa using c.2,?_⟩
  .unfold L2.Loc
   rw[C.S]
   simpa using c.1
  .unfold GK
   have:=c.1;simp only[No]at this ⊢;exact .inl this
 .cases h
theorem qI(R:ao X.K Hi O τ b H):∃a,ao X.K Hi a (br cap τ) b H/\aC (aU H O) (aU H a):=by obtain⟨a,c,h⟩:=R.freezes (cap:=cap);exact⟨a,c,xM h⟩
theorem Gu(R:ao X.K Hi O τ k H)(s:aC H a)(q:i<k.length)(g:ag X.K Hi O H a r u)(h:pN o i r τ=some d):
  ∃y,ao X.K Hi y d (k.set i (some u)) a /\aC (aU H O) (aU a y):=by
 unfold pN at h
 split at h
 .rename_i C n
  cases h;obtain⟨p,z,rfl,f,l,t⟩:=g;have x:aC (aU (del a p) O) (aU a (p::O)):=λb o e=>by
   unfold aU del at e;unfold aU
   split at e;cases e
   .rename_i c
    split at e;cases e
    .rename_i m
     rw[ME (by simp[m,c])];exact e
  refine⟨p::O,R.setO q s f l (t.mono x),λb o e=> ?_⟩;unfold aU at e ⊢
  split at e;cases e
  .rename_i c
   have j:b≠p:=aD e f;rw[ME (by simp[j,c])];exact s b o e
 .rename_i b C n
  cases h;obtain⟨p,z,o,rfl,f,l,A,t⟩:=g;have x:aC (aU (del a p) O) (aU a (p::O)):=λb o e=>by
   unfold aU del at e;unfold aU
   split at e;cases e
   .rename_i c
    split at e;cases e
    .rename_i m
     rw[ME (by simp[m,c])];exact e
  refine⟨p::O,R.setB rfl q s f l A (t.mono x),λb o e=> ?_⟩;unfold aU at e ⊢
  split at e;cases e
  .rename_i c
   have j:b≠p:=aD e f;rw[ME (by simp[j,c])];exact s b o e
 .obtain⟨w,B,h⟩:=map_some h
  obtain⟨v,n⟩:=w;subst h;exact⟨O,(R.ext s).setF q (g.keep R s B),aP s⟩
set_option tactic.hygienic false
theorem Hf(h:Bm e=false\/a.kindOf x≠some .local):swapsWith e (some (.Name x p)) l a=pure false:=by
 rcases h with h|h
 .cases e<;>first|rfl|cases h
 .have b:(a.kindOf x==some NameKind.local)=false:=by simpa using h
  cases e<;>first|rfl|(show(pure (_&&(a.kindOf x==some NameKind.local)&&_&&_):Sem Bool)=pure false;rw[b,Bool.and_false,Pj,Pj])
theorem JU(C:bz cd X ct)(h:X.fn=λ_=>true)(V:loc ct x=some i)(m:af cd (ar n ct e) (br f τ)=some r)(hp:pN o i r (br f τ)=some j):
  nV X Hi τ (.Assign [.Name x F] e pos) (.nx j):=by
 intro O k H D R L q;obtain⟨t,z,h3,h4⟩:=lw C V;obtain⟨p,v,s1⟩:=qI (cap:=f) R;have J:=(jN n).e X ct Hi (br f τ) e r C m;have hi:i<k.length:=by rw[L];exact(MV.mp t).1
 have B:X.N.Nodup:=by rw[C.N];exact C.nd
 have g:∀u w,aC H w ->ag X.K Hi p H w r u->D.nx (k.set i (some u)) w:=λu w s ok=>by obtain⟨S,R2,s2⟩:=Gu v s hi ok hp;exact q _ _ S R2 (by rw[Nm];exact L) (s1.trans s2)
 by_cases y:Bm e=false\/X.env.kindOf x≠some .local
 .refine ws (d6 B t z aa (Hf y) (.inl (by rw[h]))) ?_
  exact J p k H _ v g
 .rw[Pa]at y
  obtain⟨Q,G⟩:=y;have G:X.env.kindOf x=some .local:=Classical.not_not.mp G;cases e with
  |ListComp A gs scope lp=>
   cases n with
   |zero=>simp[qw,dw]at m|succ n=>
    obtain⟨tg,l,E,N',U,rfl,W,Z,Y,M,T,P,g7⟩:=lcE (jN n) (Hi:=Hi) C m;obtain⟨b,I⟩:∃b,swapsWith (.ListComp A [⟨tg,l,E,0⟩] scope lp) (some (.Name x F)) pos.line X.env=pure b:=⟨_,rfl⟩;cases b with
    |true=>exact ws (Aq C.calm HD W Z Y M T (pY P) B t z (.inl (by rw[h])) I) (g7 p k H _ v g)|false=>exact ws (d6 B t z aa I (.inl (by rw[h]))) (J p k H _ v g)
  |SetComp a b c d=>exact aO (by cases n<;>exact m)|DictComp a b c d e=>exact aO (by cases n<;>exact m)|_=>exact absurd rfl Q
theorem Gs(C:bz cd X ct)(d:af cd (ar n ct e) (br a τ)=some r)(f:r.keep=some (v,true)):nV X Hi τ (.Return (some e) pos) (.rt v):=by intro O g H D R i q;obtain⟨c,b,h⟩:=qI (cap:=a) R;refine ws (ja aa) ?_;exact(jN n).e X ct Hi _ e r C d c g H _ b λu H' s ok=>q u H' (R.same.trans s) ((ok.keep b s f).mono aQ)
theorem Dg:nV X Hi τ (.Return none pos) (.rt .non):=by intro O b H D R a q;exact ws Dk (q _ _ R.same (Rp.non.mpr rfl))
theorem IW(g:fE X Hi τ c t)(h:zU X Hi τ (if t=true then a else b) d):nV X Hi τ (.If c a b pos) d:=by
 intro O e H D R f q;refine ws (sC lQ ny ny) ?_;refine g O e H _ R λH1 s1=> ?_;cases t with
 |true=>exact nD ((show zU X Hi τ a d from h) O e H1 _ (R.ext s1) f (q.from (aP s1)))|false=>exact pe ((show zU X Hi τ b d from h) O e H1 _ (R.ext s1) f (q.from (aP s1)))
theorem xC(C:bz cd X ct)(o:X.fn=λ_=>true):∀{d:List Expr}{l:List Nat},locs ct d=some l->∃t,Lp X d t/\(assignEach d X.env).length=l.length/\(assignEach d X.env).findIdx? (·.1)=none /\ ∀(O:List Addr)(v c:En)(g:L2.St)(H:Hp)(n:Bool)(j:List PV)(s:List V)(Q:L2.St->Hp->Prop),ao X.K Hi O v g H->g.length=X.N.length->aI X.K Hi n j (aU H O) s->d0 n l j v=some c -> (∀f,ao X.K Hi O c f H->f.length=X.N.length->Q f H)->t s g H Q
 |[],l,h=>by
  cases h;refine⟨_,iZ,rfl,rfl,λO v c g H n j s Q R hl r e q=> ?_⟩;cases j with
  |nil=>obtain rfl:=r;cases e;exact⟨rfl,q g R hl⟩
  |cons x j=>cases e
 | .Name x p::d,l,h=>by
  have h:(loc ct x).bind (λi=>(locs ct d).map (i::·))=some l:=h;obtain⟨i,G,h⟩:=bind_some h;obtain⟨M,B,h⟩:=map_some h;subst h;obtain⟨z,D,J,L⟩:=lw C G;obtain⟨t,F,m,I,k⟩:=xC C o B;refine⟨_,cE (aq (by rw[C.N];exact C.nd) z D (.inl (by rw[o]))) F rfl,?_,?_,λO v c g H n j s Q R hl r e q=> ?_⟩
  .show(assignEach d X.env).length+1=_
   rw[m];rfl
  .show List.findIdx? (·.1) ((false,assign (.Name x p) X.env)::assignEach d X.env)=none
   rw[List.findIdx?_cons,I];rfl
  .cases j with
   |nil=>cases e|cons y E=>
    obtain⟨u,A,rfl,a,b⟩:=r;have w:i<g.length:=by rw[hl];exact(MV.mp z).1
    exact⟨u,A,rfl,k O _ c _ H n E A Q (R.setF w a.up) (by rw[Nm];exact hl) b e q⟩
 | .BoolOp .. ::_,_,h=>by cases h| .NamedExpr .. ::_,_,h=>by cases h| .BinOp .. ::_,_,h=>by cases h| .UnaryOp .. ::_,_,h=>by cases h| .Lambda .. ::_,_,h=>by cases h| .IfExp .. ::_,_,h=>by cases h| .Dict .. ::_,_,h=>by cases h| .Set .. ::_,_,h=>by cases h| .ListComp .. ::_,_,h=>by cases h| .SetComp .. ::_,_,h=>by cases h| .DictComp .. ::_,_,h=>by cases h| .GeneratorExp .. ::_,_,h=>by cases h| .Await .. ::_,_,h=>by cases h| .Yield .. ::_,_,h=>by cases h| .YieldFrom .. ::_,_,h=>by cases h| .Compare .. ::_,_,h=>by cases h| .Call .. ::_,_,h=>by cases h| .FormattedValue .. ::_,_,h=>by cases h| .JoinedStr .. ::_,_,h=>by cases h| .Constant .. ::_,_,h=>by cases h| .Attribute .. ::_,_,h=>by cases h| .Subscript .. ::_,_,h=>by cases h| .Starred .. ::_,_,h=>by cases h| .List .. ::_,_,h=>by cases h| .Tuple .. ::_,_,h=>by cases h| .Slice .. ::_,_,h=>by cases h
theorem Jy(C:bz cd X ct)(hfn:X.fn=λ_=>true)(h:AF ct tg=some (is,one)):(one=false->∃ts k p,tg=.Tuple ts k p)/\∃g,PG X tg g /\ ∀(O:List Addr)(τ τ' :En)(σ:L2.St)(H:Hp)(n:Bool)(x:PV)(u:V)(Q:L2.St->Hp->Prop),ao X.K Hi O τ σ H->σ.length=X.N.length->Rp X.K Hi n x (aU H O) u->pG is one n x τ=some τ' -> (∀σ',ao X.K Hi O τ' σ' H->σ'.length=X.N.length->Q σ' H)->g u σ H Q:=by
 cases tg with
 |Name x p=>
  obtain⟨i,hi,h⟩:=map_some (show(loc ct x).map (λi=>([i],true))=some (is,one)from h);cases h;obtain⟨h1,h2,h3,h4⟩:=lw C hi;refine⟨λz=>(by cases z),_,aq (by rw[C.N];exact C.nd) h1 h2 (.inl (by rw[hfn])),λO τ τ' σ H n x u Q R hl r e q=> ?_⟩;have e:some (τ.set i (.frz x (n||imm x)))=some τ' :=e;cases e;have hi' :i<σ.length:=by rw[hl];exact(MV.mp h1).1
  exact q _ (R.setF hi' r.up) (by rw[Nm];exact hl)
 |Tuple es k p=>
  obtain⟨js,hj,h⟩:=map_some (show(locs ct es).map (λis=>(is,false))=some (is,one)from h);cases h;obtain⟨t,pt,hlen,hf,kk⟩:=xC (Hi:=Hi) C hfn hj;refine⟨λ_=>⟨_,_,_,rfl⟩,_,lY C.calm pt hlen hf,λO τ τ' σ H n x u Q R hl r e q=> ?_⟩;cases x with
  |tup xs=>
   obtain⟨a,us,rfl,l,r2⟩:=Rp.tup.mp r;have e:d0 n is xs τ=some τ' :=e;have hz:∀{is:List Nat}{xs:List PV}{τ τ' :En},d0 n is xs τ=some τ' ->xs.length=is.length:=by
    intro is
    induction is with
    |nil=>intro xs τ τ' e;cases xs with
     |nil=>rfl|cons _ _=>cases e
    |cons i is ih=>intro xs τ τ' e;cases xs with
     |nil=>cases e|cons x xs=>rw[MK,MK,ih (show d0 n is xs _=some τ' from e)]
   exact⟨a,us,rfl,(aQ (O:=O)).tup l,by rw[<- r2.len];exact hz e,kk O τ τ' σ H n xs us Q R hl r2 e q⟩
  |_=>cases e
 |_=>cases h
theorem Io(C:bz cd X ct)(hfn:X.fn=λ_=>true){fl:Fl}(ht:AF ct tg=some (is,one))
  (hi:qX cd (AG n ct (!one) it) (br cap τ)=some (xs,k,false)) (hb:∀τ fl,bd τ=some fl->zU X Hi τ body fl) (h:mE (pG is one k) bd xs (br cap τ)=some fl):nV X Hi τ (.For tg it body [] pos) fl:=by
 intro O σ H D R hl q;obtain⟨O1,R1,s1⟩:=qI (cap:=cap) R;obtain⟨htp,g,pg,kg⟩:=Jy (Hi:=Hi) C hfn ht;obtain⟨gj,hset⟩:=(jN n).t X ct Hi (br cap τ) (!one) it tg xs k false C (λz=>htp (by simpa using z)) hi;refine ws (d7 C.xe C.calm HD pg ny (pY hset)) ?_;refine gj O1 σ H _ R1 λJ H1 sJ En=> ?_;rw[ME MI]at En;have s2:aC (aU H O) (aU H1 O1):=s1.trans (aP sJ);refine⟨λi m σ' G=>m=xs.length-i/\i<=xs.length/\∃(P:List Addr)(υ:IR.En),ao X.K Hi P υ σ' G/\σ'.length=X.N.length/\aC (aU H1 O1) (aU G P)/\mE (pG is one k) bd (xs.drop i) υ=some fl,⟨xs.length,by simp,Mk _,O1,_,R1.ext sJ,hl,aC.refl _,h⟩,?_⟩;rintro i m σ' G ⟨rfl,hi',P,υ,RP,hlP,sP,hrun⟩;have b9:GA (aU H1 O1) G P:=⟨RP.lsts,sP⟩
 by_cases hlt:i<xs.length
 .refine .inr ⟨En.go G P i b9 hlt,λσ2 G2=>∃m',m' <xs.length-i/\(m' =xs.length-(i+1)/\i+1<=xs.length/\∃(P:List Addr)(υ:IR.En),ao X.K Hi P υ σ2 G2/\σ2.length=X.N.length/\aC (aU H1 O1) (aU G2 P)/\mE (pG is one k) bd (xs.drop (i+1)) υ=some fl),λσ2 G2 h=>h,λu G' y=> ?_⟩
  obtain⟨sG,x,hx,rx⟩:=En.yld G P i u G' b9 hlt y;have hd:xs.drop i=x::xs.drop (i+1):=by rw[Np hlt];rw[MN hlt]at hx;rw[MZ hx]
  rw[hd]at hrun;unfold mE at hrun;obtain⟨υ1,h1,hrun⟩:=bind_some hrun;obtain⟨f,hf,hrun⟩:=bind_some hrun;refine kg P υ υ1 σ' G' k x u _ (RP.ext sG) hlP rx h1 λσ1 R2 hl1=> ?_;have s3:aC (aU H1 O1) (aU G' P):=sP.trans (aP sG);refine hb υ1 f hf P σ1 G' _ R2 hl1 ?_;cases f with
  |nx υ2=>exact λσ3 G3 P3 R3 hl3 s4=>⟨_,by omega,rfl,hlt,P3,υ2,R3,hl3,s3.trans s4,hrun⟩|ct υ2=>exact λσ3 G3 P3 R3 hl3 s4=>⟨_,by omega,rfl,hlt,P3,υ2,R3,hl3,s3.trans s4,hrun⟩|bk υ2=>have hrun:some (Fl.nx υ2)=some fl:=hrun;cases hrun;exact λσ3 G3 P3 R3 hl3 s4=>q σ3 G3 P3 R3 hl3 (s2.trans (s3.trans s4))
  |rt v=>have hrun:some (Fl.rt v)=some fl:=hrun;cases hrun;exact q
 .have e:i=xs.length:=by omega
  subst e;rw[PM]at hrun;have hrun:some (Fl.nx υ)=some fl:=hrun;cases hrun;exact .inl ⟨En.stop G P b9,q σ' G P RP hlP (s2.trans sP)⟩
theorem zp(C:bz cd X ct)(x:∀k b,o k=some b->fE X Hi k c b)(y:∀k g,n k=some g->zU X Hi k i g)(h:Cz o n t k=some g):
  nV X Hi k (.While c i [] pos) g:=by
 intro O B H D R z q;refine ws (sA C.xe lQ ny) ?_;refine⟨λm d G=>∃(P:List Addr)(j:IR.En),ao X.K Hi P j d G/\d.length=X.N.length/\aC (aU H O) (aU G P)/\Cz o n m j=some g,⟨t,O,k,R,z,aC.refl _,h⟩,?_⟩;rintro m d G ⟨P,j,r,l,u,a⟩;cases m with
 |zero=>cases a|succ m=>
  unfold Cz at a;obtain⟨b,s,a⟩:=bind_some a;refine x j b s P d G _ r λG1 s1=> ?_;cases b with
  |false=>rw[ME MI]at a ⊢;cases a;exact q d G1 P (r.ext s1) l (u.trans (aP s1))
  |true=>
   rw[MF rfl]at a ⊢;obtain⟨f,A,a⟩:=bind_some a;refine⟨λσ2 G2=>∃w,w <m+1/\∃(P:List Addr)(j:IR.En),ao X.K Hi P j σ2 G2/\σ2.length=X.N.length/\aC (aU H O) (aU G2 P)/\Cz o n w j=some g,λσ2 G2 h=>h,?_⟩;have p:aC (aU H O) (aU G1 P):=u.trans (aP s1);refine y j f A P d G1 _ (r.ext s1) l ?_;cases f with
   |nx e=>exact λσ3 G3 P3 R3 hl3 s4=>⟨m,by omega,P3,e,R3,hl3,p.trans s4,a⟩|ct e=>exact λσ3 G3 P3 R3 hl3 s4=>⟨m,by omega,P3,e,R3,hl3,p.trans s4,a⟩|bk e=>have a:some (Fl.nx e)=some g:=a;cases a;exact λσ3 G3 P3 R3 hl3 s4=>q σ3 G3 P3 R3 hl3 (p.trans s4)
   |rt v=>have a:some (Fl.rt v)=some g:=a;cases a;exact q
set_option tactic.hygienic true
theorem DI(R:ao X.K Hi O τ a H)(u:a.length=X.N.length)(e:τ[i]? =some (.own k n))(g:a[i]? =some (some (.ref l)))(r:aI X.K Hi m h (aU H O) d)
  (q:xq X Hi O H (τ.set i (.own h m)) P):P a (L2.upd H l (.lst d)):=by
 have t:=R.upd e g r;refine q a _ O t u λb o z=> ?_;obtain⟨v,w,f,s,_⟩:=R.owns i k n e;rw[g]at f;cases f;unfold aU at z ⊢
 split at z;cases z
 .rename_i j
  have p:b≠l:=λc=>j (c▸s);rw[ME j,aA p];exact z
theorem JW(C:bz cd X ct){m:Str}(J:loc ct x=some i)(Q:m="append")(c:(y.endLine==z.line)=true)(h:isStar a=false)
  (V:af cd (ar n ct a) (br b τ)=some r) (L:r.keep=some (v,k)) (A:(br b τ)[i]? =some (.own g j)) (W:g.length<LN):
  nV X Hi τ (.Expr (.Call (.Attribute (.Name x E) m y) [a] [] z) pos) (.nx ((br b τ).set i (.own (g++[v]) (j&&k)))):=by
 intro O M H D R Y q;subst Q;obtain⟨N,h2,G,P⟩:=lw C J;obtain⟨B,f,T⟩:=qI (cap:=b) R;obtain⟨I,U,o3⟩:=dE G;refine ws (pO (KU PySem.F.plainAttrs_list PySem.F.slot_list_append PySem.F.type_list_append oD (uw N (zt C.S P) I U) (aK aa ac (aY h)) rfl (by rw[aY h];rfl) c (aY h) rfl) rfl) ?_;obtain⟨l,p,t,Z,w,o⟩:=f.owns i g j A;refine⟨_,t,.inl ⟨rfl,p,bQ.of w⟩,?_⟩;refine(jN n).e X ct Hi _ a r C V B M H _ f λu H' s ok=> ?_;have K:=ok.keep f s L;have d:=o.len;refine⟨l,p,u,rfl,rfl,s _ _ w,by rw[fN,<-d];exact W,?_⟩;exact DI (f.ext s) Y A t (Hq (o.mono (aP s)) (.cons K .nil)) (xq.from q (T.trans (aP s)))
theorem Co(C:bz cd X ct)(a:X.fn=λ_=>true)(m:loc ct x=some i)(b:PIp X c (ipI g))(y:af cd (ar n ct e) τ=some r)(o:τ[i]? =some (.frz (.int v) k))(A:r.val=.int w):
  nV X Hi τ (.AugAssign (.Name x l) c e pos) (.nx (τ.set i (.frz (.int (g v w)) true))):=by
 intro O d H D R h q;obtain⟨f,p,E,F⟩:=lw C m;have z:i<d.length:=by rw[h];exact(MV.mp f).1
 have t:X.N.Nodup:=by rw[C.N];exact C.nd
 obtain⟨u,B,j⟩:=R.frz i _ _ o;cases Rp.int.mp j;refine ws (Gz t f p aa b (.inl (by rw[a]))) ⟨_,B,?_⟩;refine(jN n).e X ct Hi _ e r C y O d H _ R λu' H' s ok=>⟨v,w,rfl,ok.int R s A,?_⟩;exact q _ _ O ((R.ext s).setF z (Rp.int.mpr rfl)) (by rw[Nm];exact h) (aP s)
end
section
variable{cd:Nat->List PV->Option PV}{fu:Nat}
structure L7(cd:Nat->List PV->Option PV)(fu:Nat)(n:Nat):Prop where
 s:∀(X:Cx)(ct:Ct)(Hi:Hp)(τ:En)(st:Stmt)(fl:Fl),bz cd X ct->(X.fn=fun _=>true)->gw cd fu (uT n ct st) τ=some fl->nV X Hi τ st fl
 ss:∀(X:Cx)(ct:Ct)(Hi:Hp)(τ:En)(st:List Stmt)(fl:Fl),bz cd X ct->(X.fn=fun _=>true)->bo cd fu (gG n ct st) τ=some fl->zU X Hi τ st fl
theorem bD(h:gw cd fu .never a=some r){P:Prop}:P:=by simp[hU]at h
theorem stE{n:Nat}(IH:L7 cd fu n){X:Cx}{ct:Ct}{Hi:Hp}{τ:En}{st:Stmt}{fl:Fl}(C:bz cd X ct)(hfn:X.fn=λ_=>true)(h:gw cd fu (uT (n+1) ct st) τ=some fl):nV X Hi τ st fl:=by
 cases st with
 |Return v pos=>
  simp only[xt]at h;cases v with
  |none=>simp only[gz]at h;cases h;exact Dg
  |some e=>
   simp only[g0]at h;obtain⟨r,hr,h⟩:=bind_some h;obtain⟨w,hk,h⟩:=bind_some h;obtain⟨v,m⟩:=w;dsimp only at h
   split at h
   .rename_i hm
    cases h;subst hm;exact Gs C hr hk
   .cases h
 |Assign ts e pos=>
  simp only[yE]at h
  split at h
  .rename_i x xp
   cases hx:loc ct x with
   |none=>rw[hx]at h;exact bD h|some i=>rw[hx]at h;dsimp only at h;simp only[iF]at h;obtain⟨r,hr,h⟩:=bind_some h;obtain⟨τ',hp',h⟩:=map_some h;subst h;exact JU C hfn hx hr hp'
  .exact bD h
 |If c a b pos=>
  simp only[xy,hX]at h;obtain⟨t,ht,h⟩:=bind_some h;refine IW ((jN n).c X ct Hi τ c t C ht) ?_;cases t with
  |true=>exact IH.ss X ct Hi τ a fl C hfn h|false=>exact IH.ss X ct Hi τ b fl C hfn h
 |For tg it body els pos=>
  simp only[xz]at h;cases els with
  |cons _ _=>exact bD h|nil=>
   dsimp only at h;cases ht:AF ct tg with
   |none=>rw[ht]at h;exact bD h|some w=>
    obtain⟨is,one⟩:=w;rw[ht]at h;simp only[iA]at h;obtain⟨w,hw,h⟩:=bind_some h;obtain⟨xs,k,b⟩:=w;dsimp only at h;cases b with
    |true=>cases h|false=>exact Io C hfn ht hw (λτ fl h=>IH.ss X ct Hi τ body fl C hfn h) h
 |While c body els pos=>
  simp only[xr]at h;cases els with
  |cons _ _=>exact bD h|nil=>simp only[gy]at h;exact zp C (λτ b h=>(jN n).c X ct Hi τ c b C h) (λτ fl h=>IH.ss X ct Hi τ body fl C hfn h) h
 |Pass pos=>simp only[xw,hJ]at h;cases h;exact λO σ H D R hl q=>ws Dl (q σ H O R hl (aC.refl _))
 |Break pos=>simp only[yC,iD]at h;cases h;exact λO σ H D R hl q=>ws Ar (q σ H O R hl (aC.refl _))
 |Continue pos=>simp only[yB,iC]at h;cases h;exact λO σ H D R hl q=>ws sD (q σ H O R hl (aC.refl _))
 |Expr e pos=>
  simp only[yA]at h
  split at h
  .rename_i x xp m ap es cp
   split at h
   .rename_i hline
    cases hx:loc ct x with
    |none=>rw[hx]at h;exact bD h|some i=>
     rw[hx]at h;dsimp only at h
     split at h
     .rename_i a
      split at h;exact bD h
      .rename_i hs
       split at h
       .rename_i hm
        simp only[iG]at h;obtain⟨r,hr,h⟩:=bind_some h;obtain⟨w,hk,h⟩:=bind_some h;obtain⟨v,k⟩:=w
        split at h
        .rename_i xs j ho
         split at h
         .rename_i hz
          cases h;exact JW C hx (Mf hm) hline (Nz.mpr hs) hr hk ho hz
         .cases h
        .cases h
       .exact bD h
     .exact bD h
   .exact bD h
  .exact bD h
 |AugAssign t op e pos=>
  simp only[yD]at h
  split at h
  .rename_i x xp
   cases hx:loc ct x with
   |none=>rw[hx]at h;exact bD h|some i=>
    rw[hx]at h;simp only[iE]at h;obtain⟨r,hr,h⟩:=bind_some h
    split at h
    .rename_i hv hw
     cases h;exact Co C hfn hx IQ hr (by assumption) (by assumption)
    .rename_i hv hw
     cases h;exact Co C hfn hx IP hr (by assumption) (by assumption)
    .cases h
  .exact bD h
 |Raise e c pos=>
  simp only[xu]at h
  split at h
  .split at h
   .simp[g9]at h
   .exact bD h
  .exact bD h
 |_=>(try simp only[yF,xt,yE,xy,xz,xr,xw,yC,yB,yA,xu,yD]at h);exact bD h
theorem Lh:∀n:Nat,L7 cd fu n
 |0=>by
  refine⟨λX ct Hi τ b fl C hfn h=> ?_,λX ct Hi τ b fl C hfn h=> ?_⟩
  .simp[yF,hU]at h
  .simp[z2h,ze,zf,hU]at h
 |n+1=>by
  have c:=Lh n;refine⟨λX ct Hi τ b fl C hfn h=>stE c C hfn h,λX ct Hi τ b fl C hfn h=> ?_⟩;cases b with
  |nil=>simp only[z2j,ze]at h;cases h;exact λO e H D R d q=>wss iV (q e H O R d (aC.refl _))
  |cons b i=>
   simp only[z2i]at h;simp only[zf]at h;obtain⟨f,j,h⟩:=bind_some h;have g:=c.s X ct Hi τ b f C hfn j;intro O e H D R d q;refine wss (ak ps_w ny) ?_;refine g O e H _ R d ?_;cases f with
   |nx a=>exact λσ1 H1 O1 R1 hl1 s1=>c.ss X ct Hi a i fl C hfn h O1 σ1 H1 D R1 hl1 (q.from s1)|bk a=>have h:some (Fl.bk a)=some fl:=h;cases h;exact q
   |ct a=>have h:some (Fl.ct a)=some fl:=h;cases h;exact q
   |rt v=>have h:some (Fl.rt v)=some fl:=h;cases h;exact q
end
structure wC(K:W.Frag)(mg:Str->Option Value)(P:Nat->Option FD)(F:List (Str×Nat))(G:List (Str×PV))(B:List Str)(x:Str)(f:Nat)(a:Addr)(fd:FuncData)(ps:List Str):Prop where
 ex:(mg x=some (.ref a)/\W.keepIn K (.ref a)=true/\Binds K fd ps []/\∀(p:Program)(w:World)(base:Heap)(k:Nat),(∀j,j<=k->∀y g,F.lookup y=some g->∃b gd qs,mg y=some (.ref b)/\W.keepIn K (.ref b)=true/\Binds K gd qs []/\bv p w K mg base kd j b gd qs (yR K (aE P j g)))->bv p w K mg base kd (k+1) a fd ps (yR K (aE P (k+1) f)))\/∃st N M n body,GD K mg x st ps a fd/\ck N ps (aZ st)/\P f=some ⟨N.length,ps.length,body⟩/\gG n ⟨N,(aZ st).names,F,G,B,M⟩ (bW st)=body
theorem wC.def{K:W.Frag}(d:wC K c P F G B x f a e g):c x=some (.ref a)/\W.keepIn K (.ref a)=true/\Binds K e g []:=by
 rcases d.ex with⟨i,j,h,_⟩|⟨k,N,M,n,b,D,_⟩
 .exact⟨i,j,h⟩
 .exact⟨D.nm,D.fn.kp,D.bd⟩
theorem zA{K:W.Frag}(A:d.nn=N.length)(r:aI K H false a H k):ao K H [] (entry d a) (start N k) H:=by
 have p:=r.len;have h:∀(i:Nat)(t:TV),(entry d a)[i]? =some t->t=.un\/∃v u,t=.frz v (imm v)/\(start N k)[i]? =some (some u)/\Rp K H false v H u:=λi t e=>by
  unfold entry at e
  by_cases q:i<a.length
  .rw[OM (by simpa using q),MR]at e
   have m:a[i]? =some a[i]:=by simp
   rw[m]at e;cases e;obtain⟨u,w,s⟩:=r.at m;refine .inr ⟨_,u,rfl,?_,s⟩;unfold L2.start;rw[OM (by rw[L9];omega),MR,w];rfl
  .rw[Oi (by simpa using q),List.getElem?_replicate]at e
   split at e
   .cases e
    exact .inl rfl
   .cases e
 refine⟨aC.refl _,λl p=>(by cases p),λi v n e=> ?_,λi t b xs n e ht=> ?_,λi j t t' x y l e1 ht e2 ht' f c=> ?_⟩
 .rcases h i _ e with z|⟨o,u,z,f,c⟩
  .cases z
  .cases z
   refine⟨u,f,?_⟩;rw[EZ];cases g:imm v with
   |true=>exact Rp.imm g ⟨λ_ _ e=>e,λ_ _ _ e=>e⟩ c|false=>exact c
 .rcases h i _ e with z|⟨o,u,z,f,c⟩<;>(subst z;cases ht)
 .rcases h i _ e1 with z|⟨o,u,z,f,c⟩<;>(subst z;cases ht)
theorem Ip{K:W.Frag}
  (hG:∀x v,G.lookup x=some v->∃u w,I x=some u/\RelV w u/\∀Hi n H,Rp K Hi n v H w) (hB:∀x,B.contains x=true->I x=none) (hF:∀x f,F.lookup x=some f->∃a t m,wC K I P F G B x f a t m):
  ∀(k:Nat)(x:Str)(f:Nat)(a:Addr)(t:FuncData)(m:List Str),wC K I P F G B x f a t m->bv p w K I i kd k a t m (yR K (aE P k f)):=by
 have S:∀k j:Nat,j<=k->∀(x:Str)(f:Nat)(a:Addr)(t:FuncData)(m:List Str),wC K I P F G B x f a t m->bv p w K I i kd j a t m (yR K (aE P j f)):=by
  intro k
  induction k with
  |zero=>intro j V;have e:=Nat.le_zero.mp V;subst e;intro x f a t m _;exact⟨λvs H Q E h=>(by obtain⟨_,_,_,z,_⟩:=h;cases z),λA outer s H args us vs Q E _ _ _ _ h=>(by obtain⟨_,_,_,z,_⟩:=h;cases z)⟩
  |succ k ih=>
  intro j V
  by_cases a0:j<=k;exact ih j a0
  have e:j=k+1:=by omega
  subst e;intro x f a t m d
  rcases d.ex with⟨_,_,_,T⟩|⟨st,N,M,n,l,D,S,hP,J⟩
  .exact T p w i k λj V y g hy=>by obtain⟨b,gd,qs,dy⟩:=hF y g hy;obtain⟨z1,Z,z3⟩:=dy.def;exact⟨b,gd,qs,z1,Z,z3,ih j V y g b gd qs dy⟩
  have O:∀{c:List PV}{r:PV},aE P (k+1) f c=some r->c.length=m.length/\eB (bo (aE P k) 1000000 l (entry ⟨N.length,m.length,l⟩ c))=some r:=λ{c r} h=>by
   unfold aE at h;rw[hP]at h;dsimp only[Option.bind]at h
   split at h
   .rename_i hl
    exact⟨hl,h⟩
   .cases h
  refine D.fn.ok S (λvs H Q E h=> ?_) (λcdv A outer s H vs Q E hr h=> ?_)
  .obtain⟨c,r,X,o,_⟩:=h
   rw[<- X.len];exact(O o).1
  .obtain⟨c,r,X,o,q⟩:=h
   obtain⟨hl,o⟩:=O o;have a1:m.length<=N.length:=by have:=Mw List.length S.pre;rw[Nh]at this;omega
   cases Y:bo (aE P k) 1000000 l (entry ⟨N.length,m.length,l⟩ c)with
   |none=>rw[Y]at o;cases o|some fl=>
    rw[Y]at o
    have C:bz (aE P k) (tz kd p w K I i N x (aZ st) a cdv A outer s H E).nox ⟨N,(aZ st).names,F,G,B,M⟩:=
     ⟨rfl,S.nd,rfl,S.kind,rfl,hG,hB,λy g hy=>by obtain⟨a',U,L,d'⟩:=hF y g hy;obtain⟨z1,Z,z3⟩:=d'.def;exact⟨k,a',U,L,ih k (MJ k) y g a' U L d',hr,z1,Z,z3⟩,NS,hr.units⟩
    rw[<- J]at Y;have h3:=(Lh n).ss _ _ H _ (bW st) fl C rfl Y;refine⟨_,ny,h3 [] (start N vs) H _ (zA rfl X) ?_ ?_⟩
    .show(start N vs).length=N.length
     unfold L2.start;rw[MT,L9,List.length_replicate];have:=X.len;omega
    .cases fl with
     |nx R=>cases o;exact λσ' H' O' R' _ _=>q _ _ R'.same (Rp.non.mpr rfl)
     |rt v=>cases o;exact q
     |bk R=>cases o|ct R=>cases o
 exact λk=>S k k (MJ k)
theorem IB{K:W.Frag}(F:bv p w K i b kd k a e g (yR K (aE P k f)))
  (h:∀c:List Int,c.length<=63->aE P k f [.lst (c.map PV.int)]=some (.bl true)):bv p w K i b kd k a e g (wP K):=
 F.imp λvs H Q E z=>by obtain⟨l,c,rfl,j,d,q⟩:=z;refine⟨[.lst (c.map PV.int)],.bl true,.cons (Rp.lst.mpr ⟨l,_,rfl,(λz=>by cases z),j,aI.ints.mpr rfl⟩) .nil,h c d,λu H' s r=> ?_⟩;rw[Rp.bl.mp r];exact q H'
theorem yG{P:Nat->Option FD}{f n m:Nat}(h:P f=some ⟨n,m,.cons .never .nil⟩):∀(k:Nat)(a:List PV),aE P k f a=none
 |0,_=>rfl|k+1,a=>by
  unfold aE;rw[h,NO]
  split;simp[ze,zf,hU,eB];rfl
theorem DE{K:W.Frag}{g:Str->Option Value}{P:Nat->Option FD}{f:Nat}{a:Addr}{d:FuncData}{e:List Str}{A:Program->World->Heap->Nat->Prop}(h:∀(k:Nat) (c:List PV),aE P k f c=none)(p:Program)(w:World)(b:Heap)(k:Nat)(_:A p w b k):bv p w K g b kd (k+1) a d e (yR K (aE P (k+1) f)):= ⟨λvs H Q E z=>(by obtain⟨_,_,_,z,_⟩:=z;rw[h]at z;cases z),λA outer s H args us c Q E _ _ _ _ z=>(by obtain⟨_,_,_,z,_⟩:=z;rw[h]at z;cases z)⟩
section
variable{K:W.Frag}{mg:Str->Option Value}{P:Nat->Option FD}{F0:List (Str×Nat)}{G0:List (Str×PV)}{B0:List Str}
theorem fnil:∀(x:Str)(f:Nat),([]:List (Str×Nat)).lookup x=some f->∃a b c,wC K mg P F0 G0 B0 x f a b c:=λx f h=>by cases h
theorem am(h:∃a b d,wC K mg P F0 G0 B0 i g a b d)(j:∀(x:Str) (f:Nat),r.lookup x=some f->∃a b d,wC K mg P F0 G0 B0 x f a b d):
  ∀(x:Str)(f:Nat),((i,g)::r).lookup x=some f->∃a b d,wC K mg P F0 G0 B0 x f a b d:=λx f e=>by
 rw[NA]at e
 split at e
 .rename_i c
  cases e;rw[Mf c];exact h
 .exact j x f e
theorem gnil:∀(x:Str)(v:PV),([]:List (Str×PV)).lookup x=some v->∃u w,mg x=some u/\RelV w u/\∀a n H,Rp K a n v H w:=λx f h=>by cases h
theorem K2(h:∃u w,mg d=some u/\RelV w u/\∀a n H,Rp K a n b H w)(g:∀(x:Str) (v:PV),r.lookup x=some v->∃u w,mg x=some u/\RelV w u/\∀a n H,Rp K a n v H w):
  ∀(x:Str)(v:PV),((d,b)::r).lookup x=some v->∃u w,mg x=some u/\RelV w u/\∀a n H,Rp K a n v H w:=λx f e=>by
 rw[NA]at e
 split at e
 .rename_i c
  cases e;rw[Mf c];exact h
 .exact g x f e
set_option tactic.hygienic false
theorem bnil:∀(x:Str),([]:List Str).contains x=true->mg x=none:=λx h=>by simp at h
theorem cT(h:mg a=none)(b:∀(x:Str),r.contains x=true->mg x=none):∀(x:Str),(a::r).contains x=true->mg x=none:=λx e=>by
 rw[OH,No]at e
 rcases e with e|e
 .rw[Mf e]
  exact h
 .exact b x e
end
set_option tactic.hygienic false
theorem Hy{d:Type}{c:List d}(h:c.length=1):∃a,c=[a]:=by
 cases c with
 |nil=>cases h|cons a c=>cases c with
  |nil=>exact⟨a,rfl⟩|cons b c=>cases h
theorem Hx{d:Type}{c:List d}(h:c.length=2):∃a b,c=[a,b]:=by
 cases c with
 |nil=>cases h|cons a c=>obtain⟨b,rfl⟩:=Hy (O9 h);exact⟨a,b,rfl⟩
theorem Kl{e:Type}{d:List e}(h:d.length=3):∃a b c,d=[a,b,c]:=by
 cases d with
 |nil=>cases h|cons a d=>obtain⟨b,c,rfl⟩:=Hx (O9 h);exact⟨a,b,c,rfl⟩
theorem Kk{f:Type}{e:List f}(h:e.length=4):∃a b c d,e=[a,b,c,d]:=by
 cases e with
 |nil=>cases h|cons a e=>obtain⟨b,c,d,rfl⟩:=Kl (O9 h);exact⟨a,b,c,d,rfl⟩
theorem len5{g:Type}{f:List g}(h:f.length=5):∃a b c d e,f=[a,b,c,d,e]:=by
 cases f with
 |nil=>cases h|cons a f=>obtain⟨b,c,d,e,rfl⟩:=Kk (O9 h);exact⟨a,b,c,d,e,rfl⟩
theorem tU{set:PV->En->Option En}{body:En->Option Fl}(I:Nat->En->Prop)(R:Fl->Prop):∀(xs ys:List PV)(τ:En),I xs.length τ -> (∀(i:Nat)(x:PV)(τ:En),(xs++ys)[i]? =some x->xs.length<=i->I i τ->∃τ1 f,set x τ=some τ1/\body τ1=some f/\(match f with| .nx τ2=>I (i+1) τ2| .ct τ2=>I (i+1) τ2| .bk τ2=>R (.nx τ2)| .rt v=>R (.rt v))) -> (∀τ,I (xs++ys).length τ->R (.nx τ))->∃fl,mE set body ys τ=some fl/\R fl
 |xs,[],τ,h0,hs,he=>⟨.nx τ,rfl,he τ (by rw[NH];exact h0)⟩|xs,y::ys,τ,h0,hs,he=>by
  obtain⟨τ1,f,h1,h2,h3⟩:=hs xs.length y τ (by simp) (MJ _) h0;have e:xs++y::ys=(xs++[y])++ys:=by simp
  have ih:=λτ2 (h:I (xs.length+1) τ2)=>tU (set:=set) (body:=body) I R (xs++[y]) ys τ2 (by rw[MT];exact h) (λi x τ hx hi=>hs i x τ (by rw[e];exact hx) (by rw[MT]at hi;omega)) (by rw[<- e];exact he);unfold mE;rw[h1];dsimp only[Option.bind];rw[h2];cases f with
  |nx τ2=>exact ih τ2 h3|ct τ2=>exact ih τ2 h3|bk τ2=>exact⟨_,rfl,h3⟩|rt v=>exact⟨_,rfl,h3⟩
theorem Eh{set:PV->En->Option En}(I:Nat->En->Prop)(R:Fl->Prop)(d:I 0 τ)
  (g:∀(i:Nat)(x:PV)(τ:En),xs[i]? =some x->I i τ->∃b f,set x τ=some b/\body b=some f/\(match f with| .nx a=>I (i+1) a| .ct a=>I (i+1) a| .bk a=>R (.nx a)| .rt v=>R (.rt v)))
  (e:∀τ,I xs.length τ->R (.nx τ)):∃c,mE set body xs τ=some c/\R c:=
 tU I R [] xs τ d (λi x τ hx _ hI=>g i x τ hx hI) e
section
variable{v:PV}{n m:Bool}{xs ys:List PV}{i j:Int}{z y:Str}{a b:RV}{τ:En}{t:TV}{k:Nat}
theorem cO:(RV.frz v n).val=v:=rfl
theorem DG:(RV.bor v).val=v:=rfl
theorem DF:(RV.own xs n).val=.lst xs:=rfl
theorem Bi:(RV.frz v n).keep=some (v,n):=rfl
theorem Bh:(RV.own xs n).keep=some (.lst xs,n):=rfl
theorem ES:(RV.owd (.dK c) xs n).keep=some (.dK c xs,n):=rfl
theorem EN:fV (.lst xs)=some xs.length:=rfl
theorem EL:fV (.tup xs)=some xs.length:=rfl
theorem len_str:fV (.str z)=if z.length<=LN then some z.length else none:=rfl
theorem El:eB (some (.rt v))=some v:=rfl
theorem Ij:tL (.frz v n::τ) 0=some (.frz v n):=rfl
theorem Il:tL (.own xs n::τ) 0=some (.bor (.lst xs)):=rfl
theorem Ik:tL (t::τ) (k+1)=tL τ k:=rfl
theorem mD:br [] τ=τ:=rfl
theorem oK:br (k::c) τ=br c (qJ τ k):=rfl
theorem Ef:qJ (.own xs n::τ) 0=.frz (.lst xs) n::τ:=rfl
theorem xQ:qJ (.frz v n::τ) 0=.frz v n::τ:=rfl
theorem B2:qJ (t::τ) (k+1)=t::qJ τ k:=by
 unfold qJ;rw[Nx];cases τ[k]? with
 |none=>rfl|some t=>cases t<;>rfl
theorem FQ:eX .Add (.frz (.int i) n) (.frz (.int j) m)=some (sc (.int (i+j))):=rfl
theorem FK:eX .Sub (.frz (.int i) n) (.frz (.int j) m)=some (sc (.int (i-j))):=rfl
theorem FM:eX .Mult (.frz (.int i) n) (.frz (.int j) m)=if(-(2^64)<i/\i<2^64)\/(-(2^64)<j/\j<2^64)then some (sc (.int (i*j)))else if i.natAbs<2^2000/\j.natAbs<2^2000 then some (sc (.int (i*j)))else none:=rfl
theorem FO:eX .FloorDiv (.frz (.int i) n) (.frz (.int j) m)=if 0<j/\j<2^200 then some (sc (.int (i/j)))else none:=rfl
theorem FN:eX .Mod (.frz (.int i) n) (.frz (.int j) m)=if 0<j then some (sc (.int (i%j)))else none:=rfl
theorem FL:eX .LShift (.frz (.int i) n) (.frz (.int j) m)=if 0<=j/\j<=1000000/\i.natAbs<2^64 then some (sc (.int (i*2^j.toNat)))else none:=rfl
theorem FP:eX .Add (.frz (.str z) n) (.frz (.str y) m)=if z.length+y.length<=LN then some (sc (.str (z++y)))else none:=rfl
theorem JF:ai .Lt (.int i) (.int j)=some (decide (i<j)):=rfl
theorem JG:ai .LtE (.int i) (.int j)=some (decide (i<=j)):=rfl
theorem JH:ai .Gt (.int i) (.int j)=some (decide (j<i)):=rfl
theorem JI:ai .GtE (.int i) (.int j)=some (decide (j<=i)):=rfl
theorem FB:ai .Eq (.int i) (.int j)=some (decide (i=j)):=rfl
theorem Ez:ai .Eq (.str z) (.str y)=some (decide (z=y)):=rfl
theorem Ey:ai .NotEq (.int i) (.int j)=some (!decide (i=j)):=rfl
end
theorem oQ:bo b a (.cons s c) d=(gw b a s d).bind λf=>gJ f (bo b a c):=by simp only[zf]
theorem CA:bo b c .nil a=some (.nx a):=by simp only[ze]
theorem run(c:P f=some d)(b:a.length=d.np)(h:eB (bo (aE P k) 1000000 d.body (entry d a))=some r):aE P (k+1) f a=some r:=by show(P f).bind _=_;rw[c];show(if a.length=d.np then _ else _)=_;rw[MF b];exact h
section
variable{a b:RV}{t:String}{n m:Bool}{xs ys:List PV}{i j:Int}{bl:Bool}
theorem pA:gJ (.nx c) k=k c:=rfl
theorem DN:gJ (.rt v) k=some (.rt v):=rfl
theorem AC:rJ (.bl bl)=some bl:=rfl
theorem Cg:kM (.bl bl)=some bl:=rfl
theorem Bp:EV (.int i)=some i:=rfl
theorem DX:lL (.frz (.str z) n)=some (signs z,true,false):=rfl
theorem DZ:lL (.frz (.lst xs) n)=some (xs,n,false):=rfl
theorem DW:lL (.frz (.tup xs) n)=some (xs,n,false):=rfl
theorem DY:lL (.own xs n)=some (xs,n,false):=rfl
theorem KQ:pN true k (.own xs n) c=some (c.set k (.own xs n)):=rfl
theorem Gv:pN false k (.own xs n) c=some (c.set k (.frz (.lst xs) n)):=rfl
theorem Gw:pN o k (.frz v n) c=some (c.set k (.frz v n)):=by cases o<;>rfl
theorem GV:mz (.lst xs)=.own xs true:=rfl
theorem GU:mz (.tup xs)=.frz (.tup xs) true:=rfl
theorem GW:mz (.int i)=.frz (.int i) true:=rfl
theorem GX:mz (.bl bl)=.frz (.bl bl) true:=rfl
theorem JO:my .len [a]=(fV a.val).map λn=>sc (.int (n:Nat)):=rfl
theorem FU:my .int [.frz (.bl bl) n]=some (sc (.int (if bl then 1 else 0))):=rfl
theorem FT:my (.isin t) [a]=(bj t a.val).map λb=>sc (.bl b):=rfl
theorem Ck:my .list [.frz (.tup xs) n]=some (.own xs n):=rfl
theorem Cm:my .list [.frz (.lst xs) n]=some (.own xs n):=rfl
theorem zO:my .tuple [.own xs n]=some (.frz (.tup xs) n):=rfl
theorem zP:my .tuple [.frz (.lst xs) n]=some (.frz (.tup xs) n):=rfl
theorem JP:my .all [.own xs n]=(jH xs).map λbs=>sc (.bl (bs.all id)):=rfl
theorem JN:my .min [.frz (.int i) n,.frz (.int j) m]=some (sc (.int (if j<i then j else i))):=rfl
theorem Cj:my .sorted [.frz (.lst xs) n]=nh xs:=rfl
theorem FR:my .sset [a]=(fM a.val).map λns=>.own ((L2.cF ns).map PV.int) true:=rfl
theorem FS:my .lset [a]=(fM a.val).map λns=>sc (.int ((L2.cF ns).length:Nat)):=rfl
theorem KJ:Jm (.frz (.tup xs) n)=some (xs,n):=rfl
theorem IA{c:List ah}{t:Int}{m:Bool}:ym (.frz (.dK c d) n) (some (.frz (.int t) m))=if c.length<=LN then(nB t c d).map (λns=>.own (ns.map PV.int) true)else none:=rfl
theorem ix_L(k:Int):kI (.frz (.lst xs) n) (.frz (.int k) m)=(ci xs k).map λe=>.frz e (n||imm e):=rfl
theorem ix_T(k:Int):kI (.frz (.tup xs) n) (.frz (.int k) m)=(ci xs k).map λe=>.frz e (n||imm e):=rfl
theorem ix_O(k:Int):kI (.own xs n) (.frz (.int k) m)=(ci xs k).map λe=>.frz e (n||imm e):=rfl
theorem ix_S(k:Int)(z:Str):kI (.frz (.str z) n) (.frz (.int k) m)=if z.length<=LN then(ci z.cps.toList k).map λc=>sc (.str ⟨#[c]⟩)else none:=rfl
end
theorem sw  :bj "int" .non=some false:=by simp[bj]
theorem vN:bj "int" (.bl b)=some true:=by simp[bj]
theorem sy:bj "int" (.int i)=some true:=by simp[bj]
theorem sv:bj "int" (.str z)=some false:=by simp[bj]
theorem sx:bj "int" (.lst a)=some false:=by simp[bj]
theorem su:bj "int" (.tup a)=some false:=by simp[bj]
theorem vM:bj "int" (.dK a b)=some false:=by simp[bj]
theorem qB  :bj "bool" .non=some false:=by simp[bj]
theorem tE:bj "bool" (.bl b)=some true:=by simp[bj]
theorem qD:bj "bool" (.int i)=some false:=by simp[bj]
theorem qA:bj "bool" (.str z)=some false:=by simp[bj]
theorem qC:bj "bool" (.lst a)=some false:=by simp[bj]
theorem pz:bj "bool" (.tup a)=some false:=by simp[bj]
theorem tD:bj "bool" (.dK a b)=some false:=by simp[bj]
theorem sr:bj "str" (.int i)=some false:=by simp[bj]
theorem sq:bj "str" (.str z)=some true:=by simp[bj]
theorem py:bj "list" (.int i)=some false:=by simp[bj]
theorem pq:bj "list" (.str z)=some false:=by simp[bj]
theorem px:bj "list" (.lst a)=some true:=by simp[bj]
theorem nG  :bj "tuple" .non=some false:=by simp[bj]
theorem pk:bj "tuple" (.bl b)=some false:=by simp[bj]
theorem nJ:bj "tuple" (.int i)=some false:=by simp[bj]
theorem nF:bj "tuple" (.str z)=some false:=by simp[bj]
theorem nH:bj "tuple" (.lst a)=some false:=by simp[bj]
theorem nE:bj "tuple" (.tup a)=some true:=by simp[bj]
theorem pi:bj "tuple" (.dK a b)=some false:=by simp[bj]
theorem ve  :ai .Is .non .non=some true:=rfl
theorem vg:ai .Is (.int i) .non=some false:=rfl
theorem vd:ai .Is (.str z) .non=some false:=rfl
theorem vf:ai .Is (.lst a) .non=some false:=rfl
theorem vc:ai .Is (.tup a) .non=some false:=rfl
theorem nN:ai .IsNot (.tup a) .non=some true:=rfl
theorem fC{a:Type}{f:PV->Option (Option (PV×Bool))}{h:a->PV}{g:a->PV}:∀{l:List a},(∀x∈l,f (h x)=some (some (g x,true)))->cG f (l.map h)=some (l.map g,true)
 |[],_=>rfl|x::xs,k=>by rw[MM];unfold cG;rw[k x MB,fC λy hy=>k y (MA _ hy)];rfl
def To(o:Option Fl)(Q:Fl->Prop):Prop:=∃f,o=some f/\Q f
theorem DL:To (some f) Q↔Q f:=⟨λ⟨g,e,h⟩=>by cases e;exact h,λh=>⟨f,rfl,h⟩⟩
theorem To.imp(h:To o Q)(k:∀f,Q f->a f):To o a:=by obtain⟨f,e,q⟩:=h;exact⟨f,e,k f q⟩
theorem wT{Q:PV->Prop}(hP:P f=some d)(hl:vs.length=d.np)(h:To (bo (aE P k) 1000000 d.body (entry d vs)) λfl=>∃v,eB (some fl)=some v/\Q v):∃v,aE P (k+1) f vs=some v/\Q v:=by obtain⟨fl,e,v,h1,h2⟩:=h;exact⟨v,run hP hl (by rw[e];exact h1),h2⟩
theorem cD(hP:P f=some d)(hl:vs.length=d.np)(h:To (bo (aE P k) 1000000 d.body (entry d vs)) λfl=>eB (some fl)=some r):aE P (k+1) f vs=some r:=by obtain⟨fl,e,h1⟩:=h;exact run hP hl (by rw[e];exact h1)
section
variable{cd:Nat->List PV->Option PV}{fu:Nat}{τ:En}{cap:List Nat}{e e2:IE}{i j:Nat}{o one:Bool}{is:List Nat}{c:IC}{a b body:zY}{src:IT}
theorem Iw:gw cd fu (.asg i o cap e) τ=(af cd e (br cap τ)).bind λr=>(pN o i r (br cap τ)).map .nx:=by simp only[iF]
theorem Ir:gw cd fu (.ret cap e) τ=(af cd e (br cap τ)).bind λr=>r.keep.bind λ(v,n)=>if n then some (.rt v)else none:=by simp only[g0]
theorem Iu:gw cd fu (.ife c a b) τ=(gE cd c τ).bind λr=>if r then bo cd fu a τ else bo cd fu b τ:=by simp only[hX]
noncomputable def An(i:Nat)(v:PV)(m:Bool)(d:En):Option Fl:=match d[i]? with
  |some (.own xs n)=>if xs.length<LN then some (.nx (d.set i (.own (xs++[v]) (n&&m))))else none|_=>none
theorem Ix:gw cd fu (.app i cap e) τ=(af cd e (br cap τ)).bind λr=>r.keep.bind λ(v,m)=>An i v m (br cap τ):=by simp only[iG];rfl
theorem fP(h:τ[i]? =some (.own d n))(f:d.length<LN):An i v m τ=some (.nx (τ.set i (.own (d++[v]) (n&&m)))):=by unfold An;rw[h];exact MF f
theorem cV(ht:qX cd src (br cap τ)=some (xs,n,false))(I:Nat->En->Prop)(h0:I 0 (br cap τ))
  (hs:∀(i:Nat)(x:PV)(τ:En),xs[i]? =some x->I i τ->∃τ1,pG is one n x τ=some τ1/\To (bo cd fu body τ1) λf=>match f with| .nx τ2=>I (i+1) τ2| .ct τ2=>I (i+1) τ2| .bk τ2=>To (k τ2) Q| .rt v=>Q (.rt v))
  (hk:∀τ',I xs.length τ' ->To (k τ') Q):To ((gw cd fu (.forr is one cap src body) τ).bind λf=>gJ f k) Q:=by
 obtain⟨fl,e,h⟩:=Eh (set:=pG is one n) (body:=λτ=>bo cd fu body τ) (xs:=xs) (τ:=br cap τ) I (λfl=>To (gJ fl k) Q) h0 (λi x τ hx hI=>by
  obtain⟨τ1,h1,f,h2,h3⟩:=hs i x τ hx hI;refine⟨τ1,f,h1,h2,?_⟩;cases f with
  |nx τ2=>exact h3|ct τ2=>exact h3|bk τ2=>exact h3|rt v=>exact⟨_,rfl,h3⟩) hk
 have e2:gw cd fu (.forr is one cap src body) τ=some fl:=by simp only[iA,ht,NO];exact e
 rw[e2];exact h
end
theorem bG:∀l:List Str,imms (l.map PV.str)=true
 |[]=>rfl|x::l=>by rw[MM,imms,bG l];rfl
theorem Br(l:List Str):imm (.tup (l.map PV.str))=true:=by rw[imm];exact bG l
theorem FW{l:List PV}{t:Int}(b:0<=t)(c:t<l.length):∃e,ci l t=some e/\e∈l:=by
 have a:t.toNat<l.length:=by omega
 refine⟨l[t.toNat],?_,OA a⟩;have:=bC (xs:=l) (j:=t.toNat) (v:=l[t.toNat]) (by simp);rw[show((t.toNat:Nat):Int)=t by omega]at this;exact this
theorem Ch:eX .Add (.frz (.tup a) n) (.frz (.tup b) m)=sW (a++b) (n&&m):=rfl
theorem IV:tG none=some none:=rfl
theorem IU:tG (some (.frz (.int i) n))=some (some i):=rfl
theorem iN:slice (.frz (.tup a) n) b c=if HT.bh a.length 0 b=0/\HT.bh a.length a.length c=a.length then some (.frz (.tup a) n)else some (.frz (.tup (cut a b c)) n):=rfl
theorem vq(P:Nat->Option FD)(k f:Nat)(a:List PV):aE P (k+1) f a=(P f).bind λd=>if a.length=d.np then eB (bo (aE P k) 1000000 d.body (entry d a))else none:=rfl
section
variable{cd:Nat->List PV->Option PV}{fu:Nat}{τ:En}{e e2:IE}{i:Nat}
noncomputable def augI(i:Nat)(b:Operator)(y:PV)(a:En):Option Fl:=match a[i]?,y,b with
  |some (.frz (.int x) _),.int y,.Add=>some (.nx (a.set i (.frz (.int (x+y)) true)))|some (.frz (.int x) _),.int y,.Sub=>some (.nx (a.set i (.frz (.int (x-y)) true)))|_,_,_=>none
theorem Iv:gw cd fu (.aug i a e) τ=(af cd e τ).bind λr=>augI i a r.val τ:=by simp only[iE];rfl
noncomputable def setO(i:Nat)(k v:PV)(m:Bool)(a:En):Option Fl:=match k,a[i]? with
  | .int j,some (.own xs n)=>(L2.uU xs.length j).map λq=>.nx (a.set i (.own (xs.set q v) (n&&m)))|y,some (.owd (.dK ks) xs n)=>(Bg y).bind λk=>if xs.length<LN then some (.nx (a.set i (.owd (.dK (KR ks k)) (putL ks xs k v) (n&&m))))else none|_,_=>none
theorem zq{c:En->Option Bool}{body:En->Option Fl}(I:Nat->En->Prop)(R:Fl->Prop)(g:∀m a,I m a->∃b,c a=some b/\(b=true->0<m/\∃d,body a=some (.nx d)/\I (m-1) d)/\(b=false->R (.nx a))):
  ∀(k m:Nat)(a:En),m<k->I m a->∃f,Cz c body k a=some f/\R f
 |0,m,a,h,_=>by omega|k+1,m,a,h,h0=>by
  obtain⟨b,n,j,l⟩:=g m a h0;unfold Cz;rw[n];cases b with
  |false=>exact⟨_,rfl,l rfl⟩|true=>obtain⟨p,d,e,o⟩:=j rfl;dsimp only[Option.bind];rw[MF rfl,e];exact zq I R g k (m-1) d (by omega) o
theorem whTo(I:Nat->En->Prop)(m:Nat)(hm:m<fu)(h0:I m τ)
  (hs:∀m τ,I m τ->∃b,gE cd c τ=some b/\(b=true->0<m/\To (bo cd fu body τ) λf=>∃τ2,f=.nx τ2/\I (m-1) τ2)/\(b=false->To (k τ) Q)):To ((gw cd fu (.whil c body) τ).bind λf=>gJ f k) Q:=by
 obtain⟨fl,e,h⟩:=zq (c:=λτ=>gE cd c τ) (body:=λτ=>bo cd fu body τ) I (λfl=>To (gJ fl k) Q) (λm τ hI=>by obtain⟨b,h1,h2,h3⟩:=hs m τ hI;refine⟨b,h1,λz=> ?_,h3⟩;obtain⟨hm,f,e,τ2,rfl,h4⟩:=h2 z;exact⟨hm,τ2,e,h4⟩) fu m τ hm h0
 have e2:gw cd fu (.whil c body) τ=some fl:=by simp only[gy];exact e
 rw[e2];exact h
end
theorem Ex:ai .NotEq (.lst a) (.lst b)=(if dH 12 (.lst a)&&dH 12 (.lst b)then some (mM (.lst a) (.lst b))else none).map (!·):=rfl
theorem FA:ai .Eq (.lst a) (.lst b)=if dH 12 (.lst a)&&dH 12 (.lst b)then some (mM (.lst a) (.lst b))else none:=rfl
theorem at_0{b:Type}{x:b}{a:List b}:L2.ci (x::a) 0=some x:=by have:=bC (xs:=x::a) (j:=0) (v:=x) (by simp);exact this
theorem at_1{b:Type}{x y:b}{a:List b}:L2.ci (x::y::a) 1=some y:=by have:=bC (xs:=x::y::a) (j:=1) (v:=y) (by simp);exact this
theorem cz(h:((List.range n).map λi=>PV.int (0+(i:Nat)))[i]? =some x):i<n/\x=.int (i:Nat):=by
 rw[MR]at h
 by_cases a:i<n
 .rw[NC a]at h
  refine⟨a,?_⟩;have:=(MZ h).symm
  simpa using this
 .rw[NK (by simpa using a)]at h
  cases h
theorem ki:((List.range n).map λi=>PV.int (0+(i:Nat))).length=n:=by simp
theorem xU(h:(List.zipWith fS (List.range a.length) a)[i]? =some x):∃y,a[i]? =some y/\x=fS i y:=by
 rw[OJ]at h;cases e:a[i]? with
 |none=>rw[e]at h;cases b:(List.range a.length)[i]? <;>rw[b]at h<;>cases h|some y=>rw[e]at h;have c:i<a.length:=(MV.mp e).1;rw[NC c]at h;exact⟨y,rfl,(MZ h).symm⟩
theorem tj:(List.zipWith fS (List.range a.length) a).length=a.length:=by rw[OX,M3,Pd]
theorem D5(c d:Nat):decide ((⟨#[c]⟩:Str)=⟨#[d]⟩)=decide (c=d):=by
 by_cases h:c=d;subst h;simp
 .rw[MU h,MU]
  intro e;have:=Mw (λz:Str=>z.cps.toList) e;simp at this;exact h this
theorem gq(c:Nat):decide ((⟨#[c]⟩:Str)="x")=(c==120):=by have:=D5 c 120;rw[show(⟨#[120]⟩:Str)="x" from rfl]at this;rw[this];rfl
theorem Hw:fV (.dK a b)=some a.length:=rfl
theorem bt{a:Type}{f:PV->Option (Option (PV×Bool))}{h:a->PV}{p:a->Bool}{g:a->PV}:∀{l:List a},(∀x∈l,f (h x)=some (if p x then some (g x,true)else none))->cG f (l.map h)=some ((l.filter p).map g,true)
 |[],_=>rfl|x::xs,k=>by
  rw[MM];unfold cG;rw[k x MB,bt λy hy=>k y (MA _ hy)];cases e:p x
  .simp[e]
  .simp[e]
theorem ET(h:j<n):L2.uU n (j:Int)=some j:=by unfold L2.uU;rw[MF (by omega),MF (by omega)];simp
theorem Df(h:((List.range n).map λk=>PV.int (i+(k:Nat)))[j]? =some x):j<n/\x=.int (i+(j:Nat)):=by
 rw[MR]at h
 by_cases a:j<n
 .rw[NC a]at h
  exact⟨a,(MZ h).symm⟩
 .rw[NK (by simpa using a)]at h
  cases h
abbrev aX:=List (Int×Int)
noncomputable def az(c:aX)(k:Int):Option Int:=(c.find? λp=>decide (p.1=k)).map (·.2)
noncomputable def cZ(c:aX)(k v:Int):aX:=if(c.any λp=>decide (p.1=k))=true then c.map (λp=>if p.1=k then(p.1,v)else p)else c++[(k,v)]
noncomputable def zS(c:aX)(k n:Int):aX:=cZ c k ((az c k).getD 0+n)
noncomputable def bx(t n:Int)(c:aX)(b:Int):aX:=if Builtin.bitAnd t b=0 then zS c (Builtin.bitOr t b) n else c
noncomputable def cx(B:List Int)(c:aX)(p:Int×Int):aX:=B.foldl (bx p.1 p.2) c
noncomputable def GM(B:List Int)(c a:aX):aX:=a.foldl (cx B) c
noncomputable def wl(a:List aX)(B:List Int):Nat->List aX
 |0=>a++[[]]|i+1=>(wl a B i).set (i+1) (GM B ((wl a B i).getD (i+1) []) (a.getD i []))
noncomputable def bB(c:aX):List (ah×V):=c.map λp=>(Sum.inl p.1,V.int p.2)
noncomputable def ga(c:aX):PV:=.dK (c.map λp=>Sum.inl p.1) (c.map λp=>.int p.2)
noncomputable def qZ:List ah->List PV->Option aX
 |[],[]=>some []| .inl k::ks,.int v::vs=>(qZ ks vs).map ((k,v)::·)|_,_=>none
noncomputable def unT:PV->Option aX
 | .dK a b=>qZ a b|_=>none
noncomputable def rE:List PV->Option (List aX)
 |[]=>some []|x::xs=>(unT x).bind λc=>(rE xs).map (c::·)
noncomputable def bw:List PV->Option PV
 |[.lst ls,.lst bs]=>(rE ls).bind λLs=>(aS bs).bind λB=>if Ls.length<=100/\B.length<=100/\(Ls.all λc=>decide (c.length<=1000))=true then some (.lst ((wl Ls B Ls.length).map ga))else none|_=>none
theorem gi:∀{b:List PV}{a:List Int},aS b=some a->b=a.map PV.int
 |[],a,h=>by cases h;rfl|x::b,a,h=>by
  cases x with
  |int c=>
   have h:(aS b).map (c::·)=some a:=h;cases e:aS b with
   |none=>rw[e]at h;cases h|some d=>rw[e]at h;cases h;rw[gi e];rfl
  |_=>cases h
theorem fB:∀a:List Int,aS (a.map PV.int)=some a
 |[]=>rfl|n::a=>by rw[MM,aS.eq_2,fB a];rfl
theorem qY:∀{b:List ah}{a:List PV}{c:aX},qZ b a=some c->b=c.map (λp=>Sum.inl p.1)/\a=c.map (λp=>.int p.2)
 |[],[],c,h=>by cases h;exact⟨rfl,rfl⟩| .inl k::b,.int v::a,c,h=>by
  have h:(qZ b a).map ((k,v)::·)=some c:=h;cases e:qZ b a with
  |none=>rw[e]at h;cases h|some d=>rw[e]at h;cases h;obtain⟨f,g⟩:=qY e;exact⟨by rw[f];rfl,by rw[g];rfl⟩
 | .inr z::b,a,c,h=>by cases h|[],v::a,c,h=>by cases h| .inl k::b,[],c,h=>by cases h| .inl k::b,.non::a,c,h=>by cases h| .inl k::b,.bl _::a,c,h=>by cases h| .inl k::b,.str _::a,c,h=>by cases h| .inl k::b,.lst _::a,c,h=>by cases h| .inl k::b,.tup _::a,c,h=>by cases h| .inl k::b,.dK _ _::a,c,h=>by cases h| .inl k::b,.dT _ _::a,c,h=>by cases h
theorem DJ(h:unT v=some c):v=ga c:=by
 cases v with
 |dK e d=>obtain⟨a,b⟩:=qY h;unfold ga;rw[a,b]
 |_=>cases h
theorem rD:∀{d:List PV}{a:List aX},rE d=some a->d=a.map ga
 |[],a,h=>by cases h;rfl|x::xs,a,h=>by
  simp only[rE]at h;cases e:unT x with
  |none=>rw[e]at h;cases h|some c=>
   rw[e]at h;simp only[Option.bind]at h;cases b:rE xs with
   |none=>rw[b]at h;cases h|some r=>rw[b]at h;cases h;rw[DJ e,rD b];rfl
theorem wD:∀c:aX,qZ (c.map λp=>Sum.inl p.1) (c.map λp=>.int p.2)=some c
 |[]=>rfl|p::c=>by simp only[MM,qZ,wD c];rfl
theorem wH:∀a:List aX,rE (a.map ga)=some a
 |[]=>rfl|c::a=>by simp only[MM,rE,wH a];show(qZ _ _).bind _=_;rw[wD];rfl
theorem qO(c:aX)(k:Int):eG (bB c) (Sum.inl k)=(az c k).map V.int:=by
 unfold eG bB az
 induction c with
 |nil=>rfl|cons p c b=>
  rw[MM,NP,NP]
  by_cases e:p.1=k;simp[e]
  .have a:¬((Sum.inl p.1:ah)=Sum.inl k):=λz=>e (Sum.inl.inj z)
   simp only[e,a,Oj];exact b
theorem qN(c:aX)(k v:Int):dA (bB c) (Sum.inl k) (V.int v)=bB (cZ c k v):=by
 unfold dA cZ;have a:((bB c).any λkv=>decide (kv.1=Sum.inl k))=(c.any λp=>decide (p.1=k)):=by
  unfold bB;rw[List.any_map]
  congr 1
  funext p
  simp
 rw[a]
 split
 .unfold bB
  rw[Mg,Mg];refine M7 λp _=> ?_
  by_cases e:p.1=k;simp[e];simp[e]
 .unfold bB
  rw[MX];rfl
theorem lO(c:aX)(k v:Int):(cZ c k v).length<=c.length+1:=by
 unfold cZ
 split;rw[L9];omega;rw[MT];simp
theorem yQ(t n:Int)(c:aX)(b:Int):(bx t n c b).length<=c.length+1:=by
 unfold bx
 split;exact lO _ _ _;omega
theorem jk(t n:Int):∀(B:List Int)(c:aX),(B.foldl (bx t n) c).length<=c.length+B.length
 |[],c=>by simp|b::B,c=>by rw[NQ];have a:=jk t n B (bx t n c b);have d:=yQ t n c b;rw[MK];omega
theorem oO(B:List Int):∀(a c:aX),(a.foldl (cx B) c).length<=c.length+a.length*B.length
 |[],c=>by simp|p::a,c=>by rw[NQ];have b:=oO B a (cx B c p);have d:(cx B c p).length<=c.length+B.length:=jk p.1 p.2 B c;rw[MK,Nat.succ_mul];omega
theorem kr(a:List aX)(B:List Int):∀i,(wl a B i).length=a.length+1
 |0=>by simp[wl]|i+1=>by rw[wl,Nm];exact kr a B i
theorem xW(c:aX)(a:List V)(h:a=c.map λp=>V.int p.2):(c.map λp=>(Sum.inl p.1:ah)).zip a=bB c:=by
 subst h;unfold bB
 induction c with
 |nil=>rfl|cons p c b=>rw[MM,MM,List.zip_cons_cons,b,MM]
theorem rY{K:W.Frag}(c:aX):aI K e n (c.map λp=>PV.int p.2) H a↔a=c.map λp=>V.int p.2:=by
 have b:(c.map λp=>PV.int p.2)=(c.map (·.2)).map PV.int:=by rw[Mg];rfl
 have d:(c.map λp=>V.int p.2)=(c.map (·.2)).map V.int:=by rw[Mg];rfl
 rw[b,d];exact aI.ints
theorem Go{K:W.Frag}(h:Rp K d n (ga c) H u):∃p,u=.ref p/\H p=some (.dK (bB c)):=by unfold ga at h;obtain⟨p,b,rfl,_,a,e,r⟩:=h;rw[xW c b ((rY c).mp r)]at a;exact⟨p,rfl,a⟩
theorem nr{K:W.Frag}(b:a p=none)(h:H p=some (.dK (bB c))):Rp K a true (ga c) H (.ref p):=by unfold ga;show∃_,_;refine⟨p,c.map λp=>V.int p.2,rfl,λ_=>b,by rw[xW c _ rfl];exact h,by simp,(rY c).mpr rfl⟩
def uW(b:Hp)(A:Addr)(a:List Addr)(e:List aX)(H:Hp):Prop:=
 aC b H/\b A=none/\H A=some (.lst (a.map V.ref))/\A∉a/\a.Nodup/\a.length=e.length/\∀(q:Nat)(d:Addr)(c:aX),a[q]? =some d->e[q]? =some c->b d=none/\H d=some (.dK (bB c))
theorem uW.ext(h:uW g A f e H)(s:aC H a):uW g A f e a:=by obtain⟨i,k,l,j,m,n,b⟩:=h;exact⟨i.trans s,k,s _ _ l,j,m,n,λq d c e1 e2=>⟨(b q d c e1 e2).1,s _ _ (b q d c e1 e2).2⟩⟩
theorem uW.put(h:uW k A g a H)(f:g[q]? =some d):uW k A g (a.set q c') (L2.upd H d (.dK (bB c'))):=by
 obtain⟨u,v,r,n,l,t,m⟩:=h;have B:q<g.length:=(MV.mp f).1;have s:a[q]? =some (a[q]'(by omega)):=by simp[show q<a.length by omega]
 obtain⟨p,C⟩:=m q d _ f s;have x:A≠d:=λz=>n (z▸Ma f);refine⟨λb o e=>by rw[aA (aD e p)];exact u b o e,v,by rw[aA x];exact r,n,l,by rw[Nm];exact t,λq' d' c e1 e2=> ?_⟩;rw[PB]at e2
 by_cases e:q=q'
 .subst e
  rw[f]at e1;cases e1;rw[MF rfl,MF (by omega)]at e2;cases e2;exact⟨p,aB⟩
 .rw[ME e]at e2
  obtain⟨w,y⟩:=m q' d' c e1 e2;refine⟨w,?_⟩;rw[aA λz=>e ?_]
  .exact y
  .subst z
   have:=(List.getElem?_inj (i:=q') (j:=q) (MV.mp e1).1 l).mp (by rw[e1,f]);exact this.symm
theorem uW.at{q:Nat}(h:uW e A a b H)(f:a[q]? =some d)(g:b[q]? =some c):e d=none/\H d=some (.dK (bB c)):=h.2.2.2.2.2.2 q d c f g
theorem uW.push(h:uW t A a g H)(i:H p=none):uW t A (a++[p]) (g++[c]) (L2.upd (L2.upd H p (.dK (bB c))) A (.lst (a.map V.ref++[.ref p]))):=by
 obtain⟨n,u,s,v,C,D,x⟩:=h;have w:A≠p:=λz=>by rw[z,i]at s;cases s
 have f:p∉a:=λz=>by obtain⟨q,k,e⟩:=List.mem_iff_getElem.mp z;obtain⟨_,j⟩:=x q p (g[q]'(by omega)) (by rw[MN k,e]) (by simp[show q<g.length by omega]);rw[i]at j;cases j
 refine⟨λb o e=> ?_,u,?_,?_,?_,by simp[D],λq d c' e1 e2=> ?_⟩
 .rw[aA (aD e u),aA (aD e (n.free i))]
  exact n b o e
 .rw[aB,MX]
  rfl
 .intro z
  rcases Mi.mp z with z|z
  .exact v z
  .exact w (by simpa using z)
 .rw[M5]
  exact⟨C,by simp,λa ha b hb e=>by
   have:b=p:=by simpa using hb
   rw[this]at e;exact f (e▸ha)⟩
 .by_cases k:q<a.length
  .rw[OM k]at e1
   rw[OM (by omega)]at e2;obtain⟨F,j⟩:=x q d c' e1 e2;have B:d≠A:=λz=>v (z▸Ma e1);have E:d≠p:=λz=>f (z▸Ma e1);exact⟨F,by rw[aA B,aA E];exact j⟩
  .rw[Oi (by omega)]at e1
   rw[Oi (by omega)]at e2;have y:q-a.length=0:=by
    cases e:q-a.length with
    |zero=>rfl|succ m=>rw[e]at e1;simp at e1
   rw[y]at e1;rw[show q-g.length=0 by omega]at e2;have l:p=d:=by simpa using e1
   have r:c=c' :=by simpa using e2
   subst l r;exact⟨n.free i,by rw[aA (NZ w),aB]⟩
theorem yV(d:H p=none)(f:p≠a):aC (L2.upd H a u) (L2.upd (L2.upd H p o) a u):=λb x e=>by
 by_cases c:b=a
 .subst c
  rw[aB]at e ⊢;exact e
 .rw[aA c]at e ⊢
  rw[aA (aD e d)];exact e
theorem wO{K:W.Frag}(h:bQ K (L2.upd H a (.dK c)) b g):bQ K H b g:=by
 have d:∀u,L2.upd H a (.dK c) b=some u->(∀k,u≠.dK k)->H b=some u:=λu e n=>by
  by_cases f:b=a
  .subst f
   rw[aB]at e;exact absurd (MZ e).symm (n _)
  .rw[aA f]at e
   exact e
 rcases h with(h|⟨o,h⟩)|h
 .exact .inl (.inl (d _ h λk z=>by cases z))
 .exact .inl (.inr ⟨o,d _ h λk z=>by cases z⟩)
 .exact .inr h
theorem Eo{j:Nat}(h:(bB c)[j]? =some (k,x)):∃t n,c[j]? =some (t,n)/\k=.inl t/\x=.int n:=by
 unfold bB at h;rw[MR]at h;cases e:c[j]? with
 |none=>rw[e]at h;cases h|some p=>rw[e]at h;have:=MZ h;cases this;exact⟨p.1,p.2,rfl,rfl,rfl⟩
theorem tq(c:aX):(bB c).length=c.length:=by unfold bB;rw[L9]
theorem Fm(a:List aX)(B:List Int):∀(i j:Nat),i<j->(wl a B i)[j]? =(a++[[]])[j]?
 |0,j,h=>rfl|i+1,j,h=>by rw[wl,NG (by omega)];exact Fm a B i j (by omega)
theorem zu(h:a≠b):L2.upd (L2.upd H a x) b y=L2.upd (L2.upd H b y) a x:=by
 funext c
 unfold L2.upd
 by_cases d:c=a
 .subst d
  rw[ME h,MF rfl,MF rfl]
 .by_cases e:c=b
  .subst e
   rw[MF rfl,ME d,MF rfl]
  .rw[ME e,ME d,ME d,ME e]
theorem rX{K:W.Frag}{e:Hp}{H:Hp}:∀{b:List aX}{a:List Addr},a.length=b.length->(∀(q:Nat)(d:Addr)(c:aX),a[q]? =some d->b[q]? =some c->e d=none/\H d=some (.dK (bB c)))->aI K e true (b.map ga) H (a.map V.ref)
 |[],[],_,_=>.nil|c::b,d::a,hl,h=>by obtain⟨f,g⟩:=h 0 d c rfl rfl;exact .cons (nr f g) (rX (by simpa using hl) λq d' c' e1 e2=>h (q+1) d' c' (by simpa using e1) (by simpa using e2))
 |[],_::_,hl,_=>by cases hl|_::_,[],hl,_=>by cases hl
end IR
namespace IR
open PySem
set_option tactic.hygienic false
theorem uP(a b:Nat):Builtin.bitAnd (a:Int) (b:Int)=((a &&& b:Nat):Int):=by
 unfold Builtin.bitAnd;have c:decide ((0:Int)<=(a:Int))=true:=by simp
 have d:decide ((0:Int)<=(b:Int))=true:=by simp
 rw[c,d];simp
theorem uK(a:Nat):Builtin.bitNot (a:Int)= -(a:Int)-1:=by unfold Builtin.bitNot;omega
theorem xk(a b:Nat):Builtin.bitOr (a:Int) (b:Int)=((a ||| b:Nat):Int):=by
 unfold Builtin.bitOr Builtin.bitAnd;rw[uK,uK];have c:decide ((0:Int)<= -(a:Int)-1)=false:=by simp;omega
 have d:decide ((0:Int)<= -(b:Int)-1)=false:=by simp;omega
 rw[c,d];dsimp only;have e:(Builtin.bitNot (-(a:Int)-1)).toNat=a:=by unfold Builtin.bitNot;omega
 have f:(Builtin.bitNot (-(b:Int)-1)).toNat=b:=by unfold Builtin.bitNot;omega
 rw[e,f];unfold Builtin.bitNot;omega
theorem dm:∀(n:Nat)(l:List Nat),l.Nodup->(∀x∈l,x<n)->l.length<=n
 |0,l,_,h=>by
  cases l with
  |nil=>simp|cons x l=>exact absurd (h x MB) (by omega)
 |n+1,l,nd,h=>by
  by_cases a:n∈l
  .have b:=dm n (l.erase n) (nd.erase n) λx hx=>by
    have:=(nd.mem_erase_iff).mp hx;have:=h x this.2;omega
   rw[Pt a]at b;omega
  .have:=dm n l nd λx hx=>by
    have c:=h x hx;have:x≠n:=λz=>a (z▸hx);omega
   omega
def bN(c:aX):Prop:=(c.map (·.1)).Nodup/\∀p∈c,(∃n:Nat,p.1=(n:Int)/\n<256)/\0<p.2
theorem bN.len(h:bN c):c.length<=256:=by
 have g:((c.map (·.1)).map Int.toNat).Nodup:=by rw[List.nodup_iff_pairwise_ne,OR];refine(List.nodup_iff_pairwise_ne.mp h.1).imp_of_mem λ{a b} ha hb hne e=>hne ?_;obtain⟨p,f,rfl⟩:=MG.mp ha;obtain⟨q,j,rfl⟩:=MG.mp hb;obtain⟨⟨m,d,_⟩,_⟩:=h.2 p f;obtain⟨⟨n,i,_⟩,_⟩:=h.2 q j;rw[d,i]at e ⊢;omega
 have:=dm 256 _ g λx hx=>by obtain⟨y,k,rfl⟩:=MG.mp hx;obtain⟨p,f,rfl⟩:=MG.mp k;obtain⟨⟨m,d,l⟩,_⟩:=h.2 p f;rw[d];omega
 simpa using this
noncomputable def dJ(a:Int->Int):aX->Int
 |[]=>0|p::c=>p.2*a p.1+dJ a c
theorem wE(a:Int->Int):∀c d:aX,dJ a (c++d)=dJ a c+dJ a d
 |[],d=>by simp[dJ]|p::c,d=>by rw[List.cons_append,dJ,dJ,wE a c d];omega
theorem xl{c:aX}:(c.any λp=>decide (p.1=k))=true↔k∈c.map (·.1):=by
 rw[NX,MG]
 constructor
 .rintro⟨p,a,e⟩
  exact⟨p,a,Me e⟩
 .rintro⟨p,a,e⟩
  exact⟨p,a,MO e⟩
theorem Dh{c:aX}(h:k∉c.map (·.1)):c.map (λp=>if p.1=k then(p.1,v)else p)=c:=by
 induction c with
 |nil=>rfl|cons p c b=>rw[MM]at h ⊢;have a:¬p.1=k:=λz=>h (by rw[z];exact MB);rw[ME a,b λz=>h (MA _ z)]
theorem xP(h:k∈c.map (·.1)):∃v,az c k=some v/\(k,v)∈c:=by
 unfold az
 induction c with
 |nil=>cases h|cons p c d=>
  rw[NP]
  by_cases e:p.1=k
  .refine⟨p.2,by simp[e],?_⟩
   subst e;exact MB
  .have b:k∈c.map (·.1):=by
    rw[MM]at h
    rcases MP.mp h with z|z
    .exact absurd z.symm e
    .exact z
   obtain⟨v,f,a⟩:=d b;refine⟨v,?_,MA _ a⟩;simp only[e,Oj];exact f
theorem tM(h:k∉c.map (·.1)):az c k=none:=by
 unfold az;rw[Pi.mpr];rfl
 .intro p a e
  exact h (MG.mpr ⟨p,a,Me e⟩)
theorem qy(b:Int->Int){k v w:Int}:∀{c:aX},(c.map (·.1)).Nodup->az c k=some v->dJ b (c.map (λp=>if p.1=k then(p.1,w)else p))=dJ b c+(w-v)*b k
 |[],_,h=>by cases h|p::c,nd,h=>by
  rw[MM]at nd ⊢;have a:=Mb.mp nd
  by_cases e:p.1=k
  .subst e
   rw[MF rfl,Dh a.1];have f:v=p.2:=by unfold az at h;rw[NP]at h;simp at h;exact h.symm
   subst f;rw[dJ,dJ,Int.sub_mul];dsimp only;omega
  .have d:az c k=some v:=by
    unfold az at h ⊢;rw[NP]at h;simp only[e,Oj]at h;exact h
   rw[ME e,dJ,dJ,qy b a.2 d];omega
theorem wZ(h:k∈c.map (·.1)):cZ c k v=c.map (λp=>if p.1=k then(p.1,v)else p):=by unfold cZ;rw[MF (xl.mpr h)]
theorem rh(h:k∉c.map (·.1)):cZ c k v=c++[(k,v)]:=by unfold cZ;rw[ME λz=>h (xl.mp z)]
theorem Fe(a:Int->Int)(d:(c.map (·.1)).Nodup)(k n:Int):dJ a (zS c k n)=dJ a c+n*a k:=by
 unfold zS
 by_cases h:k∈c.map (·.1)
 .obtain⟨v,b,_⟩:=xP h
  rw[wZ h,b,qy a d b]
  congr 2
  simp;omega
 .rw[rh h,tM h,wE]
  simp[dJ]
theorem zR(h:bN c){m:Nat}(k:m<256){n:Int}(q:0<n):bN (zS c (m:Int) n):=by
 unfold zS
 by_cases d:((m:Int))∈c.map (·.1)
 .obtain⟨v,o,a⟩:=xP d
  rw[wZ d,o];have e:(c.map (λp=>if p.1=(m:Int)then(p.1,(some v).getD 0+n)else p)).map (·.1)=c.map (·.1):=by
   rw[Mg];refine M7 λp _=> ?_;dsimp only[Function.comp]
   split<;>rfl
  refine⟨by rw[e];exact h.1,λp hp=> ?_⟩;obtain⟨l,f,rfl⟩:=MG.mp hp;obtain⟨i,j⟩:=h.2 l f
  split
  .refine⟨i,?_⟩
   have:=(h.2 _ a).2;show 0<v+n;omega
  .exact⟨i,j⟩
 .rw[rh d,tM d]
  refine⟨?_,λp hp=> ?_⟩
  .rw[MX,M5]
   refine⟨h.1,by simp,λa ha b g e=> ?_⟩;have g:b=(m:Int):=by simpa using g
   rw[g]at e;rw[e]at ha;exact d ha
  .rcases Mi.mp hp with z|z
   .exact h.2 p z
   .have:p=((m:Int),none.getD 0+n):=by simpa using z
    rw[this];exact⟨⟨m,rfl,k⟩,by show 0<0+n;omega⟩
def mx(B:List Int):Prop:=∀b∈B,∃n:Nat,b=((2^n:Nat):Int)/\n<8
theorem KY(d:a<256)(c:b<256):a ||| b<256:=Nat.or_lt_two_pow (n:=8) d c
theorem lG(h:bN c){t:Nat}(a:t<256){n:Int}(b:0<n){j:Nat}(d:j<8):bN (bx (t:Int) n c ((2^j:Nat):Int)):=by
 unfold bx
 split
 .rw[xk]
  exact zR h (KY a (Nat.pow_lt_pow_right (by decide) (show j<8 from d))) b
 .exact h
theorem gl{t:Nat}(a:t<256){n:Int}(d:0<n):∀{B:List Int}{c:aX},mx B->bN c->bN (B.foldl (bx (t:Int) n) c)
 |[],c,_,h=>h|b::B,c,hB,h=>by obtain⟨j,rfl,e⟩:=hB b MB;exact gl (B:=B) a d (λb hb=>hB b (MA _ hb)) (lG h a d e)
theorem rC{B:List Int}(a:mx B):∀{lev c:aX},bN lev->bN c->bN (GM B c lev)
 |[],c,_,h=>h|p::lev,c,hl,h=>by
  obtain⟨⟨t,f,d⟩,e⟩:=hl.2 p MB;have b:bN (cx B c p):=by unfold cx;rw[f];exact gl d e a h
  exact rC (lev:=lev) a ⟨(Mb.mp (show(p.1::lev.map (·.1)).Nodup from hl.1)).2,λq hq=>hl.2 q (MA _ hq)⟩ b
theorem iu:bN []:=⟨by simp,λp hp=>by cases hp⟩
theorem o4{a:List aX}{B:List Int}(f:mx B)(h:∀c∈a,bN c):∀i,∀c∈wl a B i,bN c
 |0,c,hc=>by
  rcases Mi.mp hc with z|z
  .exact h c z
  .have:c=[]:=by simpa using z
   rw[this];exact iu
 |i+1,c,hc=>by
  rw[wl]at hc;have b:=o4 f h i
  rcases List.mem_or_eq_of_mem_set hc with z|z
  .exact b c z
  .rw[z]
   refine rC f ?_ ?_
   .rw[ML]
    cases e:a[i]? with
    |none=>exact iu|some d=>exact h d (Ma e)
   .rw[ML]
    cases e:(wl a B i)[i+1]? with
    |none=>exact iu|some d=>exact b d (Ma e)
theorem dG{a:Type}{P:List a->Prop}(b:P [])(d:∀l x,P l->P (l++[x])):∀l,P l:=by
 intro l;have:∀r:List a,P r.reverse:=by
  intro r
  induction r with
  |nil=>exact b|cons x r c=>rw[List.reverse_cons];exact d _ _ c
 have:=this l.reverse
 rwa [List.reverse_reverse]at this
noncomputable def bL{a:Type}(l:List a)(f:a->Int):Int:=(l.map f).sum
theorem aN{a:Type}(x:a)(l:List a)(f:a->Int):bL (x::l) f=f x+bL l f:=by unfold bL;rw[MM,List.sum_cons]
theorem cC{a:Type}(f:a->Int):bL ([]:List a) f=0:=rfl
theorem bJ{a:Type}{l:List a}{f g:a->Int}(h:∀x∈l,f x=g x):bL l f=bL l g:=by unfold bL;rw[M7 h]
theorem fL{a:Type}{l:List a}{f:a->Int}(h:∀x∈l,0<=f x):0<=bL l f:=by
 induction l with
 |nil=>exact Pq _|cons x l b=>rw[aN];have c:=h x MB;have d:=b λy hy=>h y (MA _ hy);omega
noncomputable def cnt:List (List Nat)->List Nat->Nat->Int
 |[],_,0=>1|[],_,_+1=>0|_::rs,T,0=>cnt rs T 0|r::rs,T,k+1=>cnt rs T (k+1)+bL (r.filter λc=> !T.contains c) λc=>cnt rs (c::T) k
theorem aV:∀(a:List (List Nat))(T:List Nat),cnt a T 0=1
 |[],_=>rfl|_::a,T=>by rw[cnt.eq_3];exact aV a T
theorem cK:∀(a:List (List Nat))(T:List Nat)(k:Nat),0<=cnt a T k
 |[],_,0=>by rw[cnt.eq_1];decide|[],_,_+1=>by rw[cnt.eq_2];decide|_::a,T,0=>by rw[cnt.eq_3];exact cK a T 0|r::a,T,k+1=>by rw[cnt.eq_4];have b:=cK a T (k+1);have d:0<=bL (r.filter λc=> !T.contains c) λc=>cnt a (c::T) k:=fL λc _=>cK a (c::T) k;omega
theorem cM:∀(a:List (List Nat)){T b:List Nat}(k:Nat),(∀r∈a,∀c∈r,T.contains c=b.contains c)->cnt a T k=cnt a b k
 |[],_,_,0,_=>rfl|[],_,_,_+1,_=>rfl|_::a,T,b,0,h=>by rw[cnt.eq_3,cnt.eq_3];exact cM a 0 λr hr=>h r (MA _ hr)|r::a,T,b,k+1,h=>by
  rw[cnt.eq_4,cnt.eq_4,cM a (k+1) λr hr=>h r (MA _ hr)];have e:(r.filter λc=> !T.contains c)=r.filter λc=> !b.contains c:=Po λc hc=>by rw[h r MB c hc]
  rw[e];refine Mw (_+·) (bJ λc _=>cM a k λr' hr' d hd=> ?_);rw[OH,OH,h r' (MA _ hr') d hd]
theorem wF(a b:Int->Int):∀c:aX,dJ (λm=>a m+b m) c=dJ a c+dJ b c
 |[]=>by simp[dJ]|p::c=>by rw[dJ,dJ,dJ,wF a b c,Int.mul_add];omega
theorem jR{a χ:Int->Int}:∀{c:aX},(∀p∈c,a p.1=χ p.1)->dJ a c=dJ χ c
 |[],_=>rfl|p::c,h=>by rw[dJ,dJ,h p MB,jR λq hq=>h q (MA _ hq)]
noncomputable def Sb(B:List Int)(a:Int->Int)(m:Int):Int:=bL B λb=>if Builtin.bitAnd m b=0 then a (Builtin.bitOr m b)else 0
theorem oP(a:Int->Int){t:Nat}(d:t<256){n:Int}(f:0<n):∀{B:List Int}{c:aX},mx B->bN c->dJ a (B.foldl (bx (t:Int) n) c)=dJ a c+n*Sb B a (t:Int)
 |[],c,_,_=>by rw[List.foldl_nil];unfold Sb;rw[cC];omega
 |b::B,c,hB,h=>by
  obtain⟨j,rfl,g⟩:=hB b MB;rw[NQ,oP a d f (B:=B) (λb hb=>hB b (MA _ hb)) (lG h d f g)];have e:dJ a (bx (t:Int) n c ((2^j:Nat):Int))=dJ a c+n*(if Builtin.bitAnd (t:Int) ((2^j:Nat):Int)=0 then a (Builtin.bitOr (t:Int) ((2^j:Nat):Int))else 0):=by
   unfold bx
   split;rw[Fe a h.1];simp
  rw[e];unfold Sb;rw[aN,Int.mul_add];omega
theorem wG(b:Int->Int){B:List Int}(f:mx B):∀{a c:aX},bN a->bN c->dJ b (GM B c a)=dJ b c+dJ (Sb B b) a
 |[],c,_,_=>by simp[GM,dJ]|p::a,c,hl,h=>by
  obtain⟨⟨t,j,g⟩,i⟩:=hl.2 p MB;have d:bN a:=⟨(Mb.mp (show(p.1::a.map (·.1)).Nodup from hl.1)).2,λq hq=>hl.2 q (MA _ hq)⟩;have k:bN (cx B c p):=by unfold cx;rw[j];exact gl g i f h
  have e:GM B c (p::a)=GM B (cx B c p) a:=rfl;rw[e,wG b f d k,dJ];have l:dJ b (cx B c p)=dJ b c+p.2*Sb B b p.1:=by unfold cx;rw[j];exact oP b g i f h
  rw[l];omega
theorem uX(a:List aX)(B:List Int):∀(i j:Nat),i<=a.length->(wl a B i)[j]? =if j=0\/i<j then(a++[[]])[j]? else some (GM B ((a++[[]]).getD j []) (a.getD (j-1) []))
 |0,j,_=>by
  rw[wl]
  by_cases h:j=0\/0<j;rw[MF h];omega
 |i+1,j,hi=>by
  rw[wl,PB,kr]
  by_cases h:i+1=j
  .subst h
   rw[MF rfl,MF (by omega),ME (by omega),ML,uX a B i (i+1) (by omega),MF (.inr (by omega)),<-ML];rfl
  .rw[ME h,uX a B i j (by omega)]
   by_cases b:j=0\/i<j;rw[MF b,MF (by omega)]
   .rw[ME b,ME (by omega)]
noncomputable def mS(m:Nat):List Nat:=(List.range 8).filter λc=>m.testBit c
theorem gF(a:c<8):(mS m).contains c=m.testBit c:=by unfold mS;rw[Ms,Mc,Mh,Mn];exact⟨λh=>h.2,λh=>⟨a,h⟩⟩
theorem Fb(m c:Nat):(m &&& 2^c=0)↔m.testBit c=false:=by
 constructor
 .intro h
  have:=Mw (λx=>Nat.testBit x c) h
  simpa [Nat.testBit_and,Nat.testBit_two_pow_self]using this
 .intro h
  refine Nat.eq_of_testBit_eq λi=> ?_;rw[Nat.testBit_and,Nat.zero_testBit,Nat.testBit_two_pow]
  by_cases e:c=i
  .subst e
   simp[h]
  .simp[e]
noncomputable def kN(r:List Nat):List Int:=r.map λc=>((2^c:Nat):Int)
theorem mf(h:∀c∈r,c<8):mx (kN r):=λb hb=>by obtain⟨c,a,rfl⟩:=MG.mp hb;exact⟨c,rfl,h c a⟩
def dL(a:List (List Nat)):Prop:=∀r∈a,∀c∈r,c<8
theorem qz:∀c:aX,dJ (λ_=>0) c=0
 |[]=>rfl|p::c=>by rw[dJ,qz c];omega
abbrev cA:=Nat×Nat
noncomputable def JR(cells:List cA)(k:Nat):List cA:=(cells.drop (k+1)).filter λc=>decide ((cells.getD k (0,0)).1<c.1)
noncomputable def pl:Nat->List cA->List Int->Nat->Int
 |_,_,_,0=>1|0,_,_,_+1=>0|n+1,cells,T,j+1=>bL (List.range cells.length) λk=>if T.contains ((cells.getD k (0,0)).2:Int)then 0 else pl n (JR cells k) (T++[((cells.getD k (0,0)).2:Int)]) j
noncomputable def kD(i:Nat)(r:List Nat):List cA:=r.map λc=>(i,c)
noncomputable def fD:Nat->List (List Nat)->List cA
 |_,[]=>[]|i,r::rs=>kD i r++fD (i+1) rs
theorem mY:∀(i:Nat)(a:List (List Nat)),∀c∈fD i a,i<=c.1/\c.1<i+a.length
 |i,[],c,h=>by cases h|i,r::a,c,h=>by
  rcases Mi.mp h with z|z
  .obtain⟨x,_,rfl⟩:=MG.mp z
   exact⟨MJ _,by rw[MK];omega⟩
  .have:=mY (i+1) a c z
   rw[MK];omega
theorem tf{l:List cA}(h:∀c∈l,p c=false):l.filter p=[]:=List.filter_eq_nil_iff.mpr λc hc=>by rw[h c hc];exact MI
noncomputable def eI(a:List Int):List Int:=(a.reverse.dropWhile λx=>decide (x=0)).reverse
theorem gT(a:List Int):eI (a++[0])=eI a:=by unfold eI;rw[List.reverse_append];simp
theorem gU(a:List Int)(h:y≠0):eI (a++[y])=a++[y]:=by unfold eI;rw[List.reverse_append];simp[h]
noncomputable def aF(z:Str):List Nat:=(List.range z.length).filter λc=>z.cps.toList.getD c 0==120
noncomputable def cN(a:List Str):List cA:=fD 0 (a.map aF)
noncomputable def att(a b:cA):Bool:=a.1==b.1||a.2==b.2
noncomputable def BD(x:cA)(l:List cA):List cA:=l.filter λy=> !att x y
noncomputable def KA(f:cA->List cA->Int):List cA->Int
 |[]=>0|x::xs=>f x xs+KA f xs
noncomputable def rk:Nat->List cA->Int
 |0=>λ_=>1|k+1=>KA λx xs=>rk k (BD x xs)
theorem pJ(l:List cA):rk 0 l=1:=rfl
theorem uq(k:Nat):rk (k+1) []=0:=rfl
theorem iP(k:Nat)(x:cA)(a:List cA):rk (k+1) (x::a)=rk (k+1) a+rk k (BD x a):=by show rk k (BD x a)+rk (k+1) a=_;omega
theorem Ae(k i:Nat)(b:List cA)(a:∀c∈b,i<c.1):∀r:List Nat,rk (k+1) (kD i r++b)=rk (k+1) b+bL r λc=>rk k (b.filter λy=> !(c==y.2))
 |[]=>by show rk (k+1) b=_;rw[cC];omega
 |c::r=>by
  show rk (k+1) ((i,c)::(kD i r++b))=_;rw[iP,Ae k i b a r,aN];have e:BD (i,c) (kD i r++b)=b.filter λy=> !(c==y.2):=by
   unfold BD;rw[OG,tf (l:=kD i r) λy hy=> ?_,List.nil_append]
   .refine Po λy hy=> ?_
    have:=a y hy;unfold att;have f:(i==y.1)=false:=by simp;omega
    show(!((i==y.1)||(c==y.2)))=_;rw[f,Bool.false_or]
   .obtain⟨d,_,rfl⟩:=MG.mp hy
    simp[att]
  rw[e];omega
noncomputable def freeC(T:List Nat)(l:List cA):List cA:=l.filter λc=> !T.contains c.2
theorem lN:∀(a:List (List Nat))(k i:Nat)(T:List Nat),rk k (freeC T (fD i a))=cnt a T k
 |a,0,i,T=>by rw[pJ,aV]|[],k+1,i,T=>by rw[cnt.eq_2];rfl|r::a,k+1,i,T=>by
  have e:freeC T (fD i (r::a))=kD i (r.filter λc=> !T.contains c)++freeC T (fD (i+1) a):=by
   unfold freeC;rw[fD.eq_2,OG]
   congr 1
   unfold kD;rw[List.filter_map];rfl
  rw[e,Ae k i _ (λc hc=>by have:=(mY (i+1) a c (Mh.mp hc).1).1;omega),lN a (k+1) (i+1) T,cnt.eq_4];refine Mw (_+·) (bJ λc _=> ?_);rw[<- lN a k (i+1) (c::T)]
  congr 1
  unfold freeC;rw[List.filter_filter];refine Po λy _=> ?_;rw[OH,Bool.not_or]
  congr 1
  rw[Ms];simp only[NJ,N0,ne_eq];exact⟨λh z=>h z.symm,λh z=>h z.symm⟩
theorem jj(l:List cA):freeC [] l=l:=by unfold freeC;exact List.filter_eq_self.mpr λc _=>rfl
noncomputable def yW(l:List cA):List Int:=((List.range 65).map λk=>rk k l).filter λn=>decide (0<n)
end IR
namespace IR
open PySem L2
set_option tactic.hygienic false
theorem eP:∀(k:Nat)(l:List cA),0<=rk k l
 |0,l=>by rw[pJ];omega|k+1,[]=>by rw[uq];omega|k+1,x::xs=>by rw[iP];have a:=eP (k+1) xs;have b:=eP k (BD x xs);omega
theorem pL:∀(k:Nat)(l:List cA),0<rk (k+1) l->0<rk k l
 |0,l,_=>by rw[pJ];omega|k+1,[],h=>by rw[uq]at h;omega|k+1,x::xs,h=>by rw[iP]at h;rw[iP];have a:=eP (k+1) xs;have b:=eP k (BD x xs);have d:=pL (k+1) xs;have c:=pL k (BD x xs);omega
theorem EC(x:cA)(l:List cA):(BD x l).length<=l.length:=Mu _ _
theorem pK:∀(k:Nat)(l:List cA),l.length<k->rk k l=0
 |0,l,h=>by omega|k+1,[],_=>uq k|k+1,x::xs,h=>by rw[MK]at h;have:=EC x xs;rw[iP,pK (k+1) xs (by omega),pK k (BD x xs) (by omega)];rfl
theorem B7(f:Nat->Int)(i:∀k,0<=f k)(l:∀k,0<f (k+1)->0<f k):∀N,∃m,m<=N/\((List.range N).map f).filter (λn=>decide (0<n))=(List.range m).map f/\(∀k,k<m->0<f k)/\∀k,m<=k->k<N->f k=0
 |0=>⟨0,MJ _,rfl,λk h=>by omega,λk _ h=>by omega⟩|N+1=>by
  obtain⟨m,s,o,q,j⟩:=B7 f i l N;rw[OO,MX,OG,o]
  by_cases g:0<f N
  .have c:∀d k,k+d=N->0<f k:=by
    intro d
    induction d with
    |zero=>intro k e;rw[show k=N by omega];exact g|succ d r=>intro k e;exact l k (r (k+1) (by omega))
   have p:m=N:=by
    by_cases z:m=N;exact z
    .have:=c (N-m) m (by omega)
     have:=j m (MJ _) (by omega);omega
   refine⟨N+1,MJ _,?_,λk hk=>c (N-k) k (by omega),λk a b=>by omega⟩;rw[p,OO,MX];simp[g]
  .refine⟨m,by omega,by simp[g],q,λk a b=> ?_⟩
   by_cases z:k=N
   .subst z;have:=i k;omega
   .exact j k a (by omega)
theorem wW(l:List cA)(d:l.length<=64):∃m,yW l=(List.range m).map (λk=>rk k l)/\(∀k,k<m->0<rk k l)/\∀k,m<=k->rk k l=0:=by
 obtain⟨m,_,b,c,a⟩:=B7 (λk=>rk k l) (λk=>eP k l) (λk=>pL k l) 65;refine⟨m,b,c,λk hk=> ?_⟩
 by_cases z:k<65;exact a k hk z;exact pK k l (by omega)
theorem mZ:∀(i:Nat)(a:List (List Nat)),(∀r∈a,r.length<=8)->(fD i a).length<=8*a.length
 |_,[],_=>MJ _|i,r::a,h=>by have b:=mZ (i+1) a λr' hr' =>h r' (MA _ hr');have c:=h r MB;rw[fD.eq_2,MT,MK];unfold kD;rw[L9];omega
theorem mX(a:List Str)(d:a.length<=8)(c:∀z∈a,z.length<=8):(cN a).length<=64:=by
 have:=mZ 0 (a.map aF) λr hr=>by obtain⟨z,b,rfl⟩:=MG.mp hr;unfold aF;refine Mq (Mu _ _) ?_;rw[M3];exact c z b
 rw[L9]at this;unfold cN;omega
noncomputable def bk(w j:Nat):Nat:=if j<w then w-1-j else j
noncomputable def ch:Nat->Nat->Nat
 |_,0=>1|0,_+1=>0|n+1,k+1=>ch n (k+1)+ch n k
noncomputable def fl:Nat->Nat->Nat
 |_,0=>1|n,k+1=>n*fl (n-1) k
noncomputable def fn(m n k:Nat):Int:=((ch m k*fl n k:Nat):Int)
theorem AN{a:Type}(l:List a)(f g:a->Int):bL l (λx=>f x+g x)=bL l f+bL l g:=by
 induction l with
 |nil=>rfl|cons x l b=>rw[aN,aN,aN,b];omega
theorem yN{a:Type}{l:List a}{f:a->Int}(h:∀x∈l,f x=0):bL l f=0:=by
 induction l with
 |nil=>rfl|cons x l b=>rw[aN,h x MB,b λy hy=>h y (MA _ hy)];rfl
theorem DQ{a:Type}(l:List a)(p:a->Bool)(f:a->Int):bL l (λx=>if p x then f x else 0)=bL (l.filter p) f:=by
 induction l with
 |nil=>rfl|cons x l b=>rw[aN,b,Ni];cases p x;simp;simp[aN]
section
variable(b:Nat->Nat->Bool)
noncomputable def gj:List Nat->List Nat->Nat->Int
 |[],_,j=>if j=0 then 1 else 0|i::L,C,j=>bL C λc=>if b i c then(if j=0 then 0 else gj L (C.erase c) (j-1))else gj L (C.erase c) j
end
theorem yO{a b:Type}(l:List a)(g:a->b)(f:b->Int):bL (l.map g) f=bL l λx=>f (g x):=by unfold bL;rw[Mg];rfl
theorem nZ{a:Type}(l b:List a)(f:a->Int):bL (l++b) f=bL l f+bL b f:=by unfold bL;rw[MX,List.sum_append]
abbrev bP:=List (List Int×Int)
noncomputable def fI(c:bP)(k:List Int):Option Int:=(c.find? λp=>decide (p.1=k)).map (·.2)
noncomputable def putN(c:bP)(k:List Int)(v:Int):bP:=if(c.any λp=>decide (p.1=k))=true then c.map (λp=>if p.1=k then(p.1,v)else p)else c++[(k,v)]
noncomputable def v7(c:bP)(k:List Int)(n:Int):bP:=putN c k ((fI c k).getD 0+n)
noncomputable def eQ(k:List Int)(c:Int):List Int:=sortI (k++[c])
noncomputable def eJ(t:List Int)(n:Int)(f:bP)(c:Int):bP:=if t.contains c then f else v7 f (eQ t c) n
noncomputable def lF(B:List Int)(f:bP)(p:List Int×Int):bP:=B.foldl (eJ p.1 p.2) f
noncomputable def oE(B:List Int)(c:bP):bP:=c.foldl (lF B) c
noncomputable def fO(a:List (List Int)):bP:=a.foldl (λc B=>oE B c) [([],1)]
noncomputable def wN(a:List Int->Int)(c:bP):Int:=bL c λp=>p.2*a p.1
theorem jM{c:bP}:(c.any λp=>decide (p.1=k))=true↔k∈c.map (·.1):=by rw[NX,MG];exact⟨λ⟨p,h,e⟩=>⟨p,h,Me e⟩,λ⟨p,h,e⟩=>⟨p,h,MO e⟩⟩
theorem By(h:k∉c.map (·.1)):fI c k=none:=by unfold fI;rw[Pi.mpr λp hp z=>h (MG.mpr ⟨p,hp,Me z⟩)];rfl
theorem JY(a:List Int->Int):∀{c:bP},(c.map (·.1)).Nodup->wN a (v7 c k n)=wN a c+n*a k:=by
 have f:∀{c:bP}{w:Int},(c.map (·.1)).Nodup->k∈c.map (·.1)->wN a (c.map λp=>if p.1=k then(p.1,w)else p)=wN a c+(w-(fI c k).getD 0)*a k:=by
  intro c w
  induction c with
  |nil=>intro _ h;simp at h|cons p c l=>
   intro b h;rw[MM,Mb]at b;unfold wN;rw[MM,aN,aN]
   by_cases e:p.1=k
   .rw[MF e]
    have g:k∉c.map (·.1):=λz=>b.1 (e▸z);have j:c.map (λp=>if p.1=k then(p.1,w)else p)=c:=by refine(M7 λq hq=> ?_).trans (List.map_id c);rw[ME λz=>g (MG.mpr ⟨q,hq,z⟩)];rfl
    have d:fI (p::c) k=some p.2:=by unfold fI;rw[List.find?_cons_of_pos (by simpa using e)];rfl
    rw[j,d,<-e];simp only[Option.getD_some,Int.sub_mul];omega
   .rw[ME e]
    have i:k∈c.map (·.1):=by rw[MM,MP]at h;exact h.resolve_left λz=>e z.symm
    have:=l b.2 i;unfold wN at this;have d:fI (p::c) k=fI c k:=by unfold fI;rw[List.find?_cons_of_neg (by simpa using e)]
    rw[this,d];omega
 intro c b;unfold v7 putN
 by_cases h:k∈c.map (·.1)
 .rw[MF (jM.mpr h),f b h]
  have:(fI c k).getD 0+n-(fI c k).getD 0=n:=by omega
  rw[this]
 .rw[ME λz=>h (jM.mp z),By h]
  unfold wN;rw[nZ,aN,cC];simp
theorem zT(a:(c.map (·.1)).Nodup):((v7 c k n).map (·.1)).Nodup/\∀q,q∈(v7 c k n).map (·.1)↔q∈c.map (·.1)\/q=k:=by
 unfold v7 putN
 by_cases h:k∈c.map (·.1)
 .rw[MF (jM.mpr h)]
  have e:(c.map λp=>if p.1=k then(p.1,(fI c k).getD 0+n)else p).map (·.1)=c.map (·.1):=by
   rw[Mg];refine M7 λp _=> ?_;show(if p.1=k then(p.1,_)else p).1=p.1
   split<;>rfl
  rw[e];exact⟨a,λq=>⟨.inl,λz=>z.elim id λe=>e▸h⟩⟩
 .rw[ME λz=>h (jM.mp z),MX]
  refine⟨?_,λq=>by simp⟩;rw[M5];exact⟨a,by simp,λa ha b hb e=>h (by rw[<- (show b=k by simpa using hb),<-e];exact ha)⟩
def cU(k:List Int):Prop:=k.Pairwise (·<·)/\∀c∈k,0<=c/\c<8
def bX(c:bP):Prop:=(c.map (·.1)).Nodup/\∀k∈c.map (·.1),cU k
theorem ge(k:List Int)(c:Int):(eQ k c).Perm (c::k):=(sortI_perm _).trans (List.perm_append_singleton c k)
theorem sd(h:cU k)(b:0<=c/\c<8)(d:c∉k):cU (eQ k c):=by
 have p:=ge k c;have a:(eQ k c).Nodup:=p.nodup_iff.mpr (Mb.mpr ⟨d,h.1.imp λh=>Int.ne_of_lt h⟩);refine⟨?_,λx hx=> ?_⟩
 .have s:=rR (k++[c])
  exact(s.and a).imp λh=>by omega
 .rcases MP.mp (p.mem_iff.mp hx)with rfl|hx
  .exact b
  .exact h.2 x hx
set_option tactic.hygienic true
theorem rN(h:bX f)(d:cU t)(e:0<=c/\c<8):bX (eJ t n f c)/\(∀k∈f.map (·.1),k∈(eJ t n f c).map (·.1)):=by
 unfold eJ
 split;exact⟨h,λk hk=>hk⟩
 .rename_i g
  obtain⟨a,b⟩:=zT (k:=eQ t c) (n:=n) h.1;refine⟨⟨a,λk hk=> ?_⟩,λk hk=>(b k).mpr (.inl hk)⟩
  rcases(b k).mp hk with hk|rfl
  .exact h.2 k hk
  .exact sd d e (by simpa using g)
set_option tactic.hygienic false
theorem i6{t:List Int}{n:Int}(a:cU t):∀{B:List Int}{f:bP},bX f->(∀c∈B,0<=c/\c<8)->bX (B.foldl (eJ t n) f)
 |[],f,h,_=>h|c::B,f,h,hB=>by rw[NQ];exact i6 a (rN h a (hB c MB)).1 λd hd=>hB d (MA _ hd)
theorem mF{B:List Int}(a:∀c∈B,0<=c/\c<8):∀{c f:bP},bX f->(∀p∈c,cU p.1)->bX (c.foldl (lF B) f)
 |[],f,h,_=>h|p::c,f,h,hc=>by rw[NQ];exact mF a (i6 (n:=p.2) (hc p MB) h a) λq hq=>hc q (MA _ hq)
theorem BQ(a:∀c∈B,0<=c/\c<8)(h:bX c):bX (oE B c):=mF a h λp hp=>h.2 _ (MG.mpr ⟨p,hp,rfl⟩)
theorem D9:bX [([],1)]:=⟨by simp,λk hk=>by
 have:k=[]:=by simpa using hk
 subst this;exact⟨.nil,λc hc=>nomatch hc⟩⟩
noncomputable def Jd(a:List Int->Int)(B:List Int)(t:List Int):Int:=bL B λc=>if t.contains c then 0 else a (eQ t c)
theorem xT(a:List Int->Int){t:List Int}{n:Int}(b:cU t):∀{B:List Int}{f:bP},bX f->(∀c∈B,0<=c/\c<8)->wN a (B.foldl (eJ t n) f)=wN a f+n*Jd a B t
 |[],f,h,_=>by unfold Jd;rw[cC];simp|c::B,f,h,hB=>by
  rw[NQ,xT a b (rN h b (hB c MB)).1 λd hd=>hB d (MA _ hd)];unfold Jd eJ;rw[aN]
  split;rw[Om]
  .rw[JY a h.1,Int.mul_add]
   omega
theorem xS(a:List Int->Int){B:List Int}(b:∀c∈B,0<=c/\c<8):∀{c f:bP},bX f->(∀p∈c,cU p.1)->wN a (c.foldl (lF B) f)=wN a f+wN (Jd a B) c
 |[],f,h,_=>by unfold wN;rw[cC,List.foldl_nil];simp|p::c,f,h,hc=>by rw[NQ,xS a b (f:=lF B f p) (i6 (n:=p.2) (hc p MB) h b) λq hq=>hc q (MA _ hq)];unfold lF;rw[xT a (hc p MB) h b];unfold wN;rw[aN];omega
theorem EJ(a:List Int->Int)(b:∀c∈B,0<=c/\c<8)(h:bX c):wN a (oE B c)=wN (λt=>a t+Jd a B t) c:=by unfold oE;rw[xS a b h λp hp=>h.2 _ (MG.mpr ⟨p,hp,rfl⟩)];unfold wN;rw[<- AN];refine bJ λp _=> ?_;rw[Int.mul_add]
noncomputable def sY(t:List Int):List Nat:=t.map Int.toNat
noncomputable def mr(a:List (List Nat))(k:Nat)(t:List Int):Int:=if t.length<=k then cnt a (sY t) (k-t.length)else 0
theorem rA(h:∀p∈c,a p.1=χ p.1):wN a c=wN χ c:=bJ λp hp=>by rw[h p hp]
theorem ln(h:cU t)(c:Nat):c∈sY t↔(c:Int)∈t:=by
 unfold sY;rw[MG]
 constructor
 .rintro⟨x,a,rfl⟩
  have:=h.2 x a;rw[Int.toNat_of_nonneg this.1];exact a
 .exact λhc=>⟨_,hc,Na c⟩
theorem A0(l:∀c∈r,c<8)(k:Nat)(h:cU t):mr f k t+Jd (mr f k) (r.map λc=>((c:Nat):Int)) t=mr (r::f) k t:=by
 have ct:∀c:Nat,t.contains (c:Int)=(sY t).contains c:=λc=>by rw[Ms,Mc,Mc];exact(ln h c).symm
 have n:∀c:Int,(eQ t c).length=t.length+1:=λc=>by rw[(ge t c).length_eq,MK]
 unfold Jd;rw[yO];have e:∀c∈r,(if t.contains ((c:Nat):Int)then 0 else mr f k (eQ t ((c:Nat):Int)))=if !(sY t).contains c then(if t.length+1<=k then cnt f (c::sY t) (k-(t.length+1))else 0)else 0:=λc hc=>by
  rw[ct c];cases i:(sY t).contains c with
  |true=>rfl|false=>
   simp only[OI,Oe,Bool.not_false,PN];unfold mr;rw[n]
   split
   .refine cM f _ λr' _ d _=> ?_
    have m:=sd h (show(0:Int)<=((c:Nat):Int)/\((c:Nat):Int)<8 from⟨by omega,by have:=l c hc;omega⟩) (λz=>by have:=(Mc (a:=((c:Nat):Int)) (as:=t)).mpr z;rw[ct c,i]at this;cases this);rw[Ms,Mc,Mc,ln m,(ge t _).mem_iff,MP,MP,ln h]
    constructor
    .rintro(z|z)
     .exact .inl (by omega)
     .exact .inr z
    .rintro(z|z)
     .exact .inl (by omega)
     .exact .inr z
   .rfl
 rw[bJ e,DQ];unfold mr
 by_cases g:t.length+1<=k
 .obtain⟨j,o⟩:∃j,k-t.length=j+1:=⟨k-t.length-1,by omega⟩
  simp only[MF g];rw[MF (by omega),MF (by omega),o,cnt.eq_4,show k-(t.length+1)=j by omega]
 .simp only[ME g]
  rw[yN λ_ _=>rfl,Int.add_zero]
  by_cases b:t.length<=k
  .rw[MF b,MF b,show k-t.length=0 by omega,aV,aV]
  .rw[ME b,ME b]
theorem gY(a:List (List Int))(B:List Int):fO (a++[B])=oE B (fO a):=by unfold fO;rw[Ny];rfl
noncomputable def jn(r:List Nat):List Int:=r.map λc=>((c:Nat):Int)
theorem rZ:∀(rows:List (List Nat)),dL rows->bX (fO (rows.map jn)):=by intro rows;refine dG (P:=λrows=>dL rows->bX (fO (rows.map jn))) (λ_=>D9) (λl r ih h=> ?_) rows;rw[MX,MM,Nk,gY];refine BQ (λc hc=> ?_) (ih λr' hr' =>h r' (Mr _ hr'));obtain⟨d,hd,rfl⟩:=MG.mp hc;have:=h r (by simp) d hd;omega
theorem Dd(k:Nat):∀(rows aL:List (List Nat)),dL rows->dL aL->wN (mr aL k) (fO (rows.map jn))=cnt (rows++aL) [] k:=by
 intro rows;refine dG (P:=λrows=>∀aL,dL rows->dL aL->wN (mr aL k) (fO (rows.map jn))=cnt (rows++aL) [] k) (λaL _ _=> ?_) (λl r ih aL h h' => ?_) rows
 .show wN _ [([],1)]=_
  unfold wN mr;rw[aN,cC];simp[sY]
 .have hl:dL l:=λr' hr' =>h r' (Mr _ hr')
  have hr:∀c∈r,c<8:=h r (by simp);have ok:=rZ l hl;rw[MX,MM,Nk,gY,EJ _ (λc hc=>by obtain⟨d,hd,rfl⟩:=MG.mp hc;have:=hr d hd;omega) ok]
  rw[rA (χ:=mr (r::aL) k) λp hp=>A0 hr k (ok.2 _ (MG.mpr ⟨p,hp,rfl⟩)),ih (r::aL) hl λr' hr' =>by
   rcases MP.mp hr' with rfl|hr'
   .exact hr
   .exact h' r' hr',NI]
  rfl
theorem jY(a:List (List Nat))(h:dL a)(k:Nat):wN (λt=>if t.length=k then 1 else 0) (fO (a.map jn))=cnt a [] k:=by
 have:=Dd k a [] h (λr hr=>nomatch hr);rw[NH]at this;rw[<- this];refine rA λp _=> ?_;unfold mr
 by_cases e:p.1.length=k
 .rw[MF e,MF (by omega),show k-p.1.length=0 by omega,aV]
 .rw[ME e]
  split
  .obtain⟨j,b⟩:∃j,k-p.1.length=j+1:=⟨k-p.1.length-1,by omega⟩
   rw[b];rfl
  .rfl
noncomputable def iK:List Int->List (List Int)
 |[]=>[[]]|c::r=>iK r++(iK r).map (c::·)
theorem sU:∀r:List Int,[]∈iK r
 |[]=>by simp[iK]|c::r=>Mr _ (sU r)
theorem lj:∀{r k:List Int},r.Pairwise (·<·)->k.Pairwise (·<·)->(∀x∈k,x∈r)->k∈iK r
 |r,[],_,_,_=>sU r|[],a::k,_,_,h=>by have:=h a MB;cases this|c::r,a::k,hr,hk,h=>by
  rw[Nt]at hr hk;rw[iK,Mi]
  by_cases e:a=c
  .refine .inr (MG.mpr ⟨k,lj hr.2 hk.2 λx hx=> ?_,by rw[e]⟩)
   have:=hk.1 x hx
   rcases MP.mp (h x (MA _ hx))with z|z
   .omega
   .exact z
  .have d:a∈r:=(MP.mp (h a MB)).resolve_left e
   have b:=hr.1 a d;refine .inl (lj hr.2 (Nt.mpr hk) λx hx=> ?_)
   rcases MP.mp (h x hx)with z|z
   .rcases MP.mp hx with y|y
    .omega
    .have:=hk.1 x y
     omega
   .exact z
noncomputable def xO(k:List Int):Int:=reduceHash (Builtin.Tuple.tupleHashOf (k.map hashInt))
theorem uj:((iK [0,1,2,3,4,5,6,7]).map xO).Nodup:=by decide +kernel
theorem yg{d g:Type}{f:d->g}{l:List d}(h:(l.map f).Nodup):∀x∈l,∀y∈l,f x=f y->x=y:=by
 induction l with
 |nil=>intro x b;cases b|cons a l i=>
  rw[MM,Mb]at h;intro x b y c e;rw[MP]at b c
  rcases b with b|b<;>rcases c with c|c
  .rw[b,c]
  .exact absurd (MG.mpr ⟨y,c,by rw[<- e,b]⟩) h.1
  .exact absurd (MG.mpr ⟨x,b,by rw[e,c]⟩) h.1
  .exact i h.2 x b y c e
theorem l7(h:cU k):k∈iK [0,1,2,3,4,5,6,7]:=by
 refine lj (by decide) h.1 λx hx=> ?_;have:=h.2 x hx;have:x=0\/x=1\/x=2\/x=3\/x=4\/x=5\/x=6\/x=7:=by omega
 simpa using this
noncomputable def ba(c:bP):List (List L2.ah×V):=c.map λp=>(p.1.map Sum.inl,V.int p.2)
theorem Cq(P:Program)(w:World)(h:bX c):L2.Apart P w ((ba c).map (·.1)):=by
 unfold L2.Apart ba;rw[Mg,Mg];have e:((tupleKeyHash (aT P w)∘λx:List L2.ah×V=>x.1)∘λp:List Int×Int=>(p.1.map Sum.inl,V.int p.2))=λp=>xO p.1:=by
  funext p
  show reduceHash (Builtin.Tuple.tupleHashOf ((p.1.map Sum.inl).map (aT P w).hash))=_;rw[Mg];rfl
 rw[e];have d:c.map (λp=>xO p.1)=(c.map (·.1)).map xO:=by rw[Mg];rfl
 rw[d];refine List.Pairwise.map _ (R:=λa b=>a≠b/\cU a/\cU b) (λa b hab z=>hab.1 (yg uj a (l7 hab.2.1) b (l7 hab.2.2) z)) ?_;exact h.1.imp_of_mem λha hb hne=>⟨hne,h.2 _ ha,h.2 _ hb⟩
theorem i9(c:bP):(ba c).length=c.length:=by unfold ba;rw[L9]
theorem qE{a:List Int}:a.map (Sum.inl:Int->L2.ah)=b.map Sum.inl↔a=b:=by
 constructor
 .intro h
  induction a generalizing b with
  |nil=>cases b with
   |nil=>rfl|cons y b=>cases h
  |cons x a c=>cases b with
   |nil=>cases h|cons y b=>rw[MM,MM,List.cons.injEq]at h;rw[Sum.inl.inj h.1,c h.2]
 .rintro rfl
  rfl
theorem mO(c:bP)(k:List Int):eG (ba c) (k.map Sum.inl)=(fI c k).map V.int:=by
 unfold eG ba fI;rw[List.find?_map];have e:((λp:List L2.ah×V=>decide (p.1=k.map Sum.inl))∘λp:List Int×Int=>(p.1.map Sum.inl,V.int p.2))=λp=>decide (p.1=k):=by
  funext p
  simp only[Function.comp,qE]
 rw[e];cases c.find? λp=>decide (p.1=k)<;>rfl
theorem CH(c:bP)(k:List Int)(v:Int):dA (ba c) (k.map Sum.inl) (V.int v)=ba (putN c k v):=by
 unfold dA putN;have a:((ba c).any λkv=>decide (kv.1=k.map Sum.inl))=(c.any λp=>decide (p.1=k)):=by
  unfold ba;rw[List.any_map]
  congr 1
  funext p
  simp only[Function.comp,qE]
 rw[a]
 split
 .unfold ba
  rw[Mg,Mg];refine M7 λp _=> ?_;simp only[Function.comp,qE]
  split<;>rfl
 .unfold ba
  rw[MX];rfl
theorem xX{j:Nat}(h:(ba c)[j]? =some (k,x)):∃t n,c[j]? =some (t,n)/\k=t.map Sum.inl/\x=.int n:=by
 unfold ba at h;rw[MR]at h;cases e:c[j]? with
 |none=>rw[e]at h;cases h|some p=>rw[e]at h;have h:=MZ h;rw[Prod.mk.injEq]at h;exact⟨p.1,p.2,rfl,h.1.symm,h.2.symm⟩
theorem l8(t:List Int):(t.map (Sum.inl:Int->L2.ah)).map kV=t.map V.int:=by rw[Mg];rfl
theorem lf{α:Type}[DecidableEq α]:∀{l L:List α},l.Nodup->(∀x∈l,x∈L)->l.length<=L.length
 |[],L,_,_=>Mk _|a::l,L,h,hs=>by rw[Mb]at h;have ha:=hs a MB;have:=lf (L:=L.erase a) h.2 λx hx=>(List.mem_erase_of_ne (λz:x=a=>h.1 (by rw[<- z];exact hx))).mpr (hs x (MA _ hx));rw[Pt ha]at this;have:=List.length_pos_of_mem ha;rw[MK];omega
theorem bX.few(h:bX c):c.length<=256:=by have b:(c.map (·.1)).Nodup:=h.1;have a:∀k∈c.map (·.1),k∈iK [0,1,2,3,4,5,6,7]:=λk hk=>l7 (h.2 k hk);have:=lf b a;rw[L9]at this;exact Mq this (by decide)
theorem cU.len(h:cU k):k.length<=8:=by
 refine lf (L:=[0,1,2,3,4,5,6,7]) (h.1.imp λh=>Int.ne_of_lt h) λx hx=> ?_;have:=h.2 x hx;have:x=0\/x=1\/x=2\/x=3\/x=4\/x=5\/x=6\/x=7:=by omega
 simpa using this
theorem tN:∀{j:Nat},(c.map (·.1)).Nodup->c[j]? =some (t,n)->fI c t=some n:=by
 induction c with
 |nil=>intro j _ h;simp at h|cons p c ih=>
  intro j nd h;rw[MM,Mb]at nd;unfold fI;cases j with
  |zero=>simp at h;subst h;rw[List.find?_cons_of_pos (by simp)];rfl
  |succ j=>
   have h:c[j]? =some (t,n):=by simpa using h
   rw[List.find?_cons_of_neg (by simpa using λz:p.1=t=>nd.1 (z▸MG.mpr ⟨_,Ma h,rfl⟩))];exact ih nd.2 h
noncomputable def lC(a:List Str):bP:=fO ((a.map aF).map jn)
noncomputable def gk(c:bP):List Int:=(List.range 10).map λj=>wN (λt=>if t.length=j then 1 else 0) c
noncomputable def kC:List PV->Option PV
 |[.tup ls]=>(kB ls).bind λrows=>if rows.length<=8/\(rows.all λz=>decide (z.length<=8))=true then some (.lst ((eI (gk (lC rows))).map PV.int))else none|_=>none
noncomputable def fx(x:Int):Nat->Int
 |0=>1|m+1=>fx x m*(x-m)
end IR
namespace IR
end IR
namespace IR
end IR
namespace IR
open PySem L2
end IR
namespace IR
open PySem
end IR
namespace L2
open SQ
set_option tactic.hygienic false
theorem EF(a:m<256)(b:u<8):v∈lst (put m u)↔v∈lst m\/v=u:=by
 by_cases h:u∈lst m
 .rw[Al h]
  exact⟨.inl,λz=>z.elim id λe=>e▸h⟩
 .obtain⟨-,-,e,-,-⟩:=l6 a b h true
  rw[e,Mi,MP];have:v∈lst m↔v∈(lst m).take (kZ m u)\/v∈(lst m).drop (kZ m u):=by rw[<- Mi,List.take_append_drop]
  rw[this]
  constructor
  .rintro(z|z|z)
   .exact .inl (.inl z)
   .exact .inr z
   .exact .inl (.inr z)
  .rintro((z|z)|z)
   .exact .inl z
   .exact .inr (.inr z)
   .exact .inr (.inl z)
theorem ll{f:Nat->Nat}{v:Nat}:∀{k i m:Nat},(∀j,j<k->f (i+j)<8)->m<256->(v∈lst (pH f k i m)↔v∈lst m\/∃j,j<k/\f (i+j)=v)
 |0,i,m,_,_=>⟨.inl,λz=>z.elim id λ⟨j,h,_⟩=>absurd h (Nat.not_lt_zero _)⟩|k+1,i,m,hf,hm=>by
  unfold pH;have a:=hf 0 (by omega);rw[Nat.add_zero]at a;rw[ll (λj b=>by rw[show i+1+j=i+(j+1)by omega];exact hf (j+1) (by omega)) (ER hm a true).2,EF hm a]
  constructor
  .rintro((z|z)|⟨j,b,e⟩)
   .exact .inl z
   .exact .inr ⟨0,by omega,z.symm⟩
   .exact .inr ⟨j+1,by omega,by rw[<- e];congr 1;omega⟩
  .rintro(z|⟨j,b,e⟩)
   .exact .inl (.inl z)
   .cases j with
    |zero=>exact .inl (.inr e.symm)|succ j=>exact .inr ⟨j,by omega,by rw[<- e];congr 1;omega⟩
theorem lm(h:∀n∈b,0<=n/\n<8):n∈cF b↔n∈b:=by
  unfold cF maskOf;rw[MG];have c:∀j,j<b.length->b.getD j 0∈b:=λj a=>by rw[ML,MN a];exact OA a
  have f:∀j,j<b.length->(b.getD (0+j) 0).toNat<8:=λj a=>by rw[Nc];have:=h _ (c j a);omega
  constructor
  . rintro⟨v,g,rfl⟩
    rw[ll f (by omega)]at g
    rcases g with z|⟨j,a,e⟩
    . exact absurd z (by have:lst 0=[]:=by decide +kernel
                         rw[this];simp)
    . rw[Nc]at e
      have:=h _ (c j a);rw[<- e,Int.toNat_of_nonneg this.1];exact c j a
  . intro d
    obtain⟨j,a,e⟩:=List.getElem_of_mem d;refine⟨n.toNat,(ll f (by omega)).mpr (.inr ⟨j,a,?_⟩),Int.toNat_of_nonneg (h n d).1⟩;rw[Nc,ML,MN a,e];rfl
theorem pW(a:List Int):(cF a).Pairwise (·<·):=by unfold cF;rw[OR];exact(lu _).imp λz=>by omega
theorem gc(a:List Int):(cF a).Nodup:=(pW a).imp λh=>by omega
theorem A9(h:∀n∈a,0<=n/\n<8)(s:a.Pairwise (·<·)):cF a=a:=by
 have c:a.Nodup:=s.imp λh=>by omega
 have p:(cF a).Perm a:=(List.perm_ext_iff_of_nodup (gc a) c).mpr λn=>lm h;exact p.eq_of_pairwise (λa b _ _ h1 h2=>by omega) (pW a) s
theorem F2{c:Type}[DecidableEq c]:∀{b:List c},¬b.Nodup->∃a:List c,a.length<b.length/\∀x∈b,x∈a
 |[],h=>absurd List.nodup_nil h|x::r,h=>by
  by_cases d:x∈r
  .exact⟨r,by simp,λy hy=>by rcases MP.mp hy with z|z;exact z▸d;exact z⟩
  .have:¬r.Nodup:=λz=>h (Mb.mpr ⟨d,z⟩)
   obtain⟨a,e,f⟩:=F2 this;refine⟨x::a,by simpa using e,λy hy=> ?_⟩
   rcases MP.mp hy with z|z
   .exact z▸MB
   .exact MA _ (f y z)
theorem sQ(h:∀n∈a,0<=n/\n<8):(cF a).length=a.length↔a.Nodup:=by
 constructor
 .intro e
  apply NY
  intro b;obtain⟨f,d,c⟩:=F2 b;have:=List.Nodup.length_le_of_subset (gc a) (λx hx=>c x ((lm h).mp hx));omega
 .intro b
  exact((List.perm_ext_iff_of_nodup (gc a) b).mpr λn=>lm h).length_eq
theorem oA(h:∀n∈a,0<=n/\n<8):a=cF a↔a.Pairwise (·<·):= ⟨λe=>by rw[e];exact pW a,λs=>(A9 h s).symm⟩
end L2
namespace OD
section
variable{α:Type}[DecidableEq α](ok:List α->α->Bool)
noncomputable def cnt:List α->List α->Nat->Nat
 |_,_,0=>1|_,[],_+1=>0|b,c::L,m+1=>(if ok b c then cnt (b++[c]) L m else 0)+cnt b L (m+1)
inductive Lg:List α->List α->List α->Prop
 | nil {b L}:Lg b L []
 | take {b c L p}:ok b c=true->Lg (b++[c]) L p->Lg b (c::L) (c::p)
 | skip {b c L p}:Lg b L p->Lg b (c::L) p
noncomputable def kE:List α->List α->List α->Nat
 |_,_,[]=>0|_,[],_::_=>0|b,c::L,x::p=>if x=c then kE (b++[c]) L p else(if ok b c then cnt ok (b++[c]) L p.length else 0)+kE b L (x::p)
noncomputable def kA:List α->List α->Nat->Nat->List α
 |_,_,0,_=>[]|_,[],_+1,_=>[]|b,c::L,m+1,n=>if ok b c then(if n<cnt ok (b++[c]) L m then c::kA (b++[c]) L m n else kA b L (m+1) (n-cnt ok (b++[c]) L m))else kA b L (m+1) n
variable{ok}
set_option tactic.hygienic false
theorem c3:cnt ok b (c::L) (m+1)=(if ok b c then cnt ok (b++[c]) L m else 0)+cnt ok b L (m+1):=rfl
theorem k3:kE ok b (c::L) (x::p)=if x=c then kE ok (b++[c]) L p else(if ok b c then cnt ok (b++[c]) L p.length else 0)+kE ok b L (x::p):=rfl
theorem a3:kA ok b (c::L) (m+1) n=if ok b c then(if n<cnt ok (b++[c]) L m then c::kA ok (b++[c]) L m n else kA ok b L (m+1) (n-cnt ok (b++[c]) L m))else kA ok b L (m+1) n:=rfl
theorem aV(b L:List α):cnt ok b L 0=1:=by cases L<;>rfl
theorem fz(b L:List α):kE ok b L []=0:=by cases L<;>rfl
theorem bK(b L:List α)(n:Nat):kA ok b L 0 n=[]:=by cases L<;>rfl
theorem Lg.sub(h:Lg ok b L p):∀x∈p,x∈L:=by
 induction h with
 |nil=>intro x a;cases a|take _ _ c=>
  intro x a
  rcases MP.mp a with rfl|a
  .exact MB
  .exact MA _ (c x a)
 |skip _ c=>exact λx a=>MA _ (c x a)
theorem Lg.at_nil(h:Lg ok b [] p):p=[]:=by cases h;rfl
theorem Lg.at_take(e:c∉L)(h:Lg ok b (c::L) (c::p)):ok b c=true/\Lg ok (b++[c]) L p:=by
 cases h with
 |take a d=>exact⟨a,d⟩|skip h=>exact absurd (h.sub c MB) e
theorem Lg.at_skip(a:x≠c)(h:Lg ok b (c::L) (x::p)):Lg ok b L (x::p):=by
 cases h with
 |take d e=>exact absurd rfl a|skip h=>exact h
theorem gZ:∀(L b p:List α),L.Nodup->Lg ok b L p->kE ok b L p<cnt ok b L p.length
 |L,b,[],_,_=>by rw[fz,Ow,aV];decide|[],b,x::p,_,h=>by cases h.at_nil|c::L,b,x::p,hn,h=>by
  obtain⟨g,a⟩:=Mb.mp hn;rw[k3,MK,c3]
  by_cases e:x=c
  .subst e
   obtain⟨d,f⟩:=h.at_take g;rw[MF rfl,MF d];have:=gZ L (b++[x]) p a f;omega
  .rw[ME e]
   have:=gZ L b (x::p) a (h.at_skip e);rw[MK]at this;omega
theorem o5:∀(L b p:List α),L.Nodup->Lg ok b L p->kA ok b L p.length (kE ok b L p)=p
 |L,b,[],_,_=>by rw[Ow,bK]|[],b,x::p,_,h=>by cases h.at_nil|c::L,b,x::p,hn,h=>by
  obtain⟨i,a⟩:=Mb.mp hn;rw[k3,MK,a3]
  by_cases e:x=c
  .subst e
   obtain⟨g,d⟩:=h.at_take i;rw[MF rfl,MF g,MF (gZ L (b++[x]) p a d),o5 L (b++[x]) p a d]
  .have d:=h.at_skip e
   have f:=o5 L b (x::p) a d;rw[MK]at f;rw[ME e]
   by_cases o:ok b c=true;rw[MF o,MF o,ME (by omega),Nat.add_sub_cancel_left,f]
   .rw[ME o,ME o,Nc,f]
theorem jS:∀(L b:List α)(m n:Nat),L.Nodup->n<cnt ok b L m->Lg ok b L (kA ok b L m n)/\(kA ok b L m n).length=m/\kE ok b L (kA ok b L m n)=n
 |L,b,0,n,_,h=>by rw[aV]at h;rw[bK,fz];exact⟨.nil,rfl,by omega⟩
 |[],b,m+1,n,_,h=>by rw[cnt.eq_2]at h;omega
 |c::L,b,m+1,n,hn,h=>by
  obtain⟨j,g⟩:=Mb.mp hn;rw[c3]at h;rw[a3]
  by_cases o:ok b c=true
  .rw[MF o]at h ⊢
   by_cases q:n<cnt ok (b++[c]) L m
   .rw[MF q]
    obtain⟨d,a,f⟩:=jS L (b++[c]) m n g q;refine⟨.take o d,by rw[MK,a],?_⟩;rw[k3,MF rfl,f]
   .rw[ME q]
    obtain⟨d,a,f⟩:=jS L b (m+1) (n-cnt ok (b++[c]) L m) g (by omega);refine⟨.skip d,a,?_⟩;cases e:kA ok b L (m+1) (n-cnt ok (b++[c]) L m)with
    |nil=>rw[e]at a;cases a|cons x p=>
     rw[e]at d a f;have i:x≠c:=λz=>j (z▸d.sub x MB);rw[k3,ME i,MF o,f];rw[MK]at a;have:p.length=m:=by omega
     rw[this];omega
  .rw[ME o]at h ⊢
   rw[Nc]at h;obtain⟨d,a,f⟩:=jS L b (m+1) n g h;refine⟨.skip d,a,?_⟩;cases e:kA ok b L (m+1) n with
   |nil=>rw[e]at a;cases a|cons x p=>rw[e]at d a f;have i:x≠c:=λz=>j (z▸d.sub x MB);rw[k3,ME i,ME o,Nc,f]
variable(lt:α->α->Bool)
noncomputable def lex:List α->List α->Bool
 |[],[]=>false|[],_::_=>true|_::_,[]=>false|x::p,y::q=>if x=y then lex p q else lt x y
variable{lt}
theorem l4:lex lt (x::p) (y::q)=if x=y then lex lt p q else lt x y:=rfl
theorem pI:∀(L b p q:List α),L.Nodup->L.Pairwise (λa c=>lt a c=true/\lt c a=false)->Lg ok b L p->Lg ok b L q->p.length=q.length->decide (kE ok b L p<kE ok b L q)=lex lt p q
 |L,b,[],[],_,_,_,_,_=>by rw[fz];rfl
 |L,b,[],y::q,_,_,_,_,h=>by cases h|L,b,x::p,[],_,_,_,_,h=>by cases h|[],b,x::p,y::q,_,_,h,_,_=>by cases h.at_nil|c::L,b,x::p,y::q,hn,hs,hp,hq,i=>by
  obtain⟨m,f⟩:=Mb.mp hn;obtain⟨j,k⟩:=Nt.mp hs;rw[MK,MK]at i;have i:p.length=q.length:=by omega
  rw[k3,k3,l4]
  by_cases l:x=c
  .subst l
   obtain⟨o,e⟩:=hp.at_take m;rw[MF rfl]
   by_cases g:y=x
   .subst g
    obtain⟨_,d⟩:=hq.at_take m;rw[MF rfl,MF rfl];exact pI L (b++[y]) p q f k e d i
   .have d:=hq.at_skip g
    have:=gZ L (b++[x]) p f e;have r:x≠y:=λz=>g z.symm;rw[ME g,MF o,ME r,MO (by rw[i]at this;omega),(j y (d.sub y MB)).1]
  .have e:=hp.at_skip l
   rw[ME l]
   by_cases g:y=c
   .subst g
    obtain⟨o,d⟩:=hq.at_take m;have:=gZ L (b++[y]) q f d;rw[MF rfl,MF o,ME l,MU (by rw[i];omega),(j x (e.sub x MB)).2]
   .have d:=hq.at_skip g
    rw[ME g,i];have n:=pI L b (x::p) (y::q) f k e d (by rw[MK,MK,i]);rw[l4]at n;rw[<- n];rw[Ms,Mm,Mm];omega
theorem mT:∀(M L b:List α)(m:Nat),(∀c∈M,ok b c=false)->cnt ok b (M++L) m=cnt ok b L m
 |M,L,b,0,_=>by rw[aV,aV]|[],L,b,m+1,_=>rfl|c::M,L,b,m+1,h=>by show cnt ok b (c::(M++L)) (m+1)=_;rw[c3,ME (by rw[h c MB];decide),Nc,mT M L b (m+1) λx hx=>h x (MA _ hx)]
end
end OD
namespace OD
section
variable{α:Type}[DecidableEq α]{ok:List α->α->Bool}{lt:α->α->Bool}
set_option tactic.hygienic false
theorem Lg.more(h:Lg ok b L p):Lg ok b (L++[c]) p:=by
 induction h with
 |nil=>exact .nil|take o _ a=>exact .take o a|skip _ a=>exact .skip a
theorem Lg.snoc(h:Lg ok b L p):ok (b++p) c=true->Lg ok b (L++[c]) (p++[c]):=by
 induction h with
 | @nil b L=>
  intro o;rw[NH]at o
  induction L with
  |nil=>exact .take o .nil|cons x L a=>exact .skip a
 | @take b d L p e _ a=>intro o;refine .take e (a ?_);rw[NI];exact o
 |skip _ a=>exact λo=>.skip (a o)
def NB(e:List α->α->Bool)(W:List α)(a:Nat)(f:List α->Int):Prop:=∀d c L b,W=d++c::L->Lg e [] d b->e b c=true->f (b++[c])=if b.length<a then((cnt e (b++[c]) L (a-b.length-1):Nat):Int)else 0
noncomputable def turn(b:List α->α->Bool)(a:List α->Int)(s:List α×Int)(c:α):List α×Int:=
 if b s.1 c then(if s.2<a (s.1++[c])then(s.1++[c],s.2)else(s.1,s.2-a (s.1++[c])))else s
theorem rF{W:List α}{a:Nat}{h:List α->Int}(H:NB ok W a h):∀(L d b:List α)(n:Nat),W=d++L->Lg ok [] d b->b.length<=a->n<cnt ok b L (a-b.length)->(L.foldl (turn ok h) (b,(n:Int))).1=b++kA ok b L (a-b.length) n
 |[],d,b,n,hW,hb,hl,hn=>by
  cases e:a-b.length with
  |zero=>rw[bK,NH];rfl|succ m=>rw[e,cnt.eq_2]at hn;omega
 |c::L,d,b,n,hW,hb,hl,hn=>by
  have f:W=(d++[c])++L:=by rw[hW,NI];rfl
  rw[NQ,turn]
  by_cases o:ok b c=true
  .rw[MF o]
   show(List.foldl (turn ok h) (if(n:Int)<h (b++[c])then(b++[c],(n:Int))else(b,(n:Int)-h (b++[c]))) L).1=_;rw[H d c L b hW hb o];cases e:a-b.length with
   |zero=>
    rw[ME (show¬b.length<a by omega),ME (by omega),bK,NH]
    have g:=rF H L (d++[c]) b n f hb.more hl (by rw[e,aV]at hn ⊢;exact hn)
    rw[e,bK,NH]at g;rw[Int.sub_zero];exact g
   |succ m=>
    rw[MF (show b.length<a by omega),Oz,a3,MF o];rw[e,c3,MF o]at hn
    by_cases q:n<cnt ok (b++[c]) L m
    .have g:=rF H L (d++[c]) (b++[c]) n f (hb.snoc o) (by rw[MT];simp;omega) (by
      rw[MT];show n<cnt ok (b++[c]) L (a-(b.length+1));rw[show a-(b.length+1)=m by omega];exact q)
     rw[MF (by omega),MF q,g,MT];show b++[c]++kA ok (b++[c]) L (a-(b.length+1)) n=_;rw[show a-(b.length+1)=m by omega,NI];rfl
    .have g:=rF H L (d++[c]) b (n-cnt ok (b++[c]) L m) f hb.more hl (by rw[e];omega)
     rw[ME (by omega),ME q,show(n:Int)-((cnt ok (b++[c]) L m:Nat):Int)=((n-cnt ok (b++[c]) L m:Nat):Int)by omega,g,e]
  .rw[ME o]
   have i:n<cnt ok b L (a-b.length):=by
    cases e:a-b.length with
    |zero=>rw[e,aV]at hn;rw[aV];exact hn|succ m=>rw[e,c3,ME o,Nc]at hn;exact hn
   rw[rF H L (d++[c]) b n f hb.more hl i];cases e:a-b.length with
   |zero=>rw[bK,bK]|succ m=>rw[a3,ME o]
noncomputable def mq(b:List α->α->Bool)(a:α->α->Bool)(d:List α->Int)(P:List α)(c:α):Int:=
 if c∈P then 0 else if b (P.filter λx=>a x c) c then d ((P.filter λx=>a x c)++[c])else 0
noncomputable def sumZ(f:α->Int):List α->Int
 |[]=>0|c::L=>f c+sumZ f L
theorem kf{W P:List α}{nb:List α->Int}(hn:W.Nodup)(hs:W.Pairwise λa c=>lt a c=true/\lt c a=false)(H:NB ok W P.length nb):∀(L pre b p:List α),W=pre++L->P=b++p->Lg ok [] pre b->Lg ok b L p->sumZ (mq ok lt nb P) L=((kE ok b L p:Nat):Int)
 |[],pre,b,p,_,_,_,hp=>by rw[hp.at_nil];rfl
 |c::L,pre,b,p,hW,hP,hb,hp=>by
  have hW2:W=(pre++[c])++L:=by rw[hW,NI];rfl
  have cL:c∉L:=by rw[hW]at hn;exact(Mb.mp (M5.mp hn).2.1).1
  have cpre:c∉pre:=by rw[hW]at hn;exact λz=>(M5.mp hn).2.2 c z c MB rfl
  have sb:∀x∈b,lt x c=true:=λx hx=>by rw[hW]at hs;exact((Ng.mp hs).2.2 x (hb.sub x hx) c MB).1
  have sL:∀x∈L,lt x c=false:=λx hx=>by rw[hW]at hs;exact((Nt.mp (Ng.mp hs).2.1).1 x hx).2
  have skip:c∉p->Lg ok b L p->mq ok lt nb P c=if ok b c then(if 0<p.length then((cnt ok (b++[c]) L (p.length-1):Nat):Int)else 0)else 0:=λcp hp2=>by
   have cP:c∉P:=by rw[hP,Mi];exact λz=>z.elim (λz=>cpre (hb.sub c z)) cp
   have f:(P.filter λx=>lt x c)=b:=by rw[hP,OG,List.filter_eq_self.mpr sb,List.filter_eq_nil_iff.mpr (λx hx=>by rw[sL x (hp2.sub x hx)];decide),NH]
   have lP:P.length=b.length+p.length:=by rw[hP,MT]
   unfold mq;rw[ME cP,f]
   by_cases o:ok b c=true
   .rw[MF o,MF o,H pre c L b hW hb o,lP,show b.length+p.length-b.length-1=p.length-1 by omega]
    by_cases z:0<p.length;rw[MF z,MF (by omega)]
    .rw[ME z,ME (by omega)]
   .rw[ME o,ME o]
  cases p with
  |nil=>
   rw[sumZ.eq_2,skip (by simp) .nil,kf hn hs H L (pre++[c]) b [] hW2 hP hb.more .nil,fz,fz]
   split<;>rfl
  |cons x p=>
   rw[sumZ.eq_2,k3]
   by_cases e:x=c
   .subst e
    obtain⟨o,hp2⟩:=hp.at_take cL;have:mq ok lt nb P x=0:=by unfold mq;rw[MF (by rw[hP];simp)]
    rw[this,MF rfl,Om,kf hn hs H L (pre++[x]) (b++[x]) p hW2 (by rw[hP,NI];rfl) (hb.snoc o) hp2]
   .have hp2:=hp.at_skip e
    rw[ME e,skip (λz=>cL (hp2.sub c z)) hp2,kf hn hs H L (pre++[c]) b (x::p) hW2 hP hb.more hp2];rw[MK,MF (Nat.succ_pos _),Oz]
    split<;>omega
end
end OD
namespace IR
open PySem
noncomputable def tR(T:Nat)(m:Int):Int:=if Builtin.bitAnd m (T:Int)=0 then 1 else 0
set_option tactic.hygienic false
theorem qK(T m:Nat):tR T (m:Int)=if m &&& T=0 then 1 else 0:=by
 unfold tR;rw[uP]
 by_cases h:m &&& T=0;rw[MF h,MF (by omega)]
 .rw[ME h,ME (by omega)]
theorem wk:a ||| b=0↔a=0/\b=0:=by
 constructor
 .intro h
  constructor
  .refine Nat.eq_of_testBit_eq λi=> ?_
   have:=Mw (λx=>Nat.testBit x i) h;simp only[Nat.testBit_or,Nat.zero_testBit,Bool.or_eq_false_iff]at this ⊢;exact this.1
  .refine Nat.eq_of_testBit_eq λi=> ?_
   have:=Mw (λx=>Nat.testBit x i) h;simp only[Nat.testBit_or,Nat.zero_testBit,Bool.or_eq_false_iff]at this ⊢;exact this.2
 .rintro⟨rfl,rfl⟩
  rfl
theorem B3(T m c:Nat):(if Builtin.bitAnd (m:Int) ((2^c:Nat):Int)=0 then tR T (Builtin.bitOr (m:Int) ((2^c:Nat):Int))else 0)=if T.testBit c then 0 else tR (T ||| 2^c) (m:Int):=by
 rw[uP,xk,qK,qK,Nat.and_or_distrib_right,Nat.and_or_distrib_left];have d:(((m &&& 2^c:Nat):Int)=0)↔m &&& 2^c=0:=by omega
 have e:(2^c &&& T=0)↔T.testBit c=false:=by rw[Nat.and_comm];exact Fb T c
 by_cases a:m &&& 2^c=0
 .rw[MF (d.mpr a)]
  cases b:T.testBit c with
  |true=>rw[MF rfl,ME (λz=>by have:=e.mp (wk.mp z).2;rw[b]at this;cases this)]|false=>rw[ME MI];have f:=e.mpr b;rw[f,a]
 .rw[ME (λz=>a (d.mp z)),ME (λz=>a (wk.mp z).2)]
  split<;>rfl
theorem wR(T m:Nat):∀{r:List Nat},(∀c∈r,c<8)->Sb (kN r) (tR T) (m:Int)=bL (r.filter λc=> !(mS T).contains c) λc=>tR (T ||| 2^c) (m:Int)
 |[],_=>rfl|c::r,h=>by
  have a:Sb (kN (c::r)) (tR T) (m:Int)=(if Builtin.bitAnd (m:Int) ((2^c:Nat):Int)=0 then tR T (Builtin.bitOr (m:Int) ((2^c:Nat):Int))else 0)+Sb (kN r) (tR T) (m:Int):=by unfold Sb kN;rw[MM,aN]
  rw[a,B3,wR T m λd hd=>h d (MA _ hd),Ni,gF (h c MB)];cases T.testBit c with
  |true=>simp|false=>simp[aN]
theorem qx{a:Type}(f:a->Int->Int)(t:aX):∀l:List a,dJ (λm=>bL l λc=>f c m) t=bL l λc=>dJ (f c) t
 |[]=>qz t|c::l=>by rw[aN,<-qx f t l,<-wF];exact jR λp _=>aN c l λc=>f c p.1
noncomputable def wK:List (List Nat)->List aX
 |[]=>[[(0,1)]]|r::rows=>wl (wK rows) (kN r) (wK rows).length
theorem tK:bN [(0,1)]:=⟨by simp,λp hp=>by rw[Mj.mp hp];exact⟨⟨0,rfl,by decide⟩,by decide⟩⟩
theorem rK:∀{rows:List (List Nat)},dL rows->(wK rows).length=rows.length+1/\∀c∈wK rows,bN c
 |[],_=>⟨rfl,λc hc=>by rw[Mj.mp hc];exact tK⟩
 |r::rows,h=>by obtain⟨a,b⟩:=rK (rows:=rows) λr' hr=>h r' (MA _ hr);refine⟨?_,o4 (mf (h r MB)) b _⟩;show(wl _ _ _).length=_;rw[kr,a];rfl
theorem jh{a:List aX}(h:∀c∈a,bN c)(j:Nat):bN (a.getD j []):=by
 rw[ML];cases e:a[j]? with
 |none=>exact iu|some c=>exact h c (Ma e)
set_option tactic.hygienic true
theorem mC(a:List aX)(j:Nat):(a++[[]]).getD j []=a.getD j []:=by
 rw[ML,ML,List.getElem?_append]
 split;rfl
 .rename_i h
  rw[NK (l:=a) (by omega)];cases e:j-a.length with
  |zero=>rfl|succ n=>rfl
set_option tactic.hygienic false
theorem CS(a:d<8):(mS (T ||| 2^c)).contains d=(c::mS T).contains d:=by
 rw[gF a,OH,gF a,Nat.testBit_or,Nat.testBit_two_pow,Bool.or_comm]
 congr 1
 by_cases e:c=d;subst e;simp
 .have:¬d=c:=λz=>e z.symm
  simp[e,this]
theorem jW{a:Type}:∀l:List a,bL l (λ_=>0)=0
 |[]=>rfl|x::l=>by rw[aN,jW l];rfl
theorem ff:∀(a:List (List Nat))(T:List Nat)(k:Nat),a.length<k->cnt a T k=0
 |[],T,0,h=>by cases h|[],T,k+1,_=>rfl|r::a,T,0,h=>by cases h|r::a,T,k+1,h=>by rw[MK]at h;rw[cnt.eq_4,ff a T (k+1) (by omega),bJ (g:=λ_=>0) λc _=>ff a (c::T) k (by omega),jW];rfl
theorem wJ:∀{rows:List (List Nat)},dL rows->∀T s:Nat,dJ (tR T) ((wK rows).getD s [])=cnt rows (mS T) s
 |[],_,T,0=>by show 1*tR T ((0:Nat):Int)+0=1;rw[qK,Nat.zero_and];rfl
 |[],_,T,s+1=>rfl|r::rows,h,T,s=>by
  have b:=h r MB;have a:dL rows:=λr' b=>h r' (MA _ b);obtain⟨k,i⟩:=rK a;have f:=λT s=>wJ a T s;have e:(wK (r::rows)).getD s []=((wK (r::rows))[s]?).getD []:=ML ..;rw[e,show wK (r::rows)=wl (wK rows) (kN r) (wK rows).length from rfl,uX _ _ _ _ (MJ _)];cases s with
  |zero=>rw[MF (.inl rfl),<-ML,mC,f,cnt.eq_3]
  |succ s=>
   rw[cnt.eq_4]
   by_cases q:(wK rows).length<s+1
   .rw[MF (.inr q),<-ML,mC,f]
    rw[bJ (g:=λ_=>0) λc _=>ff rows _ _ (by omega),jW];omega
   .rw[ME (by omega),Option.getD_some,mC,wG _ (mf b) (jh i _) (jh i _),f,Oz]
    refine Mw (_+·) ?_;rw[jR (χ:=λm=>bL (r.filter λc=> !(mS T).contains c) λc=>tR (T ||| 2^c) m) λp hp=> ?_,qx]
    .refine bJ λc _=> ?_
     rw[f];exact cM rows s λr' hr' d hd=>CS (a r' hr' d hd)
    .obtain⟨⟨m,j,_⟩,_⟩:=(jh i s).2 p hp
     rw[j];exact wR T m b
noncomputable def b9(b:List (Int×Int))(c:Int×Int):Bool:=(b.all λx=>decide (x.1<c.1))&&(b.all λx=>decide (x.2≠c.2))
noncomputable def rf(r:Int)(a:List Nat):List (Int×Int):=a.map λc:Nat=>(r,(c:Int))
noncomputable def aW:Int->List (List Nat)->List (Int×Int)
 |_,[]=>[]|r,cs::aL=>rf r cs++aW (r+1) aL
noncomputable def ay(b:List (Int×Int)):List Nat:=b.map λx=>x.2.toNat
theorem CT{r:Int}{c:Nat}(d:∀x∈b,x.1<r/\0<=x.2):b9 b (r,(c:Int))= !(ay b).contains c:=by
 unfold b9 ay;have e:(b.all λx=>decide (x.1<r))=true:=MS.mpr λx a=>MO (d x a).1;show((b.all λx=>decide (x.1<r))&&_)=_;rw[e,Bool.true_and,Ms,MS,NJ,<-OC,Mc,MG]
 constructor
 .rintro h ⟨x,a,rfl⟩
  have f:=Me (h x a);have g:=(d x a).2
  apply f
  show x.2=((x.2.toNat:Nat):Int);omega
 .intro h x a
  refine MO λz=>h ⟨x,a,?_⟩;show x.2.toNat=c;have z:x.2=(c:Int):=z;omega
theorem wV{b:List (Int×Int)}{r:Int}(d:∀x∈b,x.1<r/\0<=x.2)(L:List (Int×Int))(m:Nat):∀a:List Nat,((OD.cnt b9 b (rf r a++L) (m+1):Nat):Int)=((OD.cnt b9 b L (m+1):Nat):Int)+bL (a.filter λc=> !(ay b).contains c) λc=>((OD.cnt b9 (b++[(r,(c:Int))]) L m:Nat):Int)
 |[]=>by rw[List.filter_nil,cC];show((OD.cnt b9 b L (m+1):Nat):Int)=_;omega
 |c::a=>by
  show((OD.cnt b9 b ((r,(c:Int))::(rf r a++L)) (m+1):Nat):Int)=_;rw[OD.cnt,Int.natCast_add,wV d L m a,Ni,CT d];cases(ay b).contains c with
  |true=>simp
  |false=>
   rw[Bool.not_false,MF rfl,MF rfl,aN,OD.mT (rf r a) L (b++[(r,(c:Int))]) m λd hd=> ?_]
   .omega
   .obtain⟨e,_,rfl⟩:=MG.mp hd
    unfold b9;have:((b++[(r,(c:Int))]).all λx=>decide (x.1<r))=false:=by rw[List.all_append];simp
    show(((b++[(r,(c:Int))]).all λx=>decide (x.1<r))&&_)=false;rw[this];rfl
theorem cv:∀(a:List (List Nat))(r:Int)(b:List (Int×Int))(m:Nat),(∀x∈b,x.1<r/\0<=x.2)->((OD.cnt b9 b (aW r a) m:Nat):Int)=cnt a (ay b) m
 |a,r,b,0,_=>by rw[OD.aV,aV];rfl|[],r,b,m+1,_=>rfl|cs::a,r,b,m+1,hb=>by
  rw[aW,wV hb,cnt.eq_4,cv a (r+1) b (m+1) λx hx=>⟨by have:=(hb x hx).1;omega,(hb x hx).2⟩];refine Mw (_+·) (bJ λc _=> ?_);rw[cv a (r+1) (b++[(r,(c:Int))]) m λx hx=> ?_]
  .refine cM a m λr' _ d _=> ?_
   unfold ay;rw[MX,Ms,Mc,Mc,Mi,MP];simp[or_comm]
  .rcases Mi.mp hx with z|z
   .have:=hb x z
    exact⟨by omega,this.2⟩
   .rw[Mj.mp z]
    exact⟨by show r<r+1;omega,by show(0:Int)<=(c:Int);omega⟩
theorem re(h:c∈rf r cs):c.1=r/\0<=c.2:=by obtain⟨n,_,rfl⟩:=MG.mp h;exact⟨rfl,by show(0:Int)<=(n:Int);omega⟩
theorem fh:∀(rows:List (List Nat))(r:Int)(pre:List (Int×Int))(c:Int×Int)(L:List (Int×Int)),aW r rows=pre++c::L->∃(j:Nat)(M:List (Int×Int)),c.1=r+j/\0<=c.2/\j<rows.length/\L=M++aW (r+j+1) (rows.drop (j+1))/\∀d∈M,d.1=c.1
 |[],r,pre,c,L,h=>by have:=Mw List.length h;rw[MT,MK]at this;exact absurd this (by show¬(0=_);omega)
 |cs::rows,r,pre,c,L,h=>by
  rw[aW]at h;have next:∀pre',aW (r+1) rows=pre' ++c::L->∃(j:Nat)(M:List (Int×Int)),c.1=r+j/\0<=c.2/\j<(cs::rows).length/\L=M++aW (r+j+1) ((cs::rows).drop (j+1))/\∀d∈M,d.1=c.1:=λpre' h=>by obtain⟨j,M,h1,h2,h3,h4,h5⟩:=fh rows (r+1) pre' c L h;refine⟨j+1,M,by omega,h2,by rw[MK];omega,?_,h5⟩;rw[h4,List.drop_succ_cons,show r+1+(j:Int)+1=r+((j+1:Nat):Int)+1 by omega]
  rcases List.append_eq_append_iff.mp h with⟨a,h1,h2⟩|⟨a,h1,h2⟩
  .exact next a h2
  .cases a with
   |nil=>exact next [] h2.symm
   |cons d a=>rw[List.cons_append]at h2;obtain⟨rfl,h3⟩:=List.cons.inj h2;have m:∀x∈c::a,x.1=r/\0<=x.2:=λx hx=>re (cs:=cs) (by rw[h1];exact Mv _ hx);obtain⟨m1,m2⟩:=m c MB;refine⟨0,a,by omega,m2,by rw[MK];omega,?_,λd hd=>by rw[(m d (MA _ hd)).1,m1]⟩;rw[h3];show a++aW (r+1) rows=a++aW (r+(0:Nat)+1) rows;rw[show r+((0:Nat):Int)+1=r+1 by omega]
noncomputable def bF(b:List (Int×Int)):Nat:=match b.getLast? with
 |some c=>(c.1+1).toNat|none=>0
noncomputable def nC(c:List (List Nat))(a:Nat)(b:List (Int×Int)):Int:=if b.length<=a then cnt (c.drop (bF b)) (ay b) (a-b.length)else 0
theorem EK:∀{b L p:List (Int×Int)}{c:Int×Int},OD.Lg b9 b L p->b9 (b++p) c=true->∀x∈b++p,x.1<c.1:=λ{b L p c} _ o x hx=>by unfold b9 at o;rw[MH,MS]at o;exact Me (o.1 x hx)
theorem jD(h:x∈aW r rows):0<=x.2/\r<=x.1:=by obtain⟨a,L,e⟩:=List.append_of_mem h;obtain⟨j,M,c,b,_⟩:=fh rows r a x L e;exact⟨b,by omega⟩
theorem BN(f:List (List Nat))(a:Nat):OD.NB b9 (aW 0 f) a (nC f a):=by
 intro g c L b h i o;obtain⟨j,M,t,m,s,n,k⟩:=fh f 0 g c L h;have l:∀x∈b,x.1<c.1:=EK (b:=[]) i o;have p:∀x∈b,0<=x.2:=λx hx=>(jD (rows:=f) (r:=0) (by rw[h];exact Mr _ (i.sub x hx))).1;unfold nC;rw[MT];show(if b.length+1<=a then _ else _)=_
 by_cases q:b.length<a
 .rw[MF (by omega),MF q,n,OD.mT M _ _ _ λd hd=> ?_]
  .have e:bF (b++[c])=j+1:=by
    unfold bF;rw[List.getLast?_concat];show(c.1+1).toNat=j+1;omega
   rw[e,cv (f.drop (j+1)) (0+(j:Int)+1) (b++[c]) (a-b.length-1) λx hx=> ?_]
   .rw[show a-(b.length+[c].length)=a-b.length-1 by show a-(b.length+1)=_;omega]
   .rcases Mi.mp hx with z|z
    .have:=l x z
     exact⟨by omega,p x z⟩
    .rw[Mj.mp z]
     exact⟨by omega,m⟩
  .unfold b9
   have:((b++[c]).all λx=>decide (x.1<d.1))=false:=by rw[List.all_append,k d hd];simp
   rw[this];rfl
 .rw[ME (by omega),ME q]
set_option tactic.hygienic true
structure C3(b:List (Int×Int)):Prop where
 rows:(b.map (·.1)).Pairwise (·<·)
 cols:(b.map (·.2)).Nodup
set_option tactic.hygienic false
theorem FY:C3 []:=⟨.nil,.nil⟩
theorem EB:b9 b c=true↔∀x∈b,x.1<c.1/\x.2≠c.2:=by
 unfold b9;rw[MH,MS,MS]
 constructor
 .rintro⟨d,e⟩ x a
  exact⟨Me (d x a),Me (e x a)⟩
 .intro h
  exact⟨λx a=>MO (h x a).1,λx a=>MO (h x a).2⟩
theorem jJ:C3 (b++[c])↔C3 b/\b9 b c=true:=by
 rw[EB]
 constructor
 .rintro⟨e,f⟩
  rw[MX,Ng]at e;rw[MX,M5]at f;refine⟨⟨e.1,f.1⟩,λx a=>⟨e.2.2 x.1 (MG.mpr ⟨x,a,rfl⟩) c.1 (by simp),f.2.2 x.2 (MG.mpr ⟨x,a,rfl⟩) c.2 (by simp)⟩⟩
 .rintro⟨⟨e,f⟩,g⟩
  refine⟨?_,?_⟩
  .rw[MX,Ng]
   refine⟨e,List.pairwise_singleton _ _,λa ha d hd=> ?_⟩;obtain⟨x,a,rfl⟩:=MG.mp ha;rw[O0,Mj]at hd;subst hd;exact(g x a).1
  .rw[MX,M5]
   refine⟨f,by simp,λa ha d hd=> ?_⟩;obtain⟨x,a,rfl⟩:=MG.mp ha;rw[O0,Mj]at hd;subst hd;exact(g x a).2
theorem FX(h:C3 (b++p)):C3 b:=by obtain⟨a,c⟩:=h;rw[MX]at a c;exact⟨(Ng.mp a).1,(M5.mp c).1⟩
theorem Hs(h:OD.Lg b9 b L p):C3 b->C3 (b++p):=by
 induction h with
 |nil=>intro a;rw[NH];exact a
 |take o _ c=>intro a;have:=c (jJ.mpr ⟨a,o⟩);rw[NI]at this;exact this
 |skip _ c=>exact c
theorem v3:∀(L b p:List (Int×Int)),L.Pairwise (λa c=>a.1<=c.1)->C3 (b++p)->(∀x∈p,x∈L)->OD.Lg b9 b L p
 |L,b,[],_,_,_=>.nil|[],b,x::p,_,_,h=>by cases h x MB|c::L,b,x::p,hs,a,h=>by
  obtain⟨g,f⟩:=Nt.mp hs;have j:∀y∈p,x.1<y.1:=λy d=>by have:=a.rows;rw[MX,Ng,MM]at this;exact(Nt.mp this.2.1).1 y.1 (MG.mpr ⟨y,d,rfl⟩)
  by_cases e:x=c
  .subst e
   have k:C3 (b++[x]++p):=by rw[NI];exact a
   refine .take (jJ.mp (FX k)).2 (v3 L (b++[x]) p f k λy d=> ?_)
   rcases MP.mp (h y (MA _ d))with z|z
   .have:=j y d
    rw[z]at this;omega
   .exact z
  .have i:x∈L:=(MP.mp (h x MB)).resolve_left e
   refine .skip (v3 L b (x::p) f a λy d=> ?_)
   rcases MP.mp d with rfl|d
   .exact i
   .rcases MP.mp (h y (MA _ d))with z|z
    .have l:=j y d
     have m:=g x i;rw[z]at l;omega
    .exact z
noncomputable def dq(a c:Int×Int):Bool:=if a.1=c.1 then decide (a.2<c.2)else decide (a.1<c.1)
theorem De(r:Int):∀{b:List Nat},b.Pairwise (·<·)->(rf r b).Pairwise λa c=>dq a c=true/\dq c a=false:=λ{b} h=>by unfold rf;rw[OR];refine h.imp λ{a c} z=> ?_;unfold dq;rw[MF rfl,MF rfl];exact⟨MO (by show(a:Int)<(c:Int);omega),MU (by show¬(c:Int)<(a:Int);omega)⟩
theorem bM:∀{b:List (List Nat)}{r:Int},(∀d∈b,d.Pairwise (·<·))->(aW r b).Pairwise λa c=>dq a c=true/\dq c a=false
 |[],r,_=>.nil|d::b,r,h=>by rw[aW,Ng];refine⟨De r (h d MB),bM λc hc=>h c (MA _ hc),λa ha c hc=> ?_⟩;have e:=(re ha).1;have f:=(jD hc).2;unfold dq;rw[ME (by omega),ME (by omega)];exact⟨MO (by omega),MU (by omega)⟩
theorem xB(a:Int×Int):dq a a=false:=by unfold dq;rw[MF rfl];exact MU (by omega)
theorem cR{L:List (Int×Int)}(h:L.Pairwise λa c=>dq a c=true/\dq c a=false):L.Nodup:= h.imp λz e=>by rw[e,xB]at z;cases z.1
theorem EG{L:List (Int×Int)}(h:L.Pairwise λa c=>dq a c=true/\dq c a=false):L.Pairwise λa c=>a.1<=c.1:=
 h.imp λ{a c} z=>by
  have b:=z.1;unfold dq at b
  split at b;omega
  .have:=Me b
   omega
section
variable{rows:List (List Nat)}(hr:∀cs∈rows,cs.Pairwise (·<·))
def Cv(a:List (List Nat))(p:List (Int×Int)):Prop:=C3 p/\∀x∈p,x∈aW 0 a
theorem eY(b:∀a∈rows,a.Pairwise (·<·)):Cv rows p↔OD.Lg b9 [] (aW 0 rows) p:= ⟨λh=>v3 _ [] p (EG (bM b)) h.1 h.2,λh=>⟨Hs h FY,h.sub⟩⟩
noncomputable def bI(a:List (List Nat))(p:List (Int×Int)):Nat:=OD.kE b9 [] (aW 0 a) p
theorem yf(hr:∀cs∈rows,cs.Pairwise (·<·))(hp:Cv rows p):OD.sumZ (OD.mq b9 dq (nC rows p.length) p) (aW 0 rows)=((bI rows p:Nat):Int):= OD.kf (cR (bM hr)) (bM hr) (BN rows p.length) (aW 0 rows) [] [] p rfl rfl .nil ((eY hr).mp hp)
theorem kj(hr:∀cs∈rows,cs.Pairwise (·<·))(hp:Cv rows p):((bI rows p:Nat):Int)<cnt rows [] p.length:=by
 have h1:=OD.gZ _ [] p (cR (bM hr)) ((eY hr).mp hp);have h2:=cv rows 0 [] p.length λx hx=>by cases hx
 have h3:ay []=[]:=rfl;rw[h3]at h2;rw[<- h2];unfold bI;omega
theorem uh(hr:∀cs∈rows,cs.Pairwise (·<·))(hp:Cv rows p):((aW 0 rows).foldl (OD.turn b9 (nC rows p.length)) ([],((bI rows p:Nat):Int))).1=p:=by have lg:=(eY hr).mp hp;have h1:=OD.gZ _ [] p (cR (bM hr)) lg;rw[OD.rF (BN rows p.length) (aW 0 rows) [] [] (bI rows p) rfl .nil (Mk _) h1];exact OD.o5 _ [] p (cR (bM hr)) lg
theorem iT(a:∀e∈rows,e.Pairwise (·<·))(c:Cv rows p)(b:Cv rows q)(d:p.length=q.length):decide (bI rows p<bI rows q)=OD.lex dq p q:= OD.pI _ [] p q (cR (bM a)) (bM a) ((eY a).mp c) ((eY a).mp b) d
end
end IR
namespace OD
section
variable{α:Type}[DecidableEq α]{ok:List α->α->Bool}
noncomputable def BF(a:List α->α->Bool):List α->List α->List α->Option (List α)
 |_,_,[]=>none|_,[],_::_=>none|b,c::L,x::p=>if x=c then((BF a (b++[c]) L p).map (c::·)).or (if 0<cnt a b L (p.length+1)then some (kA a b L (p.length+1) 0)else none)else BF a b L (x::p)
set_option tactic.hygienic false
theorem b3:BF ok b (c::L) (x::p)=if x=c then((BF ok (b++[c]) L p).map (c::·)).or (if 0<cnt ok b L (p.length+1)then some (kA ok b L (p.length+1) 0)else none)else BF ok b L (x::p):=rfl
theorem wu(b L:List α):BF ok b L []=none:=by cases L<;>rfl
theorem vE:∀(L b p:List α),L.Nodup->Lg ok b L p->(∀q,BF ok b L p=some q->Lg ok b L q/\q.length=p.length/\kE ok b L q=kE ok b L p+1)/\(BF ok b L p=none->kE ok b L p+1=cnt ok b L p.length)
 |L,b,[],_,_=>by rw[wu,fz,Ow,aV];exact⟨λq h=>(by cases h),λ_=>rfl⟩
 |[],b,x::p,_,h=>by cases h.at_nil|c::L,b,x::p,hn,h=>by
  obtain⟨j,a⟩:=Mb.mp hn
  by_cases e:x=c
  .subst e
   obtain⟨s,w⟩:=h.at_take j;obtain⟨o,i⟩:=vE L (b++[x]) p a w;rw[b3,MF rfl,k3,MF rfl,MK,c3,MF s];cases t:BF ok (b++[x]) L p with
   |some q=>obtain⟨g,d,l⟩:=o q t;refine⟨λq' hq=> ?_,λhq=>by cases hq⟩;cases hq;refine⟨.take s g,by rw[MK,d],?_⟩;rw[k3,MF rfl,l]
   |none=>
    have i:=i t
    by_cases m:0<cnt ok b L (p.length+1)
    .rw[MF m]
     refine⟨λq' hq=> ?_,λhq=>by cases hq⟩;cases hq;obtain⟨n,f,u⟩:=jS L b (p.length+1) 0 a m;refine⟨.skip n,f,?_⟩;cases v:kA ok b L (p.length+1) 0 with
     |nil=>rw[v]at f;cases f|cons y r=>rw[v]at n f u;have k:y≠x:=λz=>j (z▸n.sub y MB);rw[k3,ME k,MF s,u];rw[MK]at f;rw[show r.length=p.length by omega];omega
    .rw[ME m]
     refine⟨λq' hq=>(by cases hq),λ_=> ?_⟩;omega
  .obtain⟨o,i⟩:=vE L b (x::p) a (h.at_skip e)
   rw[b3,ME e,k3,ME e,MK,c3];refine⟨λq hq=> ?_,λhq=> ?_⟩
   .obtain⟨g,d,l⟩:=o q hq
    refine⟨.skip g,d,?_⟩;cases q with
    |nil=>cases d|cons y r=>have k:y≠c:=λz=>j (z▸g.sub y MB);rw[k3,ME k,l];rw[MK,MK]at d;rw[show r.length=p.length by omega];omega
   .have:=i hq
    rw[MK]at this;omega
noncomputable def fs{a:Type}(f:Nat->Option a):Nat->Option a
 |0=>none|n+1=>(f n).or (fs f n)
theorem tQ{a:Type}(f:Nat->Option a):∀n,fs f (n+1)=(fs (λi=>f (i+1)) n).or (f 0)
 |0=>by show(f 0).or none=(none:Option a).or (f 0);cases f 0<;>rfl|n+1=>by show(f (n+1)).or (fs f (n+1))=((f (n+1)).or (fs (λi=>f (i+1)) n)).or (f 0);rw[tQ f n,Option.or_assoc]
theorem B1{a b:Type}(g:a->b)(f:Nat->Option a):∀n,fs (λi=>(f i).map g) n=(fs f n).map g
 |0=>rfl|n+1=>by show((f n).map g).or (fs (λi=>(f i).map g) n)=((f n).or (fs f n)).map g;rw[B1 g f n];cases f n<;>rfl
noncomputable def tr(a:List α->α->Bool):List α->List α->List α->Nat->Option (List α)
 |_,_,[],_=>none|_,[],_::_,_=>none|b,c::L,x::p,0=>if x=c then(if 0<cnt a b L (p.length+1)then some (kA a b L (p.length+1) 0)else none)else tr a b L (x::p) 0|b,c::L,x::p,i+1=>if x=c then(tr a (b++[c]) L p i).map (c::·)else tr a b L (x::p) (i+1)
theorem t3:tr ok b (c::L) (x::p) 0=if x=c then(if 0<cnt ok b L (p.length+1)then some (kA ok b L (p.length+1) 0)else none)else tr ok b L (x::p) 0:=rfl
theorem t4:tr ok b (c::L) (x::p) (i+1)=if x=c then(tr ok (b++[c]) L p i).map (c::·)else tr ok b L (x::p) (i+1):=rfl
theorem vF:∀(L b p:List α),BF ok b L p=fs (tr ok b L p) p.length
 |L,b,[]=>by rw[wu];rfl|[],b,x::p=>by
  have:∀n,fs (tr ok b [] (x::p)) n=none:=by
   intro n
   induction n with
   |zero=>rfl|succ n d=>show(tr ok b [] (x::p) n).or _=_;rw[d];rfl
  rw[this];rfl
 |c::L,b,x::p=>by
  rw[b3,MK]
  by_cases e:x=c
  .subst e
   rw[MF rfl,tQ,vF L (b++[x]) p,<-B1];have a:(λi=>tr ok b (x::L) (x::p) (i+1))=λi=>(tr ok (b++[x]) L p i).map (x::·):=by
    funext i
    rw[t4,MF rfl]
   rw[a,t3,MF rfl]
  .rw[ME e,vF L b (x::p)]
   have a:tr ok b (c::L) (x::p)=tr ok b L (x::p):=by
    funext i
    cases i with
    |zero=>rw[t3,ME e]|succ i=>rw[t4,ME e]
   rw[a,MK]
theorem AE:∀(W b p:List α)(i:Nat)(x:α),W.Nodup->Lg ok b W p->p[i]? =some x->∃a L,W=a++x::L/\Lg ok b a (p.take i) /\ tr ok b W p i=if 0<cnt ok (b++p.take i) L (p.length-i)then some (p.take i++kA ok (b++p.take i) L (p.length-i) 0)else none
 |W,b,[],i,x,_,_,h=>by simp at h|[],b,y::p,i,x,_,h,_=>by cases h.at_nil|c::W,b,y::p,i,x,hn,h,hi=>by
  obtain⟨n,d⟩:=Mb.mp hn
  by_cases e:y=c
  .subst e
   obtain⟨l,m⟩:=h.at_take n;cases i with
   |zero=>
    have o:y=x:=by simpa using hi
    subst o;refine⟨[],W,rfl,.nil,?_⟩;rw[t3,MF rfl,List.take_zero,NH,MK,Nat.sub_zero];rfl
   |succ i=>
    obtain⟨a,L,j,k,g⟩:=AE W (b++[y]) p i x d m (by simpa using hi);refine⟨y::a,L,by rw[j];rfl,.take l k,?_⟩;rw[t4,MF rfl,g,List.take_succ_cons,MK,Nat.add_sub_add_right,NI];show Option.map _ _=if 0<cnt ok (b++(y::p.take i)) L (p.length-i)then some (y::p.take i++kA ok (b++(y::p.take i)) L (p.length-i) 0)else none
    by_cases f:0<cnt ok (b++(y::p.take i)) L (p.length-i)
    .rw[MF f,MF (show 0<cnt ok (b++([y]++p.take i)) L (p.length-i)from f)]
     rfl
    .rw[ME f,ME (show¬0<cnt ok (b++([y]++p.take i)) L (p.length-i)from f)]
     rfl
  .obtain⟨a,L,j,k,g⟩:=AE W b (y::p) i x d (h.at_skip e) hi
   refine⟨c::a,L,by rw[j];rfl,.skip k,?_⟩;rw[<- g];cases i with
   |zero=>rw[t3,ME e]|succ i=>rw[t4,ME e]
def GO(e:List α->α->Bool)(W:List α)(a:Nat)(f:List α->Bool):Prop:=∀d c L b,W=d++c::L->Lg e [] d b->e b c=true->f (b++[c])=decide (b.length<a/\0<cnt e (b++[c]) L (a-b.length-1))
noncomputable def fbT(a:List α->α->Bool)(b:List α->Bool)(s:List α)(c:α):List α:=if a s c=true/\b (s++[c])=true then s++[c]else s
theorem mK{W:List α}{a:Nat}{i:List α->Bool}(H:GO ok W a i):∀(L d b:List α),W=d++L->Lg ok [] d b->b.length<=a->L.foldl (fbT ok i) b=if 0<cnt ok b L (a-b.length)then b++kA ok b L (a-b.length) 0 else b
 |[],d,b,hW,hb,hl=>by
  cases e:a-b.length with
  |zero=>rw[aV,MF (by decide),bK,NH];rfl|succ m=>rw[cnt.eq_2,ME (by omega)];rfl
 |c::L,d,b,hW,hb,hl=>by
  have g:W=(d++[c])++L:=by rw[hW,NI];rfl
  have h:=mK H L (d++[c]) b g hb.more hl;rw[NQ,fbT]
  by_cases o:ok b c=true
  .rw[H d c L b hW hb o]
   cases e:a-b.length with
   |zero=>rw[ME (λz=>by have:=(Me z.2).1;omega),h,e,aV,aV,bK,bK]
   |succ m=>
    rw[e]at h
    by_cases q:0<cnt ok (b++[c]) L m
    .have f:=mK H L (d++[c]) (b++[c]) g (hb.snoc o) (by rw[MT];simp;omega)
     rw[MT,show a-(b.length+[c].length)=m by simp;omega,MF q]at f;rw[MF ⟨o,MO ⟨by omega,by rw[Oz];exact q⟩⟩,f,c3,MF o,MF (by omega),a3,MF o,MF q,NI];rfl
    .rw[ME (λz=>q (by have:=(Me z.2).2;rwa [Oz]at this)),h,c3,MF o,a3,MF o,ME q,show cnt ok (b++[c]) L m=0 by omega,Nc,Nat.sub_zero]
  .rw[ME (λz=>o z.1),h]
   cases e:a-b.length with
   |zero=>rw[aV,aV,bK,bK]|succ m=>rw[c3,ME o,Nc,a3,ME o]
end
end OD
namespace IR
open PySem
set_option tactic.hygienic false
theorem qF{H:aX}(c:(H.map (·.1)).Nodup)(h:p∈H)(g:q∈H)(e:p.1=q.1):p=q:=by
 induction H with
 |nil=>cases h|cons x H i=>
  rw[MM,Mb]at c
  rcases MP.mp h with f|b
  .rcases MP.mp g with d|a
   .rw[f,d]
   .exact absurd (show x.1∈H.map (·.1)from MG.mpr ⟨q,a,by rw[<- e,f]⟩) c.1
  .rcases MP.mp g with d|a
   .exact absurd (show x.1∈H.map (·.1)from MG.mpr ⟨p,b,by rw[e,d]⟩) c.1
   .exact i c.2 b a
theorem je{T:List Int}(nd:T.Nodup)(h:T ⊆ U):T.length<=U.length:=by
 induction T generalizing U with
 |nil=>exact Mk _|cons x T ih=>obtain⟨n1,n2⟩:=Mb.mp nd;have hx:x∈U:=h MB;have:=ih (U:=U.erase x) n2 λy hy=>(List.mem_erase_of_ne (λz:y=x=>n1 (by rw[<- z];exact hy))).mpr (h (MA _ hy));rw[Pt hx]at this;have:0<U.length:=List.length_pos_of_mem hx;rw[MK];omega
theorem iz(h:az H c=some r):(c,r)∈H:=by
 unfold az at h;cases e:H.find? λp=>decide (p.1=c)with
 |none=>rw[e]at h;cases h|some p=>rw[e]at h;have a:=List.find?_some e;have b:=List.mem_of_find?_eq_some e;have a:p.1=c:=Me a;have h:p.2=r:=MZ h;rw[<- a,<-h];exact b
theorem ji:az H c=none↔c∉H.map (·.1):=by
 unfold az;rw[Option.map_eq_none_iff,Pi]
 constructor
 .intro h b
  obtain⟨p,a,rfl⟩:=MG.mp b;exact h p a (MO rfl)
 .intro h p a e
  exact h (MG.mpr ⟨p,a,Me e⟩)
theorem Ed(b:(H.map (·.1)).Nodup)(h:(c,r)∈H):az H c=some r:=by
 cases e:az H c with
 |none=>exact absurd (MG.mpr ⟨_,h,rfl⟩) (ji.mp e)|some a=>have d:=iz e;have:=qF b h d rfl;rw[show a =r from(Mw Prod.snd this).symm]
theorem rj(h:az H c=none):cZ H c r=H++[(c,r)]:=by unfold cZ;rw[ME];intro z;rw[NX]at z;obtain⟨p,a,e⟩:=z;exact ji.mp h (MG.mpr ⟨p,a,Me e⟩)
theorem Am:∀{H:aX},(H.map (·.1)).Nodup->az H c=some g ->∃d b,H=d++(c,g)::b/\cZ H c r=d++(c,r)::b:=by
 intro H f h;have i:=iz h;obtain⟨d,b,e⟩:=List.append_of_mem i;refine⟨d,b,e,?_⟩;unfold cZ;rw[MF (NX.mpr ⟨_,i,MO rfl⟩),e,MX,MM,MF rfl];rw[e,MX,MM]at f;have j:∀p∈d,p.1≠c:=λp hp z=>(M5.mp f).2.2 p.1 (MG.mpr ⟨p,hp,rfl⟩) c MB z;have k:∀p∈b,p.1≠c:=λp hp z=>(Mb.mp (M5.mp f).2.1).1 (z▸MG.mpr ⟨p,hp,rfl⟩);have a:∀l:aX,(∀p∈l,p.1≠c)->l.map (λp=>if p.1=c then(p.1,r)else p)=l:=λl hl=>by
  conv=>rhs;rw[<- List.map_id l]
  exact M7 λp hp=>ME (hl p hp)
 rw[a d j,a b k]
set_option tactic.hygienic true
theorem iw:az (cZ H c r) d=if d=c then some r else az H d:=by
 by_cases f:d=c
 .subst f
  rw[MF rfl];unfold cZ
  split
  .rename_i h
   induction H with
   |nil=>cases h|cons p H i=>
    rw[MM];unfold az;rw[NP]
    by_cases e:p.1=d;rw[MF e];simp[e]
    .rw[ME e]
     simp only[e,Oj];rw[Ou,MU e,Bool.false_or]at h;exact i h
  .rename_i h
   unfold az;rw[List.find?_append];have:(H.find? λp=>decide (p.1=d))=none:=by rw[Pi];intro p g e;exact h (NX.mpr ⟨p,g,e⟩)
   rw[this];simp
 .rw[ME f]
  unfold cZ
  split
  .unfold az
   induction H with
   |nil=>rfl|cons p H i=>
    rename_i h;rw[MM,NP,NP];have a:((H.map λp=>if p.1=c then(p.1,r)else p).find? λp=>decide (p.1=d)).map (·.2)=(H.find? λp=>decide (p.1=d)).map (·.2):=by
     by_cases j:(H.any λp=>decide (p.1=c))=true
     .exact i j
     .have:(H.map λp=>if p.1=c then(p.1,r)else p)=H:=by
       conv=>rhs;rw[<- List.map_id H]
       refine M7 λp g=>ME λe=>j ?_;exact NX.mpr ⟨p,g,MO e⟩
      rw[this]
    by_cases e:p.1=c
    .rw[MF e]
     have b:¬p.1=d:=λz=>f (z.symm.trans e);simp only[b,Oj];exact a
    .rw[ME e]
     by_cases b:p.1=d;simp[b]
     .simp only[b,Oj]
      exact a
  .unfold az
   rw[List.find?_append];have:¬c=d:=λz=>f z.symm;simp[this]
noncomputable def gx(C:List (List Int))(r:Int):List Int:=C.getD r.toNat []
noncomputable def iI(b:aX->Int->List Int->Bool×aX×List Int)(a:Int):List Int->aX->List Int->Bool×aX×List Int
 |[],H,T=>(false,H,T)|c::cs,H,T=>if T.contains c then iI b a cs H T else match az H c with
  |none=>(true,cZ H c a,T++[c])|some r=>match b H r (T++[c])with
   |(true,H',T')=>(true,cZ H' c a,T')|(false,H',T')=>iI b a cs H' T'
noncomputable def tk(C:List (List Int)):Nat->aX->Int->List Int->Bool×aX×List Int
 |0,H,_,T=>(false,H,T)|n+1,H,row,T=>iI (tk C n) row (gx C row) H T
structure Mt(C:List (List Int))(H:aX):Prop where
 keys:(H.map (·.1)).Nodup
 rows:(H.map (·.2)).Nodup
 edge:∀p∈H,p.1∈gx C p.2
structure Mt0(C:List (List Int))(H:aX):Prop where
 keys:(H.map (·.1)).Nodup
 edge:∀p∈H,p.1∈gx C p.2
structure Lk(C:List (List Int))(H:aX)(row:Int)(T:List Int)(H' :aX):Prop where
 good:Mt0 C H'
 rows:(H'.map (·.2)).Perm (row::H.map (·.2))
 keys:∀c,c∈H.map (·.1)->c∈H'.map (·.1)
 stay:∀c∈T,az H' c=az H c
theorem uf{C:List (List Int)}{rec:aX->Int->List Int->Bool×aX×List Int}{row:Int}
  (hr:∀H r T b H' T',Mt0 C H->rec H r T=(b,H',T')->T ⊆ T' /\(b=false->H' =H)/\(b=true->Lk C H r T H')):
  ∀{cs:List Int}{H:aX}{T:List Int}{b:Bool}{H' :aX}{T' :List Int},(∀c∈cs,c∈gx C row)->Mt0 C H->iI rec row cs H T=(b,H',T')->T ⊆ T' /\(b=false->H' =H)/\(b=true->Lk C H row T H')
 |[],H,T,b,H',T',hc,m,h=>by cases h;exact⟨λ_ z=>z,λ_=>rfl,λz=>by cases z⟩
 |c::cs,H,T,b,H',T',hc,m,h=>by
  unfold iI at h
  split at h;exact uf hr (λd hd=>hc d (MA _ hd)) m h
  .rename_i hT
   have hT:c∉T:=λz=>hT (Mc.mpr z)
   split at h
   .rename_i e
    cases h;refine⟨List.subset_append_left _ _,(λz=>by cases z),λ_=> ?_⟩;rw[rj e];refine⟨⟨?_,λp hp=> ?_⟩,?_,λd hd=> ?_,λd hd=> ?_⟩
    .rw[MX,M5]
     refine⟨m.keys,by simp,λa ha x hx z=> ?_⟩;rw[O0,Mj]at hx;subst hx z;exact ji.mp e ha
    .rcases Mi.mp hp with z|z
     .exact m.edge p z
     .rw[Mj.mp z]
      exact hc c MB
    .rw[MX]
     exact List.perm_append_comm
    .rw[MX]
     exact Mr _ hd
    .rw[<- rj e,iw,ME (λz:d=c=>hT (by rw[<- z];exact hd))]
   .rename_i r e
    cases hq:rec H r (T++[c])with
    |mk b1 w=>
     obtain⟨H1,T1⟩:=w;rw[hq]at h;obtain⟨k1,k2,k3⟩:=hr H r (T++[c]) b1 H1 T1 m hq;cases b1 with
     |false=>have e1:=k2 rfl;subst e1;obtain⟨j1,j2,j3⟩:=uf hr (λd hd=>hc d (MA _ hd)) m h;have sub:T ⊆ T1:=λx hx=>k1 (Mr _ hx);exact⟨λx hx=>j1 (sub hx),j2,λz=>by obtain⟨w1,w2,w3,w4⟩:=j3 z;exact⟨w1,w2,w3,λd hd=>w4 d (sub hd)⟩⟩
     |true=>
      cases h;obtain⟨w1,w2,w3,w4⟩:=k3 rfl;refine⟨λx hx=>k1 (Mr _ hx),(λz=>by cases z),λ_=> ?_⟩;have e2:az H1 c=some r:=by rw[w4 c (by simp),e]
      obtain⟨l1,l2,e3,e4⟩:=Am (r:=row) w1.keys e2;rw[e3]at w2;refine⟨⟨?_,λp hp=> ?_⟩,?_,λd hd=> ?_,λd hd=> ?_⟩
      .have:=w1.keys
       rw[e3]at this;rw[e4]
       simpa using this
      .rw[e4]at hp
       rcases Mi.mp hp with z|z
       .exact w1.edge p (by rw[e3];exact Mr _ z)
       .rcases MP.mp z with z|z
        .rw[z]
         exact hc c MB
        .exact w1.edge p (by rw[e3];exact Mv _ (MA _ z))
      .rw[e4,MX,MM]
       rw[MX,MM]at w2;have a1:(l1.map (·.2)++r::l2.map (·.2)).Perm (r::(l1.map (·.2)++l2.map (·.2))):=PL;have a2:(l1.map (·.2)++l2.map (·.2)).Perm (H.map (·.2)):=(List.perm_cons r).mp (a1.symm.trans w2);have a3:(l1.map (·.2)++row::l2.map (·.2)).Perm (row::(l1.map (·.2)++l2.map (·.2))):=PL;exact a3.trans (a2.cons row)
      .have:=w3 d hd
       rw[e3]at this;rw[e4]
       simpa using this
      .rw[iw,ME (λz:d=c=>hT (by rw[<- z];exact hd))]
       exact w4 d (Mr _ hd)
theorem Fp{C:List (List Int)}:∀{n:Nat}{H:aX}{a:Int}{T:List Int}{b:Bool}{c:aX}{d:List Int},Mt0 C H->tk C n H a T=(b,c,d)->T ⊆ d /\(b=false->c =H)/\(b=true->Lk C H a T c)
 |0,H,a,T,b,c,d,m,h=>by cases h;exact⟨λ_ z=>z,λ_=>rfl,λz=>by cases z⟩
 |n+1,H,a,T,b,c,d,m,h=>uf (λH r T b c d m h=>Fp m h) (λc hc=>hc) m h
theorem Lk.mt(w:Lk C H a T b)(m:Mt C H)(c:a∉H.map (·.2)):Mt C b:= ⟨w.good.keys,w.rows.nodup_iff.mpr (Mb.mpr ⟨c,m.rows⟩),w.good.edge⟩
def ft(C:List (List Int))(H:aX)(S:List Int):Prop:=∀c∈S,∃r,az H c=some r/\∀d∈gx C r,d∈S
theorem ug{C:List (List Int)}{f:aX->Int->List Int->Bool×aX×List Int}{v:Int}{n:Nat}
  (A:∀H r T i b,T.Nodup->(∀c∈T,0<=c/\c<8)->8<n+T.length->f H r T=(false,i,b)->i =H/\T ⊆ b /\b.Nodup/\(∀c∈b,0<=c/\c<8)/\(∀d∈gx C r,d∈b)/\∀c∈b,c∈T\/∃q,az H c=some q/\∀d∈gx C q,d∈b):
  ∀{k:List Int}{H:aX}{T:List Int}{i:aX}{b:List Int},(∀c∈k,0<=c/\c<8)->T.Nodup->(∀c∈T,0<=c/\c<8)->8<n+1+T.length->iI f v k H T=(false,i,b) -> i =H/\T ⊆ b /\b.Nodup/\(∀c∈b,0<=c/\c<8)/\(∀d∈k,d∈b)/\∀c∈b,c∈T\/∃q,az H c=some q/\∀d∈gx C q,d∈b
 |[],H,T,i,b,_,nd,bd,_,h=>by cases h;exact⟨rfl,λ_ z=>z,nd,bd,λd a=>(by cases a),λc hc=>.inl hc⟩
 |c::k,H,T,i,b,hc,nd,bd,hn,h=>by
  unfold iI at h
  split at h
  .rename_i j
   obtain⟨s,g,m,B,o,p⟩:=ug A (λd a=>hc d (MA _ a)) nd bd hn h;refine⟨s,g,m,B,λd a=> ?_,p⟩
   rcases MP.mp a with rfl|a
   .exact g (Mc.mp j)
   .exact o d a
  .rename_i j
   have j:c∉T:=λz=>j (Mc.mpr z)
   split at h;cases h
   .rename_i r e
    have l:(T++[c]).Nodup:=by rw[M5];refine⟨nd,by simp,λa ha x hx z=> ?_⟩;rw[Mj]at hx;subst hx z;exact j ha
    have t:∀d∈T++[c],0<=d/\d<8:=λd a=>by
     rcases Mi.mp a with z|z
     .exact bd d z
     .rw[Mj.mp z]
      exact hc c MB
    cases D:f H r (T++[c])with
    |mk G w=>
     obtain⟨L,E⟩:=w;rw[D]at h;cases G with
     |true=>cases h|false=>
      obtain⟨K,u,J,N,M,I⟩:=A H r (T++[c]) L E l t (by rw[MT,Nq];omega) D;subst K;have P:T.length<=E.length:=by have:=je nd (λx hx=>u (Mr _ hx));exact this
      obtain⟨s,g,m,B,o,p⟩:=ug A (λd a=>hc d (MA _ a)) J N (by omega) h;refine⟨s,λx hx=>g (u (Mr _ hx)),m,B,λd a=> ?_,λd a=> ?_⟩
      .rcases MP.mp a with rfl|a
       .exact g (u (by simp))
       .exact o d a
      .rcases p d a with z|z
       .rcases I d z with y|⟨q,O,F⟩
        .rcases Mi.mp y with y|y
         .exact .inl y
         .rw[Mj.mp y]
          exact .inr ⟨r,e,λx hx=>g (M x hx)⟩
        .exact .inr ⟨q,O,λx hx=>g (F x hx)⟩
       .exact .inr z
theorem AI{C:List (List Int)}(i:∀r,∀c∈gx C r,0<=c/\c<8):∀{n:Nat}{H:aX}{e:Int}{T:List Int}{g:aX}{f:List Int},T.Nodup->(∀c∈T,0<=c/\c<8)->8<n+T.length->tk C n H e T=(false,g,f) -> g =H/\T ⊆ f /\f.Nodup/\(∀c∈f,0<=c/\c<8)/\(∀d∈gx C e,d∈f)/\∀c∈f,c∈T\/∃q,az H c=some q/\∀d∈gx C q,d∈f
 |0,H,e,T,g,f,nd,bd,hn,h=>by
  have j:=je (U:=[0,1,2,3,4,5,6,7]) nd λx hx=>by
   obtain⟨a,b⟩:=bd x hx;have:x=0\/x=1\/x=2\/x=3\/x=4\/x=5\/x=6\/x=7:=by omega
   simp only[MP];omega
  have j:T.length<=8:=j;omega
 |n+1,H,e,T,g,f,nd,bd,hn,h=>ug (λH r T g f nd bd hn h=>AI i nd bd hn h) (i e) nd bd hn h
theorem k7{C:List (List Int)}{S:List Int}{a:aX->Int->List Int->Bool×aX×List Int}{i:Int}
  (k:∀H r T m n,a H r T=(false,m,n)->m =H)
  (j:∀H r T,ft C H S->(∀d∈gx C r,d∈S)->(a H r T).1=false):
  ∀{h:List Int}{H:aX}{T:List Int},ft C H S->(∀d∈h,d∈S)->(iI a i h H T).1=false
 |[],H,T,_,_=>rfl|c::h,H,T,cl,hc=>by
  unfold iI
  split;exact k7 k j cl λd f=>hc d (MA _ f)
  .obtain⟨r,e,f⟩:=cl c (hc c MB)
   rw[e];dsimp only;have g:=j H r (T++[c]) cl f;cases l:a H r (T++[c])with
   |mk b w=>obtain⟨o,p⟩:=w;rw[l]at g;have g:b=false:=g;subst g;have q:=k H r (T++[c]) o p l;subst q;exact k7 k j cl λd f=>hc d (MA _ f)
theorem k8{d:aX->Int->List Int->Bool×aX×List Int}{g:Int}(i:∀H r T a f,d H r T=(false,a,f)->a =H):∀{j:List Int}{H:aX}{T:List Int}{a:aX}{f:List Int},iI d g j H T=(false,a,f)->a =H
 |[],H,T,a,f,h=>by cases h;rfl|c::j,H,T,a,f,h=>by
  unfold iI at h
  split at h;exact k8 i h
  .split at h
   .cases h
   .rename_i r e
    cases k:d H r (T++[c])with
    |mk b w=>
     obtain⟨m,n⟩:=w;rw[k]at h;cases b with
     |true=>cases h|false=>have l:=i H r (T++[c]) m n k;subst l;exact k8 i h
theorem iH{C:List (List Int)}:∀{n:Nat}{H:aX}{a:Int}{T:List Int}{b:aX}{c:List Int},tk C n H a T=(false,b,c)->b =H
 |0,H,a,T,b,c,h=>by cases h;rfl|n+1,H,a,T,b,c,h=>k8 (λH r T b c h=>iH h) h
theorem wL{C:List (List Int)}{S:List Int}:∀{n:Nat}{H:aX}{a:Int}{T:List Int},ft C H S->(∀d∈gx C a,d∈S)->(tk C n H a T).1=false
 |0,H,a,T,_,_=>rfl|n+1,H,a,T,cl,hc=>k7 (λH r T H' T' h=>iH h) (λH r T cl hc=>wL cl hc) cl hc
theorem o8{C:List (List Int)}{S:List Int}{a:aX->Int->List Int->Bool×aX×List Int}{l:Int}
  (n:∀H r T f g,a H r T=(false,f,g)->f =H)
  (o:∀H r T,ft C H S->(∀d∈gx C r,d∈S)->(a H r T).1=false)
  (m:∀H r T f g,ft C H S->a H r T=(true,f,g)->∀c∈S,az f c=az H c):
  ∀{p:List Int}{H:aX}{T:List Int}{f:aX}{g:List Int},ft C H S->iI a l p H T=(true,f,g)->∀c∈S,az f c=az H c
 |[],H,T,f,g,_,h=>by cases h|c::p,H,T,f,g,cl,h=>by
  unfold iI at h
  split at h;exact o8 n o m cl h
  .split at h
   .rename_i e
    cases h;intro d k;rw[iw,ME λz:d=c=> ?_];obtain⟨r,i,_⟩:=cl d k;rw[z,e]at i;cases i
   .rename_i r e
    cases j:a H r (T++[c])with
    |mk b w=>
     obtain⟨q,t⟩:=w;rw[j]at h;cases b with
     |true=>
      cases h;intro d k;rw[iw,ME λz:d=c=> ?_]
      .exact m H r (T++[c]) _ _ cl j d k
      .obtain⟨v,i,s⟩:=cl d k
       rw[z,e]at i;cases i;have:=o H r (T++[c]) cl s;rw[j]at this;cases this
     |false=>have u:=n H r (T++[c]) q t j;rw[u]at h;exact o8 n o m cl h
theorem AH{C:List (List Int)}{S:List Int}:∀{n:Nat}{H:aX}{a:Int}{T:List Int}{b:aX}{d:List Int},ft C H S->tk C n H a T=(true,b,d)->∀c∈S,az b c=az H c
 |0,H,a,T,b,d,_,h=>by cases h|n+1,H,a,T,b,d,cl,h=>o8 (λH r T b d h=>iH h) (λH r T cl hc=>wL cl hc) (λH r T b d cl h=>AH cl h) cl h
noncomputable def hd(C:List (List Int)):Nat->aX
 |0=>[]|k+1=>(tk C 9 (hd C k) (k:Nat) []).2.1
structure L5(C:List (List Int))(k:Nat)(H:aX):Prop where
 mt:Mt C H
 rows:∀r∈H.map (·.2),(0:Int)<=r/\r<(k:Int)
 shut:∃S:List Int,ft C H S/\(∀c∈S,0<=c/\c<8)/\∀i:Nat,i<k->(i:Int)∈H.map (·.2)\/∀c∈gx C (i:Nat),c∈S
set_option tactic.hygienic false
theorem Bw{C:List (List Int)}(o:∀r,∀c∈gx C r,0<=c/\c<8):∀k:Nat,L5 C k (hd C k)
 |0=>⟨⟨.nil,.nil,λp hp=>(by cases hp)⟩,λr hr=>(by cases hr),[],λc hc=>(by cases hc),λc hc=>(by cases hc),λi hi=>by omega⟩|k+1=>by
  have a:=Bw o k;obtain⟨S,l,n,m⟩:=a.shut;have u:((k:Nat):Int)∉(hd C k).map (·.2):=λz=>by have:=a.rows _ z;omega
  unfold hd;cases j:tk C 9 (hd C k) (k:Nat) []with
  |mk b w=>
   obtain⟨D,A⟩:=w;dsimp only;obtain⟨_,x,s⟩:=Fp ⟨a.mt.keys,a.mt.edge⟩ j;cases b with
   |false=>
    have e:=x rfl;obtain⟨_,_,_,B,v,p⟩:=AI o (T:=[]) .nil (λc hc=>by cases hc) (by decide) j;rw[e];refine⟨a.mt,λr hr=>by have:=a.rows r hr;omega,S++A,λc hc=> ?_,λc hc=> ?_,λi hi=> ?_⟩
    .rcases Mi.mp hc with z|z
     .obtain⟨r,g,h⟩:=l c z
      exact⟨r,g,λd hd=>Mr _ (h d hd)⟩
     .rcases p c z with y|⟨q,g,h⟩
      .cases y
      .exact⟨q,g,λd hd=>Mv _ (h d hd)⟩
    .rcases Mi.mp hc with z|z
     .exact n c z
     .exact B c z
    .by_cases f:i<k
     .rcases m i f with z|z
      .exact .inl z
      .exact .inr λc hc=>Mr _ (z c hc)
     .have:i=k:=by omega
      subst this;exact .inr λc hc=>Mv _ (v c hc)
   |true=>
    have w:=s rfl;have t:=AH l j;refine⟨w.mt a.mt u,λr hr=> ?_,S,λc hc=> ?_,n,λi hi=> ?_⟩
    .rcases MP.mp (w.rows.mem_iff.mp hr)with z|z
     .omega
     .have:=a.rows r z
      omega
    .obtain⟨r,g,h⟩:=l c hc
     exact⟨r,by rw[t c hc];exact g,h⟩
    .by_cases f:i<k
     .rcases m i f with z|z
      .exact .inl (w.rows.mem_iff.mpr (MA _ z))
      .exact .inr z
     .have:i=k:=by omega
      subst this;exact .inl (w.rows.mem_iff.mpr MB)
noncomputable def kL:List PV->Option (List (List Int))
 |[]=>some []| .lst xs::r=>(aS xs).bind λns=>(kL r).map (ns::·)|_::_=>none
noncomputable def xi(C:List (List Int)):List PV:=C.map λns=>PV.lst (ns.map PV.int)
noncomputable def gp(C:List (List Int)):Bool:=decide (C.length<=8)&&C.all λns=>decide (ns.length<=100)&&ns.all λc=>decide (0<=c)&&decide (c<8)
noncomputable def tJ:List PV->Option PV
 |[.lst cs]=>(kL cs).bind λC=>if gp C=true then some (ga (hd C C.length))else none|_=>none
theorem oX:∀{cs:List PV}{C:List (List Int)},kL cs=some C->cs=xi C
 |[],C,h=>by cases h;rfl|x::r,C,h=>by
  cases x with
  |lst xs=>
   have h:((aS xs).bind λns=>(kL r).map (ns::·))=some C:=h;cases e1:aS xs with
   |none=>rw[e1]at h;cases h|some ns=>
    rw[e1]at h;cases e2:kL r with
    |none=>rw[e2]at h;cases h|some D=>rw[e2]at h;cases h;rw[gi e1,oX e2];rfl
  |_=>cases h
theorem oY:∀C:List (List Int),kL (xi C)=some C
 |[]=>rfl|ns::C=>by show((aS (ns.map PV.int)).bind λns=>(kL (xi C)).map (ns::·))=_;rw[fB,oY C];rfl
theorem vk(h:gp C=true):C.length<=8/\(∀ns∈C,ns.length<=100)/\∀r,∀c∈gx C r,0<=c/\c<8:=by
 unfold gp at h;rw[MH,Mm,MS]at h;refine⟨h.1,λns hn=> ?_,λr c hc=> ?_⟩
 .have:=h.2 ns hn
  rw[MH,Mm]at this;exact this.1
 .unfold gx at hc
  rw[ML]at hc;cases e:C[r.toNat]? with
  |none=>rw[e]at hc;cases hc|some ns=>rw[e]at hc;have:=h.2 ns (Ma e);rw[MH,MS]at this;have:=this.2 c hc;rw[MH,Mm,Mm]at this;exact this
theorem mJ{a:Type}(f:a->Bool):∀l:List a,(l.filter f).length+(l.filter λx=> !f x).length=l.length
 |[]=>rfl|x::l=>by
  have:=mJ f l;cases h:f x with
  |true=>rw[O4 h,O5 (by rw[h];exact MI),MK,MK];omega|false=>rw[O5 (by rw[h];exact MI),O4 (by rw[h];rfl),MK,MK];omega
section
variable{C:List (List Int)}{H:aX}{n k:Nat}{R Q:List Int}
theorem CO{p:List (Int×Int)}{K Q:List Int}(c:(p.map (·.1)).Nodup)(d:(p.map (·.2)).Nodup)(g:∀x∈p,x.1∈K\/x.2∈Q):p.length<=K.length+Q.length:=by
 have e:(p.filter λx=>K.contains x.1).length+(p.filter λx=> !K.contains x.1).length=p.length:=by exact mJ (λx=>K.contains x.1) p
 have i:(p.filter λx=>K.contains x.1).length<=K.length:=by
  have:=je (T:=(p.filter λx=>K.contains x.1).map (·.1)) (U:=K) (c.sublist ((List.filter_sublist).map _)) λy hy=>by obtain⟨x,a,rfl⟩:=MG.mp hy;exact Mc.mp (Mh.mp a).2
  rw[L9]at this;exact this
 have h:(p.filter λx=> !K.contains x.1).length<=Q.length:=by
  have:=je (T:=(p.filter λx=> !K.contains x.1).map (·.2)) (U:=Q) (d.sublist ((List.filter_sublist).map _)) λy hy=>by
   obtain⟨x,a,rfl⟩:=MG.mp hy;obtain⟨f,b⟩:=Mh.mp a
   rcases g x f with z|z
   .rw[Mc.mpr z]at b
    cases b
   .exact z
  rw[L9]at this;exact this
 omega
end
theorem yM{l:List Nat}(h:0<bL l f):∃c∈l,0<f c:=by
 induction l with
 |nil=>rw[cC]at h;omega|cons x l d=>
  rw[aN]at h
  by_cases e:0<f x;exact⟨x,MB,e⟩
  .obtain⟨c,a,b⟩:=d (by omega)
   exact⟨c,MA _ a,b⟩
theorem AM(b:∀c,0<=f c){c:Nat}(a:c∈l)(h:0<f c):0<bL l f:=by
 induction l with
 |nil=>cases a|cons x l d=>
  rw[aN]
  rcases MP.mp a with e|e
  .subst e
   have:=fL (l:=l) (f:=f) λx _=>b x;omega
  .have:=d e
   have:=b x;omega
def InR(b:List (List Nat))(T:List Nat)(a:Nat)(x:Int×Int):Prop:=∃i c:Nat,x=(((a+i:Nat):Int),(c:Int))/\c∈b.getD i []/\c∉T
theorem Ew(g:List (List Nat)):∀(T:List Nat)(k a:Nat),0<cnt g T k->∃p:List (Int×Int),p.length=k/\(p.map (·.1)).Nodup/\(p.map (·.2)).Nodup/\∀x∈p,InR g T a x:=by
 induction g with
 |nil=>
  intro T k a h;cases k with
  |zero=>exact⟨[],rfl,.nil,.nil,λx b=>nomatch b⟩|succ k=>rw[cnt.eq_2]at h;omega
 |cons r g u=>
  intro T k a h;cases k with
  |zero=>exact⟨[],rfl,.nil,.nil,λx b=>nomatch b⟩|succ k=>
   rw[cnt.eq_4]at h
   by_cases A:0<cnt g T (k+1)
   .obtain⟨p,q,s,t,m⟩:=u T (k+1) (a+1) A
    refine⟨p,q,s,t,λx b=> ?_⟩;obtain⟨i,c,e,o,j⟩:=m x b;exact⟨i+1,c,by rw[e,show a+1+i=a+(i+1)by omega],o,j⟩
   .obtain⟨c,w,y⟩:=yM (l:=r.filter λc=> !T.contains c) (f:=λc=>cnt g (c::T) k) (by omega)
    obtain⟨v,n⟩:=Mh.mp w;have n:c∉T:=λz=>by rw[Mc.mpr z]at n;cases n
    obtain⟨p,q,s,t,m⟩:=u (c::T) k (a+1) y;refine⟨((a:Int),(c:Int))::p,by rw[MK,q],?_,?_,λx b=> ?_⟩
    .rw[MM,Mb]
     refine⟨λz=> ?_,s⟩;obtain⟨x,b,e⟩:=MG.mp z;obtain⟨i,d,rfl,_,_⟩:=m x b;have e:((a+1+i:Nat):Int)=(a:Int):=e;omega
    .rw[MM,Mb]
     refine⟨λz=> ?_,t⟩;obtain⟨x,b,e⟩:=MG.mp z;obtain⟨i,d,rfl,_,j⟩:=m x b;have e:((d:Nat):Int)=(c:Int):=e;exact j (by rw[show d=c by omega];exact MB)
    .rcases MP.mp b with e|e
     .exact⟨0,c,e,v,n⟩
     .obtain⟨i,d,B,o,j⟩:=m x e
      exact⟨i+1,d,by rw[B,show a+1+i=a+(i+1)by omega],o,λz=>j (MA _ z)⟩
theorem Ea(q:List (List Nat)):∀(T:List Nat)(g:Nat)(p:List (Int×Int)),(p.map (·.1)).Nodup->(p.map (·.2)).Nodup->(∀x∈p,InR q T g x)->0<cnt q T p.length:=by
 induction q with
 |nil=>
  intro T g p _ _ h;cases p with
  |nil=>show 0<(1:Int);decide|cons x p=>obtain⟨i,c,_,b,_⟩:=h x MB;cases b
 |cons r q K=>
  intro T g p G H h
  by_cases F:∃x∈p,x.1=(g:Int)
  .obtain⟨x,v,D⟩:=F
   obtain⟨n,k,rfl⟩:=List.append_of_mem v;have P:((n++x::k).map (·.1)).Perm (x.1::(n++k).map (·.1)):=(PL (a:=x) (l₁:=n) (l₂:=k)).map _;have U:((n++x::k).map (·.2)).Perm (x.2::(n++k).map (·.2)):=(PL (a:=x) (l₁:=n) (l₂:=k)).map _;have I:=Mb.mp (P.nodup_iff.mp G);have J:=Mb.mp (U.nodup_iff.mp H);obtain⟨i,c,e,L,N⟩:=h x v;have A:i=0:=by rw[e]at D;have D:((g+i:Nat):Int)=(g:Int):=D;omega
   subst A;have s:∀y∈n++k,InR q (c::T) (g+1) y:=by
    intro y t;have w:y∈n++x::k:=by
     rcases Mi.mp t with z|z
     .exact Mr _ z
     .exact Mv _ (MA _ z)
    obtain⟨j,d,u,B,E⟩:=h y w;have M:j≠0:=λz=>I.1 (MG.mpr ⟨y,t,by rw[u,z,e]⟩);have R:d≠c:=λz=>J.1 (MG.mpr ⟨y,t,by rw[u,z,e]⟩);obtain⟨o,rfl⟩:∃o,j=o +1:=⟨j-1,by omega⟩;refine⟨o,d,by rw[u,show g+1+o =g+(o +1)by omega],B,λz=> ?_⟩
    rcases MP.mp z with y|y
    .exact R y
    .exact E y
   have C:=K (c::T) (g+1) (n++k) I.2 J.2 s;have Q:(n++x::k).length=(n++k).length+1:=by rw[MT,MT,MK];omega
   rw[Q,cnt.eq_4];have W:=cK q T ((n++k).length+1);have O:=AM (l:=r.filter λc=> !T.contains c) (f:=λc=>cnt q (c::T) (n++k).length) (λc=>cK _ _ _) (c:=c) (Mh.mpr ⟨L,by
    cases S:T.contains c with
    |true=>exact absurd (Mc.mp S) N|false=>rfl⟩) C
   omega
  .have s:∀y∈p,InR q T (g+1) y:=by
    intro y t;obtain⟨j,d,u,B,E⟩:=h y t;have M:j≠0:=λz=>F ⟨y,t,by rw[u,z];rfl⟩;obtain⟨o,rfl⟩:∃o,j=o +1:=⟨j-1,by omega⟩;exact⟨o,d,by rw[u,show g+1+o =g+(o +1)by omega],B,E⟩
   have C:=K T (g+1) p G H s;cases V:p.length with
   |zero=>rw[aV];decide|succ m=>rw[V]at C;rw[cnt.eq_4];have O:=fL (l:=r.filter λc=> !T.contains c) (f:=λc=>cnt q (c::T) m) λc _=>cK _ _ _;omega
theorem Ic{H:aX}(ok:L5 C n H){p:List (Int×Int)}(h1:(p.map (·.1)).Nodup)(h2:(p.map (·.2)).Nodup)(hc:∀x∈p,(0<=x.1/\x.1<(n:Int))/\x.2∈gx C x.1):p.length<=H.length:=by
 obtain⟨S,cl,_,sh⟩:=ok.shut;have e:=mJ (λq:Int×Int=>decide (q.1∈S)) H;have:=CO (K:=(H.filter λq=> !decide (q.1∈S)).map (·.2)) (Q:=(H.filter λq=>decide (q.1∈S)).map (·.1)) h1 h2 λx hx=> ?_
 .rw[L9,L9]at this
  omega
 .obtain⟨⟨r0,r1⟩,ed⟩:=hc x hx
  have s1:=sh x.1.toNat (by omega);rw[show((x.1.toNat:Nat):Int)=x.1 by omega]at s1
  by_cases hS:x.2∈S
  .obtain⟨r,g,_⟩:=cl x.2 hS
   exact .inr (MG.mpr ⟨(x.2,r),Mh.mpr ⟨iz g,MO hS⟩,rfl⟩)
  .rcases s1 with s1|s1
   .obtain⟨q,hq,e⟩:=MG.mp s1
    refine .inl (MG.mpr ⟨q,Mh.mpr ⟨hq,?_⟩,e⟩);rw[NJ,Nw];intro hqS;obtain⟨r,g,z⟩:=cl q.1 hqS;have e2:=Ed ok.mt.keys (show(q.1,q.2)∈H from hq);rw[e2]at g;cases g;have e:q.2=x.1:=e;rw[e]at z;exact hS (z x.2 ed)
   .exact absurd (s1 x.2 ed) hS
noncomputable def yy(a:List (List Nat))(T:List Nat):List (List Int):=a.map λcs=>(cs.filter λc=> !T.contains c).map λc:Nat=>(c:Int)
theorem qL:c∈gx (yy a T) (i:Nat)↔∃j:Nat,c=(j:Int)/\j∈a.getD i []/\j∉T:=by
 have e:gx (yy a T) (i:Nat)=((a.getD i []).filter λc=> !T.contains c).map λc:Nat=>(c:Int):=by unfold gx yy;rw[Na,ML,ML,MR];cases a[i]? <;>rfl
 rw[e,MG]
 constructor
 .rintro⟨j,b,rfl⟩
  rw[Mh,NJ,<-OC,Mc]at b;exact⟨j,rfl,b.1,b.2⟩
 .rintro⟨j,rfl,d,f⟩
  refine⟨j,Mh.mpr ⟨d,?_⟩,rfl⟩;rw[NJ,<-OC,Mc];exact f
theorem Bx(C:dL a)(T:List Nat)(k:Nat):0<cnt a T k↔k<=(hd (yy a T) a.length).length:=by
 have A:∀r,∀c∈gx (yy a T) r,0<=c/\c<8:=by
  intro r c n;have e:gx (yy a T) r=gx (yy a T) ((r.toNat:Nat):Int):=by unfold gx;rw[Na]
  rw[e]at n;obtain⟨j,rfl,b,_⟩:=qL.mp n;rw[ML]at b;cases q:a[r.toNat]? with
  |none=>rw[q]at b;cases b|some u=>rw[q]at b;have:=C u (Ma q) j b;omega
 have d:=Bw A a.length;obtain⟨H,v⟩:∃H,H=hd (yy a T) a.length:=⟨_,rfl⟩;rw[<- v]at d ⊢
 constructor
 .intro h
  obtain⟨p,l,b,w,s⟩:=Ew a T k 0 h;rw[<- l];refine Ic d b w λx hx=> ?_;obtain⟨i,c,rfl,g,t⟩:=s x hx;have E:i<a.length:=by
   by_cases z:i<a.length;exact z
   .rw[ML,NK (by omega)]at g
    cases g
  rw[Nc];exact⟨by show 0<=(i:Int)/\(i:Int)<(a.length:Int);omega,qL.mpr ⟨c,rfl,g,t⟩⟩
 .intro h
  have l:((H.take k).map λq:Int×Int=>(q.2,q.1)).length=k:=by rw[L9,Nh];omega
  have:=Ea a T 0 ((H.take k).map λq:Int×Int=>(q.2,q.1)) ?_ ?_ λx hx=> ?_
  .rw[l]at this
   exact this
  .rw[Mg]
   have:=d.mt.rows;exact(this.sublist ((Pm k H).map (·.2)))
  .rw[Mg]
   have:=d.mt.keys;exact(this.sublist ((Pm k H).map (·.1)))
  .obtain⟨q,f,rfl⟩:=MG.mp hx
   have f:=PZ f;obtain⟨D,F⟩:=d.rows q.2 (MG.mpr ⟨q,f,rfl⟩);have m:=d.mt.edge q f;rw[show q.2=((q.2.toNat:Nat):Int)by omega]at m;obtain⟨j,B,y,o⟩:=qL.mp m;refine⟨q.2.toNat,j,?_,y,o⟩;rw[Nc];exact Pg (by show q.2=((q.2.toNat:Nat):Int);omega) B
noncomputable def Ec(a:List (List Nat))(c:Nat)(b:List (Int×Int)):Bool:=decide (b.length<=c/\c-b.length<=(hd (yy (a.drop (bF b)) (ay b)) (a.drop (bF b)).length).length)
theorem zH(h:dL a)(k:Nat):dL (a.drop k):=λcs hc=>h cs (Nv hc)
theorem Ii(d:dL c)(a:Nat)(b:List (Int×Int)):Ec c a b=decide (0<nC c a b):=by
 unfold Ec nC
 by_cases h:b.length<=a
 .rw[MF h]
  have:=Bx (zH d (bF b)) (ay b) (a-b.length)
  by_cases g:0<cnt (c.drop (bF b)) (ay b) (a-b.length);rw[MO g,MO ⟨h,this.mp g⟩];rw[MU g,MU λz=>g (this.mpr z.2)]
 .rw[ME h,MU λz=>h z.1]
  rfl
theorem Kz(j:dL d)(a:Nat):OD.GO b9 (aW 0 d) a (Ec d a):=by
 intro e c L b f i o;rw[Ii j,BN d a e c L b f i o]
 by_cases h:b.length<a
 .rw[MF h]
  by_cases g:0<OD.cnt b9 (b++[c]) L (a-b.length-1)
  .rw[MO (show(0:Int)<((OD.cnt b9 (b++[c]) L (a-b.length-1):Nat):Int)by omega),MO ⟨h,g⟩]
  .rw[MU (show¬(0:Int)<((OD.cnt b9 (b++[c]) L (a-b.length-1):Nat):Int)by omega),MU λz=>g z.2]
 .rw[ME h,MU (show¬(b.length<a/\0<OD.cnt b9 (b++[c]) L (a-b.length-1))from λz=>h z.1)]
  rfl
noncomputable def uV(d:List (List Nat))(b:Nat)(a:Int×Int)(s:List (Int×Int))(c:Int×Int):List (Int×Int):=if dq a c=true/\b9 s c=true/\Ec d b (s++[c])=true then s++[c]else s
noncomputable def F4(a:List (List Nat))(d:Nat)(b:List (Int×Int))(c:Int×Int):List (Int×Int):=(aW 0 a).foldl (uV a d c) b
theorem xR{d a:Type}{f:a->d->a}{b:a}:∀{l:List d},(∀c∈l,f b c=b)->l.foldl f b=b
 |[],_=>rfl|c::l,h=>by rw[NQ,h c MB];exact xR λx hx=>h x (MA _ hx)
theorem oN{d a:Type}{f g:a->d->a}:∀{l:List d}{b:a},(∀c∈l,∀s,f s c=g s c)->l.foldl f b=l.foldl g b
 |[],_,_=>rfl|c::l,b,h=>by rw[NQ,NQ,h c MB];exact oN λx hx=>h x (MA _ hx)
noncomputable def fT(a:List (List Nat))(p:List (Int×Int)):Option (List (Int×Int)):=OD.BF b9 [] (aW 0 a) p
section
variable{rows:List (List Nat)}(hc:dL rows)(hr:∀cs∈rows,cs.Pairwise (·<·))
include hr
theorem Iq(u:dL rows)(w:Cv rows p)(t:p[i]? =some x):
  F4 rows p.length (p.take i) x=(OD.tr b9 [] (aW 0 rows) p i).getD (p.take i)/\∀q,OD.tr b9 [] (aW 0 rows) p i=some q->q.length=p.length:=by
 have o:=bM (r:=0) hr;have j:=cR o;have v:=(eY hr).mp w;have D:i<p.length:=(MV.mp t).1;obtain⟨b,L,d,A,l⟩:=OD.AE (aW 0 rows) [] p i x j v t;rw[List.nil_append]at l;have n:(p.take i).length=i:=by rw[Nh];omega
 have a:=o;rw[d]at a;obtain⟨_,h,f⟩:=Ng.mp a;obtain⟨e,_⟩:=Nt.mp h;have C:F4 rows p.length (p.take i) x=L.foldl (OD.fbT b9 (Ec rows p.length)) (p.take i):=by
  unfold F4;rw[d,Ny,NQ];have y:b.foldl (uV rows p.length x) (p.take i)=p.take i:=xR λc hcp=>by unfold uV;have:=(f c hcp x MB).2;rw[ME λz=>by rw[this]at z;cases z.1]
  have B:uV rows p.length x (p.take i) x=p.take i:=by unfold uV;rw[ME λz=>by rw[xB]at z;cases z.1]
  rw[y,B];refine oN λc hcl s=> ?_;unfold uV OD.fbT;have:=(e c hcl).1
  by_cases g:b9 s c=true/\Ec rows p.length (s++[c])=true;rw[MF g,MF ⟨this,g⟩];rw[ME g,ME λz=>g z.2]
 have m:=OD.mK (Kz u p.length) L (b++[x]) (p.take i) (by rw[d,NI];rfl) A.more (by omega);rw[n]at m;rw[C,m,l]
 by_cases g:0<OD.cnt b9 (p.take i) L (p.length-i)
 .rw[MF g,MF g]
  refine⟨rfl,λq hq=> ?_⟩;cases hq;have k:L.Nodup:=by rw[d]at j;exact(Mb.mp (M5.mp j).2.1).2
  rw[MT,(OD.jS L (p.take i) (p.length-i) 0 k g).2.1,n];omega
 .rw[ME g,ME g]
  exact⟨rfl,λq hq=>by cases hq⟩
theorem sV(hp:Cv rows p):(∀q,fT rows p=some q->Cv rows q/\q.length=p.length/\bI rows q=bI rows p+1)/\(fT rows p=none->((bI rows p:Nat):Int)+1=cnt rows [] p.length):=by
 have nd:=cR (bM (r:=0) hr);obtain⟨h1,h2⟩:=OD.vE (aW 0 rows) [] p nd ((eY hr).mp hp);refine⟨λq hq=> ?_,λhq=> ?_⟩
 .obtain⟨a,b,c⟩:=h1 q hq
  exact⟨(eY hr).mpr a,b,c⟩
 .have:=h2 hq
  have e:=cv rows 0 [] p.length (λx hx=>by cases hx);rw[show ay []=[]from rfl]at e;rw[<- e];unfold bI;omega
end
end IR
namespace XE
open PySem
end XE
namespace XE
open PySem PySem.W PyProof.Rows
end XE
namespace L2.XN
open PySem PySem.Spec PyProof.Rows L2 XE
end L2.XN
namespace L2.XN
open PySem PySem.Spec PyProof.Rows L2 XE
section
variable{X:Cx}{pins:List (Addr×Obj)}{σ:St}{H:Hp}{s:Shared}{Wh:Value->Shared->Prop}{A:Around}{cm:Bool}
noncomputable abbrev pinX(X:Cx)(pn:List (Addr×Obj))(a:Value->Shared->Prop):Cx:={X with pn:=pn,xe:=a}
end
end L2.XN
namespace L2.XN
open PySem PySem.Spec PyProof.Rows L2 XE
end L2.XN
namespace XE
open PySem
end XE
namespace XE
open PySem PySem.W PyProof.Rows
end XE
namespace L2.XN
open PySem PySem.Spec PyProof.Rows L2 XE
noncomputable def XN(C:Addr)(a:Option Addr)(e:Addr):HO:=.ext λh=>∃t,h.get? e=some {cls:=.ref C,dict:=a,data:=.fields #[.ref t,.none,.none,.none,.bool false,.none]}
noncomputable def BD(H:Hp)(e:Addr):Hp:=λb=>if b=e then none else H b
end L2.XN
namespace L2.XN
open PySem PySem.Spec PyProof.Rows L2 XE
end L2.XN
namespace L2.XN
open PySem PySem.Spec PyProof.Rows L2 XE
end L2.XN
namespace L2.XN
open PySem PySem.Spec PyProof.Rows L2 XE
end L2.XN
namespace L2.XN
open PySem PySem.Spec PyProof.Rows L2 XE
end L2.XN
namespace IR
open PySem PySem.Spec PyProof.Rows L2 L2.XN
section
variable{K:W.Frag}{mg:Str->Option Value}{P:Nat->Option FD}{F:List (Str×Nat)}{G:List (Str×PV)}{B:List Str}{p:Program}{w:World}{base:Heap}{k:Nat}
variable(hG:∀x v,G.lookup x=some v->∃u w,mg x=some u/\RelV w u/\∀Hi n H,Rp K Hi n v H w)(hB:∀x,B.contains x=true->mg x=none)
include hG hB
end
end IR
namespace Law
open PySem PySem.Spec PyProof.Rows L2 IR
noncomputable def gH(i:Nat):Stmt:=PySem.Challenge.pw_unstruck_k53_whole_order_of_placings.main.body.getD i (.Pass ⟨0,0,0,0⟩)
noncomputable def F:List (Str×Nat):=("cells_of",3)::("columns_in",109)::("is_number",24)::[("is_cell",25),("is_placing",26),("bits_of",46),("with_line",47),("takes_column",110),("holders_of",111),("tails_of",163),("row_behind",164),("columns_taken",165),("number_beginning",166),("placing_at",167),("start_at",168),("number_of",169),("free_columns",173),("goes_on",174),("first_behind",175),("next_placing",176),("_law_cell",4),("_law_mixed",5),("_law_deep",20),("_law_board",62),("_law_cells",66),("_law_whole",8),("_law_same",9),("_law_all_same",10),("_law_placing",170),("_law_row",64),("_law_is_placing",179),("_law_apart",180),("law",181)]
noncomputable def G:List (Str×PV):=[("CELL",(.str "x"))]
noncomputable def B:List Str:=["len","int","list","tuple","all","min","isinstance","str","bool","range","zip","enumerate","sorted","set","sum","reversed","dict"]
noncomputable abbrev s3:Stmt:=gH 2
noncomputable abbrev N3:List Str:=["board","cells","row","line","column","sign"]
noncomputable abbrev s109:Stmt:=gH 3
noncomputable abbrev N109:List Str:=["line"]
noncomputable abbrev s24:Stmt:=gH 4
noncomputable abbrev N24:List Str:=["thing"]
noncomputable abbrev s25:Stmt:=gH 5
noncomputable abbrev N25:List Str:=["board","thing","row","column"]
noncomputable abbrev s26:Stmt:=gH 6
noncomputable abbrev N26:List Str:=["board","thing","rows","columns"]
noncomputable abbrev s46:Stmt:=gH 8
noncomputable abbrev N46:List Str:=["line","bits","bit","sign"]
noncomputable abbrev s47:Stmt:=gH 9
noncomputable abbrev N47:List Str:=["levels","bits","after","size","level","above","taken","count","bit"]
noncomputable abbrev AY:Stmt:=gH 14
noncomputable abbrev N110:List Str:=["choices","holders","row","tried","column"]
noncomputable abbrev Gk:Stmt:=gH 15
noncomputable abbrev N111:List Str:=["choices","holders","row"]
noncomputable abbrev s163:Stmt:=gH 17
noncomputable abbrev N163:List Str:=["board","tails","line"]
noncomputable abbrev s164:Stmt:=gH 18
noncomputable abbrev N164:List Str:=["begun"]
noncomputable abbrev s165:Stmt:=gH 19
noncomputable abbrev N165:List Str:=["begun"]
noncomputable abbrev s166:Stmt:=gH 20
noncomputable abbrev N166:List Str:=["tails","begun","size","tail","further","taken"]
noncomputable abbrev s167:Stmt:=gH 21
noncomputable abbrev N167:List Str:=["board","size","number","tails","begun","left","cell","start","count"]
noncomputable abbrev s168:Stmt:=gH 22
noncomputable abbrev N168:List Str:=["placing","cell"]
noncomputable abbrev s169:Stmt:=gH 23
noncomputable abbrev N169:List Str:=["board","placing","tails","starts"]
noncomputable abbrev s173:Stmt:=gH 24
noncomputable abbrev N173:List Str:=["line","taken"]
noncomputable abbrev s174:Stmt:=gH 25
noncomputable abbrev N174:List Str:=["board","begun","size","taken","choices"]
noncomputable abbrev s175:Stmt:=gH 26
noncomputable abbrev N175:List Str:=["board","begun","last","size","found","cell","start"]
noncomputable abbrev s176:Stmt:=gH 27
noncomputable abbrev N176:List Str:=["board","placing","place","found"]
noncomputable abbrev s4:Stmt:=gH 29
noncomputable abbrev N4:List Str:=["_law_script","_law_k"]
noncomputable abbrev s5:Stmt:=gH 30
noncomputable abbrev N5:List Str:=["_law_cell_here","_law_k","_law_number"]
noncomputable abbrev s20:Stmt:=gH 31
noncomputable abbrev N20:List Str:=["_law_cell_here","_law_number","_law_k"]
noncomputable abbrev s62:Stmt:=gH 32
noncomputable abbrev N62:List Str:=["_law_head","_law_cell_here","_law_most","_law_rows","_law_columns","_law_thick","_law_lines","_law_row_here","_law_signs","_law_column","_law_place","_law_one"]
noncomputable abbrev s66:Stmt:=gH 33
noncomputable abbrev N66:List Str:=["_law_board_here","_law_found","_law_row_here","_law_column"]
noncomputable abbrev s8:Stmt:=gH 34
noncomputable abbrev N8:List Str:=["_law_found"]
noncomputable abbrev s9:Stmt:=gH 35
noncomputable abbrev N9:List Str:=["_law_found","_law_due"]
noncomputable abbrev s10:Stmt:=gH 36
noncomputable abbrev N10:List Str:=["_law_found","_law_due","_law_one","_law_other"]
noncomputable abbrev s170:Stmt:=gH 37
noncomputable abbrev N170:List Str:=["_law_board_here","_law_cell_here","_law_size","_law_found","_law_some","_law_one"]
noncomputable abbrev s64:Stmt:=gH 38
noncomputable abbrev N64:List Str:=["_law_board_here","_law_counts","_law_line","_law_fresh","_law_taken","_law_column","_law_more","_law_found"]
noncomputable abbrev s179:Stmt:=gH 39
noncomputable abbrev N179:List Str:=["_law_board_here","_law_placing_here","_law_size","_law_some","_law_k","_law_j"]
noncomputable abbrev s180:Stmt:=gH 40
noncomputable abbrev N180:List Str:=["_law_board_here","_law_placing_here","_law_after","_law_cell_here","_law_size","_law_other"]
noncomputable abbrev Da:Stmt:=gH 41
noncomputable abbrev N181:List Str:=["_law_script","_law_great","_law_board_here","_law_numbers","_law_first","_law_placing_here","_law_size","_law_number","_law_after","_law_k","_law_cell_here","_law_found"]
noncomputable def d3:FD:=⟨6,1,(.cons (.asg 1 true [] (.lst .nil)) (.cons (.forr [2,3] false [0] (.enum (.var 0)) (.cons (.forr [4,5] false [3] (.enum (.var 3)) (.cons (.ife (.val (.cmp .Eq (.var 5) (.con (.str "x")))) (.cons (.app 1 [2,4] (.tup (.cons (.var 2) (.cons (.var 4) .nil)))) .nil) .nil) .nil)) .nil)) (.cons (.ret [1] (.var 1)) .nil)))⟩
noncomputable def LQ:FD:=⟨1,1,(.cons (.ret [] (.lc2 (.var 0) (.enum (.var 0)) (.yes (.val (.cmp .Eq (.var 1) (.con (.str "x"))))) [])) .nil)⟩
noncomputable def d24:FD:=⟨1,1,(.cons (.ret [] (.and (.bf (.isin "int") (.cons (.var 0) .nil)) (.not (.bf (.isin "bool") (.cons (.var 0) .nil))))) .nil)⟩
noncomputable def d25:FD:=⟨4,2,(.cons (.ife (.or (.not (.val (.bf (.isin "tuple") (.cons (.var 1) .nil)))) (.val (.cmp .NotEq (.bf .len (.cons (.var 1) .nil)) (.con (.int 2))))) (.cons (.ret [] (.con (.bl false))) .nil) .nil) (.cons (.asg 2 false [] (.ix (.var 1) (.con (.int 0)))) (.cons (.asg 3 false [] (.ix (.var 1) (.con (.int 1)))) (.cons (.ife (.or (.not (.val (.call 24 (.cons (.var 2) .nil)))) (.not (.val (.call 24 (.cons (.var 3) .nil))))) (.cons (.ret [] (.con (.bl false))) .nil) .nil) (.cons (.ife (.or (.not (.val (.chn .LtE .Lt (.con (.int 0)) (.var 2) (.bf .len (.cons (.var 0) .nil))))) (.not (.val (.chn .LtE .Lt (.con (.int 0)) (.var 3) (.bf .len (.cons (.ix (.var 0) (.con (.int 0))) .nil)))))) (.cons (.ret [] (.con (.bl false))) .nil) .nil) (.cons (.ret [] (.cmp .Eq (.ix (.ix (.var 0) (.var 2)) (.var 3)) (.con (.str "x")))) .nil))))))⟩
noncomputable def d26:FD:=⟨4,2,(.cons (.ife (.not (.val (.bf (.isin "tuple") (.cons (.var 1) .nil)))) (.cons (.ret [] (.con (.bl false))) .nil) .nil) (.cons (.ife (.not (.val (.bf .all (.cons (.lc (.call 25 (.cons (.var 1) (.cons (.var 0) .nil))) (.seq (.var 1)) .no [0]) .nil)))) (.cons (.ret [] (.con (.bl false))) .nil) .nil) (.cons (.asg 2 false [] (.lc (.ix (.var 0) (.con (.int 0))) (.seq (.var 1)) .no [])) (.cons (.asg 3 false [] (.lc (.ix (.var 0) (.con (.int 1))) (.seq (.var 1)) .no [])) (.cons (.ret [] (.and (.cmp .Eq (.var 2) (.bf .sset (.cons (.var 2) .nil))) (.cmp .Eq (.bf .lset (.cons (.var 3) .nil)) (.bf .len (.cons (.var 3) .nil))))) .nil)))))⟩
noncomputable def d46:FD:=⟨4,1,(.cons (.asg 1 true [] (.lst .nil)) (.cons (.asg 2 false [] (.con (.int 1))) (.cons (.forr [3] true [0] (.seq (.var 0)) (.cons (.ife (.val (.cmp .Eq (.var 3) (.con (.str "x")))) (.cons (.app 1 [2] (.var 2)) .nil) .nil) (.cons (.asg 2 false [] (.bin .Mult (.var 2) (.con (.int 2)))) .nil))) (.cons (.ret [1] (.var 1)) .nil))))⟩
noncomputable def Jo:FD:=⟨9,2,(.cons (.hand 2 bw) .nil)⟩
noncomputable def d110:FD:=⟨5,4,(.cons .never .nil)⟩
noncomputable def Et:FD:=⟨3,1,(.cons (.drop (.call 20011 (.cons (.con .non) .nil))) (.cons (.hand 1 tJ) .nil))⟩
noncomputable def LP:FD:=⟨3,1,(.cons (.asg 1 false [] (.lst (.cons (.lst (.cons (.dlit (.inl 0) (.con (.int 1))) .nil)) .nil))) (.cons (.forr [2] true [0] (.rvd (.var 0)) (.cons (.asg 1 false [] (.bin .Add (.lst (.cons (.call 47 (.cons (.ix (.var 1) (.con (.int 0))) (.cons (.call 46 (.cons (.var 2) .nil)) .nil))) .nil)) (.var 1))) .nil)) (.cons (.ret [1] (.var 1)) .nil)))⟩
noncomputable def LO:FD:=⟨1,1,(.cons (.ret [] (.ite (.val (.cmp .Gt (.bf .len (.cons (.var 0) .nil)) (.con (.int 0)))) (.bin .Add (.ix (.ix (.var 0) (.neg (.con (.int 1)))) (.con (.int 0))) (.con (.int 1))) (.con (.int 0)))) .nil)⟩
noncomputable def LM:FD:=⟨1,1,(.cons (.ret [0] (.lc (.ix (.var 0) (.con (.int 1))) (.seq (.var 0)) .no [])) .nil)⟩
noncomputable def LL:FD:=⟨6,3,(.cons (.asg 3 false [] (.ix (.var 0) (.call 164 (.cons (.var 1) .nil)))) (.cons (.asg 4 false [] (.bin .Sub (.var 2) (.bf .len (.cons (.var 1) .nil)))) (.cons (.ife (.not (.val (.chn .LtE .Lt (.con (.int 0)) (.var 4) (.bf .len (.cons (.var 3) .nil))))) (.cons (.ret [] (.con (.int 0))) .nil) .nil) (.cons (.asg 5 false [] (.bf .sum (.cons (.lc (.bin .LShift (.con (.int 1)) (.var 0)) (.seq (.call 165 (.cons (.var 1) .nil))) .no []) .nil))) (.cons (.ret [] (.bf .sum (.cons (.lci (.ix (.var 3) (.var 4)) 5) .nil))) .nil)))))⟩
noncomputable def LK:FD:=⟨9,3,(.cons (.asg 3 false [] (.call 163 (.cons (.var 0) .nil))) (.cons (.ife (.not (.val (.chn .LtE .Lt (.con (.int 0)) (.var 2) (.call 166 (.cons (.var 3) (.cons (.tup .nil) (.cons (.var 1) .nil))))))) (.cons (.rais "NoPlacing") .nil) .nil) (.cons (.asg 4 false [] (.tup .nil)) (.cons (.asg 5 false [2] (.var 2)) (.cons (.forr [6] true [] (.seq (.call 3 (.cons (.var 0) .nil))) (.cons (.asg 7 false [] (.bin .Add (.var 4) (.tup (.cons (.var 6) .nil)))) (.cons (.ife (.val (.call 26 (.cons (.var 0) (.cons (.var 7) .nil)))) (.cons (.asg 8 false [] (.call 166 (.cons (.var 3) (.cons (.var 7) (.cons (.var 1) .nil))))) (.cons (.ife (.val (.cmp .Lt (.var 5) (.var 8))) (.cons (.asg 4 false [7] (.var 7)) .nil) (.cons (.aug 5 .Sub (.var 8)) .nil)) .nil)) .nil) .nil))) (.cons (.ret [4] (.var 4)) .nil))))))⟩
noncomputable def LJ:FD:=⟨2,2,(.cons (.ret [0,1] (.bin .Add (.bf .tuple (.cons (.lc (.var 0) (.seq (.var 0)) (.yes (.val (.cmp .Lt (.var 0) (.var 1)))) [1]) .nil)) (.tup (.cons (.var 1) .nil)))) .nil)⟩
noncomputable def LI:FD:=⟨4,2,(.cons (.ife (.not (.val (.call 26 (.cons (.var 0) (.cons (.var 1) .nil))))) (.cons (.rais "NoPlacing") .nil) .nil) (.cons (.asg 2 false [] (.call 163 (.cons (.var 0) .nil))) (.cons (.asg 3 false [] (.lc (.call 168 (.cons (.var 1) (.cons (.var 0) .nil))) (.seq (.call 3 (.cons (.var 0) .nil))) (.yes (.val (.cmp .NotIn (.var 0) (.var 1)))) [1])) (.cons (.ret [] (.bf .sum (.cons (.lc (.call 166 (.cons (.var 3) (.cons (.var 0) (.cons (.bf .len (.cons (.var 2) .nil)) .nil)))) (.seq (.var 3)) (.yes (.val (.call 26 (.cons (.var 1) (.cons (.var 0) .nil))))) [0,1,2]) .nil))) .nil))))⟩
noncomputable def LG:FD:=⟨2,2,(.cons (.ret [] (.lc (.var 0) (.seq (.call 109 (.cons (.var 0) .nil))) (.yes (.val (.cmp .NotIn (.var 0) (.var 1)))) [1])) .nil)⟩
noncomputable def LF:FD:=⟨5,3,(.cons (.asg 3 false [] (.call 165 (.cons (.var 1) .nil))) (.cons (.asg 4 false [] (.lc (.call 173 (.cons (.var 0) (.cons (.var 1) .nil))) (.seq (.sl (.var 0) (.yes (.call 164 (.cons (.var 1) .nil))) .no)) .no [3])) (.cons (.ret [] (.chn .LtE .LtE (.con (.int 0)) (.bin .Sub (.var 2) (.bf .len (.cons (.var 1) .nil))) (.bf .len (.cons (.call 111 (.cons (.var 4) .nil)) .nil)))) .nil)))⟩
noncomputable def LD:FD:=⟨7,4,(.cons (.asg 4 false [1] (.var 1)) (.cons (.forr [5] true [] (.seq (.call 3 (.cons (.var 0) .nil))) (.cons (.asg 6 false [] (.bin .Add (.var 4) (.tup (.cons (.var 5) .nil)))) (.cons (.ife (.and (.val (.cmp .Gt (.var 5) (.var 2))) (.and (.val (.call 26 (.cons (.var 0) (.cons (.var 6) .nil)))) (.val (.call 174 (.cons (.var 0) (.cons (.var 6) (.cons (.var 3) .nil))))))) (.cons (.asg 4 false [6] (.var 6)) .nil) .nil) .nil))) (.cons (.ret [4] (.var 4)) .nil)))⟩
noncomputable def LC:FD:=⟨4,2,(.cons (.ife (.not (.val (.call 26 (.cons (.var 0) (.cons (.var 1) .nil))))) (.cons (.rais "NoPlacing") .nil) .nil) (.cons (.forr [2] true [] (.rng (.cons (.bin .Sub (.bf .len (.cons (.var 1) .nil)) (.con (.int 1))) (.cons (.neg (.con (.int 1))) (.cons (.neg (.con (.int 1))) .nil)))) (.cons (.asg 3 false [] (.call 175 (.cons (.var 0) (.cons (.sl (.var 1) .no (.yes (.var 2))) (.cons (.ix (.var 1) (.var 2)) (.cons (.bf .len (.cons (.var 1) .nil)) .nil)))))) (.cons (.ife (.val (.cmp .Eq (.bf .len (.cons (.var 3) .nil)) (.bf .len (.cons (.var 1) .nil)))) (.cons (.ret [3] (.var 3)) .nil) .nil) .nil))) (.cons (.ret [] (.con .non)) .nil)))⟩
noncomputable def d4:FD:=⟨2,2,(.cons (.ife (.val (.cmp .Lt (.var 1) (.bf .len (.cons (.var 0) .nil)))) (.cons (.ret [] (.ix (.var 0) (.var 1))) .nil) .nil) (.cons (.ret [] (.con (.int 0))) .nil))⟩
noncomputable def d5:FD:=⟨3,2,(.cons (.asg 2 false [] (.bin .Mod (.bin .Add (.bin .Add (.bin .Mult (.bin .Mod (.var 0) (.con (.int 2147483647))) (.con (.int 39373))) (.bin .Mult (.bin .Mult (.con (.int 7877)) (.var 1)) (.var 1))) (.con (.int 60493))) (.con (.int 2147483647)))) (.cons (.asg 2 false [] (.bin .Mod (.bin .Mult (.var 2) (.var 2)) (.con (.int 2147483629)))) (.cons (.ret [2,1,2] (.bin .Mod (.bin .Mult (.bin .Add (.bin .Mult (.var 2) (.con (.int 48271))) (.var 1)) (.var 2)) (.con (.int 2147483587)))) .nil)))⟩
noncomputable def d20:FD:=⟨3,1,(.cons (.ife (.val (.cmp .GtE (.var 0) (.bin .LShift (.con (.int 1)) (.con (.int 64))))) (.cons (.ret [0] (.bin .Sub (.var 0) (.bin .LShift (.con (.int 1)) (.con (.int 64))))) .nil) .nil) (.cons (.asg 1 false [] (.con (.int 0))) (.cons (.forr [2] true [] (.rng (.cons (.con (.int 8)) .nil)) (.cons (.asg 1 false [] (.bin .Add (.bin .Mult (.var 1) (.con (.int 2147483587))) (.call 5 (.cons (.var 0) (.cons (.bin .Add (.bin .Mult (.con (.int 7)) (.var 2)) (.con (.int 3))) .nil))))) .nil)) (.cons (.ret [1] (.var 1)) .nil))))⟩
noncomputable def d62:FD:=⟨12,3,(.cons (.asg 3 false [] (.bin .Add (.con (.int 1)) (.bin .Mod (.var 0) (.var 2)))) (.cons (.asg 4 false [] (.bin .Add (.con (.int 1)) (.bin .Mod (.bin .FloorDiv (.var 0) (.con (.int 8))) (.var 2)))) (.cons (.asg 5 false [] (.bin .Add (.con (.int 1)) (.bin .Mod (.bin .FloorDiv (.var 0) (.con (.int 64))) (.con (.int 8))))) (.cons (.asg 6 true [] (.lst .nil)) (.cons (.forr [7] true [] (.rng (.cons (.var 3) .nil)) (.cons (.asg 8 false [] (.con (.str ""))) (.cons (.forr [9] true [] (.rng (.cons (.var 4) .nil)) (.cons (.asg 10 false [] (.bin .Add (.bin .Mult (.var 4) (.var 7)) (.var 9))) (.cons (.asg 11 false [] (.cmp .Eq (.bin .Mod (.bin .FloorDiv (.var 1) (.bin .LShift (.con (.int 1)) (.var 10))) (.con (.int 2))) (.con (.int 1)))) (.cons (.ife (.val (.cmp .Lt (.var 1) (.bin .LShift (.con (.int 1)) (.con (.int 64))))) (.cons (.asg 11 false [] (.cmp .Lt (.bin .Mod (.call 5 (.cons (.var 1) (.cons (.var 10) .nil))) (.con (.int 8))) (.var 5))) .nil) .nil) (.cons (.asg 8 false [8] (.bin .Add (.var 8) (.ix (.lst (.cons (.con (.str ".")) (.cons (.con (.str "x")) .nil))) (.bf .int (.cons (.var 11) .nil))))) .nil))))) (.cons (.app 6 [8] (.var 8)) .nil)))) (.cons (.ret [6] (.bf .tuple (.cons (.var 6) .nil))) .nil))))))⟩
noncomputable def d66:FD:=⟨4,1,(.cons (.asg 1 true [] (.lst .nil)) (.cons (.forr [2] true [] (.rng (.cons (.bf .len (.cons (.var 0) .nil)) .nil)) (.cons (.forr [3] true [] (.rng (.cons (.bf .len (.cons (.ix (.var 0) (.con (.int 0))) .nil)) .nil)) (.cons (.ife (.val (.cmp .Eq (.ix (.ix (.var 0) (.var 2)) (.var 3)) (.con (.str "x")))) (.cons (.app 1 [2,3] (.tup (.cons (.var 2) (.cons (.var 3) .nil)))) .nil) .nil) .nil)) .nil)) (.cons (.ret [1] (.var 1)) .nil)))⟩
noncomputable def d8:FD:=⟨1,1,(.cons (.ret [] (.and (.bf (.isin "int") (.cons (.var 0) .nil)) (.not (.bf (.isin "bool") (.cons (.var 0) .nil))))) .nil)⟩
noncomputable def d9:FD:=⟨2,2,(.cons (.ife (.val (.cmp .Is (.var 1) (.con .non))) (.cons (.ret [] (.cmp .Is (.var 0) (.con .non))) .nil) .nil) (.cons (.ife (.val (.bf (.isin "tuple") (.cons (.var 1) .nil))) (.cons (.ret [] (.and (.bf (.isin "tuple") (.cons (.var 0) .nil)) (.and (.cmp .Eq (.bf .len (.cons (.var 0) .nil)) (.bf .len (.cons (.var 1) .nil))) (.call 10 (.cons (.bf .list (.cons (.var 0) .nil)) (.cons (.bf .list (.cons (.var 1) .nil)) .nil)))))) .nil) .nil) (.cons (.ife (.val (.bf (.isin "list") (.cons (.var 1) .nil))) (.cons (.ret [] (.and (.bf (.isin "list") (.cons (.var 0) .nil)) (.and (.cmp .Eq (.bf .len (.cons (.var 0) .nil)) (.bf .len (.cons (.var 1) .nil))) (.call 10 (.cons (.var 0) (.cons (.var 1) .nil)))))) .nil) .nil) (.cons (.ife (.val (.bf (.isin "str") (.cons (.var 1) .nil))) (.cons (.ret [] (.and (.bf (.isin "str") (.cons (.var 0) .nil)) (.cmp .Eq (.var 0) (.var 1)))) .nil) .nil) (.cons (.ret [] (.and (.call 8 (.cons (.var 0) .nil)) (.cmp .Eq (.var 0) (.var 1)))) .nil)))))⟩
noncomputable def d10:FD:=⟨4,2,(.cons (.forr [2,3] false [0,1] (.zip (.var 0) (.var 1)) (.cons (.ife (.not (.val (.call 9 (.cons (.var 2) (.cons (.var 3) .nil))))) (.cons (.ret [] (.con (.bl false))) .nil) .nil) .nil)) (.cons (.ret [] (.con (.bl true))) .nil))⟩
noncomputable def LH:FD:=⟨6,3,(.cons (.asg 3 true [] (.lst .nil)) (.cons (.asg 4 false [] (.call 66 (.cons (.var 0) .nil))) (.cons (.whil (.and (.val (.cmp .Lt (.bf .len (.cons (.var 3) .nil)) (.var 2))) (.val (.cmp .NotEq (.var 4) (.lst .nil)))) (.cons (.asg 5 false [] (.ix (.var 4) (.bin .Mod (.var 1) (.bf .len (.cons (.var 4) .nil))))) (.cons (.asg 1 false [] (.bin .FloorDiv (.var 1) (.bf .len (.cons (.var 4) .nil)))) (.cons (.app 3 [5] (.var 5)) (.cons (.asg 4 false [] (.lc (.var 0) (.seq (.var 4)) (.yes (.and (.val (.cmp .NotEq (.ix (.var 0) (.con (.int 0))) (.ix (.var 1) (.con (.int 0))))) (.val (.cmp .NotEq (.ix (.var 0) (.con (.int 1))) (.ix (.var 1) (.con (.int 1))))))) [5])) .nil))))) (.cons (.ret [3] (.bf .tuple (.cons (.bf .sorted (.cons (.var 3) .nil)) .nil))) .nil))))⟩
noncomputable def Jn:FD:=⟨8,1,(.cons (.hand 1 kC) .nil)⟩
noncomputable def LB:FD:=⟨6,3,(.cons (.ife (.or (.not (.val (.bf (.isin "tuple") (.cons (.var 1) .nil)))) (.val (.cmp .NotEq (.bf .len (.cons (.var 1) .nil)) (.var 2)))) (.cons (.ret [] (.con (.bl false))) .nil) .nil) (.cons (.asg 3 false [] (.call 66 (.cons (.var 0) .nil))) (.cons (.forr [4] true [] (.rng (.cons (.var 2) .nil)) (.cons (.ife (.or (.val (.cmp .NotIn (.ix (.var 1) (.var 4)) (.var 3))) (.not (.val (.bf (.isin "tuple") (.cons (.ix (.var 1) (.var 4)) .nil))))) (.cons (.ret [] (.con (.bl false))) .nil) .nil) (.cons (.forr [5] true [] (.rng (.cons (.var 4) .nil)) (.cons (.ife (.or (.val (.cmp .GtE (.ix (.ix (.var 1) (.var 5)) (.con (.int 0))) (.ix (.ix (.var 1) (.var 4)) (.con (.int 0))))) (.val (.cmp .Eq (.ix (.ix (.var 1) (.var 5)) (.con (.int 1))) (.ix (.ix (.var 1) (.var 4)) (.con (.int 1)))))) (.cons (.ret [] (.con (.bl false))) .nil) .nil) .nil)) .nil))) (.cons (.ret [] (.con (.bl true))) .nil))))⟩
noncomputable def LA:FD:=⟨6,5,(.cons (.asg 5 false [] (.call 170 (.cons (.var 0) (.cons (.var 3) (.cons (.var 4) .nil))))) (.cons (.ife (.or (.val (.cmp .NotEq (.bf .len (.cons (.var 5) .nil)) (.var 4))) (.val (.cmp .LtE (.var 5) (.var 1)))) (.cons (.ret [] (.con (.bl true))) .nil) .nil) (.cons (.ret [] (.and (.cmp .IsNot (.var 2) (.con .non)) (.cmp .GtE (.var 5) (.var 2)))) .nil)))⟩
noncomputable def K9:FD:=⟨12,1,(.cons (.asg 1 false [] (.cmp .Eq (.bin .Mod (.bin .FloorDiv (.call 4 (.cons (.var 0) (.cons (.con (.int 0)) .nil))) (.con (.int 1024))) (.con (.int 32))) (.con (.int 1)))) (.cons (.asg 2 false [] (.call 62 (.cons (.call 4 (.cons (.var 0) (.cons (.con (.int 0)) .nil))) (.cons (.call 4 (.cons (.var 0) (.cons (.con (.int 1)) .nil))) (.cons (.ix (.lst (.cons (.con (.int 6)) (.cons (.con (.int 8)) .nil))) (.bf .int (.cons (.var 1) .nil))) .nil))))) (.cons (.asg 3 false [] (.call 64 (.cons (.var 2) .nil))) (.cons (.asg 4 false [] (.call 20 (.cons (.call 4 (.cons (.var 0) (.cons (.con (.int 2)) .nil))) .nil))) (.cons (.asg 5 false [] (.call 170 (.cons (.var 2) (.cons (.bin .FloorDiv (.var 4) (.con (.int 8))) (.cons (.bin .Mod (.var 4) (.con (.int 8))) .nil))))) (.cons (.asg 6 false [] (.bf .len (.cons (.var 5) .nil))) (.cons (.asg 7 false [] (.call 169 (.cons (.var 2) (.cons (.var 5) .nil)))) (.cons (.asg 8 false [] (.call 176 (.cons (.var 2) (.cons (.var 5) .nil)))) (.cons (.ife (.val (.cmp .Is (.var 8) (.con .non))) (.cons (.ife (.val (.cmp .NotEq (.var 7) (.bin .Sub (.ix (.var 3) (.var 6)) (.con (.int 1))))) (.cons (.ret [] (.con (.bl false))) .nil) .nil) .nil) (.cons (.ife (.or (.not (.val (.call 179 (.cons (.var 2) (.cons (.var 8) (.cons (.var 6) .nil)))))) (.or (.val (.cmp .LtE (.var 8) (.var 5))) (.val (.cmp .NotEq (.call 169 (.cons (.var 2) (.cons (.var 8) .nil))) (.bin .Add (.var 7) (.con (.int 1))))))) (.cons (.ret [] (.con (.bl false))) .nil) .nil) .nil)) (.cons (.forr [9] true [] (.rng (.cons (.con (.int 3)) (.cons (.bf .min (.cons (.bf .len (.cons (.var 0) .nil)) (.cons (.con (.int 63)) .nil))) .nil))) (.cons (.asg 10 false [] (.call 20 (.cons (.call 4 (.cons (.var 0) (.cons (.var 9) .nil))) .nil))) (.cons (.ife (.not (.val (.call 180 (.cons (.var 2) (.cons (.var 5) (.cons (.var 8) (.cons (.var 10) (.cons (.var 6) .nil)))))))) (.cons (.ret [] (.con (.bl false))) .nil) .nil) (.cons (.ife (.and (.val (.cmp .Lt (.var 9) (.con (.int 12)))) (.not (.val (.var 1)))) (.cons (.asg 11 false [] (.call 167 (.cons (.var 2) (.cons (.var 6) (.cons (.bin .Mod (.var 10) (.ix (.var 3) (.var 6))) .nil))))) (.cons (.ife (.not (.val (.call 179 (.cons (.var 2) (.cons (.var 11) (.cons (.var 6) .nil)))))) (.cons (.ret [] (.con (.bl false))) .nil) .nil) (.cons (.ife (.not (.val (.call 9 (.cons (.call 169 (.cons (.var 2) (.cons (.var 11) .nil))) (.cons (.bin .Mod (.var 10) (.ix (.var 3) (.var 6))) .nil))))) (.cons (.ret [] (.con (.bl false))) .nil) .nil) .nil))) .nil) .nil)))) (.cons (.ret [] (.con (.bl true))) .nil)))))))))))⟩
noncomputable def P:Nat->Option FD:=λn=>match n with
 |3=>some d3|4=>some d4|5=>some d5|8=>some d8|9=>some d9|10=>some d10|20=>some d20|24=>some d24|25=>some d25|26=>some d26|46=>some d46|47=>some Jo|62=>some d62|64=>some Jn|66=>some d66|109=>some LQ|110=>some d110|111=>some Et|163=>some LP|164=>some LO|165=>some LM|166=>some LL|167=>some LK|168=>some LJ|169=>some LI|170=>some LH|173=>some LG|174=>some LF|175=>some LD|176=>some LC|179=>some LB|180=>some LA|181=>some K9|20000=>some ⟨1,1,.cons (.ret [] (.con .non)) .nil⟩|20001=>some ⟨1,1,.cons (.ret [] (.call 20000 (.cons (.con .non) .nil))) .nil⟩|20002=>some ⟨1,1,.cons (.ret [] (.call 20001 (.cons (.con .non) .nil))) .nil⟩|20003=>some ⟨1,1,.cons (.ret [] (.call 20002 (.cons (.con .non) .nil))) .nil⟩|20004=>some ⟨1,1,.cons (.ret [] (.call 20003 (.cons (.con .non) .nil))) .nil⟩|20005=>some ⟨1,1,.cons (.ret [] (.call 20004 (.cons (.con .non) .nil))) .nil⟩|20006=>some ⟨1,1,.cons (.ret [] (.call 20005 (.cons (.con .non) .nil))) .nil⟩|20007=>some ⟨1,1,.cons (.ret [] (.call 20006 (.cons (.con .non) .nil))) .nil⟩|20008=>some ⟨1,1,.cons (.ret [] (.call 20007 (.cons (.con .non) .nil))) .nil⟩|20009=>some ⟨1,1,.cons (.ret [] (.call 20008 (.cons (.con .non) .nil))) .nil⟩|20010=>some ⟨1,1,.cons (.ret [] (.call 20009 (.cons (.con .non) .nil))) .nil⟩|20011=>some ⟨1,1,.cons (.ret [] (.call 20010 (.cons (.con .non) .nil))) .nil⟩|_=>none
end Law
namespace Law
open PySem IR L2
local macro_rules | `(tactic| walk_at "ev")=> do
  let ids <- ("sc Option.bind_some Option.map_some Option.bind_none List.length_cons List.length_nil if_true if_false Nat.reduceAdd Nat.reduceSub List.map_cons List.map_nil List.replicate List.append_nil List.cons_append List.nil_append imm imms oQ CA Iw Ir Iu Ix Iv Hw List.getD_cons_zero List.getD_cons_succ at_0 at_1 DL dc dM dh dQ de df dk dP dY dg di dR dN dZ dX dO dW dU dS C9 DA z0u z0v zj zm zn zk GG GF C5 C7 C4 C8 C6 cO DG DF Bi Bh ES EN EL El Ij Il Ik Bc Bg mD oK Ef xQ B2 FQ FK FM FO FN FL FP JF JG JH JI FB Ez Ey List.set_cons_zero List.set_cons_succ KQ Gv Gw pA DN AC Cg Bp DX DZ DW DY JO FU FT Ck Cm zO zP Ch IV IU iN JP JN FR FS Cj KJ setU ix_L ix_T ix_O ix_S pG d0 GV GU GW GX ve vg vd vf vc nN eq_self decide_true decide_false sw vN sy sv sx su vM qB tE qD qA qC pz tD sr sq py pq px nG pk nJ nF nH nE pi reduceCtorEq bne_self_eq_false beq_self_eq_true Bool.true_bne Bool.bne_true Bool.false_bne Bool.bne_false LN Nat.reduceLeDiff Nat.reduceLT Nat.reducePow Int.reduceLT Int.reduceLE Int.reducePow Int.reduceNeg Int.natAbs_one and_self true_and and_true or_true true_or reduceIte Bool.not_true Bool.not_false Bool.and_true Bool.or_true Bool.or_false Bool.true_or Bool.false_or Bool.true_and Bool.and_false Bool.false_and Bool.false_eq_true keeps sX sW List.getElem?_cons_zero List.getElem?_cons_succ".splitOn " ").toArray.mapM fun s=> do
   let i:= Lean.mkIdent s.toName
   `(Lean.Parser.Tactic.simpLemma| $i:ident)
  `(tactic| (try simp -implicitDefEqProofs only [$ids,*]))
local macro_rules | `(tactic| walk_at "go")=> `(tactic| (walk_at "ev"; repeat (rw [MF (by first | omega | assumption | decide)]; walk_at "ev")))
theorem c4(k:Nat)(a:List Int)(j:Nat):aE P (k+1) 4 [.lst (a.map .int),.int j]=some (.int (a.getD j 0)):=by
 refine run rfl rfl ?_;simp only[d4,entry];walk_at "ev"
 by_cases h:j<a.length
 .have b:(j:Int)<((a.map PV.int).length:Nat):=by rw[L9];omega
  have c:ci (a.map PV.int) (j:Int)=some (.int a[j]):=bC (by rw[MR,MN h];rfl);simp only[b,decide_true,PN,c];walk_at "ev";simp[h]
 .have b:¬(j:Int)<((a.map PV.int).length:Nat):=by rw[L9];omega
  simp only[b,Oj];walk_at "ev";simp[h]
theorem c5(k:Nat)(c j:Int)(d:0<=j)(e:j<=1000000):∃r:Int,0<=r/\r<2147483587/\aE P (k+1) 5 [.int c,.int j]=some (.int r):=by
 obtain⟨v,h,r,a,b,rfl⟩:∃v,aE P (k+1) 5 [.int c,.int j]=some v/\∃r:Int,0<=r/\r<2147483587/\v=.int r:=by refine wT rfl rfl ?_;simp only[d5,entry];walk_at "go";exact⟨_,rfl,_,Pb _ (by decide),O3 _ (by decide),rfl⟩
 exact⟨r,a,b,h⟩
section
open PySem.Spec PyProof.Rows
theorem KD:ck N47 ["levels","bits"] (aZ s47):=⟨rfl,rfl,rfl,by decide +kernel,rfl,by decide +kernel,by decide +kernel⟩
theorem zo(i:g 47=some Jo)(h:aE g (k+1) 47 c=some r):bw c=some r:=by
 unfold aE at h;rw[i]at h;simp only[NO]at h
 split at h
 .rename_i d
  have d:c.length=2:=d;obtain⟨a,b,rfl⟩:=Hx d
  .simp only[Jo,ze,zf,hZ,entry]at h
   have e:((List.map (λv=>TV.frz v (imm v)) [a,b]++List.replicate (9-[a,b].length) TV.un).take 2).map TV.valD=[a,b]:=rfl;rw[e]at h;cases f:bw [a,b]with
   |none=>rw[f]at h;cases h|some v=>rw[f]at h;cases h;rfl
 .cases h
theorem GH(h:bw a=some r):a.length=2:=by
 unfold bw at h
 split at h;rfl;cases h
abbrev jW1(H:Hp)(e:Addr)(a:List aX)(i m:Nat)(d:List V)(c:Hp):Prop:=m=a.length-i/\i<=a.length/\∃b,d=b.map V.ref/\uW H e b (a.take i) c
abbrev jW2(H:Hp)(h j f:Addr)(k:List Addr)(l:List aX)(B:List Int)(i:Nat)(m:L2.St)(G:Hp):Prop:=∃a b c d e g,m=[some (.ref h),some (.ref j),some (.ref f),a,b,c,d,e,g]/\uW H f k (wl l B i) G
abbrev jW3(H:Hp)(m c b:Addr)(f:List Addr)(n:List aX)(B:List Int)(i:Nat)(a l:Addr)(o:Obj)(ct k:aX)(j:Nat)(h:L2.St)(G:Hp):Prop:=∃d e g,h=[some (.ref m),some (.ref c),some (.ref b),some (.int (i:Nat)),some (.ref a),some (.ref l),d,e,g]/\G a=some (.frz o (.dK (bB ct)))/\uW H b f ((wl n B i).set (i+1) ((ct.take j).foldl (cx B) k)) (L2.upd G a (.dK (bB ct)))
abbrev jW4(H:Hp)(m e d:Addr)(f:List Addr)(n:List aX)(B:List Int)(i:Nat)(a k:Addr)(o:Obj)(ct:aX)(c b:Int)(h:aX)(l:Nat)(j:L2.St)(G:Hp):Prop:=∃g,j=[some (.ref m),some (.ref e),some (.ref d),some (.int (i:Nat)),some (.ref a),some (.ref k),some (.int c),some (.int b),g]/\G a=some (.frz o (.dK (bB ct)))/\uW H d f ((wl n B i).set (i+1) ((B.take l).foldl (bx c b) h)) (L2.upd G a (.dK (bB ct)))
theorem Ig{K:W.Frag}(hdi:mg "dict"=none)(hen:mg "enumerate"=none)(D:GD K mg "with_line" s47 ["levels","bits"] f fd)(p:Program)(w:World)(base:Heap)(k:Nat)(_:∀y g,F.lookup y=some g->∃b gd qs,mg y=some (.ref b)/\W.keepIn K (.ref b)=true/\Binds K gd qs []/\bv p w K mg base kd k b gd qs (yR K (aE P k g))):bv p w K mg base kd (k+1) f fd ["levels","bits"] (yR K (aE P (k+1) 47)):=by
 refine D.fn.ok KD (λvs H Q E h=> ?_) (λcdv A outer s H vs Q E hr h=> ?_)
 .obtain⟨pvs,r,h1,h2,_⟩:=h
  rw[<- h1.len];exact GH (zo rfl h2)
 obtain⟨pvs,r,h1,h2,q⟩:=h
 replace h2:=zo rfl h2
 unfold bw at h2
 split at h2
 case h_2=>cases h2
 rename_i ls bs;cases e1:rE ls with
 |none=>rw[e1]at h2;cases h2|some Ls=>
 cases e2:aS bs with
 |none=>rw[e1,e2]at h2;cases h2|some B=>
 rw[e1,e2]at h2;dsimp only[Option.bind]at h2
 split at h2
 case isFalse=>cases h2
 rename_i hz;cases h2;obtain⟨z1,z2,z3⟩:=hz;have z3:∀c∈Ls,c.length<=1000:=λc hc=>by simpa using MS.mp z3 c hc
 have hls:=rD e1;subst hls;obtain⟨u1,_,rfl,r1,h1⟩:=h1;obtain⟨u2,_,rfl,r2,h1⟩:=h1;obtain rfl:=h1;obtain⟨Lv,us,rfl,_,sqL,rl⟩:=Rp.lst.mp r1;obtain⟨Bt,bu,rfl,_,sqB,rb⟩:=Rp.lst.mp r2;rw[gi e2]at rb;have eb:=aI.ints.mp rb;subst eb;have lv:∀(i:Nat)(c:aX),Ls[i]? =some c->∃a,us[i]? =some (.ref a)/\H a=some (.dK (bB c)):=λi c hc=>by obtain⟨u,hu,ru⟩:=rl.at (i:=i) (x:=ga c) (by rw[MR,hc];rfl);obtain⟨a,rfl,ha⟩:=Go ru;exact⟨a,hu,be _ _ ha⟩
 have ulen:us.length=Ls.length:=by have:=rl.len;simpa using this.symm
 have nd:=KD.nd;have hu:=Bu hr;have hs:sizeLine=16777216:=M8
 refine⟨_,ak (d6 (i:=2) nd rfl (Or.inl rfl) (fR HZ (A2 (N' :=["level"]) (src:=[none]) rfl (gA (pv 0)) True.intro rfl (by decide +kernel) (by decide +kernel) rfl) (uz (aK ia ac))))
  (ak (d7 NS rfl (sM rfl hen (aK (pv 0) ac)) (lY rfl (cE (aq (i:=3) nd rfl (Or.inl rfl)) (cE (aq (i:=4) nd rfl (Or.inl rfl)) iZ))) (ak (d6 (i:=5) nd rfl (Or.inl rfl) (n8 fA (pv 2) (fR la (pv 3) dB) (λ_ _=>rfl))) (aw (Dj (d7 NS rfl (sZ (pv 4)) (lY rfl (cE (aq (i:=6) nd rfl (Or.inl rfl)) (cE (aq (i:=7) nd rfl (Or.inl rfl)) iZ))) (aw (d7 NS rfl (gA (pv 1)) (aq (i:=8) nd rfl (Or.inl rfl)) (aw (sC (iU wn (fR A8 (pv 6) (pv 8)) dB (vI _)) (aw (kl hu (pv 5) (fR F1 (pv 6) (pv 8)) (fR la (sN hu (pv 5) (fR F1 (pv 6) (pv 8)) dB ⟨rfl,rfl,rfl,rfl⟩) (pv 7)) rfl)) iV))))))))) (aw (ja (pv 2)))),?_⟩
 refine⟨_,rfl,Lv,rfl,⟨_,sqL⟩,λD0 hD0=> ?_⟩;refine⟨jW1 H D0 Ls,⟨Ls.length,by simp,Mk _,[],rfl,⟨aG hD0 _,hD0,aB,by simp,by simp,by simp,λq d c e=>by simp at e⟩⟩,?_⟩;rintro i m ys H' ⟨rfl,hi,ds,rfl,st⟩
 by_cases hlt:i<Ls.length
 .right
  have ec:Ls[i]? =some Ls[i]:=by simp[hlt]
  obtain⟨a,ua,ha⟩:=lv i _ ec;refine⟨⟨us,.ref a,st.1.seq sqL,ua⟩,λx H1 y=> ?_⟩;obtain⟨rfl,y⟩:=y;have ex:=y us (st.1.seq sqL);rw[ua]at ex;cases ex;intro C s2 H2 fp cl;refine⟨tP 0,Fq,_,aq (by simp) rfl (.inl rfl) (.inr rfl),lX,cu uG rfl hdi boot_dict (aK (pv 0) ac),?_⟩;refine⟨uL rfl,?_⟩;refine⟨_,rfl,a,_,rfl,.inl (st.1 _ _ ha),λpn hpn=> ?_⟩;have dl:ds.length=i:=by rw[st.2.2.2.2.2.1,Nh];omega
  refine⟨by rw[aA (aD st.2.2.1 hpn)];exact st.2.2.1,by rw[L9];omega,Ls.length-(i+1),by omega,rfl,hlt,ds++[pn],by rw[MX];rfl,?_⟩;have e:Ls.take (i+1)=Ls.take i++[Ls[i]]:=by rw[OQ,ec];rfl
  rw[e];exact st.push hpn
 .left
  have ei:i=Ls.length:=by omega
  subst ei;rw[Nf]at st;refine⟨⟨us,st.1.seq sqL,by omega⟩,?_⟩;intro p0 hp0;refine⟨by show 1<=sizeLine;decide,λl hl=> ?_⟩;have dl:ds.length=Ls.length:=st.2.2.2.2.2.1;have s1:=aG hp0 (.dK []);have s2:=aG hl (.lst [.ref p0]);refine⟨D0,l,ds.map V.ref,[.ref p0],rfl,rfl,s2 _ _ (s1 _ _ st.2.2.1),aB,by rw[L9,dl,hs];simp;omega,λAa hAa=> ?_⟩;have stA:uW H Aa (ds++[p0]) (wl Ls B 0) (L2.upd (L2.upd (L2.upd H' p0 (.dK [])) l (.lst [.ref p0])) Aa (.lst (ds.map V.ref++[.ref p0]))):=by
   have hDp:D0≠p0:=aD st.2.2.1 hp0;have hAl:Aa≠l:=λz=>by rw[z,aB]at hAa;cases hAa
   have hA1:L2.upd H' p0 (.dK []) Aa=none:=by rw[aA hAl]at hAa;exact hAa
   have hAp:Aa≠p0:=λz=>by rw[z,aB]at hA1;cases hA1
   have hA0:H' Aa=none:=by rw[aA hAp]at hA1;exact hA1
   have hDA:D0≠Aa:=aD st.2.2.1 hA0;obtain⟨g1,g2,g3,g4,g5,g6,g7⟩:=st.push (p:=p0) (c:=[]) hp0;have hlD:l≠D0:=λz=>by rw[z,aA hDp,st.2.2.1]at hl;cases hl
   have hlp:l≠p0:=λz=>by rw[z,aB]at hl;cases hl
   have inn:∀(qq:Nat)(d:Addr)(c:aX),(ds++[p0])[qq]? =some d->(Ls++[[]])[qq]? =some c->H d=none/\d≠Aa/\d≠l/\L2.upd H' p0 (.dK []) d=some (.dK (bB c)):=λqq d c w1 w2=>by obtain⟨m0,m1⟩:=g7 qq d c w1 w2;have dD:d≠D0:=λz=>g4 (z▸Ma w1);rw[aA dD]at m1;have m1:L2.upd H' p0 (.dK []) d=some (.dK (bB c)):=m1;exact⟨m0,(λz=>by rw[z,hA1]at m1;cases m1),(λz=>by rw[z,hl]at m1;cases m1),m1⟩
   refine⟨((st.1.trans s1).trans s2).trans (aG hAa _),st.1.free hA0,by rw[aB,MX];rfl,λz=> ?_,g5,g6,λqq d c w1 w2=> ?_⟩
   .obtain⟨qq,hqq,e⟩:=List.mem_iff_getElem.mp z
    exact(inn qq Aa ((Ls++[[]])[qq]'(by rw[<- g6];exact hqq)) (by rw[MN hqq,e]) (by simp[])).2.1 rfl
   .obtain⟨m0,m1,m2,m3⟩:=inn qq d c w1 w2
    exact⟨m0,by rw[aA m1,aA m2];exact m3⟩
  have sqB' :∀{G:Hp},aC H G->bQ K G Bt (B.map V.int):=λs=>s.seq sqB;refine⟨_,rfl,Lv,us,rfl,(stA.1).seq sqL,B5 (src:=λH xs=>bQ K H Lv xs) (jW2 H Lv Bt Aa (ds++[p0]) Ls B) ⟨_,_,_,_,_,_,rfl,stA⟩ (λi σ G _ ⟨_,_,_,_,_,_,_,st⟩=>st.1.seq sqL) ?_ ?_⟩
  .rintro i x pt σ G ex hpt ⟨a,b,c,d,e,g,rfl,st⟩
   have hi:i<us.length:=(MV.mp ex).1;have ec:Ls[i]? =some (Ls[i]'(by omega)):=by simp[show i<Ls.length by omega]
   obtain⟨lev,ua,hlev⟩:=lv i _ ec;rw[ex]at ua;cases ua;obtain⟨ct,hct⟩:∃ct,ct=Ls[i]'(by omega):=⟨_,rfl⟩;rw[<- hct]at ec hlev;have ctl:ct.length<=1000:=z3 ct (Ma ec);have wlen:=kr Ls B i;obtain⟨ab,hab⟩:∃ab,(ds++[p0])[i+1]? =some ab:=⟨(ds++[p0])[i+1]'(by rw[st.2.2.2.2.2.1,wlen];omega),by simp[]⟩;obtain⟨c0,hc0⟩:∃c0,(wl Ls B i)[i+1]? =some c0:=⟨(wl Ls B i)[i+1]'(by rw[wlen];omega),by simp[show i+1<(wl Ls B i).length by rw[wlen];omega]⟩;have st:=st.ext (aG hpt (.tup [.int (i:Nat),.ref lev]));refine⟨pt,_,rfl,bg.of aB,rfl,_,_,rfl,_,_,rfl,rfl,?_⟩;refine⟨_,rfl,_,rfl,_,_,rfl,rfl,Aa,_,_,.ref ab,rfl,rfl,bQ.of st.2.2.1,?_,?_⟩
   .have:=bC (xs:=(ds++[p0]).map V.ref) (j:=i+1) (v:=.ref ab) (by rw[MR,hab];rfl)
    exact this
   refine⟨_,rfl,lev,bB ct,rfl,st.1 _ _ hlev,λo nf=> ?_⟩;have abn:H ab=none:=(st.at hab hc0).1;have abl:ab≠lev:=λz=>by rw[z,hlev]at abn;cases abn
   obtain⟨G1,hG1⟩:∃G1,G1=L2.upd G pt (.tup [.int (i:Nat),.ref lev]):=⟨_,rfl⟩;rw[<- hG1]at st ⊢;have g1lev:G1 lev=some (.dK (bB ct)):=st.1 _ _ hlev;have ini:L2.upd (L2.upd G1 lev (.frz o (.dK (bB ct)))) lev (.dK (bB ct))=G1:=by
    rw[DH]
    funext bb
    by_cases hb:bb=lev
    .subst hb
     rw[aB,g1lev]
    .rw[aA hb]
   refine yz (jW3 H Lv Bt Aa (ds++[p0]) Ls B i lev ab o ct c0) ⟨_,_,_,rfl,aB,?_⟩ (λj σ G _ ⟨_,_,_,_,hf,_⟩=>hf) ?_ ?_
   .rw[ini]
    have e0:(wl Ls B i).set (i+1) c0=wl Ls B i:=by
     refine Pp λn=> ?_;rw[PB]
     split
     .rename_i en
      subst en;rw[hc0,MF (by rw[wlen];omega)]
     .rfl
    rw[List.take_zero,List.foldl_nil,e0];exact st
   .rintro j kk xx pp σ G2 ekv hpp ⟨d,e,g,rfl,hf,st2⟩
    obtain⟨tk,cn,etc,rfl,rfl⟩:=Eo ekv;have hj:j<ct.length:=(MV.mp etc).1;have ppl:pp≠lev:=λz=>by rw[z,hf]at hpp;cases hpp
    refine⟨pp,_,rfl,bg.of aB,rfl,_,_,rfl,_,_,rfl,rfl,?_⟩;have st3:=st2.ext (yV (o:=.tup [kV (Sum.inl tk),.int cn]) (u:=.dK (bB ct)) hpp ppl);obtain⟨cj,hcj⟩:∃cj,cj=(ct.take j).foldl (cx B) c0:=⟨_,rfl⟩;rw[<- hcj]at st3;have cjl:cj.length<=1000+1000*100+1000*100:=by
     have h0:c0.length<=1000:=by
      have:=Fm Ls B i (i+1) (by omega);rw[hc0]at this
      rcases Mi.mp (Ma this.symm)with hm|hm
      .exact z3 c0 hm
      .have:c0=[]:=by simpa using hm
       rw[this];simp
     have h1:=oO B (ct.take j) c0;have h2:(ct.take j).length*B.length<=1000*100:=Nat.mul_le_mul (by rw[Nh];omega) z2;rw[hcj];omega
    refine⟨_,rfl,Bt,rfl,⟨_,wO (sqB' st3.1)⟩,tS (xs:=B.map V.int) (jW4 H Lv Bt Aa (ds++[p0]) Ls B i lev ab o ct tk cn cj) ⟨_,rfl,by rw[aA (NZ ppl)];exact hf,by rw[List.take_zero,List.foldl_nil];exact st3⟩ (λl σ G _ ⟨_,_,_,st⟩=>wO (sqB' st.1)) ?_ ?_⟩
    .rintro l xb σ G3 exb ⟨g,rfl,hf3,st4⟩
     obtain⟨b,eb,rfl⟩:∃b,B[l]? =some b/\xb=.int b:=by
      rw[MR]at exb;cases e:B[l]? with
      |none=>rw[e]at exb;cases exb|some b=>rw[e]at exb;exact⟨b,rfl,(MZ exb).symm⟩
     have hl:l<B.length:=(MV.mp eb).1;obtain⟨cur,hcur⟩:∃cur,cur=(B.take l).foldl (bx tk cn) cj:=⟨_,rfl⟩;have e7:(B.take (l+1)).foldl (bx tk cn) cj=bx tk cn cur b:=by rw[OQ,eb,Ny,<-hcur];rfl
     rw[<- hcur]at st4;have curl:cur.length<sizeLine:=by have:=jk tk cn (B.take l) cj;rw[<- hcur,Nh]at this;rw[hs];omega
     have hcs:((wl Ls B i).set (i+1) cur)[i+1]? =some cur:=by rw[Nl (by rw[wlen];omega)]
     obtain⟨_,hab1⟩:=st4.at hab hcs;rw[aA abl]at hab1;refine⟨_,rfl,_,rfl,_,_,rfl,rfl,rfl,_,rfl,EU (λhc=> ?_) (λhc=> ?_)⟩
     .have hc:Builtin.bitAnd tk b=0:=V.int.inj (Me hc)
      obtain⟨old,hold⟩:∃old,old=(az cur (Builtin.bitOr tk b)).getD 0:=⟨_,rfl⟩;refine⟨_,rfl,ab,rfl,.inl ⟨_,.inl hab1⟩,_,rfl,_,rfl,_,_,rfl,rfl,_,fJ.k (k:=Sum.inl (Builtin.bitOr tk b)) hab1,_,rfl,old,cn,?_,rfl,?_⟩
      .rw[qO,hold]
       cases az cur (Builtin.bitOr tk b)<;>rfl
      refine⟨_,rfl,_,rfl,_,rfl,_,_,rfl,rfl,ab,_,rfl,uS.k (k:=Sum.inl (Builtin.bitOr tk b)) hab1 (by rw[tq];exact curl),_,rfl,?_,?_⟩
      .rw[aA (NZ abl)]
       exact hf3
      .have e8:bx tk cn cur b=cZ cur (Builtin.bitOr tk b) (old+cn):=by
        unfold bx zS;rw[MF hc,hold]
       rw[e7,e8,qN,zu abl];have:=st4.put (c' :=cZ cur (Builtin.bitOr tk b) (old+cn)) hab;rw[List.set_set]at this;exact this
     .have hc:¬Builtin.bitAnd tk b=0:=λz=>hc (MO (Mw V.int z))
      refine⟨_,rfl,hf3,?_⟩;have e8:bx tk cn cur b=cur:=by unfold bx;rw[ME hc]
      rw[e7,e8];exact st4
    .rintro σ G3 ⟨g,rfl,hf3,st4⟩
     refine⟨_,_,_,rfl,hf3,?_⟩;have e5:(ct.take (j+1)).foldl (cx B) c0=((B.take (B.map V.int).length).foldl (bx tk cn) cj):=by rw[OQ,etc,Ny,<-hcj,L9,Nf];rfl
     rw[e5];exact st4
   .rintro σ G2 ⟨d,e,g,rfl,hf,st2⟩
    refine⟨lev,o,bB ct,hf,nf,_,_,_,_,_,_,rfl,?_⟩;have e6:(wl Ls B i).set (i+1) ((ct.take (bB ct).length).foldl (cx B) c0)=wl Ls B (i+1):=by rw[tq,Nf,wl,ML,hc0,ML,ec];rfl
    rw[<- e6];exact st2
  .rintro σ G ⟨a,b,c,d,e,g,rfl,st⟩
   refine⟨_,rfl,?_⟩;refine q _ _ st.1 (Rp.lst.mpr ⟨Aa,_,rfl,λ_=>⟨st.2.1,st.2.2.1⟩,bQ.of st.2.2.1,?_⟩);have eL:us.length=Ls.length:=ulen;rw[eL]at st;refine rX st.2.2.2.2.2.1 λqq d' c' w1 w2=> ?_;obtain⟨m0,m1⟩:=st.at w1 w2;refine⟨m0,?_⟩;unfold del;rw[ME (λz:d' =Aa=>st.2.2.2.1 (z▸Ma w1))];exact m1
end
noncomputable def gR(a:List Nat)(i:Nat):List Int:=((List.range i).filter λc=>a.getD c 0==120).map λc=>((2^c:Nat):Int)
noncomputable def mh(z:Str):List Int:=gR z.cps.toList z.length
set_option tactic.hygienic false
theorem vt(a:List Nat)(i:Nat):gR a (i+1)=gR a i++(if a.getD i 0==120 then[((2^i:Nat):Int)]else[]):=by
 unfold gR;rw[OO,OG,MX];cases h:a.getD i 0==120
 .simp only[Ni,List.filter_nil,h]
  rfl
 .simp only[Ni,List.filter_nil,h]
  rfl
theorem om(a:List Nat)(i:Nat):(gR a i).length<=i:=by unfold gR;rw[L9];exact Mq (Mu _ _) (by rw[M3];exact MJ _)
theorem vv(h:i<=8):mx (gR b i):=λb hb=>by unfold gR at hb;obtain⟨c,a,rfl⟩:=MG.mp hb;have:=Mn.mp (Mh.mp a).1;exact⟨c,rfl,by omega⟩
theorem c46(k:Nat)(z:Str)(o:z.length<=8):aE P (k+1) 46 [.str z]=some (.lst ((mh z).map .int)):=by
 refine cD rfl rfl ?_;simp only[d46,entry];walk_at "go";refine cV (xs:=signs z) (n:=true) ?_ (λi g=>∃a,g=[.frz (.str z) true,.own ((gR z.cps.toList i).map .int) true,.frz (.int ((2^i:Nat):Int)) true,a]) ⟨_,rfl⟩ ?_ ?_
 .walk_at "ev"
 .rintro i y g b ⟨a,rfl⟩
  have p:i<z.length:=by have:=(MV.mp b).1;rw[cJ]at this;exact this
  obtain⟨c,m,rfl⟩:∃c,z.cps.toList[i]? =some c/\y=.str ⟨#[c]⟩:=by
   unfold signs at b;rw[MR]at b;cases e:z.cps.toList[i]? with
   |none=>rw[e]at b;cases b|some c=>rw[e]at b;exact⟨c,rfl,(MZ b).symm⟩
  have l:z.cps.toList.getD i 0=c:=by rw[ML,m];rfl
  refine⟨_,rfl,?_⟩;have f:=vt z.cps.toList i;rw[l]at f;have d:((gR z.cps.toList i).map PV.int).length<LN:=by rw[L9];have:=om z.cps.toList i;show _<16777216;omega
  have h:((2^i:Nat):Int)*2=((2^(i+1):Nat):Int):=by rw[Nat.pow_succ];push_cast;rfl
  walk_at "ev";rw[gq];cases j:c==120 with
  |true=>rw[j]at f;walk_at "ev";rw[fP rfl d];walk_at "ev";exact⟨_,by rw[f,h,MX];rfl⟩
  |false=>rw[j]at f;walk_at "ev";exact⟨.frz (.str ⟨#[c]⟩) true,by rw[f,h];simp⟩
 .rintro g ⟨a,rfl⟩
  rw[cJ];walk_at "ev";rfl
theorem c47(k:Nat)(a:List aX)(B:List Int)(b:a.length<=100)(d:B.length<=100)(f:∀c∈a,c.length<=1000):aE P (k+1) 47 [.lst (a.map ga),.lst (B.map .int)]=some (.lst ((wl a B a.length).map ga)):=by
 refine run rfl rfl ?_;have e:bw [.lst (a.map ga),.lst (B.map .int)]=some (.lst ((wl a B a.length).map ga)):=by unfold bw;dsimp only;rw[wH,fB];simp only[NO];rw[MF ⟨b,d,by rw[MS];intro c h;exact MO (f c h)⟩]
 show eB (bo (aE P k) 1000000 Jo.body (entry Jo [.lst (a.map ga),.lst (B.map .int)]))=_;simp only[Jo,ze,zf,hZ,entry];have g:((List.map (λv=>TV.frz v (imm v)) [PV.lst (a.map ga),.lst (B.map .int)]++List.replicate (9-[PV.lst (a.map ga),.lst (B.map .int)].length) TV.un).take 2).map TV.valD=[.lst (a.map ga),.lst (B.map .int)]:=rfl;rw[g,e];rfl
noncomputable def fK:List Str->List aX
 |[]=>[[(0,1)]]|z::rs=>wl (fK rs) (mh z) (fK rs).length
noncomputable def cB:List Str->List PV
 |[]=>[.lst ((fK []).map ga)]|z::rs=>.lst ((fK (z::rs)).map ga)::cB rs
theorem yL(a:List Str):∃r,cB a=.lst ((fK a).map ga)::r:=by
 cases a with
 |nil=>exact⟨[],rfl⟩|cons z a=>exact⟨_,rfl⟩
theorem lB:∀a:List Str,(cB a).length=a.length+1
 |[]=>rfl|z::a=>by rw[cB,MK,lB a,MK]
theorem jV:∀{rs:List Str},(∀z∈rs,z.length<=8)->(fK rs).length=rs.length+1/\∀c∈fK rs,bN c
 |[],_=>⟨rfl,λc hc=>by rw[Mj.mp hc];exact tK⟩
 |z::rs,h=>by obtain⟨a,b⟩:=jV (rs:=rs) λy hy=>h y (MA _ hy);refine⟨?_,o4 (vv (h z MB)) b _⟩;show(wl _ _ _).length=_;rw[kr,a];rfl
theorem JL:eX .Add (.own a n) (.frz (.lst b) m)=sX (a++b) (n&&m):=rfl
theorem Ld(k:Nat)(b:List Str)(E:b.length<=8)(f:∀z∈b,z.length<=8):aE P (k+2) 163 [.tup (b.map .str)]=some (.lst (cB b)):=by
 refine cD rfl rfl ?_;have D:=bG b;simp only[LP,entry];walk_at "ev";rw[D];refine cV (xs:=(b.map PV.str).reverse) (n:=true) ?_ (λi g=>∃a,g=[.frz (.tup (b.map .str)) true,.frz (.lst (cB (b.drop (b.length-i)))) true,a]) ⟨.un,?_⟩ ?_ ?_
 .walk_at "ev"
 .rw[Nat.sub_zero,PM]
  rfl
 .rintro i y g d ⟨a,rfl⟩
  have C:i<b.length:=by have:=(MV.mp d).1;rw[Ot,L9]at this;exact this
  obtain⟨z,l,rfl⟩:∃z,b[b.length-1-i]? =some z/\y=.str z:=by
   rw[List.getElem?_reverse (by rw[L9];exact C),L9,MR]at d;cases e:b[b.length-1-i]? with
   |none=>rw[e]at d;cases d|some z=>rw[e]at d;exact⟨z,rfl,(MZ d).symm⟩
  have m:=Ma l;obtain⟨j,w⟩:∃j,j=b.length-1-i:=⟨_,rfl⟩;rw[<- w]at l;have x:b.drop j=z::b.drop (j+1):=by obtain⟨t,u⟩:=MV.mp l;rw[Np t,u]
  have p:b.length-i=j+1:=by omega
  have A:b.length-(i+1)=j:=by omega
  rw[p];obtain⟨r,h⟩:=yL (b.drop (j+1));obtain⟨o,q⟩:=jV (rs:=b.drop (j+1)) λy d=>f y (Nv d);have s:(fK (b.drop (j+1))).length<=9:=by rw[o,N7];omega
  have v:(mh z).length<=100:=by have:=om z.cps.toList z.length;have:=f z m;unfold mh;omega
  have B:(cB (b.drop (j+1))).length<=9:=by rw[lB,N7];omega
  refine⟨_,rfl,?_⟩;walk_at "ev";rw[h];walk_at "ev";rw[c46 k z (f z m)];walk_at "ev";rw[c47 k _ _ (by omega) v (λc hc=>Mq (q c hc).len (by decide))];walk_at "ev";rw[JL];walk_at "ev";rw[h,MK]at B;rw[MF (by omega)];walk_at "ev";refine⟨.frz (.str z) true,?_⟩;rw[A,x,cB,h];rfl
 .rintro g ⟨a,rfl⟩
  rw[Ot,L9,Nat.sub_self,List.drop_zero];walk_at "ev"
theorem rL:∀a:List Str,fK a=wK (a.map aF)
 |[]=>rfl|z::a=>by show wl (fK a) (mh z) (fK a).length=wl (wK (a.map aF)) (kN (aF z)) (wK (a.map aF)).length;rw[rL a];rfl
theorem Lb(k:Nat)(b:List (Int×Int))(c:b.length<=1000):aE P (k+1) 165 [.tup (b.map aJ)]=some (.lst ((b.map (·.2)).map .int)):=by refine cD rfl rfl ?_;simp only[LM,entry];have a:imms (b.map aJ)=true:=av b;walk_at "ev";rw[a];walk_at "ev";rw[MF (by rw[L9];omega)];rw[fC (h:=aJ) (g:=λq:Int×Int=>PV.int q.2) (λq hq=>rfl)];walk_at "ev";rw[Mg];rfl
theorem Lc(k:Nat)(b:List (Int×Int))(hb:∀x∈b,0<=x.1):aE P (k+1) 164 [.tup (b.map aJ)]=some (.int (bF b:Nat)):=by
 refine cD rfl rfl ?_;simp only[LO,entry];have i2:imms (b.map aJ)=true:=av b;walk_at "ev";rw[i2]
 rcases List.eq_nil_or_concat b with rfl|⟨b',c,rfl⟩
 .exact⟨_,rfl,rfl⟩
 .rw[List.concat_eq_append]at hb ⊢
  have e:(b' ++[c]).map aJ=b'.map aJ++[aJ c]:=by rw[MX];rfl
  have h0:=hb c (by simp);rw[e,show decide ((0:Int)<((b'.map aJ++[aJ c]).length:Int))=true from MO (by rw[MT,Nq];omega)];walk_at "ev";rw[Cp];have:bF (b' ++[c])=(c.1+1).toNat:=by unfold bF;rw[List.getLast?_concat]
  rw[this,show(((c.1+1).toNat:Nat):Int)=c.1+1 by omega];exact⟨_,rfl,rfl⟩
theorem HL:∀T<256,∀c<8,Nat.testBit T c=false->T+2^c=T ||| 2^c:=by decide +kernel
noncomputable def jI:List Nat->Nat
 |[]=>0|c::l=>jI l ||| 2^c
theorem uM:∀{l:List Nat},(∀c∈l,c<8)->jI l<256
 |[],_=>by decide|c::l,h=>by have a:=uM (l:=l) λd hd=>h d (MA _ hd);have b:2^c<2^8:=Nat.pow_lt_pow_right (by decide) (h c MB);exact Nat.or_lt_two_pow (n:=8) a b
theorem ju{d:Nat}:∀{l:List Nat},(jI l).testBit d=l.contains d
 |[]=>by show Nat.testBit 0 d=_;rw[Nat.zero_testBit];rfl
 |c::l=>by
  show Nat.testBit (jI l ||| 2^c) d=_;rw[Nat.testBit_or,ju,OH,Nat.testBit_two_pow,Bool.or_comm]
  congr 1
  by_cases e:c=d;subst e;simp
  .have:¬d=c:=λz=>e z.symm
   simp[e,this]
theorem oj:∀{l:List Nat},(∀c∈l,c<8)->l.Nodup->(l.map λc=>(1:Int)*2^c).sum=((jI l:Nat):Int)
 |[],_,_=>rfl|c::l,h,nd=>by
  obtain⟨n1,n2⟩:=Mb.mp nd;have hl:∀d∈l,d<8:=λd hd=>h d (MA _ hd);rw[MM,List.sum_cons,oj hl n2];show _=((jI l ||| 2^c:Nat):Int);rw[<- HL _ (uM hl) c (h c MB) (by rw[ju,<-OC,Mc];exact n1)]
  push_cast
  omega
theorem rT(T:Nat):∀t:aX,∃a,nB (T:Int) (t.map λp=>Sum.inl p.1) (t.map λp=>.int p.2)=some a/\a.sum=dJ (tR T) t
 |[]=>⟨[],rfl,rfl⟩|p::t=>by
  obtain⟨a,b,d⟩:=rT T t;refine⟨if Builtin.bitAnd p.1 (T:Int)=0 then p.2::a else a,?_,?_⟩
  .show(nB (T:Int) (t.map λp=>Sum.inl p.1) (t.map λp=>.int p.2)).map _=_
   rw[b];rfl
  .show _=p.2*tR T p.1+dJ (tR T) t
   rw[<- d];unfold tR
   by_cases c:Builtin.bitAnd p.1 (T:Int)=0;rw[MF c,MF c,List.sum_cons,Int.mul_one];rw[ME c,ME c,Int.mul_zero,Om]
theorem nY:∀(a:List Str)(j:Nat),j<=a.length->(cB a)[j]? =some (.lst ((fK (a.drop j)).map ga))
 |[],0,_=>rfl|z::a,0,_=>rfl|[],j+1,h=>by cases h|z::a,j+1,h=>by rw[cB,Nx,List.drop_succ_cons];exact nY a j (by rw[MK]at h;omega)
theorem mR{rows:List Str}(b:∀z∈rows,z.length<=8):dL (rows.map aF):=λcs h c hc=>by obtain⟨z,a,rfl⟩:=MG.mp h;have d:=Mn.mp (Mh.mp hc).1;have e:=b z a;omega
theorem kH:∀a:List Int,aS (a.map PV.int)=some a
 |[]=>rfl|n::a=>by show(aS (a.map PV.int)).map _=_;rw[kH a];rfl
set_option tactic.hygienic true
structure L4(n:Nat)(b:List (Int×Int)):Prop where
 row:∀x∈b,0<=x.1/\x.1<n
 col:∀x∈b,0<=x.2/\x.2<8
 nod:(b.map (·.2)).Nodup
set_option tactic.hygienic false
theorem L4.cols(h:L4 n b):(∀c∈ay b,c<8)/\(ay b).Nodup/\(b.map (·.2))=(ay b).map λc:Nat=>(c:Int):=by
 have e:(b.map (·.2))=(ay b).map λc:Nat=>(c:Int):=by unfold ay;rw[Mg];refine M7 λx a=> ?_;have:=h.col x a;show x.2=((x.2.toNat:Nat):Int);omega
 refine⟨λc hc=> ?_,?_,e⟩
 .obtain⟨x,a,rfl⟩:=MG.mp hc
  have:=h.col x a;omega
 .have:=h.nod
  rw[e]at this;exact List.Pairwise.of_map _ (λa b h e=>h (by rw[e])) this
theorem Ab(h:L4 n b):bF b<=n:=by
 unfold bF;cases e:b.getLast? with
 |none=>exact Mk _|some c=>have:=h.row c (List.mem_of_getLast? e);show(c.1+1).toNat<=n;omega
theorem pB{a:List Int}:my .sum [.own (a.map PV.int) n]=some (sc (.int a.sum)):=by show(aS (a.map PV.int)).map _=_;rw[kH];rfl
theorem DV(c:Nat)(h:c<8):(eX .LShift (.frz (.int 1) true) (.frz ((PV.int∘λc:Nat=>(c:Int)) c) true)).bind (λr=>Option.map some r.keep)=some (some ((PV.int∘λc:Nat=>(1:Int)*2^c) c,true)):=by show(if(0:Int)<=(c:Int)/\(c:Int)<=1000000/\(1:Int).natAbs<2^64 then some (sc (.int (1*2^(c:Int).toNat)))else none).bind (λr=>Option.map some r.keep)=_;rw[MF ⟨by omega,by omega,by decide⟩];rfl
theorem c166(k:Nat)(a:List Str)(b:List (Int×Int))(e:Nat)(H:a.length<=8)(n:∀z∈a,z.length<=8)(o:L4 a.length b)(E:b.length<=1000):
  aE P (k+2) 166 [.lst (cB a),.tup (b.map aJ),.int e]=some (.int (nC (a.map aF) e b)):=by
 refine cD rfl rfl ?_;simp only[LL,entry];have B:imms (b.map aJ)=true:=av b;obtain⟨G,A⟩:=jV (rs:=a.drop (bF b)) λy hy=>n y (Nv hy);have C:=Ab o;obtain⟨q,w,u⟩:=o.cols;have j:nC (a.map aF) e b=if b.length<=e then cnt ((a.drop (bF b)).map aF) (ay b) (e-b.length)else 0:=by unfold nC;rw[Ps]
 walk_at "ev";rw[B,Lc k b λx hx=>(o.row x hx).1];walk_at "ev";rw[bC (nY a _ C)];walk_at "ev";rw[L9,L9]
 by_cases s:b.length<=e
 .rw[MF s]at j
  have D:((e:Int)-(b.length:Int))=((e-b.length:Nat):Int):=by omega
  rw[D,show decide ((0:Int)<=((e-b.length:Nat):Int))=true from MO (by omega)];walk_at "ev"
  by_cases v:e-b.length<(fK (a.drop (bF b))).length
  .rw[show decide (((e-b.length:Nat):Int)<((fK (a.drop (bF b))).length:Int))=true from MO (by omega)]
   walk_at "ev";rw[Lb k b E];walk_at "ev";rw[MF (by rw[L9,L9];omega),u,Mg];rw[fC (h:=PV.int∘λc:Nat=>(c:Int)) (g:=PV.int∘λc:Nat=>(1:Int)*2^c) (λc hc=>DV c (q c hc)),<-Mg];walk_at "ev";rw[pB,oj q w];walk_at "ev";obtain⟨i,f⟩:∃i,(fK (a.drop (bF b)))[e-b.length]? =some i:=⟨_,MN v⟩;rw[bC (show((fK (a.drop (bF b))).map ga)[e-b.length]? =some (ga i)by rw[MR,f];rfl)];walk_at "ev";obtain⟨I,l,m⟩:=rT (jI (ay b)) i;have F:=(A i (Ma f)).len;unfold ga;rw[IA,MF (by rw[L9];show i.length<=16777216;omega),l];walk_at "ev";rw[pB,m];walk_at "ev";have t:=wJ (rows:=(a.drop (bF b)).map aF) (mR λy hy=>n y (Nv hy)) (jI (ay b)) (e-b.length);rw[<- rL,ML,f]at t;rw[j,show dJ (tR (jI (ay b))) i=_ from t];refine Mw (λz=>some (PV.int z)) (cM _ _ λr hr d hd=> ?_);have p:=mR (rows:=a.drop (bF b)) (λy hy=>n y (Nv hy)) r hr d hd;rw[gF p,ju]
  .rw[show decide (((e-b.length:Nat):Int)<((fK (a.drop (bF b))).length:Int))=false from MU (by omega)]
   walk_at "ev";rw[j,ff _ _ _ (by rw[L9];omega)]
 .rw[ME s]at j
  rw[show decide ((0:Int)<=(e:Int)-(b.length:Int))=false from MU (by omega)];walk_at "ev";rw[j]
noncomputable def xj(i j:Nat):PV:=.tup [.int (i:Nat),.int (j:Nat)]
noncomputable def iO(a:List Str)(i j:Nat):List PV:=((List.range j).filter λc=>cd a i c==120).map λc=>xj i c
noncomputable def gv(a:List Str)(w i:Nat):List PV:=(List.range i).flatMap λr=>iO a r w
theorem nu(a:List Str)(i j:Nat):iO a i (j+1)=iO a i j++(if cd a i j==120 then[xj i j]else[]):=by unfold iO;rw[OO,OG,MX];cases h:cd a i j==120<;>simp[h]
theorem jy(a:List Str)(w i:Nat):gv a w (i+1)=gv a w i++iO a i w:=by unfold gv;rw[OO,List.flatMap_append];simp
theorem lM(a:List Str)(i j:Nat):(iO a i j).length<=j:=by unfold iO;rw[L9];exact Mq (Mu _ _) (by rw[M3];exact MJ _)
theorem jO(a:List Str)(w:Nat):∀i,(gv a w i).length<=i*w
 |0=>by simp[gv]|i+1=>by rw[jy,MT,Nat.succ_mul];have:=jO a w i;have:=lM a i w;omega
theorem o6{a:List Str}{i:Nat}(h:a[i]? =some z):ci (a.map PV.str) (i:Int)=some (.str z):=bC (by rw[MR,h];rfl)
theorem Gp{a:List Str}{i:Nat}(b:(a.map PV.str)[i]? =some x):∃z,a[i]? =some z/\z∈a/\x=.str z:=by
 rw[MR]at b;cases e:a[i]? with
 |none=>rw[e]at b;cases b|some z=>rw[e]at b;exact⟨z,rfl,Ma e,(MZ b).symm⟩
theorem c3(k:Nat)(e:List Str)(w:Nat)(v:Wd e w)(G:e.length<=8)(A:w<=8):aE P (k+1) 3 [.tup (e.map .str)]=some (.lst (gv e w e.length)):=by
 refine cD rfl rfl ?_;have q:=bG e;simp only[d3,entry];walk_at "go";rw[q];refine cV (xs:=List.zipWith fS (List.range (e.map PV.str).length) (e.map PV.str)) (n:=true) ?_ (λi h=>∃a b c d,h=[.frz (.tup (e.map .str)) true,.own (gv e w i) true,a,b,c,d]) ⟨_,_,_,_,rfl⟩ ?_ ?_
 .walk_at "ev"
  rfl
 .rintro i y h r ⟨a,b,c,d,rfl⟩
  obtain⟨y,g,rfl⟩:=xU r;obtain⟨z,u,C,rfl⟩:=Gp g;refine⟨_,rfl,?_⟩;have D:i<e.length:=(MV.mp u).1;have l:z.length=w:=v z C;walk_at "ev";have o:(signs z).length=w:=by rw[cJ];exact l
  refine cV (xs:=List.zipWith fS (List.range (signs z).length) (signs z)) (n:=true) ?_ (λj h=>∃c d,h=[.frz (.tup (e.map .str)) true,.own (gv e w i++iO e i j) true,.frz (.int i) true,.frz (.str z) true,c,d]) ⟨c,d,by simp[iO,mD,oK,B2,xQ]⟩ ?_ ?_
  .walk_at "ev"
   simp only[oS,ON];rw[o,l]
  .rintro j y h r ⟨c,d,rfl⟩
   obtain⟨y,f,rfl⟩:=xU r;have x:j<w:=by have:=(MV.mp f).1;omega
   obtain⟨J,t,B,F⟩:=Cc v D x;rw[u]at t;cases t;have g:(signs z)[j]? =some (.str ⟨#[cd e i j]⟩):=by unfold signs;rw[MR,B];rfl
   rw[g]at f;cases f;refine⟨_,rfl,?_⟩;walk_at "ev";rw[gq];have m:(gv e w i++iO e i j).length<LN:=by rw[MT];have I:=jO e w i;have H:=lM e i j;have E:i*w<=8*8:=Nat.mul_le_mul (by omega) A;show _<16777216;omega
   have p:=nu e i j;cases s:cd e i j==120 with
   |true=>rw[s]at p;walk_at "go";rw[fP rfl m];walk_at "ev";exact⟨.frz (.int j) true,.frz (.str ⟨#[cd e i j]⟩) true,by rw[p];simp[xj]⟩
   |false=>rw[s]at p;walk_at "ev";exact⟨.frz (.int j) true,.frz (.str ⟨#[cd e i j]⟩) true,by rw[p];simp⟩
  .rintro h ⟨c,d,rfl⟩
   rw[tj,o];walk_at "ev";exact⟨_,_,_,_,by rw[jy]⟩
 .rintro h ⟨a,b,c,d,rfl⟩
  rw[tj,L9];walk_at "ev"
noncomputable def BG:PV->Bool
 | .int _=>true|_=>false
noncomputable def C2:PV->Bool
 | .dT _ _=>false|_=>true
noncomputable def kn3:PV->Bool
 | .dT _ _=>false| .tup a=>a.all C2|_=>true
theorem c24(k:Nat)(v:PV)(h:C2 v=true):aE P (k+1) 24 [v]=some (.bl (BG v)):=by refine run rfl rfl ?_;simp only[d24,entry];cases v<;>first|(cases h;done)|(walk_at "ev";rfl)
noncomputable def bT(a:List Str)(w:Nat)(v:PV):Bool:=match iX v with
 |some q=>decide (0<=q.1/\q.1<a.length/\0<=q.2/\q.2<w/\cd a q.1.toNat q.2.toNat=120)|none=>false
theorem ma(h:iX v=none):bT a w v=false:=by unfold bT;rw[h]
theorem sI(h:(BG a&&BG b)=false):iX (.tup [a,b])=none:=by cases a<;>cases b<;>first|rfl|(cases h;done)
theorem As(h:a.length≠2):iX (.tup a)=none:=by
 cases e:iX (.tup a)with
 |none=>rfl|some q=>
  have:=pQ e;unfold aJ at this
  injection this with e1
  subst e1;exact absurd rfl h
theorem c25(k:Nat)(d:List Str)(w:Nat)(v:PV)(y:Wd d w)(t:d≠[])(N:d.length<=8)(L:w<=8)(g:kn3 v=true):aE P (k+2) 25 [.tup (d.map .str),v]=some (.bl (bT d w v)):=by
 refine run rfl rfl ?_;simp only[d25,entry];cases v with
 |dT _ _=>cases g|tup A=>
  by_cases x:A.length=2
  .obtain⟨a,b,rfl⟩:=uZ x
   have D:C2 a=true:=by
    have:(C2 a&&(C2 b&&true))=true:=g
    revert this;cases C2 a<;>simp
   have H:C2 b=true:=by
    have:(C2 a&&(C2 b&&true))=true:=g
    revert this;cases C2 b<;>simp
   have J:=c24 k a D;have I:=c24 k b H;have r:(!decide (((2:Nat):Int)=2))=false:=by decide
   walk_at "go";rw[r];walk_at "go";rw[J,I];cases h:BG a with
   |false=>walk_at "go";rw[ma (sI (by rw[h];rfl))]
   |true=>
    cases s:BG b with
    |false=>walk_at "go";rw[ma (sI (by rw[h,s];rfl))]
    |true=>
     obtain⟨i,rfl⟩:∃i,a=.int i:=by cases a<;>first|exact⟨_,rfl⟩|cases h
     obtain⟨j,rfl⟩:∃j,b=.int j:=by cases b<;>first|exact⟨_,rfl⟩|cases s
     walk_at "go";have K:bT d w (.tup [.int i,.int j])=decide (0<=i/\i<d.length/\0<=j/\j<w/\cd d i.toNat j.toNat=120):=rfl;rw[K];obtain⟨e,f⟩:∃z,d[0]? =some z:=⟨d[0]'(by cases d with|nil=>exact absurd rfl t|cons _ _=>simp),by cases d with|nil=>exact absurd rfl t|cons _ _=>rfl⟩;have F:ci (d.map PV.str) 0=some (.str e):=o6 f;have u:e.length=w:=y e (Ma f);rw[L9,F]
     by_cases o:0<=i
     .rw[MO o]
      by_cases q:i<d.length
      .rw[MO q]
       walk_at "go"
       by_cases l:0<=j
       .rw[MO l]
        walk_at "go";have B:fV (.str e)=some w:=by show(if e.length<=LN then some e.length else none)=some w;rw[MF (by rw[u];show w<=16777216;omega),u]
        rw[B];walk_at "go"
        by_cases p:j<w
        .rw[MO p]
         walk_at "go";obtain⟨m,rfl⟩:∃m:Nat,i=m:=⟨i.toNat,by omega⟩;obtain⟨n,rfl⟩:∃n:Nat,j=n:=⟨j.toNat,by omega⟩;have G:m<d.length:=by omega
         obtain⟨z,C,E,M⟩:=Cc y G (show n<w by omega);rw[o6 C];walk_at "go";rw[bC E];walk_at "go";rw[gq];walk_at "go"
         congr 2
         rw[Ms,OT,Mm];simp only[Na]
         constructor
         .intro c
          exact⟨by omega,by omega,by omega,by omega,c⟩
         .intro c
          exact c.2.2.2.2
        .rw[MU p]
         walk_at "go";rw[MU (by omega)]
       .rw[MU l]
        walk_at "go";rw[MU (by omega)]
      .rw[MU q]
       walk_at "go";rw[MU (by omega)]
     .rw[MU o]
      walk_at "go";rw[MU (by omega)]
  .rw[ma (As x)]
   have r:(!decide ((A.length:Int)=2))=true:=by rw[NJ,Nw];omega
   walk_at "go"
 |_=>walk_at "ev";rfl
theorem oV{f:PV->Option (Option (PV×Bool))}{g:PV->PV}:∀{a:List PV},(∀x∈a,f x=some (some (g x,true)))->cG f a=some (a.map g,true)
 |[],_=>rfl|x::a,h=>by rw[cG,h x MB,oV λy hy=>h y (MA _ hy)];rfl
theorem oU{a:Type}{f:PV->Option (Option (PV×Bool))}{F:a->PV}{G:a->PV}{l:List a}(h:∀x∈l,f (F x)=some (some (G x,true))):cG f (l.map F)=some (l.map G,true):=by
 induction l with
 |nil=>rfl|cons x l b=>rw[MM,cG,h x MB,b λy hy=>h y (MA _ hy)];rfl
set_option tactic.hygienic true
structure Pl(rows:List Str)(w:Nat)(qs:List (Int×Int)):Prop where
 cell:∀q∈qs,bT rows w (aJ q)=true
 asc:(qs.map (·.1)).Pairwise (·<·)
 cols:(qs.map (·.2)).Nodup
def Ff(a:List Str)(w:Nat)(v:PV):Prop:=∃b,v=.tup (b.map aJ)/\Pl a w b
noncomputable def sK(a:List Str)(w:Nat)(v:PV):Bool:= @decide (Ff a w v) (Classical.propDecidable _)
set_option tactic.hygienic false
theorem fQ(h:¬Ff a w v):sK a w v=false:=by unfold sK;exact @decide_eq_false _ (Classical.propDecidable _) h
theorem jb(h:Ff a w v):sK a w v=true:=by unfold sK;exact @decide_eq_true _ (Classical.propDecidable _) h
theorem pP(h:aJ p=aJ q):p=q:=by have e:=Mw iX h;have a:iX (aJ p)=some (p.1,p.2):=rfl;have b:iX (aJ q)=some (q.1,q.2):=rfl;rw[a,b]at e;have:=MZ e;exact Pg (Mw Prod.fst this) (Mw Prod.snd this)
theorem FF(h:bT a w v=true):∃q,v=aJ q:=by
 unfold bT at h;cases e:iX v with
 |none=>rw[e]at h;cases h|some q=>exact⟨q,pQ e⟩
theorem cell_in(h:bT a w (aJ q)=true):0<=q.1/\q.1<a.length/\0<=q.2/\q.2<w/\cd a q.1.toNat q.2.toNat=120:=by have e:bT a w (aJ q)=decide (0<=q.1/\q.1<a.length/\0<=q.2/\q.2<w/\cd a q.1.toNat q.2.toNat=120):=rfl;rw[e]at h;exact Me h
theorem oZ{a:List Str}{w:Nat}:∀{c:List PV},(∀x∈c,bT a w x=true)->∃b:List (Int×Int),c=b.map aJ
 |[],_=>⟨[],rfl⟩|x::c,h=>by obtain⟨q,rfl⟩:=FF (h x MB);obtain⟨b,rfl⟩:=oZ λy hy=>h y (MA _ hy);exact⟨q::b,rfl⟩
theorem uJ{a:Type}(f:a->Bool):∀l:List a,jH (l.map λx=>PV.bl (f x))=some (l.map f)
 |[]=>rfl|x::l=>by rw[MM,jH.eq_2,uJ f l];rfl
theorem oR:∀a b:List Int,nK (a.map PV.int) (b.map PV.int)=decide (a=b)
 |[],[]=>rfl|[],_::_=>rfl|_::_,[]=>rfl|x::a,y::b=>by show(decide (x=y)&&nK (a.map PV.int) (b.map PV.int))=_;rw[oR a b,Ms];simp
theorem tZ(n:Nat)(b:List Int):(b.map PV.int).all (dH n)=true:=by rw[MS];intro x a;obtain⟨i,_,rfl⟩:=MG.mp a;cases n<;>rfl
theorem CV(a b:List Int):ai .Eq (.lst (a.map PV.int)) (.lst (b.map PV.int))=some (decide (a=b)):=by rw[FA];have c:dH 12 (.lst (a.map PV.int))=true:=tZ 11 a;have d:dH 12 (.lst (b.map PV.int))=true:=tZ 11 b;rw[c,d];show some (nK (a.map PV.int) (b.map PV.int))=_;rw[oR]
theorem lH(h:∀n∈ns,0<=n/\n<8):fM (.lst (ns.map PV.int))=some ns:=by
 show((aS (ns.map PV.int)).bind λns=>if ns.all (λn=>decide (0<=n)&&decide (n<8))=true then some ns else none)=some ns;rw[fB];show(if ns.all (λn=>decide (0<=n)&&decide (n<8))=true then some ns else none)=some ns;rw[MF];rw[MS];intro n hn
 simpa using h n hn
theorem EY(a:List (Int×Int)):imms (a.map aJ)=true:=av a
noncomputable def kn5:PV->Bool
 | .dT _ _=>false| .tup a=>a.all kn3&&decide (a.length<=1000)|_=>true
theorem c26(k:Nat)(a:List Str)(w:Nat)(v:PV)(J:Wd a w)(F:a≠[])(D:a.length<=8)(C:w<=8)(A:kn5 v=true):aE P (k+3) 26 [.tup (a.map .str),v]=some (.bl (sK a w v)):=by
 refine run rfl rfl ?_;simp only[d26,entry];cases v with
 |dT _ _=>cases A|tup j=>
  have h:(j.all kn3&&decide (j.length<=1000))=true:=A;rw[MH,Mm]at h;have B:j.length<=LN:=by have:=h.2;show j.length<=16777216;omega
  walk_at "go";rw[oV (g:=λx=>.bl (bT a w x)) λx l=> ?h1]
  case h1=>walk_at "go";rw[c25 k a w x J F D C (MS.mp h.1 x l)];walk_at "go"
  walk_at "go";rw[uJ];walk_at "go";cases t:(j.map (bT a w)).all id with
  |false=>
   walk_at "go";rw[fQ];rintro⟨c,e,m⟩;cases e;have:((c.map aJ).map (bT a w)).all id=true:=by rw[MS];intro b E;obtain⟨x,l,rfl⟩:=MG.mp E;obtain⟨q,d,rfl⟩:=MG.mp l;exact m.cell q d
   rw[this]at t;cases t
  |true=>
   have y:∀x∈j,bT a w x=true:=λx l=>MS.mp t _ (MG.mpr ⟨x,l,rfl⟩);obtain⟨c,rfl⟩:=oZ y;have i:∀q∈c,bT a w (aJ q)=true:=λq d=>y _ (MG.mpr ⟨q,d,rfl⟩);rw[EY];walk_at "go";rw[oU (G:=λq:Int×Int=>.int q.1) λq d=> ?h2]
   case h2=>rfl
   walk_at "go";rw[oU (G:=λq:Int×Int=>.int q.2) λq d=> ?h3]
   case h3=>rfl
   have r:∀n∈c.map (·.1),0<=n/\n<8:=λn hn=>by obtain⟨q,d,rfl⟩:=MG.mp hn;have:=cell_in (i q d);omega
   have s:∀n∈c.map (·.2),0<=n/\n<8:=λn hn=>by obtain⟨q,d,rfl⟩:=MG.mp hn;have:=cell_in (i q d);omega
   have H:(c.map λq:Int×Int=>PV.int q.1)=(c.map (·.1)).map PV.int:=by rw[Mg];rfl
   have I:(c.map λq:Int×Int=>PV.int q.2)=(c.map (·.2)).map PV.int:=by rw[Mg];rfl
   rw[H,I];walk_at "go";rw[lH r,lH s];walk_at "go";rw[CV]
   by_cases p:c.map (·.1)=cF (c.map (·.1))
   .rw[MO p]
    walk_at "go"
    congr 2
    have B:(c.map (·.2)).length=((c.map (·.2)).map PV.int).length:=by rw[L9 (f:=PV.int)]
    rw[<- B]
    by_cases o:(c.map (·.2)).Nodup
    .rw[jb ⟨c,rfl,i,(oA r).mp p,o⟩,MO]
     have:=(sQ s).mpr o;omega
    .rw[fQ,MU]
     .intro z
      exact o ((sQ s).mp (by omega))
     .rintro⟨u,e,m⟩
      injection e with e1
      have:c=u:=List.map_inj_right (λa b=>pP) |>.mp e1
      subst this;exact o m.cols
   .rw[MU p]
    walk_at "go";rw[fQ];rintro⟨u,e,m⟩
    injection e with e1
    have:c=u:=List.map_inj_right (λa b=>pP) |>.mp e1
    subst this;exact p ((oA r).mpr m.asc)
 |_=>walk_at "ev";rw[fQ (by rintro⟨c,e,_⟩;cases e)]
noncomputable def cI(a:List Str)(w:Nat):List (Int×Int):=(List.range a.length).flatMap λr=>((List.range w).filter λc=>cd a r c==120).map λc:Nat=>((r:Int),(c:Int))
theorem qS(a:List Str)(w:Nat):gv a w a.length=(cI a w).map aJ:=by
 unfold gv cI iO;rw[List.map_flatMap]
 congr 1
 funext r
 rw[Mg];rfl
theorem gu:q∈cI a w↔bT a w (aJ q)=true:=by
 unfold cI;rw[List.mem_flatMap]
 constructor
 .rintro⟨r,d,e⟩
  obtain⟨c,b,rfl⟩:=MG.mp e;rw[Mh,Mn,OT]at b;rw[Mn]at d;show decide (0<=(r:Int)/\(r:Int)<a.length/\0<=(c:Int)/\(c:Int)<w/\cd a (r:Int).toNat (c:Int).toNat=120)=true;rw[Mm];exact⟨by omega,by omega,by omega,by omega,b.2⟩
 .intro h
  obtain⟨g,i,k,j,f⟩:=cell_in h;refine⟨q.1.toNat,Mn.mpr (by omega),MG.mpr ⟨q.2.toNat,?_,Pg (by show((q.1.toNat:Nat):Int)=q.1;omega) (by show((q.2.toNat:Nat):Int)=q.2;omega)⟩⟩;rw[Mh,Mn,OT];exact⟨by omega,f⟩
theorem Cd(a:rows.length<=8)(b:w<=8):(cI rows w).length<=64:=by have e:=Mw List.length (qS rows w);rw[L9]at e;rw[<- e];refine Mq (jO rows w rows.length) ?_;exact Nat.mul_le_mul a b
noncomputable def oW(a:List Str)(w:Nat):List (List Nat):=(List.range a.length).map λr=>(List.range w).filter λc=>cd a r c==120
theorem vb(a:List Str)(w:Nat)(b:w<=8):dL (oW a w):=λcs h c hc=>by obtain⟨r,_,rfl⟩:=MG.mp h;have:=Mn.mp (Mh.mp hc).1;omega
theorem jE(f:Nat->List Nat):∀(n k:Nat),aW (k:Int) ((List.range n).map λi=>f (k+i))=(List.range n).flatMap λi=>(f (k+i)).map λc:Nat=>(((k+i:Nat):Int),(c:Int))
 |0,k=>rfl|n+1,k=>by
  rw[List.range_succ_eq_map,MM,aW,List.flatMap_cons,Mg];have ih:=jE f n (k+1);have e1:((List.range n).map ((λi=>f (k+i))∘Nat.succ))=(List.range n).map λi=>f (k+1+i):=M7 λi _=>by show f (k+(i+1))=f (k+1+i);rw[show k+(i+1)=k+1+i by omega]
  rw[e1,show(k:Int)+1=((k+1:Nat):Int)by omega,ih,List.flatMap_map];refine Mw (λz=>rf (k:Int) (f (k+0))++z) ?_;refine Mw (λg=>(List.range n).flatMap g) (funext λi=> ?_);show _=(f (k+(i+1))).map λc:Nat=>(((k+(i+1):Nat):Int),(c:Int));rw[show k+(i+1)=k+1+i by omega]
theorem me(a:List Str)(w:Nat):cI a w=aW 0 (oW a w):=by have:=jE (λr=>(List.range w).filter λc=>cd a r c==120) a.length 0;unfold cI oW;rw[show((0:Nat):Int)=0 from rfl]at this;simp only[Nc]at this;exact this.symm
theorem HA:Pl a w b↔Cv (oW a w) b:=by
 constructor
 .intro h
  exact⟨⟨h.asc,h.cols⟩,λx hx=>by rw[<- me];exact gu.mpr (h.cell x hx)⟩
 .rintro⟨⟨c,d⟩,e⟩
  exact⟨λx hx=>gu.mp (by rw[me];exact e x hx),c,d⟩
theorem iY(d:Pl a w b)(g:bT a w (aJ c)=true):Pl a w (b++[c])↔b9 b c=true:=by
 constructor
 .intro h
  exact(jJ.mp ⟨h.asc,h.cols⟩).2
 .intro o
  obtain⟨e,f⟩:=jJ.mpr ⟨⟨d.asc,d.cols⟩,o⟩;refine⟨λx hx=> ?_,e,f⟩
  rcases Mi.mp hx with z|z
  .exact d.cell x z
  .rw[Mj.mp z]
   exact g
theorem Av(h:Pl a w p)(s:q.Sublist p):Pl a w q:= ⟨λx hx=>h.cell x (s.subset hx),h.asc.sublist (s.map _),h.cols.sublist (s.map _)⟩
theorem uu:Pl a w []:=⟨λx hx=>(by cases hx),.nil,.nil⟩
theorem fZ(d:Wd a w):a.map aF=oW a w:=by
 refine Pp λi=> ?_;unfold oW;rw[MR,MR]
 by_cases b:i<a.length
 .rw[MN b,NC b]
  refine Mw some ?_;have e:a.getD i ⟨#[]⟩=a[i]:=by rw[ML,MN b];rfl
  show(List.range a[i].length).filter (λc=>a[i].cps.toList.getD c 0==120)=(List.range w).filter λc=>(a.getD i ⟨#[]⟩).cps.toList.getD c 0==120;rw[e,d _ (OA b)]
 .rw[NK (by omega),NK (by rw[M3];omega)]
  rfl
theorem HB(e:w<=8)(h:Pl a w b):L4 a.length b:= ⟨λx hx=>by obtain⟨c,d,_⟩:=cell_in (h.cell x hx);exact⟨c,d⟩,λx hx=>by obtain⟨_,_,c,d,_⟩:=cell_in (h.cell x hx);exact⟨c,by omega⟩,h.cols⟩
theorem FZ:∀{n:Nat}{l:List Int},l.Pairwise (·<·)->(∀x∈l,0<=x/\x<n)->l.length<=n:=λ{n l} b a=>by
 have c:∀(l:List Int)(m:Int),l.Pairwise (·<·)->(∀x∈l,m<=x/\x<n)->(l.length:Int)<=max (n-m) 0:=by
  intro l
  induction l with
  |nil=>intro m _ _;show(0:Int)<=_;omega|cons x l f=>intro m b a;obtain⟨e,d⟩:=Nt.mp b;have:=f (x+1) d λy hy=>⟨by have:=e y hy;omega,(a y (MA _ hy)).2⟩;have:=a x MB;rw[MK];omega
 have:=c l 0 b a;omega
theorem eZ(h:Pl a w b):b.length<=a.length:=by
 have:=FZ (n:=a.length) h.asc λx hx=>by obtain⟨q,e,rfl⟩:=MG.mp hx;obtain⟨c,d,_⟩:=cell_in (h.cell q e);exact⟨c,d⟩
 rw[L9]at this;exact this
theorem Bb{b:List (Int×Int)}(a:b.length<=1000):kn5 (.tup (b.map aJ))=true:=by show((b.map aJ).all kn3&&decide ((b.map aJ).length<=1000))=true;rw[MH,MS,Mm,L9];refine⟨λx hx=> ?_,a⟩;obtain⟨q,_,rfl⟩:=MG.mp hx;rfl
theorem sF:∀{p q:List (Int×Int)},p.map aJ=q.map aJ->p=q
 |[],[],_=>rfl|[],_::_,h=>by cases h|_::_,[],h=>by cases h|x::p,y::q,h=>by rw[MM,MM]at h;obtain⟨a,b⟩:=List.cons.inj h;rw[pP a,sF b]
noncomputable def itsP:PV->List PV
 | .tup a=>a|_=>[]
theorem lU:Ff a w (.tup (b.map aJ))↔Pl a w b:=by
 constructor
 .rintro⟨c,e,h⟩
  have d:b.map aJ=c.map aJ:=by have:=Mw itsP e;exact this
  rw[sF d];exact h
 .exact λh=>⟨b,rfl,h⟩
theorem LX(k:Nat)(e:Wd a w)(c:a≠[])(d:a.length<=8)(f:w<=8)(h:Pl a w b):aE P (k+3) 26 [.tup (a.map .str),.tup (b.map aJ)]=some (.bl true):=by have:=eZ h;rw[c26 k a w _ e c d f (Bb (by omega)),jb (lU.mpr h)]
theorem JJ(k:Nat)(i:Wd a w)(f:a≠[])(g:a.length<=8)(j:w<=8)(h:Pl a w b)(d:bT a w (aJ c)=true):aE P (k+3) 26 [.tup (a.map .str),.tup ((b++[c]).map aJ)]=some (.bl (b9 b c)):=by
 have:=eZ h;rw[c26 k a w _ i f g j (Bb (by rw[MT,Nq];omega))];cases e:b9 b c with
 |true=>rw[jb (lU.mpr ((iY h d).mpr e))]|false=>rw[fQ λz=>by have:=(iY h d).mp (lU.mp z);rw[e]at this;cases this]
theorem Hm(a c:Int×Int):ai .Lt (aJ a) (aJ c)=some (dq a c):=by
 have f:∀q:Int×Int,dH 12 (aJ q)=true:=λq=>rfl;show ltT (aJ a) (aJ c)=_;unfold ltT;rw[f,f,Bool.and_self,MF rfl];show(if decide (a.1=c.1)=true then(if decide (a.2=c.2)=true then some false else some (decide (a.2<c.2)))else some (decide (a.1<c.1)))=_;unfold dq
 by_cases b:a.1=c.1
 .rw[MF (MO b),MF b]
  by_cases d:a.2=c.2
  .rw[MF (MO d),show decide (a.2<c.2)=false from MU (by omega)]
  .rw[ME (by simpa using d)]
 .rw[ME (by simpa using b),ME b]
noncomputable def gb(p:List (Int×Int))(c:Int×Int):List (Int×Int):=p.filter λx=>dq x c
theorem c168(k:Nat)(p:List (Int×Int))(c:Int×Int)(d:p.length<=1000):aE P (k+1) 168 [.tup (p.map aJ),aJ c]=some (.tup ((gb p c++[c]).map aJ)):=by
 refine cD rfl rfl ?_;simp only[LJ,entry];have b:imms (p.map aJ)=true:=av p;have a:imm (aJ c)=true:=rfl;walk_at "ev";rw[b,a];walk_at "ev";rw[MF (by rw[L9];omega)];rw[bt (p:=λx=>dq x c) (g:=aJ) λx hx=> ?hf]
 case hf=>rw[Hm];walk_at "ev";cases dq x c<;>rfl
 walk_at "ev";have e:(gb p c).length<=p.length:=Mu _ _;rw[MF (by rw[MT,L9];show(gb p c).length+1<=_;omega)];walk_at "ev";rw[MX];rfl
theorem c3I(k:Nat)(c:Wd a w)(b:a.length<=8)(d:w<=8):aE P (k+1) 3 [.tup (a.map .str)]=some (.lst ((cI a w).map aJ)):=by rw[c3 k a w c b d,qS]
theorem wd8(b:Wd a w)(c:w<=8):∀z∈a,z.length<=8:=λz hz=>by rw[b z hz];exact c
theorem Ce(k:Nat)(c:Nat)(g:Wd a w)(f:a.length<=8)(e:w<=8)(d:Pl a w b):
  aE P (k+2) 166 [.lst (cB a),.tup (b.map aJ),.int c]=some (.int (nC (a.map aF) c b)):=by
 have:=eZ d;exact c166 k a b c f (wd8 g e) (HB e d) (by omega)
noncomputable def DS(a:List Str)(w b:Nat)(n:Int)(i:Nat):List (Int×Int)×Int:=((cI a w).take i).foldl (OD.turn b9 (nC (a.map aF) b)) ([],n)
theorem AO(c:(cI a w)[i]? =some q):DS a w b n (i+1)=OD.turn b9 (nC (a.map aF) b) (DS a w b n i) q:=by unfold DS;rw[List.take_succ,c,Ny];rfl
theorem c167(k:Nat)(d:List Str)(w f:Nat)(n:Int)(r:Wd d w)(x:d≠[])(o:d.length<=8)(j:w<=8)(v:0<=n)(B:n<nC (d.map aF) f []):
  aE P (k+4) 167 [.tup (d.map .str),.int f,.int n]=some (.tup (((cI d w).foldl (OD.turn b9 (nC (d.map aF) f)) ([],n)).1.map aJ)):=by
 refine cD rfl rfl ?_;simp only[LK,entry];have D:=bG d;have u:aE P (k+3) 166 [.lst (cB d),.tup [],.int f]=_:=Ce (k+1) f r o j (uu (w:=w));walk_at "ev";rw[D,Ld (k+1) d o (wd8 r j)];walk_at "ev";rw[show decide ((0:Int)<=n)=true from MO v];walk_at "ev";rw[u];walk_at "ev";rw[show decide (n<nC (d.map aF) f [])=true from MO B];walk_at "ev";refine cV (xs:=(cI d w).map aJ) (n:=true) ?_ (λi s=>∃a b c,Pl d w (DS d w f n i).1/\s=[.frz (.tup (d.map .str)) true,.frz (.int f) true,.frz (.int n) true,.frz (.lst (cB d)) true,.frz (.tup ((DS d w f n i).1.map aJ)) true,.frz (.int (DS d w f n i).2) true,a,b,c]) ⟨.un,.un,.un,uu,rfl⟩ ?_ ?_
 .walk_at "ev"
  rw[c3I (k+2) r o j];walk_at "ev"
 .rintro i y s l ⟨a,b,c,h,rfl⟩
  obtain⟨q,t,rfl⟩:∃q,(cI d w)[i]? =some q/\y=aJ q:=by
   rw[MR]at l;cases e:(cI d w)[i]? with
   |none=>rw[e]at l;cases l|some q=>rw[e]at l;cases l;exact⟨q,rfl,rfl⟩
  have m:bT d w (aJ q)=true:=gu.mp (Ma t);have C:=eZ h;have E:imm (aJ q)=true:=rfl;refine⟨_,rfl,?_⟩;rw[AO t]
  generalize DS d w f n i=st at h C ⊢
  walk_at "ev";rw[MF (by rw[MT,L9];show st.1.length+1<=_;omega)];walk_at "ev";have A:st.1.map aJ++[aJ q]=(st.1++[q]).map aJ:=by rw[MX];rfl
  rw[A,JJ k r x o j h m];unfold OD.turn;cases z:b9 st.1 q with
  |false=>walk_at "ev";exact⟨_,_,_,h,rfl⟩
  |true=>
   have p:=(iY h m).mpr z;rw[MF rfl];walk_at "ev";rw[Ce (k+1) f r o j p];walk_at "ev"
   by_cases g:st.2<nC (d.map aF) f (st.1++[q])
   .rw[MO g,MF g]
    walk_at "ev";exact⟨_,_,_,p,rfl⟩
   .rw[MU g,ME g]
    walk_at "ev"
    first|exact⟨_,_,_,h,rfl⟩|exact⟨_,rfl,_,_,_,h,rfl⟩
 .rintro s ⟨a,b,c,h,rfl⟩
  have e:DS d w f n ((cI d w).map aJ).length=(cI d w).foldl (OD.turn b9 (nC (d.map aF) f)) ([],n):=by unfold DS;rw[L9,Nf]
  rw[e];walk_at "ev"
theorem i7(a c:Int×Int):mM (aJ a) (aJ c)=decide (a=c):=by show(decide (a.1=c.1)&&(decide (a.2=c.2)&&true))=_;rw[Bool.and_true,Ms,MH,Mm,Mm,Mm];exact⟨λh=>Pg h.1 h.2,λh=>by rw[h];exact⟨rfl,rfl⟩⟩
theorem EX(c:Int×Int)(p:List (Int×Int)):ai .NotIn (aJ c) (.tup (p.map aJ))=some (!decide (c∈p)):=by
 have f:∀q:Int×Int,dH 12 (aJ q)=true:=λq=>rfl;show(xK (aJ c) (p.map aJ)).map (!·)=_;unfold xK;rw[ME (λz=>by cases z.1),MF]
 .show some (!_)=_
  refine Mw (λb=>some !b) ?_;rw[Ms,NX,Mm]
  constructor
  .rintro⟨y,a,e⟩
   obtain⟨q,d,rfl⟩:=MG.mp a;rw[i7]at e;rw[<- Me e];exact d
  .intro h
   exact⟨aJ c,MG.mpr ⟨c,h,rfl⟩,by rw[i7];exact MO rfl⟩
 .rw[f,Bool.true_and,MS]
  intro y a;obtain⟨q,_,rfl⟩:=MG.mp a;exact f q
theorem rM(a:List (Int×Int)->Int)(p:List (Int×Int)):∀L:List (Int×Int),((((L.filter λc=> !decide (c∈p)).filter λc=>b9 (gb p c) c).map λc=>a (gb p c++[c])).sum)=OD.sumZ (OD.mq b9 dq a p) L
 |[]=>rfl|c::L=>by
  have d:=rM a p L;show _=OD.mq b9 dq a p c+OD.sumZ (OD.mq b9 dq a p) L;rw[<- d];have e:OD.mq b9 dq a p c=if c∈p then 0 else if b9 (gb p c) c then a (gb p c++[c])else 0:=by
   unfold OD.mq
   by_cases h:c∈p;rw[MF h,MF h]
   .rw[ME h,ME h]
    rfl
  rw[e]
  by_cases h:c∈p;rw[O5 (by simpa using h),MF h,Om]
  .rw[O4 (by simpa using h),ME h]
   cases b:b9 (gb p c) c with
   |true=>rw[O4 (by simpa using b),MM,List.sum_cons,MF rfl]|false=>rw[O5 (by rw[b];exact MI),ME MI,Om]
theorem bR{a:List Str}:∀b∈a.map aF,b.Pairwise (·<·):=λcs h=>by obtain⟨z,_,rfl⟩:=MG.mp h;exact List.Pairwise.filter _ List.pairwise_lt_range
theorem mW(b:Wd a w):aW 0 (a.map aF)=cI a w:=by rw[fZ b,me]
theorem pR(b:Wd a w):Pl a w p↔Cv (a.map aF) p:=by rw[fZ b];exact HA
theorem JK(k:Nat)(a:List Str)(w:Nat)(p:List (Int×Int))(b:Wd a w)(i:a≠[])(d:a.length<=8)(e:w<=8)(h:Pl a w p):
  aE P (k+4) 169 [.tup (a.map .str),.tup (p.map aJ)]=some (.int ((bI (a.map aF) p:Nat):Int)):=by
 refine cD rfl rfl ?_;simp only[LI,entry];have o:=bG a;have l:imms (p.map aJ)=true:=av p;have r:=eZ h;have n:=Cd (rows:=a) d e;walk_at "ev";rw[o,l,LX k b i d e h];walk_at "ev";rw[Ld (k+1) a d (wd8 b e)];walk_at "ev";rw[c3I (k+2) b d e];walk_at "ev";rw[MF (by rw[L9];omega)];rw[bt (p:=λc=> !decide (c∈p)) (g:=λc=>PV.tup ((gb p c++[c]).map aJ)) λx hx=> ?hf]
 case hf=>rw[EX];walk_at "ev";rw[c168 (k+2) p x (by omega)];cases decide (x∈p)<;>rfl
 walk_at "ev";have q:=Mu (λc=> !decide (c∈p)) (cI a w);rw[MF (by rw[L9];omega)];rw[bt (p:=λc=>b9 (gb p c) c) (g:=λc=>PV.int (nC (a.map aF) p.length (gb p c++[c]))) λx hx=> ?hf]
 case hf=>
  have f:bT a w (aJ x)=true:=gu.mp (Mh.mp hx).1;have j:Pl a w (gb p x):=Av h List.filter_sublist;rw[JJ k b i d e j f];cases m:b9 (gb p x) x with
  |false=>rfl|true=>walk_at "ev";rw[L9,Ce (k+1) p.length b d e ((iY j f).mpr m)];rfl
 walk_at "ev";rw[show(λc=>PV.int (nC (a.map aF) p.length (gb p c++[c])))=PV.int∘(λc=>nC (a.map aF) p.length (gb p c++[c]))from rfl,<-Mg,pB,rM];walk_at "ev";rw[<- mW b,yf bR ((pR b).mp h)]
theorem c66(k:Nat)(c:List Str)(w:Nat)(p:Wd c w)(C:c≠[])(E:c.length<=8)(u:w<=8):aE P (k+1) 66 [.tup (c.map .str)]=some (.lst (gv c w c.length)):=by
 refine cD rfl rfl ?_;have H:=Br c;have h:=bG c;simp only[d66,entry];walk_at "go";obtain⟨m,f⟩:∃z,c[0]? =some z:=by
  cases c with
  |nil=>exact absurd rfl C|cons z r=>exact⟨z,rfl⟩
 have q:m.length=w:=p m (Ma f);have A:ci (c.map PV.str) 0=some (.str m):=o6 (i:=0) f;rw[h];refine cV (xs:=(List.range c.length).map λi=>.int (0+(i:Nat))) (n:=true) ?_ (λi d=>∃a b,d=[.frz (.tup (c.map .str)) true,.own (gv c w i) true,a,b]) ⟨_,_,rfl⟩ ?_ ?_
 .walk_at "ev"
  simp only[kT,cO,L9];rw[MF ⟨by omega,by omega⟩];rfl
 .rintro i y d l ⟨a,b,rfl⟩
  obtain⟨B,rfl⟩:=cz l;refine⟨_,rfl,?_⟩;walk_at "ev";refine cV (xs:=(List.range w).map λi=>.int (0+(i:Nat))) (n:=true) ?_ (λj d=>∃b,d=[.frz (.tup (c.map .str)) true,.own (gv c w i++iO c i j) true,.frz (.int i) true,b]) ⟨b,by simp[iO,mD]⟩ ?_ ?_
  .walk_at "ev"
   rw[A];walk_at "ev";rw[len_str,MF (by rw[q];show w<=16777216;omega)];walk_at "ev";simp only[kT,cO,q];rw[MF ⟨by omega,by omega⟩];rfl
  .rintro j y d l ⟨b,rfl⟩
   obtain⟨t,rfl⟩:=cz l;refine⟨_,rfl,?_⟩;obtain⟨z,s,x,v⟩:=Cc p B t;walk_at "ev";rw[o6 s];walk_at "ev";rw[MF (by rw[v];show w<=16777216;omega),bC x];walk_at "ev";rw[gq];have e:(gv c w i++iO c i j).length<LN:=by rw[MT];have G:=jO c w i;have F:=lM c i j;have D:i*w<=8*8:=Nat.mul_le_mul (by omega) u;show _<16777216;omega
   have g:=nu c i j;cases o:cd c i j==120 with
   |true=>rw[o]at g;walk_at "go";rw[fP rfl e];walk_at "ev";exact⟨.frz (.int j) true,by rw[g];simp[xj]⟩
   |false=>rw[o]at g;walk_at "ev";exact⟨.frz (.int j) true,by rw[g];simp⟩
  .rintro d ⟨b,rfl⟩
   rw[ki];walk_at "ev";exact⟨_,_,by rw[jy]⟩
 .rintro d ⟨a,b,rfl⟩
  rw[ki];walk_at "ev"
theorem nz:∀a:List (Int×Int),iW (a.map aJ)=some a
 |[]=>rfl|p::a=>by show((iX (aJ p)).bind λq=>(iW (a.map aJ)).map (q::·))=_;rw[nz a];rfl
theorem yS(b:a≠[])(f:a.length<64)(c:∀q∈a,0<=q.2/\q.2<1000):nh (a.map aJ)=some (.own ((eK a).map aJ) true):=by
 unfold nh;have e:aS (a.map aJ)=none:=by
  cases a with
  |nil=>exact absurd rfl b|cons p a=>rfl
 rw[e];show rP _=_;unfold rP;rw[nz];have g:a.all (λq=>decide (0<=q.2)&&decide (q.2<1000))=true:=by
  rw[MS];intro q d
  simpa using c q d
 show(if a.length<64/\a.all (λq=>decide (0<=q.2)&&decide (q.2<1000))=true then some (RV.own ((eK a).map aJ) true)else none)=_;rw[MF ⟨f,g⟩]
noncomputable def apart(f q:Int×Int):Bool:= !decide (q.1=f.1)&& !decide (q.2=f.2)
set_option tactic.hygienic true
structure kQ(rows:List Str)(w:Nat)(fs:List (Int×Int)):Prop where
 cell:∀q∈fs,bT rows w (aJ q)=true
 rowd:(fs.map (·.1)).Nodup
 cold:(fs.map (·.2)).Nodup
noncomputable def left(a:List Str)(w:Nat)(b:List (Int×Int)):List (Int×Int):=(cI a w).filter λq=>b.all λf=>apart f q
theorem oF(a:List Str)(w:Nat)(b:List (Int×Int))(f:Int×Int):(left a w b).filter (apart f)=left a w (b++[f]):=by unfold left;rw[List.filter_filter];refine Po λq _=> ?_;rw[List.all_append,Bool.and_comm];simp
theorem kQ.next(h:kQ a w d)(k:f∈left a w d):kQ a w (d++[f]):=by
 obtain⟨j,g⟩:=Mh.mp k;rw[MS]at g;have i:∀x∈d,f.1≠x.1/\f.2≠x.2:=λx c=>by
  have:=g x c;unfold apart at this
  simpa using this
 refine⟨λq hq=> ?_,?_,?_⟩
 .rcases Mi.mp hq with z|z
  .exact h.cell q z
  .rw[Mj.mp z]
   exact gu.mp j
 .rw[MX,M5]
  refine⟨h.rowd,by simp,λa ha b hb=> ?_⟩;obtain⟨x,c,rfl⟩:=MG.mp ha;rw[O0,Mj]at hb;subst hb;exact λe=>(i x c).1 e.symm
 .rw[MX,M5]
  refine⟨h.cold,by simp,λa ha b hb=> ?_⟩;obtain⟨x,c,rfl⟩:=MG.mp ha;rw[O0,Mj]at hb;subst hb;exact λe=>(i x c).2 e.symm
theorem kQ.len(h:kQ c w d):((d.map (·.1)).length)<=c.length:=by
 have f:∀x∈d.map (·.1),(0:Int)<=x/\x<(c.length:Int):=λx hx=>by obtain⟨q,k,rfl⟩:=MG.mp hx;obtain⟨i,j,_⟩:=cell_in (h.cell q k);exact⟨i,j⟩
 have:=dm c.length ((d.map (·.1)).map Int.toNat) ?_ λx hx=> ?_
 .rw[L9]at this
  exact this
 .have g:=h.rowd
  unfold List.Nodup at g ⊢;rw[OR];refine g.imp_of_mem λ{a b} ha hb' hab e=>hab ?_;have:=f a ha;have:=f b hb';omega
 .obtain⟨y,l,rfl⟩:=MG.mp hx
  have:=f y l;omega
theorem kQ.pl(o:w<=8)(h:kQ c w d):Pl c w (eK d):=by have f:=gX d;have g:∀q∈eK d,bT c w (aJ q)=true:=λq hq=>h.cell q (f.mem_iff.mp hq);refine⟨g,?_,(f.map _).nodup_iff.mpr h.cold⟩;have e:((eK d).map (·.1)).Nodup:=(f.map _).nodup_iff.mpr h.rowd;unfold List.Nodup at e;rw[OR]at e ⊢;refine(List.Pairwise.and (rQ d) e).imp_of_mem λ{a b} ha hb hab=> ?_;obtain⟨i,l⟩:=hab;obtain⟨_,_,n,m,_⟩:=cell_in (g a ha);obtain⟨_,_,j,k,_⟩:=cell_in (g b hb);unfold SW.eA at i;omega
theorem Hk{a:List (Int×Int)}:ai .NotEq (.lst (a.map aJ)) (.lst [])=some (!a.isEmpty):=by
 have f:∀q:Int×Int,dH 11 (aJ q)=true:=λq=>rfl;rw[Ex];have e:(dH 12 (.lst (a.map aJ))&&dH 12 (.lst []))=true:=by rw[MH];refine⟨?_,rfl⟩;show(a.map aJ).all (dH 11)=true;rw[MS];intro y b;obtain⟨q,_,rfl⟩:=MG.mp b;exact f q
 rw[MF e];cases a<;>rfl
theorem JT{ps:List (Int×Int)}{t:Int}(a:0<=t)(c:t<ps.length):∃q,ci (ps.map aJ) t=some (aJ q)/\q∈ps:=by obtain⟨e,b,d⟩:=FW (l:=ps.map aJ) a (by rw[L9];exact c);obtain⟨q,f,rfl⟩:=MG.mp d;exact⟨q,b,f⟩
theorem LZ(k:Nat)(b:List Str)(w:Nat)(D s:Int)(G:Wd b w)(F:b≠[])(y:b.length<=8)(n:w<=8):∃v,aE P (k+2) 170 [.tup (b.map .str),.int D,.int s]=some v/\∃p,v=.tup (p.map aJ)/\Pl b w p:=by
 refine wT rfl rfl ?_;simp only[LH,entry];have B:=bG b;have H:=Cd (rows:=b) y n;walk_at "ev";rw[B,c66 k b w G F y n,qS];walk_at "ev";have f:left b w []=cI b w:=List.filter_eq_self.mpr λq _=>rfl;refine whTo (λm z=>∃c D a,z=[.frz (.tup (b.map .str)) true,.frz (.int D) true,.frz (.int s) true,.own (c.map aJ) true,.frz (.lst ((left b w c).map aJ)) true,a]/\kQ b w c/\(left b w c).length<=m) (cI b w).length (by omega) ⟨[],D,.un,by rw[f];rfl,⟨λq hq=>(by cases hq),.nil,.nil⟩,by rw[f];exact MJ _⟩ ?_;rintro m z ⟨c,D,a,rfl,i,K⟩;have r:=i.len;rw[L9]at r;have C:(left b w c).length<=(cI b w).length:=Mu _ _;refine⟨decide ((c.length:Int)<s)&& !(left b w c).isEmpty,?_,λhb=> ?_,λhb=> ?_⟩
 .walk_at "ev"
  rw[L9];cases decide ((c.length:Int)<s)with
  |false=>rfl|true=>walk_at "ev";rw[Hk];walk_at "ev"
 .rw[MH]at hb
  have A:0<(left b w c).length:=by
   have:=hb.2;cases e:left b w c with
   |nil=>rw[e]at this;cases this|cons x l=>rw[MK];omega
  refine⟨by omega,?_⟩;have d:(0:Int)<((left b w c).length:Int):=by omega
  obtain⟨q,u,h⟩:=JT (ps:=left b w c) (t:=D%((left b w c).length:Int)) (Pb _ (by omega)) (O3 _ d);have J:imm (aJ q)=true:=rfl;walk_at "ev";rw[L9,MF d];walk_at "ev";rw[u];walk_at "ev";rw[L9,MF ⟨d,by omega⟩];walk_at "ev";rw[fP rfl (by rw[L9];show c.length<16777216;omega)];walk_at "ev";rw[MF (by rw[L9];omega)];rw[bt (p:=apart q) (g:=aJ) λx hx=> ?j]
  case j=>unfold apart aJ;walk_at "ev";cases decide (x.1=q.1)<;>cases decide (x.2=q.2)<;>rfl
  walk_at "ev";rw[oF];have I:c.map aJ++[aJ q]=(c++[q]).map aJ:=by rw[MX];rfl
  rw[I];refine⟨_,rfl,_,_,_,rfl,i.next h,?_⟩;have L:(left b w (c++[q])).length<(left b w c).length:=by rw[<- oF];refine List.length_filter_lt_length_iff_exists.mpr ⟨q,h,?_⟩;unfold apart;simp
  omega
 .have o:∀q∈c,0<=q.2/\q.2<1000:=λq hq=>by
   obtain⟨_,_,E,M,_⟩:=cell_in (i.cell q hq);exact⟨E,by omega⟩
  walk_at "ev"
  by_cases j:c=[]
  .subst j
   exact⟨_,rfl,_,rfl,[],by rw[show sortI []=[]from List.mergeSort_nil];rfl,uu⟩
  .rw[yS j (by omega) o]
   walk_at "ev";exact⟨_,rfl,eK c,rfl,i.pl n⟩
section
open PySem.Spec PyProof.Rows
theorem KG:ck N64 ["_law_board_here"] (aZ s64):=⟨rfl,rfl,rfl,by decide +kernel,rfl,by decide +kernel,by decide +kernel⟩
theorem Ad(g:d 64=some Jn)(h:aE d (k+1) 64 b=some r):kC b=some r:=by
 unfold aE at h;rw[g]at h;simp only[NO]at h
 split at h
 .rename_i f
  obtain⟨a,rfl⟩:=Hy (show b.length=1 from f);simp only[Jn,ze,zf,hZ,entry]at h;have e:((List.map (λv=>TV.frz v (imm v)) [a]++List.replicate (8-[a].length) TV.un).take 1).map TV.valD=[a]:=rfl;rw[e]at h;cases c:kC [a]with
  |none=>rw[c]at h;cases h|some v=>rw[c]at h;cases h;rfl
 .cases h
theorem Gr(h:kC a=some r):a.length=1:=by
 unfold kC at h
 split at h;rfl;cases h
theorem lA:∀{b:List PV}{a:List Str},kB b=some a->b=a.map .str
 |[],a,h=>by cases h;rfl|x::b,a,h=>by
  cases x with
  |str z=>
   have h:(kB b).map (z::·)=some a:=h;cases e:kB b with
   |none=>rw[e]at h;cases h|some r=>rw[e]at h;cases h;rw[lA e];rfl
  |_=>cases h
theorem wU{K:W.Frag}{e:Hp}{n:Bool}{H:Hp}:∀{c:List Str}{d:List V},aI K e n (c.map .str) H d->d=c.map V.str
 |[],d,h=>h|z::c,d,h=>by rw[MM]at h;obtain⟨u,f,rfl,a,b⟩:=h;rw[wU b,Rp.str.mp a];rfl
theorem AD:∀l:List Int,eI l=[]->∀x∈l,x=0:=by
 intro l;refine dG (P:=λl=>eI l=[]->∀x∈l,x=0) (λ_ x a=>nomatch a) (λl y ih h x a=> ?_) l
 by_cases e:y=0
 .subst e
  rw[gT]at h
  rcases Mi.mp a with a|a
  .exact ih h x a
  .simpa using a
 .rw[gU l e]at h
  simp at h
abbrev iR1(H:Hp)(h:Addr)(f:List Str)(i:Nat)(j:L2.St)(G:Hp):Prop:=∃C a b c d e g,j=[some (.ref h),some (.ref C),a,b,c,d,e,g]/\aC H G/\H C=none/\G C=some (.dT (ba (lC (f.take i))))
abbrev iR2(H:Hp)(b C a:Addr)(z:Str)(o:Obj)(ct:List (List Int×Int))(c:List Int)(j:Nat)(f:L2.St)(G:Hp):Prop:=∃d e g h,f=[some (.ref b),some (.ref C),some (.str z),some (.ref a),d,e,g,h]/\aC H G/\G C=some (.frz o (.dT (ba ct)))/\G a=some (.dT (ba ((ct.take j).foldl (lF c) ct)))
abbrev iR3(H:Hp)(c C a b:Addr)(z:Str)(h:Option V)(o:Obj)(ct:List (List Int×Int))(t:List Int)(n:Int)(d:List (List Int×Int))(B:Nat->List Int)(m:Nat)(f:L2.St)(G:Hp):Prop:=∃e g,f=[some (.ref c),some (.ref C),some (.str z),some (.ref a),some (.ref b),e,g,h]/\aC H G/\G C=some (.frz o (.dT (ba ct)))/\G a=some (.dT (ba ((B m).foldl (eJ t n) d)))/\G b=some (.tup (t.map V.int))
abbrev iR4(H:Hp)(h C g:Addr)(o:Obj)(ct:List (List Int×Int))(f:Nat->List Int)(j:Nat)(i:L2.St)(G:Hp):Prop:=∃a b c d e,i=[some (.ref h),some (.ref C),a,b,c,d,e,some (.ref g)]/\aC H G/\G C=some (.frz o (.dT (ba ct)))/\G g=some (.lst ((f j).map V.int))
abbrev iR5(H:Hp)(h C g:Addr)(ct:List (List Int×Int))(i:Nat)(j:L2.St)(G:Hp):Prop:=∃a b c d e f,j=[some (.ref h),some (.ref C),a,b,c,d,e,some (.ref g)]/\aC H G/\G g=some (.lst (f.map V.int))/\eI f=eI (gk ct)/\f.length=i
theorem Kv{G:Hp}{P:Prop}(h:iR1 H b a i c G)(f:aC H G->P):P:=by obtain⟨_,_,_,_,_,_,_,_,s,_⟩:=h;exact f s
theorem Ku{G:Hp}(h:iR2 H a C c z o ct b j d G):G C=some (.frz o (.dT (ba ct))):=by obtain⟨_,_,_,_,_,_,h,_⟩:=h;exact h
theorem Kt{G:Hp}(h:iR4 H b C c o ct a j d G):G C=some (.frz o (.dT (ba ct))):=by obtain⟨_,_,_,_,_,_,_,h,_⟩:=h;exact h
theorem Ie{K:W.Frag}(d2:mg "dict"=none)(a5:mg "len"=none)(c8:mg "range"=none)(b7:mg "sorted"=none)(d1:mg "tuple"=none)(D:GD K mg "_law_row" s64 ["_law_board_here"] f fd)(p:Program)(w:World)(a1:Heap)(k:Nat)(_:∀y g,F.lookup y=some g->∃b gd qs,mg y=some (.ref b)/\W.keepIn K (.ref b)=true/\Binds K gd qs []/\bv p w K mg a1 kd k b gd qs (yR K (aE P k g))):bv p w K mg a1 kd (k+1) f fd ["_law_board_here"] (yR K (aE P (k+1) 64)):=by
 refine D.fn.ok KG (λvs H Q E h=> ?_) (λcdv A outer s H vs Q E hr h=> ?_)
 .obtain⟨d0,r,h1,N,_⟩:=h
  rw[<- h1.len];exact Gr (Ad rfl N)
 obtain⟨d0,r,h1,N,q⟩:=h
 replace N:=Ad rfl N
 unfold kC at N
 split at N
 case h_2=>cases N
 rename_i ls;cases e1:kB ls with
 |none=>rw[e1]at N;cases N|some l=>
 rw[e1]at N;dsimp only[Option.bind]at N
 split at N
 case isFalse=>cases N
 rename_i hz;cases N;obtain⟨z1,z2⟩:=hz;have z2:∀z∈l,z.length<=8:=λz hz=>by simpa using MS.mp z2 z hz
 have c6:=lA e1;subst c6;obtain⟨u1,_,rfl,r1,h1⟩:=h1;obtain rfl:=h1;obtain⟨Bd,us,rfl,b8,rb⟩:=Rp.tup.mp r1;have eb:=wU rb;subst eb;have nd:=KG.nd;have hu:=Bu hr;have c0:(tz kd p w K mg a1 N64 "_law_row" (aZ s64) f cdv A outer s H E).nox.A.units+64<cLine:=hr.units;have hs:sizeLine=16777216:=M8
 refine⟨_,ak (d6 (i:=1) nd rfl (Or.inl rfl) (yc hu (ux ac) dB)) (ak (d7 NS rfl (uv (pv 0)) (aq (i:=2) nd rfl (Or.inl rfl)) (ak (d6 (i:=3) nd rfl (Or.inl rfl) (cu uF rfl d2 boot_dict (aK (pv 1) ac))) (ak (sB (d7 NS rfl (wc (pv 1)) (aq (i:=4) nd rfl (Or.inl rfl)) (aw (d7 NS rfl (jc rfl c8 (aK (bi jG (by rfl) a5 OE (aK (pv 2) ac)) ac)) (aq (i:=5) nd rfl (Or.inl rfl))
     (aw (sC (PW.pt (Ak (iU wn (n8 Bk (pv 2) (pv 5) (λ_ _=>rfl)) uy (vI _)) (wY (iU (pU (Hi:=H) c0) (pv 5) (pv 4) rfl)))) (ak (d6 (i:=6) nd rfl (Or.inl rfl) (cu gQ rfl d1 boot_tuple (aK (bi kY (by rfl) b7 boot_sorted (aK (fR wo (pv 4) (ux (aK (pv 5) ac))) ac)) ac)))
      (aw (kl hu (pv 3) (pv 6) (fR la (sN hu (pv 3) (pv 6) dB ⟨rfl,rfl,rfl,rfl⟩) (pS hu (pv 1) (pv 4) (λ_ _=>rfl))) rfl))) iV))))))
   (aw (d6 (i:=1) nd rfl (Or.inl rfl) (pv 3))))))
  (ak (d6 (i:=7) nd rfl (Or.inl rfl) (fR HP (uz (aK dB ac)) dB)) (ak (sB (d7 NS rfl (wc (pv 1)) (aq (i:=4) nd rfl (Or.inl rfl)) (aw (G6 (fR la (n8 fA (pv 7) (bi cH (by rfl) a5 OE (aK (pv 4) ac)) (λ_ _=>rfl)) (pS hu (pv 1) (pv 4) (λ_ _=>rfl))) (HG (pv 7) (bi cH (by rfl) a5 OE (aK (pv 4) ac)) AW (λ_=>rfl)) rfl rfl rfl))))
  (ak (sA NS (iU wn (n8 fA (pv 7) (Fx zw dB) (λ_ _=>rfl)) dB (vI _)) (aw (pO (HK PySem.F.plainAttrs_list PySem.F.slot_list_pop PySem.F.type_list_pop Hl (pv 7)) rfl))) (aw (ja (pv 7))))))),?_⟩
 intro C0 a6;refine⟨by show 0<=sizeLine;exact Mk _,λT0 hT0=> ?_⟩;have b4:T0≠C0:=λz=>by rw[z,aB]at hT0;cases hT0
 have a2:H T0=none:=by rw[aA b4]at hT0;exact hT0
 refine⟨T0,[],rfl,aB,by rw[aA (NZ b4)];exact aB,?_⟩;have sG:aC H (L2.upd (L2.upd (L2.upd H C0 (.dT [])) T0 (.tup [])) C0 (.dT [([],.int 1)])):=λb o z=>by rw[aA (aD z a6),aA (aD z a2),aA (aD z a6)];exact z
 have a3:∀{G:Hp},aC H G->bg K G Bd (l.map V.str):=λs=>s.tup b8;have b2:∀i,bX (lC (l.take i)):=λi=>rZ _ λr hr c O=>by obtain⟨z,hz,rfl⟩:=MG.mp hr;have:=Mn.mp (Mh.mp O).1;have:=z2 z (PZ hz);omega
 have c1:∀i,lC (l.take i)≠[]:=λi z=>by
  have:=jY ((l.take i).map aF) (λr hr c O=>by obtain⟨z,hz,rfl⟩:=MG.mp hr;have:=Mn.mp (Mh.mp O).1;have:=z2 z (PZ hz);omega) 0
  rw[show fO (((l.take i).map aF).map jn)=lC (l.take i)from rfl,z,aV]at this;cases this
 refine⟨_,rfl,Bd,rfl,⟨l.map V.str,a3 sG⟩,Eg (xs:=l.map V.str) (iR1 H Bd l) ⟨C0,_,_,_,_,_,_,rfl,sG,a6,aB⟩ (λi σ G _ h=>Kv h a3) ?_ ?_⟩
 .rintro i x σ G ex ⟨C,a,b,c,d,e,g,rfl,sH,hC,gC⟩
  obtain⟨z,ez,rfl⟩:∃z,l[i]? =some z/\x=.str z:=by
   rw[MR]at ex;cases e:l[i]? with
   |none=>rw[e]at ex;cases ex|some z=>rw[e]at ex;exact⟨z,rfl,(MZ ex).symm⟩
  have zl:=z2 z (Ma ez);obtain⟨ct,J⟩:∃ct,ct=lC (l.take i):=⟨_,rfl⟩;have ok:bX ct:=J▸b2 i
  have ne:ba ct≠[]:=λz=>c1 i (by have:=Mw List.length z;rw[i9,J]at this;exact List.length_eq_zero_iff.mp this)
  rw[<- J]at gC;refine⟨_,rfl,C,_,rfl,gC,ne,Cq _ _ ok,λFr hFr=> ?_⟩;have u:Fr≠C:=λz=>by rw[z,gC]at hFr;cases hFr
  have a9:H Fr=none:=sH.free hFr;refine⟨_,rfl,C,ba ct,rfl,by rw[aA (NZ u)];exact gC,λo nf=> ?_⟩;obtain⟨B,hB⟩:∃B:Nat->List Int,B=λm=>jn ((List.range m).filter λc=>z.cps.toList.getD c 0==120):=⟨_,rfl⟩;refine tT (iR2 H Bd C Fr z o ct (B z.length)) ⟨_,_,_,_,rfl,λb o z=> ?_,aB,?_⟩ (λj σ G _ h=>Ku h) ?_ ?_
  .rw[aA (aD z hC),aA (aD z a9)]
   exact sH _ _ z
  .rw[aA u,aB]
   rfl
  .rintro j kk x b σ G2 a8 hb ⟨d,e,g,h,rfl,s2,c2,f2⟩
   obtain⟨t,n,S,rfl,rfl⟩:=xX a8;rw[l8]at hb;have tk:cU t:=ok.2 t (MG.mpr ⟨_,Ma S,rfl⟩);have tl:=tk.len;obtain⟨fj,a'⟩:∃fj,fj=(ct.take j).foldl (lF (B z.length)) ct:=⟨_,rfl⟩;rw[<- a']at f2;have c9:bX fj:=by rw[a'];refine mF (λc O=> ?_) ok λp hp=>ok.2 _ (MG.mpr ⟨p,PZ hp,rfl⟩);rw[hB]at O;obtain⟨c',b0,rfl⟩:=MG.mp O;have:=Mn.mp (Mh.mp b0).1;omega
   refine⟨_,rfl,z,rfl,by omega,(z.length:Int),rfl,by omega,by omega,?_⟩;rw[Na];refine oM (iR3 H Bd C Fr b z h o ct t n fj B) ⟨_,_,rfl,s2,c2,by rw[hB];exact f2,hb⟩ ?_ ?_
   .rintro m σ G3 hm ⟨e,g,rfl,s3,c3,U,b3⟩
    have d3:z.cps.toList.length=z.length:=by rw[Ml];rfl
    have Y:ci z.cps.toList (0+(m:Int))=some (z.cps.toList.getD m 0):=by rw[Om];exact bC (by rw[List.getD,MN (by omega)];rfl)
    have Bs:B (m+1)=B m++(if z.cps.toList.getD m 0==120 then[(m:Int)]else[]):=by rw[hB];show jn _=jn _++_;rw[OO,OG];unfold jn;rw[MX,Ni];cases z.cps.toList.getD m 0==120<;>rfl
    refine⟨_,rfl,_,rfl,z,_,_,rfl,rfl,by omega,Y,?_⟩;refine⟨rfl,_,rfl,EU (λhx=> ?_) (λhx=> ?_)⟩
    .have hx:(z.cps.toList.getD m 0==120)=true:=by
      have:=V.str.inj (Me hx);have q:=gq (z.cps.toList.getD m 0);rw[MO this]at q;exact q.symm
     rw[hx]at Bs;have a4:((t.map PV.int).any λy=>mM y (.int (0+(m:Int))))=t.contains (m:Int):=by
      rw[Om,List.any_map,Ms,NX,Mc]
      constructor
      .rintro⟨c,O,e⟩
       have:c=(m:Int):=Me e;rw[<- this];exact O
      .intro O
       exact⟨_,O,MO rfl⟩
     obtain⟨R,X⟩:∃R,R=(B m).foldl (eJ t n) fj:=⟨_,rfl⟩;have b9:bX R:=by rw[X];refine i6 tk c9 λc O=> ?_;rw[hB]at O;obtain⟨c',b0,rfl⟩:=MG.mp O;have:=Mn.mp (Mh.mp b0).1;omega
     have e7:(B (m+1)).foldl (eJ t n) fj=eJ t n R (m:Int):=by rw[Bs,Ny,<-X];rfl
     rw[<- X]at U;refine⟨_,rfl,_,rfl,PV.int (0+(m:Int)),t.map PV.int,rfl,?_,Rp.int.mpr rfl,.inr (Rp.tup.mpr ⟨b,t.map V.int,rfl,bg.of b3,aI.ints.mpr rfl⟩),_,rfl,EU (λhn=> ?_) (λhn=> ?_)⟩
     .rw[PD,MS]
      exact λ_ _=>rfl
     .rw[a4]at hn
      have hn:t.contains (m:Int)=false:=by simpa using hn
      refine⟨_,rfl,_,rfl,by show 1<=sizeLine;decide,λT1 a2=> ?_⟩;have nb:b≠T1:=aD b3 a2;refine⟨b,T1,t.map V.int,[.int (0+(m:Int))],rfl,rfl,bg.of (by rw[aA nb];exact b3),bg.of aB,by rw[L9,hs];show _+1<=_;omega,λP1 G4 s4 q4=> ?_⟩;refine⟨P1,t++[(m:Int)],rfl,by rw[MX];rw[Om]at q4;exact q4,by rw[MT];show _+1<64;omega,λL1 hL1=> ?_⟩;refine⟨L1,_,rfl,.inl ⟨bQ.of aB,λM1 hM1=> ?_⟩⟩;obtain⟨G5,a7⟩:∃G5,G5=L2.upd (L2.upd G4 L1 (.lst ((sortI (t++[(m:Int)])).map V.int))) M1 (.tup ((sortI (t++[(m:Int)])).map V.int)):=⟨_,rfl⟩;have sm:aC G3 G5:=by rw[a7];exact(aG a2 _).trans (s4.trans ((aG hL1 _).trans (aG hM1 _)))
      have hM:G5 M1=some (.tup (((eQ t (m:Int)).map (Sum.inl:Int->L2.ah)).map kV)):=by rw[a7,l8];exact aB
      have c5:=sm _ _ c3;have f5:=sm _ _ U;have b5:=sm _ _ b3;have dC:fJ G5 C (.ref b) (some (.int n)):=by
       have e:eG (ba ct) (t.map Sum.inl)=some (.int n):=by rw[mO,tN ok.1 S];rfl
       rw[<- e];exact .inr ⟨ba ct,t.map Sum.inl,b,.inr ⟨o,c5⟩,rfl,by rw[l8];exact b5,rfl⟩
      obtain⟨v,I⟩:∃v,v=(fI R (eQ t (m:Int))).getD 0:=⟨_,rfl⟩;have b1:(ba R).length<sizeLine:=by rw[i9,hs];have:=b9.few;omega
      rw[<- a7];refine⟨_,rfl,Fr,rfl,.inr ⟨_,.inl f5⟩,_,rfl,_,fJ.t (k:=(eQ t (m:Int)).map Sum.inl) f5 hM,?_⟩;refine⟨_,rfl,_,rfl,C,.int n,rfl,dC,v,n,?_,rfl,?_⟩
      .rw[mO,I]
       cases fI R (eQ t (m:Int))<;>rfl
      refine⟨_,rfl,_,rfl,Fr,_,rfl,uS.t (k:=(eQ t (m:Int)).map Sum.inl) f5 hM b1,_,_,rfl,λb' o' w' => ?_,?_,?_,?_⟩
      .rw[aA (aD w' a9)]
       exact sm _ _ (s3 _ _ w')
      .rw[aA (NZ u)]
       exact c5
      .rw[aB,e7]
       unfold eJ;rw[ME (by rw[hn];simp),CH];unfold v7;rw[I]
      .rw[aA (BM b5 f5 (λz=>nomatch z))]
       exact b5
     .rw[a4]at hn
      have hn:t.contains (m:Int)=true:=by simpa using hn
      refine⟨_,_,rfl,s3,c3,?_,b3⟩;rw[e7];unfold eJ;rw[MF hn];exact U
    .have hx:(z.cps.toList.getD m 0==120)=false:=by
      cases hh:z.cps.toList.getD m 0==120 with
      |false=>rfl|true=>have q:=gq (z.cps.toList.getD m 0);rw[hh]at q;exact absurd (MO (Mw V.str (Me q))) hx
     rw[hx]at Bs;refine⟨_,_,rfl,s3,c3,?_,b3⟩;rw[Bs,ME (by simp),NH];exact U
   .rintro σ G3 ⟨e,g,rfl,s3,c3,U,b3⟩
    refine⟨_,_,_,_,rfl,s3,c3,?_⟩;rw[OQ,S,Ny,<-a'];exact U
  .rintro σ G2 ⟨d,e,g,h,rfl,s2,c2,f2⟩
   refine⟨C,o,ba ct,c2,nf,?_⟩;refine⟨_,rfl,Fr,_,_,_,_,_,_,rfl,λb' o' w' => ?_,a9,?_⟩
   .rw[aA (aD w' hC)]
    exact s2 _ _ w'
   .rw[aA u,f2,i9,Nf]
    have e9:lC (l.take (i+1))=oE (jn (aF z)) ct:=by unfold lC;rw[OQ,ez];show fO (((l.take i++[z]).map aF).map jn)=_;rw[MX,MX,MM,Nk,MM,Nk,gY,J];rfl
    rw[e9,hB];rfl
 .rintro σ G ⟨C,a,b,c,d,e,g,rfl,sH,hC,gC⟩
  rw[L9,Nf]at gC;have ok:bX (lC l):=by have:=b2 l.length;rwa [Nf]at this
  obtain⟨ct,J⟩:∃ct,ct=lC l:=⟨_,rfl⟩;rw[<- J]at gC ok;refine⟨by show 1<=sizeLine;decide,λL0 hL0=> ?_⟩;refine⟨L0,10,[.int 0],rfl,rfl,aB,by decide,by decide,by rw[hs];decide,λFo hFo=> ?_⟩;have c7:Fo≠L0:=λz=>by rw[z,aB]at hFo;cases hFo
  have a0:G Fo=none:=by rw[aA c7]at hFo;exact hFo
  have T:H Fo=none:=sH.free a0;have u:Fo≠C:=λz=>by rw[z,gC]at a0;cases a0
  have b6:C≠L0:=aD gC hL0;obtain⟨L,M⟩:∃L:Nat->List Int,L=λj=>(List.range 10).map λq=>wN (λt=>if t.length=q then 1 else 0) (ct.take j):=⟨_,rfl⟩;refine⟨_,rfl,C,ba ct,rfl,by rw[aA (NZ u),aA b6];exact gC,λo nf=> ?_⟩;refine tT (iR4 H Bd C Fo o ct L) ⟨_,_,_,_,_,rfl,λb o z=> ?_,aB,?_⟩ (λj σ G _ h=>Kt h) ?_ ?_
  .rw[aA (aD z hC),aA (aD z T),aA (aD z (sH.free hL0))]
   exact sH _ _ z
  .rw[aA u,aB,M]
   rfl
  .rintro j kk x b' σ G2 a8 hb ⟨a,b,c,d,e,rfl,s2,c2,f2⟩
   obtain⟨t,n,S,rfl,rfl⟩:=xX a8;rw[l8]at hb;have tk:cU t:=ok.2 t (MG.mpr ⟨_,Ma S,rfl⟩);have tl:=tk.len;have dC:fJ G2 C (.ref b') (some (.int n)):=by
    have e:eG (ba ct) (t.map Sum.inl)=some (.int n):=by rw[mO,tN ok.1 S];rfl
    rw[<- e];exact .inr ⟨ba ct,t.map Sum.inl,b',.inr ⟨o,c2⟩,rfl,by rw[l8];exact hb,rfl⟩
   obtain⟨v,I⟩:∃v,v=wN (λs=>if s.length=t.length then 1 else 0) (ct.take j):=⟨_,rfl⟩;have fl:(L j).length=10:=by rw[M];simp
   have Y:ci ((L j).map V.int) (((t.map V.int).length:Nat):Int)=some (.int v):=by refine bC ?_;rw[L9,MR,M,MR,NC (by omega),I];rfl
   refine⟨_,rfl,_,rfl,b',t.map V.int,rfl,.inr (bg.of hb),Fo,_,_,_,rfl,rfl,bQ.of f2,Y,?_⟩;refine⟨_,rfl,_,rfl,C,.int n,rfl,dC,v,n,rfl,rfl,?_⟩;refine⟨_,rfl,_,rfl,b',t.map V.int,rfl,.inr (bg.of hb),Fo,_,_,t.length,rfl,rfl,f2,?_,?_⟩
   .rw[L9,L9,fl]
    exact ET (by omega)
   refine⟨_,_,_,_,_,rfl,λb o z=> ?_,?_,?_⟩
   .rw[aA (aD z T)]
    exact s2 _ _ z
   .rw[aA (NZ u)]
    exact c2
   .rw[aB]
    have e9:L (j+1)=(L j).set t.length (v+n):=by
     rw[M];refine Pp λq=> ?_;rw[PB,L9,M3,MR,MR]
     by_cases hq:q<10
     .rw[NC hq]
      have e8:∀φ:List Int->Int,wN φ (ct.take (j+1))=wN φ (ct.take j)+n*φ t:=λφ=>by rw[OQ,S];unfold wN;rw[nZ];show _+bL [(t,n)] _=_;rw[aN,cC,Int.add_zero]
      show some (wN _ (ct.take (j+1)))=_;rw[e8]
      by_cases hh:t.length=q
      .subst hh
       rw[MF rfl,MF hq,I];simp
      .simp only[ME hh,Int.mul_zero,Int.add_zero]
       rfl
     .rw[NK (by simpa using hq)]
      rw[ME (by omega)];rfl
    rw[e9,List.map_set]
  .rintro σ G2 ⟨a,b,c,d,e,rfl,s2,c2,f2⟩
   refine⟨C,o,ba ct,c2,nf,?_⟩;have fe:L (ba ct).length=gk ct:=by rw[M,i9];show(List.range 10).map _=_;rw[Nf];rfl
   rw[fe]at f2;have c4:eI (gk ct)≠[]:=λz=>by
    have h0:wN (λt=>if t.length=0 then 1 else 0) ct=1:=by rw[J];exact(jY (l.map aF) (λr hr c O=>by obtain⟨z,hz,rfl⟩:=MG.mp hr;have:=Mn.mp (Mh.mp O).1;have:=z2 z hz;omega) 0).trans (aV _ _)
    have:=AD _ z 1 (MG.mpr ⟨0,by simp,h0⟩);cases this
   refine⟨iR5 H Bd C Fo ct,⟨_,_,_,_,_,_,gk ct,rfl,λb o z=> ?_,?_,rfl,rfl⟩,?_⟩
   .rw[aA (aD z hC)]
    exact s2 _ _ z
   .rw[aA u]
    exact f2
   .rintro mm σ G3 ⟨a,b,c,d,e,xs,rfl,s3,U,tr,rfl⟩
    obtain⟨Z,y,rfl⟩:∃Z y,xs=Z++[y]:=by
     rcases List.eq_nil_or_concat xs with z|⟨Z,y,z⟩
     .rw[z]at tr
      exact absurd (tr.symm.trans (show eI []=[]from rfl)) c4
     .exact⟨Z,y,by rw[z,List.concat_eq_append]⟩
    have Y:ci ((Z++[y]).map V.int) (-1)=some (.int y):=by
     have e:uU ((Z++[y]).map V.int).length (-1)=some Z.length:=by unfold uU;rw[ME (by decide),MF (by simp;omega)];simp;omega
     unfold ci;rw[e];simp
    refine⟨_,rfl,1,rfl,Fo,_,_,_,rfl,rfl,bQ.of U,Y,?_⟩;refine⟨rfl,_,rfl,EU (λhy=> ?_) (λhy=> ?_)⟩
    .have hy:y=0:=V.int.inj (Me hy)
     subst hy;rw[gT]at tr;refine⟨λσ' G' =>∃a b c d e,σ' =[some (.ref Bd),some (.ref C),a,b,c,d,e,some (.ref Fo)]/\aC H G' /\G' Fo=some (.lst (Z.map V.int)),λσ' G' h=>by obtain⟨a,b,c,d,e,h1,N,h3⟩:=h;exact⟨Z.length,by simp,a,b,c,d,e,Z,h1,N,h3,tr,rfl⟩,?_⟩
     refine⟨_,rfl,.inl ⟨rfl,_,bQ.of U⟩,Fo,_,.int 0,rfl,rfl,U,by simp,_,_,_,_,_,rfl,λb o z=> ?_,?_⟩
     .rw[aA (aD z T)]
      exact s3 _ _ z
     .rw[aB,MX]
      simp
    .have hy:y≠0:=λz=>hy (MO (Mw V.int z))
     rw[gU Z hy,J]at tr;refine⟨_,rfl,q _ _ s3 ?_⟩;rw[<- tr];exact Rp.lst.mpr ⟨Fo,_,rfl,λ_=>⟨T,U⟩,bQ.of U,aI.ints.mpr rfl⟩
end
theorem kz(f:Nat->Int)(N:Nat)(a:∀i,i<N->0<f i)(b:∀i,N<=i->f i=0):∀M,N<=M->eI ((List.range M).map f)=(List.range N).map f
 |0,h=>by
  have:N=0:=by omega
  subst this;rfl
 |M+1,h=>by
  rw[OO,MX]
  by_cases e:N=M+1
  .subst e
   have:=a M (by omega);rw[MM,Nk,gU _ (by omega),OO,MX];rfl
  .rw[MM,Nk,b M (by omega),gT,kz f N a b M (by omega)]
theorem c64(k:Nat)(d:List Str)(w:Nat)(m:Wd d w)(h:d.length<=8)(n:w<=8):aE P (k+1) 64 [.tup (d.map .str)]=some (.lst ((yW (cN d)).map .int)):=by
 have g:∀z∈d,z.length<=8:=λz g=>by rw[m z g];exact n
 have l:dL (d.map aF):=λr hr c hcc=>by obtain⟨z,f,rfl⟩:=MG.mp hr;have:=Mn.mp (Mh.mp hcc).1;have:=g z f;omega
 refine run rfl rfl ?_;have u:kB (d.map PV.str)=some d:=by
  clear m h g l
  induction d with
  |nil=>rfl|cons z r x=>rw[MM,kB.eq_2,x];rfl
 have e:kC [.tup (d.map .str)]=some (.lst ((yW (cN d)).map .int)):=by
  unfold kC;dsimp only;rw[u,NO];rw[MF ⟨h,by rw[MS];intro z f;exact MO (g z f)⟩]
  congr 3
  obtain⟨N,e,p,s⟩:=wW (cN d) (mX d h g);have i:N<=10:=by
   by_cases q:N<=10;exact q
   .have a:=p 9 (by omega)
    have b:=lN (d.map aF) 9 0 [];rw[jj,ff _ _ _ (by rw[L9];omega)]at b;rw[show rk 9 (cN d)=0 from b]at a;omega
  have o:gk (lC d)=(List.range 10).map λj=>rk j (cN d):=by unfold gk;refine M7 λj _=> ?_;have a:=jY (d.map aF) l j;have b:=lN (d.map aF) j 0 [];rw[jj]at b;exact a.trans b.symm
  rw[o,e];exact kz _ N p s 10 i
 show eB (bo (aE P k) 1000000 Jn.body (entry Jn [.tup (d.map .str)]))=_;simp only[Jn,ze,zf,hZ,entry];have t:((List.map (λv=>TV.frz v (imm v)) [PV.tup (d.map .str)]++List.replicate (8-[PV.tup (d.map .str)].length) TV.un).take 1).map TV.valD=[.tup (d.map .str)]:=rfl;rw[t,e];rfl
theorem c8(k:Nat)(i:Int):aE P (k+1) 8 [.int i]=some (.bl true):=by refine run rfl rfl ?_;simp only[d8,entry];walk_at "ev"
noncomputable def plain:PV->Bool
 | .non=>true| .int _=>true| .str _=>true
 | .lst a=>plains a| .tup a=>plains a|_=>false
where plains:List PV->Bool
 |[]=>true|x::a=>plain x&&plains a
noncomputable def depth:PV->Nat
 | .lst a=>depths a+1| .tup a=>depths a+1|_=>1
where depths:List PV->Nat
 |[]=>0|x::a=>max (depth x) (depths a)
theorem lT:∀{b:List PV}{x:PV},plain.plains b=true->x∈b->plain x=true
 |[],_,_,h=>by cases h|y::ys,x,h,a=>by
  rw[plain.plains,MH]at h
  rcases MP.mp a with rfl|a
  .exact h.1
  .exact lT h.2 a
theorem mP:∀{b:List PV}{x:PV},x∈b->depth x<=depth.depths b
 |[],_,h=>by cases h|y::ys,x,a=>by
  rw[depth.depths]
  rcases MP.mp a with rfl|a
  .exact Nat.le_max_left _ _
  .exact Mq (mP a) (Nat.le_max_right _ _)
theorem c10(k:Nat)(c:List PV)(h:∀x∈c,aE P k 9 [x,x]=some (.bl true)):aE P (k+1) 10 [.lst c,.lst c]=some (.bl true):=by
 refine cD rfl rfl ?_;simp only[d10,entry];walk_at "ev";refine cV (xs:=List.zipWith wf c c) (n:=false) ?_ (λi f=>∃a b,f=[.frz (.lst c) false,.frz (.lst c) false,a,b]) ⟨_,_,rfl⟩ ?_ ?_
 .walk_at "ev"
  simp only[zi,BP,PN,ON];rfl
 .rintro i y f d ⟨a,b,rfl⟩
  rw[OJ]at d;cases e:c[i]? with
  |none=>rw[e]at d;cases d|some x=>rw[e]at d;cases d;refine⟨_,rfl,?_⟩;walk_at "ev";rw[h x (Ma e)];walk_at "ev";exact⟨_,_,rfl⟩
 .rintro f ⟨a,b,rfl⟩
  walk_at "ev"
theorem c9(n k:Nat)(v:PV)(hd:depth v<=n)(hp:plain v=true):aE P (2*n+k) 9 [v,v]=some (.bl true):=by
 induction n generalizing v with
 |zero=>
  cases v with
  |non=>(simp[depth]at hd)|bl b=>cases hp|int i=>(simp[depth]at hd)|str z=>(simp[depth]at hd)|lst xs=>(simp[depth]at hd)|tup xs=>(simp[depth]at hd)|dK _ _=>cases hp|dT _ _=>cases hp
 |succ n ih=>
  have e:2*(n+1)+k=(2*n+k+1)+1:=by omega
  rw[e];have inner:∀xs:List PV,depth.depths xs<=n->plain.plains xs=true->aE P (2*n+k+1) 10 [.lst xs,.lst xs]=some (.bl true):=λxs h1 h2=>c10 _ xs λx hx=>ih x (Mq (mP hx) h1) (lT h2 hx);refine run rfl rfl ?_;cases v with
  |non=>simp only[d9,entry];walk_at "ev"
  |bl b=>cases hp|int i=>simp only[d9,entry];walk_at "ev";rw[c8];walk_at "ev"
  |str z=>simp only[d9,entry];walk_at "ev"
  |lst xs=>simp only[d9,entry];walk_at "ev";rw[inner xs (by simpa [depth]using hd) (by simpa [plain]using hp)];walk_at "ev"
  |tup xs=>simp only[d9,entry];walk_at "ev";rw[inner xs (by simpa [depth]using hd) (by simpa [plain]using hp)];walk_at "ev"
  |dK _ _=>cases hp|dT _ _=>cases hp
theorem c20(k:Nat)(c:Int):∃v,aE P (k+2) 20 [.int c]=some v/\∃d:Int,0<=d/\v=.int d:=by
 refine wT rfl rfl ?_;simp only[d20,entry];walk_at "go"
 split
 .rename_i h
  walk_at "ev";refine⟨_,rfl,_,?_,rfl⟩;have h:=Me h;omega
 .walk_at "ev"
  refine cV (xs:=(List.range 8).map λi=>.int (0+(i:Nat))) (n:=true) ?_ (λi a=>∃(d:Int)(b:TV),a=[.frz (.int c) true,.frz (.int d) true,b]/\0<=d) ?_ ?_ ?_
  .rfl
  .exact⟨0,.un,rfl,by omega⟩
  .rintro i y a f ⟨d,b,rfl,e⟩
   obtain⟨m,rfl⟩:=cz f;refine⟨_,rfl,?_⟩;obtain⟨q,j,l,g⟩:=c5 k c (7*(i:Int)+3) (by omega) (by omega);walk_at "go";rw[g];walk_at "go";exact⟨_,_,rfl,by omega⟩
  .rintro a ⟨d,b,rfl,e⟩
   walk_at "ev";exact⟨_,rfl,d,e,rfl⟩
def uR(z:Str)(n:Nat):Prop:=z.length=n/\∀c∈z.cps.toList,c=120\/c=46
set_option tactic.hygienic false
theorem uR.more(h:uR z n)(b:y=("x":Str)\/y=(".":Str)):uR (z++y) (n+1):=by
 refine⟨?_,λc a=> ?_⟩
 .rw[PySem.Str.length_append,h.1]
  rcases b with rfl|rfl<;>rfl
 .rw[PySem.Str.cps_append,Array.toList_append,Mi]at a
  rcases a with a|a
  .exact h.2 c a
  .rcases b with rfl|rfl
   .have:c∈[120]:=a
    simp at this;exact .inl this
   .have:c∈[46]:=a
    simp at this;exact .inr this
noncomputable def pick(b:Bool):Str:=if b then "x" else "."
theorem Dr(b:Bool):ci [PV.str ".",PV.str "x"] (if b then 1 else 0)=some (.str (pick b)):=by cases b<;>rfl
theorem Aw(b:Bool):(pick b).length=1:=by cases b<;>rfl
theorem yZ(b:Bool):pick b=("x":Str)\/pick b=(".":Str):=by cases b;exact .inr rfl;exact .inl rfl
theorem G7{j:Int}(b:0<=j)(c:j<=100):(0:Int)<1*2^j.toNat/\(1:Int)*2^j.toNat<2^200:=by
 have d:(0:Int)<2^j.toNat:=Int.pow_pos (by decide);refine⟨by omega,?_⟩;have a:(2:Nat)^j.toNat<2^200:=Nat.pow_lt_pow_right (by decide) (by omega);rw[Int.one_mul]
 exact_mod_cast a
abbrev bI1(x c R C h:Int)(m i:Nat)(j:En):Prop:=∃(f:List Str)(a b d e g:TV),j=[.frz (.int x) true,.frz (.int c) true,.frz (.int m) true,.frz (.int R) true,.frz (.int C) true,.frz (.int h) true,.own (f.map .str) true,a,b,d,e,g]/\f.length=i/\∀r∈f,uR r C.toNat
abbrev bI2(x c R C a:Int)(m:Nat)(b:List Str)(i:Int)(j:Nat)(f:En):Prop:=∃(z:Str)(d e g:TV),f=[.frz (.int x) true,.frz (.int c) true,.frz (.int m) true,.frz (.int R) true,.frz (.int C) true,.frz (.int a) true,.own (b.map .str) true,.frz (.int i) true,.frz (.str z) true,d,e,g]/\uR z j
theorem c62(k:Nat)(x c:Int)(m:Nat)(m1:1<=m)(O:m<=8):∃v,aE P (k+2) 62 [.int x,.int c,.int m]=some v/\∃o:List Str,UM.L6 m o/\v=.tup (o.map .str):=by
 have Y:0<=x%(m:Int):=Pb _ (by omega);have U:x%(m:Int)<m:=O3 _ (by omega);have T:0<=x/8%(m:Int):=Pb _ (by omega);have q2:x/8%(m:Int)<m:=O3 _ (by omega);have V:(0:Int)<m:=by omega
 refine wT rfl rfl ?_;simp only[d62,entry];walk_at "go";obtain⟨R,I⟩:∃R,R=1+x%(m:Int):=⟨_,rfl⟩;obtain⟨C,M⟩:∃C,C=1+x/8%(m:Int):=⟨_,rfl⟩;obtain⟨t,L⟩:∃t,t=1+x/64%8:=⟨_,rfl⟩;rw[<- I,<-M,<-L];refine cV (xs:=(List.range R.toNat).map λi=>.int (0+(i:Nat))) (n:=true) ?_ (bI1 x c R C t m) ?_ ?_ ?_
 .walk_at "ev"
  simp only[kT,cO];rw[MF ⟨by omega,by omega⟩];rfl
 .exact⟨[],.un,.un,.un,.un,.un,rfl,rfl,λr hr=>by cases hr⟩
 .rintro i y s D ⟨p,a,b,d,e,g,rfl,A,l⟩
  obtain⟨X,rfl⟩:=cz D;refine⟨_,rfl,?_⟩;walk_at "ev";refine cV (xs:=(List.range C.toNat).map λi=>.int (0+(i:Nat))) (n:=true) ?_ (bI2 x c R C t m p i) ?_ ?_ ?_
  .walk_at "ev"
   simp only[kT,cO];rw[MF ⟨by omega,by omega⟩];rfl
  .exact⟨_,d,e,g,rfl,rfl,λc hc=>by cases hc⟩
  .rintro j y s D ⟨z,d,e,g,rfl,w⟩
   obtain⟨Q,rfl⟩:=cz D;refine⟨_,rfl,?_⟩;have B:0<=C*(i:Int)+(j:Int)/\C*(i:Int)+(j:Int)<=100:=by have Z:(0:Int)<=C*(i:Int):=Int.mul_nonneg (by omega) (by omega);have W:C*(i:Int)<=8*8:=Int.mul_le_mul (by omega) (by omega) (by omega) (by omega);omega
   have J:=w.1;have E:∀b,z.length+(pick b).length<=LN:=λb=>by rw[Aw];show z.length+1<=16777216;omega
   have G:=G7 B.1 B.2;walk_at "go"
   have u:∀(b:Bool)(s:En),s=[.frz (.int x) true,.frz (.int c) true,.frz (.int m) true,.frz (.int R) true,.frz (.int C) true,.frz (.int t) true,.own (p.map .str) true,.frz (.int i) true,.frz (.str z) true,.frz (.int j) true,.frz (.int (C*(i:Int)+(j:Int))) true,.frz (.bl b) true] -> To (bo (aE P (k+1)) 1000000 (.cons (.asg 8 false [] (.bin .Add (.var 8) (.ix (.lst (.cons (.con (.str ".")) (.cons (.con (.str "x")) .nil))) (.bf .int (.cons (.var 11) .nil))))) .nil) s) λf=>match f with
      | .nx F=>bI2 x c R C t m p i (j+1) F|_=>False:=by
    rintro b s rfl;have:=E b;walk_at "go";rw[Dr];walk_at "go";exact⟨_,_,_,_,rfl,w.more (yZ b)⟩
   split
   .obtain⟨q,N,S,K⟩:=c5 k c (C*(i:Int)+(j:Int)) B.1 (by omega)
    walk_at "ev";rw[K];walk_at "go";refine(u _ _ rfl).imp λf h=> ?_;cases f<;>first|exact h|exact h.elim
   .walk_at "ev"
    refine(u _ _ rfl).imp λf h=> ?_;cases f<;>first|exact h|exact h.elim
  .rintro s ⟨z,d,e,g,rfl,w⟩
   rw[ki]at w;walk_at "ev";rw[fP rfl (by rw[L9];show p.length<16777216;omega)];walk_at "ev";refine⟨p++[z],_,_,_,_,_,by rw[MX];rfl,by rw[MT,A];rfl,λr hr=> ?_⟩
   rcases Mi.mp hr with h|h
   .exact l r h
   .have H:r=z:=by simpa using h
    rw[H];exact w
 .rintro s ⟨p,a,b,d,e,g,rfl,A,l⟩
  rw[ki]at A;walk_at "ev";refine⟨_,rfl,p,⟨?_,by omega,⟨C.toNat,by omega,by omega,λr hr=>(l r hr).1⟩,λr hr=>(l r hr).2⟩,rfl⟩;intro z;rw[z]at A;simp at A;omega
section
open PySem.Spec PyProof.Rows
noncomputable abbrev lR:List Str:=["choices","holders","row","tried"]
theorem KF:ck N110 lR (aZ AY):=⟨rfl,rfl,rfl,by decide +kernel,rfl,by decide +kernel,by decide +kernel⟩
noncomputable def jA(T:List Int):List (L2.ah×V):=T.map λc=>(Sum.inl c,V.bl true)
theorem CJ(T:List Int)(c:Int):(eG (jA T) (Sum.inl c)).isSome=T.contains c:=by
 unfold eG jA
 induction T with
 |nil=>rfl|cons d T f=>
  rw[MM,NP,OH]
  by_cases e:d=c;simp[e]
  .have b:¬((Sum.inl d:L2.ah)=Sum.inl c):=λz=>e (Sum.inl.inj z)
   have a:(c==d)=false:=by simpa using λz:c=d=>e z.symm
   simp only[b,Oj,a,Bool.false_or];exact f
section
variable{n:Nat}{rec:aX->Int->List Int->Bool×aX×List Int}{row c r:Int}{cs:List Int}{H H' :aX}{T T' :List Int}
theorem GY(h:T.contains c=true):iI rec row (c::cs) H T=iI rec row cs H T:=by show(if T.contains c=true then _ else _)=_;rw[MF h]
theorem AK(h:T.contains c=false)(e:az H c=none):iI rec row (c::cs) H T=(true,cZ H c row,T++[c]):=by unfold iI;rw[ME (by rw[h];exact MI),e]
theorem DM(h:T.contains c=false)(e:az H c=some r)(k:rec H r (T++[c])=(true,H',T')):iI rec row (c::cs) H T=(true,cZ H' c row,T'):=by unfold iI;rw[ME (by rw[h];exact MI),e];dsimp only;rw[k]
theorem AJ(h:T.contains c=false)(e:az H c=some r)(k:rec H r (T++[c])=(false,H',T')):iI rec row (c::cs) H T=iI rec row cs H' T' :=by show(if T.contains c=true then _ else _)=_;rw[ME (by rw[h];exact MI),e];dsimp only;rw[k]
set_option tactic.hygienic true
theorem o9(a:∀H r T,(rec H r T).2.1.length<=H.length+n):∀{g:List Int}{H:aX}{T:List Int},(∀H r T d l,rec H r T=(false,d,l)->d =H)->(iI rec row g H T).2.1.length<=H.length+(n+1)
 |[],H,T,_=>by show H.length<=_;omega|c::g,H,T,hf=>by
  unfold iI
  split;exact o9 a hf
  .split
   .have:=lO H c row
    dsimp only;omega
   .rename_i r e
    have f:=a H r (T++[c]);cases i:rec H r (T++[c])with
    |mk b w=>
     obtain⟨h,k⟩:=w;rw[i]at f;dsimp only at f;cases b with
     |true=>have:=lO h c row;dsimp only;omega
     |false=>have j:=hf H r (T++[c]) h k i;subst j;exact o9 a hf
set_option tactic.hygienic false
theorem ue{C:List (List Int)}:∀{n:Nat}{H:aX}{row:Int}{T:List Int},(tk C n H row T).2.1.length<=H.length+n
 |0,H,row,T=>MJ _|n+1,H,row,T=>o9 (λH r T=>ue) (λH r T H' T' h=>iH h)
theorem tk8(e:T.Nodup)(d:∀c∈T,0<=c/\c<8):T.length<=8:=je (U:=[0,1,2,3,4,5,6,7]) e λx hx=>by obtain⟨a,b⟩:=d x hx;simp only[MP];omega
end
theorem CI(h:T.contains c=false):dA (jA T) (Sum.inl c) (V.bl true)=jA (T++[c]):=by
 unfold dA;rw[ME]
 .unfold jA
  rw[MX];rfl
 .intro z
  rw[NX]at z;obtain⟨q,a,e⟩:=z;unfold jA at a;obtain⟨d,b,rfl⟩:=MG.mp a;have e:(Sum.inl d:L2.ah)=Sum.inl c:=Me e;have:=Sum.inl.inj e;subst this;rw[Mc.mpr b]at h;cases h
def cW(a b:Addr)(H c:Hp):Prop:=∀x o,x≠a->x≠b->H x=some o->c x=some o
theorem cW.trans(s:cW a b H d)(t:cW a b d c):cW a b H c:=λx o n m e=>t x o n m (s x o n m e)
theorem cW.refl:cW a b H H:=λ_ _ _ _ e=>e
def Lm(K:W.Frag)(a b:Addr)(H:Hp)(p:Addr)(d:List V):Prop:=∀c,cW a b H c ->bQ K c p d
theorem Lm.to{K:W.Frag}(s:cW a b H c)(h:Lm K a b H p d):Lm K a b c p d:=λH2 s2=>h H2 (s.trans s2)
def Fj(K:W.Frag)(H:Hp)(a b:Addr)(d:List V)(C:List (List Int)):Prop:=d.length=C.length/\∀(i:Nat)(c:List Int),C[i]? =some c->∃p,d[i]? =some (.ref p)/\Lm K a b H p (c.map V.int)
theorem Fj.to{K:W.Frag}(s:cW a b H c)(h:Fj K H a b d C):Fj K c a b d C:= ⟨h.1,λi ns e=>by obtain⟨p,f,g⟩:=h.2 i ns e;exact⟨p,f,g.to s⟩⟩
def spT(K:W.Frag)(n:Nat):Sp:=λvs H Q _=>∃(h b d:Addr)(g:List V)(C:List (List Int))(e:aX)(a:Int)(T:List Int),vs=[.ref h,.ref b,.int a,.ref d]/\Lm K b d H h g/\Fj K H b d g C/\H b=some (.dK (bB e))/\H d=some (.dK (jA T)) /\ b≠d/\(0<=a/\a<C.length)/\C.length<=8/\(∀i∈C,i.length<=100)/\(∀r,∀c∈gx C r,0<=c/\c<8)/\(∀q∈e,0<=q.2/\q.2<C.length)/\e.length+n<=1000/\T.Nodup/\(∀c∈T,0<=c/\c<8)/\8<n+1+T.length /\ ∀f,cW b d H f ->f b=some (.dK (bB (tk C (n+1) e a T).2.1))->f d=some (.dK (jA (tk C (n+1) e a T).2.2))->Q (.bl (tk C (n+1) e a T).1) f
def KB(K:W.Frag):Nat->Sp
 |0=>λ_ _ _ _=>False|n+1=>spT K n
theorem BA{K:W.Frag}(D:GD K mg "takes_column" AY lR f fd)(n:Nat)(F:bv p w K mg O kd n f fd lR (KB K n)):bv p w K mg O kd (n+1) f fd lR (spT K n):=by
 refine D.fn.ok KF (λvs H Q E h=> ?_) (λcdv A outer s0 H vs Q E hr h=> ?_)
 .obtain⟨p0,s,u,us,C,l,g,T,rfl,_⟩:=h
  rfl
 obtain⟨p0,s,u,us,C,l,g,T,rfl,a0,ca,b3,a9,n3,b7,c8,cl,cc,hh,hz,a8,a',hn,q⟩:=h;have nd:=KF.nd;have hu:=Bu hr;have hs:sizeLine=16777216:=M8
 refine⟨_,ak (d7 NS rfl (gA (n8 fA (pv 0) (pv 2) (λ_ _=>rfl))) (aq (i:=4) nd rfl (Or.inl rfl)) (aw (sC (Ap (n9 hu (pv 4) (pv 3))) (ak (kl hu (pv 3) (pv 4) wd rfl) (aw (sC (PW.pt (Fw (Ap (n9 hu (pv 4) (pv 1))) (Aj (Gx (pT F hr rfl D.nm D.fn.kp D.bd .nil A5 (aK (pv 0) (aK (pv 1) (aK (pS hu (pv 1) (pv 4) (λ_ _=>rfl)) (aK (pv 3) ac))))))))) (ak (kl hu (pv 1) (pv 4) (pv 2) rfl) (aw (ja wd))) iV))) iV))) (aw (ja wd)),?_⟩
 obtain⟨m,a3⟩:∃m,C[g.toNat]? =some m:=⟨_,MN (by omega)⟩;have a5:gx C g=m:=by unfold gx;rw[ML,a3];rfl
 obtain⟨pr,b1,a6⟩:=ca.2 _ _ a3;have b2:ci us g=some (.ref pr):=by have:=bC b1;rw[show((g.toNat:Nat):Int)=g by omega]at this;exact this
 refine⟨_,rfl,_,rfl,p0,us,_,.ref pr,rfl,rfl,a0 _ cW.refl,b2,?_⟩;have b4:tk C (n+1) l g T=iI (tk C n) g m l T:=by show iI (tk C n) g (gx C g) l T=_;rw[a5]
 rw[b4]at q;have b5:∀c∈m,0<=c/\c<8:=λc hc=>cc g c (by rw[a5];exact hc);refine⟨pr,rfl,⟨_,a6 _ cW.refl⟩,tS (xs:=m.map V.int) (λi σ G=>∃j a,iI (tk C n) g m l T=iI (tk C n) g (m.drop i) l j/\j.Nodup/\(∀c∈j,0<=c/\c<8)/\T.length<=j.length/\cW s u H G/\G s=some (.dK (bB l))/\G u=some (.dK (jA j))/\σ=[some (.ref p0),some (.ref s),some (.int g),some (.ref u),a]) ⟨T,none,rfl,a8,a',MJ _,cW.refl,b3,a9,rfl⟩ ?_ ?_ ?_⟩
 .rintro i σ G _ ⟨j,a,_,_,_,_,Z,_,_,_⟩
  exact a6 _ Z
 .rintro i x σ G J ⟨j,a,S,v,M,X,Z,gh,gt,rfl⟩
  obtain⟨c,a7,rfl⟩:∃c,m[i]? =some c/\x=.int c:=by
   rw[MR]at J;cases e:m[i]? with
   |none=>rw[e]at J;cases J|some c=>rw[e]at J;cases J;exact⟨c,rfl,rfl⟩
  have Y:m.drop i=c::m.drop (i+1):=by obtain⟨z1,z2⟩:=MV.mp a7;rw[Np z1,z2]
  obtain⟨b0,b8⟩:=b5 c (Ma a7);refine⟨_,rfl,_,rfl,u,_,rfl,fJ.k (k:=Sum.inl c) gt,?_⟩;refine⟨_,rfl,?_⟩;rw[CJ];cases P:j.contains c with
  |true=>refine pe ?_;refine⟨j,_,?_,v,M,X,Z,gh,gt,rfl⟩;rw[S,Y,GY P]
  |false=>
   refine nD ?_;have tl:j.length<=8:=tk8 v M;refine⟨_,rfl,_,rfl,u,_,rfl,.inl ⟨_,Sum.inl c,gt,rfl,by unfold jA;rw[L9,hs];omega,rfl⟩,?_⟩;rw[CI P];obtain⟨G1,L⟩:∃G1,G1=L2.upd G u (.dK (jA (j++[c]))):=⟨_,rfl⟩;rw[<- L];have a4:G1 u=some (.dK (jA (j++[c]))):=by rw[L,aB]
   have N:G1 s=some (.dK (bB l)):=by rw[L,aA n3];exact gh
   have y:cW s u H G1:=λx o a1 a2 e=>by rw[L,aA a2];exact Z x o a1 a2 e
   refine⟨_,rfl,_,rfl,s,_,rfl,fJ.k (k:=Sum.inl c) N,?_⟩;rw[qO];cases hg:az l c with
   |none=>
    refine⟨_,rfl,nD ?_⟩;refine nD ?_;refine⟨_,rfl,_,rfl,_,rfl,s,_,rfl,.inl ⟨_,Sum.inl c,N,rfl,by unfold bB;rw[L9,hs];omega,rfl⟩,?_⟩;rw[qN];have e1:iI (tk C n) g m l T=(true,cZ l c g,j++[c]):=by rw[S,Y,AK P hg]
    rw[e1]at q;exact q _ (λx o a1 a2 e=>by rw[aA a1];exact y x o a1 a2 e) aB (by rw[aA (NZ n3)];exact a4)
   |some r=>
    refine⟨_,rfl,pe ?_⟩;obtain⟨r0,r1⟩:=hh _ (iz hg);have R:(j++[c]).Nodup:=by rw[M5];refine⟨v,by simp,λa ha x J z=> ?_⟩;rw[Mj]at J;subst J z;rw[Mc.mpr ha]at P;cases P
    have U:∀d∈j++[c],0<=d/\d<8:=λd Y=>by
     rcases Mi.mp Y with z|z
     .exact M d z
     .rw[Mj.mp z]
      exact⟨b0,b8⟩
    have b6:=tk8 R U;rw[MT,Nq]at b6;cases n with
    |zero=>omega|succ n=>
    refine⟨_,rfl,_,rfl,_,rfl,_,rfl,s,.int r,rfl,?_,?_⟩
    .have:=fJ.k (k:=Sum.inl c) N
     rw[qO,hg]at this;exact this
    .refine⟨_,rfl,?_⟩
     refine⟨p0,s,u,us,C,l,r,j++[c],rfl,a0.to y,ca.to y,N,a4,n3,⟨r0,r1⟩,c8,cl,cc,hh,by omega,R,U,by rw[MT,Nq];omega,λG2 s2 I t=> ?_⟩;have B:=ue (C:=C) (n:=n+1) (H:=l) (row:=r) (T:=j++[c]);cases hw:tk C (n+1) l r (j++[c])with
     |mk b w=>
      obtain⟨H2,T2⟩:=w;rw[hw]at I t B;have I:G2 s=some (.dK (bB H2)):=I;have t:G2 u=some (.dK (jA T2)):=t;have B:H2.length<=l.length+(n+1):=B;refine⟨b,rfl,?_⟩;cases b with
      |true=>
       refine nD ?_;refine⟨_,rfl,_,rfl,_,rfl,s,_,rfl,.inl ⟨_,Sum.inl c,I,rfl,by unfold bB;rw[L9,hs];omega,rfl⟩,?_⟩;rw[qN];have e1:iI (tk C (n+1)) g m l T=(true,cZ H2 c g,T2):=by rw[S,Y,DM P hg hw]
       rw[e1]at q;exact q _ (λx o a1 a2 e=>by rw[aA a1];exact s2 x o a1 a2 (y x o a1 a2 e)) aB (by rw[aA (NZ n3)];exact t)
      |false=>
       refine pe ?_;have e2:=iH hw;subst e2;obtain⟨_,j2,j3,j4,_,_⟩:=AI cc R U (by rw[MT,Nq];omega) hw;refine⟨T2,_,?_,j3,j4,?_,y.trans s2,I,t,rfl⟩
       .rw[S,Y,AJ P hg hw]
       .exact Mq X (je v λx J=>j2 (Mr _ J))
 .rintro σ G ⟨j,a,S,v,M,X,Z,gh,gt,rfl⟩
  rw[L9,PM]at S;rw[S]at q;exact q G Z gh gt
theorem o0{K:W.Frag}{b:Str->Option Value}{p:Program}{w:World}{base:Heap}{f:Addr}{a:FuncData}(D:GD K b "takes_column" AY lR f a):∀n,bv p w K b base kd n f a lR (KB K n)
 |0=>⟨λvs H Q E h=>h.elim,λA outer s H args us vs Q E _ _ _ _ h=>h.elim⟩|n+1=>BA D n (o0 D n)
end
section
open PySem.Spec PyProof.Rows
theorem KH:ck N111 ["choices"] (aZ Gk):=⟨rfl,rfl,rfl,by decide +kernel,rfl,by decide +kernel,by decide +kernel⟩
theorem lv11(h:aE P k 20011 [.non]=some v):12<=k:=by
 by_cases a:12<=k;exact a
 .have:k=0\/k=1\/k=2\/k=3\/k=4\/k=5\/k=6\/k=7\/k=8\/k=9\/k=10\/k=11:=by omega
  have e:∀k,k<12->(aE P k 20011 [.non]).isNone=true:=by decide +kernel
  have:=e k (by omega);rw[h]at this;cases this
set_option tactic.hygienic true
theorem tH(h:aE P (k+1) 111 b=some r):12<=k/\∃C,b=[.lst (xi C)]/\gp C=true/\r=ga (hd C C.length):=by
 rw[vq]at h;have m:P 111=some Et:=rfl;rw[m,NO]at h
 split at h
 case isFalse=>cases h
 rename_i f;have f:b.length=1:=f
 match b,f with
 |[v],_=>
  simp only[Et,ze,zf,iB,hZ,dc,dg,C9,DA,entry,NO,ON,MM,Nk,cO]at h;cases d:aE P k 20011 [.non]with
  |none=>rw[d]at h;cases h|some x=>
   rw[d]at h;refine⟨lv11 d,?_⟩;simp only[ON,NO,pA]at h;have e:(([TV.frz v (imm v)]++List.replicate (3-[v].length) TV.un).take 1).map TV.valD=[v]:=rfl;rw[e]at h;cases a:tJ [v]with
   |none=>rw[a]at h;cases h|some i=>
    rw[a]at h;have h:some i =some r:=h;cases h;unfold tJ at a
    split at a
    case h_2=>cases a
    rename_i l c;cases c;cases g:kL l with
    |none=>rw[g]at a;cases a|some C=>
     rw[g]at a;simp only[NO]at a
     split at a
     .rename_i j
      cases a;exact⟨C,by rw[oX g],j,rfl⟩
     .cases a
set_option tactic.hygienic false
theorem F9{K:W.Frag}{g:Hp}{n:Bool}{H:Hp}:∀{C:List (List Int)}{d:List V},aI K g n (xi C) H d->d.length=C.length/\∀(i:Nat)(f:List Int),C[i]? =some f->∃p,d[i]? =some (.ref p)/\bQ K H p (f.map V.int)
 |[],d,h=>by have h:aI K g n [] H d:=h;obtain rfl:=h;exact⟨rfl,λi f e=>by simp at e⟩
 |c::C,d,h=>by
  have h:aI K g n (.lst (c.map .int)::xi C) H d:=h;obtain⟨u,r,rfl,a,b⟩:=h;obtain⟨k,m⟩:=F9 b;refine⟨by rw[MK,MK,k],λi f e=> ?_⟩;cases i with
  |zero=>
   have e:c=f:=by simpa using e
   subst e;obtain⟨p,j,rfl,_,l,o⟩:=Rp.lst.mp a;have:=aI.ints.mp o;subst this;exact⟨p,rfl,l⟩
  |succ i=>obtain⟨p,q,s⟩:=m i f (by simpa using e);exact⟨p,by simpa using q,s⟩
theorem vR{C:List (List Int)}:∀k:Nat,(hd C k).length<=9*k
 |0=>MJ _|k+1=>by have a:=vR (C:=C) k;have b:=ue (C:=C) (n:=9) (H:=hd C k) (row:=(k:Nat)) (T:=[]);show(tk C 9 (hd C k) (k:Nat) []).2.1.length<=_;omega
theorem Eb{K:W.Frag}(hle:mg "len"=none)(hra:mg "range"=none)(DC:GD K mg "takes_column" AY lR fc fdc)(D:GD K mg "holders_of" Gk ["choices"] f fd)(p:Program)(w:World)(base:Heap)(k:Nat)
  (_:∀y g,F.lookup y=some g->∃b gd qs,mg y=some (.ref b)/\W.keepIn K (.ref b)=true/\Binds K gd qs []/\bv p w K mg base kd k b gd qs (yR K (aE P k g))):bv p w K mg base kd (k+1) f fd ["choices"] (yR K (aE P (k+1) 111)):=by
 refine D.fn.ok KH (λvs H Q E h=> ?_) (λcdv A outer s H vs Q E hr h=> ?_)
 .obtain⟨pvs,r,h1,h2,_⟩:=h
  rw[<- h1.len];obtain⟨_,C,e,_⟩:=tH h2;rw[e];rfl
 obtain⟨pvs,r,h1,h2,q⟩:=h;obtain⟨hk,C,rfl,hg,rfl⟩:=tH h2;obtain⟨c8,cl,cc⟩:=vk hg;have FC:=(o0 (p:=p) (w:=w) (base:=base) DC 9).mono (k:=k) (by omega);have nd:=KH.nd;have hs:sizeLine=16777216:=M8;obtain⟨u1,_,rfl,r1,h1⟩:=h1;obtain rfl:=h1;obtain⟨p0,us,rfl,_,sq0,rl⟩:=Rp.lst.mp r1;obtain⟨ul,ua⟩:=F9 (rl.mono be)
 refine⟨_,ak (d6 (i:=1) nd rfl (Or.inl rfl) ia) (ak (d7 NS rfl (jc rfl hra (aK (bi cH rfl hle OE (aK (pv 0) ac)) ac)) (aq (i:=2) nd rfl (Or.inl rfl)) (aw (pO (pT FC hr rfl DC.nm DC.fn.kp DC.bd .nil A5 (aK (pv 0) (aK (pv 1) (aK (pv 2) (aK ia ac)))))))) (aw (ja (pv 1)))),?_⟩
 intro ph hph;obtain⟨H1,hH1⟩:∃H1,H1=L2.upd H ph (.dK []):=⟨_,rfl⟩;have s1:aC H H1:=by rw[hH1];exact aG hph _
 have h1p:H1 ph=some (.dK (bB (hd C 0))):=by rw[hH1,aB];rfl
 rw[<- hH1];refine⟨_,rfl,p0,us,rfl,.inl (s1.seq sq0),((us.length:Nat):Int),rfl,by omega,by rw[ul];omega,?_⟩;refine oM (lo:=0) (n:=((us.length:Nat):Int).toNat) (λi σ G=>∃a,σ=[some (.ref p0),some (.ref ph),a]/\aC H G/\G ph=some (.dK (bB (hd C i)))) ⟨_,rfl,s1,h1p⟩ ?_ ?_
 .rintro i σ G hi ⟨a,rfl,sG,gh⟩
  have hi:i<C.length:=by rw[<- ul];simpa using hi
  have e0:((0:Int)+(i:Nat))=((i:Nat):Int):=by omega
  rw[e0];refine⟨_,rfl,_,rfl,_,rfl,λpt hpt=> ?_⟩;obtain⟨G1,hG1⟩:∃G1,G1=L2.upd G pt (.dK []):=⟨_,rfl⟩;have sg1:aC G G1:=by rw[hG1];exact aG hpt _
  have g1t:G1 pt=some (.dK (jA [])):=by rw[hG1,aB];rfl
  have npt:H pt=none:=sG.free hpt;have nn:ph≠pt:=λz=>by rw[<- z,gh]at hpt;cases hpt
  rw[<- hG1];have key:∀H',cW ph pt G1 H' ->aC H H' :=λH' st x o e=>st x o (λz=>by rw[z,hph]at e;cases e) (λz=>by rw[z,npt]at e;cases e) (sg1 _ _ (sG _ _ e));have ok:=Bw cc i;have hl:=vR (C:=C) i;refine⟨p0,ph,pt,us,C,hd C i,(i:Nat),[],rfl,λH' st=>(key H' st).seq sq0,⟨ul,λj ns e=> ?_⟩,sg1 _ _ gh,g1t,nn,⟨by omega,by omega⟩,c8,cl,cc,λx hx=> ?_,(show(hd C i).length+8<=1000 by omega),.nil,(λc hc=>nomatch hc),(by decide),λH' st e1 e2=> ?_⟩
  .obtain⟨pj,w1,w2⟩:=ua j ns e
   exact⟨pj,w1,λH' st=>(key H' st).seq w2⟩
  .have:=ok.rows _ (MG.mpr ⟨x,hx,rfl⟩)
   omega
  .exact⟨_,rfl,key H' st,e1⟩
 .rintro σ G ⟨a,rfl,sG,gh⟩
  have e:((us.length:Nat):Int).toNat=C.length:=by omega
  rw[e]at gh;exact⟨_,rfl,q _ _ sG (nr hph gh)⟩
end
theorem c111(k:Nat)(C:List (List Int))(c:gp C=true):aE P (k+13) 111 [.lst (xi C)]=some (ga (hd C C.length)):=by
 refine run rfl rfl ?_;have a:aE P (k+12) 20011 [.non]=some .non:=rfl;have b:tJ [.lst (xi C)]=some (ga (hd C C.length)):=by unfold tJ;dsimp only;rw[oY];simp only[NO];rw[MF c]
 simp only[Et,ze,zf,iB,hZ,dc,dg,C9,DA,entry,NO,ON,MM,Nk,cO,sc];rw[a];simp only[ON,NO,pA];have e:(([TV.frz (PV.lst (xi C)) (imm (PV.lst (xi C)))]++List.replicate (3-[PV.lst (xi C)].length) TV.un).take 1).map TV.valD=[.lst (xi C)]:=rfl;rw[e,b];rfl
theorem BK(x:Int)(l:List Int):ai .NotIn (.int x) (.lst (l.map .int))=some (!l.contains x):=by
 show(xK _ _).map _=_;unfold xK;rw[MF ⟨rfl,by rw[PD,MS];intro y _;rfl⟩,ON,List.any_map]
 congr 2
 rw[Ms,NX,Mc]
 constructor
 .rintro⟨y,a,e⟩
  have e:decide (y=x)=true:=e;rw[<- Me e];exact a
 .intro a
  exact⟨x,a,by show decide (x=x)=true;exact MO rfl⟩
theorem vU(z:Str):List.zipWith fS (List.range z.length) (signs z)=(List.range z.length).map λc=>fS c (.str ⟨#[z.cps.toList.getD c 0]⟩):=by
 refine List.ext_getElem (by rw[OX,cJ,L9,Nat.min_eq_left (by rw[M3];exact MJ _)]) λi h1 h2=> ?_;have b:i<z.length:=by simpa using h2
 have a:i<z.cps.toList.length:=by rw[Ml];exact b
 rw[List.getElem_zipWith,OB,List.getElem_range]
 congr 1
 unfold signs;rw[OB,ML,MN a];rfl
theorem c109(k:Nat)(z:Str)(a:z.length<=8):aE P (k+1) 109 [.str z]=some (.lst ((aF z).map λc=>.int (c:Nat))):=by
 refine cD rfl rfl ?_;simp only[LQ,entry];walk_at "ev";rw[show oS (.frz (.str z) true)=some (List.zipWith fS (List.range z.length) (signs z),true)from rfl,vU];walk_at "ev";rw[MF (by rw[L9,M3];omega),bt (p:=λc=>z.cps.toList.getD c 0==120) (g:=λc=>PV.int (c:Nat)) (λc hc=>by
  show(lZ (.tup [.int (c:Nat),.str ⟨#[z.cps.toList.getD c 0]⟩])).bind _=_;simp only[lZ];walk_at "ev";rw[gq];cases z.cps.toList.getD c 0==120
  .walk_at "ev"
  .walk_at "ev")]
 walk_at "ev";rfl
theorem Ih(a c:Int×Int):ai .Gt (aJ a) (aJ c)=some (dq c a):=by
 have f:∀q:Int×Int,dH 12 (aJ q)=true:=λq=>rfl;show gtT (aJ a) (aJ c)=_;unfold gtT;rw[f,f,Bool.and_self,MF rfl];show(if decide (a.1=c.1)=true then(if decide (a.2=c.2)=true then some false else some (decide (c.2<a.2)))else some (decide (c.1<a.1)))=_;unfold dq
 by_cases b:a.1=c.1
 .rw[MF (MO b),MF b.symm]
  by_cases d:a.2=c.2
  .rw[MF (MO d),show decide (c.2<a.2)=false from MU (by omega)]
  .rw[ME (by simpa using d)]
 .rw[ME (by simpa using b),ME (λz=>b z.symm)]
theorem zG{b:Type}(a:List b)(m:Nat):cut a (some ((m:Nat):Int)) none=a.drop m:=by
 unfold cut;rw[HT.rV,HT.kh]
 by_cases h:m<=a.length;rw[Nat.min_eq_left h,List.take_of_length_le (by rw[N7];omega)]
 .rw[Nat.min_eq_right (by omega),List.drop_of_length_le (MJ _),List.drop_of_length_le (by omega),List.take_nil]
set_option tactic.hygienic true
theorem um:slice (.frz (.tup a) n) (some ((m:Nat):Int)) none=some (.frz (.tup (a.drop m)) n):=by
 rw[iN,zG]
 split
 .rename_i h
  obtain⟨b,_⟩:=h;rw[HT.kh]at b
  by_cases c:m=0;rw[c,List.drop_zero]
  .have:a.length=0:=by omega
   rw[List.eq_nil_of_length_eq_zero this,List.drop_nil]
 .rfl
set_option tactic.hygienic false
theorem zI(d:∀x∈b,0<=x.2)(c:Nat):(b.map (·.2)).contains (c:Int)=(ay b).contains c:=by
 rw[Ms,Mc,Mc];unfold ay;rw[MG,MG]
 constructor
 .rintro⟨x,a,e⟩
  exact⟨x,a,by omega⟩
 .rintro⟨x,a,e⟩
  have:=d x a;exact⟨x,a,by omega⟩
theorem c173(k:Nat)(z:Str)(a:z.length<=8)(b:List (Int×Int))(d:∀x∈b,0<=x.2):aE P (k+2) 173 [.str z,.lst ((b.map (·.2)).map .int)]=some (.lst ((((aF z).filter λc=> !(ay b).contains c).map λc:Nat=>(c:Int)).map .int)):=by
 refine cD rfl rfl ?_;simp only[LG,entry];have e:(aF z).length<=8:=by unfold aF;refine Mq (Mu _ _) ?_;rw[M3];exact a
 walk_at "ev";rw[c109 k z a];walk_at "ev";rw[MF (by rw[L9];omega),bt (p:=λc:Nat=> !(ay b).contains c) (g:=λc=>PV.int (c:Nat)) (λc hc=>by
  walk_at "ev";rw[BK,zI d];cases(ay b).contains c;walk_at "ev"
  .walk_at "ev")]
 walk_at "ev";rw[Mg];rfl
theorem c174(k:Nat)(d:List Str)(w a:Nat)(b:List (Int×Int))(u:Wd d w)(M:d.length<=8)(K:w<=8)(t:∀x∈b,0<=x.1/\0<=x.2)(D:b.length<=1000):aE P (k+14) 174 [.tup (d.map .str),.tup (b.map aJ),.int (a:Nat)]=some (.bl (Ec (d.map aF) a b)):=by
 have J:=bG d;have G:imms (b.map aJ)=true:=av b;have j:=Lb (k+12) b D;have l:=Lc (k+12) b λx hx=>(t x hx).1;obtain⟨C,m⟩:∃C,C=yy ((d.map aF).drop (bF b)) (ay b):=⟨_,rfl⟩;have A:C.length=((d.map aF).drop (bF b)).length:=by rw[m];unfold yy;rw[L9]
 have y:gp C=true:=by
  rw[m];unfold gp yy;rw[MH];refine⟨MO (by rw[L9,N7,L9];omega),?_⟩;rw[PD,MS];intro L q;obtain⟨z,r,rfl⟩:=MG.mp (Nv q);have B:=u z r;show(decide (_<=100)&&_)=true;rw[MH];have o:∀c∈(aF z).filter λc=> !(ay b).contains c,c<8:=λc i=>by have i:=(Mh.mp (Mh.mp i).1).1;rw[Mn]at i;omega
  refine⟨MO ?_,?_⟩
  .rw[L9]
   refine Mq (Mu _ _) ?_;unfold aF;refine Mq (Mu _ _) ?_;rw[M3];omega
  .rw[PD,MS]
   intro c i;have:=o c i;show(decide ((0:Int)<=(c:Nat))&&decide (((c:Nat):Int)<8))=true;rw[MH];exact⟨MO (by omega),MO (by omega)⟩
 have e:=c111 k C y;rw[A]at e;have f:(hd C ((d.map aF).drop (bF b)).length).length<=100:=by have:=vR (C:=C) ((d.map aF).drop (bF b)).length;rw[N7,L9]at this ⊢;omega
 refine cD rfl rfl ?_;simp only[LF,entry];walk_at "ev";rw[J,G,j];walk_at "ev";rw[l];walk_at "ev";rw[<- iN (n:=true),um];walk_at "ev";rw[<- Ps,MF (by rw[L9,N7];omega),fC (h:=PV.str) (g:=λz=>PV.lst ((((aF z).filter λc=> !(ay b).contains c).map λc:Nat=>(c:Int)).map .int)) (λz r=>by have I:=c173 (k+11) z (by have:=u z (Nv r);omega) b λx hx=>(t x hx).2;walk_at "ev";rw[I];walk_at "ev")]
 walk_at "ev";have F:(d.drop (bF b)).map (λz=>PV.lst ((((aF z).filter λc=> !(ay b).contains c).map λc:Nat=>(c:Int)).map .int))=xi C:=by rw[m];unfold xi yy;rw[Mg,<-Ps,Mg];rfl
 rw[F];obtain⟨H,s⟩:∃H,H=hd C ((d.map aF).drop (bF b)).length:=⟨_,rfl⟩;rw[<- s]at e f;have v:Ec (d.map aF) a b=decide (b.length<=a/\a-b.length<=H.length):=by rw[s,m];rfl
 rw[v]
 by_cases E:b.length<=a
 .rw[L9,MO (show(0:Int)<=(a:Int)-(b.length:Int)by omega)]
  walk_at "ev";rw[e];walk_at "ev";rw[show fV (mz (ga H)).val=some H.length by show some (H.map λp:Int×Int=>(Sum.inl p.1:IR.ah)).length=_;rw[L9]];walk_at "ev";rw[show decide ((a:Int)-(b.length:Int)<=(H.length:Int))=decide (b.length<=a/\a-b.length<=H.length)from OY.mpr (by omega)];walk_at "ev"
 .rw[L9,MU (show¬(0:Int)<=(a:Int)-(b.length:Int)by omega),MU (show¬(b.length<=a/\a-b.length<=H.length)from λz=>E z.1)]
  walk_at "ev"
theorem G9(h:Pl a w b):∀x∈b,0<=x.1/\0<=x.2:=λx hx=>by have:=cell_in (h.cell x hx);omega
noncomputable def F3(a:List Str)(w d:Nat)(b:List (Int×Int))(c:Int×Int)(i:Nat):List (Int×Int):=((cI a w).take i).foldl (uV (a.map aF) d c) b
theorem B9(e:(cI a w)[i]? =some q):F3 a w d b c (i+1)=uV (a.map aF) d c (F3 a w d b c i) q:=by unfold F3;rw[List.take_succ,e,Ny];rfl
theorem c175(k:Nat)(d:List Str)(w g:Nat)(b:List (Int×Int))(f:Int×Int)(p:Wd d w)(D:d≠[])(s:d.length<=8)(r:w<=8)(A:Pl d w b):aE P (k+15) 175 [.tup (d.map .str),.tup (b.map aJ),aJ f,.int (g:Nat)]=some (.tup ((F4 (d.map aF) g b f).map aJ)):=by
 refine cD rfl rfl ?_;simp only[LD,entry];have G:=bG d;have C:imms (b.map aJ)=true:=av b;have B:imm (aJ f)=true:=rfl;walk_at "ev";rw[G,C,B];refine cV (xs:=(cI d w).map aJ) (n:=true) ?_ (λi t=>∃a c,Pl d w (F3 d w g b f i)/\t=[.frz (.tup (d.map .str)) true,.frz (.tup (b.map aJ)) true,.frz (aJ f) true,.frz (.int g) true,.frz (.tup ((F3 d w g b f i).map aJ)) true,a,c]) ⟨.un,.un,A,rfl⟩ ?_ ?_
 .walk_at "ev"
  rw[c3I (k+13) p s r];walk_at "ev"
 .rintro i y t m ⟨a,c,h,rfl⟩
  obtain⟨q,v,rfl⟩:∃q,(cI d w)[i]? =some q/\y=aJ q:=by
   rw[MR]at m;cases e:(cI d w)[i]? with
   |none=>rw[e]at m;cases m|some q=>rw[e]at m;cases m;exact⟨q,rfl,rfl⟩
  have o:bT d w (aJ q)=true:=gu.mp (Ma v);have F:=eZ h;have H:imm (aJ q)=true:=rfl;refine⟨_,rfl,?_⟩;rw[B9 v]
  generalize F3 d w g b f i=st at h F ⊢
  walk_at "ev";rw[MF (by rw[MT,L9];show st.length+1<=_;omega)];walk_at "ev";have E:st.map aJ++[aJ q]=(st++[q]).map aJ:=by rw[MX];rfl
  rw[E,Ih];cases l:dq f q with
  |false=>rw[show uV (d.map aF) g f st q=st by unfold uV;rw[ME λz=>by rw[l]at z;cases z.1]];walk_at "ev";exact⟨_,_,h,rfl⟩
  |true=>
   walk_at "ev";rw[JJ (k+11) p D s r h o];cases u:b9 st q with
   |false=>rw[show uV (d.map aF) g f st q=st by unfold uV;rw[ME λz=>by rw[u]at z;cases z.2.1]];walk_at "ev";exact⟨_,_,h,rfl⟩
   |true=>
    have j:=(iY h o).mpr u;walk_at "ev";rw[c174 k d w g (st++[q]) p s r (G9 j) (by have:=eZ j;omega)];cases x:Ec (d.map aF) g (st++[q])with
    |false=>rw[show uV (d.map aF) g f st q=st by unfold uV;rw[ME λz=>by rw[x]at z;cases z.2.2]];walk_at "ev";exact⟨_,_,h,rfl⟩
    |true=>rw[show uV (d.map aF) g f st q=st++[q]by unfold uV;rw[MF ⟨l,u,x⟩]];walk_at "ev";exact⟨_,_,j,rfl⟩
 .rintro t ⟨a,c,h,rfl⟩
  have e:F3 d w g b f ((cI d w).map aJ).length=F4 (d.map aF) g b f:=by unfold F3 F4;rw[L9,Nf,mW p]
  rw[e];walk_at "ev"
theorem smB:∀n:Nat,n<9->(Builtin.Range.small ((n:Int)-1) (-1) (-1)=true/\(Builtin.Range.rangeSize ((n:Int)-1) (-1) (-1)).toNat=n):=by decide
theorem Ac{n:Nat}(h:n<9):kT [.frz (.int ((n:Int)-1)) a,.frz (.int (-1)) b,.frz (.int (-1)) c]=some ((List.range n).map λm=>.int ((n:Int)-1+(m:Nat)*(-1))):=by obtain⟨d,e⟩:=smB n h;show(if(-1:Int)≠0/\(-1:Int).natAbs<1073741824/\Builtin.Range.small ((n:Int)-1) (-1) (-1)=true then some ((List.range (Builtin.Range.rangeSize ((n:Int)-1) (-1) (-1)).toNat).map λm=>PV.int ((n:Int)-1+(m:Nat)*(-1)))else none)=_;rw[MF ⟨by decide,by decide,d⟩,e]
theorem Eu{b:Type}(a:List b)(m:Nat):cut a none (some ((m:Nat):Int))=a.take m:=by unfold cut;rw[HT.rV,HT.kh,List.drop_zero,Nat.sub_zero,<-List.take_eq_take_min]
set_option tactic.hygienic true
theorem AT:slice (.frz (.tup a) n) none (some ((m:Nat):Int))=some (.frz (.tup (a.take m)) n):=by
 rw[iN,Eu]
 split
 .rename_i h
  obtain⟨_,b⟩:=h;rw[HT.kh]at b;rw[List.take_of_length_le (by omega)]
 .rfl
noncomputable def gL(a:List Str)(p:List (Int×Int)):PV:=match fT (a.map aF) p with
 |some q=>.tup (q.map aJ)|none=>.non
set_option tactic.hygienic false
theorem c176(k:Nat)(b:List Str)(w:Nat)(p:List (Int×Int))(r:Wd b w)(B:b≠[])(z:b.length<=8)(s:w<=8)(o:Pl b w p):aE P (k+16) 176 [.tup (b.map .str),.tup (p.map aJ)]=some (gL b p):=by
 have M:=bG b;have J:imms (p.map aJ)=true:=av p;have R:=eZ o;have E:dL (b.map aF):=by rw[fZ r];exact vb b w s
 have F:=(pR r).mp o;obtain⟨f,A⟩:∃f,f=OD.tr b9 [] (aW 0 (b.map aF)) p:=⟨_,rfl⟩;have L:fT (b.map aF) p=OD.fs f p.length:=by rw[A];exact OD.vF _ _ _
 refine cD rfl rfl ?_;simp only[LC,entry];walk_at "ev";rw[M,J,LX (k+12) r B z s o];walk_at "ev";refine cV (xs:=(List.range p.length).map λm=>.int ((p.length:Int)-1+(m:Nat)*(-1))) (n:=true) ?_ (λi t=>∃a c,t=[.frz (.tup (b.map .str)) true,.frz (.tup (p.map aJ)) true,a,c]/\i<=p.length/\fT (b.map aF) p=OD.fs f (p.length-i)) ⟨.un,.un,rfl,Mk _,L⟩ ?_ ?_
 .walk_at "ev"
  rw[L9,Ac (by omega)];walk_at "ev"
 .rintro i y t h ⟨a,c,rfl,I,d⟩
  rw[MR]at h
  by_cases H:i<p.length
  .rw[NC H]at h
   obtain⟨j,Q⟩:∃j,j=p.length-1-i:=⟨_,rfl⟩;have G:(p.length:Int)-1+((i:Nat):Int)*(-1)=((j:Nat):Int):=by omega
   have h:some (PV.int ((p.length:Int)-1+((i:Nat):Int)*(-1)))=some y:=h;rw[G]at h;cases h;have K:j<p.length:=by omega
   obtain⟨x,u⟩:∃x,p[j]? =some x:=⟨_,MN K⟩;obtain⟨g,v⟩:=Iq bR E F u;rw[<- A]at g v;have D:ci (p.map aJ) (j:Int)=some (aJ x):=bC (by rw[MR,u];rfl);have l:=c175 k b w p.length (p.take j) x r B z s (Av o (Pm _ _));have O:imm (aJ x)=true:=rfl;refine⟨_,rfl,?_⟩;walk_at "ev";rw[<- iN (n:=true),AT];walk_at "ev";rw[D];walk_at "ev";rw[<- List.map_take,L9,l];walk_at "ev";rw[L9,L9];have N:p.length-i=j+1:=by omega
   rw[N]at d;have d:fT (b.map aF) p=(f j).or (OD.fs f j):=d;cases e:f j with
   |some q=>have C:=v q e;rw[e]at g d;have g:F4 (b.map aF) p.length (p.take j) x=q:=g;rw[g,C,MO rfl];walk_at "ev";have d:fT (b.map aF) p=some q:=d;unfold gL;rw[d]
   |none=>rw[e]at g d;have g:F4 (b.map aF) p.length (p.take j) x=p.take j:=g;rw[g,Nh,MU (show¬((min j p.length:Nat):Int)=(p.length:Int)by omega)];walk_at "ev";exact⟨_,_,rfl,by omega,by rw[d,show p.length-(i+1)=j by omega];rfl⟩
  .rw[NK (by rw[M3];omega)]at h
   cases h
 .rintro t ⟨a,c,rfl,I,d⟩
  rw[L9,M3,Nat.sub_self]at d;have d:fT (b.map aF) p=none:=d;walk_at "ev";unfold gL;rw[d]
theorem EO(a c:Int×Int)(h:¬a=c):Hv (aJ a) (aJ c)=some (!dq c a):=by
 show(if decide (a.1=c.1)=true then(if decide (a.2=c.2)=true then some true else some (decide (a.2<=c.2)))else some (decide (a.1<=c.1)))=_;unfold dq
 by_cases b:a.1=c.1
 .have d:¬a.2=c.2:=λz=>h (Pg b z)
  rw[MF (MO b),ME (by simpa using d),MF b.symm]
  congr 1
  rw[Ms,NJ,Mm,Nw];omega
 .rw[ME (by simpa using b),ME (λz=>b z.symm)]
  congr 1
  rw[Ms,NJ,Mm,Nw];omega
theorem sk:∀(q p:List (Int×Int)),q.length=p.length->Km (q.map aJ) (p.map aJ)=some (!OD.lex dq p q)
 |[],[],_=>rfl|[],_::_,h=>by cases h|_::_,[],h=>by cases h|a::q,c::p,h=>by
  show(if mM (aJ a) (aJ c)=true then Km (q.map aJ) (p.map aJ)else Hv (aJ a) (aJ c))=_;rw[i7]
  by_cases e:a=c
  .subst e
   rw[MF (MO rfl),sk q p (O9 h)];show _=some (!(if a=a then OD.lex dq p q else dq a a));rw[MF rfl]
  .rw[ME (by simpa using e),EO a c e]
   show _=some (!(if c=a then OD.lex dq p q else dq c a));rw[ME (λz=>e z.symm)]
theorem vK(h:q.length=p.length):ai .LtE (.tup (q.map aJ)) (.tup (p.map aJ))=some (!OD.lex dq p q):=by
 have f:∀l:List (Int×Int),dH 12 (.tup (l.map aJ))=true:=λl=>by show(l.map aJ).all (dH 11)=true;rw[PD,MS];exact λx _=>rfl
 show leT (.tup (q.map aJ)) (.tup (p.map aJ))=_;unfold leT;rw[f,f,Bool.and_self,MF rfl];exact sk q p h
theorem Kp{a:List (Int×Int)}(h:q∈a):ai .NotIn (aJ q) (.lst (a.map aJ))=some false:=by
 have f:∀q:Int×Int,dH 12 (aJ q)=true:=λq=>rfl;show(xK (aJ q) (a.map aJ)).map (!·)=_;unfold xK;rw[ME (by intro z;exact MI z.1),MF]
 .show some (!((a.map aJ).any λy=>mM y (aJ q)))=_
  congr 1
  rw[Bool.not_eq_false',NX];exact⟨aJ q,MG.mpr ⟨q,h,rfl⟩,by rw[i7];exact MO rfl⟩
 .rw[MH]
  refine⟨f q,?_⟩;rw[PD,MS];exact λx _=>f x
theorem EE(a:List (List Nat))(b:Nat):nC a b []=cnt a [] b:=rfl
theorem vH(d:Wd a w)(i:a.length<=8)(k:w<=8)(j:Pl a w p):ci ((yW (cN a)).map PV.int) (p.length:Int)=some (.int (cnt (a.map aF) [] p.length)):=by
 obtain⟨N,e,l,f⟩:=wW (cN a) (mX a i (wd8 d k));have c:rk p.length (cN a)=cnt (a.map aF) [] p.length:=by have b:=lN (a.map aF) p.length 0 [];rw[jj]at b;exact b
 have h:=kj bR ((pR d).mp j);have g:p.length<N:=by
  by_cases q:p.length<N;exact q
  .have:=f p.length (by omega)
   rw[c]at this;omega
 refine bC ?_;rw[e,MR,MR,NC g];show some (PV.int (rk p.length (cN a)))=_;rw[c]
theorem La(k:Nat)(b:Wd a w)(d:a≠[])(e:a.length<=8)(g:w<=8)(f:Pl a w p):aE P (k+4) 167 [.tup (a.map .str),.int (p.length:Nat),.int ((bI (a.map aF) p:Nat):Int)]=some (.tup (p.map aJ)):=by have c:=(pR b).mp f;rw[c167 k a w p.length _ b d e g (by omega) (by rw[EE];exact kj bR c),<-mW b,uh bR c]
theorem Ee(a c:Int×Int)(h:¬a=c):ged (aJ a) (aJ c)=some (!dq a c):=by
 show(if decide (a.1=c.1)=true then(if decide (a.2=c.2)=true then some true else some (decide (c.2<=a.2)))else some (decide (c.1<=a.1)))=_;unfold dq
 by_cases b:a.1=c.1
 .have d:¬a.2=c.2:=λz=>h (Pg b z)
  rw[MF (MO b),ME (by simpa using d),MF b]
  congr 1
  rw[Ms,NJ,Mm,Nw];omega
 .rw[ME (by simpa using b),ME b]
  congr 1
  rw[Ms,NJ,Mm,Nw];omega
theorem tO:∀(q p:List (Int×Int)),q.length=p.length->K0 (q.map aJ) (p.map aJ)=some (!OD.lex dq q p)
 |[],[],_=>rfl|[],_::_,h=>by cases h|_::_,[],h=>by cases h|a::q,c::p,h=>by
  show(if mM (aJ a) (aJ c)=true then K0 (q.map aJ) (p.map aJ)else ged (aJ a) (aJ c))=_;rw[i7]
  by_cases e:a=c
  .subst e
   rw[MF (MO rfl),tO q p (O9 h)];show _=some (!(if a=a then OD.lex dq q p else dq a a));rw[MF rfl]
  .rw[ME (by simpa using e),Ee a c e]
   show _=some (!(if a=c then OD.lex dq q p else dq a c));rw[ME e]
theorem Im(h:q.length=p.length):ai .GtE (.tup (q.map aJ)) (.tup (p.map aJ))=some (!OD.lex dq q p):=by
 have f:∀l:List (Int×Int),dH 12 (.tup (l.map aJ))=true:=λl=>by show(l.map aJ).all (dH 11)=true;rw[PD,MS];exact λx _=>rfl
 show geT (.tup (q.map aJ)) (.tup (p.map aJ))=_;unfold geT;rw[f,f,Bool.and_self,MF rfl];exact tO q p h
theorem LY(k:Nat)(b:List Str)(w:Nat)(p:List (Int×Int))(B:Wd b w)(A:b≠[])(t:b.length<=8)(r:w<=8)(h:Pl b w p):aE P (k+2) 179 [.tup (b.map .str),.tup (p.map aJ),.int (p.length:Nat)]=some (.bl true):=by
 have D:=bG b;have z:imms (p.map aJ)=true:=av p;have E:=eZ h;have o:aE P (k+1) 66 [.tup (b.map PV.str)]=some (.lst ((cI b w).map aJ)):=by rw[<- qS];exact c66 k b w B A t r
 refine cD rfl rfl ?_;simp only[LB,entry];walk_at "ev";rw[D,z,L9,MO (show((p.length:Nat):Int)=(p.length:Int)from rfl)];walk_at "ev";rw[o];walk_at "ev";refine cV (xs:=(List.range p.length).map λi=>.int (0+(i:Nat))) (n:=true) ?_ (λi d=>∃a c,d=[.frz (.tup (b.map .str)) true,.frz (.tup (p.map aJ)) true,.frz (.int (p.length:Nat)) true,.frz (.lst ((cI b w).map aJ)) true,a,c]) ⟨_,_,rfl⟩ ?_ ?_
 .walk_at "ev"
  simp only[kT,cO];rw[MF ⟨by omega,by omega⟩];rfl
 .rintro i y d m ⟨a,c,rfl⟩
  obtain⟨v,rfl⟩:=cz m;obtain⟨x,e⟩:∃x,p[i]? =some x:=⟨_,MN v⟩;have g:ci (p.map aJ) (i:Int)=some (aJ x):=bC (by rw[MR,e];rfl);have l:x∈cI b w:=gu.mpr (h.cell x (Ma e));refine⟨_,rfl,?_⟩;walk_at "ev";rw[g];walk_at "ev";rw[Kp l];walk_at "ev";rw[show bj "tuple" (aJ x)=some true from rfl];have g:ci (p.map aJ) (i:Int)=some (.tup [.int x.1,.int x.2]):=g;walk_at "ev";refine cV (xs:=(List.range i).map λi=>.int (0+(i:Nat))) (n:=true) ?_ (λj d=>∃c,d=[.frz (.tup (b.map .str)) true,.frz (.tup (p.map aJ)) true,.frz (.int (p.length:Nat)) true,.frz (.lst ((cI b w).map aJ)) true,.frz (.int (i:Nat)) true,c]) ⟨_,rfl⟩ ?_ ?_
  .walk_at "ev"
   simp only[kT,cO];rw[MF ⟨by omega,by omega⟩];rfl
  .rintro j y d m ⟨c,rfl⟩
   obtain⟨q,rfl⟩:=cz m;obtain⟨u,f⟩:∃u,p[j]? =some u:=⟨_,MN (by omega)⟩;have C:ci (p.map aJ) (j:Int)=some (.tup [.int u.1,.int u.2]):=bC (by rw[MR,f];rfl);have F:u.1<x.1:=by have:=Pk.mp h.asc j i (by rw[L9];omega) (by rw[L9];omega) q;rw[OB,OB]at this;rw[MN (by omega)]at f e;rw[MZ f,MZ e]at this;exact this
   have s:u.2≠x.2:=by have:=Pk.mp h.cols j i (by rw[L9];omega) (by rw[L9];omega) q;rw[OB,OB]at this;rw[MN (by omega)]at f e;rw[MZ f,MZ e]at this;exact this
   refine⟨_,rfl,?_⟩;walk_at "ev";rw[C];walk_at "ev";rw[g];walk_at "ev";rw[MU (show¬x.1<=u.1 by omega)];walk_at "ev";rw[MU s];walk_at "ev";exact⟨_,rfl⟩
  .rintro d ⟨c,rfl⟩
   walk_at "ev";exact⟨_,_,rfl⟩
 .rintro d ⟨a,c,rfl⟩
  walk_at "ev"
theorem c180(k:Nat)(a:List Str)(w:Nat)(p:List (Int×Int))(D:Int)(f:Wd a w)(z:a≠[])(y:a.length<=8)(u:w<=8)(v:Pl a w p):aE P (k+3) 180 [.tup (a.map .str),.tup (p.map aJ),gL a p,.int D,.int (p.length:Nat)]=some (.bl true):=by
 have n:=bG a;have j:imms (p.map aJ)=true:=av p;obtain⟨F,m,q,rfl,t⟩:=LZ k a w D (p.length:Nat) f z y u;have E:imms (q.map aJ)=true:=av q;have e:=(pR f).mp v;have d:=(pR f).mp t;obtain⟨o,l⟩:=sV bR e;have x:=kj bR d;refine cD rfl rfl ?_;simp only[LA,entry];unfold gL;cases g:fT (a.map aF) p with
 |none=>
  have l:=l g;walk_at "ev";rw[n,j,m];walk_at "ev";rw[L9];cases b:decide ((q.length:Int)=(p.length:Int))with
  |false=>walk_at "ev"|true=>
   have b:q.length=p.length:=by have:=Me b;omega
   have c:=iT bR e d b.symm;rw[b]at x;rw[MU (show¬bI (a.map aF) p<bI (a.map aF) q by omega)]at c;walk_at "ev";rw[vK b,<-c];walk_at "ev"
 |some r=>
  obtain⟨A,B,C⟩:=o r g;have s:imms (r.map aJ)=true:=av r;walk_at "ev";rw[n,j,s,m];walk_at "ev";rw[L9];cases b:decide ((q.length:Int)=(p.length:Int))with
  |false=>walk_at "ev"|true=>
   have b:q.length=p.length:=by have:=Me b;omega
   have c:=iT bR e d b.symm;have i:=iT bR d A (by omega);walk_at "ev";rw[vK b,<-c]
   by_cases h:bI (a.map aF) p<bI (a.map aF) q
   .rw[MO h]
    rw[MU (show¬bI (a.map aF) q<bI (a.map aF) r by omega)]at i;walk_at "ev";rw[Im (by omega),<-i];walk_at "ev"
   .rw[MU h]
    walk_at "ev"
noncomputable abbrev K7(e:List Int)(g:Bool)(d:List Str)(F:Int)(p:List (Int×Int))(V:PV)(a b c:TV):En:=[.frz (.lst (e.map PV.int)) false,.frz (.bl g) true,.frz (.tup (d.map PV.str)) true,.frz (.lst ((yW (cN d)).map .int)) true,.frz (.int F) true,.frz (.tup (p.map aJ)) true,.frz (.int (p.length:Nat)) true,.frz (.int ((bI (d.map aF) p:Nat):Int)) true,.frz V true,a,b,c]
theorem ifNx(h:o=some (.nx τ))(a:To (k τ) Q):To (o.bind λf=>gJ f k) Q:=by rw[h];exact a
theorem BZ:∀e:List Int,e.length<=63->aE P 40 181 [.lst (e.map PV.int)]=some (.bl true):=by
 intro e a5;obtain⟨g,hg⟩:∃g,g=decide (e.getD 0 0/1024%32=1):=⟨_,rfl⟩;obtain⟨m,m1,m2,m3⟩:∃m:Nat,ci [PV.int 6,PV.int 8] (if g=true then 1 else 0)=some (.int (m:Nat))/\1<=m/\m<=8:=by
  cases g
  .exact⟨6,rfl,by decide,by decide⟩
  .exact⟨8,rfl,by decide,by decide⟩
 obtain⟨v6,Q,d,T,rfl⟩:=c62 37 (e.getD 0 0) (e.getD 1 0) m m2 m3;obtain⟨w,w1,w2,j⟩:=T.wide;have u:=T.some;have o:d.length<=8:=by have:=T.few;omega
 have t:w<=8:=by omega
 have Q:aE P 39 62 [.int (e.getD 0 0),.int (e.getD 1 0),.int (m:Nat)]=some (.tup (d.map PV.str)):=Q;have a0:aE P 39 4 [.lst (e.map PV.int),.int 0]=some (.int (e.getD 0 0)):=c4 38 e 0;have a1:aE P 39 4 [.lst (e.map PV.int),.int 1]=some (.int (e.getD 1 0)):=c4 38 e 1;have a2:aE P 39 4 [.lst (e.map PV.int),.int 2]=some (.int (e.getD 2 0)):=c4 38 e 2;have N:aE P 39 64 [.tup (d.map .str)]=some (.lst ((yW (cN d)).map .int)):=c64 38 d w j o t;obtain⟨Y,f,D,_,rfl⟩:=c20 37 (e.getD 2 0);have f:aE P 39 20 [.int (e.getD 2 0)]=some (.int D):=f;obtain⟨v1,S,p,rfl,z⟩:=LZ 37 d w (D/8) (D%8) j u o t;have S:aE P 39 170 [.tup (d.map .str),.int (D/8),.int (D%8)]=some (.tup (p.map aJ)):=S;have s:aE P 39 169 _=_:=JK 35 d w p j u o t z;obtain⟨V,A⟩:∃V,V=gL d p:=⟨_,rfl⟩;have v:aE P 39 176 [.tup (d.map .str),.tup (p.map aJ)]=some (gL d p):=c176 23 d w p j u o t z;rw[<- A]at v;have B:=vH j o t z;have W:=(pR j).mp z;have rp:=kj bR W;obtain⟨x1,x2⟩:=sV bR W;obtain⟨R,H⟩:∃R,R=d.map aF:=⟨_,rfl⟩;have tV:mz V=.frz V true:=by
  rw[A];unfold gL;cases fT (d.map aF) p with
  |none=>rfl|some r=>rfl
 refine cD rfl rfl ?_;simp only[K9,entry];walk_at "ev";rw[a0];walk_at "ev";rw[<- hg];walk_at "ev";rw[a0];walk_at "ev";rw[a1];walk_at "ev";rw[m1];walk_at "ev";rw[Q];walk_at "ev";rw[N];walk_at "ev";rw[a2];walk_at "ev";rw[f];walk_at "ev";rw[S];walk_at "ev";rw[L9];walk_at "ev";rw[s];walk_at "ev";rw[v];walk_at "ev";rw[tV];walk_at "ev";refine ifNx (τ:=K7 e g d D p V .un .un .un) ?_ ?_
 .cases I:fT (d.map aF) p with
  |none=>
   have X:V=.non:=by rw[A];unfold gL;rw[I]
   have x2:=x2 I;subst X;walk_at "ev";rw[B];walk_at "ev";rw[MO (show((bI (d.map aF) p:Nat):Int)=cnt (d.map aF) [] p.length-1 by omega)];rfl
  |some r=>
   have X:V=.tup (r.map aJ):=by rw[A];unfold gL;rw[I]
   obtain⟨y1,L,y3⟩:=x1 r I;have hr:Pl d w r:=(pR j).mpr y1;have l:aE P 39 179 [.tup (d.map .str),.tup (r.map aJ),.int (p.length:Nat)]=some (.bl true):=by have:=LY 37 d w r j u o t hr;rw[L]at this;exact this
   have s:aE P 39 169 _=_:=JK 35 d w r j u o t hr;have lx:=iT bR W y1 L.symm;rw[y3,MO (show bI (d.map aF) p<bI (d.map aF) p+1 by omega)]at lx;subst X;walk_at "ev";rw[l];walk_at "ev";rw[vK L,<-lx];walk_at "ev";rw[s,y3];walk_at "ev";rw[MO (show(((bI (d.map aF) p+1:Nat)):Int)=((bI (d.map aF) p:Nat):Int)+1 by omega)];rfl
 .walk_at "ev"
  refine cV (xs:=(List.range (e.length-3)).map λk=>.int (3+(k:Nat))) (n:=true) ?_ (λi J=>∃a b c,J=K7 e g d D p V a b c) ⟨_,_,_,rfl⟩ ?_ ?_
  .walk_at "ev"
   simp only[kT,cO,L9];have q:(if(63:Int)<(e.length:Int)then 63 else(e.length:Int))=(e.length:Int):=by split<;>omega
   rw[q,MF ⟨by decide,by decide,by omega,by omega⟩,show((e.length:Int)-3).toNat=e.length-3 by omega];rfl
  .rintro i y J hy ⟨a,b,c,rfl⟩
   obtain⟨a3,rfl⟩:=Df hy;refine⟨_,rfl,?_⟩;obtain⟨K,hK⟩:∃K:Int,K=3+(i:Nat):=⟨_,rfl⟩;rw[<- hK];have a4:aE P 39 4 [.lst (e.map PV.int),.int K]=some (.int (e.getD K.toNat 0)):=by have:=c4 38 e K.toNat;rw[show((K.toNat:Nat):Int)=K by omega]at this;exact this
   obtain⟨Y,f,x,_,rfl⟩:=c20 37 (e.getD K.toNat 0);have f:aE P 39 20 [.int (e.getD K.toNat 0)]=some (.int x):=f;have C:aE P 39 180 [.tup (d.map .str),.tup (p.map aJ),V,.int x,.int (p.length:Nat)]=some (.bl true):=by rw[A];exact c180 36 d w p x j u o t z
   rw[oQ];walk_at "ev";rw[a4];walk_at "ev";rw[f];walk_at "ev";rw[C];walk_at "ev"
   by_cases G:(decide (K<12)&& !g)=true
   .obtain⟨M,hM⟩:∃M:Nat,M=OD.cnt b9 [] (aW 0 R) p.length:=⟨_,rfl⟩
    have eM:((M:Nat):Int)=cnt R [] p.length:=by rw[hM];exact cv R 0 [] p.length (λx hx=>by cases hx)
    have F:∀cs∈R,cs.Pairwise (·<·):=by rw[H];exact bR
    have nd:=cR (bM (r:=0) F);rw[<- H]at rp B;rw[<- eM]at rp B;have U:(0:Int)<(M:Int):=by omega
    obtain⟨n,hn⟩:∃n:Nat,(n:Int)=x%(M:Int):=⟨(x%(M:Int)).toNat,by have:=Pb x (show(M:Int)≠0 by omega);omega⟩;have nM:n<M:=by have:=O3 x U;omega
    obtain⟨u1,O,u3⟩:=OD.jS (ok:=b9) (aW 0 R) [] p.length n nd (by rw[<- hM];exact nM);obtain⟨q,hq⟩:∃q,q=OD.kA b9 [] (aW 0 R) p.length n:=⟨_,rfl⟩;rw[<- hq]at u1 O u3;have Z:Pl d w q:=(pR j).mpr (by rw[<- H];exact(eY F).mpr u1);have ru:bI (d.map aF) q=n:=by rw[<- H];exact u3
    have E:aE P 39 167 [.tup (d.map .str),.int (p.length:Nat),.int ((n:Nat):Int)]=some (.tup (q.map aJ)):=by have:=La 35 j u o t Z;rw[O,ru]at this;exact this
    have l:aE P 39 179 [.tup (d.map .str),.tup (q.map aJ),.int (p.length:Nat)]=some (.bl true):=by have:=LY 37 d w q j u o t Z;rw[O]at this;exact this
    have h:=JK 35 d w q j u o t Z;rw[ru]at h;have h:aE P 39 169 [.tup (d.map .str),.tup (q.map aJ)]=some (.int ((n:Nat):Int)):=h;have e9:aE P 39 9 [.int ((n:Nat):Int),.int ((n:Nat):Int)]=some (.bl true):=c9 1 37 (.int ((n:Nat):Int)) (MJ _) rfl;rw[MH]at G;rw[G.1,G.2];walk_at "ev";rw[B];walk_at "ev";rw[MF U,<-hn];walk_at "ev";rw[E];walk_at "ev";rw[l];walk_at "ev";rw[B];walk_at "ev";rw[h];walk_at "ev";rw[MF U,<-hn];walk_at "ev";rw[e9];walk_at "ev";exact⟨_,_,_,rfl⟩
   .rw[show(if decide (K<12)=true then some !g else some false)=some (decide (K<12)&& !g)by cases decide (K<12)<;>rfl,Nz.mpr G]
    walk_at "ev";exact⟨_,_,_,rfl⟩
  .rintro J ⟨a,b,c,rfl⟩
   walk_at "ev"
abbrev Jr(f:Str)(e:List Str)(c:Stmt):Prop:=∀(h d i:Value)(g:Option Addr)(b ct:Value)(a:List Value),a.length=e.length->bindArgs (W.fnOf f f (cf c) (bW c) (aZ c) .none h d i g b ct) ⟨a,[]⟩=pure (e.zip a)
local macro_rules | `(tactic| walk_at "bd1")=> `(tactic| (intro _ _ _ _ _ _ us hl;obtain ⟨_,h⟩:=Hy hl;subst h;rfl))
local macro_rules | `(tactic| walk_at "bd2")=> `(tactic| (intro _ _ _ _ _ _ us hl;obtain ⟨_,_,h⟩:=Hx hl;subst h;rfl))
local macro_rules | `(tactic| walk_at "bd3")=> `(tactic| (intro _ _ _ _ _ _ us hl;obtain ⟨_,_,_,h⟩:=Kl hl;subst h;rfl))
local macro_rules | `(tactic| walk_at "bd4")=> `(tactic| (intro _ _ _ _ _ _ us hl;obtain ⟨_,_,_,_,h⟩:=Kk hl;subst h;rfl))
local macro_rules | `(tactic| walk_at "bd5")=> `(tactic| (intro _ _ _ _ _ _ us hl;obtain ⟨_,_,_,_,_,h⟩:=len5 hl;subst h;rfl))
local macro_rules | `(tactic| walk_at "sc")=> `(tactic| exact ⟨rfl,rfl,rfl,by decide +kernel,rfl,by decide +kernel,by decide +kernel⟩)
theorem nO(X:K.In h)(b:h.Ns mainGlobals a)(z:W.nsIn K mainGlobals x=some none):a x=none:=W.mg_none_of X b z
set_option tactic.hygienic true
structure FI(K:W.Frag)(nm:Str)(st:Stmt)(f:Addr)(oc kV doc pm cd ct:Value)(od an:Option Addr)(sl:Array (Option Value)):Prop where
 a:W.nsIn K mainGlobals nm=some (some (.ref f))
 l:K.lookup f=some ⟨oc,od,.func (W.fnOf nm nm (cf st) (bW st) (aZ st) .none kV doc pm an cd ct),sl⟩
 c:W.codeIn K cd nm=true
 k:W.keepIn K (.ref f)=true
section
variable{K:W.Frag}{h:Heap}{mg:Str->Option Value}{nm:Str}{ps:List Str}{st:Stmt}{f:Addr}{k:Nat}{oc kV doc pm cd ct:Value}{od an:Option Addr}{sl:Array (Option Value)}(X:K.In h)(Gh:h.Ns mainGlobals mg)(a:FI K nm st f oc kV doc pm cd ct od an sl)
include X Gh a
set_option tactic.hygienic false
theorem Kg(b:Jr nm ps st):GD K mg nm st ps f (W.fnOf nm nm (cf st) (bW st) (aZ st) .none kV doc pm an cd ct):=⟨Bz a.l a.c a.k,W.mg_of X Gh a.a,(Bz a.l a.c a.k).binds b⟩
theorem ii(N:List Str)(n:Nat)(M:List Nat)(b:Jr nm (N.take n) st)(g:ck N (N.take n) (aZ st))(e:P k=some ⟨N.length,(N.take n).length,c⟩)(d:gG 80 ⟨N,(aZ st).names,F,G,B,M⟩ (bW st)=c):wC K mg P F G B nm k f (W.fnOf nm nm (cf st) (bW st) (aZ st) .none kV doc pm an cd ct) (N.take n):=⟨.inr ⟨st,N,M,80,c,Kg X Gh a b,g,e,d⟩⟩
end
set_option tactic.hygienic false
theorem JX{l:W.OpenLaw}{w:World}{K:W.Frag}{h:Heap}{g:Str->Option Value}{fa f0 f1 f2 f3 f4 f5 f6 f7 f8 f9 c2 K8 i0 H6 g0 b0 J3 A8 h5 G8 b1 J6 h8 F0 o6 d4 w' l9 D' y H7 g2 o7:Addr}(X:K.In h)(c:h.Ns mainGlobals g)(d8:g "law"=some (.ref fa))
  {q0 x0 q1 x1 q2 x2 q3 x3 q4 x4 q5 x5 q6 x6 q7 x7 q8 x8 q9 x9 h0 G2 e1 k0 s0 I' i2 c6 l2 D4 I1 k1 G5 e0 n1 l6 n' j2 l4 G' G6 g1 B6 d1 g7 c' g6 E' s1 i' s6 F' h' e' A' I9 e4 J2 h6 M K1 j3 v4 G4 k4 o:Option Addr} {r0 r1 r2 r3 r4 r5 r6 r7 r8 r9 A0 g' C8 C4 K7 K5 o8 c1 e9 c0 I2 b9 A1 B4 o' v' D3 D2 u' l5 o1 i3 G3:Array (Option Value)} {p0 t0 u0 w0 y0 m0 p1 t1 u1 w1 y1 m1 p2 t2 u2 w2 y2 m2 p3 t3 u3 w3 y3 m3 p4 t4 u4 w4 y4 m4 p5 t5 u5 w5 y5 m5 p6 t6 u6 w6 y6 m6 p7 t7 u7 w7 y7 m7 p8 t8 u8 w8 y8 m8 p9 t9 u9 w9 y9 m9 n6 B1 e2 B7 I6 H' b7 v5 d3 c5 d5 i6 K3 F3 Q k' d7 o0 e3 b3 B8 e6 c4 d9 h7 e7 J0 J4 C1 c7 H4 C0 s7 r' B2 H8 k5 I7 o9 J7 l' I0 k3 R B5 B0 f' n8 m' B9 U B' A6 A4 i1 h3 k2 S g3 o2 l8 H5 g4 b6 D0 k6 o4 i7 J9 A3 q' N v8 A9 e5 I5 v9 A7 k9 H9 k7 s' c8 j8 A2 d2 v7 C3 y' F4 n5 J' l7 j6 K0 h9 d' D9 F5 h4 G1 D1 H0 H3 F1 x' b' l3 G9 i8 V o3 b2 F7 Z h2 p' i4 j9 k8 l0 j1 F2 K4 j0 v3 n9 d0 i9 b4 Y g9 j4 D A q r t:Value}
  {C5:Tok}
  (a0:FI K "cells_of" s3 f0 p0 t0 u0 w0 y0 m0 q0 x0 r0)
  (a1:FI K "columns_in" s109 f1 p1 t1 u1 w1 y1 m1 q1 x1 r1)
  (a2:FI K "is_number" s24 f2 p2 t2 u2 w2 y2 m2 q2 x2 r2)
  (a3:FI K "is_cell" s25 f3 p3 t3 u3 w3 y3 m3 q3 x3 r3)
  (a4:FI K "is_placing" s26 f4 p4 t4 u4 w4 y4 m4 q4 x4 r4)
  (a5:FI K "bits_of" s46 f5 p5 t5 u5 w5 y5 m5 q5 x5 r5)
  (a6:FI K "with_line" s47 f6 p6 t6 u6 w6 y6 m6 q6 x6 r6)
  (a7:FI K "takes_column" AY f7 p7 t7 u7 w7 y7 m7 q7 x7 r7)
  (a8:FI K "holders_of" Gk f8 p8 t8 u8 w8 y8 m8 q8 x8 r8)
  (a9:FI K "tails_of" s163 f9 p9 t9 u9 w9 y9 m9 q9 x9 r9)
  (c9:FI K "row_behind" s164 c2 n6 B1 e2 B7 I6 H' h0 G2 A0)
  (o5:FI K "columns_taken" s165 K8 b7 v5 d3 c5 d5 i6 e1 k0 g')
  (v1:FI K "number_beginning" s166 i0 K3 F3 Q k' d7 o0 s0 I' C8)
  (G0:FI K "placing_at" s167 H6 e3 b3 B8 e6 c4 d9 i2 c6 C4)
  (n3:FI K "start_at" s168 g0 h7 e7 J0 J4 C1 c7 l2 D4 K7)
  (j':FI K "number_of" s169 b0 H4 C0 s7 r' B2 H8 I1 k1 K5)
  (I4:FI K "free_columns" s173 J3 k5 I7 o9 J7 l' I0 G5 e0 o8)
  (B3:FI K "goes_on" s174 A8 k3 R B5 B0 f' n8 n1 l6 c1)
  (l1:FI K "first_behind" s175 h5 m' B9 U B' A6 A4 n' j2 e9)
  (J1:FI K "next_placing" s176 G8 i1 h3 k2 S g3 o2 l4 G' c0)
  (b8:FI K "_law_cell" s4 b1 l8 H5 g4 b6 D0 k6 G6 g1 I2)
  (t':FI K "_law_mixed" s5 J6 o4 i7 J9 A3 q' N B6 d1 b9)
  (z':FI K "_law_deep" s20 h8 v8 A9 e5 I5 v9 A7 g7 c' A1)
  (n7:FI K "_law_board" s62 F0 k9 H9 k7 s' c8 j8 g6 E' B4)
  (j5:FI K "_law_cells" s66 o6 A2 d2 v7 C3 y' F4 s1 i' o')
  (g8:FI K "_law_whole" s8 d4 n5 J' l7 j6 K0 h9 s6 F' v')
  (v2:FI K "_law_same" s9 w' d' D9 F5 h4 G1 D1 h' e' D3)
  (e8:FI K "_law_all_same" s10 l9 H0 H3 F1 x' b' l3 A' I9 D2)
  (J8:FI K "_law_placing" s170 D' G9 i8 V o3 b2 F7 e4 J2 u')
  (a':FI K "_law_row" s64 y Z h2 p' i4 j9 k8 h6 M l5)
  (J5:FI K "_law_is_placing" s179 H7 l0 j1 F2 K4 j0 v3 K1 j3 o1)
  (F9:FI K "_law_apart" s180 g2 n9 d0 i9 b4 Y g9 v4 G4 i3)
  (C:FI K "law" Da o7 j4 D A q r t k4 o G3)
  (z0:W.nsIn K mainGlobals "len"=some none)
  (z1:W.nsIn K mainGlobals "int"=some none)
  (z2:W.nsIn K mainGlobals "list"=some none)
  (z3:W.nsIn K mainGlobals "tuple"=some none)
  (z4:W.nsIn K mainGlobals "all"=some none)
  (z5:W.nsIn K mainGlobals "min"=some none)
  (z6:W.nsIn K mainGlobals "isinstance"=some none)
  (z7:W.nsIn K mainGlobals "str"=some none)
  (z8:W.nsIn K mainGlobals "bool"=some none)
  (z9:W.nsIn K mainGlobals "range"=some none)
  (D5:W.nsIn K mainGlobals "zip"=some none)
  (v6:W.nsIn K mainGlobals "enumerate"=some none)
  (F6:W.nsIn K mainGlobals "sorted"=some none)
  (A5:W.nsIn K mainGlobals "set"=some none)
  (F8:W.nsIn K mainGlobals "sum"=some none)
  (I3:W.nsIn K mainGlobals "reversed"=some none)
  (H1:W.nsIn K mainGlobals "dict"=some none)
  (v0:W.nsIn K mainGlobals "CELL"=some (some (.str "x" C5)))
  :
  ∃E:FuncData,(∀(s:Shared)(v:Value),BindsTo s E ⟨[v],[]⟩ [("_law_script",v)])/\∀d:Heap,K.In d->d.Ns mainGlobals g->bv l.prog w K g d kd 40 fa E ["_law_script"] (wP K):=by
 have i:∀x,B.contains x=true->g x=none:=cT (nO X c z0) (cT (nO X c z1) (cT (nO X c z2) (cT (nO X c z3) (cT (nO X c z4) (cT (nO X c z5) (cT (nO X c z6) (cT (nO X c z7) (cT (nO X c z8) (cT (nO X c z9) (cT (nO X c D5) (cT (nO X c v6) (cT (nO X c F6) (cT (nO X c A5) (cT (nO X c F8) (cT (nO X c I3) (cT (nO X c H1) (bnil)))))))))))))))));have e:=d8.symm.trans (W.mg_of X c C.a);cases e;have hG:∀x v,G.lookup x=some v->∃u w,g x=some u/\RelV w u/\∀Hi n H,Rp K Hi n v H w:=K2 ⟨_,(.str "x"),W.mg_of X c v0,⟨_,rfl⟩,λ_ _ _=>Rp.str.mpr rfl⟩ (gnil);have E0:=ii (k:=3) X c a0 N3 1 [1] (by walk_at "bd1") (by walk_at "sc") rfl (by kernel_rfl);have E1:=ii (k:=109) X c a1 N109 1 [] (by walk_at "bd1") (by walk_at "sc") rfl (by kernel_rfl);have E2:=ii (k:=24) X c a2 N24 1 [] (by walk_at "bd1") (by walk_at "sc") rfl (by kernel_rfl);have E3:=ii (k:=25) X c a3 N25 2 [] (by walk_at "bd2") (by walk_at "sc") rfl (by kernel_rfl);have E4:=ii (k:=26) X c a4 N26 2 [] (by walk_at "bd2") (by walk_at "sc") rfl (by kernel_rfl);have E5:=ii (k:=46) X c a5 N46 1 [1] (by walk_at "bd1") (by walk_at "sc") rfl (by kernel_rfl);have J:=Kg X c a6 (show Jr "with_line" ["levels","bits"] _ by walk_at "bd2");have E6:wC K g P F G B "with_line" 47 f6 _ ["levels","bits"]:=⟨.inl ⟨J.nm,J.fn.kp,J.bd,λp w b k z=>Ig (i "dict" rfl) (i "enumerate" rfl) J p w b k (z k (MJ k))⟩⟩;have I:=Kg X c a7 (show Jr "takes_column" ["choices","holders","row","tried"] _ by walk_at "bd4");have E7:wC K g P F G B "takes_column" 110 f7 _ ["choices","holders","row","tried"]:=⟨.inl ⟨I.nm,I.fn.kp,I.bd,DE (yG rfl)⟩⟩;have L:=Kg X c a8 (show Jr "holders_of" ["choices"] _ by walk_at "bd1");have E8:wC K g P F G B "holders_of" 111 f8 _ ["choices"]:=⟨.inl ⟨L.nm,L.fn.kp,L.bd,λp w b k z=>Eb (i "len" rfl) (i "range" rfl) I L p w b k (z k (MJ k))⟩⟩;have E9:=ii (k:=163) X c a9 N163 1 [] (by walk_at "bd1") (by walk_at "sc") rfl (by kernel_rfl);have T:=ii (k:=164) X c c9 N164 1 [] (by walk_at "bd1") (by walk_at "sc") rfl (by kernel_rfl);have j7:=ii (k:=165) X c o5 N165 1 [] (by walk_at "bd1") (by walk_at "sc") rfl (by kernel_rfl);have s2:=ii (k:=166) X c v1 N166 3 [] (by walk_at "bd3") (by walk_at "sc") rfl (by kernel_rfl);have C6:=ii (k:=167) X c G0 N167 3 [] (by walk_at "bd3") (by walk_at "sc") rfl (by kernel_rfl);have c3:=ii (k:=168) X c n3 N168 2 [] (by walk_at "bd2") (by walk_at "sc") rfl (by kernel_rfl);have C7:=ii (k:=169) X c j' N169 2 [] (by walk_at "bd2") (by walk_at "sc") rfl (by kernel_rfl);have C':=ii (k:=173) X c I4 N173 2 [] (by walk_at "bd2") (by walk_at "sc") rfl (by kernel_rfl);have C2:=ii (k:=174) X c B3 N174 3 [] (by walk_at "bd3") (by walk_at "sc") rfl (by kernel_rfl);have O:=ii (k:=175) X c l1 N175 4 [] (by walk_at "bd4") (by walk_at "sc") rfl (by kernel_rfl);have h1:=ii (k:=176) X c J1 N176 2 [] (by walk_at "bd2") (by walk_at "sc") rfl (by kernel_rfl);have n4:=ii (k:=4) X c b8 N4 2 [] (by walk_at "bd2") (by walk_at "sc") rfl (by kernel_rfl);have I8:=ii (k:=5) X c t' N5 2 [] (by walk_at "bd2") (by walk_at "sc") rfl (by kernel_rfl);have d6:=ii (k:=20) X c z' N20 1 [] (by walk_at "bd1") (by walk_at "sc") rfl (by kernel_rfl);have H2:=ii (k:=62) X c n7 N62 3 [6] (by walk_at "bd3") (by walk_at "sc") rfl (by kernel_rfl);have n0:=ii (k:=66) X c j5 N66 1 [1] (by walk_at "bd1") (by walk_at "sc") rfl (by kernel_rfl);have K6:=ii (k:=8) X c g8 N8 1 [] (by walk_at "bd1") (by walk_at "sc") rfl (by kernel_rfl);have n2:=ii (k:=9) X c v2 N9 2 [] (by walk_at "bd2") (by walk_at "sc") rfl (by kernel_rfl);have g5:=ii (k:=10) X c e8 N10 2 [] (by walk_at "bd2") (by walk_at "sc") rfl (by kernel_rfl);have G7:=ii (k:=170) X c J8 N170 3 [3] (by walk_at "bd3") (by walk_at "sc") rfl (by kernel_rfl);have j:=Kg X c a' (show Jr "_law_row" ["_law_board_here"] _ by walk_at "bd1");have C9:wC K g P F G B "_law_row" 64 y _ ["_law_board_here"]:=⟨.inl ⟨j.nm,j.fn.kp,j.bd,λp w b k z=>Ie (i "dict" rfl) (i "len" rfl) (i "range" rfl) (i "sorted" rfl) (i "tuple" rfl) j p w b k (z k (MJ k))⟩⟩;have b5:=ii (k:=179) X c J5 N179 3 [] (by walk_at "bd3") (by walk_at "sc") rfl (by kernel_rfl);have i5:=ii (k:=180) X c F9 N180 5 [] (by walk_at "bd5") (by walk_at "sc") rfl (by kernel_rfl);have m:=ii (k:=181) X c C N181 1 [] (by walk_at "bd1") (by walk_at "sc") rfl (by kernel_rfl);have hF:∀x f,F.lookup x=some f->∃a E ps,wC K g P F G B x f a E ps:=am ⟨_,_,_,E0⟩ (am ⟨_,_,_,E1⟩ (am ⟨_,_,_,E2⟩ (am ⟨_,_,_,E3⟩ (am ⟨_,_,_,E4⟩ (am ⟨_,_,_,E5⟩ (am ⟨_,_,_,E6⟩ (am ⟨_,_,_,E7⟩ (am ⟨_,_,_,E8⟩ (am ⟨_,_,_,E9⟩ (am ⟨_,_,_,T⟩ (am ⟨_,_,_,j7⟩ (am ⟨_,_,_,s2⟩ (am ⟨_,_,_,C6⟩ (am ⟨_,_,_,c3⟩ (am ⟨_,_,_,C7⟩ (am ⟨_,_,_,C'⟩ (am ⟨_,_,_,C2⟩ (am ⟨_,_,_,O⟩ (am ⟨_,_,_,h1⟩ (am ⟨_,_,_,n4⟩ (am ⟨_,_,_,I8⟩ (am ⟨_,_,_,d6⟩ (am ⟨_,_,_,H2⟩ (am ⟨_,_,_,n0⟩ (am ⟨_,_,_,K6⟩ (am ⟨_,_,_,n2⟩ (am ⟨_,_,_,g5⟩ (am ⟨_,_,_,G7⟩ (am ⟨_,_,_,C9⟩ (am ⟨_,_,_,b5⟩ (am ⟨_,_,_,i5⟩ (am ⟨_,_,_,m⟩ (fnil)))))))))))))))))))))))))))))))));exact⟨W.fnOf "law" "law" (cf Da) (bW Da) (aZ Da) .none D A q o r t,λs v=>.of_eq rfl,λbase _ _=>IB (Ip hG i hF 40 "law" 181 fa _ _ m) BZ⟩
theorem walk{l:W.OpenLaw}{q:Program}{c:List Str}{o:(Str->Option Value)->Heap->Prop}{i:World->Heap->Prop}{d:DefRec}{K:Params->W.Frag}(r:l.most=some 63)(g:d.params.defaults=[])
  (p:∀(w:World)(h:Heap),i w h->(K w.params).In h)
  (F:∀(w:World)(e:Str->Option Value)(m:Addr)(h:Heap),(K w.params).In h->h.Ns mainGlobals e->e d.name=some (.ref m) -> ∃j:FuncData,(∀(s:Shared)(u:Value),BindsTo s j ⟨[u],[]⟩ [("_law_script",u)])/\∀b:Heap,(K w.params).In b->b.Ns mainGlobals e->bv l.prog w (K w.params) e b kd 40 m j ["_law_script"] (wP (K w.params))):
  W.WalkO q c o i l.row.toRowW d [] (λf vs=>PySem.call f vs):=
 L2.DD (n:=63) (k:=40) (x:="_law_script") (CX:=λ_=>kd) (sp:=λw=>wP (K w.params)) r (by decide) g ⟨rfl,by decide,by decide⟩ p F (λ_ _ a ns hl _ hS=>⟨a,ns,rfl,hS,hl,λ_=>rfl⟩) λ_ _ _ _ _ z=>z
end Law
open PySem PySem.W PyProof.Rows
set_option tactic.hygienic false
set_option tactic.hygienic true
noncomputable def LH.vw:Program:={ PySem.Challenge.pw_unstruck_k53_whole_order_of_placings with main:={ PySem.Challenge.pw_unstruck_k53_whole_order_of_placings.main with body:=((PySem.Challenge.pw_unstruck_k53_whole_order_of_placings.main.body.drop 1).take 6)++((PySem.Challenge.pw_unstruck_k53_whole_order_of_placings.main.body.drop 8).take 2)++((PySem.Challenge.pw_unstruck_k53_whole_order_of_placings.main.body.drop 11).take 2)++((PySem.Challenge.pw_unstruck_k53_whole_order_of_placings.main.body.drop 14).take 2)++((PySem.Challenge.pw_unstruck_k53_whole_order_of_placings.main.body.drop 17).take 11)++((PySem.Challenge.pw_unstruck_k53_whole_order_of_placings.main.body.drop 29).take 13) } }
theorem LH.two {A B C:Type} {o:Option A} {f:A→B} {g:A→C} {a:B} {b:C} (h:o.map f=some a) (k:o.map g=some b):o.map (fun s=>(f s, g s))=some (a, b):=by
  cases o with
  | none => cases h
  | some x => cases h; cases k; rfl
noncomputable abbrev LH.xt (s:Shared):Bool:=xlAt LH.vw [] s&&recOk [] s
theorem LH.h1 (w:World):(openEnds treeTable PySem.Challenge.pw_unstruck_k53_whole_order_of_placings w 9999).map (fun s=>openSeen LH.vw [] (importedModules PySem.Challenge.pw_unstruck_k53_whole_order_of_placings.main.body) LH.xt true s)=some (openGood LH.vw []):=by kernel_rfl
set_option maxRecDepth 100000 in
set_option maxHeartbeats 0 in
theorem LH.ws:OpenLaw.wellSaid PySem.Challenge.rw_unstruck_k53_whole_order_of_placings=true:=(congrFun Fast.te9446332074065402090 _).trans (by kernel_rfl)
local macro_rules|`(tactic|o_head $H)=>do
  let hw:=Lean.mkIdent `hw
  let hc:=Lean.mkIdent `hc
  `(tactic|(refine holds_open (q:=LH.vw) (loose:=[]) (Xt:=LH.xt) (XP:=XL LH.vw []) (Yf:=Hook.obs $H) (Ya:=Hook.val $H) (YP:=Hook.says $H) (N:=9999) (fun w=>LH.two (LH.h1 w) (by kernel_rfl)) (Hook.of $H) (Hook.keeps $H) (fun s e=>xl_of s (Bool.and_eq_true_iff.mp e).1) XL.keeps rfl rfl rfl (fun s e=>recFacts_of (Bool.and_eq_true_iff.mp e).2) rfl (by first|assumption|decide +kernel) (by decide +kernel) ⟨rfl, rfl, rfl, rfl, rfl, by decide +kernel⟩ ?$hw ?$hc))
set_option maxRecDepth 100000 in
set_option maxHeartbeats 0 in
theorem PySem.Challenge.cw_unstruck_k53_whole_order_of_placings_holds : PySem.Challenge.rw_unstruck_k53_whole_order_of_placings.Holds := by
 w_on;refine holds_law LH.ws fun said=> ?_;k_head;(case hw=>w_witness2)
 k_fill
 refine Law.walk (l:=PySem.Challenge.rw_unstruck_k53_whole_order_of_placings) rfl rfl (fun w h Y=>PySem.W.kIn_of Y) ?F
 case F =>
  intro w mg fa h KX G hmg;refine' Law.JX KX G hmg ?a0 ?a1 ?a2 ?a3 ?a4 ?a5 ?a6 ?a7 ?a8 ?a9 ?a10 ?a11 ?a12 ?a13 ?a14 ?a15 ?a16 ?a17 ?a18 ?a19 ?a20 ?a21 ?a22 ?a23 ?a24 ?a25 ?a26 ?a27 ?a28 ?a29 ?a30 ?a31 ?a32 ?z0 ?z1 ?z2 ?z3 ?z4 ?z5 ?z6 ?z7 ?z8 ?z9 ?z10 ?z11 ?z12 ?z13 ?z14 ?z15 ?z16 ?v0
  (case a0|a1|a2|a3|a4|a5|a6|a7|a8|a9|a10|a11|a12|a13|a14|a15|a16|a17|a18|a19=>exact⟨by k_is,by k_is,by k_is,by k_is⟩)
  (case a20|a21|a22|a23|a24|a25|a26|a27|a28|a29|a30|a31|a32=>exact⟨by k_is,by k_is,by k_is,by k_is⟩)
  (case z0|z1|z2|z3|z4|z5|z6|z7|z8|z9|z10|z11|z12|z13|z14|z15|z16|v0=>k_is)
#print axioms PySem.Challenge.cw_unstruck_k53_whole_order_of_placings_holds
