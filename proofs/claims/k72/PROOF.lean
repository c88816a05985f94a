import PyProof.Rows.All
import Wide.All
import OpenK.AllK
import Wide.FinOn
import Lean
import PyProof.EqAt
import PyProof.EqKinds
import PyProof.TupleCall
import PyProof.StrLawsTight
import PyProof.StrLawsChain
import PyProof.StrLawsOcc
import PyProof.Cells
import OpenK.KLine
import PyProof.SumAny
import PyProof.Rows.SortShell
import PyProof.DictItems
import PyProof.DictWalks
import KE.KRevIter
import PyProof.JoinWalk
import PyProof.CollectIter
import PyProof.StrLawsIn
import PyProof.Rows.SetFrom
import PyProof.CollectWalk
import PyProof.Rows.SortWalk
import KE.KSortTup
import KE.KxPercent
import PyProof.TupleOfGen
import KE.KDictList
import PyProof.P3In
import PyProof.NeData
import PyProof.FactsAll.tuple_2
import KE.KTryMore
import PyProof.ExcArgsOwn
import PyProof.ExcAttrAll.ValueError
import PyProof.ExcBaseAll.ValueError
import PyProof.InstStoreFacts
import PySem.Challenge.RW_unstruck_k72_all_placings_small
set_option bootstrap.genMatcherCode false
noncomputable section
set_option genSizeOf false
set_option genSizeOfSpec false
local macro_rules | `(tactic| omega) => `(tactic| first | lia | omega (config := {}))
set_option Elab.async false
set_option linter.all false
set_option maxRecDepth 100000
def Gn:=@PySem.wpAny_bind
def Go:=@List.length_map
def Gp:=@PySem.Heap.get?_push_of_some
def Gq:=@if_neg
def Gr:=@Nat.le_refl
def Gs:=@List.mem_cons_of_mem
def Gu:=@if_pos
def Gv:=@Bool.and_eq_true
def Gw:=@List.mem_cons_self
def Gx:=@List.size_toArray
def Gy:=@PyProof.Rows.wpS_bind
def Gz:=@Bool.false_ne_true
def G6:=@List.length_append
def G7:=@PySem.wpAny_pure
def G8:=@PySem.Heap.lt_size
def G9:=@List.getElem?_eq_some_iff
def HA:=@List.getElem?_eq_getElem
def HB:=@PyProof.Rows.wpS_pure
def HC:=@List.length_cons
def HE:=@List.mem_cons
def HF:=@List.mem_singleton
def HG:=@List.getElem?_map
def HH:=@PySem.Heap.get?_push_size
def HI:=@PySem.AutoSeq1.wpAny_loadPart'
def HJ:=@Array.length_toList
def HK:=@List.all_eq_true
def HL:=@bind_congr
def HM:=@Option.some.inj
def HN:=@LawfulBEq.eq_of_beq
def HP:=@Nat.le_trans
def HS:=@decide_eq_false
def HU:=@Array.getElem?_toList
def HV:=@Nat.ne_of_lt
def HW:=@List.map_cons
def HX:=@Nat.lt_of_lt_of_le
def HY:=@List.mem_map
def HZ:=@List.append_assoc
def Ha:=@List.take_append_drop
def Hb:=@List.getD_eq_getElem?_getD
def Hc:=@PySem.mem_of_lookup
def Hd:=@decide_eq_true_eq
def He:=@PyProof.Rows.callWith_type1
def Hf:=@Option.bind_some
def Hg:=@List.getElem?_set_ne
def Hh:=@PySem.Heap.get?_update_other
def Hk:=@List.not_mem_nil
def Hl:=@List.lookup_cons
def Hm:=@Array.toList_append
def Hn:=@PyProof.Rows.slot_tuple_getitem
def Ho:=@PySem.wpAny_loadPart'
def Hq:=@List.length_take
def Hr:=@List.mem_append
def Hs:=@ite_congr
def Ht:=@List.length_range
def Hu:=@Nat.zero_le
def Hv:=@List.mem_append_right
def Hw:=@List.map_congr_left
def Hx:=@List.map_append
def Hy:=@decide_eq_true
def Hz:=@List.pairwise_append
def IA:=@List.drop_eq_getElem_cons
def IB:=@List.getElem?_set_self
def ID:=@List.append_nil
def IF:=@Bool.or_eq_true
def IG:=@List.replicate_succ
def II:=@List.getElem?_range
def IJ:=@PySem.wpAny_field
def IK:=@PyProof.Rows.wpS_forRange
def IL:=@PySem.wpAny_newObj_type
def IM:=@PySem.W.mg_none_of
def IN:=@List.mem_of_getElem?
def IP:=@List.nodup_cons
def IQ:=@List.take_of_length_le
def IU:=@List.filter_cons
def IV:=@PySem.W.mg_of
def IW:=@PySem.Obj.data_mapFields
def IY:=@List.extract_eq_take_drop
def IZ:=@PySem.wpAny_call_entry
def Ia:=@congrArg
def Ib:=@List.mem_range
def Ic:=@Nat.min_eq_left
def Ie:=@PySem.sizeLine_eq
def Ig:=@PySem.wpAny_mono
def Ih:=@List.pairwise_map
def Ii:=@List.flatten_cons
def Ij:=@List.drop_of_length_le
def Ik:=@Int.le_trans
def Il:=@Int.le_of_lt
def Im:=@Bool.eq_false_iff
def Io:=@Array.toList_push
def Ip:=@List.reverse_append
def Iq:=@List.mem_filter
def Ir:=@List.getElem?_zipWith
def Iu:=@List.map_map
def Iv:=@PySem.Obj.isFreed_of_fields
def Iw:=@PySem.Heap.get?_update_self
def Ix:=@List.mem_of_mem_take
def Iy:=@Array.toList_extract
def Iz:=@Option.map_some
def I0:=@List.length_reverse
def JA:=@PySem.wpAny_callSpecial?_slot
def JB:=@Nat.lt_irrefl
def JC:=@List.all_cons
def JD:=@List.mem_reverse
def JE:=@List.length_drop
def JF:=@List.lookup_append
def JG:=@List.getElem?_append_right
def JH:=@PyProof.Rows.wpS_mono
def JI:=@List.length_filter_le
def JJ:=@List.Perm.append_left
def JK:=@List.getElem?_append_left
def JL:=@Classical.byContradiction
def JM:=@Bool.eq_iff_iff
def JN:=@List.mem_of_mem_drop
def JO:=@List.mem_append_left
def JP:=@Int.le_refl
def JQ:=@Option.isSome_iff_exists
def JR:=@List.getElem?_take_of_lt
def JS:=@PySem.W.kia_one
def JT:=@List.length_zipWith
def JU:=@PySem.wpAny_truthy_bool
def JV:=@List.getElem?_cons_succ
def JW:=@PyProof.Rows.wpS_modify
def JX:=@PySem.wpAny_holding
def JY:=@if_true
def JZ:=@Nat.min_self
def Ja:=@PySem.wpAny_setField
def Jb:=@PySem.AutoSeq1.idx_int
def Jc:=@List.length_set
def Jd:=@List.getElem?_eq_none
def Je:=@PySem.wpAny_of_eq
def Jf:=@Ne.symm
def Jg:=@Nat.lt_succ_of_lt
def Jh:=@Array.getD_eq_getD_getElem?
def Ji:=@PySem.wpAny_passesOwn
def Jj:=@List.map_eq_cons_iff
def Jk:=@Array.toList_reverse
def Jl:=@Array.getElem?_eq_some_iff
def Jm:=@decide_eq_decide
def Jn:=@PySem.builtinLookup_eq_fast
def Jo:=@Nat.lt_trans
def Jp:=@Nat.le_of_lt
def Jq:=@List.getElem_mem
def Jr:=@List.length_pos_iff
def Js:=@or_false
def Jt:=@PySem.wpAny_rule
def Ju:=@List.Perm.eq_of_pairwise
def Jv:=@List.find?_cons
def Jw:=@Nat.add_sub_cancel_left
def Jx:=@List.pairwise_mergeSort
def Jy:=@List.length_eq_zero_iff
def Jz:=@of_decide_eq_true
def J0:=@Nat.ne_of_gt
def J5:=@List.Perm.refl
def J9:=@Int.toNat_natCast
def KA:=@PySem.wpAny_getItem_str_slice
def KB:=@PySem.MeetsSeq3.plain_eq_loop
def KC:=@List.Pairwise.sublist
def KD:=@beq_iff_eq
def KF:=@List.take_length
def KG:=@if_false
def KH:=@List.reverse_reverse
def KI:=@List.sum_append
def KJ:=@List.mergeSort_perm
def KL:=@Nat.succ.inj
def KM:=@PySem.wpAny_attempt
def KN:=@List.zip_cons_cons
def KO:=@List.take_take
def KP:=@Bool.false_eq_true
def KQ:=@Bool.false_and
def KR:=@PySem.wpAny_execs_nil
def KS:=@PySem.typeLookup_type
def KU:=@List.pairwise_iff_getElem
def KW:=@List.reverse_perm
def KY:=@List.reverse_cons
def KZ:=@Bool.not_eq_true'
def Ka:=@PySem.F.args_tuple_add_2
def Kb:=@PyProof.Rows.boot_sorted
def Kc:=@PySem.wpAny_pyIter_tuple
def Kd:=@PySem.wpAny_Call_Name_kw
def Ke:=@PySem.call_meets
def Kf:=@PyProof.Rows.wpS_get
def Kg:=@PySem.wpAny_pyIter_enum
namespace L2
open PySem PySem.Spec PyProof.Rows
noncomputable abbrev bK:=Sum Int Str
noncomputable def lL:bK->Value->Bool
 | .inl k,v=>Value.isInt k v
 | .inr x,v=>Value.isStrOf x v
noncomputable def keyH(w:World):bK->Int
 | .inl k=>hashInt k
 | .inr x=>hashStr w x
theorem aq:∀{k:bK}{v:Value},lL k v=true->(∃i t,k=Sum.inl i/\v=Value.int i t)\/(∃x t,k=Sum.inr x/\v=Value.str x t)
 | .inl i,v,h=>by
  obtain⟨t,e⟩:=Value.isInt_shape (k:=i) (v:=v) h;exact .inl ⟨i,t,rfl,e⟩
 | .inr x,v,h=>by
  obtain⟨t,e⟩:=Value.isStrOf_shape (x:=x) (v:=v) h;exact .inr ⟨x,t,rfl,e⟩
theorem tN(i:Int)(t:Tok):lL (.inl i) (.int i t)=true:=by simp[lL,Value.isInt]
theorem tM(x:Str)(t:Tok):lL (.inr x) (.str x t)=true:=by simp[lL,Value.isStrOf]
theorem Bt(a b:Int):decide ((Sum.inl a:bK)=Sum.inl b)=(a==b):=by
 by_cases e:a=b
 ·subst e;simp
 ·have h:¬(Sum.inl a:bK)=Sum.inl b:=fun q=>e (Sum.inl.inj q)
  rw[HS h];exact(beq_eq_false_iff_ne.mpr e).symm
theorem Bq(a b:Str):decide ((Sum.inr a:bK)=Sum.inr b)=decide (a=b):=by
 by_cases e:a=b
 ·subst e;simp
 ·have h:¬(Sum.inr a:bK)=Sum.inr b:=fun q=>e (Sum.inr.inj q)
  rw[HS h,HS e]
theorem Bs(a:Int)(b:Str):decide ((Sum.inl a:bK)=Sum.inr b)=false:=HS (fun q=>nomatch q)
theorem Br(a:Str)(b:Int):decide ((Sum.inr a:bK)=Sum.inl b)=false:=HS (fun q=>nomatch q)
noncomputable def bW(prog:Program)(w:World):PySem.KeyKind prog w bK where
 is:=lL
 hash:=keyH w
 inj:=fun v a b ha hb=>by
  rcases aq ha with⟨i,t,rfl,rfl⟩|⟨x,t,rfl,rfl⟩
  ·rcases aq hb with⟨j,u,rfl,e⟩|⟨y,u,rfl,e⟩
   ·injection e with e1 _;rw[e1]
   ·exact nomatch e
  ·rcases aq hb with⟨j,u,rfl,e⟩|⟨y,u,rfl,e⟩
   ·exact nomatch e
   ·injection e with e1 _;rw[e1]
 byValue:=fun k v h=>by
  rcases aq h with⟨i,t,rfl,rfl⟩|⟨x,t,rfl,rfl⟩<;>rfl
 pyHash:=fun hv h=>by
  rcases aq hv with⟨i,t,rfl,rfl⟩|⟨x,t,rfl,rfl⟩
  ·exact wpAny_pyHash_int h
  ·exact wpAny_pyHash_str h
 eqBool:=fun hu hv h=>by
  rcases aq hu with⟨i,t,rfl,rfl⟩|⟨x,t,rfl,rfl⟩
  ·rcases aq hv with⟨j,u,rfl,rfl⟩|⟨y,u,rfl,rfl⟩
   ·rw[Bt]at h;exact wpAny_eqBool_int h
   ·rw[Bs]at h;exact SeqAt.EqAt.int_str i t y u _ _ _ _ h
  ·rcases aq hv with⟨j,u,rfl,rfl⟩|⟨y,u,rfl,rfl⟩
   ·rw[Br]at h;exact SeqAt.EqAt.str_int x t j u _ _ _ _ h
   ·rw[Bq]at h;exact wpAny_eqBool_str h
 «strs»:=fun k x t v h=>by
  rcases aq h with⟨i,u,rfl,e⟩|⟨y,u,rfl,e⟩
  ·exact nomatch e
  ·injection e with e1 _
   subst e1;cases v<;>rfl
theorem nY(prog:Program)(w:World)(i:Int)(t:Tok):(bW prog w).is (.inl i) (.int i t)=true:=tN i t
theorem nX(prog:Program)(w:World)(x:Str)(t:Tok):(bW prog w).is (.inr x) (.str x t)=true:=tM x t
inductive V where
 | non|bl (b:Bool)|int (i:Int)|str (x:Str)|byt (b:Array UInt8)|flt (b:UInt64)|ref (a:Addr)|ty (n:String)
 deriving DecidableEq
noncomputable def RelV:V->Value->Prop
 | .non,u=>u=Value.none
 | .bl b,u=>u=Value.bool b
 | .int i,u=>∃t,u=Value.int i t
 | .str x,u=>∃t,u=Value.str x t
 | .byt b,u=>∃t,u=Value.bytes b t
 | .flt b,u=>∃t,u=Value.float b t
 | .ref a,u=>u=Value.ref a
 | .ty n,u=>u=Value.type n
noncomputable abbrev aO:List V->List Value->Prop:=Paired RelV
theorem aO.length{xs:List V}{us:List Value}(r:aO xs us):xs.length=us.length:=Paired.length r
theorem aO.get:∀{xs:List V}{us:List Value}{i:Nat}{x:V},aO xs us->xs[i]? =some x->∃u,us[i]? =some u/\RelV x u
 | _,_,_,_,.nil,e=>by simp at e
 | _,_,0,_,.cons r _,e=>by simp at e;subst e;exact⟨_,rfl,r⟩
 | _,_,i+1,x,.cons _ t,e=>by
  obtain⟨u,h1,h2⟩:=aO.get (i:=i) (x:=x) t (by simpa using e);exact⟨u,by simpa using h1,h2⟩
theorem aO.set{x:V}{u:Value}(r:RelV x u):∀{xs:List V}{us:List Value}(i:Nat),aO xs us->aO (xs.set i x) (us.set i u)
 | _,_,_,.nil=>.nil
 | _,_,0,.cons _ t=>.cons r t
 | _,_,i+1,.cons q t=>.cons q (aO.set r i t)
theorem aO.append{xs ys:List V}{us ws:List Value}(h:aO xs us)(k:aO ys ws):aO (xs++ys) (us++ws):=by
 induction h with
 | nil=>exact k
 | cons r t ih=>exact .cons r ih
theorem aO.take:∀{xs:List V}{us:List Value}(n:Nat),aO xs us->aO (xs.take n) (us.take n)
 | _,_,0,_=>.nil
 | _,_,_+1,.nil=>.nil
 | _,_,n+1,.cons r t=>.cons r (aO.take n t)
theorem aO.drop:∀{xs:List V}{us:List Value}(n:Nat),aO xs us->aO (xs.drop n) (us.drop n)
 | _,_,0,r=>r
 | _,_,_+1,.nil=>.nil
 | _,_,n+1,.cons _ t=>aO.drop n t
noncomputable def gl:Option V->Option Value->Prop
 | some v,some u=>RelV v u
 | none,none=>True
 | _,_=>False
noncomputable def KV{κ:Type}:List (κ×V)->List (κ×Value)->Prop:=Paired fun(p:κ×V)(q:κ×Value)=>p.1=q.1/\RelV p.2 q.2
noncomputable def kV:bK->V
 | .inl i=>.int i
 | .inr x=>.str x
inductive HO where
 | lst (xs:List V)
 | tup (xs:List V)
 | dK (kvs:List (bK×V))|dT (kvs:List (List bK×V))
 | set (S:Int->Bool) (n:Nat)
 | ins (C dx:Addr) (fs:List (Str×V))
 | own (x:Addr)
 | xd (fs:List (Str×V))
 | met (f x:Addr)
 | rng (lo hi:Int)
 | frz (o:Obj) (u:HO)
 | tbl (ps:Array Value)
 | ext (φ:Heap->Prop)
noncomputable abbrev Hp:=Addr->Option HO
noncomputable def upd(H:Hp)(a:Addr)(o:HO):Hp:=fun b=>if b=a then some o else H b
theorem am{H:Hp}{a:Addr}{o:HO}:upd H a o a=some o:=by unfold upd;rw[Gu rfl]
theorem aR{H:Hp}{a b:Addr}{o:HO}(h:b≠a):upd H a o b=H b:=by unfold upd;rw[Gq h]
theorem aY{H:Hp}{a b:Addr}{o:HO}(h:H a=some o)(h' :H b=none):a≠b:=by
 intro e;subst e;rw[h]at h';cases h'
noncomputable def cv(h:Heap)(a:Addr)(its:Array Value):Prop:=∃o,h.get? a=some o/\o.cls=.type "tuple"/\∃n,o.data=.seq its n/\o.dict=none
theorem cv.tup{h:Heap}{a:Addr}{its:Array Value}(x:cv h a its):IsTup h a its:=let⟨o,e,c,n,d,_⟩:=x;⟨o,e,c,n,d⟩
theorem cv.new(h:Heap)(its:Array Value):cv (h.push {cls:=.type "tuple",data:=.seq its}) h.objs.size its:=⟨_,HH _ rfl,rfl,_,rfl,rfl⟩
section
variable(P:Program)(w:World)
noncomputable def bC(H:Hp)(h:Heap)(a:Addr):HO->Prop
 | .lst xs=>xs.length<=sizeLine/\∃(its:List Value)(n:Nat),aO xs its/\h.get? a=some {cls:=.type "list",data:=.seq its.toArray n}
 | .tup xs=>xs.length<=sizeLine/\∃its:List Value,aO xs its/\cv h a its.toArray
 | .dK kvs=>kvs.length<=sizeLine/\(a==sysModules)=false/\∃vs,KV kvs vs/\h.DictOf (bW P w) a vs
 | .dT kvs=>kvs.length<=sizeLine/\(a==sysModules)=false/\∃xs:List (List bK×Addr×Value),
   Paired (fun(p:List bK×V) (q:List bK×Addr×Value)=>p.1=q.1/\H q.2.1=some (.tup (p.1.map kV))/\RelV p.2 q.2.2) kvs xs /\
   ∃o es ep,h.get? a=some o/\o.ExactDict/\o.data=.dict es ep/\es.toList=xs.map (entryOfKey (tupleKind (bW P w)))/\(xs.map (·.1)).Nodup
 | .set S n=>h.SetOf (intKind P w) a S n
 | .ins C dx fs=>H dx=some (.own a)/\fs.length<=1000/\dx≠a/\h.get? a=some (W.instObj C dx) /\
   ∃mA,h.Ns1 dx mA/\(∀f,gl (fs.lookup f) (mA f))/\PySem.Within mA (fs.map (·.1))
 | .own _=>∃o,h.get? a=some o
 | .xd fs=>∃mA,h.Ns1 a mA/\∀f,gl (fs.lookup f) (mA f)
 | .rng lo hi=>∃t u v,h.get? a=some {cls:=.type "range",data:=.fields #[.int lo t,.int hi u,.int 1 v]}
 | .frz o u=>h.get? a=some o/\bC H h a u
 | .tbl ps=>h.get? a=some {cls:=.none,data:=.fields ps}
 | .met f x=>h.get? a=some (W.methodObj (.ref f) (.ref x))
 | .ext φ=>φ h/\(∃o,h.get? a=some o)/\∀h1 h2:Heap,φ h1->(∀o,h1.get? a=some o->h2.get? a=some o)->φ h2
noncomputable def dm(H:Hp)(h:Heap):Prop:=∀a o,H a=some o->bC P w H h a o
end
section
variable{P:Program}{w:World}{H H' :Hp}{h h' :Heap}{a:Addr}{o:HO}
theorem bC.lt(x:bC P w H h a o):a<h.objs.size:=by
 cases o with
 | lst xs=>obtain⟨_,_,_,_,e⟩:=x;exact G8 e
 | tup xs=>obtain⟨_,_,_,p⟩:=x;exact p.tup.lt
 | dK kvs=>obtain⟨_,_,_,_,o,_,_,e,_⟩:=x;exact G8 e
 | dT kvs=>obtain⟨_,_,_,_,o,_,_,e,_⟩:=x;exact G8 e
 | set S n=>obtain⟨o,_,_,_,e,_⟩:=x;exact G8 e
 | ins C dx fs=>obtain⟨_,_,_,e,_⟩:=x;exact G8 e
 | own y=>obtain⟨_,e⟩:=x;exact G8 e
 | xd fs=>obtain⟨_,⟨_,_,_,e,_⟩,_⟩:=x;exact G8 e
 | rng lo hi=>obtain⟨_,_,_,e⟩:=x;exact G8 e
 | frz ob u=>obtain⟨e,_⟩:=x;exact G8 e
 | tbl ps=>exact G8 (show h.get? a=some _ from x)
 | met f y=>exact G8 (show h.get? a=some _ from x)
 | ext φ=>obtain⟨_,⟨_,e⟩,_⟩:=x;exact G8 e
theorem Paired.mapP{α β:Type}{F G:α->β->Prop}{l₁:List α}{l₂:List β}(h:Paired F l₁ l₂)(f:∀a b,F a b->G a b):Paired G l₁ l₂:=by
 induction h with
 | nil=>exact .nil
 | cons r t ih=>exact .cons (f _ _ r) ih
theorem bC.stay(x:bC P w H h a o)(k:∀b u,(b=a\/H b=some (.own a))->h.get? b=some u->h'.get? b=some u)
  (ho:∀b,H b=some (.own a)->H' b=some (.own a)) (ht:∀b xs,H b=some (.tup xs)->H' b=some (.tup xs)):bC P w H' h' a o:=by
 induction o with
 | lst xs=>obtain⟨z,its,n,r,e⟩:=x;exact⟨z,its,n,r,k _ _ (.inl rfl) e⟩
 | tup xs=>obtain⟨z,its,r,ob,e,c⟩:=x;exact⟨z,its,r,ob,k _ _ (.inl rfl) e,c⟩
 | dK kvs=>obtain⟨z,y,vs,r,ob,es,ep,e,c⟩:=x;exact⟨z,y,vs,r,ob,es,ep,k _ _ (.inl rfl) e,c⟩
 | dT kvs =>
  obtain⟨z,y,xs,r,ob,es,ep,e,c⟩:=x;exact⟨z,y,xs,Paired.mapP r fun p q z=>⟨z.1,ht _ _ z.2.1,z.2.2⟩,ob,es,ep,k _ _ (.inl rfl) e,c⟩
 | set S n=>obtain⟨ob,es,ep,t,e,c⟩:=x;exact⟨ob,es,ep,t,k _ _ (.inl rfl) e,c⟩
 | ins C dx fs =>
  obtain⟨d,z,ne,e,mA,⟨od,es,ep,e2,c⟩,r⟩:=x;exact⟨ho _ d,z,ne,k _ _ (.inl rfl) e,mA,⟨od,es,ep,k _ _ (.inr d) e2,c⟩,r⟩
 | own y=>obtain⟨ob,e⟩:=x;exact⟨ob,k _ _ (.inl rfl) e⟩
 | xd fs=>obtain⟨mA,⟨od,es,ep,e,c⟩,r⟩:=x;exact⟨mA,⟨od,es,ep,k _ _ (.inl rfl) e,c⟩,r⟩
 | rng lo hi=>obtain⟨t,u,v,e⟩:=x;exact⟨t,u,v,k _ _ (.inl rfl) e⟩
 | frz ob u ih=>obtain⟨e,q⟩:=x;exact⟨k _ _ (.inl rfl) e,ih q⟩
 | tbl ps =>
  have e:h.get? a=some {cls:=.none,data:=.fields ps}:=x;show h'.get? a=some {cls:=.none,data:=.fields ps};exact k a _ (.inl rfl) e
 | met f y =>
  have e:h.get? a=some (W.methodObj (.ref f) (.ref y)):=x;show h'.get? a=some (W.methodObj (.ref f) (.ref y));exact k a _ (.inl rfl) e
 | ext φ=>obtain⟨p,⟨o,e⟩,st⟩:=x;exact⟨st _ _ p fun o q=>k _ _ (.inl rfl) q,⟨o,k _ _ (.inl rfl) e⟩,st⟩
theorem dm.lt(x:dm P w H h)(e:H a=some o):a<h.objs.size:=(x a o e).lt
theorem dm.fresh(x:dm P w H h)(e:h.objs.size<=a):H a=none:=by
 cases q:H a with
 | none=>rfl
 | some u=>exact absurd (HX (x.lt q) e) (JB _)
theorem dm.kept(x:dm P w H h)(k:∀b u,h.get? b=some u->h'.get? b=some u):dm P w H h' :=fun a o e =>
 (x a o e).stay (fun b u _ q=>k b u q) (fun _ q=>q) fun _ _ q=>q
theorem dm.laid(x:dm P w H h)(k:∀b u,h.get? b=some u->h'.get? b=some u)(hp:h.objs.size<=a)(new:bC P w (upd H a o) h' a o):dm P w (upd H a o) h' :=fun b u e=>by
 have hn:=x.fresh hp
 by_cases hb:b=a
 ·subst hb;rw[am]at e;cases e;exact new
 ·rw[aR hb]at e
  exact(x b u e).stay (fun c v _ q=>k c v q) (fun c q=>by rw[aR (aY q hn)];exact q) fun c xs q=>by rw[aR (aY q hn)];exact q
end
noncomputable def Rd(H:Hp)(a:Addr)(u:HO):Prop:=H a=some u\/∃o,H a=some (.frz o u)
theorem Rd.ok{P:Program}{w:World}{H:Hp}{h:Heap}{a:Addr}{u:HO}(r:Rd H a u)(x:dm P w H h):bC P w H h a u:=by
 rcases r with r|⟨o,r⟩
 ·exact x a u r
 ·obtain⟨_,q⟩:=x a _ r
  exact q
noncomputable def Mut:Option HO->Prop
 | some (.lst _)=>True
 | some (.dK _)=>True
 | some (.dT _)=>True
 | some (.set _ _)=>True
 | some (.ins _ _ _)=>True
 | some (.ext _)=>True
 | _=>False
section
variable{P:Program}{w:World}{H:Hp}{h h' :Heap}{x e:Addr}{o' :HO}
theorem dm.write(ok:dm P w H h)(mu:Mut (H x))(he:e=x\/H e=some (.own x))(k:∀b u,b≠e->h.get? b=some u->h'.get? b=some u)(heo:∃u,h'.get? e=some u)
  (new:bC P w (upd H x o') h' x o'):dm P w (upd H x o') h' :=fun b u q=>by
 have nown:∀c y,H c=some (.own y)->c≠x:=fun c y r z=>by subst z;rw[r]at mu;exact mu
 have ntup:∀c xs,H c=some (.tup xs)->c≠x:=fun c xs r z=>by subst z;rw[r]at mu;exact mu
 by_cases hb:b=x
 ·subst hb;rw[am]at q;cases q;exact new
 ·rw[aR hb]at q
  by_cases hbe:b=e
  ·have q' :H b=some (.own x):=by
    rcases he with z|z
    ·exact absurd (hbe.trans z) hb
    ·rw[hbe];exact z
   rw[q]at q';cases q';obtain⟨v,hv⟩:=heo;exact⟨v,by rw[hbe];exact hv⟩
  ·refine(ok b u q).stay (fun c v hc r=>k c v ?_ r) (fun c r=>by rw[aR (nown c b r)];exact r) fun c xs r=>by rw[aR (ntup c xs r)];exact r
   rcases hc with rfl|hc
   ·exact hbe
   ·rintro rfl
    rcases he with z|z
    ·exact nown c b hc z
    ·rw[hc]at z;cases z;exact hb rfl
end
structure Un(fs ex:List Addr)(H H' :Hp)(h h' :Heap):Prop where
 keep:∀b o,h.get? b=some o->H b=none->b∉fs->b∉ex->h'.get? b=some o
 slot:∀b o,h.get? b=some o->H b=none->b∈fs->b∉ex->∃sl,h'.get? b=some {o with slots:=sl}
 free:∀b o,h.get? b=some o->H b=none->b∉ex->H' b=none
 there:∀b o,h.get? b=some o->b∉ex->∃o',h'.get? b=some o'
 tups:∀b xs,H b=some (.tup xs)->H' b=some (.tup xs)
 frzs:∀b o u,H b=some (.frz o u)->H' b=some (.frz o u)
 tbls:∀b ps,H b=some (.tbl ps)->∃more,H' b=some (.tbl (ps++more))
section
variable{fs fs' ex ex' :List Addr}{H H1 H2:Hp}{h h1 h2 h' :Heap}{a x e:Addr}{o:HO}
theorem Un.any(u:Un fs ex H H1 h h1){b:Addr}{ob:Obj}(q:h.get? b=some ob)(n:H b=none)(hx:b∉ex):∃sl,h1.get? b=some {ob with slots:=sl}:=by
 by_cases hb:b∈fs
 ·exact u.slot b ob q n hb hx
 ·exact⟨ob.slots,u.keep b ob q n hb hx⟩
theorem Un.kept(k:∀b u,h.get? b=some u->h'.get? b=some u):Un fs ex H H h h' :=
 ⟨fun b ob q _ _ _=>k b ob q,fun b ob q _ _ _=>⟨ob.slots,k b ob q⟩,fun _ _ _ n _=>n,fun b ob q _=>⟨ob,k b ob q⟩,fun _ _ q=>q,fun _ _ _ q=>q,fun _ ps q=>⟨#[],by rw[q];simp⟩⟩
theorem Un.refl:Un fs ex H H h h:=Un.kept fun _ _ q=>q
theorem Un.laid(k:∀b u,h.get? b=some u->h'.get? b=some u)(hp:h.objs.size<=a)(hn:H a=none):Un fs ex H (upd H a o) h h' where
 keep:=fun b u q _ _ _=>k b u q
 slot:=fun b u q _ _ _=>⟨u.slots,k b u q⟩
 free:=fun b u q n _=>by rw[aR (HV (HX (G8 q) hp))];exact n
 there:=fun b u q _=>⟨u,k b u q⟩
 tups:=fun b xs q=>by rw[aR (aY q hn)];exact q
 frzs:=fun b u xs q=>by rw[aR (aY q hn)];exact q
 tbls:=fun b ps q=>⟨#[],by rw[aR (aY q hn),q];simp⟩
theorem Un.write(mu:Mut (H x))(he:e=x\/H e=some (.own x))(k:∀b u,b≠e->h.get? b=some u->h'.get? b=some u)(heo:∃u,h'.get? e=some u):Un fs ex H (upd H x o) h h' :=by
 have hx:∀b,H b=none->b≠x:=fun b n z=>by subst z;rw[n]at mu;exact mu
 have hb:∀b,H b=none->b≠e:=fun b n z=>by
  subst z
  rcases he with r|r
  ·exact hx b n r
  ·rw[n]at r;cases r
 have hm:∀b u,H b=some u->¬Mut (some u)->b≠x:=fun b u q nm z=>by subst z;rw[q]at mu;exact nm mu
 refine⟨fun b u q n _ _=>k b u (hb b n) q,fun b u q n _ _=>⟨u.slots,k b u (hb b n) q⟩,fun b u q n _=>by rw[aR (hx b n)];exact n,fun b u q _=> ?_,
  fun b xs q=>by rw[aR (hm b _ q fun z=>z)];exact q,fun b u xs q=>by rw[aR (hm b _ q fun z=>z)];exact q,fun b ps q=>⟨#[],by rw[aR (hm b _ q fun z=>z),q];simp⟩⟩
 by_cases hbe:b=e
 ·subst hbe;exact heo
 ·exact⟨u,k b u hbe q⟩
end
noncomputable def trk(h:Heap)(H:Hp):List Addr:=(List.range h.objs.size).filter fun a=>(H a).isSome
noncomputable def mU(h:Heap)(H:Hp):Heap:=W.hideAll h (trk h H)
theorem tR(h:Heap)(H:Hp):(mU h H).objs.size=h.objs.size:=W.hideAll_size _ _
theorem vy{h:Heap}{H:Hp}{b:Addr}{o:Obj}(e:h.get? b=some o)(n:H b=none):(mU h H).get? b=some o :=
 W.hideAll_get _ e fun hm=>by
  have q:(H b).isSome=true:=(Iq.mp hm).2;rw[n]at q;simp at q
theorem yF{h:Heap}{H:Hp}{b:Addr}{o:Obj}(e:(mU h H).get? b=some o):h.get? b=some o/\H b=none:=by
 have e' :h.get? b=some o:=W.of_hideAll (trk h H) e;refine⟨e',?_⟩;cases q:H b with
 | none=>rfl
 | some x =>
  have hm:b∈trk h H:=Iq.mpr ⟨Ib.mpr (G8 e'),by simp[q]⟩;have z:(mU h H).get? b=none:=W.hideAll_none (trk h H) hm;rw[z]at e;cases e
noncomputable def zG(g h:Heap)(L:Addr):List (Addr×Obj):=(List.range h.objs.size).filterMap fun a=>if a=L\/(g.get? a).isSome=true then none else(h.get? a).map fun o=>(a,o)
noncomputable def aM(g h:Heap)(L d:Addr):List (Addr×Obj):=(zG g h L).filter fun p=>decide (p.1≠d)
structure Mod(K:W.Frag)(mg:Str->Option Value)(base:Heap):Prop where
 kin:K.In base
 glob:base.Ns mainGlobals mg
 blt:∃mb,base.Ns builtinsNs mb/\∀x:Str,x≠"__name__"->mb x=bootBuiltins x
 nolimit:base.NoLimit
structure Cx where
 prog:Program
 w:World
 K:W.Frag
 mg:Str->Option Value
 base:Heap
 A:Around
 N:List Str
 s₀:Shared
 H₀:Hp
 env:Env
 outer:List Env
 stack:List Env
 ex:List Addr
 fn:Str->Bool
 calm:Bool
 pn:List (Addr×Obj)
 xe:Value->Shared->Prop
noncomputable def ou(l:List Env):List Addr:=l.filterMap (·.frame)
noncomputable abbrev Cx.fs(X:Cx):List Addr:=ou X.outer
noncomputable def Db(sc:Scope)(x:Str):Prop:=sc.names.lookup x=some .local\/sc.names.lookup x=some .cell\/sc.names.lookup x=some .free
noncomputable def Loc(sc:Scope)(x:Str):Prop:=sc.names.lookup x=some .local\/sc.names.lookup x=some .cell
noncomputable def Look(env:Env)(h:Heap)(m:Str->Option Value)(x:Str)(u:Value):Prop :=
 (env.kindOf x=some .local/\m x=some u)\/((env.kindOf x=some .cell\/env.kindOf x=some .free)/\∃c,env.cells.lookup x=some c/\h.IsCell c (some u))
structure Cx.Ok(X:Cx):Prop where
 mod:Mod X.K X.mg X.base
 kind:X.env.scope.kind=.function
 glob:X.env.globals=mainGlobals
 blt:X.env.builtins=builtinsNs
 above:X.s₀.heap.objs.size<=X.env.locals
 inj:∀x y c,X.env.cells.lookup x=some c->X.env.cells.lookup y=some c->x=y
 has:∀x,(X.env.kindOf x=some .cell\/X.env.kindOf x=some .free)->∃c,X.env.cells.lookup x=some c
 cab:∀x c,X.fn x=true->X.env.cells.lookup x=some c->X.s₀.heap.objs.size<=c
 hd:X.calm=true->X.A.handled=none
 frames:X.A.frames=some X.stack
 stk:X.stack=X.outer\/(X.stack=X.env::X.outer/\X.env.frame=some X.env.locals)
 exf:∀b∈X.ex,b≠X.env.locals/\∀x c,X.env.cells.lookup x=some c->c≠b
 bs:∀b o,X.base.get? b=some o->X.s₀.heap.get? b=some o/\X.H₀ b=none
 bsz:X.base.objs.size<=X.s₀.heap.objs.size
 noex:∀b o,X.base.get? b=some o->b∉X.ex
 exfs:∀b∈X.ex,b∉X.fs
 funs:X.s₀.heap.FunFrames X.base X.outer
 frf:∀b∈X.fs,X.H₀ b=none
structure Inv(X:Cx)(pins:List (Addr×Obj))(σ:List (Option V))(H:Hp)(s:Shared):Prop where
 ok:X.Ok
 os:s.os=X.s₀.os
 bare:AllBare s.gens
 base:Un X.fs X.ex X.H₀ H X.s₀.heap s.heap
 loc:∃m,s.heap.Ns X.env.locals m/\∀(i:Nat)(x:Str)(v:V),X.N[i]? =some x->σ[i]? =some (some v)->Db X.env.scope x->∃u,RelV v u/\Look X.env s.heap m x u
 cell:∀x c,X.env.cells.lookup x=some c->∃v,s.heap.IsCell c v
 free:H X.env.locals=none
 freeC:∀x c,X.env.cells.lookup x=some c->H c=none
 pin:∀p∈X.pn++pins,s.heap.get? p.1=some p.2/\H p.1=none/\p.1≠X.env.locals/\p.1∉X.fs/\∀v,p.2.data≠.cell v
 hok:dm X.prog X.w H s.heap
 len:σ.length=X.N.length
section
variable{X:Cx}{pins:List (Addr×Obj)}{σ:List (Option V)}{H H' :Hp}{s:Shared}{h' :Heap}
theorem Cx.Ok.nofr(ok:X.Ok){b:Addr}{o:Obj}(e:X.base.get? b=some o):b∉X.fs:=fun hb=>by
 have:=(ok.funs.mem hb).1;rw[e]at this;cases this
theorem Inv.bs(I:Inv X pins σ H s):∀b o,X.base.get? b=some o->s.heap.get? b=some o/\H b=none:=fun b o e =>
 ⟨I.base.keep b o (I.ok.bs b o e).1 (I.ok.bs b o e).2 (I.ok.nofr e) (I.ok.noex b o e),I.base.free b o (I.ok.bs b o e).1 (I.ok.bs b o e).2 (I.ok.noex b o e)⟩
theorem Inv.bk(I:Inv X pins σ H s):∀b o,X.base.get? b=some o->s.heap.get? b=some o:=fun b o e=>(I.bs b o e).1
theorem Inv.mod(I:Inv X pins σ H s):Mod X.K X.mg X.base:=I.ok.mod
theorem Inv.kIn(I:Inv X pins σ H s):X.K.In s.heap:=I.ok.mod.kin.keeps I.bk
theorem Inv.fr(I:Inv X pins σ H s):∃m,Fr X.base X.env.locals s.heap m :=
 let⟨m,hn,_⟩:=I.loc
 ⟨m,hn,I.bk,HP I.ok.bsz I.ok.above⟩
theorem Inv.lt(I:Inv X pins σ H s):X.env.locals<s.heap.objs.size:=let⟨_,hn,_⟩:=I.loc;hn.lt
theorem Inv.sz(I:Inv X pins σ H s):X.s₀.heap.objs.size<=s.heap.objs.size:=HP I.ok.above (Jp I.lt)
theorem Inv.nofs(I:Inv X pins σ H s){a:Addr}(h:s.heap.objs.size<=a):a∉X.fs:=fun hb=>by
 obtain⟨_,o,ho,_⟩:=I.ok.funs.mem hb;exact absurd (HX (G8 ho) (HP I.sz h)) (JB _)
theorem Inv.cne(I:Inv X pins σ H s):∀x c,X.env.cells.lookup x=some c->c≠X.env.locals:=fun x c e z=>by
 obtain⟨v,o,ho,hd⟩:=I.cell x c e;obtain⟨m,⟨o',es,ep,ho',hd',_⟩,_⟩:=I.loc;rw[z,ho']at ho;cases ho;rw[hd']at hd;cases hd
theorem Inv.funs(I:Inv X pins σ H s):s.heap.FunFrames X.base X.outer:=by
 have all:∀(l:List Env),(∀b∈ou l,b∈X.fs)->X.s₀.heap.FunFrames X.base l->s.heap.FunFrames X.base l:=by
  intro l
  induction l with
  | nil=>intro _ _;trivial
  | cons env r ih =>
   intro hs hl;obtain⟨hk,⟨L,o,hf,hn,ho,hd⟩,hr⟩:=hl;have hL:L∈X.fs:=hs L (by unfold ou;rw[List.filterMap_cons,hf];exact Gw);obtain⟨sl,e⟩:=I.base.slot L o ho (I.ok.frf L hL) hL fun z=>I.ok.exfs L z hL;exact⟨hk,⟨L,_,hf,hn,e,hd⟩,ih (fun b hb=>hs b (by unfold ou;rw[List.filterMap_cons,hf];exact Gs _ hb)) hr⟩
 exact all X.outer (fun _ hb=>hb) I.ok.funs
theorem Inv.stack(I:Inv X pins σ H s):s.heap.FunFrames X.base X.stack:=by
 rcases I.ok.stk with e|⟨e,hf⟩
 ·rw[e];exact I.funs
 ·rw[e]
  obtain⟨m,hn,_⟩:=I.loc;refine .cons (by rw[I.ok.kind];decide) hf hn ?_ I.funs;exact Heap.get?_none_of_le (HP I.ok.bsz I.ok.above)
theorem Inv.stkSub(I:Inv X pins σ H s):∀b∈ou X.stack,b∈X.env.locals::X.fs:=fun b hb=>by
 rcases I.ok.stk with e|⟨e,hf⟩
 ·rw[e]at hb;exact Gs _ hb
 ·rw[e]at hb
  unfold ou at hb;rw[List.filterMap_cons,hf]at hb;exact hb
theorem Inv.stkFree(I:Inv X pins σ H s):∀b∈ou X.stack,H b=none:=fun b hb=>by
 rcases HE.mp (I.stkSub b hb)with e|hb
 ·rw[e];exact I.free
 ·obtain⟨_,o,ho,_⟩:=I.ok.funs.mem hb
  exact I.base.free b o ho (I.ok.frf b hb) fun z=>I.ok.exfs b z hb
theorem Inv.step{g' :Array GenState}{t' :Nat}{d' :Drawn}{ch:List Addr}(I:Inv X pins σ H s)
  (hch:∀b∈ch,(b∈X.ex\/X.s₀.heap.objs.size<=b)/\b≠X.env.locals/\(∀x c,X.env.cells.lookup x=some c->c≠b)/\∀p∈X.pn++pins,p.1≠b)
  (keep:∀b o,b≠X.env.locals->b∉X.fs->b∉ch->s.heap.get? b=some o->H b=none->h'.get? b=some o)
  (slot:∀b o,b≠X.env.locals->b∈X.fs->b∉ch->s.heap.get? b=some o->H b=none->∃sl,h'.get? b=some {o with slots:=sl}) (free:∀b o,b∉ch->s.heap.get? b=some o->H b=none->H' b=none)
  (there:∀b o,b∉ch->s.heap.get? b=some o->∃o',h'.get? b=some o')
  (tups:∀b xs,H b=some (.tup xs)->H' b=some (.tup xs)) (frzs:∀b o u,H b=some (.frz o u)->H' b=some (.frz o u)) (tbls:∀b ps,H b=some (.tbl ps)->∃more,H' b=some (.tbl (ps++more)))
  (ns:∀m,s.heap.Ns X.env.locals m->h'.Ns X.env.locals m) (hok:dm X.prog X.w H' h') (hg:AllBare g') :
  Inv X pins σ H' {s with heap:=h',gens:=g',drawn:=d',toks:=t'}:=by
 have neL:∀b o,X.s₀.heap.get? b=some o->b≠X.env.locals:=fun b o e=>HV (HX (G8 e) I.ok.above);have neC:∀b o,X.s₀.heap.get? b=some o->b∉X.ex->b∉ch:=fun b o e hx hb=>by
  rcases(hch b hb).1 with z|z
  ·exact hx z
  ·exact absurd (HX (G8 e) z) (JB _)
 have cellK:∀x c,X.env.cells.lookup x=some c->∀v,s.heap.IsCell c v->h'.IsCell c v:=fun x c e v ⟨o,ho,hd⟩=>by
  have nch:c∉ch:=fun z=>(hch c z).2.2.1 x c e rfl
  by_cases hc:c∈X.fs
  ·obtain⟨sl,q⟩:=slot c o (I.cne x c e) hc nch ho (I.freeC x c e)
   exact⟨_,q,hd⟩
  ·exact⟨o,keep c o (I.cne x c e) hc nch ho (I.freeC x c e),hd⟩
 refine⟨I.ok,I.os,hg,⟨fun b o e n hb hx=> ?_,fun b o e n hb hx=> ?_,fun b o e n hx=> ?_,fun b o e hx=> ?_,fun b xs e=>tups b xs (I.base.tups b xs e),fun b o xs e=>frzs b o xs (I.base.frzs b o xs e),fun b ps e=> ?_⟩,?_,fun x c e=> ?_,?_,fun x c e=> ?_,fun p hp=> ?_,hok,I.len⟩
 ·exact keep b o (neL b o e) hb (neC b o e hx) (I.base.keep b o e n hb hx) (I.base.free b o e n hx)
 ·obtain⟨sl,e1⟩:=I.base.slot b o e n hb hx
  obtain⟨sl',e2⟩:=slot b _ (neL b o e) hb (neC b o e hx) e1 (I.base.free b o e n hx);exact⟨sl',e2⟩
 ·obtain⟨o',e1⟩:=I.base.there b o e hx
  exact free b o' (neC b o e hx) e1 (I.base.free b o e n hx)
 ·obtain⟨o',e1⟩:=I.base.there b o e hx
  exact there b o' (neC b o e hx) e1
 ·obtain⟨m1,e1⟩:=I.base.tbls b ps e
  obtain⟨m2,e2⟩:=tbls b _ e1;exact⟨m1++m2,by rw[e2,Array.append_assoc]⟩
 ·obtain⟨m,hn,hl⟩:=I.loc
  refine⟨m,ns m hn,fun i x v e1 e2 e3=> ?_⟩;obtain⟨u,r,l⟩:=hl i x v e1 e2 e3;refine⟨u,r,?_⟩
  rcases l with l|⟨k,c,e,z⟩
  ·exact .inl l
  ·exact .inr ⟨k,c,e,cellK x c e _ z⟩
 ·obtain⟨v,z⟩:=I.cell x c e
  exact⟨v,cellK x c e v z⟩
 ·obtain⟨m,⟨o,_,_,ho,_⟩,_⟩:=I.loc
  exact free _ o (fun z=>(hch _ z).2.1 rfl) ho I.free
 ·obtain⟨v,o,ho,hd⟩:=I.cell x c e
  exact free c o (fun z=>(hch c z).2.2.1 x c e rfl) ho (I.freeC x c e)
 ·obtain⟨e,n,ne,nf,d⟩:=I.pin p hp
  have nch:p.1∉ch:=fun z=>(hch p.1 z).2.2.2 p hp rfl;exact⟨keep p.1 p.2 ne nf nch e n,free p.1 p.2 nch e n,ne,nf,d⟩
theorem Inv.un{t' :Nat}(I:Inv X pins σ H s)(u:Un X.fs [] H H' s.heap h')(hok:dm X.prog X.w H' h'):Inv X pins σ H' {s with heap:=h',toks:=t'}:=by
 obtain⟨m,⟨o,es,ep,ho,r⟩,_⟩:=id I.loc;obtain⟨sl,hL⟩:=u.any ho I.free (by simp);exact I.step (g' :=s.gens) (d' :=s.drawn) (ch:=[]) (fun _ z=>nomatch z) (fun b o _ hb _ e n=>u.keep b o e n hb (by simp)) (fun b o _ hb _ e n=>u.slot b o e n hb (by simp)) (fun b o _ e n=>u.free b o e n (by simp)) (fun b o _ e=>u.there b o e (by simp)) u.tups u.frzs u.tbls (fun m' hm=>by
  obtain⟨o',es',ep',ho',r'⟩:=hm;rw[ho]at ho';cases ho';exact⟨_,es',ep',hL,r'⟩) hok I.bare
theorem Inv.call{g' :Array GenState}{t' :Nat}{d' :Drawn}{ch:List Addr}(I:Inv X pins σ H s)(u:Un (ou X.stack) ch H H' s.heap h')(hok:dm X.prog X.w H' h')(hg:AllBare g')
  (hch:∀b∈ch,(b∈X.ex\/X.s₀.heap.objs.size<=b)/\b≠X.env.locals/\(∀x c,X.env.cells.lookup x=some c->c≠b)/\∀p∈X.pn++pins,p.1≠b) :
  Inv X pins σ H' {s with heap:=h',gens:=g',drawn:=d',toks:=t'}:=by
 obtain⟨m,⟨o,es,ep,ho,r⟩,_⟩:=id I.loc;obtain⟨sl,hL⟩:=u.any ho I.free fun z=>(hch _ z).2.1 rfl;exact I.step (ch:=ch) hch (fun b o hL hb hc e n=>u.keep b o e n (fun z=>(HE.mp (I.stkSub b z)).elim hL hb) hc) (fun b o _ _ hc e n=>u.any e n hc) (fun b o hc e n=>u.free b o e n hc) (fun b o hc e=>u.there b o e hc) u.tups u.frzs u.tbls (fun m' hm=>by
  obtain⟨o',es',ep',ho',r'⟩:=hm;rw[ho]at ho';cases ho';exact⟨_,es',ep',hL,r'⟩) hok hg
theorem Inv.turned{t' :Nat}{it:Addr}(I:Inv X pins σ H s)(k:∀b o,b≠it->s.heap.get? b=some o->h'.get? b=some o)(hn:H it=none)(hL:it≠X.env.locals)
  (h1:it∈X.ex\/X.s₀.heap.objs.size<=it) (h2:∀x c,X.env.cells.lookup x=some c->c≠it) (h3:∀p∈X.pn++pins,p.1≠it):Inv X pins σ H {s with heap:=h',toks:=t'}:=by
 have nit:∀b u,H b=some u->b≠it:=fun b u e z=>by rw[z,hn]at e;cases e
 refine I.step (g' :=s.gens) (d' :=s.drawn) (ch:=[it]) (fun b hb=> ?_) (fun b o _ _ hc e _=>k b o (fun z=>hc (by simp[z])) e) (fun b o _ _ hc e _=>⟨o.slots,k b o (fun z=>hc (by simp[z])) e⟩) (fun _ _ _ _ n=>n)
  (fun b o hc e=>⟨o,k b o (fun z=>hc (by simp[z])) e⟩) (fun _ _ e=>e) (fun _ _ _ e=>e) (fun b ps e=>⟨#[],by rw[e];simp⟩) (fun m hm=> ?_) (fun b u e=> ?_) I.bare
 ·have e:b=it:=by simpa using hb
  subst e;exact⟨h1,hL,h2,h3⟩
 ·obtain⟨o,es,ep,ho,r⟩:=hm
  exact⟨o,es,ep,k _ o (Jf hL) ho,r⟩
 ·refine(I.hok b u e).stay (fun c v hc q=>k c v ?_ q) (fun _ q=>q) fun _ _ q=>q
  rcases hc with z|z
  ·rw[z];exact nit b u e
  ·exact nit c _ z
theorem Inv.tok(I:Inv X pins σ H s)(t:Nat):Inv X pins σ H {s with toks:=t}:=I.un (h' :=s.heap) (t' :=t) Un.refl I.hok
theorem Inv.kept{t' :Nat}(I:Inv X pins σ H s)(k:∀b u,s.heap.get? b=some u->h'.get? b=some u):Inv X pins σ H {s with heap:=h',toks:=t'}:=I.un (Un.kept k) (I.hok.kept k)
theorem Inv.laid{a:Addr}{o:HO}{t' :Nat}(I:Inv X pins σ H s)(k:∀b u,s.heap.get? b=some u->h'.get? b=some u)(hp:s.heap.objs.size<=a)(new:bC X.prog X.w (upd H a o) h' a o) :
  Inv X pins σ (upd H a o) {s with heap:=h',toks:=t'}:=I.un (Un.laid k hp (I.hok.fresh hp)) (I.hok.laid k hp new)
theorem Inv.write{x e:Addr}{o:HO}{t' :Nat}(I:Inv X pins σ H s)(mu:Mut (H x))(he:e=x\/H e=some (.own x))(k:∀b u,b≠e->s.heap.get? b=some u->h'.get? b=some u)(heo:∃u,h'.get? e=some u)
  (new:bC X.prog X.w (upd H x o) h' x o):Inv X pins σ (upd H x o) {s with heap:=h',toks:=t'}:=I.un (Un.write mu he k heo) (I.hok.write mu he k heo new)
theorem Inv.weak{σ' :List (Option V)}(I:Inv X pins σ H s)(hl:σ'.length=σ.length)(w:∀(i:Nat) v,σ'[i]? =some (some v)->σ[i]? =some (some v)):Inv X pins σ' H s :=
 ⟨I.ok,I.os,I.bare,I.base,let⟨m,hn,hl'⟩:=I.loc;⟨m,hn,fun i x v e1 e2 e3=>hl' i x v e1 (w i v e2) e3⟩,I.cell,I.free,I.freeC,I.pin,I.hok,hl.trans I.len⟩
theorem Inv.pins_of{pins' :List (Addr×Obj)}(I:Inv X pins σ H s)(h:∀p∈pins',s.heap.get? p.1=some p.2/\H p.1=none/\p.1≠X.env.locals/\p.1∉X.fs/\∀v,p.2.data≠.cell v):Inv X pins' σ H s :=
 ⟨I.ok,I.os,I.bare,I.base,I.loc,I.cell,I.free,I.freeC,fun p hp=>(Hr.mp hp).elim (fun z=>I.pin p (JO _ z)) (h p),I.hok,I.len⟩
theorem fm{N:List Str}(hN:N.Nodup){i j:Nat}{x:Str}(a:N[i]? =some x)(b:N[j]? =some x):i=j:=by
 obtain⟨h1,e1⟩:=G9.mp a;obtain⟨h2,e2⟩:=G9.mp b;exact(List.getElem_inj hN).mp (e1.trans e2.symm)
theorem ky{M:Model}{A:Around}{E:Value->Shared->Prop}{i:Nat}{x:Str}{v:V}{u:Value}{Q:Unit->Shared->Prop}(I:Inv X pins σ H s)(hN:X.N.Nodup)(hi:X.N[i]? =some x)(hx:Loc X.env.scope x)(r:RelV v u)
  (h:∀s',Inv X pins (σ.set i (some v)) H s' ->(∃a,Heap.SameBut a s.heap s'.heap/\(a=X.env.locals\/X.env.cells.lookup x=some a))->Q () s') (hf:X.fn x=true\/X.env.scope.names.lookup x=some .local:=by first|exact .inl rfl|exact .inr rfl|assumption):wpAny M A (storeName X.env x u) Q E s:=by
 obtain⟨m,hn,hl⟩:=id I.loc;have hcls:(X.env.scope.kind== .class||(X.env.scope.kind== .module&&X.env.locals !=X.env.globals))=false:=by rw[I.ok.kind];rfl
 have hiσ:i<σ.length:=by rw[I.len];exact(G9.mp hi).1
 have cne:=I.cne;have tracked:∀{a:Addr}{h' :Heap},(∃o,s.heap.get? a=some o/\H a=none)->Heap.SameBut a s.heap h' ->dm X.prog X.w H h' :=fun{a h'} ha hs b ob e=>by
  obtain⟨_,_,hfree⟩:=ha;refine(I.hok b ob e).stay (fun c w' hc q=>(hs.2 c ?_).trans q) (fun _ q=>q) fun _ _ q=>q;rintro rfl
  rcases hc with rfl|hc
  ·rw[hfree]at e;cases e
  ·rw[hfree]at hc;cases hc
 rcases hx with hk|hk
 ·refine wpAny_storeName_local hk hn (fun h' hn' hs=> ?_) hcls
  obtain⟨oL,_,_,hoL,_⟩:=id hn;refine h _ ⟨I.ok,I.os,I.bare,⟨fun b o e n hb hx=> ?_,fun b o e n hb hx=> ?_,I.base.free,fun b o e hx=> ?_,I.base.tups,I.base.frzs,I.base.tbls⟩,⟨_,hn',fun j y v' e1 e2 e3=> ?_⟩,fun y c e=> ?_,I.free,I.freeC,fun p hp=> ?_,tracked ⟨oL,hoL,I.free⟩ hs,by simpa using I.len⟩ ⟨_,hs,.inl rfl⟩
  ·exact(hs.2 b (HV (HX (G8 e) I.ok.above))).trans (I.base.keep b o e n hb hx)
  ·obtain⟨sl,e1⟩:=I.base.slot b o e n hb hx
   exact⟨sl,(hs.2 b (HV (HX (G8 e) I.ok.above))).trans e1⟩
  ·obtain⟨o',e1⟩:=I.base.there b o e hx
   exact⟨o',(hs.2 b (HV (HX (G8 e) I.ok.above))).trans e1⟩
  ·by_cases hj:j=i
   ·subst hj
    rw[hi]at e1;cases e1;rw[IB hiσ]at e2;cases e2;exact⟨u,r,.inl ⟨hk,by simp⟩⟩
   ·rw[Hg (Jf hj)]at e2
    obtain⟨u',r',q⟩:=hl j y v' e1 e2 e3;refine⟨u',r',?_⟩
    rcases q with⟨k,e⟩|⟨k,c,e,z⟩
    ·refine .inl ⟨k,?_⟩
     have:y≠x:=fun e=>hj (fm hN e1 (e▸hi));simp[this,e]
    ·exact .inr ⟨k,c,e,z.sameBut hs (cne y c e)⟩
  ·obtain⟨w',z⟩:=I.cell y c e
   exact⟨w',z.sameBut hs (cne y c e)⟩
  ·obtain⟨e,n,ne,nf,d⟩:=I.pin p hp
   exact⟨(hs.2 p.1 ne).trans e,n,ne,nf,d⟩
 ·have hfn:X.fn x=true:=by
   rcases hf with z|z
   ·exact z
   ·rw[z]at hk;cases hk
  obtain⟨c,hc⟩:=I.ok.has x (.inl hk);obtain⟨w',z⟩:=I.cell x c hc;refine wpAny_storeName_cell I.ok.kind hk hc z (fun h' hc' hs=> ?_);obtain⟨oc,hoc,hocd⟩:=id z;refine h {s with heap:=h'} ⟨I.ok,I.os,I.bare,⟨fun b o e n hb hx=> ?_,fun b o e n hb hx=> ?_,I.base.free,fun b o e hx=> ?_,I.base.tups,I.base.frzs,I.base.tbls⟩,⟨m,hn.sameBut hs (Jf (cne x c hc)),fun j y v' e1 e2 e3=> ?_⟩,fun y c' e=> ?_,I.free,I.freeC,fun p hp=> ?_,tracked ⟨oc,hoc,I.freeC x c hc⟩ hs,by simpa using I.len⟩ ⟨c,hs,.inr hc⟩
  ·exact(hs.2 b (HV (HX (G8 e) (I.ok.cab x c hfn hc)))).trans (I.base.keep b o e n hb hx)
  ·obtain⟨sl,e1⟩:=I.base.slot b o e n hb hx
   exact⟨sl,(hs.2 b (HV (HX (G8 e) (I.ok.cab x c hfn hc)))).trans e1⟩
  ·obtain⟨o',e1⟩:=I.base.there b o e hx
   exact⟨o',(hs.2 b (HV (HX (G8 e) (I.ok.cab x c hfn hc)))).trans e1⟩
  ·by_cases hj:j=i
   ·subst hj
    rw[hi]at e1;cases e1;rw[IB hiσ]at e2;cases e2;exact⟨u,r,.inr ⟨.inl hk,c,hc,hc'⟩⟩
   ·rw[Hg (Jf hj)]at e2
    obtain⟨u',r',q⟩:=hl j y v' e1 e2 e3;refine⟨u',r',?_⟩
    rcases q with q|⟨k,c',e,z'⟩
    ·exact .inl q
    ·refine .inr ⟨k,c',e,z'.sameBut hs ?_⟩
     rintro rfl;exact hj (fm hN e1 (I.ok.inj _ _ _ e hc▸hi))
  ·by_cases hcc:c' =c
   ·subst hcc;exact⟨_,hc'⟩
   ·obtain⟨w2,z2⟩:=I.cell y c' e
    exact⟨w2,z2.sameBut hs hcc⟩
  ·obtain⟨e,n,ne,nf,d⟩:=I.pin p hp
   refine⟨(hs.2 p.1 ?_).trans e,n,ne,nf,d⟩;intro q;rw[q,hoc]at e;have q' :oc=p.2:=HM e;exact d w' (by rw[<- q'];exact hocd)
theorem dv{M:Model}{A:Around}{E:Value->Shared->Prop}{i:Nat}{x:Str}{v:V}{u:Value}{Q:Unit->Shared->Prop}(I:Inv X pins σ H s)(hN:X.N.Nodup)(hi:X.N[i]? =some x)(hx:Loc X.env.scope x)(r:RelV v u)
  (h:∀s',Inv X pins (σ.set i (some v)) H s' ->Q () s') (hf:X.fn x=true\/X.env.scope.names.lookup x=some .local:=by first|exact .inl rfl|exact .inr rfl|assumption):wpAny M A (storeName X.env x u) Q E s :=
 ky I hN hi hx r (fun s' I' _=>h s' I') hf
theorem Inv.call'{s' :Shared}{ch:List Addr}(I:Inv X pins σ H s)(ho:s'.os=s.os)(u:Un (ou X.stack) ch H H' s.heap s'.heap)(hok:dm X.prog X.w H' s'.heap)(hg:AllBare s'.gens)
  (hch:∀b∈ch,(b∈X.ex\/X.s₀.heap.objs.size<=b)/\b≠X.env.locals/\(∀x c,X.env.cells.lookup x=some c->c≠b)/\∀p∈X.pn++pins,p.1≠b):Inv X pins σ H' s' :=by
 obtain⟨h',g',d',t',o'⟩:=s';have e:o' =s.os:=ho;subst e;exact I.call (g' :=g') (t' :=t') (d' :=d') u hok hg hch
end
noncomputable abbrev XK:=Value->Option Addr->Hp->Prop
noncomputable abbrev St:=List (Option V)
noncomputable abbrev VK:=V->Hp->Prop
noncomputable abbrev TE:=St->Hp->VK->Prop
noncomputable abbrev TT:=St->Hp->(Bool->Hp->Prop)->Prop
noncomputable abbrev TA:=St->Hp->(List V->Hp->Prop)->Prop
structure cw where
 nx:St->Hp->Prop
 rt:VK
 bk:St->Hp->Prop:=fun _ _=>False
 ct:St->Hp->Prop:=fun _ _=>False
noncomputable abbrev TS:=cw->St->Hp->Prop
noncomputable def EP(X:Cx)(pins:List (Addr×Obj))(σ:St)(Q:VK)(u:Value)(s' :Shared):Prop:=∃v H',Inv X pins σ H' s' /\RelV v u/\Q v H'
noncomputable def TP(X:Cx)(pins:List (Addr×Obj))(σ:St)(Q:Bool->Hp->Prop)(b:Bool)(s' :Shared):Prop:=∃H',Inv X pins σ H' s' /\Q b H'
noncomputable def AP(X:Cx)(pins:List (Addr×Obj))(σ:St)(Q:List V->Hp->Prop)(us:List Value)(s' :Shared):Prop:=∃vs H',Inv X pins σ H' s' /\aO vs us/\Q vs H'
noncomputable def SP(X:Cx)(pins:List (Addr×Obj))(D:cw)(f:Flow)(s' :Shared):Prop :=
 match f with
 | .next=>∃σ' H',Inv X pins σ' H' s' /\D.nx σ' H'
 | .brk=>∃σ' H',Inv X pins σ' H' s' /\D.bk σ' H'
 | .cont=>∃σ' H',Inv X pins σ' H' s' /\D.ct σ' H'
 | .ret u=>∃v σ' H',Inv X pins σ' H' s' /\RelV v u/\D.rt v H'
noncomputable def PE(X:Cx)(e:Expr)(t:TE):Prop :=
 ∀(pins:List (Addr×Obj))(s:Shared)(σ:St)(H:Hp)(Q:VK),Inv X pins σ H s->t σ H Q->wpAny (model X.prog X.w) X.A (eval e X.env) (EP X pins σ Q) X.xe s
noncomputable def PT(X:Cx)(e:Expr)(t:TT):Prop :=
 ∀(pins:List (Addr×Obj))(s:Shared)(σ:St)(H:Hp)(Q:Bool->Hp->Prop),Inv X pins σ H s->t σ H Q->wpAny (model X.prog X.w) X.A (isTrue e X.env (eval e X.env)) (TP X pins σ Q) X.xe s
noncomputable def PW(X:Cx)(e:Expr)(t:TT):Prop :=
 ∀(whole:Sem Value)(pins:List (Addr×Obj))(s:Shared)(σ:St)(H:Hp)(Q:Bool->Hp->Prop),Inv X pins σ H s->t σ H Q->wpAny (model X.prog X.w) X.A (isTrue e X.env whole) (TP X pins σ Q) X.xe s
noncomputable def PA(X:Cx)(es:List Expr)(t:TA):Prop :=
 ∀(pos:Pos)(pins:List (Addr×Obj))(s:Shared)(σ:St)(H:Hp)(Q:List V->Hp->Prop),Inv X pins σ H s->t σ H Q->wpAny (model X.prog X.w) X.A (spliced (backTo pos (starEach es X.env))) (AP X pins σ Q) X.xe s
noncomputable def PS(X:Cx)(st:Stmt)(t:TS):Prop :=
 ∀(pins:List (Addr×Obj))(s:Shared)(σ:St)(H:Hp)(D:cw),Inv X pins σ H s->t D σ H->wpAny (model X.prog X.w) X.A (exec st X.env) (SP X pins D) X.xe s
noncomputable def my(X:Cx)(st:List Stmt)(t:TS):Prop :=
 ∀(pins:List (Addr×Obj))(s:Shared)(σ:St)(H:Hp)(D:cw),Inv X pins σ H s->t D σ H->wpAny (model X.prog X.w) X.A (execs st X.env) (SP X pins D) X.xe s
theorem bJ{α:Type}{t:Sem α}{Q Q' :α->Shared->Prop}{M:Model}{A:Around}{E:Value->Shared->Prop}{s:Shared}(h:wpAny M A t Q E s)(hQ:∀a s,Q a s->Q' a s):wpAny M A t Q' E s:=Ig h hQ fun _ _ x=>x
section
variable{X:Cx}
theorem bin{a b:Expr}{ta tb:TE}(ha:PE X a ta)(hb:PE X b tb){pins:List (Addr×Obj)}{s:Shared}{σ:St}{H:Hp}{R:V->V->Hp->Prop}(I:Inv X pins σ H s)(h:ta σ H fun x H1=>tb σ H1 fun y H2=>R x y H2)
  {α:Type} {Q:α->Shared->Prop} {f:Value->Value->Sem α}
  (hf:∀v u s2 x y H2,Inv X pins σ H2 s2->RelV x v->RelV y u->R x y H2->wpAny (model X.prog X.w) X.A (f v u) Q X.xe s2) :
  wpAny (model X.prog X.w) X.A (eval a X.env) (fun v s₁=>wpAny (model X.prog X.w) X.A (eval b X.env) (fun u s₂=>wpAny (model X.prog X.w) X.A (f v u) Q X.xe s₂) X.xe s₁) X.xe s:=by
 refine bJ (ha pins s σ H _ I h) fun v s1 hpq=> ?_;obtain⟨x,H1,I1,r1,q1⟩:=hpq;refine bJ (hb pins s1 σ H1 _ I1 q1) fun u s2 hpq=> ?_;obtain⟨y,H2,I2,r2,q2⟩:=hpq;exact hf v u s2 x y H2 I2 r1 r2 q2
noncomputable def Dz(i:Nat):TE:=fun σ H Q=>∃v,σ[i]? =some (some v)/\Q v H
noncomputable def tC(v:V):TE:=fun _ H Q=>Q v H
theorem mJ{i:Nat}{x:Str}{pos:Pos}(hN:X.N[i]? =some x)(hv:Db X.env.scope x)(hd:(x==("__debug__":Str))=false:=by decide)(hcd:(x==("__classdict__":Str))=false:=by decide):PE X (.Name x pos) (Dz i):=by
 intro pins s σ H Q I h;obtain⟨v,e,h⟩:=h;obtain⟨m,hn,hl⟩:=I.loc;obtain⟨u,r,l⟩:=hl i x v hN e hv;have fin:EP X pins σ Q u s:=⟨v,H,I,r,h⟩
 rcases l with⟨hk,hm⟩|⟨hk,c,hc,hcell⟩
 ·exact wpAny_Name (wpAny_loadName_local I.ok.kind hk hn hm fin) hd
 ·rcases hk with hk|hk
  ·exact wpAny_Name (wpAny_loadName_cell I.ok.kind hk hc hcell fin) hd
  ·exact wpAny_Name (wpAny_loadName_free I.ok.kind hk hc hcell fin hcd) hd
theorem BH{i j pos}:PE X (.Constant (.int i) j pos) (tC (.int i)):=fun _ _ _ H _ I h=>wpAny_Constant_int ⟨.int i,H,I.tok _,⟨_,rfl⟩,h⟩
theorem qw{b j pos}:PE X (.Constant (.bool b) j pos) (tC (.bl b)):=fun _ _ _ H _ I h=>Constant_bool ⟨.bl b,H,I,rfl,h⟩
theorem vN{j pos}:PE X (.Constant .none j pos) (tC .non):=fun _ _ _ H _ I h=>Constant_none ⟨.non,H,I,rfl,h⟩
theorem BE{x j pos}:PE X (.Constant (.str x) j pos) (tC (.str x)):=fun _ _ _ H _ I h=>Calls.Constant_str ⟨.str x,H,I.tok _,⟨_,rfl⟩,h⟩
noncomputable def Gl(X:Cx)(x:Str):Prop:=X.env.kindOf x=some .globalImplicit
theorem fq{E:Value->Shared->Prop}{pins:List (Addr×Obj)}{s:Shared}{σ:St}{H:Hp}{x:Str}{u:Value}{pos:Pos}{Q:Value->Shared->Prop}(I:Inv X pins σ H s)(hg:Gl X x)(hm:X.mg x=some u)(h:Q u s)
  (hd:(x==("__debug__":Str))=false:=by decide):wpAny (model X.prog X.w) X.A (eval (.Name x pos) X.env) Q E s :=
 Calls.Name_function_global I.ok.kind hg (Calls.loadGlobal_global (by rw[I.ok.glob];exact I.mod.glob.keeps I.bk) hm h) hd
theorem bv{E:Value->Shared->Prop}{pins:List (Addr×Obj)}{s:Shared}{σ:St}{H:Hp}{x:Str}{u:Value}{pos:Pos}{Q:Value->Shared->Prop}(I:Inv X pins σ H s)(hg:Gl X x)(hm:X.mg x=none)(hv:bootBuiltins x=some u)(h:Q u s)
  (hn:x≠"__name__":=by decide) (hd:(x==("__debug__":Str))=false:=by decide):wpAny (model X.prog X.w) X.A (eval (.Name x pos) X.env) Q E s:=by
 obtain⟨mb,h1,h2⟩:=I.mod.blt;exact Calls.Name_function_global I.ok.kind hg (Calls.loadGlobal_builtin (by rw[I.ok.glob];exact I.mod.glob.keeps I.bk) hm (by rw[I.ok.blt];exact h1.keeps I.bk) ((h2 x hn).trans hv) h) hd
theorem fj{x:Str}{v:V}{u:Value}{pos:Pos}(hg:Gl X x)(hm:X.mg x=some u)(r:RelV v u)(hd:(x==("__debug__":Str))=false:=by decide):PE X (.Name x pos) (tC v) :=
 fun _ _ _ H _ I h=>fq I hg hm ⟨v,H,I,r,h⟩ hd
theorem xz{x:Str}{v:V}{u:Value}{pos:Pos}(hg:Gl X x)(hm:X.mg x=none)(hv:bootBuiltins x=some u)(r:RelV v u)(hn:x≠"__name__":=by decide)(hd:(x==("__debug__":Str))=false:=by decide):PE X (.Name x pos) (tC v) :=
 fun _ _ _ H _ I h=>bv I hg hm hv ⟨v,H,I,r,h⟩ hn hd
variable{a b:Expr}{ta tb:TE}{pos:Pos}
variable{tA tB' :TT}{aM:List Expr}
noncomputable def tAnd(t u:TT):TT:=fun σ H Q=>t σ H fun c H1=>if c=true then u σ H1 Q else Q false H1
noncomputable def tOr(t u:TT):TT:=fun σ H Q=>t σ H fun c H1=>if c=true then Q true H1 else u σ H1 Q
noncomputable def tNot(t:TT):TT:=fun σ H Q=>t σ H fun c H1=>Q (!c) H1
theorem xb(ha:PT X a tA):PW X (.BoolOp .And [a] pos) tA:=by
 intro wh pins s σ H Q I h;refine isTrue_and (bJ (ha pins s σ H Q I h) fun c s1 e=> ?_);cases c with
 | true=>exact isTrue_and_nil e
 | false=>exact e
theorem A0(ha:PT X a tA):PW X (.BoolOp .Or [a] pos) tA:=by
 intro wh pins s σ H Q I h;refine isTrue_or (bJ (ha pins s σ H Q I h) fun c s1 e=> ?_);cases c with
 | false=>exact isTrue_or_nil e
 | true=>exact e
theorem A1(ha:PT X a tA)(hb:PW X (.BoolOp .And (b::aM) pos) tB'):PW X (.BoolOp .And (a::b::aM) pos) (tAnd tA tB'):=by
 intro wh pins s σ H Q I h;refine isTrue_and (bJ (ha pins s σ H _ I h) fun c s1 hpq=> ?_);obtain⟨H1,I1,q1⟩:=hpq;cases c with
 | true=>exact hb wh pins s1 σ H1 Q I1 q1
 | false=>exact⟨H1,I1,q1⟩
theorem Em(ha:PT X a tA)(hb:PW X (.BoolOp .Or (b::aM) pos) tB'):PW X (.BoolOp .Or (a::b::aM) pos) (tOr tA tB'):=by
 intro wh pins s σ H Q I h;refine isTrue_or (bJ (ha pins s σ H _ I h) fun c s1 hpq=> ?_);obtain⟨H1,I1,q1⟩:=hpq;cases c with
 | true=>exact⟨H1,I1,q1⟩
 | false=>exact hb wh pins s1 σ H1 Q I1 q1
theorem A6(ha:PT X a tA):PT X (.UnaryOp .Not a pos) (tNot tA):=by
 intro pins s σ H Q I h;exact isTrue_not (ha pins s σ H (fun c H1=>Q (!c) H1) I h)
noncomputable def EM(ta tb:TE):TE:=fun σ H Q=>ta σ H fun x H1=>∃c,x=.bl c/\if c=true then tb σ H1 Q else Q (.bl false) H1
noncomputable def tOrV(ta tb:TE):TE:=fun σ H Q=>ta σ H fun x H1=>∃c,x=.bl c/\if c=true then Q (.bl true) H1 else tb σ H1 Q
noncomputable def EF(ta:TE):TE:=fun σ H Q=>ta σ H fun x H1=>∃c,x=.bl c/\Q (.bl (!c)) H1
theorem BF{op}{t:TE}(h:PE X a t):PE X (.BoolOp op [a] pos) t:=fun pins s σ H Q I hw=>BoolOp_one (h pins s σ H Q I hw)
theorem vQ(ha:PE X a ta)(hb:PE X (.BoolOp .And (b::aM) pos) tb):PE X (.BoolOp .And (a::b::aM) pos) (EM ta tb):=by
 intro pins s σ H Q I h;refine BoolOp_and (bJ (ha pins s σ H _ I h) fun v s1 hpq=> ?_);obtain⟨x,H1,I1,r1,q1⟩:=hpq;obtain⟨c,rfl,q1⟩:=q1;cases r1;refine JU ?_;cases c with
 | true=>exact hb pins s1 σ H1 Q I1 q1
 | false=>exact⟨.bl false,H1,I1,rfl,q1⟩
theorem zf(ha:PE X a ta)(hb:PE X (.BoolOp .Or (b::aM) pos) tb):PE X (.BoolOp .Or (a::b::aM) pos) (tOrV ta tb):=by
 intro pins s σ H Q I h;refine BoolOp_or (bJ (ha pins s σ H _ I h) fun v s1 hpq=> ?_);obtain⟨x,H1,I1,r1,q1⟩:=hpq;obtain⟨c,rfl,q1⟩:=q1;cases r1;refine JU ?_;cases c with
 | false=>exact hb pins s1 σ H1 Q I1 q1
 | true=>exact⟨.bl true,H1,I1,rfl,q1⟩
theorem BG(ha:PE X a ta):PE X (.UnaryOp .Not a pos) (EF ta):=by
 intro pins s σ H Q I h;refine UnaryOp_ (bJ (ha pins s σ H _ I h) fun v s1 hpq=> ?_);obtain⟨x,H1,I1,r1,q1⟩:=hpq;obtain⟨c,rfl,q1⟩:=q1;cases r1;exact not_of (JU ⟨.bl (!c),H1,I1,rfl,q1⟩)
noncomputable def tIf(t:TT)(ta tb:TE):TE:=fun σ H Q=>t σ H fun c H1=>if c=true then ta σ H1 Q else tb σ H1 Q
theorem vO{c:Expr}(hc:PT X c tA)(ha:PE X a ta)(hb:PE X b tb):PE X (.IfExp c a b pos) (tIf tA ta tb):=by
 intro pins s σ H Q I h;refine wpAny_IfExp (bJ (hc pins s σ H _ I h) fun d s1 hpq=> ?_);obtain⟨H1,I1,q1⟩:=hpq;cases d with
 | true=>exact ha pins s1 σ H1 Q I1 q1
 | false=>exact hb pins s1 σ H1 Q I1 q1
end
noncomputable def bP(K:W.Frag)(H:Hp)(a:Addr)(xs:List V):Prop :=
 Rd H a (.lst xs) \/
  ∃(o:Obj)(its:Array Value)(n:Nat),K.lookup a=some o/\o.cls=.type "list"/\o.dict=none/\o.data=.seq its n/\its.size<=sizeLine/\aO xs its.toList
noncomputable def ba(K:W.Frag)(H:Hp)(a:Addr)(xs:List V):Prop :=
 Rd H a (.tup xs) \/
  ∃(o:Obj)(its:Array Value)(n:Nat),K.lookup a=some o/\o.cls=.type "tuple"/\o.dict=none/\o.data=.seq its n/\its.size<=sizeLine/\aO xs its.toList
noncomputable def absV:Value->Option V
 | .none=>some .non
 | .bool b=>some (.bl b)
 | .int i _=>some (.int i)
 | .str x _=>some (.str x)
 | .bytes b _=>some (.byt b)
 | .float b _=>some (.flt b)
 | .ref a=>some (.ref a)
 | .type n=>some (.ty n)
 | _=>none
theorem RelV.abs{x:V}{u:Value}(r:RelV x u):absV u=some x:=by
 cases x with
 | non=>cases r;rfl
 | bl _=>cases r;rfl
 | int _=>obtain⟨t,rfl⟩:=r;rfl
 | str _=>obtain⟨t,rfl⟩:=r;rfl
 | byt _=>obtain⟨t,rfl⟩:=r;rfl
 | flt _=>obtain⟨t,rfl⟩:=r;rfl
 | ref _=>cases r;rfl
 | ty _=>cases r;rfl
theorem RelV.inj{x y:V}{u:Value}(r:RelV x u)(q:RelV y u):x=y:=HM (r.abs.symm.trans q.abs)
theorem aO.inj{xs ys:List V}{us:List Value}(h:aO xs us)(k:aO ys us):xs=ys:=by
 induction h generalizing ys with
 | nil=>cases k;rfl
 | cons r t ih =>
  cases k with
  | cons r' t' =>rw[r.inj r',ih t']
section
variable{X:Cx}{pins:List (Addr×Obj)}{σ:St}{H:Hp}{s:Shared}{a:Addr}{xs ys:List V}
theorem bP.of{K:W.Frag}(h:H a=some (.lst xs)):bP K H a xs:=.inl (.inl h)
theorem ba.of{K:W.Frag}(h:H a=some (.tup xs)):ba K H a xs:=.inl (.inl h)
theorem Inv.list(I:Inv X pins σ H s)(h:bP X.K H a xs):∃its:List Value,aO xs its/\PlainL s.heap a its.toArray/\xs.length<=sizeLine:=by
 rcases h with h|⟨o,its,n,hk,hc,hd,hs,hz,r⟩
 ·obtain⟨z,its,n,r,e⟩:=h.ok I.hok
  exact⟨its,r,⟨_,n,e,rfl,rfl,rfl⟩,z⟩
 ·refine⟨its.toList,r,⟨o,n,I.kIn a o hk,hc,hd,by simpa using hs⟩,?_⟩
  have e:=r.length;simp only[HJ]at e;omega
theorem Inv.tuple(I:Inv X pins σ H s)(h:ba X.K H a xs):∃its:List Value,aO xs its/\IsTup s.heap a its.toArray/\xs.length<=sizeLine:=by
 rcases h with h|⟨o,its,n,hk,hc,_,hs,hz,r⟩
 ·obtain⟨z,its,r,p⟩:=h.ok I.hok
  exact⟨its,r,p.tup,z⟩
 ·refine⟨its.toList,r,⟨o,I.kIn a o hk,hc,n,by simpa using hs⟩,?_⟩
  have e:=r.length;simp only[HJ]at e;omega
theorem Inv.tupleD(I:Inv X pins σ H s)(h:ba X.K H a xs):∃o,s.heap.get? a=some o/\o.cls=.type "tuple"/\o.dict=none:=by
 rcases h with h|⟨o,its,n,hk,hc,hd,_⟩
 ·obtain⟨z,its,r,o,e,c,n,_,d⟩:=h.ok I.hok
  exact⟨o,e,c,d⟩
 ·exact⟨o,I.kIn a o hk,hc,hd⟩
theorem Inv.list_inj(I:Inv X pins σ H s)(h:bP X.K H a xs)(h' :bP X.K H a ys):xs=ys:=by
 obtain⟨its,r,⟨o,n,e,_,_,d⟩,_⟩:=I.list h;obtain⟨its',r',⟨o',n',e',_,_,d'⟩,_⟩:=I.list h';rw[e]at e';cases e';rw[d]at d'
 injection d' with d1 _
 have:its=its' :=by simpa using Ia Array.toList d1
 subst this;exact r.inj r'
theorem Inv.tuple_inj(I:Inv X pins σ H s)(h:ba X.K H a xs)(h' :ba X.K H a ys):xs=ys:=by
 obtain⟨its,r,⟨o,e,_,n,d⟩,_⟩:=I.tuple h;obtain⟨its',r',⟨o',e',_,n',d'⟩,_⟩:=I.tuple h';rw[e]at e';cases e';rw[d]at d'
 injection d' with d1 _
 have:its=its' :=by simpa using Ia Array.toList d1
 subst this;exact r.inj r'
end
noncomputable abbrev Cx.wish(X:Cx)(E:Value->Shared->Prop):Cx:={X with xe:=E}
noncomputable abbrev Cx.nox(X:Cx):Cx:=X.wish fun _ _=>False
theorem Cx.Ok.wish{X:Cx}(ok:X.Ok)(E:Value->Shared->Prop):(X.wish E).Ok :=
 ⟨ok.mod,ok.kind,ok.glob,ok.blt,ok.above,ok.inj,ok.has,ok.cab,ok.hd,ok.frames,ok.stk,ok.exf,ok.bs,ok.bsz,ok.noex,ok.exfs,ok.funs,ok.frf⟩
theorem Cx.Ok.unwish{X:Cx}{E:Value->Shared->Prop}(ok:(X.wish E).Ok):X.Ok :=
 ⟨ok.mod,ok.kind,ok.glob,ok.blt,ok.above,ok.inj,ok.has,ok.cab,ok.hd,ok.frames,ok.stk,ok.exf,ok.bs,ok.bsz,ok.noex,ok.exfs,ok.funs,ok.frf⟩
section
variable{X:Cx}{pins:List (Addr×Obj)}{σ:St}{H:Hp}{s:Shared}{E:Value->Shared->Prop}
theorem Inv.wish(I:Inv X pins σ H s)(E:Value->Shared->Prop):Inv (X.wish E) pins σ H s:=⟨I.ok.wish E,I.os,I.bare,I.base,I.loc,I.cell,I.free,I.freeC,I.pin,I.hok,I.len⟩
theorem Inv.unwish(I:Inv (X.wish E) pins σ H s):Inv X pins σ H s:=⟨I.ok.unwish,I.os,I.bare,I.base,I.loc,I.cell,I.free,I.freeC,I.pin,I.hok,I.len⟩
theorem SP.unwish{D:cw}{f:Flow}{s' :Shared}(h:SP (X.wish E) pins D f s'):SP X pins D f s' :=by
 cases f with
 | next=>obtain⟨σ',H',I,q⟩:=h;exact⟨σ',H',I.unwish,q⟩
 | brk=>obtain⟨σ',H',I,q⟩:=h;exact⟨σ',H',I.unwish,q⟩
 | cont=>obtain⟨σ',H',I,q⟩:=h;exact⟨σ',H',I.unwish,q⟩
 | ret u=>obtain⟨v,σ',H',I,r,q⟩:=h;exact⟨v,σ',H',I.unwish,r,q⟩
theorem my.nox{st:List Stmt}{t:TS}(h:my X.nox st t):my X st t:=fun pins s σ H D I hw =>
 Ig (h pins s σ H D (I.wish _) hw) (fun _ _ q=>q.unwish) fun _ _ z=>False.elim z
end
section
variable{X:Cx}{st:Stmt}{aM:List Stmt}{t u:TS}{e:Expr}{te:TE}{pos:Pos}
noncomputable def zX:TS:=fun D σ H=>D.nx σ H
noncomputable def tSeq(t u:TS):TS:=fun D σ H=>t {D with nx:=u D} σ H
theorem xi:my X [] zX:=fun _ _ σ H _ I h=>KR ⟨σ,H,I,h⟩
theorem eD(h1:PS X st t)(h2:my X aM u):my X (st::aM) (tSeq t u):=by
 intro pins s σ H D I h;refine wpAny_execs_cons (bJ (h1 pins s σ H {D with nx:=u D} I h) fun f s1 q=> ?_);cases f with
 | next =>
  obtain⟨σ',H',I',q⟩:=q;exact h2 pins s1 σ' H' D I' q
 | ret v=>exact q
 | brk=>exact q
 | cont=>exact q
theorem mG(h1:PS X st t):my X [st] t:=by
 intro pins s σ H D I h;refine wpAny_execs_cons (bJ (h1 pins s σ H D I h) fun f s1 q=> ?_);cases f with
 | next=>exact KR q
 | ret v=>exact q
 | brk=>exact q
 | cont=>exact q
noncomputable def Aj:TS:=fun D σ H=>D.bk σ H
noncomputable def EI:TS:=fun D σ H=>D.ct σ H
theorem xk:PS X (.Pass pos) zX:=fun _ _ σ H _ I h=>wpAny_Pass ⟨σ,H,I,h⟩
theorem u9:PS X (.Break pos) Aj:=fun _ _ σ H _ I h=>wpAny_Break ⟨σ,H,I,h⟩
theorem nM:PS X (.Continue pos) EI:=fun _ _ σ H _ I h=>wpAny_Continue ⟨σ,H,I,h⟩
theorem Inv.quiet{pins:List (Addr×Obj)}{σ:St}{H:Hp}{s:Shared}(I:Inv X pins σ H s):interactive X.env=false:=by simp[interactive,I.ok.kind]
noncomputable def EG(te:TE):TS:=fun D σ H=>te σ H fun _ H1=>D.nx σ H1
theorem mH(he:PE X e te)(hs:swapsWith e none pos.line X.env=pure false:=by rfl):PS X (.Expr e pos) (EG te):=by
 intro pins s σ H D I h;exact wpAny_Expr_any (bJ (he pins s σ H _ I h) fun v s1 ⟨x,H1,I1,r1,q1⟩=>⟨σ,H1,I1,q1⟩) I.quiet hs
noncomputable def tRet(te:TE):TS:=fun D σ H=>te σ H D.rt
theorem pN(he:PE X e te):PS X (.Return (some e) pos) (tRet te):=by
 intro pins s σ H D I h;exact wpAny_Return_some (bJ (he pins s σ H _ I h) fun v s1 ⟨x,H1,I1,r1,q1⟩=>⟨x,σ,H1,I1,r1,q1⟩)
noncomputable def ED:TS:=fun D _ H=>D.rt .non H
theorem xj:PS X (.Return none pos) ED:=fun _ _ σ H _ I h=>wpAny_Return_none ⟨.non,σ,H,I,rfl,h⟩
noncomputable def tIfS(c:TT)(t u:TS):TS:=fun D σ H=>c σ H fun b H1=>if b=true then t D σ H1 else u D σ H1
theorem u7{c:Expr}{a b:List Stmt}{tc:TT}(hc:PT X c tc)(ha:my X a t)(hb:my X b u):PS X (.If c a b pos) (tIfS tc t u):=by
 intro pins s σ H D I h;refine wpAny_If (bJ (hc pins s σ H _ I h) fun d s1 hpq=> ?_);obtain⟨H1,I1,q1⟩:=hpq;cases d with
 | true=>exact ha pins s1 σ H1 D I1 q1
 | false=>exact hb pins s1 σ H1 D I1 q1
end
noncomputable abbrev TG:=V->St->Hp->(St->Hp->Prop)->Prop
noncomputable abbrev C2:=List V->St->Hp->(St->Hp->Prop)->Prop
noncomputable def PG(X:Cx)(target:Expr)(t:TG):Prop :=
 ∀(pins:List (Addr×Obj))(s:Shared)(σ:St)(H:Hp)(v:V)(u:Value)(Q:St->Hp->Prop),Inv X pins σ H s->RelV v u->t v σ H Q ->
  wpAny (model X.prog X.w) X.A (assign target X.env u) (fun _ s' =>∃σ' H',Inv X pins σ' H' s' /\Q σ' H') X.xe s
noncomputable def Gc(X:Cx)(ts:List Expr)(t:C2):Prop :=
 ∀(pins:List (Addr×Obj))(s:Shared)(σ:St)(H:Hp)(vs:List V)(us:List Value)(Q:St->Hp->Prop),Inv X pins σ H s->aO vs us->t vs σ H Q ->
  wpAny (model X.prog X.w) X.A (assignInOrder ((assignEach ts X.env).map (·.2)) us) (fun _ s' =>∃σ' H',Inv X pins σ' H' s' /\Q σ' H') X.xe s
noncomputable abbrev TIp:=V->V->Hp->VK->Prop
noncomputable def PIp(X:Cx)(op:Operator)(t:TIp):Prop :=
 ∀(pins:List (Addr×Obj))(s:Shared)(σ:St)(H:Hp)(x y:V)(v u:Value)(Q:VK),Inv X pins σ H s->RelV x v->RelV y u->t x y H Q ->
  wpAny (model X.prog X.w) X.A (inplaceOp op v u) (EP X pins σ Q) X.xe s
section
variable{X:Cx}{pos:Pos}
noncomputable def rQ(i:Nat):TG:=fun v σ H Q=>Q (σ.set i (some v)) H
theorem fi{i:Nat}{x:Str}(hN:X.N.Nodup)(hi:X.N[i]? =some x)(hx:Loc X.env.scope x)(hf:X.fn x=true\/X.env.scope.names.lookup x=some .local:=by first|exact .inl rfl|exact .inr rfl|assumption):PG X (.Name x pos) (rQ i):=by
 intro pins s σ H v u Q I r h;exact wpAny_assign_Name (dv I hN hi hx r (fun s' I' =>⟨_,H,I',h⟩) hf)
noncomputable def gNil:C2:=fun vs σ H Q=>vs=[]/\Q σ H
noncomputable def Fk(t:TG)(u:C2):C2:=fun vs σ H Q=>∃v r,vs=v::r/\t v σ H fun σ' H' =>u r σ' H' Q
theorem qr:Gc X [] gNil:=by
 intro pins s σ H vs us Q I r h;obtain⟨e,h⟩:=h;subst e;cases r;exact assignInOrder_nil ⟨σ,H,I,h⟩
theorem jJ{e:Expr}{es:List Expr}{t:TG}{u:C2}(h1:PG X e t)(h2:Gc X es u)
  (hs:(assignEach (e::es) X.env).map (·.2)=assign e X.env::(assignEach es X.env).map (·.2):=by rfl):Gc X (e::es) (Fk t u):=by
 intro pins s σ H vs us Q I r h;obtain⟨v,vr,e1,h⟩:=h;subst e1;cases r with
 | cons r rr =>
  rw[hs];refine assignInOrder_cons (bJ (h1 pins s σ H _ _ _ I r h) fun _ s1 hpq=> ?_);obtain⟨σ1,H1,I1,q1⟩:=hpq;exact h2 pins s1 σ1 H1 _ _ Q I1 rr q1
noncomputable def gTup(K:W.Frag)(n:Nat)(t:C2):TG:=fun v σ H Q=>∃a xs,v=.ref a/\ba K H a xs/\xs.length=n/\t xs σ H Q
theorem vJ{es:List Expr}{k:Nat}{t:C2}{n:Nat}(hc:X.calm=true)(h:Gc X es t)
  (hn:(assignEach es X.env).length=n:=by rfl) (hst:(assignEach es X.env).findIdx? (·.1)=none:=by rfl):PG X (.Tuple es k pos) (gTup X.K n t):=by
 intro pins s σ H v u Q I r hw;obtain⟨a,xs,e1,hq,hl,hw⟩:=hw;subst e1;cases r;obtain⟨its,rv,ht,hz⟩:=I.tuple hq;refine assign_Tuple_tuple (I.ok.hd hc) ht (by simp[hn,<-hl,rv.length]) hst fun h' hx=> ?_;have I1:Inv X pins σ H {s with heap:=h'}:=I.kept (t' :=s.toks) fun b o e=>hx b o (HV (G8 e)) e;exact h pins _ σ H xs _ Q I1 (by simpa using rv) hw
noncomputable def EL(te:TE)(g:TG):TS:=fun D σ H=>te σ H fun x H1=>g x σ H1 D.nx
theorem gQ{i:Nat}{x:Str}{e:Expr}{te:TE}{pos' :Pos}(hN:X.N.Nodup)(hi:X.N[i]? =some x)(hx:Loc X.env.scope x)(he:PE X e te)(hs:swapsWith e (some (.Name x pos')) pos.line X.env=pure false:=by rfl)(hf:X.fn x=true\/X.env.scope.names.lookup x=some .local:=by first|exact .inl rfl|exact .inr rfl|assumption) :
  PS X (.Assign [.Name x pos'] e pos) (EL te (rQ i)):=by
 intro pins s σ H D I h;refine wpAny_Assign_Name (bJ (he pins s σ H _ I h) fun v s1 ⟨y,H1,I1,r1,q1⟩=> ?_) hs;exact dv I1 hN hi hx r1 (fun s2 I2=>⟨_,H1,I2,q1⟩) hf
noncomputable def tAug(i:Nat)(te:TE)(ti:TIp):TS:=fun D σ H=>∃x,σ[i]? =some (some x)/\te σ H fun y H1=>ti x y H1 fun z H2=>D.nx (σ.set i (some z)) H2
theorem A8{i:Nat}{x:Str}{e:Expr}{te:TE}{op:Operator}{ti:TIp}{pos' :Pos}(hN:X.N.Nodup)(hi:X.N[i]? =some x)(hx:Loc X.env.scope x)(he:PE X e te)(ho:PIp X op ti)(hf:X.fn x=true\/X.env.scope.names.lookup x=some .local:=by first|exact .inl rfl|exact .inr rfl|assumption) :
  PS X (.AugAssign (.Name x pos') op e pos) (tAug i te ti):=by
 intro pins s σ H D I h;obtain⟨v,e1,h⟩:=h;obtain⟨m,hn,hl⟩:=I.loc;have AR:Db X.env.scope x:=by rcases hx with k|k;exact .inl k;exact .inr (.inl k)
 obtain⟨u,r,l⟩:=hl i x v hi e1 AR;refine wpAny_AugAssign_Name ?_;have go:wpAny (model X.prog X.w) X.A (eval e X.env) (fun w s₂=>wpAny (model X.prog X.w) X.A (inplaceOp op u w) (fun r s₃=>wpAny (model X.prog X.w) X.A (storeName X.env x r) (fun _=>SP X pins D .next) X.xe s₃) X.xe s₂) X.xe s:=by
  refine bJ (he pins s σ H _ I h) fun w s1 hpq=> ?_;obtain⟨y,H1,I1,r1,q1⟩:=hpq;refine bJ (ho pins s1 σ H1 v y u w _ I1 r r1 q1) fun z s2 hpq=> ?_;obtain⟨zv,H2,I2,r2,q2⟩:=hpq;exact dv I2 hN hi hx r2 (fun s3 I3=>⟨_,H2,I3,q2⟩) hf
 rcases l with⟨hk,hm⟩|⟨hk,c,hc,hcell⟩
 ·exact wpAny_loadName_local I.ok.kind hk hn hm go
 ·rcases hk with hk|hk
  ·exact wpAny_loadName_cell I.ok.kind hk hc hcell go
  ·rcases hx with k|k
   ·have:X.env.scope.names.lookup x=some .free:=hk
    rw[k]at this;cases this
   ·have:X.env.scope.names.lookup x=some .free:=hk
    rw[k]at this;cases this
noncomputable def ipI(f:Int->Int->Int):TIp:=fun x y H Q=>∃i j,x=.int i/\y=.int j/\Q (.int (f i j)) H
theorem By:PIp X .Add (ipI fun i j=>i+j):=by
 intro pins s σ H x y v u Q I r1 r2 h;obtain⟨i,j,e1,e2,q⟩:=h;subst e1;subst e2;obtain⟨t,rfl⟩:=r1;obtain⟨t',rfl⟩:=r2;exact iadd_int ⟨.int _,H,I.tok _,⟨_,rfl⟩,q⟩
theorem Bx:PIp X .Sub (ipI fun i j=>i-j):=by
 intro pins s σ H x y v u Q I r1 r2 h;obtain⟨i,j,e1,e2,q⟩:=h;subst e1;subst e2;obtain⟨t,rfl⟩:=r1;obtain⟨t',rfl⟩:=r2;exact isub_int ⟨.int _,H,I.tok _,⟨_,rfl⟩,q⟩
noncomputable def Af(c:TT)(tb:TS):TS:=fun D σ H=>∃W:Nat->St->Hp->Prop,(∃m,W m σ H)/\∀m σ H,W m σ H ->
 c σ H fun b H1=>if b=true then∃N:St->Hp->Prop,(∀σ' H',N σ' H' ->∃m',m' <m/\W m' σ' H')/\tb {D with nx:=N,ct:=N,bk:=D.nx} σ H1 else D.nx σ H1
theorem uy{c:Expr}{body:List Stmt}{tc:TT}{tb:TS}(hp:PassesOwn (model X.prog X.w) X.A X.env X.xe)(hc:PT X c tc)(hb:my X body tb):PS X (.While c body [] pos) (Af tc tb):=by
 intro pins s σ H D I h;obtain⟨W,⟨m0,w0⟩,turn⟩:=h;refine wpAny_While (codeAny_whileLoop (fun n s' =>∃σ' H',Inv X pins σ' H' s' /\W n σ' H') ?_ m0 ⟨σ,H,I,w0⟩);rintro n s1 ⟨σ1,H1,I1,w1⟩;refine Ji hp (bJ (hc pins s1 σ1 H1 _ I1 (turn n σ1 H1 w1)) fun b s2 hpq=> ?_);obtain⟨H2,I2,q2⟩:=hpq;cases b with
 | true =>
  obtain⟨N,hN,q2⟩:=q2;rw[Gu rfl];refine Ji hp (bJ (hb pins s2 σ1 H2 _ I2 q2) fun f s3 q3=> ?_);cases f with
  | next =>
   obtain⟨σ3,H3,I3,n3⟩:=q3;obtain⟨m',hm,w3⟩:=hN σ3 H3 n3;exact⟨m',hm,σ3,H3,I3,w3⟩
  | cont =>
   obtain⟨σ3,H3,I3,n3⟩:=q3;obtain⟨m',hm,w3⟩:=hN σ3 H3 n3;exact⟨m',hm,σ3,H3,I3,w3⟩
  | brk=>exact q3
  | ret v=>exact q3
 | false =>
  rw[Gq Gz];exact KR ⟨σ1,H2,I2,q2⟩
end
structure It where
 go:Nat->Hp->Prop
 yld:Nat->Hp->V->Hp->Prop
 stop:Nat->Hp->Prop
noncomputable def gp(X:Cx)(pins:List (Addr×Obj))(H:Hp)(b:Addr):Prop :=
 H b=none/\b≠X.env.locals/\b∉X.fs/\(b∈X.ex\/X.s₀.heap.objs.size<=b)/\(∀x c,X.env.cells.lookup x=some c->c≠b)/\∀p∈X.pn++pins,p.1≠b
theorem Inv.fpOk{X:Cx}{pins:List (Addr×Obj)}{σ:St}{H H' :Hp}{s:Shared}{b:Addr}(I:Inv X pins σ H s)(hb:s.heap.objs.size<=b)(hn:H' b=none):gp X pins H' b:=by
 refine⟨hn,J0 (HX I.lt hb),I.nofs hb,.inr (HP I.sz hb),fun x c e z=> ?_,fun p hp z=> ?_⟩
 ·obtain⟨v,q⟩:=I.cell x c e
  exact absurd (HX q.lt (by rw[z];exact hb)) (JB _)
 ·exact absurd (HX (G8 (I.pin p hp).1) (by rw[z];exact hb)) (JB _)
structure mq(P:Program)(w:World)(K:W.Frag)(tg:Expr)(J:It)(fp:List Addr)(it:Addr)(tn:Nat->Heap->Prop):Prop where
 mem:it∈fp
 obj:∀i h,tn i h->∀b∈fp,∃o,h.get? b=some o/\∀v,o.data≠.cell v
 keep:∀i h h',tn i h->(∀b∈fp,∀o,h.get? b=some o->h'.get? b=some o)->tn i h'
 item:∀(X:Cx),X.prog=P->X.w=w->X.K=K->X.calm=true->∀(i:Nat)(pins:List (Addr×Obj))(s:Shared)(σ:St)(H:Hp)(E:Value->Shared->Prop),Inv X pins σ H s->(∀b∈fp,gp X pins H b)->tn i s.heap->J.go i H ->
  wpAny (model P w) X.A (pyNext (.ref it)) (fun r s1=>∃u,r=some u /\
   wpAny (model P w) X.A (letOwnedTupleGo tg (.ref it) u) (fun _ s2=>∃x H',Inv X pins σ H' s2/\RelV x u/\J.yld i H x H' /\tn (i+1) s2.heap/\∀b∈fp,H' b=none) E s1) E s
 done:∀(X:Cx),X.prog=P->X.w=w->X.K=K->X.calm=true->∀(i:Nat)(pins:List (Addr×Obj))(s:Shared)(σ:St)(H:Hp)(E:Value->Shared->Prop),Inv X pins σ H s->(∀b∈fp,gp X pins H b)->tn i s.heap->J.stop i H ->
  wpAny (model P w) X.A (pyNext (.ref it)) (fun r s1=>r=none/\Inv X pins σ H s1) E s
 self:∀(A:Around)(i:Nat)(s:Shared)(Q:Value->Shared->Prop)(E:Value->Shared->Prop),tn i s.heap->Q (.ref it) s->wpAny (model P w) A (pyIter (.ref it)) Q E s
noncomputable abbrev TI:=St->Hp->(It->Hp->Prop)->Prop
noncomputable def PIE(X:Cx)(pins:List (Addr×Obj))(σ:St)(tg:Expr)(R:It->Hp->Prop)(itv:Value)(s2:Shared):Prop :=
 ∃(it:Addr)(fp:List Addr)(tn:Nat->Heap->Prop)(J:It)(H' :Hp),itv=.ref it/\Inv X pins σ H' s2/\mq X.prog X.w X.K tg J fp it tn/\tn 0 s2.heap/\(∀b∈fp,gp X pins H' b)/\R J H'
noncomputable def PI(X:Cx)(tg iter:Expr)(wi:TI):Prop :=
 ∀(pins:List (Addr×Obj))(s:Shared)(σ:St)(H:Hp)(R:It->Hp->Prop),Inv X pins σ H s->wi σ H R ->
  wpAny (model X.prog X.w) X.A (eval iter X.env) (fun v s1=>wpAny (model X.prog X.w) X.A (pyIter v) (PIE X pins σ tg R) X.xe s1) X.xe s
theorem lN{M:Model}{A:Around}{E:Value->Shared->Prop}{s:Shared}{tg:Expr}{it:Addr}{u:Value}{o:Obj}{n:String}{vs:Array Value}{Q:Unit->Shared->Prop}(ho:s.heap.get? it=some o)(hc:o.cls=.type n)(hd:o.data=.fields vs)
    (hn:["enumerate","zip","dict_itemiterator","dict_reverseitemiterator","odict_iterator","itertools.zip_longest","itertools.pairwise"].contains n=false) (hQ:Q () s):wpAny M A (letOwnedTupleGo tg (.ref it) u) Q E s:=by
  unfold letOwnedTupleGo
  cases tg<;>first
    | exact G7 hQ
    | (cases u<;>first
        | exact G7 hQ
        | (refine Gn (wpAny_load ho ?_)
           rw[hc,hd];show wpAny M A (if(["enumerate","zip","dict_itemiterator","dict_reverseitemiterator","odict_iterator","itertools.zip_longest","itertools.pairwise"].contains n&&vs[0]? ==some (rawInt _))=true then _ else _) Q E s;rw[Gq (by intro h;rw[hn,KQ]at h;cases h)];exact G7 hQ))
noncomputable def Itl(K:W.Frag)(a:Addr):It :=
 ⟨fun i H=>∃xs x,bP K H a xs/\xs[i]? =some x,fun i H x H' =>H' =H/\∀xs,bP K H a xs->xs[i]? =some x,fun i H=>∃xs,bP K H a xs/\xs.length<=i⟩
noncomputable def Itt(K:W.Frag)(a:Addr):It :=
 ⟨fun i H=>∃xs x,ba K H a xs/\xs[i]? =some x,fun i H x H' =>H' =H/\∀xs,ba K H a xs->xs[i]? =some x,fun i H=>∃xs,ba K H a xs/\xs.length<=i⟩
noncomputable def Gi(lo:Int)(n:Nat):It:=⟨fun i _=>i<n,fun i H x H' =>H' =H/\x=.int (lo+i),fun i _=>n<=i⟩
theorem sK{P:Program}{w:World}{K:W.Frag}{tg:Expr}(a it:Addr):mq P w K tg (Itl K a) [it] it (fun i h=>h.IsListIter it a i) where
 mem:=by simp
 obj:=fun i h st b hb=>by
  have e:b=it:=by simpa using hb
  subst e;obtain⟨o,e,c,d⟩:=st;exact⟨o,e,fun v z=>by rw[d]at z;cases z⟩
 keep:=fun i h h' st k=>st.at fun o e=>k it (by simp) o e
 item:=by
  intro X hP hw hK hc i pins s σ H E I hf st hg;subst hP hw hK;obtain⟨xs,x,hq,hx⟩:=hg;obtain⟨its,rv,p,hz⟩:=I.list hq;obtain⟨u,hu,ru⟩:=rv.get hx;obtain⟨f0,f1,f2,f3,f4,f5⟩:=hf it (by simp);refine wpAny_pyNext_list_item st p.isList (x:=u) (by simpa using hu) fun h' st' sb=> ?_;have I1:Inv X pins σ H {s with heap:=h'}:=I.turned (t' :=s.toks) (fun b o hb e=>(sb.2 b hb).trans e) f0 f1 f3 f4 f5;obtain⟨o,e,c,d⟩:=id st';exact⟨u,rfl,lN (s:={s with heap:=h'}) e c d (by decide) ⟨x,H,I1,ru,⟨rfl,fun ys hy=>by rw[I.list_inj hy hq];exact hx⟩,st',fun b hb=>(hf b hb).1⟩⟩
 done:=by
  intro X hP hw hK hc i pins s σ H E I hf st hg;subst hP hw hK;obtain⟨xs,hq,hx⟩:=hg;obtain⟨its,rv,p,hz⟩:=I.list hq;obtain⟨f0,f1,f2,f3,f4,f5⟩:=hf it (by simp);have hl:=rv.length;exact wpAny_pyNext_list_end (I.ok.hd hc) st p.isList (by simp;omega) fun h' eb=>⟨rfl,I.turned (t' :=s.toks) (fun b o hb e=>eb b o hb e) f0 f1 f3 f4 f5⟩
 self:=fun _ _ _ _ _ st h=>wpAny_pyIter_listiter st h
theorem o5{P:Program}{w:World}{K:W.Frag}{tg:Expr}(a it:Addr):mq P w K tg (Itt K a) [it] it (fun i h=>h.IsTupleIter it a i) where
 mem:=by simp
 obj:=fun i h st b hb=>by
  have e:b=it:=by simpa using hb
  subst e;obtain⟨o,e,c,d⟩:=st;exact⟨o,e,fun v z=>by rw[d]at z;cases z⟩
 keep:=fun i h h' st k=>st.at fun o e=>k it (by simp) o e
 item:=by
  intro X hP hw hK hc i pins s σ H E I hf st hg;subst hP hw hK;obtain⟨xs,x,hq,hx⟩:=hg;obtain⟨its,rv,p,hz⟩:=I.tuple hq;obtain⟨u,hu,ru⟩:=rv.get hx;obtain⟨f0,f1,f2,f3,f4,f5⟩:=hf it (by simp);refine wpAny_pyNext_tuple_item st (show s.heap.IsTuple a its.toArray from p) (x:=u) (by simpa using hu) fun h' st' sb=> ?_;have I1:Inv X pins σ H {s with heap:=h'}:=I.turned (t' :=s.toks) (fun b o hb e=>(sb.2 b hb).trans e) f0 f1 f3 f4 f5;obtain⟨o,e,c,d⟩:=id st';exact⟨u,rfl,lN (s:={s with heap:=h'}) e c d (by decide) ⟨x,H,I1,ru,⟨rfl,fun ys hy=>by rw[I.tuple_inj hy hq];exact hx⟩,st',fun b hb=>(hf b hb).1⟩⟩
 done:=by
  intro X hP hw hK hc i pins s σ H E I hf st hg;subst hP hw hK;obtain⟨xs,hq,hx⟩:=hg;obtain⟨its,rv,p,hz⟩:=I.tuple hq;obtain⟨f0,f1,f2,f3,f4,f5⟩:=hf it (by simp);have hl:=rv.length;exact wpAny_pyNext_tuple_end (I.ok.hd hc) st (show s.heap.IsTuple a its.toArray from p) (by simp;omega) fun h' eb=>⟨rfl,I.turned (t' :=s.toks) (fun b o hb e=>eb b o hb e) f0 f1 f3 f4 f5⟩
 self:=fun _ _ _ _ _ st h=>wpAny_pyIter_tupleiter st h
theorem o6{P:Program}{w:World}{K:PySem.W.Frag}{tg:Expr}(it:Addr)(lo:Int)(n:Nat):mq P w K tg (Gi lo n) [it] it (fun i h=>IsRangeIter h it (lo+(i:Nat)*1) ((n:Int)-(i:Nat)) 1) where
 mem:=by simp
 obj:=fun i h st b hb=>by
  have e:b=it:=by simpa using hb
  subst e;exact⟨_,st,fun v z=>by
   have z' :Data.fields _=Data.cell v:=z;cases z'⟩
 keep:=fun i h h' st k=>k it (by simp) _ st
 item:=by
  intro X hP hw hK hc i pins s σ H E I hf st hg;subst hP hw hK;obtain⟨f0,f1,f2,f3,f4,f5⟩:=hf it (by simp);have W:=Walks.range (prog:=X.prog) (w:=X.w) (I.ok.hd hc) it lo 1 n;refine W.item i s _ _ hg st fun v h' tk hv st' kk=> ?_;obtain⟨t,rfl⟩:=hv;have I1:Inv X pins σ H {s with heap:=h',toks:=tk}:=I.turned (fun b o hb e=>kk b o (by simpa using hb) e) f0 f1 f3 f4 f5;refine⟨_,rfl,lN (s:={s with heap:=h',toks:=tk}) (n:="range_iterator") st' rfl rfl (by decide) ⟨.int (lo+i),H,I1,⟨t,?_⟩,⟨rfl,rfl⟩,st',fun b hb=>(hf b hb).1⟩⟩;rw[Int.mul_one]
 done:=by
  intro X hP hw hK hc i pins s σ H E I hf st hg;subst hP hw hK;obtain⟨f0,f1,f2,f3,f4,f5⟩:=hf it (by simp);exact wpAny_pyNext_range_end (I.ok.hd hc) st (by have:n<=i:=hg;omega) fun h' eb=>⟨rfl,I.turned (t' :=s.toks) (fun b o hb e=>eb b o hb e) f0 f1 f3 f4 f5⟩
 self:=fun _ _ _ _ _ st h=>wpAny_pyIter_rangeiter st h
section
variable{X:Cx}{tg:Expr}
noncomputable def Fc(K:W.Frag)(tl:TE):TI:=fun σ H R=>tl σ H fun x H1=>∃a,x=.ref a/\(∃xs,bP K H1 a xs)/\R (Itl K a) H1
noncomputable def iTup(K:W.Frag)(tl:TE):TI:=fun σ H R=>tl σ H fun x H1=>∃a,x=.ref a/\(∃xs,ba K H1 a xs)/\R (Itt K a) H1
theorem mI{l:Expr}{tl:TE}(hl:PE X l tl):PI X tg l (Fc X.K tl):=by
 intro pins s σ H R I h;refine bJ (hl pins s σ H _ I h) fun v s1 hpq=> ?_;obtain⟨x,H1,I1,r1,q1⟩:=hpq;obtain⟨a,e,⟨xs,hq⟩,q⟩:=q1;subst e;cases r1;obtain⟨its,rv,p,hz⟩:=I1.list hq;refine wpAny_pyIter_list p.isList ?_;refine⟨s1.heap.objs.size,[s1.heap.objs.size],_,_,H1,rfl,I1.kept (t' :=s1.toks) fun b o e=>Gp _ e,sK a _,⟨_,HH _ rfl,rfl,rfl⟩,fun b hb=> ?_,q⟩;have e:b=s1.heap.objs.size:=by simpa using hb
 subst e;exact I1.fpOk (Gr _) (I1.hok.fresh (Gr _))
theorem vF{l:Expr}{tl:TE}(hl:PE X l tl):PI X tg l (iTup X.K tl):=by
 intro pins s σ H R I h;refine bJ (hl pins s σ H _ I h) fun v s1 hpq=> ?_;obtain⟨x,H1,I1,r1,q1⟩:=hpq;obtain⟨a,e,⟨xs,hq⟩,q⟩:=q1;subst e;cases r1;obtain⟨its,rv,p,hz⟩:=I1.tuple hq;refine Kc (show s1.heap.IsTuple a its.toArray from p) ?_;refine⟨s1.heap.objs.size,[s1.heap.objs.size],_,_,H1,rfl,I1.kept (t' :=s1.toks) fun b o e=>Gp _ e,o5 a _,⟨_,HH _ rfl,rfl,rfl⟩,fun b hb=> ?_,q⟩;have e:b=s1.heap.objs.size:=by simpa using hb
 subst e;exact I1.fpOk (Gr _) (I1.hok.fresh (Gr _))
theorem nJ{pins:List (Addr×Obj)}{σ:St}{H:Hp}{s:Shared}{R:It->Hp->Prop}{E:Value->Shared->Prop}{lo hi:Int}{t u v:Tok}{tk:Nat}(I:Inv X pins σ H s)(h1: -(2^62)<=lo)(h2:lo<2^62)(h3: -(2^62)<=hi)(h4:hi<2^62)
  (q:R (Gi lo (hi-lo).toNat) H):wpAny (model X.prog X.w) X.A (pyIter (.ref s.heap.objs.size)) (PIE X pins σ tg R) E {s with heap:=s.heap.push {cls:=.type "range",data:=.fields #[.int lo t,.int hi u,.int 1 v]},toks:=tk}:=by
 refine wpAny_pyIter_range (IsRange.new ..) (small_one h1 h2 h3 h4) ?_;have I1:Inv X pins σ H {s with heap:=s.heap.push {cls:=.type "range",data:=.fields #[.int lo t,.int hi u,.int 1 v]},toks:=tk}:=I.kept fun b o e=>Gp _ e
 refine⟨(s.heap.push {cls:=.type "range",data:=.fields #[.int lo t,.int hi u,.int 1 v]}).objs.size,[(s.heap.push {cls:=.type "range",data:=.fields #[.int lo t,.int hi u,.int 1 v]}).objs.size],_,_,H,rfl,
  I1.kept (t' :=tk) fun b o e=>Gp _ e,o6 _ lo (hi-lo).toNat,?_,fun b hb=> ?_,q⟩
 ·have e1:lo+((0:Nat):Int)*1=lo:=by simp
  have e2:(((hi-lo).toNat:Nat):Int)-((0:Nat):Int)=Builtin.Range.rangeSize lo hi 1:=by rw[rangeSize_one];split<;>omega
  show IsRangeIter _ _ (lo+((0:Nat):Int)*1) ((((hi-lo).toNat:Nat):Int)-((0:Nat):Int)) 1;rw[e1,e2];exact HH _ rfl
 ·have e:b=(s.heap.push {cls:=.type "range",data:=.fields #[.int lo t,.int hi u,.int 1 v]}).objs.size:=by simpa using hb
  subst e;exact I1.fpOk (Gr _) (I1.hok.fresh (Gr _))
noncomputable def Fb(ta:TA):TI:=fun σ H R=>ta σ H fun vs H1=>∃j:Int,vs=[.int j]/\ -(2^62)<=j/\j<2^62/\R (Gi 0 j.toNat) H1
noncomputable def Fa(ta:TA):TI:=fun σ H R=>ta σ H fun vs H1=>∃i j:Int,vs=[.int i,.int j]/\(-(2^62)<=i/\i<2^62/\ -(2^62)<=j/\j<2^62)/\R (Gi i (j-i).toNat) H1
theorem sj{a:Expr}{ta:TA}{p pos:Pos}(hg:Gl X "range")(hm:X.mg "range"=none)(ha:PA X [a] ta)(hs:starEach [a] X.env=[(false,eval a X.env)]:=by rfl):PI X tg (.Call (.Name "range" p) [a] [] pos) (Fb ta):=by
 intro pins s σ H R I h;refine Call_ (bv I hg hm boot_range (He (bJ (ha pos pins s σ H _ I h) fun us s1 ⟨vs,H1,I1,r1,q1⟩=> ?_) hs rfl));obtain⟨j,e,q1,q2,q⟩:=q1;subst e;cases r1 with
 | cons r rr =>
  cases rr;obtain⟨t,rfl⟩:=r;exact call_range_1 (nJ I1 (by omega) (by omega) q1 q2 (by simpa using q))
theorem si{a b:Expr}{ta:TA}{p pos:Pos}(hg:Gl X "range")(hm:X.mg "range"=none)(ha:PA X [a,b] ta)(hs:starEach [a,b] X.env=[(false,eval a X.env),(false,eval b X.env)]:=by rfl)(hs2:starEach [b] X.env=[(false,eval b X.env)]:=by rfl) :
  PI X tg (.Call (.Name "range" p) [a,b] [] pos) (Fa ta):=by
 intro pins s σ H R I h;refine Call_ (bv I hg hm boot_range (He (bJ (ha pos pins s σ H _ I h) fun us s1 ⟨vs,H1,I1,r1,q1⟩=> ?_) (by rw[hs,hs2]) (by rw[hs2];rfl)));obtain⟨i,j,e,⟨q1,q2,q3,q4⟩,q⟩:=q1;subst e;cases r1 with
 | cons r rr =>
  cases rr with
  | cons r' rr =>
   cases rr;obtain⟨t,rfl⟩:=r;obtain⟨t',rfl⟩:=r';exact call_range_2 (nJ I1 q1 q2 q3 q4 q)
noncomputable def tFor(wi:TI)(g:TG)(tb:TS):TS:=fun D σ H=>wi σ H fun J H1=>∃W:Nat->Nat->St->Hp->Prop,(∃m,W 0 m σ H1)/\∀i m σ H,W i m σ H ->
 (J.stop i H/\D.nx σ H)\/(J.go i H/\∃N:St->Hp->Prop,(∀σ' H',N σ' H' ->∃m',m' <m/\W (i+1) m' σ' H')/\∀x H',J.yld i H x H' ->g x σ H' fun σ2 H2=>tb {D with nx:=N,ct:=N,bk:=D.nx} σ2 H2)
noncomputable def jI(fp:List Addr)(h:Heap):List (Addr×Obj):=fp.filterMap fun b=>(h.get? b).map fun o=>(b,o)
theorem cg{fp:List Addr}{h:Heap}{b:Addr}{o:Obj}(hb:b∈fp)(e:h.get? b=some o):(b,o)∈jI fp h:=List.mem_filterMap.mpr ⟨b,hb,by rw[e];rfl⟩
theorem so{fp:List Addr}{h:Heap}{p:Addr×Obj}(hp:p∈jI fp h):p.1∈fp/\h.get? p.1=some p.2:=by
 obtain⟨b,hb,e⟩:=List.mem_filterMap.mp hp;cases q:h.get? b with
 | none=>rw[q]at e;cases e
 | some o =>
  rw[q]at e;have e' :(b,o)=p:=HM e;subst e';exact⟨hb,q⟩
theorem Inv.pinned{pins:List (Addr×Obj)}{σ:St}{H:Hp}{s:Shared}{fp:List Addr}(I:Inv X pins σ H s)(hf:∀b∈fp,gp X pins H b)(ho:∀b∈fp,∃o,s.heap.get? b=some o/\∀v,o.data≠.cell v):Inv X (pins++jI fp s.heap) σ H s :=
 I.pins_of fun p hp=>(Hr.mp hp).elim (fun z=>I.pin p (Hv _ z)) fun z=>by
  obtain⟨hb,e⟩:=so z;obtain⟨f0,f1,f2,_⟩:=hf p.1 hb;obtain⟨o,e',d⟩:=ho p.1 hb;rw[e]at e';cases e';exact⟨e,f0,f1,f2,d⟩
theorem Inv.unpinned{pins pl:List (Addr×Obj)}{σ:St}{H:Hp}{s:Shared}(I:Inv X (pins++pl) σ H s):Inv X pins σ H s:=I.pins_of fun p hp=>I.pin p (Hv _ (JO _ hp))
theorem u8{iter:Expr}{body:List Stmt}{wi:TI}{g:TG}{tb:TS}{pos:Pos}(hp:PassesOwn (model X.prog X.w) X.A X.env X.xe)(hc:X.calm=true)(hi:PI X tg iter wi)(hg:PG X tg g)(hb:my X body tb)
  (hs:∀x,foldedSetIterable iter X.env x=pure x:=by intro _;rfl):PS X (.For tg iter body [] pos) (tFor wi g tb):=by
 intro pins s σ H D I h;refine wpAny_For (bJ (hi pins s σ H _ I h) fun v s1 h1=>bJ h1 fun itv s2 h2=> ?_) hs;obtain⟨it,fp,tn,J,H2,e,I2,T,st2,f2,W,⟨m0,w0⟩,turn⟩:=h2;subst e;have stat:∀{H' :Hp},(∀b∈fp,H' b=none)->∀b∈fp,gp X pins H' b:=fun hn b hb=>⟨hn b hb,(f2 b hb).2⟩;refine codeAny_forLoop_any (fun n s' =>∃i σ' H',Inv X pins σ' H' s' /\tn i s'.heap/\(∀b∈fp,H' b=none)/\W i n σ' H') ?_ m0 ⟨0,σ,H2,I2,st2,fun b hb=>(f2 b hb).1,w0⟩;rintro n s3 ⟨i,σ3,H3,I3,st3,fr3,w3⟩
 rcases turn i n σ3 H3 w3 with⟨stop,qn⟩|⟨go,N,hN,step⟩
 ·refine Ji hp (bJ (T.done X rfl rfl rfl hc i pins s3 σ3 H3 X.xe I3 (stat fr3) st3 stop) fun r s4 hpq=> ?_)
  obtain⟨hr,I4⟩:=hpq;subst hr;exact KR ⟨σ3,H3,I4,qn⟩
 ·refine Ji hp (bJ (T.item X rfl rfl rfl hc i pins s3 σ3 H3 X.xe I3 (stat fr3) st3 go) fun r s4 hpq=> ?_)
  obtain⟨u,hr,h4⟩:=hpq;subst hr;refine Ji hp (bJ h4 fun _ s5 hpq=> ?_);obtain⟨x,H5,I5,r5,y5,st5,fr5⟩:=hpq;have I5' :=I5.pinned (stat fr5) (T.obj _ _ st5);refine Ji hp (bJ (hg _ s5 σ3 H5 x u _ I5' r5 (step x H5 y5)) fun _ s6 hpq=> ?_);obtain⟨σ6,H6,I6,q6⟩:=hpq;refine Ji hp (bJ (hb _ s6 σ6 H6 _ I6 q6) fun f s7 q7=> ?_);have again:∀{σ7:St}{H7:Hp},Inv X (pins++jI fp s5.heap) σ7 H7 s7->N σ7 H7->∃m,m<n/\∃i σ' H',Inv X pins σ' H' s7/\tn i s7.heap/\(∀b∈fp,H' b=none)/\W i m σ' H' :=fun{σ7 H7} I7 n7=>by
   obtain⟨m',hm,w7⟩:=hN σ7 H7 n7;refine⟨m',hm,i+1,σ7,H7,I7.unpinned,T.keep _ _ _ st5 fun b hb o e=>(I7.pin (b,o) (Hv _ (Hv _ (cg hb e)))).1,fun b hb=> ?_,w7⟩;obtain⟨o,e,d⟩:=T.obj _ _ st5 b hb;exact(I7.pin (b,o) (Hv _ (Hv _ (cg hb e)))).2.1
  cases f with
  | next=>obtain⟨σ7,H7,I7,n7⟩:=q7;exact again I7 n7
  | cont=>obtain⟨σ7,H7,I7,n7⟩:=q7;exact again I7 n7
  | brk=>obtain⟨σ7,H7,I7,q7⟩:=q7;exact⟨σ7,H7,I7.unpinned,q7⟩
  | ret v=>obtain⟨x7,σ7,H7,I7,r7,q7⟩:=q7;exact⟨x7,σ7,H7,I7.unpinned,r7,q7⟩
end
noncomputable abbrev R2:=V->V->Hp->VK->Prop
noncomputable def du(X:Cx)(f:Value->Value->Sem Value)(r:R2):Prop :=
 ∀(pins:List (Addr×Obj))(s:Shared)(σ:St)(H:Hp)(x y:V)(v u:Value)(Q:VK),Inv X pins σ H s->RelV x v->RelV y u->r x y H Q ->
  wpAny (model X.prog X.w) X.A (f v u) (EP X pins σ Q) X.xe s
noncomputable def UnR(X:Cx)(f:Value->Sem Value)(r:V->Hp->VK->Prop):Prop :=
 ∀(pins:List (Addr×Obj))(s:Shared)(σ:St)(H:Hp)(x:V)(v:Value)(Q:VK),Inv X pins σ H s->RelV x v->r x H Q ->
  wpAny (model X.prog X.w) X.A (f v) (EP X pins σ Q) X.xe s
noncomputable def bL(X:Cx)(f:Value)(r:List V->Hp->VK->Prop):Prop :=
 ∀(pins:List (Addr×Obj))(s:Shared)(σ:St)(H:Hp)(xs:List V)(us:List Value)(Q:VK),Inv X pins σ H s->aO xs us->r xs H Q ->
  wpAny (model X.prog X.w) X.A (call f us) (EP X pins σ Q) X.xe s
noncomputable def TruR(X:Cx)(r:V->Hp->(Bool->Hp->Prop)->Prop):Prop :=
 ∀(pins:List (Addr×Obj))(s:Shared)(σ:St)(H:Hp)(x:V)(v:Value)(Q:Bool->Hp->Prop),Inv X pins σ H s->RelV x v->r x H Q ->
  wpAny (model X.prog X.w) X.A (truthy v) (TP X pins σ Q) X.xe s
noncomputable def tOp(r:R2)(ta tb:TE):TE:=fun σ H Q=>ta σ H fun x H1=>tb σ H1 fun y H2=>r x y H2 Q
noncomputable def tUn(r:V->Hp->VK->Prop)(ta:TE):TE:=fun σ H Q=>ta σ H fun x H1=>r x H1 Q
noncomputable def rI(C:Int->Int->Prop)(g:Int->Int->V):R2:=fun x y H Q=>∃i j,x=.int i/\y=.int j/\C i j/\Q (g i j) H
noncomputable def xZ(g:Int->Int->V):R2:=fun x y H Q=>∃i j,x=.int i/\y=.int j/\Q (g i j) H
noncomputable def rU(g:Int->V):V->Hp->VK->Prop:=fun x H Q=>∃i,x=.int i/\Q (g i) H
section
variable{X:Cx}{a b c:Expr}{ta tb tc:TE}{pos:Pos}
theorem Ck(ha:PE X a ta)(hb:PE X b tb){pins:List (Addr×Obj)}{s:Shared}{σ:St}{H:Hp}{R:V->V->Hp->Prop}(I:Inv X pins σ H s)
  (h:ta σ H fun x H1=>tb σ H1 fun y H2=>R x y H2) {Q:Value->Shared->Prop} {f:Value->Value->Sem Value}
  (hf:∀v u s2 x y H2,Inv X pins σ H2 s2->RelV x v->RelV y u->R x y H2->wpAny (model X.prog X.w) X.A (f v u) Q X.xe s2) :
  wpAny (model X.prog X.w) X.A (eval a X.env) (fun v s₁=>wpAny (model X.prog X.w) X.A (eval b X.env) (fun u s₂=>wpAny (model X.prog X.w) X.A (f v u) Q X.xe s₂) X.xe s₁) X.xe s:=by
 refine bJ (ha pins s σ H _ I h) fun v s1 hpq=> ?_;obtain⟨x,H1,I1,r1,q1⟩:=hpq;refine bJ (hb pins s1 σ H1 _ I1 q1) fun u s2 hpq=> ?_;obtain⟨y,H2,I2,r2,q2⟩:=hpq;exact hf v u s2 x y H2 I2 r1 r2 q2
theorem Et{op:Operator}{r:R2}(ho:du X (binaryOp op) r)(ha:PE X a ta)(hb:PE X b tb):PE X (.BinOp a op b pos) (tOp r ta tb):=by
 intro pins s σ H Q I h;exact wpAny_BinOp (Ck ha hb I h fun v u s2 x y H2 I2 rx ry q=>ho pins s2 σ H2 x y v u Q I2 rx ry q)
theorem Es{op:UnaryOp}{r:V->Hp->VK->Prop}(ho:UnR X (unaryOp op) r)(ha:PE X a ta):PE X (.UnaryOp op a pos) (tUn r ta):=by
 intro pins s σ H Q I h;exact UnaryOp_ (bJ (ha pins s σ H _ I h) fun v s1 ⟨x,H1,I1,r1,q1⟩=>ho pins s1 σ H1 x v Q I1 r1 q1)
theorem FH{f:Value->Value->Sem Value}{C:Int->Int->Prop}{g:Int->Int->Int}
  (rule:∀(i j:Int)(t u:Tok)(s:Shared)(Q:Value->Shared->Prop)(E:Value->Shared->Prop),C i j->Q (.int (g i j) s.toks) {s with toks:=s.toks+1}->wpAny (model X.prog X.w) X.A (f (.int i t) (.int j u)) Q E s) :
  du X f (rI C fun i j=>.int (g i j)):=by
 intro pins s σ H x y v u Q I rx ry h;obtain⟨i,j,rfl,rfl,hc,q⟩:=h;obtain⟨t,rfl⟩:=rx;obtain⟨t',rfl⟩:=ry;exact rule i j t t' s _ _ hc ⟨.int (g i j),H,I.tok _,⟨_,rfl⟩,q⟩
theorem FG{f:Value->Value->Sem Value}{g:Int->Int->Int}
  (rule:∀(i j:Int)(t u:Tok)(s:Shared)(Q:Value->Shared->Prop)(E:Value->Shared->Prop),Q (.int (g i j) s.toks) {s with toks:=s.toks+1}->wpAny (model X.prog X.w) X.A (f (.int i t) (.int j u)) Q E s) :
  du X f (xZ fun i j=>.int (g i j)):=by
 intro pins s σ H x y v u Q I rx ry h;obtain⟨i,j,rfl,rfl,q⟩:=h;obtain⟨t,rfl⟩:=rx;obtain⟨t',rfl⟩:=ry;exact rule i j t t' s _ _ ⟨.int (g i j),H,I.tok _,⟨_,rfl⟩,q⟩
theorem yD{f:Value->Value->Sem Value}{g:Int->Int->Bool}
  (rule:∀(i j:Int)(t u:Tok)(s:Shared)(Q:Value->Shared->Prop)(E:Value->Shared->Prop),Q (.bool (g i j)) s->wpAny (model X.prog X.w) X.A (f (.int i t) (.int j u)) Q E s) :
  du X f (xZ fun i j=>.bl (g i j)):=by
 intro pins s σ H x y v u Q I rx ry h;obtain⟨i,j,rfl,rfl,q⟩:=h;obtain⟨t,rfl⟩:=rx;obtain⟨t',rfl⟩:=ry;exact rule i j t t' s _ _ ⟨.bl (g i j),H,I,rfl,q⟩
noncomputable def CPow(i j:Int):Prop:=0<=j/\j<=1000000/\i.natAbs<2^64
noncomputable def DR(i j:Int):Prop:=(-(2^64)<i/\i<2^64)\/(-(2^64)<j/\j<2^64)
theorem DR.ok{i j:Int}(h:DR i j):IntMulOk i j:=by
 rcases h with⟨h1,h2⟩|⟨h1,h2⟩
 ·exact .of_left (intBits_le_64 h1 h2)
 ·exact .of_right (intBits_le_64 h1 h2)
theorem BR:du X (binaryOp .Add) (xZ fun i j=>.int (i+j)):=FG fun _ _ _ _ _ _ _ q=>add_int q
theorem BJ:du X (binaryOp .Sub) (xZ fun i j=>.int (i-j)):=FG fun _ _ _ _ _ _ _ q=>sub_int q
theorem BN:du X (binaryOp .Mult) (rI DR fun i j=>.int (i*j)):=FH fun _ _ _ _ _ _ _ hc q=>mul_int q hc.ok
theorem BO:du X (binaryOp .Mod) (rI (fun _ j=>0<j) fun i j=>.int (i%j)):=FH fun i j _ _ _ _ _ hc q=>by
 have h1:(0:Int)<j:=hc;exact mod_int' (by omega) (by rw[Int.fmod_eq_emod_of_nonneg i (by omega)];exact q)
theorem BK:du X (binaryOp .LShift) (rI CPow fun i j=>.int (i*2^j.toNat)):=FH fun _ _ _ _ _ _ _ hc q=>lshift_int_small hc.1 hc.2.1 hc.2.2 q
theorem unI{f:Value->Sem Value}{g:Int->Int}
  (rule:∀(i:Int)(t:Tok)(s:Shared)(Q:Value->Shared->Prop)(E:Value->Shared->Prop),Q (.int (g i) s.toks) {s with toks:=s.toks+1}->wpAny (model X.prog X.w) X.A (f (.int i t)) Q E s) :
  UnR X f (rU fun i=>.int (g i)):=by
 intro pins s σ H x v Q I rx h;obtain⟨i,rfl,q⟩:=h;obtain⟨t,rfl⟩:=rx;exact rule i t s _ _ ⟨.int (g i),H,I.tok _,⟨_,rfl⟩,q⟩
theorem AU:UnR X (unaryOp .USub) (rU fun i=>.int (-i)):=unI fun _ _ _ _ _ q=>neg_int q
end
noncomputable def Aq:V->V->Bool
 | .non,.non=>true| .non,.int _=>true| .int _,.non=>true| .non,.bl _=>true| .bl _,.non=>true| .non,.str _=>true| .str _,.non=>true
 | .int _,.int _=>true| .bl _,.bl _=>true| .str _,.str _=>true| .byt _,.byt _=>true
 | .int _,.str _=>true| .str _,.int _=>true| .bl _,.str _=>true| .str _,.bl _=>true
 | _,_=>false
noncomputable def rEq:R2:=fun x y H Q=>Aq x y=true/\Q (.bl (decide (x=y))) H
noncomputable def rNe:R2:=fun x y H Q=>Aq x y=true/\Q (.bl (!decide (x=y))) H
theorem rk{i j:Int}:decide (V.int i=V.int j)=(i==j):=by
 rw[JM];simp
theorem wN{i j:Bool}:decide (V.bl i=V.bl j)=(i==j):=by
 rw[JM];simp
theorem rj{i j:Str}:decide (V.str i=V.str j)=(i==j):=by
 rw[JM];simp
theorem rn{i j:Array UInt8}:decide (V.byt i=V.byt j)=(i.toList==j.toList):=by
 rw[JM];cases i;cases j;simp
section
variable{X:Cx}{a b c:Expr}{ta tb tc:TE}{pos:Pos}
theorem aZ{pins:List (Addr×Obj)}{σ:St}{H:Hp}{s:Shared}{Q:VK}{k k' :Bool}(I:Inv X pins σ H s)(q:Q (.bl k) H)(e:k=k'):EP X pins σ Q (.bool k') s:=by
 subst e;exact⟨.bl k,H,I,rfl,q⟩
theorem FF:du X (compareOp .Eq) rEq:=by
 intro pins s σ H x y v u Q I rx ry h;obtain⟨hs,q⟩:=h;cases x with
 | non =>
  cases rx;cases y with
  | non=>cases ry;exact PySem.EqNone.eq_none_none (aZ I q (by simp))
  | bl j=>cases ry;exact PySem.EqNone.eq_none_bool (aZ I q (by simp))
  | int j=>obtain⟨t',rfl⟩:=ry;exact PySem.EqNone.eq_none_int (aZ I q (by simp))
  | str j=>obtain⟨t',rfl⟩:=ry;exact PySem.EqNone.eq_none_str (aZ I q (by simp))
  | _=>exact absurd (show false=true from hs) Gz
 | bl i =>
  cases rx;cases y with
  | non=>cases ry;exact PySem.EqNone.eq_bool_none (aZ I q (by simp))
  | bl j=>cases ry;exact eq_bool (aZ I q wN)
  | str j=>obtain⟨t',rfl⟩:=ry;exact PySem.EqMixed.eq_bool_str (aZ I q (by simp))
  | _=>exact absurd (show false=true from hs) Gz
 | int i =>
  obtain⟨t,rfl⟩:=rx;cases y with
  | non=>cases ry;exact PySem.EqNone.eq_int_none (aZ I q (by simp))
  | int j=>obtain⟨t',rfl⟩:=ry;exact eq_int (aZ I q rk)
  | str j=>obtain⟨t',rfl⟩:=ry;exact PySem.EqMixed.eq_int_str (aZ I q (by simp))
  | _=>exact absurd (show false=true from hs) Gz
 | str i =>
  obtain⟨t,rfl⟩:=rx;cases y with
  | non=>cases ry;exact PySem.EqNone.eq_str_none (aZ I q (by simp))
  | bl j=>cases ry;exact PySem.EqMixed.eq_str_bool (aZ I q (by simp))
  | int j=>obtain⟨t',rfl⟩:=ry;exact PySem.EqMixed.eq_str_int (aZ I q (by simp))
  | str j=>obtain⟨t',rfl⟩:=ry;exact eq_str (aZ I q rj)
  | _=>exact absurd (show false=true from hs) Gz
 | byt i =>
  obtain⟨t,rfl⟩:=rx;cases y with
  | byt j=>obtain⟨t',rfl⟩:=ry;exact W.eq_bytes (aZ I q rn)
  | _=>exact absurd (show false=true from hs) Gz
 | _=>cases y<;>exact absurd (show false=true from hs) Gz
theorem Ey:du X (compareOp .NotEq) rNe:=by
 intro pins s σ H x y v u Q I rx ry h;obtain⟨hs,q⟩:=h;cases x with
 | non =>
  cases rx;cases y with
  | non=>cases ry;exact PySem.EqNone.ne_none_none (aZ I q (by simp))
  | bl j=>cases ry;exact PySem.EqNone.ne_none_bool (aZ I q (by simp))
  | int j=>obtain⟨t',rfl⟩:=ry;exact PySem.EqNone.ne_none_int (aZ I q (by simp))
  | str j=>obtain⟨t',rfl⟩:=ry;exact PySem.EqNone.ne_none_str (aZ I q (by simp))
  | _=>exact absurd (show false=true from hs) Gz
 | bl i =>
  cases rx;cases y with
  | non=>cases ry;exact PySem.EqNone.ne_bool_none (aZ I q (by simp))
  | bl j=>cases ry;exact ne_bool (aZ I q (Ia not wN))
  | str j=>obtain⟨t',rfl⟩:=ry;exact PySem.EqMixed.ne_bool_str (aZ I q (by simp))
  | _=>exact absurd (show false=true from hs) Gz
 | int i =>
  obtain⟨t,rfl⟩:=rx;cases y with
  | non=>cases ry;exact PySem.EqNone.ne_int_none (aZ I q (by simp))
  | int j=>obtain⟨t',rfl⟩:=ry;exact ne_int (aZ I q (Ia not rk))
  | str j=>obtain⟨t',rfl⟩:=ry;exact PySem.EqMixed.ne_int_str (aZ I q (by simp))
  | _=>exact absurd (show false=true from hs) Gz
 | str i =>
  obtain⟨t,rfl⟩:=rx;cases y with
  | non=>cases ry;exact PySem.EqNone.ne_str_none (aZ I q (by simp))
  | bl j=>cases ry;exact PySem.EqMixed.ne_str_bool (aZ I q (by simp))
  | int j=>obtain⟨t',rfl⟩:=ry;exact PySem.EqMixed.ne_str_int (aZ I q (by simp))
  | str j=>obtain⟨t',rfl⟩:=ry;exact ne_str (aZ I q (Ia not rj))
  | _=>exact absurd (show false=true from hs) Gz
 | byt i =>
  obtain⟨t,rfl⟩:=rx;cases y with
  | byt j=>obtain⟨t',rfl⟩:=ry;exact W.ne_bytes (aZ I q (Ia not rn))
  | _=>exact absurd (show false=true from hs) Gz
 | _=>cases y<;>exact absurd (show false=true from hs) Gz
theorem Ez:du X (compareOp .Lt) (xZ fun i j=>.bl (decide (i<j))):=yD fun _ _ _ _ _ _ _ q=>lt_int q
theorem FA:du X (compareOp .LtE) (xZ fun i j=>.bl (decide (i<=j))):=yD fun _ _ _ _ _ _ _ q=>le_int q
theorem FC:du X (compareOp .Gt) (xZ fun i j=>.bl (decide (j<i))):=yD fun _ _ _ _ _ _ _ q=>gt_int q
theorem FE:du X (compareOp .GtE) (xZ fun i j=>.bl (decide (j<=i))):=yD fun _ _ _ _ _ _ _ q=>ge_int q
theorem vT:du X (compareOp .Is) (fun x y H Q=>y=.non/\Q (.bl (decide (x=.non))) H):=by
 intro pins s σ H x y v u Q I rx ry h;obtain⟨rfl,q⟩:=h;cases ry;refine is_none_gen (aZ I q ?_)
 cases x<;>first
  | (cases rx;rfl)
  | (obtain⟨t,rfl⟩:=rx;rfl)
noncomputable def isObj:HO->Bool
 | .lst _=>true
 | .ins _ _ _=>true
 | _=>false
theorem lG{pins:List (Addr×Obj)}{s:Shared}{σ:St}{H:Hp}{a:Addr}{o:HO}(I:Inv X pins σ H s)(h:H a=some o)(p:isObj o=true):∃ob,s.heap.get? a=some ob/\ob.cls≠.type "tuple":=by
 cases o with
 | lst xs =>
  obtain⟨_,its,n,_,e⟩:xs.length<=sizeLine/\∃(its:List Value)(n:Nat),aO xs its/\s.heap.get? a=some {cls:=.type "list",data:=.seq its.toArray n}:=I.hok a _ h;exact⟨_,e,(by show Value.type "list"≠.type "tuple";decide +kernel)⟩
 | ins C dx fs =>
  have x:=I.hok a _ h;obtain⟨_,_,_,e,_⟩:=x;exact⟨_,e,(by show Value.ref C≠.type "tuple";exact fun z=>by cases z)⟩
 | _=>exact absurd (show false=true from p) Gz
theorem Ba(b:Expr){op:CmpOp}(h:op≠.In:=by decide)(h2:op≠.NotIn:=by decide):behindInMarks op b=false:=by
 have e1:(op==CmpOp.In)=false:=by cases op<;>first|rfl|exact absurd rfl h
 have e2:(op==CmpOp.NotIn)=false:=by cases op<;>first|rfl|exact absurd rfl h2
 cases b<;>simp[behindInMarks,e1,e2]
theorem qu{op:CmpOp}{r:R2}(ho:du X (compareOp op) r)(ha:PE X a ta)(hb:PE X b tb)(hm:behindInMarks op b=false):PE X (.Compare a [op] [b] pos) (tOp r ta tb):=by
 intro pins s σ H Q I h;exact wpAny_Compare1 (Ck ha hb I h fun v u s2 x y H2 I2 rx ry q=>ho pins s2 σ H2 x y v u Q I2 rx ry q) hm
noncomputable def EC(t:TE):TT:=fun σ H Q=>t σ H fun x H' =>∃k,x=.bl k/\Q k H'
theorem xf{op:CmpOp}{r:R2}(ho:du X (compareOp op) r)(ha:PE X a ta)(hb:PE X b tb)(hm:behindInMarks op b=false):PT X (.Compare a [op] [b] pos) (EC (tOp r ta tb)):=by
 intro pins s σ H Q I h
 refine wpAny_isTrue_Compare1 (bJ (ha pins s σ H _ I h) fun v s1 ⟨x,H1,I1,r1,q1⟩=>bJ (hb pins s1 σ H1 _ I1 q1) fun u s2 ⟨y,H2,I2,r2,q2⟩ =>
  bJ (ho pins s2 σ H2 x y v u _ I2 r1 r2 q2) fun c s3 ⟨z,H3,I3,r3,k,e,q3⟩=> ?_) hm
 subst e;cases r3;exact JU ⟨H3,I3,q3⟩
noncomputable def C0(K:W.Frag)(x:V)(H:Hp)(k:Bool):Prop :=
 match x with
 | .non=>k=false
 | .bl b=>k=b
 | .int i=>k=(i !=0)
 | .str y=>y.length<=sizeLine/\k=((y.length:Int) !=0)
 | .byt y=>y.size<=sizeLine/\k=((y.size:Int) !=0)
 | .ref p=>(∃xs,bP K H p xs/\k= !xs.isEmpty)\/(∃xs,ba K H p xs/\k= !xs.isEmpty)\/∃kvs,H p=some (.dK kvs)/\k= !kvs.isEmpty
 | _=>False
theorem pj{κ:Type}{kvs:List (κ×V)}{vs:List (κ×Value)}(r:KV kvs vs):(!vs.isEmpty)= !kvs.isEmpty:=by
 cases r<;>rfl
theorem jQ{xs:List V}{its:List Value}(r:aO xs its):(!its.toArray.isEmpty)= !xs.isEmpty:=by
 cases r<;>simp
theorem gU:(sizeLine:Nat)<2^63:=by rw[Ie];decide
theorem AY:TruR X (fun x H Q=>∃k,C0 X.K x H k/\Q k H):=by
 intro pins s σ H x v Q I rx h;obtain⟨k,e,q⟩:=h;have hl:=gU;have hs:sizeLine=16777216:=Ie;cases x with
 | non =>
  cases rx;have e' :k=false:=e;subst e';exact truthy_none ⟨H,I,q⟩
 | bl b =>
  cases rx;have e' :k=b:=e;subst e';exact JU ⟨H,I,q⟩
 | int i =>
  obtain⟨t,rfl⟩:=rx;have e' :k=(i !=0):=e;subst e';exact PySem.P.truthy_int ⟨H,I,q⟩
 | str y =>
  obtain⟨t,rfl⟩:=rx;obtain⟨hy,e'⟩:y.length<=sizeLine/\k=((y.length:Int) !=0):=e;subst e';exact PySem.P.truthy_str (by omega) ⟨H,I.tok _,q⟩
 | byt y =>
  obtain⟨t,rfl⟩:=rx;obtain⟨hy,e'⟩:y.size<=sizeLine/\k=((y.size:Int) !=0):=e;subst e';exact W.truthy_bytes (by omega) ⟨H,I.tok _,q⟩
 | ref p =>
  cases rx;have e' :(∃xs,bP X.K H p xs/\k= !xs.isEmpty)\/(∃xs,ba X.K H p xs/\k= !xs.isEmpty)\/∃kvs,H p=some (.dK kvs)/\k= !kvs.isEmpty:=e
  rcases e' with⟨xs,hx,e'⟩|⟨xs,hx,e'⟩|⟨kvs,hx,e'⟩
  ·subst e'
   obtain⟨its,r,pl,hz⟩:=I.list hx;have hlen:=r.length;exact wpAny_truthy_list pl.isList (by simp only[Gx];omega) ⟨H,I.tok _,by rw[jQ r];exact q⟩
  ·subst e'
   obtain⟨its,r,pl,hz⟩:=I.tuple hx;have hlen:=r.length;exact truthy_tuple pl (by simp only[Gx];omega) ⟨H,I.tok _,by rw[jQ r];exact q⟩
  ·subst e'
   obtain⟨hz,hS,vs,r,m⟩:kvs.length<=sizeLine/\(p==sysModules)=false/\∃vs,KV kvs vs/\s.heap.DictOf (bW X.prog X.w) p vs:=I.hok p _ hx;have hlen:kvs.length=vs.length:=Paired.length r;exact wpAny_truthy_dict hS m (by omega) ⟨H,I.tok _,by rw[pj r];exact q⟩
 | _=>exact(show False from e).elim
theorem ux(ha:PE X a ta)(he:∀whole,isTrue a X.env whole=(do let v<-whole;standAt a.pos;holding [v] (truthy v))) :
  PT X a (fun σ H Q=>ta σ H fun x H' =>∃k,C0 X.K x H' k/\Q k H'):=by
 intro pins s σ H Q I h;exact isTrue_plain (bJ (ha pins s σ H _ I h) fun v s1 ⟨x,H1,I1,r1,q1⟩=>AY pins s1 σ H1 x v Q I1 r1 q1) (he _)
theorem pQ:du X (binaryOp .Add) (fun x y H Q=>∃i j,x=.str i/\y=.str j/\i.length+j.length<=sizeLine/\Q (.str (i++j)) H):=by
 intro pins s σ H x y v u Q I rx ry h;obtain⟨i,j,rfl,rfl,hz,q⟩:=h;obtain⟨t,rfl⟩:=rx;obtain⟨t',rfl⟩:=ry;exact add_str (fun t' tk=>⟨.str (i++j),H,I.tok _,⟨_,rfl⟩,q⟩) hz
theorem vals1{x:V}{us:List Value}(r:aO [x] us):∃u,us=[u]/\RelV x u:=by
 cases r with
 | cons r1 r2=>cases r2;exact⟨_,rfl,r1⟩
theorem vals2{x y:V}{us:List Value}(r:aO [x,y] us):∃u w',us=[u,w']/\RelV x u/\RelV y w' :=by
 cases r with
 | cons r1 r2 =>
  cases r2 with
  | cons r3 r4=>cases r4;exact⟨_,_,rfl,r1,r3⟩
theorem wZ:bL X (.builtin "abs") (fun xs H Q=>∃i,xs=[.int i]/\Q (.int (if i<0 then -i else i)) H):=by
 intro pins s σ H xs us Q I r h;obtain⟨i,rfl,q⟩:=h;obtain⟨u,rfl,t,rfl⟩:=vals1 r;exact call_abs_int fun u tk=>⟨.int (if i<0 then -i else i),H,I.tok _,⟨_,rfl⟩,q⟩
theorem tj(hc:X.calm=true):bL X (.builtin "max") (fun xs H Q=>∃i j,xs=[.int i,.int j]/\Q (.int (if j>i then j else i)) H):=by
 intro pins s σ H xs us Q I r h;obtain⟨i,j,rfl,q⟩:=h;obtain⟨u,w',rfl,⟨t,rfl⟩,⟨t',rfl⟩⟩:=vals2 r;refine max_two_ints (I.ok.hd hc) fun h' tk k=>⟨_,H,I.kept k,?_,q⟩
 by_cases hj:j>i
 ·rw[Gu hj,Gu hj];exact⟨_,rfl⟩
 ·rw[Gq hj,Gq hj];exact⟨_,rfl⟩
theorem tf(hc:X.calm=true):bL X (.builtin "min") (fun xs H Q=>∃i j,xs=[.int i,.int j]/\Q (.int (if j<i then j else i)) H):=by
 intro pins s σ H xs us Q I r h;obtain⟨i,j,rfl,q⟩:=h;obtain⟨u,w',rfl,⟨t,rfl⟩,⟨t',rfl⟩⟩:=vals2 r;refine min_two_ints (I.ok.hd hc) fun h' tk k=>⟨_,H,I.kept k,?_,q⟩
 by_cases hj:j<i
 ·rw[Gu hj,Gu hj];exact⟨_,rfl⟩
 ·rw[Gq hj,Gq hj];exact⟨_,rfl⟩
theorem lU:bL X (.type "int") (fun xs H Q=>(∃i,xs=[.int i]/\Q (.int i) H)\/∃k,xs=[.bl k]/\Q (.int (if k then 1 else 0)) H):=by
 intro pins s σ H xs us Q I r h
 rcases h with⟨i,rfl,q⟩|⟨k,rfl,q⟩
 ·obtain⟨u,rfl,t,rfl⟩:=vals1 r
  exact call_int_int ⟨.int i,H,I,⟨_,rfl⟩,q⟩
 ·obtain⟨u,rfl,r1⟩:=vals1 r
  cases r1;exact call_int_bool ⟨.int (if k then 1 else 0),H,I.tok _,⟨_,rfl⟩,q⟩
end
structure DB(h:Heap)(x dx C:Addr)(mA:Str->Option Value):Prop where
 obj:h.get? x=some (W.instObj C dx)
 ns:h.Ns1 dx mA
 ne:dx≠x
theorem tE{h:Heap}{dx:Addr}{mA:Str->Option Value}(n:h.Ns1 dx mA):∃od,h.get? dx=some od/\∀name,W.lookIn name od=some (mA name):=by
 obtain⟨o,es,ep,ho,hd,hk,_,hm⟩:=n;refine⟨o,ho,fun name=> ?_⟩;have e:=hm name;unfold nsFind findBy at e;rw[<- Array.find?_toList]at e;unfold W.lookIn;rw[hd];dsimp only
 split
 ·rename_i y q
  rw[q]at e;exact Ia some e
 ·rename_i q
  rw[q]at e;have a:es.toList.any (·.refKey)=false:=by
   rw[List.any_eq_false];intro y hy;obtain⟨z,t,hkey⟩:=hk y (Array.mem_toList_iff.mp hy);simp[DictEntry.refKey,hkey]
  have a' :¬es.toList.any (·.refKey)=true:=by rw[a];exact Gz
  rw[Gq a'];exact Ia some e
theorem DB.look{h:Heap}{x dx C:Addr}{mA:Str->Option Value}(I:DB h x dx C mA):∃od,W.InstAt h x (W.instObj C dx) C (some od)/\∀name,W.lookIn name od=some (mA name) :=
 let⟨od,ho,hl⟩:=tE I.ns
 ⟨od,⟨I.obj,rfl,rfl,ho⟩,hl⟩
section
variable{prog:Program}{w:World}{A:Around}{E:Value->Shared->Prop}{s:Shared}{K:W.Frag}{x dx C f:Addr}{mA:Str->Option Value}{name:Str}{v:Value}
end
theorem gl.some_of{v:V}{o:Option Value}(r:gl (some v) o):∃u,o=some u/\RelV v u:=by
 cases o with
 | none=>exact(show False from r).elim
 | some u=>exact⟨u,rfl,r⟩
section
variable{P:Program}{w:World}{H H' :Hp}{h h' :Heap}{a C dx:Addr}{fs fs' :List (Str×V)}
theorem yV(hok:dm P w H h)(e:H a=some (.ins C dx fs)):∃mA,DB h a dx C mA/\(∀f,gl (fs.lookup f) (mA f))/\PySem.Within mA (fs.map (·.1))/\fs.length<=1000/\H dx=some (.own a):=by
 obtain⟨d,z,ne,ob,mA,n,r,q⟩:=(show bC P w H h a (.ins C dx fs)from hok a _ e);exact⟨mA,⟨ob,n,ne⟩,r,q,z,d⟩
end
structure Cls(K:W.Frag)(C:Addr):Prop where
 pg:W.plainGet K C Str.empty=true
 hd:W.hasDictIn K C=true
 po:W.plainOver K C=true
 sa:W.findIn K (.ref C) "__setattr__"=some (some (.builtin "object.__setattr__"))
theorem Cls.get{K:W.Frag}{C:Addr}(c:Cls K C)(f:Str):W.plainGet K C f=true:=c.pg
section
variable{X:Cx}{pins:List (Addr×Obj)}{σ:St}{H:Hp}{s:Shared}{a C dx:Addr}{fs:List (Str×V)}{f:Str}{v:V}{A:Around}{E:Value->Shared->Prop}
end
section
variable{X:Cx}{o e value:Expr}{f:Str}{pos pos' tpos:Pos}{ta tv:TE}
end
section
variable{X:Cx}{pins:List (Addr×Obj)}{σ:St}{H:Hp}{s:Shared}{A:Around}{E:Value->Shared->Prop}{Q:Value->Shared->Prop}{c:Value}{b:Bool}
inductive gk(K:W.Frag)(H:Hp):V->Value->Prop where
 | non:gk K H .non (.type "NoneType")
 | bl (x:Bool):gk K H (.bl x) (.type "bool")
 | int (i:Int):gk K H (.int i) (.type "int")
 | str (x:Str):gk K H (.str x) (.type "str")
 | flt (x:UInt64):gk K H (.flt x) (.type "float")
 | lst {a:Addr} {xs:List V} (e:H a=some (.lst xs)):gk K H (.ref a) (.type "list")
 | frz {a:Addr} {o:Obj} {xs:List V} (e:H a=some (.frz o (.lst xs))):gk K H (.ref a) (.type "list")
 | tup {a:Addr} {xs:List V} (e:H a=some (.tup xs)):gk K H (.ref a) (.type "tuple")
 | dK {a:Addr} {kvs:List (bK×V)} (e:H a=some (.dK kvs)):gk K H (.ref a) (.type "dict")
 | dT {a:Addr} {kvs:List (List bK×V)} (e:H a=some (.dT kvs)):gk K H (.ref a) (.type "dict")
 | ins {a C dx:Addr} {fs:List (Str×V)} (e:H a=some (.ins C dx fs)) (cl:Cls K C) (ha:W.findIn K (.ref C) "__class__"=some (some (.builtin "object.__class__")))
   (hn:W.specialIn K (.builtin "object.__class__") "__get__"=some (some (.builtin "getset_descriptor.__get__"))) (htk:W.takesIn K (.builtin "object.__class__")=some true)
   (hm:W.mroIn K C (.type "object")=some true):gk K H (.ref a) (.ref C)
theorem tP{x:V}{u t:Value}(I:Inv X pins σ H s)(rx:RelV x u)(ty:gk X.K H x t)(e:W.kitOne X.K t c=some b)(h:∀tk,Q (.bool b) {s with toks:=tk}) :
  wpAny (model X.prog X.w) A (call (.builtin "isinstance") [u,c]) Q E s:=by
 cases ty with
 | non=>cases(show u=Value.none from rx);exact JS W.kitx_none I.kIn True.intro e (fun z=>nomatch z) h
 | bl y=>cases(show u=Value.bool y from rx);exact JS W.kitx_bool I.kIn True.intro e (fun z=>nomatch z) h
 | int i=>obtain⟨t,q⟩:=(show∃t,u=Value.int i t from rx);cases q;exact JS W.kitx_int I.kIn True.intro e (fun z=>nomatch z) h
 | str y=>obtain⟨t,q⟩:=(show∃t,u=Value.str y t from rx);cases q;exact JS W.kitx_str I.kIn True.intro e (fun z=>nomatch z) h
 | flt y=>obtain⟨t,q⟩:=(show∃t,u=Value.float y t from rx);cases q;exact JS W.kitx_float I.kIn True.intro e (fun z=>nomatch z) h
 | @lst a xs ea =>
  cases(show u=Value.ref a from rx);obtain⟨_,_,n,_,h1⟩:=(show bC X.prog X.w H s.heap a (.lst xs)from I.hok a _ ea);exact JS W.kitx_list I.kIn ⟨_,h1,rfl⟩ e (fun z=>nomatch z) h
 | @frz a ob xs ea =>
  cases(show u=Value.ref a from rx);obtain⟨_,_,_,n,_,h1⟩:=(show bC X.prog X.w H s.heap a (.frz ob (.lst xs))from I.hok a _ ea);exact JS W.kitx_list I.kIn ⟨_,h1,rfl⟩ e (fun z=>nomatch z) h
 | @tup a xs ea =>
  cases(show u=Value.ref a from rx);obtain⟨_,_,_,p⟩:=(show bC X.prog X.w H s.heap a (.tup xs)from I.hok a _ ea);obtain⟨o,h1,h2,_⟩:=p;exact JS W.kitx_tuple I.kIn ⟨o,h1,h2⟩ e (fun z=>nomatch z) h
 | @dK a kvs ea =>
  cases(show u=Value.ref a from rx);obtain⟨_,_,vs,_,p⟩:=(show bC X.prog X.w H s.heap a (.dK kvs)from I.hok a _ ea);obtain⟨o,es,ep,h1,h2,_⟩:=p;exact JS W.kitx_dict I.kIn ⟨o,h1,h2.1⟩ e (fun z=>nomatch z) h
 | @dT a kvs ea =>
  cases(show u=Value.ref a from rx);obtain⟨_,_,xs,_,o,es,ep,h1,h2,_⟩:=(show bC X.prog X.w H s.heap a (.dT kvs)from I.hok a _ ea);exact JS W.kitx_dict I.kIn ⟨o,h1,h2.1⟩ e (fun z=>nomatch z) h
 | @ins a C dx fs ea cl ha hn htk hm =>
  cases(show u=Value.ref a from rx);obtain⟨mA,O,_⟩:=yV I.hok ea;obtain⟨od,J,_⟩:=O.look;exact JS (W.kitx_own (cl.get _) cl.hd ha hn htk hm) I.kIn J e (fun z=>nomatch z) h
end
structure eQ(k:Nat)(A:Around):Prop where
 hd:A.handled=none
 dp:A.depth+3*k+5<recursionLimit
 un:A.units+16*k+200<cLine
theorem eQ.deeper{k:Nat}{A:Around}(r:eQ (k+1) A)(env:Env):eQ k (A.deeper env) :=
 ⟨r.hd,by have:=r.dp;show A.depth+1+3*k+5<_;omega,by have:=r.un;show A.units+3+16*k+200<_;omega⟩
theorem eQ.depth{k:Nat}{A:Around}(r:eQ k A):A.depth<recursionLimit:=by have:=r.dp;omega
theorem eQ.units{k:Nat}{A:Around}(r:eQ k A):A.units+64<cLine:=by have:=r.un;omega
noncomputable def tNil:TA:=fun _ H Q=>Q [] H
noncomputable def EJ(ta:TE)(tr:TA):TA:=fun σ H Q=>ta σ H fun x H1=>tr σ H1 fun xs H2=>Q (x::xs) H2
section
variable{X:Cx}{e:Expr}{es:List Expr}{te:TE}{t:TA}{pos:Pos}
theorem az:PA X [] tNil:=fun _ _ _ _ H Q I h=>Calls.spliced_nil ⟨[],H,I,.nil,h⟩
theorem aN(ha:PE X e te)(hr:PA X es t)(hs:starEach (e::es) X.env=(false,eval e X.env)::starEach es X.env:=by rfl):PA X (e::es) (EJ te t):=by
 intro pos pins s σ H Q I h;rw[hs];show wpAny _ _ (spliced ((false,eval e X.env)::backTo pos (starEach es X.env))) _ _ s;refine Calls.spliced_cons (bJ (ha pins s σ H _ I h) fun u s1 hpq=> ?_);obtain⟨x,H1,I1,r1,q1⟩:=hpq;exact bJ (hr pos pins s1 σ H1 _ I1 q1) fun us s2 ⟨xs,H2,I2,r2,q2⟩=>⟨x::xs,H2,I2,.cons r1 r2,q2⟩
noncomputable def tTup(t:TA):TE:=fun σ H Q=>t σ H fun xs H1=>xs.length<=sizeLine/\∀p,H1 p=none->Q (.ref p) (upd H1 p (.tup xs))
noncomputable def tLst(t:TA):TE:=fun σ H Q=>t σ H fun xs H1=>xs.length<=sizeLine/\∀p,H1 p=none->Q (.ref p) (upd H1 p (.lst xs))
theorem vL{x1}(h:PA X es t):PE X (.Tuple es x1 pos) (tTup t):=by
 intro pins s σ H Q I hq;refine wpAny_Tuple_spliced (bJ (h pos pins s σ H _ I hq) fun us s1 ⟨xs,H1,I1,r,z,q⟩=>⟨by rw[<- r.length];exact z,?_⟩);have hf:H1 s1.heap.objs.size=none:=I1.hok.fresh (Gr _);refine⟨.ref s1.heap.objs.size,upd H1 s1.heap.objs.size (.tup xs),I1.laid (t' :=s1.toks) (fun b u e=>Gp _ e) (Gr _) ?_,rfl,q _ hf⟩;exact⟨z,us,r,⟨_,HH _ rfl,rfl,_,rfl,rfl⟩⟩
theorem pP(h:PA X es t):PE X (.List es pos) (tLst t):=by
 intro pins s σ H Q I hq;refine wpAny_List_spliced (bJ (h pos pins s σ H _ I hq) fun us s1 ⟨xs,H1,I1,r,z,q⟩=>⟨by rw[<- r.length];exact z,?_⟩);have hf:H1 s1.heap.objs.size=none:=I1.hok.fresh (Gr _);refine⟨.ref s1.heap.objs.size,upd H1 s1.heap.objs.size (.lst xs),I1.laid (t' :=s1.toks) (fun b u e=>Gp _ e) (Gr _) ?_,rfl,q _ hf⟩;exact⟨z,us,0,r,HH _ rfl⟩
end
noncomputable abbrev Sp:=List V->Hp->VK->XK->Prop
noncomputable abbrev oy:=List Env->Hp->Shared->XK->Value->Shared->Prop
structure zJ(P:Program)(w:World)(K:W.Frag)(mg:Str->Option Value)(base:Heap)(A:Around)(outer:List Env)(s:Shared)(H:Hp):Prop where
 frames:A.frames=some outer
 mod:Mod K mg base
 bs:∀b o,base.get? b=some o->s.heap.get? b=some o/\H b=none
 bsz:base.objs.size<=s.heap.objs.size
 funs:s.heap.FunFrames base outer
 frf:∀b∈ou outer,H b=none
 hok:dm P w H s.heap
 bare:AllBare s.gens
noncomputable def CE(outer:List Env)(P:Program)(w:World)(H:Hp)(s:Shared)(Q:VK)(u:Value)(s' :Shared):Prop :=
 ∃v H',s'.os=s.os/\AllBare s'.gens/\Un (ou outer) [] H H' s.heap s'.heap/\dm P w H' s'.heap/\RelV v u/\Q v H'
noncomputable def CR(CX:oy)(outer:List Env)(P:Program)(w:World)(H:Hp)(s:Shared)(Q:VK)(E:XK)(r:Result)(s' :Shared):Prop :=
 match r with
 | .ok (.ret u)=>CE outer P w H s Q u s'
 | .ok _=>False
 | .error e=>CX outer H s E e s'
structure bu(P:Program)(w:World)(K:W.Frag)(mg:Str->Option Value)(base:Heap)(CX:oy)(k:Nat)(f:Addr)(fd:FuncData)(ps:List Str)(sp:Sp):Prop where
 len:∀vs H Q E,sp vs H Q E->vs.length=ps.length
 run:∀(A:Around)(outer:List Env)(s:Shared)(H:Hp)(args:Args)(us:List Value)(vs:List V)(Q:VK)(E:XK),eQ k A->zJ P w K mg base A outer s H->BindsTo s fd args (ps.zip us)->aO vs us->sp vs H Q E ->
  codeAny (model P w) A (.call (.ref f) args) (CR CX outer P w H s Q E) s
theorem bu.imp{P:Program}{w:World}{K:W.Frag}{mg:Str->Option Value}{base:Heap}{CX:oy}{k:Nat}{f:Addr}{fd:FuncData}{ps:List Str}{sp sp' :Sp}(F:bu P w K mg base CX k f fd ps sp)
  (h:∀vs H Q E,sp' vs H Q E->sp vs H Q E):bu P w K mg base CX k f fd ps sp' :=
 ⟨fun vs H Q E q=>F.len vs H Q E (h _ _ _ _ q),fun A outer s H args us vs Q E hr he hb hv hs=>F.run A outer s H args us vs Q E hr he hb hv (h _ _ _ _ hs)⟩
section
variable{X:Cx}{pins:List (Addr×Obj)}{σ:St}{H:Hp}{s s' :Shared}
theorem Inv.env0(I:Inv X pins σ H s):zJ X.prog X.w X.K X.mg X.base X.A X.stack s H :=
 ⟨I.ok.frames,I.ok.mod,I.bs,HP I.ok.bsz I.sz,I.stack,I.stkFree,I.hok,I.bare⟩
theorem Inv.after{Q:VK}{u:Value}(I:Inv X pins σ H s)(h:CE X.stack X.prog X.w H s Q u s'):EP X pins σ Q u s' :=by
 obtain⟨v,H',os,bare,un,hok,r,q⟩:=h;obtain⟨hh,g,d,t,os'⟩:=s';obtain rfl:os' =s.os:=os;exact⟨v,H',I.call (h' :=hh) (g' :=g) (d' :=d) (t' :=t) (ch:=[]) un hok bare (fun b z=>absurd z (by simp)),r,q⟩
end
noncomputable def EK(sp:Sp)(dvs:List V)(E:XK)(t:TA):TE:=fun σ H Q=>t σ H fun vs H1=>sp (vs++dvs) H1 Q E
noncomputable def Binds(K:W.Frag)(fd:FuncData)(ps:List Str)(ds:List Value):Prop :=
 ∀(s:Shared)(us:List Value),K.In s.heap->(us++ds).length=ps.length->BindsTo s fd ⟨us,[]⟩ (ps.zip (us++ds))
theorem Binds.all{K:W.Frag}{fd:FuncData}{ps:List Str}(h:∀us:List Value,us.length=ps.length->bindArgs fd ⟨us,[]⟩=pure (ps.zip us)):Binds K fd ps []:=fun s us _ hl=>by
 rw[ID]at hl ⊢;exact .of_eq (h us hl)
noncomputable def jj(CX:oy)(X:Cx)(E:XK):Prop:=∀(pins:List (Addr×Obj))(σ:St)(H:Hp)(s:Shared)(e:Value)(s' :Shared),Inv X pins σ H s->CX X.stack H s E e s' ->X.xe e s'
section
variable{X:Cx}{CX:oy}{k:Nat}{f C:Addr}{fd:FuncData}{ps:List Str}{sp:Sp}{dvs:List V}{ds:List Value}{E:XK}{x m:Str}{p pos apos:Pos}{e o:Expr}{es:List Expr}{ta:TE}{t:TA}
theorem Av{pins:List (Addr×Obj)}{σ:St}{H:Hp}{s:Shared}{Q:VK}{us:List Value}{vs:List V}(F:bu X.prog X.w X.K X.mg X.base CX k f fd ps sp)(hr:eQ k X.A)(hb:Binds X.K fd ps ds)(hd:aO dvs ds)(hx:jj CX X E)
  (I:Inv X pins σ H s) (r:aO vs us) (h:sp (vs++dvs) H Q E):wpAny (model X.prog X.w) X.A (call (.ref f) us) (EP X pins σ Q) X.xe s:=by
 have r2:aO (vs++dvs) (us++ds):=r.append hd;have hl:(us++ds).length=ps.length:=by rw[<- r2.length];exact F.len _ _ _ _ h
 refine wpAny_call (codeAny_mono (F.run X.A X.stack s H ⟨us,[]⟩ (us++ds) (vs++dvs) Q E hr I.env0 (hb s us I.kIn hl) r2 h) fun r s' hq=> ?_);cases r with
 | error e=>exact hx pins σ H s e s' I hq
 | ok fl =>
  cases fl with
  | ret u=>exact I.after hq
  | next=>exact False.elim hq
  | brk=>exact False.elim hq
  | cont=>exact False.elim hq
theorem qv(F:bu X.prog X.w X.K X.mg X.base CX k f fd ps sp)(hr:eQ k X.A)(hg:Gl X x)(hm:X.mg x=some (.ref f))(hk:W.keepIn X.K (.ref f)=true)(hb:Binds X.K fd ps ds)(hd:aO dvs ds)(hx:jj CX X E)
  (ha:PA X (e::es) t) (hdb:(x==("__debug__":Str))=false:=by decide) (he:starEach (e::es) X.env=(false,eval e X.env)::starEach es X.env:=by rfl) (hpl:(backTo pos (starEach es X.env)).any (·.1)=false:=by rfl) :
  PE X (.Call (.Name x p) (e::es) [] pos) (EK sp dvs E t):=by
 intro pins s σ H Q I h;refine Kd (fq I hg hm ?_ hdb);refine W.callWith_K (h₀:=X.base) I.ok.mod.kin hk (bJ (ha pos pins s σ H _ I h) fun us s1 ⟨vs,H1,I1,r,q⟩=>⟨I1.kIn,?_⟩) he hpl;exact Av F hr hb hd hx I1 r q
end
section
variable{X:Cx}{CX:oy}{k:Nat}{f C:Addr}{fd:FuncData}{ps ks:List Str}{sp:Sp}{E:XK}{x m:Str}{p pos apos kpos:Pos}{e o:Expr}{es:List Expr}{kws:List Keyword}{te ta:TE}{t tk:TA}{nm:Option Str}
variable{g:List Value->List Value->List Value}{gV:List V->List V->List V}
end
structure aX(N P:List Str)(sc:Scope):Prop where
 kind:sc.kind=.function
 co:sc.isCoroutine=false
 gen:sc.isGenerator=false
 nd:N.Nodup
 pre:N.take P.length=P
 par:∀x∈P,sc.names.lookup x=some .local\/sc.names.lookup x=some .cell
 nofree:∀y∈sc.names,y.2≠.free
theorem lW{kindOf:Str->Option NameKind}{x:Str}:∀{binds:List (Str×Value)}{m:Str->Option Value},(∀v,(x,v)∉binds)->bindL kindOf binds m x=m x
 | [],_,_=>rfl
 | (n,v)::r,m,h=>by
  unfold bindL;rw[lW fun w hw=>h w (Gs _ hw)]
  split
  ·have:x≠n:=by rintro rfl;exact h v Gw
   simp[this]
  ·rfl
theorem lY{kindOf:Str->Option NameKind}{x:Str}:∀{binds:List (Str×Value)}{m:Str->Option Value},(∀v,(x,v)∉binds)->bindC kindOf binds m x=m x
 | [],_,_=>rfl
 | (n,v)::r,m,h=>by
  unfold bindC;rw[lY fun w hw=>h w (Gs _ hw)]
  split
  ·rfl
  ·have:x≠n:=by rintro rfl;exact h v Gw
   simp[this]
theorem lX{kindOf:Str->Option NameKind}{x:Str}{v:Value}:∀{P:List Str}{vs:List Value}{i:Nat}{m:Str->Option Value},P.Nodup->P[i]? =some x->vs[i]? =some v->kindOf x=some .local ->
  bindL kindOf (P.zip vs) m x=some v
 | [],_,_,_,_,h,_,_=>by simp at h
 | _::_,[],_,_,_,_,h,_=>by simp at h
 | p::P,w::vs,0,m,nd,h1,h2,hk=>by
  simp at h1 h2;subst h1;subst h2;show bindL kindOf ((p,w)::P.zip vs) m p=_;unfold bindL;rw[lW fun v hv=>(IP.mp nd).1 (List.of_mem_zip hv).1,Gu hk];simp
 | p::P,w::vs,i+1,m,nd,h1,h2,hk=>by
  show bindL kindOf ((p,w)::P.zip vs) m x=_;unfold bindL;exact lX (i:=i) (IP.mp nd).2 (by simpa using h1) (by simpa using h2) hk
theorem lZ{kindOf:Str->Option NameKind}{x:Str}{v:Value}:∀{P:List Str}{vs:List Value}{i:Nat}{m:Str->Option Value},P.Nodup->P[i]? =some x->vs[i]? =some v->kindOf x≠some .local ->
  bindC kindOf (P.zip vs) m x=some v
 | [],_,_,_,_,h,_,_=>by simp at h
 | _::_,[],_,_,_,_,h,_=>by simp at h
 | p::P,w::vs,0,m,nd,h1,h2,hk=>by
  simp at h1 h2;subst h1;subst h2;show bindC kindOf ((p,w)::P.zip vs) m p=_;unfold bindC;rw[lY fun v hv=>(IP.mp nd).1 (List.of_mem_zip hv).1,Gq hk];simp
 | p::P,w::vs,i+1,m,nd,h1,h2,hk=>by
  show bindC kindOf ((p,w)::P.zip vs) m x=_;unfold bindC;exact lZ (i:=i) (IP.mp nd).2 (by simpa using h1) (by simpa using h2) hk
noncomputable def start(N:List Str)(vs:List V):St:=vs.map some++List.replicate (N.length-vs.length) none
noncomputable def fw(CX:oy)(P:Program)(w:World)(K:W.Frag)(mg:Str->Option Value)(base:Heap)(N:List Str)(qual:Str)(scope:Scope)(f:Addr)(cd:Value)(A:Around)(outer:List Env)(s:Shared)(H:Hp)(E:XK):Cx where
 prog:=P
 w:=w
 K:=K
 mg:=mg
 base:=base
 A:=A.deeper (envOfC qual scope s.heap.objs.size f cd)
 N:=N
 s₀:=s
 H₀:=H
 env:=envOfC qual scope s.heap.objs.size f cd
 outer:=outer
 stack:=envOfC qual scope s.heap.objs.size f cd::outer
 ex:=[]
 calm:=true
 fn:=fun _=>true
 pn:=[]
 xe:=fun e s' =>wpAny (model P w) (A.deeper (envOfC qual scope s.heap.objs.size f cd)) (leaving (envOfC qual scope s.heap.objs.size f cd) e) (fun _ s'' =>CX outer H s E e s'') (fun e' s'' =>CX outer H s E e' s'') s'
theorem oY{sc:Scope}{n:Nat}{x:Str}(h:sc.names.lookup x=some .cell):∃c,(cellsFrom n sc.names []).lookup x=some c:=by
 have q:=W.cellsFrom_some sc.names n [] (.inl h);exact JQ.mp q
theorem tQ{CX:oy}{P:Program}{w:World}{K:W.Frag}{mg:Str->Option Value}{base:Heap}{N ps:List Str}{qual:Str}{scope:Scope}{f:Addr}{cd:Value}{A:Around}{outer:List Env}{s s1:Shared}{H:Hp}{E:XK}{us:List Value}{vs:List V}
  (S:aX N ps scope) (hd:A.handled=none) (e0:zJ P w K mg base A outer s H) (hl:vs.length=ps.length) (r:aO vs us)
  (x:InCallC s s.heap.objs.size (bindL (envOfC qual scope s.heap.objs.size f cd).kindOf (ps.zip us) fun _=>none) (cellsFrom (s.heap.objs.size+1) scope.names []) (bindC (envOfC qual scope s.heap.objs.size f cd).kindOf (ps.zip us) fun _=>none) s1) :
  Inv (fw CX P w K mg base N qual scope f cd A outer s H E) [] (start N vs) H s1:=by
 have hpl:ps.length<=N.length:=by have:=Ia List.length S.pre;rw[Hq]at this;omega
 obtain⟨h1,tk,rfl,hk⟩:=x.done;have noA:∀b:Addr,b∉(fw CX P w K mg base N qual scope f cd A outer s H E).ex:=fun b z=>absurd (show b∈([]:List Addr)from z) (by simp)
 refine⟨⟨e0.mod,S.kind,rfl,rfl,Gr _,fun y z c h1 h2=> ?_,fun y hy=> ?_,fun y c _ h=> ?_,fun _=>hd,Around.frames_deeper e0.frames,.inr ⟨rfl,rfl⟩,fun b z=>absurd z (noA b),e0.bs,e0.bsz,fun b _ _=>noA b,fun b z=>absurd z (noA b),e0.funs,e0.frf⟩,
  rfl,e0.bare,Un.kept hk,⟨_,x.toInCall.ns,fun i y v h1 h2 h3=> ?_⟩,fun y c h=>⟨_,x.cell y c h⟩,e0.hok.fresh (Gr _),fun y c h=> ?_,fun p hp=>absurd (show p∈([]:List (Addr×Obj))from hp) (by simp),e0.hok.kept hk,?_⟩
 ·exact name_of_addr x.apart (Hc h1) (Hc h2)
 ·have hy:scope.names.lookup y=some .cell\/scope.names.lookup y=some .free:=hy
  rcases hy with hy|hy
  ·exact oY hy
  ·exact absurd rfl (S.nofree _ (Hc hy))
 ·exact Jp (x.above y c (Hc h))
 ·have hi:i<vs.length:=by
   unfold start at h2
   by_cases hi:i<vs.length
   ·exact hi
   ·rw[JG (by simpa using hi)]at h2
    rw[List.getElem?_replicate]at h2
    split at h2<;>cases h2
  have ha:vs[i]? =some v:=by
   unfold start at h2;rw[JK (by simpa using hi),HG]at h2;cases e:vs[i]? with
   | none=>rw[e]at h2;cases h2
   | some a=>rw[e]at h2;cases h2;rfl
  obtain⟨u,hu,rv⟩:=r.get ha;have hp:ps[i]? =some y:=by
   rw[<- S.pre,JR (by omega)];exact h1
  have ndP:ps.Nodup:=by rw[<- S.pre];exact S.nd.sublist (List.take_sublist _ _)
  refine⟨u,rv,?_⟩
  rcases S.par y (IN hp)with k|k
  ·exact .inl ⟨k,lX ndP hp hu k⟩
  ·obtain⟨c,e⟩:=oY (n:=s.heap.objs.size+1) k
   refine .inr ⟨.inl k,c,e,?_⟩;have q:=x.cell y c e;rw[lZ ndP hp hu (by show scope.names.lookup y≠_;rw[k];decide)]at q;exact q
 ·exact e0.hok.fresh (Jp (x.above y c (Hc h)))
 ·unfold start
  show _=N.length;rw[G6,Go,List.length_replicate];omega
theorem zz{CX:oy}{P:Program}{w:World}{K:W.Frag}{mg:Str->Option Value}{base:Heap}{k:Nat}{f:Addr}{name qual:Str}{params:Arguments}{body:List Stmt}{scope:Scope}{dV kV doc pm cdv ct oc:Value}{an od:Option Addr}
  {osl:Array (Option Value)} {N ps:List Str} {sp:Sp} (lk:K.lookup f=some ⟨oc,od,.func (W.fnOf name qual params body scope dV kV doc pm an cdv ct),osl⟩) (hcd:W.codeIn K cdv qual=true) (S:aX N ps scope)
  (len:∀vs H Q E,sp vs H Q E->vs.length=ps.length)
  (hbody:∀(A:Around)(outer:List Env)(s:Shared)(H:Hp)(vs:List V)(Q:VK)(E:XK),eQ k (A.deeper (envOfC qual scope s.heap.objs.size f cdv))->sp vs H Q E ->
   ∃t,my (fw CX P w K mg base N qual scope f cdv A outer s H E) body t/\t {nx:=fun _ H' =>Q .non H',rt:=Q} (start N vs) H) :
  bu P w K mg base CX (k+1) f (W.fnOf name qual params body scope dV kV doc pm an cdv ct) ps sp:=by
 refine⟨len,fun A outer s H args us vs Q E hr e0 hb r hsp=> ?_⟩;have hl:=len _ _ _ _ hsp;have KX:K.In s.heap:=e0.mod.kin.keeps fun b o e=>(e0.bs b o e).1;have lim:s.heap.NoLimit:=e0.mod.nolimit.keeps fun b o e=>(e0.bs b o e).1;have hkind:∀y∈ps.zip us,scope.names.lookup y.1=some .local\/(scope.names.lookup y.1=some .cell/\((cellsFrom (s.heap.objs.size+1) scope.names []).lookup y.1).isSome=true):=fun⟨n,v⟩ hy=>by
  rcases S.par n (List.of_mem_zip hy).1 with q|q
  ·exact .inl q
  ·exact .inr ⟨q,W.cellsFrom_some _ _ _ (.inl q)⟩
 refine codeAny_call_function hr.depth (KX _ _ lk) rfl S.co S.gen rfl (W.codeRec_of KX hcd) (hb _ _ _ _ ?_);refine wpAny_newFunctionEnv_cells S.kind hkind fun env he s1 x=> ?_;subst he;refine⟨lim.keeps x.toInCall.keep,codeAny_func ?_⟩;obtain⟨t,ht,hq⟩:=hbody A outer s H vs Q E (hr.deeper _) hsp;have I:Inv (fw CX P w K mg base N qual scope f cdv A outer s H E) [] (start N vs) H s1:=tQ S hr.hd e0 hl r x;refine Ig (ht [] s1 (start N vs) H _ I hq) (fun fl s' hs=> ?_) fun e s' hs=>hs
 have fin:∀{σ' :St}{H' :Hp}{v:V}{u:Value},Inv (fw CX P w K mg base N qual scope f cdv A outer s H E) [] σ' H' s' ->RelV v u->Q v H' ->CE outer P w H s Q u s' :=
  fun{σ' H' v u} J rv q=>⟨v,H',J.os,J.bare,J.base,J.hok,rv,q⟩
 cases fl with
 | ret u =>
  obtain⟨v,σ',H',J,rv,q⟩:=hs;exact fin J rv q
 | next =>
  obtain⟨σ',H',J,q⟩:=hs;exact fin (v:=V.non) (u:=Value.none) J rfl q
 | brk =>
  obtain⟨_,_,_,q⟩:=hs;exact False.elim q
 | cont =>
  obtain⟨_,_,_,q⟩:=hs;exact False.elim q
section
variable{X:Cx}{x:Str}{p pos:Pos}{e:Expr}{es:List Expr}{t:TA}{id T:String}{r:List V->Hp->VK->Prop}
noncomputable def tCB(r:List V->Hp->VK->Prop)(t:TA):TE:=fun σ H Q=>t σ H fun vs H1=>r vs H1 Q
theorem cR(hc:bL X (.builtin id) r)(hg:Gl X x)(hm:X.mg x=none)(hv:bootBuiltins x=some (.builtin id))(ha:PA X (e::es) t)(hn:x≠"__name__":=by decide)(hdb:(x==("__debug__":Str))=false:=by decide)
  (he:starEach (e::es) X.env=(false,eval e X.env)::starEach es X.env:=by rfl) (hpl:(backTo pos (starEach es X.env)).any (·.1)=false:=by rfl):PE X (.Call (.Name x p) (e::es) [] pos) (tCB r t):=by
 intro pins s σ H Q I h;refine Kd (bv I hg hm hv ?_ hn hdb);exact PyProof.Rows.callWith_builtin1 (bJ (ha pos pins s σ H _ I h) fun us s1 ⟨vs,H1,I1,r1,q1⟩=>hc pins s1 σ H1 vs us Q I1 r1 q1) he hpl
theorem sm(hc:bL X (.type T) r)(hg:Gl X x)(hm:X.mg x=none)(hv:bootBuiltins x=some (.type T))(ha:PA X (e::es) t)(hn:x≠"__name__":=by decide)(hdb:(x==("__debug__":Str))=false:=by decide)
  (he:starEach (e::es) X.env=(false,eval e X.env)::starEach es X.env:=by rfl) (hpl:(backTo pos (starEach es X.env)).any (·.1)=false:=by rfl):PE X (.Call (.Name x p) (e::es) [] pos) (tCB r t):=by
 intro pins s σ H Q I h;refine Kd (bv I hg hm hv ?_ hn hdb);exact He (bJ (ha pos pins s σ H _ I h) fun us s1 ⟨vs,H1,I1,r1,q1⟩=>hc pins s1 σ H1 vs us Q I1 r1 q1) he hpl
end
end L2
namespace HT
open PySem PyProof.Rows
noncomputable def lexLt:List Int->List Int->Bool
 | [],[]=>false
 | [],_::_=>true
 | _::_,[]=>false
 | x::xs,y::ys=>if x=y then lexLt xs ys else decide (x<y)
theorem pZ(x y:Int)(xs ys:List Int):lexLt (x::xs) (y::ys)=if x=y then lexLt xs ys else decide (x<y):=rfl
theorem kL:lexLt [] []=false:=rfl
theorem jM(y:Int)(ys:List Int):lexLt [] (y::ys)=true:=rfl
theorem jN(x:Int)(xs:List Int):lexLt (x::xs) []=false:=rfl
theorem wF(A:Around)(s:Shared)(a:Int)(t:Tok)(c:Int)(u:Tok):∃e,SeqAt.EqAt A s (.int a t) (.int c u) e/\(e=true↔a=c) :=
 ⟨(a==c),SeqAt.EqAt.int_int a t c u,by simp⟩
theorem uw(A:Around)(s:Shared)(a:Int)(t:Tok)(c:Int)(u:Tok)(prog:Program)(w:World)(E:Value->Shared->Prop)(Q:Value->Shared->Prop)(h:Q (.bool (decide (a<c))) s) :
  wpAny (model prog w) A (richCompare .Lt (.int a t) (.int c u)) Q E s :=
 (PyProof.Rows.lt_int h:wpAny (model prog w) A (compareOp .Lt (.int a t) (.int c u)) Q E s)
section
open PySem.SeqAt
open PySem.AutoSeq1 (wpAny_loadPart')
open PySem.MeetsSeq PySem.MeetsSeq2 PySem.MeetsSeq3
theorem j3(l b:Addr)(items items2:Array Value)(n n2:Nat)(dd dd2:Option Addr)(sl sl2:Array (Option Value))(ns ms:List Int)(hi:IntsAre items.toList ns)(hj:IntsAre items2.toList ms) :
  Meets (Builtin.«tuple.__lt__» ⟨[.ref l,.ref b],[]⟩)
   (fun _ R s=>s.heap.get? l=some {cls:=.type "tuple",dict:=dd,data:=.seq items n,slots:=sl}/\s.heap.get? b=some {cls:=.type "tuple",dict:=dd2,data:=.seq items2 n2,slots:=sl2} /\
    R (.ok (.ret (.bool (lexLt ns ms)))) s) :=
 .of_wp fun prog w A R s h=>by
  obtain⟨hp,g,d,tk,os⟩:=s;obtain⟨hl,hb,h⟩:=h;have f2:=AutoSeq1.sub_tuple_tuple;have z1:items.size=ns.length:=by rw[<- hi.length];simp
  have z2:items2.size=ms.length:=by rw[<- hj.length];simp
  wp_walk using Ho hl,Ho hb,wpAny_forIn_list _ (fun aM b s' =>b.1=none/\s' =⟨hp,g,d,tk,os⟩/\∃(vs ws:List Value)(ns' ms' :List Int),aM=vs.zip ws /\
   IntsAre vs ns' /\IntsAre ws ms' /\ns'.length+items2.size=ms'.length+items.size/\R (.ok (.ret (.bool (lexLt ns' ms')))) ⟨hp,g,d,tk,os⟩) _
  case turn =>
   rintro⟨y,x⟩ aM b s' ⟨hb',rfl,vs,ws,ns',ms',hz,hvi,hwi,hlen,hR⟩;cases hvi with
   | nil=>rw[List.zip_nil_left]at hz;cases hz
   | cons a t hvi' =>
    cases hwi with
    | nil=>rw[List.zip_nil_right]at hz;cases hz
    | cons c u hwi' =>
     rw[KN]at hz
     injection hz with hyx hrest
     injection hyx with hy hx
     subst hy hx;rw[pZ]at hR;simp only[HC]at hlen;obtain⟨e,he,hiff⟩:=wF A.in1 ⟨hp,g,d,tk,os⟩ a t c u;refine Gn (he prog w _ _ ?_);cases e with
     | true =>
      rw[Gu (hiff.mp rfl)]at hR
      wp_walk
      exact⟨rfl,rfl,_,_,_,_,hrest,hvi',hwi',by omega,hR⟩
     | false =>
      rw[Gq (fun q=>absurd (hiff.mpr q) Gz)]at hR;have hri:=uw A.in1 ⟨hp,g,d,tk,os⟩ a t c u prog w
      wp_walk using hri
      exact⟨_,rfl,by simpa using hR⟩
  case fin =>
   rintro⟨b1,b2⟩ s' ⟨hb',rfl,vs,ws,ns',ms',hz,hvi,hwi,hlen,hR⟩;simp only at hb';subst hb';have hv:lexLt ns' ms' =decide (items.size<items2.size):=by
    cases hvi with
    | nil =>
     cases hwi with
     | nil =>
      simp only[List.length_nil]at hlen;rw[kL];exact(HS (by omega)).symm
     | cons c u hw =>
      simp only[List.length_nil,HC]at hlen;rw[jM];exact(Hy (by omega)).symm
    | cons a t hv =>
     cases hwi with
     | nil =>
      simp only[List.length_nil,HC]at hlen;rw[jN];exact(HS (by omega)).symm
     | cons c u hw =>
      rw[KN]at hz;cases hz
   rw[hv]at hR
   wp_walk
   exact⟨_,rfl,by simpa [Builtin.Tuple.tupleCompareSizes]using hR⟩
  case h =>
   exact⟨rfl,rfl,items.toList,items2.toList,ns,ms,rfl,hi,hj,by omega,h⟩
end
section
variable{prog:Program}{w:World}{A:Around}{E:Value->Shared->Prop}{s:Shared}
theorem pY{l b:Addr}{items items2:Array Value}{ns ms:List Int}{Q:Value->Shared->Prop}(hl:IsTup s.heap l items)(hb:IsTup s.heap b items2)(hi:IntsAre items.toList ns)(hj:IntsAre items2.toList ms)
  (hu:A.units<cLine) (h:Q (.bool (lexLt ns ms)) s):wpAny (model prog w) A (compareOp .Lt (.ref l) (.ref b)) Q E s:=by
 obtain⟨⟨cls,dd,data,sl⟩,ho,hc,n,hd⟩:=id hl;obtain⟨⟨cls2,dd2,data2,sl2⟩,ho2,hc2,n2,hd2⟩:=id hb;simp only at hc hd hc2 hd2;subst hc hd hc2 hd2
 exact richCompare_meets_room (op:=.Lt) ⟨_,ho,rfl⟩ ⟨_,ho2,rfl⟩ PySem.F.slot_tuple_lt PySem.F.entry_tuple_lt (PySem.F.args_tuple_lt_2 _ _) (j3 l b items items2 n n2 dd dd2 sl sl2 ns ms hi hj)
  ⟨ho,ho2,show Value.bool (lexLt ns ms)≠Value.notImplemented/\Q (.bool (lexLt ns ms)) s from⟨(fun x=>nomatch x),h⟩⟩ hu
theorem yv{t b:Addr}{vs ws:List Value}{Q:Value->Shared->Prop}(ht:IsTup s.heap t vs.toArray)(hb:IsTup s.heap b ws.toArray)(hv:vs≠[])
  (h1:ws=[]->Q (.ref t) s) (h2:ws≠[]->Q (.ref s.heap.objs.size) {s with heap:=s.heap.push {cls:=.type "tuple",data:=.seq (vs++ws).toArray}})
  (hsz:vs.length+ws.length<=sizeLine):wpAny (model prog w) A (binaryOp .Add (.ref t) (.ref b)) Q E s:=by
 obtain⟨⟨cls,dd,data,sl⟩,ho,hc,n,hd⟩:=id ht;obtain⟨⟨cls2,dd2,data2,sl2⟩,ho2,hc2,n2,hd2⟩:=id hb;simp only at hc hd hc2 hd2;subst hc hd hc2 hd2;have e:vs.toArray++ws.toArray=(vs++ws).toArray:=by simp
 by_cases hw:ws=[]
 ·exact concat_meets ⟨_,ho,rfl⟩ ⟨_,ho2,rfl⟩ noFill_tuple_add seq_tuple_add PySem.F.slot_tuple_add PySem.F.entry_tuple_add (Ka _ _)
   (tuple_addW1 t b vs.toArray ws.toArray n n2 dd dd2 sl sl2 (by simpa using hv) (by simp[hw])) ⟨ho,ho2,h1 hw⟩
 ·refine concat_meets ⟨_,ho,rfl⟩ ⟨_,ho2,rfl⟩ noFill_tuple_add seq_tuple_add PySem.F.slot_tuple_add PySem.F.entry_tuple_add (Ka _ _)
   (tuple_addW2 t b vs.toArray ws.toArray n n2 dd dd2 sl sl2 (by simpa using hv) (by simpa using hw) (by rw[Gx,Gx];exact hsz)) ⟨ho,ho2,?_⟩
  rw[e];exact h2 hw
noncomputable def bS(n d:Nat):Option Int->Nat
 | none=>d
 | some v=>if v<0 then(v+(n:Int)).toNat else min v.toNat n
theorem ur(n d:Nat):bS n d none=d:=rfl
theorem xU(n d k:Nat):bS n d (some (k:Int))=min k n:=by
 show(if(k:Int)<0 then((k:Int)+(n:Int)).toNat else min (k:Int).toNat n)=min k n;rw[Gq (by omega),J9]
theorem Ar(n d:Nat)(hd:d<=n)(o:Option Int):bS n d o<=n:=by
 cases o with
 | none=>exact hd
 | some v =>
  show(if v<0 then(v+(n:Int)).toNat else min v.toNat n)<=n
  by_cases hv:v<0
  ·rw[Gu hv];omega
  ·rw[Gq hv];exact Nat.min_le_right _ _
theorem rq(v:Int)(n d:Nat):(if v<0 then max (v+(n:Int)) 0 else min v (n:Int))=((bS n d (some v):Nat):Int):=by
 show(if v<0 then max (v+(n:Int)) 0 else min v (n:Int))=(((if v<0 then(v+(n:Int)).toNat else min v.toNat n):Nat):Int)
 by_cases hv:v<0
 ·simp only[Gu hv];omega
 ·simp only[Gq hv];omega
theorem qO(lo hi:Option Int)(n:Nat):Builtin.Slice.sliceAdjust lo hi 1 (n:Int)=(((bS n 0 lo:Nat):Int),((bS n n hi:Nat):Int)):=by
 have h1:¬((1:Int)<0):=by omega
 unfold Builtin.Slice.sliceAdjust;simp only[h1,KG];refine Prod.ext ?_ ?_
 ·cases lo with
  | none=>rfl
  | some v=>exact rq v n 0
 ·cases hi with
  | none=>rfl
  | some v=>exact rq v n n
theorem pO(i j:Nat):Builtin.Slice.slicePlaces (i:Int) (j:Int) 1=j-i:=by
 unfold Builtin.Slice.slicePlaces;have h1:(1:Int)>0:=by omega
 simp only[h1,JY,Int.ediv_one]
 split<;>omega
theorem jE{v:Value}{o:Option Int}{Q:Option Int->Shared->Prop}(p:IsPart v o)(h:Q o s):wpAny (model prog w) A (Builtin.Slice.slicePartIndex v) Q E s:=by
 cases p with
 | none=>exact slicePart_none h
 | int i t=>exact slicePart_int h
theorem cO{sl:Addr}{vl vu:Value}{lo hi:Option Int}{n:Nat}{Q:Int×Int×Nat->Shared->Prop}(hs:s.heap.IsSliceOf sl vl vu .none)(pl:IsPart vl lo)(pu:IsPart vu hi)
  (h:Q (((bS n 0 lo:Nat):Int),1,bS n n hi-bS n 0 lo) s):wpAny (model prog w) A (Builtin.Slice.sliceApplied (.ref sl) (pure (n:Int))) Q E s:=by
 obtain⟨os,hos,hcs,hds⟩:=id hs;unfold Builtin.Slice.sliceApplied Builtin.Slice.sliceFields;refine Gn (Gn (IJ hos hds (x:=vl) rfl (Gn (IJ hos hds (x:=vu) rfl (Gn (IJ hos hds (x:=.none) rfl (G7 ?_)))))));refine Gn (slicePart_none ?_);show wpAny _ _ (if((1:Int)==0)=true then _ else _) _ _ s;rw[Gq (by decide)];refine Gn (jE pl (Gn (jE pu (Gn (G7 ?_)))));show wpAny _ _ (match Builtin.Slice.sliceAdjust lo hi 1 (n:Int)with|(lo,hi)=>pure (lo,(1:Int),Builtin.Slice.slicePlaces lo hi 1)) _ _ s;rw[qO lo hi n];show wpAny _ _ (pure (((bS n 0 lo:Nat):Int),(1:Int),Builtin.Slice.slicePlaces ((bS n 0 lo:Nat):Int) ((bS n n hi:Nat):Int) 1)) _ _ s;rw[pO];exact G7 h
theorem vE(xs:Array Value)(i k:Nat):((List.range k).filterMap fun(m:Nat)=>xs[((i:Int)+(m:Int)*1).toNat]?).toArray=((xs.toList.drop i).take k).toArray:=by
 have e:(fun(m:Nat)=>xs[((i:Int)+(m:Int)*1).toNat]?)=fun m=>xs[i+m]? :=by
  funext m
  have:((i:Int)+(m:Int)*1).toNat=i+m:=by omega
  rw[this]
 rw[e];have:=pick_run xs i k;rw[List.filterMap_map]at this;have e2:((fun x=>xs[x]?)∘fun x=>i+x)=fun m=>xs[i+m]? :=rfl;rw[e2]at this;rw[this]
theorem fv{t sl:Addr}{items:Array Value}{vl vu:Value}{lo hi:Option Int}{Q:Value->Shared->Prop}(ht:IsTup s.heap t items)(hs:s.heap.IsSliceOf sl vl vu .none)(pl:IsPart vl lo)(pu:IsPart vu hi)
  (hw:¬(bS items.size 0 lo=0/\bS items.size items.size hi=items.size))
  (h:Q (.ref s.heap.objs.size) {s with heap:=s.heap.push {cls:=.type "tuple",data:=.seq ((items.toList.drop (bS items.size 0 lo)).take (bS items.size items.size hi-bS items.size 0 lo)).toArray}})
  (hsz:items.size<=sizeLine):wpAny (model prog w) A (getItem (.ref t) (.ref sl)) Q E s:=by
 have htake:sizeOk (.seq ((items.toList.drop (bS items.size 0 lo)).take (bS items.size items.size hi-bS items.size 0 lo)).toArray):=by
  show((items.toList.drop (bS items.size 0 lo)).take (bS items.size items.size hi-bS items.size 0 lo)).toArray.size<=sizeLine;rw[Gx,Hq,JE,HJ];omega
 have hj:bS items.size items.size hi<=items.size:=Ar _ _ (Gr _) hi;obtain⟨os,hos,hcs,hds⟩:=id hs;have hTs:s.TypeIs (.ref sl) "slice":=⟨os,hos,hcs⟩;unfold getItem
 try with_reducible refine JX ?_
 first|refine Gn (G7 ?_)|skip
 refine Gn (wpAny_sequenceKey ht.typeIs (by decide) ?_)
 refine Gn (JA (name:=Str.ofString "__getitem__") ht.typeIs Hn
  (IZ Hn ht.typeIs entry_tuple_getitem ?_ (args_tuple_getitem _ _)))
 show wpAny _ _ (Builtin.Tuple.tupleItemsOf (.ref t) >>= _) _ _ s;refine Gn (tupleItemsOf_ ht ?_);refine Gn (wpAny_typeOf hTs ?_);rw[Gu (by decide)];refine Gn (cO hs pl pu ?_);have hno:¬((((bS items.size 0 lo:Nat):Int)==0&&(1:Int)==1&&(bS items.size items.size hi-bS items.size 0 lo)==items.size)=true):=by
  intro q;rw[Gv,Gv]at q;have q1:((bS items.size 0 lo:Nat):Int)=0:=HN q.1.1;have q2:bS items.size items.size hi-bS items.size 0 lo=items.size:=HN q.2;exact hw ⟨by omega,by omega⟩
 show wpAny _ _ (if(((bS items.size 0 lo:Nat):Int)==0&&(1:Int)==1&&(bS items.size items.size hi-bS items.size 0 lo)==items.size)=true then _ else _) _ _ s;rw[Gq hno,vE]
 first
  | exact Gn (m:=Builtin.Tuple.tupleExact _) (IL (G7 ⟨_,rfl,G7 h⟩) htake)
  | exact Gn (m:=Builtin.Tuple.tupleExact _) (IL (Gn (G7 (G7 ⟨_,rfl,G7 h⟩))) htake)
  | exact Gn (Gn (m:=Builtin.Tuple.tupleExact _) (IL (G7 (G7 ⟨_,rfl,G7 h⟩)) htake))
  | exact Gn (Gn (m:=Builtin.Tuple.tupleExact _) (IL (G7 ⟨_,rfl,G7 h⟩) htake))
end
end HT
namespace L2
open PySem PySem.Spec PyProof.Rows
noncomputable abbrev TO:=St->Hp->(Option Int->Hp->Prop)->Prop
noncomputable def PO(X:Cx)(e:Option Expr)(t:TO):Prop :=
 ∀(pins:List (Addr×Obj))(s:Shared)(σ:St)(H:Hp)(Q:Option Int->Hp->Prop),Inv X pins σ H s->t σ H Q ->
  wpAny (model X.prog X.w) X.A (evalPart e X.env) (fun u s' =>∃o H',Inv X pins σ H' s' /\IsPart u o/\Q o H') X.xe s
noncomputable def xN:TO:=fun _ H Q=>Q none H
noncomputable def EE(t:TE):TO:=fun σ H Q=>t σ H fun x H1=>∃i,x=.int i/\Q (some i) H1
theorem intsAre_of{ns:List Int}:∀{us:List Value},aO (ns.map V.int) us->IntsAre us ns:=by
 induction ns with
 | nil=>intro us r;rw[List.map_nil]at r;cases r;exact .nil
 | cons n ns ih =>
  intro us r;rw[HW]at r;cases r with
  | cons r1 r2 =>
   obtain⟨t,e⟩:=r1;subst e;exact .cons n t (ih r2)
section
variable{X:Cx}{e:Expr}{te:TE}{lo hi:Option Expr}{tl th:TO}{pos p2:Pos}
theorem xq:PO X none xN:=by
 intro pins s σ H Q I h;rw[evalPart_none];exact G7 ⟨none,H,I,.none,h⟩
theorem xo(h:PE X e te):PO X (some e) (EE te):=by
 intro pins s σ H Q I hw;rw[evalPart_some];refine bJ (h pins s σ H _ I hw) fun u s1 hpq=> ?_;obtain⟨x,H1,I1,r1,q1⟩:=hpq;obtain⟨i,rfl,q⟩:=q1;obtain⟨t,rfl⟩:=r1;exact⟨some i,H1,I1,.int i t,q⟩
noncomputable def Dc(X:Cx)(r:V->Option Int->Option Int->Hp->VK->Prop):Prop :=
 ∀(pins:List (Addr×Obj))(s:Shared)(σ:St)(H:Hp)(x:V)(v vl vu:Value)(lo hi:Option Int)(sl:Addr)(Q:VK),Inv X pins σ H s->RelV x v->s.heap.IsSliceOf sl vl vu .none->IsPart vl lo->IsPart vu hi->r x lo hi H Q ->
  ∃T id,typeLookup (.type T) "__getitem__"=pure (some (.builtin id))/\s.TypeIs v T/\wpAny (model X.prog X.w) X.A (getItem v (.ref sl)) (EP X pins σ Q) X.xe s
noncomputable def tSl(r:V->Option Int->Option Int->Hp->VK->Prop)(te:TE)(tl th:TO):TE:=fun σ H Q=>te σ H fun x H1=>tl σ H1 fun l H2=>th σ H2 fun u H3=>r x l u H3 Q
theorem vM{r:V->Option Int->Option Int->Hp->VK->Prop}(hr:Dc X r)(he:PE X e te)(hl:PO X lo tl)(hu:PO X hi th):PE X (.Subscript e (.Slice lo hi none p2) pos) (tSl r te tl th):=by
 intro pins s σ H Q I h;refine Subscript_ (bJ (he pins s σ H _ I h) fun v s1 hpq=> ?_);obtain⟨x,H1,I1,r1,q1⟩:=hpq;refine wpAny_Slice (bJ (hl pins s1 σ H1 _ I1 q1) fun vl s2 ⟨l,H2,I2,pl,q2⟩=>bJ (hu pins s2 σ H2 _ I2 q2) fun vu s3 hpq=> ?_);obtain⟨u,H3,I3,pu,q3⟩:=hpq;rw[evalPart_none];refine G7 ?_;have I4:Inv X pins σ H3 {s3 with heap:=s3.heap.push {cls:=.type "slice",data:=.fields #[vl,vu,.none]}}:=I3.kept (t' :=s3.toks) fun b ob q=>Gp _ q;obtain⟨T,id,hT,ht,hg⟩:=hr pins {s3 with heap:=s3.heap.push {cls:=.type "slice",data:=.fields #[vl,vu,.none]}} σ H3 x v vl vu l u s3.heap.objs.size Q I4 r1 (Heap.IsSliceOf.new ..) pl pu q3;show wpAny (model X.prog X.w) X.A (subscriptTail e (.Slice lo hi none p2) v (.ref s3.heap.objs.size)) (EP X pins σ Q) X.xe {s3 with heap:=s3.heap.push {cls:=.type "slice",data:=.fields #[vl,vu,.none]}};exact tail_any (ops:=[.ref s3.heap.objs.size,v]) ht hT hg (by with_unfolding_all rfl)
noncomputable def oV(xs:List V)(lo hi:Option Int):List V:=(xs.drop (HT.bS xs.length 0 lo)).take (HT.bS xs.length xs.length hi-HT.bS xs.length 0 lo)
theorem iR(xs:List V)(lo hi:Option Int):(oV xs lo hi).length<=xs.length:=by
 unfold oV;rw[Hq,JE];omega
noncomputable def rSlT(K:W.Frag):V->Option Int->Option Int->Hp->VK->Prop:=fun x lo hi H Q=>∃a xs,x=.ref a/\ba K H a xs /\
 ¬(HT.bS xs.length 0 lo=0/\HT.bS xs.length xs.length hi=xs.length)/\∀p,H p=none->Q (.ref p) (upd H p (.tup (oV xs lo hi)))
theorem An:Dc X (rSlT X.K):=by
 intro pins s σ H x v vl vu lo hi sl Q I rx hs pl pu h;obtain⟨a,xs,rfl,hx,hw,q⟩:=h;cases rx;obtain⟨its,r,ht,hz⟩:=I.tuple hx;have hlen:its.toArray.size=xs.length:=by rw[Gx];exact r.length.symm
 refine⟨"tuple",_,Hn.lookup,ht.typeIs,?_⟩;refine HT.fv ht hs pl pu (by rw[hlen];exact hw) ?_ (by rw[hlen];exact hz);rw[hlen];refine⟨.ref s.heap.objs.size,_,I.laid (t' :=s.toks) (o:=.tup (oV xs lo hi)) (fun b ob q=>Gp _ q) (Gr _) ?_,rfl,q _ (I.hok.fresh (Gr _))⟩;exact⟨HP (iR xs lo hi) hz,_,(r.drop (HT.bS xs.length 0 lo)).take (HT.bS xs.length xs.length hi-HT.bS xs.length 0 lo),cv.new _ _⟩
noncomputable def rLtT(K:W.Frag):R2:=fun x y H Q=>∃a b ns ms,x=.ref a/\y=.ref b/\ba K H a (ns.map V.int)/\ba K H b (ms.map V.int)/\Q (.bl (HT.lexLt ns ms)) H
theorem vS(hu:X.A.units<cLine):du X (compareOp .Lt) (rLtT X.K):=by
 intro pins s σ H x y v u Q I rx ry h;obtain⟨a,b,ns,ms,rfl,rfl,ha,hb,q⟩:=h;cases rx;cases ry;obtain⟨its,r1,p1,_⟩:=I.tuple ha;obtain⟨its2,r2,p2,_⟩:=I.tuple hb;have i1:IntsAre its.toArray.toList ns:=intsAre_of r1;have i2:IntsAre its2.toArray.toList ms:=intsAre_of r2;exact HT.pY p1 p2 i1 i2 hu ⟨.bl (HT.lexLt ns ms),H,I,rfl,q⟩
noncomputable def Ek(K:W.Frag):R2:=fun x y H Q=>∃a b xs ys,x=.ref a/\y=.ref b/\ba K H a xs/\ba K H b ys/\xs≠[]/\xs.length+ys.length<=sizeLine /\
 (ys=[]->Q (.ref a) H)/\(ys≠[]->∀p,H p=none->Q (.ref p) (upd H p (.tup (xs++ys))))
theorem aO.nil_iff{xs:List V}{us:List Value}(r:aO xs us):us=[]↔xs=[]:=by
 cases r with
 | nil=>simp
 | cons _ _=>simp
theorem yB:du X (binaryOp .Add) (Ek X.K):=by
 intro pins s σ H x y v u Q I rx ry h;obtain⟨a,b,xs,ys,rfl,rfl,ha,hb,hx,hz,q1,q2⟩:=h;cases rx;cases ry;obtain⟨its,r1,p1,_⟩:=I.tuple ha;obtain⟨its2,r2,p2,_⟩:=I.tuple hb;refine HT.yv p1 p2 (fun z=>hx (r1.nil_iff.mp z)) (fun z=>⟨.ref a,H,I,rfl,q1 (r2.nil_iff.mp z)⟩) (fun z=> ?_) (by rw[<- r1.length,<-r2.length];exact hz);refine⟨.ref s.heap.objs.size,_,I.laid (t' :=s.toks) (o:=.tup (xs++ys)) (fun b ob q=>Gp _ q) (Gr _) ?_,rfl,q2 (fun w=>z (r2.nil_iff.mpr w)) _ (I.hok.fresh (Gr _))⟩;exact⟨by rw[G6];exact hz,_,r1.append r2,cv.new _ _⟩
end
noncomputable def tO(n:Nat)(i:Int):Option Nat:=if 0<=i then(if i<n then some i.toNat else none)else if -(n:Int)<=i then some (i+n).toNat else none
noncomputable def ed{α:Type}(xs:List α)(i:Int):Option α:=(tO xs.length i).bind fun j=>xs[j]?
theorem yU{n:Nat}{i:Int}{j:Nat}(h:tO n i=some j):seqIndex? i n=some j/\j<n/\ -(n:Int)<=i/\i<n:=by
 unfold tO at h
 by_cases h0:0<=i
 ·rw[Gu h0]at h
  by_cases h1:i<n
  ·rw[Gu h1]at h
   have e:i.toNat=j:=HM h;exact⟨by rw[seqIndex_of h0 h1,e],by omega,by omega,h1⟩
  ·rw[Gq h1]at h;cases h
 ·rw[Gq h0]at h
  by_cases h1: -(n:Int)<=i
  ·rw[Gu h1]at h
   have e:(i+n).toNat=j:=HM h;exact⟨by rw[seqIndex_neg (by omega) h1,e],by omega,h1,by omega⟩
  ·rw[Gq h1]at h;cases h
theorem mn{α:Type}{xs:List α}{i:Int}{v:α}(h:ed xs i=some v):∃j,seqIndex? i xs.length=some j/\xs[j]? =some v/\j<xs.length/\ -(xs.length:Int)<=i/\i<xs.length:=by
 unfold ed at h;cases e:tO xs.length i with
 | none=>rw[e]at h;cases h
 | some j =>
  rw[e]at h;obtain⟨h1,h2,h3,h4⟩:=yU e;exact⟨j,h1,h,h2,h3,h4⟩
theorem eZ{α:Type}{xs:List α}{j:Nat}{v:α}(h:xs[j]? =some v):ed xs (j:Int)=some v:=by
 have hj:j<xs.length:=(G9.mp h).1;have e:tO xs.length (j:Int)=some j:=by
  unfold tO;rw[Gu (by omega),Gu (by omega)];simp
 unfold ed;rw[e];exact h
noncomputable def sA(b:Expr):Prop:=∀o i,subscripted b false o i=operate [o,i] (getItem o i)
noncomputable def Ge(X:Cx)(r:R2):Prop :=
 ∀(value slice:Expr)(pins:List (Addr×Obj))(s:Shared)(σ:St)(H:Hp)(x y:V)(v u:Value)(Q:VK),Inv X pins σ H s->RelV x v->RelV y u->r x y H Q ->
  subscripted slice false v u=operate [v,u] (getItem v u)->wpAny (model X.prog X.w) X.A (subscriptTail value slice v u) (EP X pins σ Q) X.xe s
noncomputable def MtR(X:Cx)(id:String)(r:V->List V->Hp->VK->Prop):Prop :=
 ∀(pins:List (Addr×Obj))(s:Shared)(σ:St)(H:Hp)(x:V)(xs:List V)(v:Value)(us:List Value)(Q:VK),Inv X pins σ H s->RelV x v->aO xs us->r x xs H Q ->
  wpAny (model X.prog X.w) X.A (call (.builtin id) (v::us)) (EP X pins σ Q) X.xe s
section
variable{X:Cx}{a b:Expr}{ta tb:TE}{pos:Pos}
theorem Ev{r:R2}(hr:Ge X r)(ha:PE X a ta)(hb:PE X b tb)(hs:sA b):PE X (.Subscript a b pos) (tOp r ta tb):=by
 intro pins s σ H Q I h;exact Subscript_ (Ck ha hb I h fun v u s2 x y H2 I2 rx ry q=>hr a b pins s2 σ H2 x y v u Q I2 rx ry q (hs _ _))
noncomputable def rIxL(K:W.Frag):R2:=fun x y H Q=>∃p xs i v,x=.ref p/\y=.int i/\bP K H p xs/\ed xs i=some v/\Q v H
noncomputable def rIxT(K:W.Frag):R2:=fun x y H Q=>∃p xs i v,x=.ref p/\y=.int i/\ba K H p xs/\ed xs i=some v/\Q v H
noncomputable def rIxS:R2:=fun x y H Q=>∃z i c,x=.str z/\y=.int i/\z.length<=sizeLine/\ed z.cps.toList i=some c/\Q (.str ⟨#[c]⟩) H
theorem mM:Ge X (rIxL X.K):=by
 intro value slice pins s σ H x y v u Q I rx ry h hs;obtain⟨p,xs,i,z,rfl,rfl,hq,he,q⟩:=h;cases rx;obtain⟨t,rfl⟩:=ry;obtain⟨its,r,pl,hz⟩:=I.list hq;obtain⟨j,h1,h2,h3,h4,h5⟩:=mn he;obtain⟨w,ew,rw'⟩:=r.get h2;have hl:=r.length;have hn:=gU;have fin:EP X pins σ Q w s:=⟨z,H,I,rw',q⟩
 by_cases h0:0<=i
 ·have hj:i.toNat=j:=by
   rw[seqIndex_of h0 h5]at h1;exact HM h1
  exact item_listR pl.isList h0 (by omega) (by rw[hj];simpa using ew) fin hs
 ·have hj:(i+(its.toArray.size:Int)).toNat=j:=by
   rw[seqIndex_neg (by omega) h4]at h1;rw[Gx,<-hl];exact HM h1
  exact subscriptTail_builtinR (x:=w) pl.isList.typeIs slot_list_getitem.lookup
   (wpAny_getItem_list_neg (Q:=fun r s' =>r=w/\EP X pins σ Q r s') pl.isList (by omega) (by rw[Gx]<;>omega) (by omega) (by rw[hj];simpa using ew) ⟨rfl,fin⟩) hs
theorem vq:Ge X (rIxT X.K):=by
 intro value slice pins s σ H x y v u Q I rx ry h hs;obtain⟨p,xs,i,z,rfl,rfl,hq,he,q⟩:=h;cases rx;obtain⟨t,rfl⟩:=ry;obtain⟨its,r,pl,hz⟩:=I.tuple hq;obtain⟨j,h1,h2,h3,h4,h5⟩:=mn he;obtain⟨w,ew,rw'⟩:=r.get h2;have hl:=r.length;have hn:=gU;have fin:EP X pins σ Q w s:=⟨z,H,I,rw',q⟩
 exact subscriptTail_builtinR (x:=w) pl.typeIs slot_tuple_getitem.lookup
  (getItem_tuple (j:=j) (Q:=fun r s' =>r=w/\EP X pins σ Q r s') pl (by omega) (by omega) (by rw[Gx,<-hl];exact h1) (by simpa using ew) ⟨rfl,fin⟩) hs
theorem Bu:Ge X rIxS:=by
 intro value slice pins s σ H x y v u Q I rx ry h hs;obtain⟨z,i,c,rfl,rfl,hz,he,q⟩:=h;obtain⟨t,rfl⟩:=rx;obtain⟨t',rfl⟩:=ry;obtain⟨j,h1,h2,h3,h4,h5⟩:=mn he;have hl:z.cps.toList.length=z.length:=by simp[Str.length]
 rw[hl]at h1 h4 h5;have hn:=gU
 exact tail_any (typeIs_str s z t) slot_str_getitem.lookup (getItem_str (c:=c) (by
  have e1:decide (i< -(2^63:Int))=false:=HS (by omega);have e2:decide (i ≥ 2^63)=false:=HS (by omega);rw[e1,e2,Bool.or_false]) (by rw[h1];simpa using h2) ⟨.str ⟨#[c]⟩,H,I.tok _,⟨_,rfl⟩,q⟩) hs
theorem Inv.lst{pins:List (Addr×Obj)}{σ:St}{H:Hp}{s:Shared}{p:Addr}{xs:List V}(I:Inv X pins σ H s)(h:H p=some (.lst xs)) :
  ∃(its:List Value)(n:Nat),aO xs its/\s.heap.get? p=some {cls:=.type "list",data:=.seq its.toArray n}/\xs.length<=sizeLine:=by
 obtain⟨z,its,n,r,e⟩:=I.hok p _ h;exact⟨its,n,r,e,z⟩
theorem mB(lo hi:Option Int)(n:Nat):(sliceBounds lo hi none n).1=((HT.bS n 0 lo:Nat):Int)/\(sliceBounds lo hi none n).2.1=((HT.bS n n hi:Nat):Int)/\(sliceBounds lo hi none n).2.2=1:=by
 refine⟨?_,?_,rfl⟩
 ·cases lo with
  | none=>simp[sliceBounds,HT.bS]
  | some i =>
   simp only[sliceBounds,HT.bS,Option.getD_none,show(1:Int)>0 by decide,JY]
   by_cases h:i<0
   ·simp only[h,JY]<;>omega
   ·simp only[h,KG]<;>omega
 ·cases hi with
  | none=>simp[sliceBounds,HT.bS]
  | some i =>
   simp only[sliceBounds,HT.bS,Option.getD_none,show(1:Int)>0 by decide,JY]
   by_cases h:i<0
   ·simp only[h,JY]<;>omega
   ·simp only[h,KG]<;>omega
theorem j5(its:List Value)(lo hi:Option Int):slicePick its.toArray lo hi none=((its.drop (HT.bS its.length 0 lo)).take (HT.bS its.length its.length hi-HT.bS its.length 0 lo)).toArray:=by
 obtain⟨h1,h2,h3⟩:=mB lo hi its.toArray.size;unfold slicePick;rw[h1,h2,h3];simp only[sliceRange_one,pick_run,Gx]<;>rfl
noncomputable def rSlL(K:W.Frag):V->Option Int->Option Int->Hp->VK->Prop:=fun x lo hi H Q=>∃a xs,x=.ref a/\bP K H a xs/\∀p,H p=none->Q (.ref p) (upd H p (.lst (oV xs lo hi)))
theorem xR:Dc X (rSlL X.K):=by
 intro pins s σ H x v vl vu lo hi sl Q I rx hs pl pu h;obtain⟨a,xs,rfl,hx,q⟩:=h;cases rx;obtain⟨its,r,ht,hz⟩:=I.list hx;have hlen:=r.length;refine⟨"list",_,slot_list_getitem.lookup,ht.isList.typeIs,?_⟩;refine wpAny_getItem_list_slice ht.isList hs pl pu .none (by simp) ?_ (by rw[Gx]<;>omega);rw[j5,<-hlen];refine⟨.ref s.heap.objs.size,_,I.laid (t' :=s.toks) (o:=.lst (oV xs lo hi)) (fun b ob q=>Gp _ q) (Gr _) ?_,rfl,q _ (I.hok.fresh (Gr _))⟩;exact⟨HP (iR xs lo hi) hz,_,0,(r.drop (HT.bS xs.length 0 lo)).take (HT.bS xs.length xs.length hi-HT.bS xs.length 0 lo),HH _ rfl⟩
theorem gC:bL X (.builtin "len") (fun xs H Q=>∃p ys,xs=[.ref p]/\(bP X.K H p ys\/ba X.K H p ys)/\Q (.int ys.length) H):=by
 intro pins s σ H xs us Q I r h;obtain⟨p,ys,rfl,hq,q⟩:=h;obtain⟨u,rfl,rx⟩:=vals1 r;cases rx;have hn:=gU
 rcases hq with hq|hq
 ·obtain⟨its,r',pl,hz⟩:=I.list hq
  have hlen:=r'.length;exact Calls.call_len_list pl.isList (by simp only[Gx]<;>omega) ⟨.int ys.length,H,I.tok _,⟨s.toks+1,by rw[Gx,hlen]⟩,q⟩
 ·obtain⟨its,r',pl,hz⟩:=I.tuple hq
  have hlen:=r'.length;exact len_tuple pl (by simp only[Gx]<;>omega) ⟨.int ys.length,H,I.tok _,⟨s.toks+1,by rw[Gx,hlen]⟩,q⟩
theorem mi:bL X (.builtin "len") (fun xs H Q=>∃z,xs=[.str z]/\z.length<=sizeLine/\Q (.int z.length) H):=by
 intro pins s σ H xs us Q I r h;obtain⟨z,rfl,hz,q⟩:=h;obtain⟨u,rfl,t,rfl⟩:=vals1 r;have hn:=gU;exact len_str (by omega) ⟨.int z.length,H,I.tok _,⟨_,rfl⟩,q⟩
theorem mh:bL X (.type "list") (fun xs H Q=>∃p ys,xs=[.ref p]/\(bP X.K H p ys\/ba X.K H p ys)/\∀l,H l=none->Q (.ref l) (upd H l (.lst ys))):=by
 intro pins s σ H xs us Q I r h;obtain⟨p,ys,rfl,hq,q⟩:=h;obtain⟨u,rfl,rx⟩:=vals1 r;cases rx
 have fin:∀(its:List Value),aO ys its->ys.length<=sizeLine->∀(h' :Heap)(c' :Nat),(∀b o',s.heap.get? b=some o' ->h'.get? b=some o') ->
   h'.get? s.heap.objs.size=some {cls:=.type "list",dict:=none,data:=.seq its.toArray c',slots:= #[]}->EP X pins σ Q (.ref s.heap.objs.size) {s with heap:=h'}:=fun its r' hz h' c' kp e =>
  ⟨.ref s.heap.objs.size,_,I.laid (t' :=s.toks) kp (Gr _) (show bC X.prog X.w _ h' _ (.lst ys)from⟨hz,its,c',r',e⟩),rfl,q _ (I.hok.fresh (Gr _))⟩
 rcases hq with hq|hq
 ·obtain⟨its,r',pl,hz⟩:=I.list hq
  have hlen:=r'.length;obtain⟨o,ho,hc,n,hd⟩:=pl.isList;exact call_list_seq p (.inl rfl) ho hc hd (fun h' c' kp e=>fin its r' hz h' c' kp e) (by simp only[Gx]<;>omega)
 ·obtain⟨its,r',pl,hz⟩:=I.tuple hq
  have hlen:=r'.length;obtain⟨o,ho,hc,n,hd⟩:=pl;exact call_list_seq p (.inr rfl) ho hc hd (fun h' c' kp e=>fin its r' hz h' c' kp e) (by simp only[Gx]<;>omega)
theorem kR:bL X (.type "tuple") (fun xs H Q=>∃p ys,xs=[.ref p]/\((bP X.K H p ys/\∀l,H l=none->Q (.ref l) (upd H l (.tup ys)))\/(ba X.K H p ys/\Q (.ref p) H))):=by
 intro pins s σ H xs us Q I r h;obtain⟨p,ys,rfl,h⟩:=h;obtain⟨u,rfl,rx⟩:=vals1 r;cases rx
 rcases h with⟨hq,q⟩|⟨hq,q⟩
 ·obtain⟨its,r',pl,hz⟩:=I.list hq
  have hlen:=r'.length;refine call_tuple_list pl.isList (fun h' kp=> ?_) (by simp only[Gx]<;>omega);have I1:Inv X pins σ H {s with heap:=h'}:=I.kept (t' :=s.toks) kp
  have I2:Inv X pins σ (upd H h'.objs.size (.tup ys)) {s with heap:=h'.push {cls:=.type "tuple",data:=.seq its.toArray}} :=
   I1.laid (t' :=s.toks) (fun b o e=>Gp _ e) (Gr _) (show bC X.prog X.w _ _ _ (.tup ys)from⟨hz,its,r',cv.new _ _⟩)
  exact⟨.ref h'.objs.size,_,I2,rfl,q _ (I1.hok.fresh (Gr _))⟩
 ·obtain⟨its,r',pl,hz⟩:=I.tuple hq
  exact call_tuple_same pl ⟨.ref p,H,I,rfl,q⟩
noncomputable def tyV(K:W.Frag)(T:String)(x:V)(H:Hp):Prop:=match x with
 | .str _=>T="str"
 | .int _=>T="int"
 | .ref p=>(T="list"/\∃xs,bP K H p xs)\/(T="tuple"/\∃xs,ba K H p xs) \/
   (T="dict"/\((∃kvs,H p=some (.dK kvs))\/∃kvs,H p=some (.dT kvs)))\/(T="set"/\∃S n,H p=some (.set S n))
 | _=>False
theorem AV{pins:List (Addr×Obj)}{σ:St}{H:Hp}{s:Shared}{T:String}{x:V}{v:Value}(I:Inv X pins σ H s)(r:RelV x v)(ty:tyV X.K T x H) :
  s.TypeIs v T/\∀a,v=.ref a->∃ob,s.heap.get? a=some ob/\ob.dict=none:=by
 cases x with
 | str z =>
  obtain⟨t,rfl⟩:=r;cases(show T="str" from ty);exact⟨typeIs_str s z t,fun _ e=>nomatch e⟩
 | int i =>
  obtain⟨t,rfl⟩:=r;cases(show T="int" from ty);exact⟨typeIs_int s i t,fun _ e=>nomatch e⟩
 | ref p =>
  cases r
  rcases ty with⟨rfl,xs,hq⟩|⟨rfl,xs,hq⟩|⟨rfl,hk⟩|⟨rfl,S,n,hk⟩
  ·obtain⟨its,_,pl,_⟩:=I.list hq
   refine⟨pl.isList.typeIs,fun a e=> ?_⟩;cases e;obtain⟨o,n,e,c,hd,_⟩:=pl;exact⟨o,e,hd⟩
  ·obtain⟨o,e1,e2,e3⟩:=I.tupleD hq
   refine⟨⟨o,e1,e2⟩,fun a e=> ?_⟩;cases e;exact⟨o,e1,e3⟩
  ·have z:∃o,s.heap.get? p=some o/\o.ExactDict:=by
    rcases hk with⟨kvs,hk⟩|⟨kvs,hk⟩
    ·obtain⟨_,_,_,_,o,_,_,e,ex,_⟩:=I.hok p _ hk
     exact⟨o,e,ex⟩
    ·obtain⟨_,_,_,_,o,_,_,e,ex,_⟩:=I.hok p _ hk
     exact⟨o,e,ex⟩
   obtain⟨o,e,ex⟩:=z;refine⟨⟨o,e,ex.1⟩,fun a e2=> ?_⟩;cases e2;exact⟨o,e,ex.2.1⟩
  ·obtain⟨o,_,_,_,e,ex,_⟩:=I.hok p _ hk
   refine⟨⟨o,e,ex.1⟩,fun a e2=> ?_⟩;cases e2;exact⟨o,e,ex.2.1⟩
 | _=>exact False.elim ty
noncomputable def tBM(K:W.Frag)(T:String)(r:V->List V->Hp->VK->Prop)(to:TE)(t:TA):TE:=fun σ H Q=>to σ H fun x H1=>tyV K T x H1/\t σ H1 fun xs H2=>r x xs H2 Q
variable{o e:Expr}{es:List Expr}{to:TE}{t:TA}{name:Str}{apos cpos:Pos}{T id:String}{r:V->List V->Hp->VK->Prop}
theorem zg(pa:PlainAttrs T)(slot:Slot T name id)(hty:typeOf (.builtin id)=pure (.type "method_descriptor"))(hm:MtR X id r)(ho:PE X o to)(ha:PA X (e::es) t)
  (hbase:attributeBase o name X.env (eval o X.env)=eval o X.env:=by rfl)
  (hfew:((backTo cpos (starEach (e::es) X.env)).all (fun x=> !x.1)&&(backToKw cpos (keywordEach [] X.env)).all (fun x=>x.1.isSome)
   && decide ((e::es).length+([]:List Keyword).length+(if([]:List Keyword).isEmpty then 0 else 1)<30))=true:=by rfl)
  (hline:(apos.endLine==cpos.line)=true:=by rfl) (hs:starEach (e::es) X.env=(false,eval e X.env)::starEach es X.env:=by rfl) (hplain:(backTo cpos (starEach es X.env)).any (·.1)=false:=by rfl) :
  PE X (.Call (.Attribute o name apos) (e::es) [] cpos) (tBM X.K T r to t):=by
 intro pins s σ H Q I h;refine wpAny_Call_method_late hbase hfew hline rfl (bJ (ho pins s σ H _ I h) fun v s1 hpq=> ?_);obtain⟨x,H1,I1,r1,ty,q1⟩:=hpq;obtain⟨h1,h2⟩:=AV I1 r1 ty;refine⟨T,id,pa,slot,hty,h1,h2,?_⟩;have hA:=ha cpos pins s1 σ H1 _ I1 q1;rw[hs]at hA ⊢;refine Calls.callWith_builtin (by show(false||(backTo cpos (starEach es X.env)).any (·.1))=false;rw[hplain]<;>rfl) (Calls.evalArgs_plain ?_);exact bJ hA fun us s2 ⟨vs,H2,I2,r2,q2⟩=>hm pins s2 σ H2 x vs v us Q I2 r1 r2 q2
end
noncomputable def MtM(X:Cx)(id:String)(r:V->List V->Hp->VK->Prop):Prop :=
 ∀(pins:List (Addr×Obj))(s:Shared)(σ:St)(H:Hp)(x:V)(xs:List V)(v:Value)(us:List Value)(Q:VK),Inv X pins σ H s->RelV x v->aO xs us->r x xs H Q ->
  wpAny (model X.prog X.w) X.A (call (.builtin id) (v::us)) (EP X pins σ Q) X.xe s
theorem aO.one{x:V}{us:List Value}(h:aO [x] us):∃u,us=[u]/\RelV x u:=vals1 h
theorem aO.two{x y:V}{us:List Value}(h:aO [x,y] us):∃u v,us=[u,v]/\RelV x u/\RelV y v:=vals2 h
theorem aO.zero:∀{us:List Value},aO [] us->us=[]
 | _,.nil=>rfl
theorem aO.dropLast{xs:List V}{us:List Value}(h:aO xs us):aO xs.dropLast us.dropLast:=by
 induction h with
 | nil=>exact .nil
 | cons r t ih =>
  cases t with
  | nil=>exact .nil
  | cons q t' =>exact .cons r ih
theorem aO.reverse{xs:List V}{us:List Value}(h:aO xs us):aO xs.reverse us.reverse:=by
 induction h with
 | nil=>exact .nil
 | cons r t ih=>rw[KY,KY];exact aO.append ih (.cons r .nil)
theorem aO.rep{xs:List V}{us:List Value}(h:aO xs us):∀k:Nat,aO (List.replicate k xs).flatten (List.replicate k us).flatten
 | 0=>.nil
 | k+1=>by
  rw[IG,IG,Ii,Ii];exact aO.append h (aO.rep h k)
theorem foldl_rep(its:List Value):∀(k:Nat)(acc:List Value),
  List.foldl (fun x1 x2=>x1++x2) acc.toArray (List.replicate k its.toArray)=(acc++(List.replicate k its).flatten).toArray
 | 0,acc=>by simp
 | k+1,acc=>by
  have e:acc.toArray++its.toArray=(acc++its).toArray:=by simp
  have e2:(acc++its)++(List.replicate k its).flatten=acc++(List.replicate (k+1) its).flatten:=by
   rw[IG,Ii,HZ]
  rw[<- e2,<-foldl_rep its k (acc++its),<-e,IG,List.foldl_cons]
section
variable{X:Cx}{pins:List (Addr×Obj)}{σ:St}{H:Hp}{s:Shared}{l b:Addr}{xs ys zs:List V}
theorem Inv.lset{its its' :List Value}{n:Nat}{f:Array Value->Array Value}{t' :Nat}(I:Inv X pins σ H s)(hH:H l=some (.lst xs))
  (e:s.heap.get? l=some {cls:=.type "list",data:=.seq its.toArray n}) (hf:f its.toArray=its'.toArray) (hv:aO ys its') (hz:ys.length<=sizeLine) :
  Inv X pins σ (upd H l (.lst ys)) {s with heap:=s.heap.update l (Obj.mapSeq f),toks:=t'}:=by
 have q:=PySem.IsL.update e f;rw[hf]at q;refine I.write (x:=l) (e:=l) (by rw[hH];exact trivial) (.inl rfl) (fun b' u hb hu=>(Hh s.heap (Obj.mapSeq f) (Jf hb)).trans hu) ⟨_,q⟩ ?_;exact⟨hz,its',_,hv,q⟩
theorem Inv.lnew{its:List Value}{t' :Nat}(I:Inv X pins σ H s)(hv:aO ys its)(hz:ys.length<=sizeLine) :
  Inv X pins σ (upd H s.heap.objs.size (.lst ys)) {s with heap:=s.heap.push {cls:=.type "list",data:=.seq its.toArray},toks:=t'} :=
 I.laid (fun _ _ q=>Gp _ q) (Gr _) ⟨hz,its,0,hv,HH _ rfl⟩
theorem Inv.fresh(I:Inv X pins σ H s):H s.heap.objs.size=none:=I.hok.fresh (Gr _)
theorem Inv.lstM(I:Inv X pins σ H s)(hH:H l=some (.lst xs)):xs.length<=sizeLine/\∃(its:List Value)(n:Nat),aO xs its/\xs.length=its.length/\s.heap.get? l=some {cls:=.type "list",data:=.seq its.toArray n}:=by
 obtain⟨z,its,n,r,e⟩:=I.hok l _ hH;exact⟨z,its,n,r,r.length,e⟩
theorem nS{n:Nat}(h:n<=sizeLine):Builtin.List.listTooLong n=false:=by
 unfold Builtin.List.listTooLong;exact HS (by omega)
end
section
variable{X:Cx}
noncomputable def xa:V->List V->Hp->VK->Prop:=fun x vs H Q=>∃l xs y,x=.ref l/\vs=[y]/\H l=some (.lst xs)/\xs.length<sizeLine/\Q .non (upd H l (.lst (xs++[y])))
theorem lJ:MtM X "list.append" xa:=by
 intro pins s σ H x vs v us Q I rx rv h;obtain⟨l,xs,y,rfl,rfl,hH,hz,q⟩:=h;cases rx;obtain⟨u,rfl,ru⟩:=rv.one;obtain⟨z,its,n,r,hl,e⟩:=I.lstM hH;refine Ke F.slot_list_append ⟨_,e,rfl⟩ F.entry_list_append (F.args_list_append_2 _ _) (PySem.list_append l its.toArray n u (by rw[Gx];omega)) ⟨e,?_⟩;refine⟨.non,_,I.lset (its' :=its++[u]) hH e (by simp) (r.append (.cons ru .nil)) ?_,rfl,q⟩;rw[G6,List.length_singleton];omega
noncomputable def rRep:R2:=fun x y H Q=>∃l k xs,x=.ref l/\y=.int k/\H l=some (.lst xs)/\ -(2^63)<=k/\k<2^63/\xs.length*k.toNat<=sizeLine /\
 ∀p,H p=none->Q (.ref p) (upd H p (.lst (List.replicate k.toNat xs).flatten))
theorem yR{α:Type}(xs:List α)(k:Nat):(List.replicate k xs).flatten.length=k*xs.length:=by
 induction k with
 | zero=>simp
 | succ k ih=>rw[IG,Ii,G6,ih,Nat.succ_mul,Nat.add_comm]
theorem BL:du X (binaryOp .Mult) rRep:=by
 intro pins s σ H x y v u Q I rx ry h;obtain⟨l,k,xs,rfl,rfl,hH,h1,h2,hz,q⟩:=h;cases rx;obtain⟨t,rfl⟩:=ry;obtain⟨z,its,n,r,hl,e⟩:=I.lstM hH;have hlen:its.toArray.size*k.toNat<=sizeLine:=by rw[Gx,<-hl];exact hz
 have hcap:¬its.toArray.size*k.toNat>(2^63-1)/8:=by
  have:(sizeLine:Nat)<=(2^63-1)/8:=by decide
  omega
 have hfit:¬(!Builtin.List.listFitsIndex k)=true:=by
  rw[fitsIndex_both h1 h2];exact Gz
 have hlong:¬Builtin.List.listTooLong (its.toArray.size*k.toNat)=true:=by
  rw[nS hlen];exact Gz
 have hnew:List.foldl (fun x1 x2=>x1++x2) #[] (List.replicate (if its.toArray.isEmpty=true then 0 else k.toNat) its.toArray)=(List.replicate k.toNat its).flatten.toArray:=by
  have f0:∀m:Nat,List.foldl (fun x1 x2=>x1++x2) #[] (List.replicate m its.toArray)=(List.replicate m its).flatten.toArray:=fun m=>by
   have:=foldl_rep its m [];rw[List.nil_append]at this;exact this
  rw[f0];cases its with
  | nil=>simp
  | cons a r' =>rw[Gq (by simp)]
 refine wpAny_binaryOp_repeat_ref (T:="list") (U:="int") (by decide) ⟨_,e,rfl⟩ (fun s' =>typeIs_int s' k t) noFill_list_mul F.fills_int_mul F.slot_int_rmul repeat_list F.slot_int_index.lookup
  (Ke F.slot_int_rmul (typeIs_int s k t) F.entry_int_rmul (F.args_int_rmul_2 _ _) (int___rmul___int_list k t l its.toArray n)
   ⟨e,rfl,⟨_,e,rfl⟩,Ke F.slot_list_mul ⟨_,e,rfl⟩ F.entry_list_mul (F.args_list_mul_2 _ _) (AutoListH.list___mul___list_int_3 l its.toArray n k t hfit hcap hlong) ⟨e,?_⟩⟩)
 rw[hnew];exact⟨.ref _,_,I.lnew (t' :=s.toks) (r.rep k.toNat) (by rw[yR,Nat.mul_comm];exact hz),rfl,q _ I.fresh⟩
end
section
variable{prog:Program}{w:World}{A:Around}{E:Value->Shared->Prop}{s:Shared}
end
section
variable{X:Cx}
end
end L2
namespace Att
open PySem PySem.W PySem.Calls PyProof.Rows
theorem iZ{P:Params}{h:Heap}:∀(ns:List Int)(vs:List Value),WellAll P h vs (ns.map WData.int)->IntsAre vs ns:=by
 intro ns
 induction ns with
 | nil =>
  intro vs w;rw[List.map_nil]at w;cases w;exact .nil
 | cons n ns ih =>
  intro vs w;rw[HW]at w;cases w with
  | cons a b =>
   cases a;exact .cons _ _ (ih _ b)
theorem sX{l:OpenLaw}{n:Nat}(hn:l.most=some n){P:Params}{h:Heap}{args:List WData}{vals:List Value}
  (hpre:l.row.toRowW.claim.pre args=true) (hwl:WellAll P h vals args) :
  ∃a vs ns,vals=[Value.ref a]/\args=[WData.list (ns.map WData.int)]/\h.get? a=some {cls:=.type "list",data:=.seq vs.toArray}/\IntsAre vs ns/\ns.length<=n:=by
 have hsh:WShape.hasAll [] args [.list .int]=true:=(pre_splitW hpre).1;have hc:l.pre.holds [] {args:=args}=true:=(pre_splitW hpre).2;obtain⟨d,r,rfl,h1,h2⟩:=hasAllW_cons hsh;obtain rfl:=hasAllW_nil h2;obtain⟨xs,rfl,h3⟩:=hasW_list h1;obtain⟨ns,rfl⟩:=items_int h3;have hlen:ns.length<=n:=by
  unfold OpenLaw.pre at hc;have h4:(WTm.not (.lt (.lit (.int (n:Int))) (.len (.arg 0)))).holds [] {args:=[.list (ns.map .int)]}=true:=by
   have h4:=(holds_andW hc).1;rw[hn]at h4;exact h4
  have h5:=condW_of h4 (w_not (w_lt w_lit (w_len_list (w_arg rfl))));rw[Go]at h5;refine Nat.le_of_not_lt fun q=> ?_;have q' :(n:Int)<((ns.length:Nat):Int):=by omega
  first
   | (rw[Hy q']at h5;exact absurd h5 (by decide))
   | (simp at h5;omega)
 cases hwl with
 | cons w1 w2 =>
  cases w2;cases w1 with
  | list ho hall=>exact⟨_,_,ns,rfl,rfl,ho,iZ ns _ hall,hlen⟩
theorem se(l:OpenLaw)(args:List WData):l.row.toRowW.claim.post args (.bool true) args=true :=
 postW_of (r:=l.row.toRowW) (X:=(true==true))
  (show WShape.has [] (.bool true) .bool=true by first|rfl|decide|simp[WShape.has,WShape.arms,WShape.armsAll])
  (show(WTm.eq .res (.lit (.bool true))).value [] {args:=args,res:=some (.bool true),after:=args}=some (.bool (true==true))from w_eq_bool (w_res rfl) w_lit) rfl
theorem oj{l:OpenLaw}{n:Nat}{q:Program}{loose:List Str}{XP:(Str->Option Value)->Heap->Prop}{YP:World->Heap->Prop}{d:DefRec}
  (hn:l.most=some n) (hdf:d.params.defaults=[])
  (call:∀(w:World)(s₀ s₁:Shared)(mg mb:Str->Option Value)(fa:Addr)(o:Obj)(pm cd doc:Value)(a:Addr)(vs:List Value)(ns:List Int),
   Ground q loose [] XP w s₀ mg mb s₁.heap->YP w s₁.heap ->
   s₁.heap.get? fa=some o->o.data=.func (docDef d.name d.params d.body d.scope pm cd doc)->s₁.heap.CodeRec cd d.name->mg d.name=some (.ref fa) ->
   s₁.heap.get? a=some {cls:=.type "list",data:=.seq vs.toArray}->IntsAre vs ns->ns.length<=n->s₁.gens= #[] ->
   codeAny (model l.prog w) callerA (.call (.ref fa) ⟨[.ref a],[]⟩) (fun r s' =>r=.ok (.ret (.bool true))/\OldK s₁.heap s'.heap/\s'.os=s₁.os/\AllBare s'.gens) s₁) :
  WalkO q loose XP YP l.row.toRowW d [] (fun f vs=>PySem.call f vs):=by
 intro w s₀ s₁ mg mb G Y fa o pm cd doc dV kV ho hd hcd hD hmg hg args vals as hpre hlay hrd hwl hlo;obtain rfl:dV=.none:=Dflts.none hD hdf;obtain rfl:kV=.none:=Dflts.noKw hD;obtain⟨a,vs,ns,rfl,rfl,hobj,hints,hlen⟩:=sX hn hpre hwl;refine enter_call (codeAny_mono (call w s₀ s₁ mg mb fa o pm cd doc a vs ns G Y ho (fd_plain hd) hcd hmg hobj hints hlen hg) fun r s' hq=> ?_);obtain⟨rfl,h2,h3,h4⟩:=hq;exact⟨.inl ⟨.bool true,.bool true,[],rfl,fun _=>rfl,.bool true,se l _,fun _=>⟨List.Pairwise.nil,fun _ hm=>(nomatch hm)⟩⟩,h2,h3,h4⟩
section
variable{prog:Program}{w:World}{A:Around}{E:Value->Shared->Prop}{s:Shared}{K:Frag}
end
end Att
namespace L2
open PySem PySem.Spec PyProof.Rows
theorem sH{vs:List Value}{ns:List Int}(h:IntsAre vs ns):aO (ns.map V.int) vs:=by
 induction h with
 | nil=>exact .nil
 | cons n t h ih=>exact .cons ⟨t,rfl⟩ ih
noncomputable def DA(H:Hp):Prop:=∀b,H b=none\/∃o xs,H b=some (.frz o (.lst xs))
theorem vj{P:Program}{w:World}{K:W.Frag}{mg mb:Str->Option Value}{CX:oy}{k:Nat}{fa a:Addr}{fd:FuncData}{x:Str}{sp:Sp}{s₁:Shared}{vs:List Value}{ns:List Int}
  (KX:K.In s₁.heap) (hns:s₁.heap.Ns mainGlobals mg) (hb:s₁.heap.Ns builtinsNs mb) (hbb:∀x:Str,x≠"__name__"->mb x=bootBuiltins x) (hlim:s₁.heap.NoLimit) (hg:s₁.gens= #[])
  (ha:s₁.heap.get? a=some {cls:=.type "list",data:=.seq vs.toArray}) (hi:IntsAre vs ns) (hl:ns.length<=sizeLine) (hr:eQ k callerA)
  (F:∀base:Heap,K.In base->base.Ns mainGlobals mg->bu P w K mg base CX k fa fd [x] sp) (hbind:∀(s:Shared)(u:Value),BindsTo s fd ⟨[u],[]⟩ [(x,u)])
  (hsp:∀H:Hp,DA H->bP K H a (ns.map V.int)->sp [.ref a] H (fun v _=>v=.bl true) fun _ _ _=>False)
  (hCX:∀H e s',CX [] H s₁ (fun _ _ _=>False) e s' ->False) :
  codeAny (model P w) callerA (.call (.ref fa) ⟨[.ref a],[]⟩) (fun r s' =>r=.ok (.ret (.bool true))/\OldK s₁.heap s'.heap/\s'.os=s₁.os/\AllBare s'.gens) s₁:=by
 have rv:=sH hi;have FS:=hi.length
 have core:∀H:Hp,DA H->bP K H a (ns.map V.int)->dm P w H s₁.heap->(∀b,H b≠none->b=a)->(H a≠none->K.lookup a=none) ->
   codeAny (model P w) callerA (.call (.ref fa) ⟨[.ref a],[]⟩) (fun r s' =>r=.ok (.ret (.bool true))/\OldK s₁.heap s'.heap/\s'.os=s₁.os/\AllBare s'.gens) s₁:=by
  intro H hO hS hok hA hK;have base_of:∀{b:Addr}{o:Obj},s₁.heap.get? b=some o->H b=none->(mU s₁.heap H).get? b=some o:=fun e n=>vy e n;have noA:∀{b:Addr}{o:Obj}{es:Array DictEntry}{ep:Nat},s₁.heap.get? b=some o->o.data=.dict es ep->H b=none:=fun{b o es ep} e d=>by
   cases q:H b with
   | none=>rfl
   | some u =>
    have e' :b=a:=hA b (by rw[q];simp);subst e';rw[ha]at e;cases e;have d' :Data.seq vs.toArray _=Data.dict es ep:=d;cases d'
  have nsK:∀{b:Addr}{m:Str->Option Value},s₁.heap.Ns b m->(mU s₁.heap H).Ns b m:=fun{b m} ⟨o,es,ep,e,d,r⟩=>⟨o,es,ep,base_of e (noA e d),d,r⟩
  have hKb:K.In (mU s₁.heap H):=fun b o e=>base_of (KX b o e) (by
   cases q:H b with
   | none=>rfl
   | some u =>
    have e' :b=a:=hA b (by rw[q];simp);subst e';rw[hK (by rw[q];simp)]at e;cases e)
  have hM:Mod K mg (mU s₁.heap H):=⟨hKb,nsK hns,⟨mb,nsK hb,hbb⟩,let⟨mc,h1,h2⟩:=hlim;⟨mc,nsK h1,h2⟩⟩;have e0:zJ P w K mg (mU s₁.heap H) callerA [] s₁ H:=⟨rfl,hM,fun b o e=>yF e,Nat.le_of_eq (tR _ _),trivial,fun b hb=>absurd (show b∈([]:List Addr)from hb) (by simp),hok,.of_eq hg⟩;refine codeAny_mono ((F _ hKb (nsK hns)).run callerA [] s₁ H ⟨[.ref a],[]⟩ [.ref a] [.ref a] _ _ hr e0 (hbind s₁ (.ref a)) (.cons rfl .nil) (hsp H hO hS)) fun r s' h=> ?_;cases r with
  | error e=>exact(hCX H e s' h).elim
  | ok fl =>
   cases fl with
   | next=>exact False.elim h
   | brk=>exact False.elim h
   | cont=>exact False.elim h
   | ret u =>
    obtain⟨v,H',os,bare,un,hok',r',q⟩:=h;have q' :v=.bl true:=q;subst q';obtain rfl:u=Value.bool true:=r';refine⟨rfl,OldK.of_keep fun b o e=> ?_,os,bare⟩;cases q:H b with
    | none=>exact un.keep b o e q (by intro z;exact absurd (show b∈([]:List Addr)from z) (by simp)) (by simp)
    | some u =>
     rcases hO b with z|⟨ob,xs,z⟩
     ·rw[q]at z;cases z
     ·have z2:=un.frzs b ob _ z
      obtain⟨e1,_⟩:=hok b _ z;obtain⟨e2,_⟩:=hok' b _ z2;rw[e]at e1;cases e1;exact e2
 cases hk:K.lookup a with
 | some o =>
  have e:=KX a o hk;rw[ha]at e;cases e;refine core (fun _=>none) (fun _=>.inl rfl) (.inr ⟨_,vs.toArray,_,hk,rfl,rfl,rfl,by rw[Gx,FS];exact hl,by simpa using rv⟩) (fun b u z=>by have z' :(none:Option HO)=some u:=z;cases z') (fun b z=>absurd rfl z) fun z=>absurd rfl z
 | none =>
  refine core (fun b=>if b=a then some (.frz {cls:=.type "list",data:=.seq vs.toArray} (.lst (ns.map V.int)))else none) (fun b=> ?_) (.inl (.inr ⟨{cls:=.type "list",data:=.seq vs.toArray},Gu rfl⟩)) (fun b u z=> ?_) (fun b z=> ?_) fun _=>hk
  ·by_cases hb:b=a
   ·exact .inr ⟨_,_,Gu hb⟩
   ·exact .inl (Gq hb)
  ·by_cases hb:b=a
   ·have z' :=(Gu hb).symm.trans z
    cases z';subst hb;exact⟨ha,by rw[Go];exact hl,vs,_,rv,ha⟩
   ·have z' :=(Gq hb).symm.trans z
    cases z'
  ·by_cases hb:b=a
   ·exact hb
   ·exact absurd (Gq hb) z
theorem xF{l:W.OpenLaw}{n k:Nat}{q:Program}{loose:List Str}{XP:(Str->Option Value)->Heap->Prop}{YP:World->Heap->Prop}{d:DefRec}{K:Params->W.Frag}{CX:World->oy}{sp:World->Sp}{x:Str}
  (hn:l.most=some n) (hn2:n<=sizeLine) (hdf:d.params.defaults=[]) (hr:eQ k callerA)
  (hY:∀(w:World)(h:Heap),YP w h->(K w.params).In h)
  (F:∀(w:World)(mg:Str->Option Value)(fa:Addr)(h:Heap),(K w.params).In h->h.Ns mainGlobals mg->mg d.name=some (.ref fa) ->
   ∃fd:FuncData,(∀(s:Shared)(u:Value),BindsTo s fd ⟨[u],[]⟩ [(x,u)]) /\
    ∀base:Heap,(K w.params).In base->base.Ns mainGlobals mg->bu l.prog w (K w.params) mg base (CX w) k fa fd [x] (sp w))
  (hsp:∀(w:World)(H:Hp)(a:Addr)(ns:List Int),ns.length<=n->DA H->bP (K w.params) H a (ns.map V.int)->sp w [.ref a] H (fun v _=>v=.bl true) fun _ _ _=>False)
  (hCX:∀(w:World)(H:Hp)(s:Shared)(e:Value)(s' :Shared),CX w [] H s (fun _ _ _=>False) e s' ->False) :
  W.WalkO q loose XP YP l.row.toRowW d [] (fun f vs=>PySem.call f vs):=by
 refine Att.oj hn hdf fun w s₀ s₁ mg mb fa o pm cd doc a vs ns G Y ho hd hcd hmg hobj hints hlen hg=> ?_;have KX:=hY w _ Y;obtain⟨fd,hb,hF⟩:=F w mg fa _ KX G.T.g hmg;exact vj KX G.T.g G.T.b G.T.builtins G.T.nolimit hg hobj hints (HP hlen hn2) hr hF hb (fun H hO hS=>hsp w H a ns hlen hO hS) fun H e s' =>hCX w H s₁ e s'
noncomputable def aW(s:Stmt):Arguments:=match s with
 | .FunctionDef _ a _ _ _ _ _ _ _ _=>a
 | _=>{posonlyargs:=[],args:=[],vararg:=none,kwonlyargs:=[],kw_defaults:=[],kwarg:=none,defaults:=[]}
noncomputable def aD(s:Stmt):List Stmt:=match s with
 | .FunctionDef _ _ b _ _ _ _ _ _ _=>b
 | _=>[]
noncomputable def aA(s:Stmt):Scope:=match s with
 | .FunctionDef _ _ _ _ _ _ sc _ _ _=>sc
 | _=>{kind:=.function,names:=[],isGenerator:=false,isCoroutine:=false}
noncomputable abbrev oz:oy:=fun _ _ _ _ _ _=>False
noncomputable abbrev E0:XK:=fun _ _ _=>False
theorem Ew{X:Cx}:jj oz X E0:=fun _ _ _ _ _ _ _ h=>h.elim
structure De(K:W.Frag)(x qual:Str)(st:Stmt)(f:Addr)(fd:FuncData):Prop where
 ex:∃(oc:Value)(od:Option Addr)(kV doc pm:Value)(an:Option Addr)(cdv ct:Value)(osl:Array (Option Value)),
  fd=W.fnOf x qual (aW st) (aD st) (aA st) .none kV doc pm an cdv ct/\K.lookup f=some ⟨oc,od,.func fd,osl⟩/\W.codeIn K cdv qual=true
 kp:W.keepIn K (.ref f)=true
section
variable{P:Program}{w:World}{K:W.Frag}{mg:Str->Option Value}{base:Heap}
theorem De.ok{x qual:Str}{st:Stmt}{f:Addr}{fd:FuncData}{N ps:List Str}{k:Nat}{sp:Sp}(F:De K x qual st f fd)(S:aX N ps (aA st))(len:∀vs H Q E,sp vs H Q E->vs.length=ps.length)
  (hbody:∀(cdv:Value)(A:Around)(outer:List Env)(s:Shared)(H:Hp)(vs:List V)(Q:VK)(E:XK),eQ k (A.deeper (envOfC qual (aA st) s.heap.objs.size f cdv))->sp vs H Q E ->
   ∃t,my (fw oz P w K mg base N qual (aA st) f cdv A outer s H E).nox (aD st) t/\t {nx:=fun _ H' =>Q .non H',rt:=Q} (start N vs) H):bu P w K mg base oz (k+1) f fd ps sp:=by
 obtain⟨oc,od,kV,doc,pm,an,cdv,ct,osl,rfl,lk,hcd⟩:=F.ex;refine zz lk hcd S len fun A outer s H vs Q E hr hsp=> ?_;obtain⟨t,h,q⟩:=hbody cdv A outer s H vs Q E hr hsp;exact⟨t,h.nox,q⟩
theorem De.binds{x qual:Str}{st:Stmt}{f:Addr}{fd:FuncData}{ps:List Str}(F:De K x qual st f fd)
  (h:∀(kV doc pm:Value)(an:Option Addr)(cdv ct:Value)(us:List Value),us.length=ps.length->bindArgs (W.fnOf x qual (aW st) (aD st) (aA st) .none kV doc pm an cdv ct) ⟨us,[]⟩=pure (ps.zip us)):Binds K fd ps []:=by
 obtain⟨oc,od,kV,doc,pm,an,cdv,ct,osl,rfl,lk,hcd⟩:=F.ex;exact .all (h kV doc pm an cdv ct)
theorem bA{x qual:Str}{st:Stmt}{f:Addr}{oc:Value}{od an:Option Addr}{osl:Array (Option Value)}{kV doc pm cdv ct:Value}(l:K.lookup f=some ⟨oc,od,.func (W.fnOf x qual (aW st) (aD st) (aA st) .none kV doc pm an cdv ct),osl⟩)
  (c:W.codeIn K cdv qual=true) (k:W.keepIn K (.ref f)=true):De K x qual st f (W.fnOf x qual (aW st) (aD st) (aA st) .none kV doc pm an cdv ct):=⟨⟨oc,od,kV,doc,pm,an,cdv,ct,osl,rfl,l,c⟩,k⟩
end
section
variable{X:Cx}
theorem pv(i:Nat){x:Str}{pos:Pos}(hN:X.N[i]? =some x:=by rfl)(hv:Db X.env.scope x:=by first|exact Or.inl rfl|exact Or.inr (Or.inl rfl)|exact Or.inr (Or.inr rfl))(hd:(x==("__debug__":Str))=false:=by decide)
  (hcd:(x==("__classdict__":Str))=false:=by decide):PE X (.Name x pos) (Dz i):=mJ hN hv hd hcd
end
theorem pi{A B:Prop}(h:B):if false=true then A else B:=by
 rw[Gq Gz];exact h
theorem pf{A B:Prop}(h:A):if true=true then A else B:=by
 rw[Gu rfl];exact h
noncomputable def aB(H H' :Hp):Prop:=∀b o,H b=some o->H' b=some o
theorem aB.refl(H:Hp):aB H H:=fun _ _ h=>h
theorem aB.trans{H H1 H2:Hp}(a:aB H H1)(b:aB H1 H2):aB H H2:=fun c o h=>b c o (a c o h)
theorem aB.free{H H' :Hp}(e:aB H H'){l:Addr}(h:H' l=Option.none):H l=Option.none:=by
 cases q:H l with
 | none=>rfl
 | some o =>
  rw[e l o q]at h;cases h
theorem aB.seq{K:W.Frag}{H H' :Hp}{a:Addr}{xs:List V}(e:aB H H')(h:bP K H a xs):bP K H' a xs:=by
 rcases h with(h|⟨o,h⟩)|h
 ·exact .inl (.inl (e _ _ h))
 ·exact .inl (.inr ⟨o,e _ _ h⟩)
 ·exact .inr h
end L2
set_option maxHeartbeats 4000000
namespace UM
open PySem PySem.Builtin PySem.Builtin.Str
theorem lq{x y:Str}(h:x.cps.toList=y.cps.toList):x=y:=PySem.Str.ext' (Array.toList_inj.mp h)
structure Gj(m:Nat)(rows:List Str):Prop where
 some:rows≠[]
 few:rows.length<=m
 wide:∃k,1<=k/\k<=m/\∀r∈rows,r.length=k
 signs:∀r∈rows,∀c∈r.cps.toList,c=120\/c=46
end UM
namespace L2
open PySem PySem.Spec PyProof.Rows
noncomputable def gB(env:Env):List (Str×NameKind)->List (Str×Addr)->List (Str×Addr)
 | [],acc=>acc
 | (n,k)::r,acc=>if(k==NameKind.free)=true then gB env r ((n,(env.cells.lookup n).getD 0)::acc)else gB env r acc
theorem gb{env:Env}{n:Str}{k:NameKind}{r:List (Str×NameKind)}{acc:List (Str×Addr)}(h:(k==NameKind.free)=true) :
  gB env ((n,k)::r) acc=gB env r ((n,(env.cells.lookup n).getD 0)::acc):=by
 show(if(k==NameKind.free)=true then _ else _)=_;rw[Gu h]
theorem fM{env:Env}{n:Str}{k:NameKind}{r:List (Str×NameKind)}{acc:List (Str×Addr)}(h:¬(k==NameKind.free)=true) :
  gB env ((n,k)::r) acc=gB env r acc:=by
 show(if(k==NameKind.free)=true then _ else _)=_;rw[Gq h]
theorem oZ{env:Env}{n:Str}{c:Addr}(h:env.cells.lookup n=some c):cellOf env n=pure c:=by
 unfold cellOf;rw[h]
theorem qD{scope:Scope}{env:Env}(h:∀x∈scope.names,x.2=.free->∃c,env.cells.lookup x.1=some c):closureFor scope env=pure (gB env scope.names []):=by
 unfold closureFor
 suffices q:∀(l:List (Str×NameKind))(acc:List (Str×Addr)),(∀x∈l,x.2=.free->∃c,env.cells.lookup x.1=some c) ->
   (forIn l acc (fun(x:Str×NameKind) (r:List (Str×Addr))=>if(x.2==NameKind.free)=true then(do let a<-cellOf env x.1;pure (ForInStep.yield ((x.1,a)::r)))else pure (ForInStep.yield r)):Sem (List (Str×Addr)))=pure (gB env l acc)by
  exact(Ia (fun m=>m >>= pure) (q scope.names [] h)).trans (by rfl)
 intro l
 induction l with
 | nil=>intro acc _;rfl
 | cons x l ih =>
  intro acc hl;obtain⟨n,k⟩:=x;rw[List.forIn_cons]
  by_cases hk:(k==NameKind.free)=true
  ·obtain⟨c,hc⟩:=hl (n,k) Gw (by simpa using hk)
   rw[gb hk];simp only[hk,JY];rw[oZ hc];have e:(env.cells.lookup n).getD 0=c:=by rw[show env.cells.lookup n=some c from hc];rfl
   rw[e];exact ih _ fun y hy=>hl y (Gs _ hy)
  ·rw[fM hk]
   simp only[hk,KG];exact ih _ fun y hy=>hl y (Gs _ hy)
theorem cV{env:Env}:∀{l:List (Str×NameKind)}{acc:List (Str×Addr)}{x:Str}{c:Addr},(∀y∈l,y.2=.free->∃c,env.cells.lookup y.1=some c) ->
  (gB env l acc).lookup x=some c->acc.lookup x=some c\/env.cells.lookup x=some c
 | [],acc,x,c,_,h=>.inl h
 | (n,k)::l,acc,x,c,hl,h=>by
  have hl' :∀y∈l,y.2=.free->∃c,env.cells.lookup y.1=some c:=fun y hy=>hl y (Gs _ hy)
  by_cases hk:(k==NameKind.free)=true
  ·rw[gb hk]at h
   rcases cV hl' h with q|q
   ·rw[Hl]at q
    cases hx:(x==n)with
    | true =>
     rw[hx]at q;have hxn:x=n:=by simpa using hx
     subst hxn;obtain⟨c',hc'⟩:=hl (x,k) Gw (by simpa using hk);have hc2:env.cells.lookup x=some c' :=hc';rw[hc2]at q
     right
     rw[hc2]
     simpa using q
    | false =>
     rw[hx]at q;exact .inl q
   ·exact .inr q
  ·rw[fM hk]at h
   exact cV hl' h
theorem gA{env:Env}:∀{l:List (Str×NameKind)}{acc:List (Str×Addr)}{x:Str},((x,NameKind.free)∈l\/∃c,acc.lookup x=some c)->∃c,(gB env l acc).lookup x=some c
 | [],acc,x,h=>by
  rcases h with h|h
  ·cases h
  ·exact h
 | (n,k)::l,acc,x,h=>by
  by_cases hk:(k==NameKind.free)=true
  ·rw[gb hk]
   refine gA ?_
   rcases h with h|⟨c,h⟩
   ·rcases HE.mp h with e|e
    ·right
     injection e with e1 e2
     subst e1;exact⟨(env.cells.lookup x).getD 0,by rw[Hl];simp⟩
    ·exact .inl e
   ·right
    rw[Hl];cases hx:(x==n)with
    | true=>exact⟨_,rfl⟩
    | false=>exact⟨c,h⟩
  ·rw[fM hk]
   refine gA ?_
   rcases h with h|h
   ·rcases HE.mp h with e|e
    ·injection e with e1 e2
     subst e2;exact absurd rfl hk
    ·exact .inl e
   ·exact .inr h
section
variable{prog:Program}{w:World}{A:Around}{R:Result->Shared->Prop}{s:Shared}
theorem ma{elt target iter:Expr}{ifs:List Expr}{scope:Scope}{pos:Pos}{it acc:Value}{env:Env}(I:Nat->Shared->Prop)
  (turn:∀n s,I n s->wpAny (model prog w) A (pyNext it) (fun r s₁=>match r with
   | none=>R (.ok .next) s₁
   | some v=>wpAny (model prog w) A (letOwnedTupleGo target it v) (fun _ s₁' =>wpAny (model prog w) A (assign target env v) (fun _ s₂ =>
     wpAny (model prog w) A (forIn ifs true fun c r=>if r=true then do let ok<-isTrue c env (eval c env);pure (ForInStep.yield ok)else pure (ForInStep.yield r)) (fun ok s₃ =>
      if ok=true then wpAny (model prog w) A (eval elt env) (fun x s₄ =>
       wpAny (model prog w) A (call (.builtin "list.append") [acc,x]) (fun _ s₅=>∃m,m<n/\I m s₅) (notedBy (model prog w) A env fun e s' =>R (.error e) s') s₄) (notedBy (model prog w) A env fun e s' =>R (.error e) s') s₃
      else∃m,m<n/\I m s₃) (notedBy (model prog w) A env fun e s' =>R (.error e) s') s₂) (notedBy (model prog w) A env fun e s' =>R (.error e) s') s₁')
       (notedBy (model prog w) A env fun e s' =>R (.error e) s') s₁) (notedBy (model prog w) A env fun e s' =>R (.error e) s') s)
  (n:Nat) (h:I n s) :
  codeAny (model prog w) A (.compLoop (.ListComp elt [⟨target,iter,ifs,0⟩] scope pos) 0 it acc env) R s:=by
 refine codeAny_loop rfl I (fun n s hI=> ?_) n h;show wpAny _ A ((compTurn (.ListComp elt [⟨target,iter,ifs,0⟩] scope pos) 0 it acc env).onRaise (fun x=>do noteFrame x env;theTreesLotGoes x)) _ _ s;refine wpAny_noted ?_;rw[compTurn_list];refine Gn (wpAny_standAt (Gn (Ig (turn n s hI) (fun r s₁ h₁=> ?_) fun _ _ h' =>h')));cases r with
 | none=>exact G7 h₁
 | some v =>
  refine Gn (Ig h₁ (fun _ s₁' h₁' => ?_) fun _ _ h' =>h');refine Gn (Ig h₁' (fun _ s₂ h₂=>Gn (Ig h₂ (fun ok s₃ h₃=> ?_) fun _ _ h' =>h')) fun _ _ h' =>h');cases ok with
  | false=>exact G7 ⟨rfl,h₃⟩
  | true =>
   exact Gn (Gn (Ig h₃ (fun x s₄ h₄=>Gn (Ig h₄ (fun _ s₅ h₅=>G7 (G7 ⟨rfl,h₅⟩)) fun _ _ h' =>h')) fun _ _ h' =>h'))
end
noncomputable abbrev bF(X:Cx)(N' :List Str)(scope:Scope)(C:Addr)(s2:Shared)(H2:Hp)(fp:List Addr)(cl:List (Str×Addr)):Cx where
 prog:=X.prog
 w:=X.w
 K:=X.K
 mg:=X.mg
 base:=X.base
 A:=X.A
 N:=N'
 s₀:=s2
 H₀:=H2
 env:=compEnvC scope cl C X.env
 outer:=X.stack
 stack:=X.stack
 ex:=fp
 fn:=fun x=>scope.names.lookup x==some .cell
 calm:=X.calm
 pn:=[]
 xe:=fun _ _=>False
noncomputable def bR(X:Cx)(scope:Scope):List Str->List (Option Nat)->Prop
 | [],[]=>True
 | _::ns,none::r=>bR X scope ns r
 | x::ns,some i::r=>(X.N[i]? =some x/\scope.names.lookup x=some .free/\(X.env.scope.names.lookup x=some .cell\/X.env.scope.names.lookup x=some .free))/\bR X scope ns r
 | _,_=>False
noncomputable def bO(src:List (Option Nat))(σ:St):St:=src.map fun o=>match o with
 | none=>none
 | some i=>(σ[i]?).join
theorem bR.len{X:Cx}{scope:Scope}:∀{N' :List Str}{src:List (Option Nat)},bR X scope N' src->src.length=N'.length
 | [],[],_=>rfl
 | _::_,none::_,h=>Ia (·+1) (bR.len (show bR X scope _ _ from h))
 | _::_,some _::_,h=>Ia (·+1) (bR.len h.2)
 | [],_::_,h=>by cases h
 | _::_,[],h=>by cases h
theorem bR.at{X:Cx}{scope:Scope}{σ:St}:∀{N' :List Str}{src:List (Option Nat)}{j:Nat}{x:Str}{v:V},bR X scope N' src->N'[j]? =some x->(bO src σ)[j]? =some (some v) ->
  ∃i:Nat,X.N[i]? =some x/\σ[i]? =some (some v)/\scope.names.lookup x=some .free/\(X.env.scope.names.lookup x=some .cell\/X.env.scope.names.lookup x=some .free)
 | [],[],j,x,v,_,h,_=>by simp at h
 | y::ns,none::r,0,x,v,_,_,h=>by simp[bO]at h
 | y::ns,none::r,j+1,x,v,s,h,h' =>bR.at (N' :=ns) (src:=r) (j:=j) s (by simpa using h) (by simpa [bO]using h')
 | y::ns,some i::r,0,x,v,s,h,h' =>by
  have e:y=x:=by simpa using h
  subst e;have q:(σ[i]?).join=some v:=by simpa [bO]using h'
  refine⟨i,s.1.1,?_,s.1.2.1,s.1.2.2⟩;cases z:σ[i]? with
  | none=>rw[z]at q;cases q
  | some o=>rw[z]at q;exact Ia some q
 | y::ns,some i::r,j+1,x,v,s,h,h' =>bR.at (N' :=ns) (src:=r) (j:=j) s.2 (by simpa using h) (by simpa [bO]using h')
 | [],_::_,_,_,_,s,_,_=>by cases s
 | _::_,[],_,_,_,s,_,_=>by cases s
noncomputable def t5(X:Cx)(ifs:List Expr)(t:TT):Prop :=
 ∀(pins:List (Addr×Obj))(s:Shared)(σ:St)(H:Hp)(Q:Bool->Hp->Prop),Inv X pins σ H s->t σ H Q ->
  wpAny (model X.prog X.w) X.A (forIn ifs true fun c r=>if r=true then do let ok<-isTrue c X.env (eval c X.env);pure (ForInStep.yield ok)else pure (ForInStep.yield r)) (TP X pins σ Q) X.xe s
noncomputable def EB:TT:=fun _ H Q=>Q true H
theorem nO{X:Cx}:t5 X [] EB:=fun _ _ _ H _ I h=>wpAny_tests_nil ⟨H,I,h⟩
theorem nN{X:Cx}{c:Expr}{t:TT}(h:PT X c t):t5 X [c] t:=fun pins s σ H Q I hw=>wpAny_tests_one (h pins s σ H Q I hw)
noncomputable def DP(X:Cx)(N' :List Str)(src:List (Option Nat))(scope:Scope)(target:Expr)(ifs:List Expr)(elt:Expr)(D:Addr)(σ:St)(x:V)(ys:List V)(H' :Hp)(N:List V->Hp->Prop):Prop :=
 ∀(C:Addr)(s2:Shared)(H2:Hp)(fp:List Addr)(cl:List (Str×Addr)),∃(g:TG)(tt:TT)(te:TE),PG (bF X N' scope C s2 H2 fp cl) target g/\t5 (bF X N' scope C s2 H2 fp cl) ifs tt/\PE (bF X N' scope C s2 H2 fp cl) elt te /\
  g x (bO src σ) H' fun σ2 H3=>(σ2.length=N'.length/\∀(j:Nat)(v:V),(bO src σ)[j]? =some (some v)->σ2[j]? =some (some v)) /\
   tt σ2 H3 fun b H4=>if b=true then te σ2 H4 fun v H5=>H5 D=some (.lst ys)/\ys.length<sizeLine/\N (ys++[v]) (upd H5 D (.lst (ys++[v])))else N ys H4
noncomputable def Ah(X:Cx)(N' :List Str)(src:List (Option Nat))(scope:Scope)(target:Expr)(ifs:List Expr)(elt:Expr)(wi:TI):TE:=fun σ H Q=>wi σ H fun J H1=>∀D,H1 D=none ->
 ∃W:Nat->Nat->List V->Hp->Prop,(∃m,W 0 m [] (upd H1 D (.lst [])))/\∀i m ys H,W i m ys H ->
  (J.stop i H/\Q (.ref D) H)\/(J.go i H/\∀x H',J.yld i H x H' ->DP X N' src scope target ifs elt D σ x ys H' fun ys' H'' =>∃m',m' <m/\W (i+1) m' ys' H'')
section
variable{X:Cx}{pins:List (Addr×Obj)}{σ:St}{H:Hp}{s:Shared}
structure t7(X:Cx)(scope:Scope)(C:Addr)(cl:List (Str×Addr)):Prop where
 ex:∃own,cl=own++gB X.env scope.names []/\(∀n c,(n,c)∈own->C<c/\scope.names.lookup n=some .cell)/\(∀x,(x,NameKind.cell)∈scope.names->∃c,own.lookup x=some c)/\own.Pairwise fun x y=>x.2≠y.2
theorem t7.sub{scope:Scope}{C:Addr}{cl:List (Str×Addr)}(k:t7 X scope C cl)(hfree:∀y∈scope.names,y.2=.free->∃c,X.env.cells.lookup y.1=some c){x:Str}{c:Addr}(e:cl.lookup x=some c) :
  (C<c/\scope.names.lookup x=some .cell)\/(scope.names.lookup x≠some .cell\/True)/\X.env.cells.lookup x=some c:=by
 obtain⟨own,rfl,h1,h2,h3⟩:=k.ex;rw[JF]at e;cases z:own.lookup x with
 | some c' =>
  rw[z]at e;cases e;exact .inl (h1 x c (Hc z))
 | none =>
  rw[z]at e
  rcases cV hfree e with q|q
  ·cases q
  ·exact .inr ⟨.inr trivial,q⟩
theorem yo{N' :List Str}{scope:Scope}{C:Addr}{fp:List Addr}{cl:List (Str×Addr)}(I:Inv X pins σ H s)(hkind:scope.kind=.function)(k:t7 X scope C cl)
  (hfree:∀y∈scope.names,y.2=.free->∃c,X.env.cells.lookup y.1=some c) (hC:s.heap.objs.size<=C) (hf:∀b∈fp,gp X pins H b) (hlt:∀b∈fp,b<s.heap.objs.size):(bF X N' scope C s H fp cl).Ok:=by
 have old:∀x c,X.env.cells.lookup x=some c->c<s.heap.objs.size:=fun x c e=>let⟨_,q⟩:=I.cell x c e;q.lt
 obtain⟨own,hcl,h1,h2,h3⟩:=k.ex;have look:∀x c,cl.lookup x=some c->(x,c)∈own\/X.env.cells.lookup x=some c:=fun x c e=>by
  rw[hcl,JF]at e;cases z:own.lookup x with
  | some c' =>rw[z]at e;cases e;exact .inl (Hc z)
  | none =>
   rw[z]at e
   rcases cV hfree e with q|q
   ·cases q
   ·exact .inr q
 refine⟨I.ok.mod,hkind,I.ok.glob,I.ok.blt,hC,fun x y c e1 e2=> ?_,fun x hx=> ?_,fun x c h e=> ?_,I.ok.hd,I.ok.frames,.inl rfl,fun b hb=>⟨?_,fun x c e=> ?_⟩,
  I.bs,HP I.ok.bsz I.sz,fun b o e hb=> ?_,fun b hb hs=> ?_,I.stack,I.stkFree⟩
 ·rcases look x c e1 with q1|q1<;>rcases look y c e2 with q2|q2
  ·exact PySem.name_of_addr h3 q1 q2
  ·exact absurd (Jo (old y c q2) (Nat.lt_of_le_of_lt hC (h1 x c q1).1)) (JB _)
  ·exact absurd (Jo (old x c q1) (Nat.lt_of_le_of_lt hC (h1 y c q2).1)) (JB _)
  ·exact I.ok.inj x y c q1 q2
 ·-- a name of the block's that is no local of it is one that it closes over,or has a cell of its own
  have hx' :(relabel scope X.env).names.lookup x=some .cell\/(relabel scope X.env).names.lookup x=some .free:=hx;have go:∀k,(k=NameKind.cell\/k=NameKind.free)->(relabel scope X.env).names.lookup x=some k->(x,NameKind.free)∈scope.names\/(x,NameKind.cell)∈scope.names:=fun k hk e=>by
   have m:=Hc e;obtain⟨⟨n,k'⟩,hm,e'⟩:=HY.mp m
   by_cases hfr:k' =NameKind.free
   ·subst hfr
    have e'' :(if(NameKind.free==NameKind.free&&X.env.scope.kind== .function&&X.env.kindOf n==some .cell)=true then(n,NameKind.cell)else(n,NameKind.free))=(x,k):=e';have hn:n=x:=by split at e'' <;>exact(Prod.mk.inj e'').1
    rw[<- hn];exact .inl hm
   ·have e'' :(if(k' ==NameKind.free&&X.env.scope.kind== .function&&X.env.kindOf n==some .cell)=true then(n,NameKind.cell)else(n,k'))=(x,k):=e'
    have hkf:(k' ==NameKind.free)=false:=by simpa using hfr
    rw[hkf,KQ,KQ,Gq Gz]at e'';obtain⟨g1,g2⟩:=Prod.mk.inj e'';subst g1 g2
    rcases hk with rfl|rfl
    ·exact .inr hm
    ·exact .inl hm
  have fin:(x,NameKind.free)∈scope.names\/(x,NameKind.cell)∈scope.names->∃c,cl.lookup x=some c:=by
   intro z;rw[hcl]
   rcases z with z|z
   ·obtain⟨c,hc⟩:=gA (env:=X.env) (l:=scope.names) (acc:=[]) (x:=x) (.inl z)
    rw[JF];cases own.lookup x with
    | some c' =>exact⟨c',rfl⟩
    | none=>exact⟨c,hc⟩
   ·obtain⟨c,hc⟩:=h2 x z
    exact⟨c,by rw[JF,hc];rfl⟩
  rcases hx' with e|e
  ·exact fin (go _ (.inl rfl) e)
  ·exact fin (go _ (.inr rfl) e)
 ·have h:scope.names.lookup x=some .cell:=by simpa using h
  obtain⟨c',hc'⟩:=h2 x (Hc h);have e:cl.lookup x=some c:=e;rw[hcl,JF,hc']at e;cases e;exact HP hC (Jp (h1 x c (Hc hc')).1)
 ·exact fun e=>absurd (hlt b hb) (by show¬b<_;rw[e];exact Nat.not_lt.mpr hC)
 ·rcases look x c e with q|q
  ·exact fun z=>absurd (Jo (hlt b hb) (Nat.lt_of_le_of_lt hC (h1 x c q).1)) (by rw[z];exact JB _)
  ·exact(hf b hb).2.2.2.2.1 x c q
 ·rcases(hf b hb).2.2.2.1 with q|q
  ·exact I.ok.noex b o e q
  ·exact absurd (G8 e) (Nat.not_lt.mpr (HP I.ok.bsz q))
 ·rcases HE.mp (I.stkSub b hs)with q|q
  ·exact(hf b hb).2.1 q
  ·exact(hf b hb).2.2.1 q
theorem bq:∀(names:List (Str×NameKind))(n:Nat)(a b:List (Str×Addr)),cellsFrom n names (a++b)=cellsFrom n names a++b
 | [],_,_,_=>rfl
 | (x,k)::r,n,a,b=>by
  unfold cellsFrom
  split
  ·exact bq r (n+1) ((x,n)::a) b
  ·exact bq r n a b
theorem cL:∀(names:List (Str×NameKind))(n:Nat)(acc:List (Str×Addr))(x:Str)(c:Addr),(x,c)∈cellsFrom n names acc->(x,c)∈acc\/(x,NameKind.cell)∈names
 | [],_,_,_,_,h=>.inl h
 | (y,k)::r,n,acc,x,c,h=>by
  unfold cellsFrom at h
  split at h
  ·rename_i hk
   have hk:k=.cell:=by simpa using hk
   rcases cL r (n+1) ((y,n)::acc) x c h with q|q
   ·rcases HE.mp q with e|e
    ·cases e
     rw[hk];exact .inr Gw
    ·exact .inl e
   ·exact .inr (Gs _ q)
  ·rcases cL r n acc x c h with q|q
   ·exact .inl q
   ·exact .inr (Gs _ q)
theorem yu{scope:Scope}{C:Addr}(hcn:∀y∈scope.names,y.2=.cell->scope.names.lookup y.1=some .cell)(h:Heap)(hC:h.objs.size=C+1):t7 X scope C (cellsFrom (C+1) scope.names (gB X.env scope.names [])):=by
 have ok:=cellsFrom_ok scope.names h (C+1) [] ⟨fun _ _ hm=>(nomatch hm),List.Pairwise.nil⟩ (by rw[hC];exact Gr _);rw[hC]at ok;refine⟨cellsFrom (C+1) scope.names [],by rw[<- bq];rfl,fun n c hm=>⟨(ok.empty n c hm).2,?_⟩,fun x hx=> ?_,ok.apart⟩
 ·rcases cL _ _ _ _ _ hm with q|q
  ·cases q
  ·exact hcn _ q rfl
 ·have:=W.cellsFrom_some (x:=x) scope.names (C+1) [] (.inl (hcn _ hx rfl))
  exact JQ.mp this
theorem wG{M:Model}{A:Around}{E:Value->Shared->Prop}{s:Shared}{scope:Scope}{globals:Addr}{cl:List (Str×Addr)}{qual:Str}{env:Env}{Q:Env->Shared->Prop}
  (h:Q {scope:=scope,locals:=s.heap.objs.size,globals:=globals,cells:=cellsFrom (s.heap.objs.size+1) scope.names cl,qual:=qual,func:=none,code:=env.code,frame:=env.frame,builtins:=env.builtins} {s with heap:=pushCells (s.heap.push {cls:=.type "dict",data:=.dict #[]}) scope.names}) :
  wpAny M A (newFunctionEnv scope globals cl [] qual none .none (some env)) Q E s:=by
 simp only[newFunctionEnv,Option.isSome_some,JY];refine Gn (wpAny_alloc ?_);refine Gn (wpAny_layCells _ (fun name kind cells=>by cases hkc:kind==NameKind.cell<;>simp[hkc]) _ _ _ _ ?_);rw[show({s with heap:=s.heap.push {cls:=.type "dict",data:=.dict #[]}}:Shared).heap.objs.size=s.heap.objs.size+1 from Heap.size_push ..];rw[List.forIn_nil];exact Gn (G7 (G7 h))
end
theorem fc{env:Env}:∀{names:List (Str×NameKind)}{x:Str},names.lookup x=some .free ->
  (names.map fun(n,k)=>if(k==NameKind.free&&env.scope.kind== .function&&env.kindOf n==some .cell)then(n,NameKind.cell)else(n,k)).lookup x=some .cell \/
  (names.map fun(n,k)=>if(k==NameKind.free&&env.scope.kind== .function&&env.kindOf n==some .cell)then(n,NameKind.cell)else(n,k)).lookup x=some .free
 | [],_,h=>by simp at h
 | (n,k)::r,x,h=>by
  have ih:= @fc env r x;show List.lookup x ((if(k==NameKind.free&&env.scope.kind== .function&&env.kindOf n==some .cell)=true then(n,NameKind.cell)else(n,k))::_)=_\/List.lookup x ((if(k==NameKind.free&&env.scope.kind== .function&&env.kindOf n==some .cell)=true then(n,NameKind.cell)else(n,k))::_)=_;cases hx:x==n with
  | true =>
   simp only[Hl,hx]at h;cases h
   by_cases hc:(NameKind.free==NameKind.free&&env.scope.kind== .function&&env.kindOf n==some .cell)=true
   ·left;rw[Gu hc];simp only[Hl,hx]
   ·right;rw[Gq hc];simp only[Hl,hx]
  | false =>
   simp only[Hl,hx]at h
   by_cases hc:(k==NameKind.free&&env.scope.kind== .function&&env.kindOf n==some .cell)=true
   ·rw[Gu hc];simp only[Hl,hx];exact ih h
   ·rw[Gq hc];simp only[Hl,hx];exact ih h
section
variable{X:Cx}{pins:List (Addr×Obj)}{σ:St}{H:Hp}{s:Shared}
theorem p4{N' :List Str}{src:List (Option Nat)}{scope:Scope}{D C:Addr}{fp:List Addr}{cl:List (Str×Addr)}{h₁:Heap}{m:Str->Option Value}{tk:Nat}(I:Inv X pins σ H s)(hkind:scope.kind=.function)(k:t7 X scope C cl)
  (hfree:∀y∈scope.names,y.2=.free->∃c,X.env.cells.lookup y.1=some c) (hsrc:bR X scope N' src) (hf:∀b∈fp,gp X pins H b) (hlt:∀b∈fp,b<s.heap.objs.size)
  (hD:D=s.heap.objs.size) (hC:s.heap.objs.size<C) (hns:h₁.Ns C m) (old:∀b o,s.heap.get? b=some o->h₁.get? b=some o) (hacc:h₁.get? D=some {cls:=.type "list",data:=.seq #[]})
  (hce:∀x c,cl.lookup x=some c->C<c->∃v,h₁.IsCell c v) :
  Inv (bF X N' scope C s H fp cl) [] (bO src σ) (upd H D (.lst [])) {s with heap:=h₁,toks:=tk}:=by
 have hn:H D=none:=by rw[hD];exact I.hok.fresh (Gr _)
 have ok:=yo (N' :=N') I hkind k hfree (Jp hC) hf hlt;have hDC:D≠C:=by rw[hD];exact HV hC
 refine⟨ok,rfl,I.bare,Un.laid old (by rw[hD];exact Gr _) hn,⟨m,hns,fun j x v h1 h2 h3=> ?_⟩,fun x c e=> ?_,?_,fun x c e=> ?_,fun p hp=>(by cases hp),I.hok.laid old (by rw[hD];exact Gr _) ?_,?_⟩
 ·obtain⟨i,e1,e2,e3,e4⟩:=hsrc.at h1 h2
  obtain⟨m0,_,hl⟩:=I.loc;obtain⟨u,r,l⟩:=hl i x v e1 e2 (.inr e4);refine⟨u,r,?_⟩;obtain⟨own,hcl,o1,o2,o3⟩:=k.ex;have hown:own.lookup x=none:=by
   cases z:own.lookup x with
   | none=>rfl
   | some c =>
    have:=(o1 x c (Hc z)).2;rw[e3]at this;cases this
  obtain⟨c',hc'⟩:=gA (env:=X.env) (l:=scope.names) (acc:=[]) (x:=x) (.inl (Hc e3));have hcX:X.env.cells.lookup x=some c' :=by
   rcases cV hfree hc' with q|q
   ·cases q
   ·exact q
  have hcl' :cl.lookup x=some c' :=by rw[hcl,JF,hown];exact hc'
  rcases l with⟨hk,_⟩|⟨hk,c,hc,hcl2⟩
  ·have hk' :X.env.scope.names.lookup x=some .local:=hk
   rcases e4 with e4|e4
   ·rw[hk']at e4;cases e4
   ·rw[hk']at e4;cases e4
  ·have ec:c' =c:=HM (hcX.symm.trans hc)
   subst ec
   right
   exact⟨fc e3,c',hcl',hcl2.keeps old⟩
 ·rcases k.sub hfree (show cl.lookup x=some c from e)with q|q
  ·exact hce x c e q.1
  ·obtain⟨v,z⟩:=I.cell x c q.2
   exact⟨v,z.keeps old⟩
 ·show upd H D (.lst []) C=none
  rw[aR (Jf hDC)];exact I.hok.fresh (Jp hC)
 ·show upd H D (.lst []) c=none
  rcases k.sub hfree (show cl.lookup x=some c from e)with q|q
  ·have:s.heap.objs.size<c:=Jo hC q.1
   rw[aR (by rw[hD];exact J0 this)];exact I.hok.fresh (Jp this)
  ·obtain⟨v,z⟩:=I.cell x c q.2
   rw[aR (by rw[hD];exact HV z.lt)];exact I.freeC x c q.2
 ·exact⟨Hu _,[],0,.nil,hacc⟩
 ·show(src.map _).length=N'.length
  rw[Go];exact hsrc.len
theorem dm.but{P:Program}{w:World}{H:Hp}{h h' :Heap}(x:dm P w H h)(k:∀b u,H b≠none->h.get? b=some u->h'.get? b=some u):dm P w H h' :=fun a o e =>
 (x a o e).stay (fun b u hb q=>k b u (by rcases hb with rfl|hb;(rw[e];simp);(rw[hb];simp)) q) (fun _ q=>q) fun _ _ q=>q
noncomputable def eH(sc scope:Scope):Bool:=scope.names.all fun y=> !(y.2==NameKind.free)||(sc.names.lookup y.1==some .cell||sc.names.lookup y.1==some .free)
theorem v5{sc scope:Scope}(h:eH sc scope=true):∀y∈scope.names,y.2=.free->(sc.names.lookup y.1=some .cell\/sc.names.lookup y.1=some .free):=fun y hy hf=>by
 have z:=HK.mp h y hy;rw[hf]at z
 simpa using z
theorem rJ{use:Option (Value->Sem Unit)}{P:Value->Shared->Prop}{Q:VK}{elt target iter:Expr}{ifs:List Expr}{scope:Scope}{pos:Pos}{N' :List Str}{src:List (Option Nat)}{wi:TI}(hc:X.calm=true)(hi:PI X target iter wi)(hsrc:bR X scope N' src)
  (hkind:scope.kind=.function) (hcell:∀y∈scope.names,y.2=.cell->scope.names.lookup y.1=some .cell) (hnames:∀y∈scope.names,y.2=.local->scope.names.lookup y.1=some .local)
  (hfr:eH X.env.scope scope=true)
  (hs:∀x,foldedSetIterable iter X.env x=pure x) (I:Inv X pins σ H s) (h:Ah X N' src scope target ifs elt wi σ H Q)
  (fin:∀(C a:Addr)(s2 s4:Shared)(H2 H3:Hp)(fp:List Addr)(cl:List (Str×Addr))(m:Str->Option Value),Inv X pins σ H2 s2->(∀b∈fp,gp X pins H2 b)->(∀b,b<s2.heap.objs.size->b≠C)->s2.heap.objs.size<=C->Inv (bF X N' scope C s2 H2 fp cl) [] (bO src σ) H3 s4->s4.heap.Ns C m->Q (.ref a) H3->∀v,compPost (model X.prog X.w) X.A X.xe use P (.ref a) C (.ok v) s4) :
  wpAny (model X.prog X.w) X.A (comprehension (.ListComp elt [⟨target,iter,ifs,0⟩] scope pos) scope X.env (firstIterPos [⟨target,iter,ifs,0⟩] pos) (newList []) (firstAsync [⟨target,iter,ifs,0⟩]) (firstIter [⟨target,iter,ifs,0⟩] X.env) use) P X.xe s:=by
 have hfree:∀y∈scope.names,y.2=.free->∃c,X.env.cells.lookup y.1=some c:=fun y hy hf=>I.ok.has y.1 (v5 hfr y hy hf);refine wpAny_comprehension_free (use:=use) rfl hs (qD hfree) hkind hnames ?_;refine bJ (hi pins s σ H _ I h) fun xv s1 h1=>bJ h1 fun itv s2 h2=> ?_;obtain⟨it,fp,tn,J,H2,e,I2,T,st2,f2,q⟩:=h2;subst e;have hlt:∀b∈fp,b<s2.heap.objs.size:=fun b hb=>by
  obtain⟨o,e,_⟩:=T.obj _ _ st2 b hb;exact G8 e
 refine IL (wG ?_);dsimp only
 generalize hH2:s2.heap.push {cls:=.type "list",dict:=none,data:=.seq ([]:List Value).toArray}=G2
 have hC:G2.objs.size=s2.heap.objs.size+1:=by rw[<- hH2,Heap.size_push]
 have hCle:s2.heap.objs.size<=G2.objs.size:=by rw[hC];exact Nat.le_succ _
 have hClt:s2.heap.objs.size<G2.objs.size:=by rw[hC];exact Nat.lt_succ_self _
 have below:∀b,b<s2.heap.objs.size->b≠G2.objs.size:=fun b hb=>by rw[hC];exact HV (Jg hb)
 obtain⟨cl,hcl0⟩:∃cl,cl=cellsFrom (G2.objs.size+1) scope.names (gB X.env scope.names []):=⟨_,rfl⟩;obtain⟨h₁,hh₁⟩:∃h₁,h₁=pushCells (G2.push {cls:=.type "dict",data:=.dict #[]}) scope.names:=⟨_,rfl⟩;rw[<- hcl0,<-hh₁];have hfr2:(G2.push {cls:=.type "dict",data:=.dict #[]}).objs.size=G2.objs.size+1:=Heap.size_push ..;have kcl:t7 X scope G2.objs.size cl:=by rw[hcl0];exact yu hcell _ hfr2
 have hns₁:h₁.Ns G2.objs.size (fun _=>none):=by rw[hh₁];exact(Heap.Ns.new G2 (.type "dict")).keeps (pushCells_keeps _ _)
 have old:∀b o,s2.heap.get? b=some o->h₁.get? b=some o:=fun b o e=>by rw[hh₁];exact pushCells_keeps _ _ b o (Gp _ (hH2▸Gp _ e))
 have hacc:h₁.get? s2.heap.objs.size=some {cls:=.type "list",data:=.seq #[]}:=by rw[hh₁];exact pushCells_keeps _ _ _ _ (Gp _ (hH2▸HH _ rfl))
 have hce:∀x c,cl.lookup x=some c->G2.objs.size<c->∃v,h₁.IsCell c v:=fun x c e hlt' =>by
  have okc:=cellsFrom_ok scope.names (G2.push {cls:=.type "dict",data:=.dict #[]}) (G2.objs.size+1) [] ⟨fun _ _ hm=>(nomatch hm),List.Pairwise.nil⟩ (by rw[hfr2];exact Gr _);rw[hfr2]at okc;have e1:cl=cellsFrom (G2.objs.size+1) scope.names []++gB X.env scope.names []:=by rw[hcl0,<-bq];rfl
  rw[e1,JF]at e;cases z:(cellsFrom (G2.objs.size+1) scope.names []).lookup x with
  | some c' =>
   rw[z]at e;cases e;exact⟨none,by rw[hh₁];exact(okc.empty x c (Hc z)).1⟩
  | none =>
   rw[z]at e
   rcases cV hfree e with q|q
   ·cases q
   ·obtain⟨v,zc⟩:=I2.cell x c q
    exact absurd (Jo zc.lt hClt) (Nat.not_lt.mpr (Jp hlt'))
 have hDn:H2 s2.heap.objs.size=none:=I2.hok.fresh (Gr _);obtain⟨W,⟨m0,w0⟩,turn⟩:=q s2.heap.objs.size hDn;have st1:tn 0 h₁:=T.keep _ _ _ st2 fun b hb o e=>old b o e;have hsub:∀b∈fp,b∉ou X.stack:=fun b hb hz=>by
  rcases HE.mp (I2.stkSub b hz)with z|z
  ·exact(f2 b hb).2.1 z
  ·exact(f2 b hb).2.2.1 z
 have hcl:∀x c,cl.lookup x=some c->G2.objs.size<c\/X.env.cells.lookup x=some c:=fun x c e=>by
  rcases kcl.sub hfree e with q|q
  ·exact .inl q.1
  ·exact .inr q.2
 have stat:∀{H' :Hp},(∀b∈fp,H' b=none)->∀b∈fp,gp (bF X N' scope G2.objs.size s2 H2 fp cl) [] H' b:=fun hn b hb =>
  ⟨hn b hb,below b (hlt b hb),hsub b hb,.inl hb,fun x c e=>(by rcases hcl x c e with q|q;(exact fun z=>absurd (Jo (hlt b hb) (Jo hClt q)) (by rw[z];exact JB _));exact(f2 b hb).2.2.2.2.1 x c q),fun p hp=>by cases hp⟩
 have loop:∀s3:Shared,s3={s2 with heap:=h₁} ->
   codeAny (model X.prog X.w) X.A (.compLoop (.ListComp elt [⟨target,iter,ifs,0⟩] scope pos) 0 (.ref it) (.ref s2.heap.objs.size) (compEnvC scope cl G2.objs.size X.env))
    (compPost (model X.prog X.w) X.A X.xe use P (.ref s2.heap.objs.size) G2.objs.size) s3:=by
  rintro s3 rfl
  refine ma (fun n s' =>∃i ys H',Inv (bF X N' scope G2.objs.size s2 H2 fp cl) [] (bO src σ) H' s' /\tn i s'.heap/\(∀b∈fp,H' b=none)/\W i n ys H') ?_ m0
   ⟨0,[],_,p4 I2 hkind kcl hfree hsrc f2 hlt rfl hClt hns₁ old hacc hce,st1,fun b hb=>by rw[aR (HV (hlt b hb))];exact(f2 b hb).1,w0⟩
  rintro n s' ⟨i,ys,H3,I3,st3,fr3,w3⟩
  rcases turn i n ys H3 w3 with⟨stop,qn⟩|⟨go,step⟩
  ·refine bJ (T.done (bF X N' scope G2.objs.size s2 H2 fp cl) rfl rfl rfl hc i [] s' _ H3 _ I3 (stat fr3) st3 stop) fun r s4 hpq=> ?_
   obtain⟨hr,I4⟩:=hpq;subst hr;obtain⟨m,hn,_⟩:=I4.loc;exact fin _ _ s2 s4 H2 H3 fp cl m I2 f2 below hCle I4 hn qn _
  ·refine bJ (T.item (bF X N' scope G2.objs.size s2 H2 fp cl) rfl rfl rfl hc i [] s' _ H3 _ I3 (stat fr3) st3 go) fun r s4 hpq=> ?_
   obtain⟨u,hr,h4⟩:=hpq;subst hr;refine bJ h4 fun _ s5 hpq=> ?_;obtain⟨x,H5,I5,r5,y5,st5,fr5⟩:=hpq;obtain⟨g,tt,te,hg,ht,he,rd⟩:=step x H5 y5 G2.objs.size s2 H2 fp cl;have I5' :=I5.pinned (stat fr5) (T.obj _ _ st5);have noE:∀{α:Type}{t:Sem α}{Q' :α->Shared->Prop}{s' :Shared}{E:Value->Shared->Prop},wpAny (model X.prog X.w) X.A t Q' (fun _ _=>False) s' ->wpAny (model X.prog X.w) X.A t Q' E s' :=fun z=>Ig z (fun _ _ y=>y) fun _ _ y=>y.elim
   have again:∀{σ7:St}{H7:Hp}{s7:Shared}{ys' :List V},Inv (bF X N' scope G2.objs.size s2 H2 fp cl) ([]++jI fp s5.heap) σ7 H7 s7->(σ7.length=N'.length/\∀(j:Nat)(v:V),(bO src σ)[j]? =some (some v)->σ7[j]? =some (some v)) ->
     (∃m',m' <n/\W (i+1) m' ys' H7)->∃m,m<n/\∃i ys H',Inv (bF X N' scope G2.objs.size s2 H2 fp cl) [] (bO src σ) H' s7/\tn i s7.heap/\(∀b∈fp,H' b=none)/\W i m ys H' :=fun{σ7 H7 s7 ys'} I7 hσ ⟨m',hm,w7⟩=>by
    refine⟨m',hm,i+1,ys',H7,(I7.unpinned).weak (by rw[show(bO src σ).length=N'.length by(show(src.map _).length=_;rw[Go];exact hsrc.len)];exact hσ.1.symm) hσ.2,T.keep _ _ _ st5 fun b hb o e=>(I7.pin (b,o) (Hv _ (Hv _ (cg hb e)))).1,fun b hb=> ?_,w7⟩;obtain⟨o,e,d⟩:=T.obj _ _ st5 b hb;exact(I7.pin (b,o) (Hv _ (Hv _ (cg hb e)))).2.1
   refine noE (bJ (hg _ s5 _ H5 x u _ I5' r5 rd) fun _ s6 hpq=> ?_);obtain⟨σ6,H6,I6,hσ,q6⟩:=hpq;refine noE (bJ (ht _ s6 σ6 H6 _ I6 q6) fun b s7 hpq=> ?_);obtain⟨H7,I7,q7⟩:=hpq;cases b with
   | false=>exact again I7 hσ q7
   | true =>
    rw[Gu rfl]at q7 ⊢;refine noE (bJ (he _ s7 σ6 H7 _ I7 q7) fun y s8 hpq=> ?_);obtain⟨v,H8,I8,r8,hl8,hz8,q8⟩:=hpq;refine noE (bJ (lJ _ s8 σ6 H8 (.ref s2.heap.objs.size) [v] (.ref s2.heap.objs.size) [y] (fun _ H9=>∃m',m' <n/\W (i+1) m' (ys++[v]) H9) I8 rfl (.cons r8 .nil) ⟨_,_,_,rfl,rfl,hl8,hz8,q8⟩) fun _ s9 hpq=> ?_);obtain⟨_,H9,I9,_,q9⟩:=hpq;exact again I9 hσ q9
 exact codeAny_compStart_list (loop _ rfl) (T.self X.A 0 _ _ _ st1 (loop _ rfl))
theorem Eu{elt target iter:Expr}{ifs:List Expr}{scope:Scope}{pos:Pos}{N' :List Str}{src:List (Option Nat)}{wi:TI}(hc:X.calm=true)(hi:PI X target iter wi)(hsrc:bR X scope N' src)
  (hkind:scope.kind=.function) (hcell:∀y∈scope.names,y.2=.cell->scope.names.lookup y.1=some .cell) (hnames:∀y∈scope.names,y.2=.local->scope.names.lookup y.1=some .local)
  (hfr:eH X.env.scope scope=true)
  (hs:∀x,foldedSetIterable iter X.env x=pure x:=by intro _;rfl) :
  PE X (.ListComp elt [⟨target,iter,ifs,0⟩] scope pos) (Ah X N' src scope target ifs elt wi):=by
 intro pins s σ H Q I h;rw[eval_ListComp];refine rJ hc hi hsrc hkind hcell hnames hfr hs I h fun C a s2 s4 H2 H3 fp cl m I2 f2 below hCle I4 hn qn _=> ?_;refine⟨m,hn,fun h' hs' => ?_⟩;have ne:∀b o,s2.heap.get? b=some o->b≠C:=fun b o e=>below b (G8 e);have hfree4:H3 C=none:=I4.free;have u4:Un (ou X.stack) fp H2 H3 s2.heap s4.heap:=I4.base
 have u5:Un (ou X.stack) fp H2 H3 s2.heap h' :=⟨fun b o e n z1 z2=>(hs'.2 b (ne b o e)).trans (u4.keep b o e n z1 z2),fun b o e n z1 z2=>let⟨sl,z⟩:=u4.slot b o e n z1 z2;⟨sl,(hs'.2 b (ne b o e)).trans z⟩,u4.free,
  fun b o e z=>let⟨o',z'⟩:=u4.there b o e z;⟨o',(hs'.2 b (ne b o e)).trans z'⟩,u4.tups,u4.frzs,u4.tbls⟩
 have hok:dm X.prog X.w H3 h' :=dm.but (h:=s4.heap) I4.hok fun b u hb z=>(hs'.2 b (fun w=>hb (by rw[w];exact hfree4))).trans z;exact⟨.ref a,H3,I2.call' (s' :={s4 with heap:=h'}) (ch:=fp) I4.os u5 hok I4.bare fun b hb=>⟨(f2 b hb).2.2.2.1,(f2 b hb).2.1,(f2 b hb).2.2.2.2.1,(f2 b hb).2.2.2.2.2⟩,rfl,qn⟩
end
section
variable{X:Cx}
theorem all_range(bs:List Bool):(List.range bs.length).all (fun i=>bs.getD i true)=bs.all id:=by
 rw[JM,HK,HK]
 constructor
 ·intro h b hb
  obtain⟨i,hi,e⟩:=List.mem_iff_getElem.mp hb;have z:=h i (Ib.mpr hi);rw[Hb,HA hi,e]at z;exact z
 ·intro h i hi
  have hi' :=Ib.mp hi;rw[Hb,HA hi'];exact h _ (Jq hi')
theorem o4{bs:List Bool}{us:List Value}(r:aO (bs.map V.bl) us){i:Nat}{v:Value}(e:us[i]? =some v):v=.bool (bs.getD i true):=by
 have hl:=r.length;rw[Go]at hl;have hi:i<us.length:=(G9.mp e).1;have hb:(bs.map V.bl)[i]? =some (.bl (bs.getD i true)):=by
  rw[HG,Hb,HA (by omega)];rfl
 obtain⟨u,e',ru⟩:=r.get hb;rw[e]at e';cases e';exact ru
theorem og(hc:X.calm=true):bL X (.builtin "all") (fun xs H Q=>∃(p:Addr)(bs:List Bool),xs=[.ref p]/\bP X.K H p (bs.map V.bl)/\Q (.bl (bs.all id)) H):=by
 intro pins s σ H xs us Q I r h;obtain⟨p,bs,rfl,hq,q⟩:=h;obtain⟨u,rfl,rx⟩:=vals1 r;cases rx;obtain⟨its,r',pl,hz⟩:=I.list hq;have hlen:=r'.length;rw[Go]at hlen;have hp:p<s.heap.objs.size:=by
  obtain⟨o,e,_⟩:=pl.isList;exact G8 e
 refine call_all_walk (wpAny_pyIter_list pl.isList ?_);refine⟨s.heap.objs.size,_,_,its.toArray.size,_,_,(fun i=>bs.getD i true),rfl,Walks.list (A:=X.A.in1) (I.ok.hd hc) s.heap.objs.size p (HV hp) its.toArray,⟨⟨_,HH _ rfl,rfl,rfl⟩,pl.isList.push _⟩,?_,?_⟩
 ·intro i v s' Q' E' hv hQ
  have e:=o4 r' (i:=i) (v:=v) (by simpa using hv);subst e;exact JU hQ
 ·intro h' tk hk
  refine⟨.bl (bs.all id),H,I.kept (t' :=tk) (fun b o e=>hk b o (by simpa using HV (G8 e)) (Gp _ e)),?_,q⟩;rw[Gx,<-hlen,all_range];rfl
noncomputable def Gg(x:Str):It:=⟨fun i _=>i<x.cps.size,fun i H v H' =>H' =H/\∃c,x.cps[i]? =some c/\v=.str ⟨#[c]⟩,fun i _=>i=x.cps.size⟩
noncomputable def iStr(tl:TE):TI:=fun σ H R=>tl σ H fun x H1=>∃z,x=.str z/\R (Gg z) H1
theorem fF{P:Program}{w:World}{K:W.Frag}{tg:Expr}{it:Addr}{n:Nat}{Pw:Nat->Value->Prop}{tn:Nat->Heap->Prop}{J:It}(hW:∀A:Around,A.handled=none->Walks P w A it [it] [it] n Pw tn)
  (hob:∀i h,tn i h->∃(o:Obj)(ty:String)(vs:Array Value),h.get? it=some o/\o.cls=.type ty/\o.data=.fields vs/\["enumerate","zip","dict_itemiterator","dict_reverseitemiterator","odict_iterator","itertools.zip_longest","itertools.pairwise"].contains ty=false)
  (hgo:∀i H,J.go i H->i<n) (hst:∀i H,J.stop i H->i=n) (hy:∀i H v,Pw i v->∃x,RelV x v/\J.yld i H x H)
  (hself:∀(A:Around)(i:Nat)(s:Shared)(Q:Value->Shared->Prop)(E:Value->Shared->Prop),tn i s.heap->Q (.ref it) s->wpAny (model P w) A (pyIter (.ref it)) Q E s):mq P w K tg J [it] it tn where
 mem:=by simp
 obj:=fun i h st b hb=>by
  have e:b=it:=by simpa using hb
  subst e;obtain⟨o,ty,vs,e,_,d,_⟩:=hob i h st;exact⟨o,e,fun v z=>by rw[d]at z;cases z⟩
 keep:=fun i h h' st k=>(hW {callerA with handled:=none} rfl).frame i h h' st k
 item:=by
  intro X hP hw hK hc i pins s σ H E I hf st hg;subst hP hw hK;obtain⟨f0,f1,f2,f3,f4,f5⟩:=hf it (by simp);refine(hW X.A (I.ok.hd hc)).item i s _ _ (hgo i H hg) st fun v h' tk hv st' kk=> ?_;obtain⟨x,rx,y⟩:=hy i H v hv;have I1:Inv X pins σ H {s with heap:=h',toks:=tk}:=I.turned (fun b o hb e=>kk b o (by simpa using hb) e) f0 f1 f3 f4 f5;obtain⟨o,ty,vs,e,c,d,nc⟩:=hob (i+1) h' st';exact⟨_,rfl,lN (s:={s with heap:=h',toks:=tk}) e c d nc ⟨x,H,I1,rx,y,st',fun b hb=>(hf b hb).1⟩⟩
 done:=by
  intro X hP hw hK hc i pins s σ H E I hf st hg;subst hP hw hK;obtain⟨f0,f1,f2,f3,f4,f5⟩:=hf it (by simp);have e:=hst i H hg;subst e;exact(hW X.A (I.ok.hd hc)).done s _ _ st fun h' tk kk=>⟨rfl,I.turned (fun b o hb e=>kk b o (by simpa using hb) e) f0 f1 f3 f4 f5⟩
 self:=hself
theorem BB{tg:Expr}{l:Expr}{tl:TE}(hl:PE X l tl):PI X tg l (iStr tl):=by
 intro pins s σ H R I h;refine bJ (hl pins s σ H _ I h) fun v s1 hpq=> ?_;obtain⟨x,H1,I1,r1,q1⟩:=hpq;obtain⟨z,rfl,q⟩:=q1;obtain⟨t,rfl⟩:=r1;have fp:∀b∈[s1.heap.objs.size],gp X pins H1 b:=fun b hb=>by
  have e:b=s1.heap.objs.size:=by simpa using hb
  subst e;exact I1.fpOk (Gr _) (I1.hok.fresh (Gr _))
 have yl:∀(i:Nat)(H:Hp)(v:Value),SignAt z i v->∃x,RelV x v/\(Gg z).yld i H x H:=fun i H v hv=>by
  obtain⟨c,u,e,rfl⟩:=hv;exact⟨.str ⟨#[c]⟩,⟨_,rfl⟩,rfl,c,e,rfl⟩
 cases ha:z.cps.all (·<128)with
 | false =>
  refine wpAny_pyIter_wide ha ?_
  refine⟨s1.heap.objs.size,[s1.heap.objs.size],fun i h=>h.IsStrIter s1.heap.objs.size "str_iterator" z t i,Gg z,H1,rfl,I1.kept (t' :=s1.toks) fun b o e=>Gp _ e,
   fF (fun A hA=>Walks.strWide hA _ z t) (fun i h st=> ?_) (fun i H g=>g) (fun i H g=>g) yl (fun A i s Q E st h=>wpAny_pyIter_striter_wide st h),⟨_,HH _ rfl,rfl,rfl⟩,fp,q⟩
  obtain⟨o,e,c,d⟩:=st;exact⟨o,_,_,e,c,d,by decide⟩
 | true =>
  refine wpAny_pyIter_ascii ha ?_
  refine⟨s1.heap.objs.size,[s1.heap.objs.size],fun i h=>h.IsStrIter s1.heap.objs.size "str_ascii_iterator" z t i,Gg z,H1,rfl,I1.kept (t' :=s1.toks) fun b o e=>Gp _ e,
   fF (fun A hA=>Walks.strAscii hA _ z t) (fun i h st=> ?_) (fun i H g=>g) (fun i H g=>g) yl (fun A i s Q E st h=>wpAny_pyIter_striter_ascii st h),⟨_,HH _ rfl,rfl,rfl⟩,fp,q⟩
  obtain⟨o,e,c,d⟩:=st;exact⟨o,_,_,e,c,d,by decide⟩
noncomputable def Itc(lo c:Int)(n:Nat):It:=⟨fun i _=>i<n,fun i H x H' =>H' =H/\x=.int (lo+i*c),fun i _=>i=n⟩
noncomputable def FZ(ta:TA):TI:=fun σ H R=>ta σ H fun vs H1=>∃i j c:Int,vs=[.int i,.int j,.int c]/\c≠0/\c.natAbs<1073741824/\Builtin.Range.small i j c=true/\R (Itc i c (Builtin.Range.rangeSize i j c).toNat) H1
theorem mD(i j c:Int):0<=Builtin.Range.rangeSize i j c:=by
 unfold Builtin.Range.rangeSize
 split
 ·split
  ·have:=Int.ediv_nonneg (a:=j-i-1) (b:=c) (by omega) (by omega)
   omega
  ·exact JP _
 ·split
  ·by_cases hc:c=0
   ·subst hc
    simp
   ·have:=Int.ediv_nonneg (a:=i-j-1) (b:= -c) (by omega) (by omega)
    omega
  ·exact JP _
theorem sh{tg:Expr}{a b c:Expr}{ta:TA}{p pos:Pos}(hg:Gl X "range")(hm:X.mg "range"=none)(ha:PA X [a,b,c] ta)(hs:starEach [a,b,c] X.env=(false,eval a X.env)::starEach [b,c] X.env:=by rfl)
  (hs2:(backTo pos (starEach [b,c] X.env)).any (·.1)=false:=by rfl):PI X tg (.Call (.Name "range" p) [a,b,c] [] pos) (FZ ta):=by
 intro pins s σ H R I h;refine Call_ (bv I hg hm boot_range (He (bJ (ha pos pins s σ H _ I h) fun us s1 ⟨vs,H1,I1,r1,q1⟩=> ?_) hs hs2));obtain⟨i,j,k,e,hk,hk2,hsm,q⟩:=q1;subst e;cases r1 with
 | cons r rr =>
  cases rr with
  | cons r' rr =>
   cases rr with
   | cons r'' rr =>
    cases rr;obtain⟨t,rfl⟩:=r;obtain⟨t',rfl⟩:=r';obtain⟨t'',rfl⟩:=r'';refine call_range_3 hk ?_ (.inl (PyProof.noPylong_small hk2));refine wpAny_pyIter_range (IsRange.new ..) hsm ?_;have I2:Inv X pins σ H1 {s1 with heap:=s1.heap.push {cls:=.type "range",data:=.fields #[.int i t,.int j t',.int k t'']}}:=I1.kept (t' :=s1.toks) fun b o e=>Gp _ e
    refine⟨_,[_],_,_,H1,rfl,I2.kept (t' :=s1.toks) fun b o e=>Gp _ e,
     fF (fun A hA=>Walks.range hA _ i k (Builtin.Range.rangeSize i j k).toNat) (fun m h st=>⟨_,_,_,st,rfl,rfl,by decide⟩) (fun m H g=>g) (fun m H g=>g) (fun m H v hv=> ?_) (fun A m s Q E st h=>wpAny_pyIter_rangeiter st h),?_,fun b hb=> ?_,q⟩
    ·obtain⟨u,rfl⟩:=hv
     exact⟨.int (i+m*k),⟨_,rfl⟩,rfl,rfl⟩
    ·have e1:i+((0:Nat):Int)*k=i:=by simp
     have e2:(((Builtin.Range.rangeSize i j k).toNat:Nat):Int)-((0:Nat):Int)=Builtin.Range.rangeSize i j k:=by
      have:=mD i j k;omega
     show IsRangeIter _ _ (i+((0:Nat):Int)*k) ((((Builtin.Range.rangeSize i j k).toNat:Nat):Int)-((0:Nat):Int)) k;rw[e1,e2];exact HH _ rfl
    ·have e:b=(s1.heap.push {cls:=.type "range",data:=.fields #[.int i t,.int j t',.int k t'']}).objs.size:=by simpa using hb
     subst e;exact I2.fpOk (Gr _) (I2.hok.fresh (Gr _))
theorem Inv.drew{pins:List (Addr×Obj)}{σ:St}{H:Hp}{s:Shared}{h' :Heap}{fp:List Addr}{p:Addr}{o:HO}{t' :Nat}(I:Inv X pins σ H s)(hf:∀b∈fp,gp X pins H b)(k:∀b ob,b∉fp->s.heap.get? b=some ob->h'.get? b=some ob)
  (hp:s.heap.objs.size<=p) (new:bC X.prog X.w (upd H p o) h' p o):Inv X pins σ (upd H p o) {s with heap:=h',toks:=t'}:=by
 have ne:∀b u,H b=some u->b≠p:=fun b u e=>HV (HX (I.hok.lt e) hp);have nf:∀b u,H b=some u->b∉fp:=fun b u e hb=>by rw[(hf b hb).1]at e;cases e
 refine I.step (g' :=s.gens) (d' :=s.drawn) (ch:=fp) (fun b hb=>⟨(hf b hb).2.2.2.1,(hf b hb).2.1,(hf b hb).2.2.2.2.1,(hf b hb).2.2.2.2.2⟩) (fun b ob _ _ hc e _=>k b ob hc e) (fun b ob _ _ hc e _=>⟨ob.slots,k b ob hc e⟩)
  (fun b ob hc e n=>by rw[aR (HV (HX (G8 e) hp))];exact n) (fun b ob hc e=>⟨ob,k b ob hc e⟩) (fun b xs e=>by rw[aR (ne b _ e)];exact e) (fun b ob u e=>by rw[aR (ne b _ e)];exact e)
  (fun b ps e=>⟨#[],by rw[aR (ne b _ e),e];simp⟩) (fun m hm=> ?_) (fun b u e=> ?_) I.bare
 ·obtain⟨ob,es,ep,ho,r⟩:=hm
  exact⟨ob,es,ep,k _ _ (fun hb=>(hf _ hb).2.1 rfl) ho,r⟩
 ·by_cases hb:b=p
  ·subst hb
   rw[am]at e;cases e;exact new
  ·rw[aR hb]at e
   refine(I.hok b u e).stay (fun c v hc q=>k c v ?_ q) (fun c q=>by rw[aR (ne c _ q)];exact q) (fun c xs q=>by rw[aR (ne c _ q)];exact q)
   rcases hc with rfl|hc
   ·exact nf _ _ e
   ·exact nf _ _ hc
theorem Inv.drew0{pins:List (Addr×Obj)}{σ:St}{H:Hp}{s:Shared}{h' :Heap}{fp:List Addr}{t' :Nat}(I:Inv X pins σ H s)(hf:∀b∈fp,gp X pins H b)(k:∀b ob,b∉fp->s.heap.get? b=some ob->h'.get? b=some ob) :
  Inv X pins σ H {s with heap:=h',toks:=t'}:=by
 have nf:∀b u,H b=some u->b∉fp:=fun b u e hb=>by rw[(hf b hb).1]at e;cases e
 refine I.step (g' :=s.gens) (d' :=s.drawn) (ch:=fp) (fun b hb=>⟨(hf b hb).2.2.2.1,(hf b hb).2.1,(hf b hb).2.2.2.2.1,(hf b hb).2.2.2.2.2⟩) (fun b ob _ _ hc e _=>k b ob hc e) (fun b ob _ _ hc e _=>⟨ob.slots,k b ob hc e⟩)
  (fun b ob hc e n=>n) (fun b ob hc e=>⟨ob,k b ob hc e⟩) (fun b xs e=>e) (fun b ob u e=>e) (fun b ps e=>⟨#[],by rw[e];simp⟩) (fun m hm=> ?_) (fun b u e=> ?_) I.bare
 ·obtain⟨ob,es,ep,ho,r⟩:=hm
  exact⟨ob,es,ep,k _ _ (fun hb=>(hf _ hb).2.1 rfl) ho,r⟩
 ·refine(I.hok b u e).stay (fun c v hc q=>k c v ?_ q) (fun c q=>q) (fun c xs q=>q)
  rcases hc with rfl|hc
  ·exact nf _ _ e
  ·exact nf _ _ hc
noncomputable def Itz(K:W.Frag)(a b:Addr):It :=
  ⟨fun i H=>∃xs ys x y,bP K H a xs/\bP K H b ys/\xs[i]? =some x/\ys[i]? =some y,
   fun i H v H' =>∃p,H p=none/\v=.ref p/\∀xs ys x y,bP K H a xs->bP K H b ys->xs[i]? =some x->ys[i]? =some y->H' =upd H p (.tup [x,y]),
   fun i H=>∃xs ys,bP K H a xs/\bP K H b ys/\(xs.length<=i\/ys.length<=i)⟩
noncomputable def Ga(z TI TO i1 i2 a b:Addr)(i:Nat)(h:Heap):Prop:=IsZip h z TI TO .none/\IsPair h TI (.ref i1) (.ref i2)/\(∃u v,IsPair h TO u v)/\h.IsListIter i1 a i/\h.IsListIter i2 b i
theorem uN{P:Program}{w:World}{K:W.Frag}{es:List Expr}{kt:Nat}{tpos:Pos}{z TI TO i1 i2 a b:Addr}(D:ZipApart z TI TO i1 i2 a b) :
  mq P w K (.Tuple es kt tpos) (Itz K a b) [z,TI,TO,i1,i2] z (Ga z TI TO i1 i2 a b) where
 mem:=by simp
 obj:=fun i h st c hc=>by
  obtain⟨hz,hTI,⟨u,v,hTO⟩,⟨o1,e1,_,d1⟩,⟨o2,e2,_,d2⟩⟩:=st;simp only[HE,Hk,Js]at hc
  rcases hc with rfl|rfl|rfl|rfl|rfl
  ·exact⟨_,hz,fun v z=>by cases z⟩
  ·exact⟨_,hTI,fun v z=>by cases z⟩
  ·exact⟨_,hTO,fun v z=>by cases z⟩
  ·exact⟨_,e1,fun v z=>by rw[d1]at z;cases z⟩
  ·exact⟨_,e2,fun v z=>by rw[d2]at z;cases z⟩
 keep:=fun i h h' st k=>by
  obtain⟨hz,hTI,⟨u,v,hTO⟩,h1,h2⟩:=st;exact⟨k z (by simp) _ hz,k TI (by simp) _ hTI,⟨u,v,k TO (by simp) _ hTO⟩,h1.at fun o e=>k i1 (by simp) o e,h2.at fun o e=>k i2 (by simp) o e⟩
 item:=by
  intro X hP hw hK hc i pins s σ H E I hf st hg;subst hP hw hK;obtain⟨xs,ys,x,y,sa,sb,ex,ey⟩:=hg;obtain⟨its,ra,pa,_⟩:=I.list sa;obtain⟨its',rb,pb,_⟩:=I.list sb;obtain⟨u,eu,ru⟩:=ra.get ex;obtain⟨v,ev,rv⟩:=rb.get ey;obtain⟨hz,hTI,⟨u0,v0,hTO⟩,h1,h2⟩:=st;refine wpAny_pyNext_zip_item D hz hTI hTO h1 h2 pa.isList pb.isList (x:=u) (y:=v) (by simpa using eu) (by simpa using ev) fun h' a1 a2 a3 a4 a5 a6 hk=> ?_;refine⟨_,rfl,wpAny_letOwnedTupleGo_zip a1 fun h'' hz' hs' => ?_⟩;have zlt:z<s.heap.objs.size:=G8 hz;have kk:∀c o,c∉[z,TI,TO,i1,i2]->s.heap.get? c=some o->h''.get? c=some o:=fun c o hc e=>by
   simp only[HE,Hk,Js,not_or]at hc;obtain⟨c1,c2,c3,c4,c5⟩:=hc;exact(hs'.2 c c1).trans (hk c o c1 c3 c4 c5 e)
  have tI:h''.get? TI=some _:=(hs'.2 TI D.TIz).trans (hk TI _ D.TIz D.TITO D.TIi1 D.TIi2 hTI);have new:h''.get? s.heap.objs.size=some {cls:=.type "tuple",data:=.seq #[u,v]}:=(hs'.2 _ (J0 zlt)).trans a5;have I1:Inv X pins σ (upd H s.heap.objs.size (.tup [x,y])) {s with heap:=h''}:=I.drew (t' :=s.toks) hf kk (Gr _) ⟨by show 2<=sizeLine;decide,[u,v],.cons ru (.cons rv .nil),⟨_,new,rfl,_,rfl,rfl⟩⟩;refine⟨.ref s.heap.objs.size,upd H s.heap.objs.size (.tup [x,y]),I1,rfl,⟨s.heap.objs.size,I.hok.fresh (Gr _),rfl,fun xs' ys' x' y' sa' sb' ex' ey' => ?_⟩,⟨hz',tI,⟨_,_,(hs'.2 TO D.TOz).trans a2⟩,a3.at fun o e=>(hs'.2 i1 D.i1z).trans e,a4.at fun o e=>(hs'.2 i2 D.i2z).trans e⟩,fun c hc=> ?_⟩
  ·have q1:=I.list_inj sa sa'
   have q2:=I.list_inj sb sb';subst q1 q2;rw[ex]at ex';rw[ey]at ey';cases ex';cases ey';rfl
  ·rw[aR ?_]
   ·exact(hf c hc).1
   ·intro e
    have lt:c<s.heap.objs.size:=by
     simp only[HE,Hk,Js]at hc;obtain⟨o1,e1,_⟩:=id h1;obtain⟨o2,e2,_⟩:=id h2
     rcases hc with rfl|rfl|rfl|rfl|rfl
     ·exact zlt
     ·exact G8 hTI
     ·exact G8 hTO
     ·exact G8 e1
     ·exact G8 e2
    exact absurd e (HV lt)
 done:=by
  intro X hP hw hK hc i pins s σ H E I hf st hg;subst hP hw hK;obtain⟨xs,ys,sa,sb,hend⟩:=hg;obtain⟨its,ra,pa,_⟩:=I.list sa;obtain⟨its',rb,pb,_⟩:=I.list sb;obtain⟨hz,hTI,⟨u0,v0,hTO⟩,h1,h2⟩:=st;have l1:=ra.length;have l2:=rb.length;refine wpAny_pyNext_zip_end (I.ok.hd hc) D hz hTI hTO h1 h2 pa.isList pb.isList ?_ fun h' hk=>⟨rfl,I.drew0 (t' :=s.toks) hf fun c o hc e=> ?_⟩
  ·rcases hend with q|q
   ·exact .inl (by simp;omega)
   ·exact .inr (by simp;omega)
  ·simp only[HE,Hk,Js,not_or]at hc
   exact hk c o hc.1 hc.2.2.1 hc.2.2.2.1 hc.2.2.2.2 e
 self:=fun _ _ _ _ _ st h=>wpAny_pyIter_zip st.1 h
noncomputable def iZip(K:W.Frag)(ta:TA):TI:=fun σ H R=>ta σ H fun vs H1=>∃a b xs ys,vs=[.ref a,.ref b]/\bP K H1 a xs/\bP K H1 b ys/\R (Itz K a b) H1
theorem BA{es:List Expr}{kt:Nat}{tpos:Pos}{a b:Expr}{ta:TA}{p pos:Pos}(hg:Gl X "zip")(hm:X.mg "zip"=none)(ha:PA X [a,b] ta)(hs:starEach [a,b] X.env=(false,eval a X.env)::starEach [b] X.env:=by rfl)
  (hs2:(backTo pos (starEach [b] X.env)).any (·.1)=false:=by rfl):PI X (.Tuple es kt tpos) (.Call (.Name "zip" p) [a,b] [] pos) (iZip X.K ta):=by
 intro pins s σ H R I h;refine Call_ (bv I hg hm boot_zip (He (bJ (ha pos pins s σ H _ I h) fun us s1 ⟨vs,H1,I1,r1,q1⟩=> ?_) hs hs2));obtain⟨l1,l2,xs,ys,e,sa,sb,q⟩:=q1;subst e;obtain⟨u,v,rfl,ru,rv⟩:=vals2 r1;cases ru;cases rv;obtain⟨its,ra,pa,_⟩:=I1.list sa;obtain⟨its',rb,pb,_⟩:=I1.list sb;have lt1:l1<s1.heap.objs.size:=by obtain⟨o,e,_⟩:=pa.isList;exact G8 e
 have lt2:l2<s1.heap.objs.size:=by obtain⟨o,e,_⟩:=pb.isList;exact G8 e
 refine call_zip_2 pa.isList pb.isList fun h' hz hTI hTO hit1 hit2 hsz hk=> ?_;refine wpAny_pyIter_zip hz ?_;have I2:Inv X pins σ H1 {s1 with heap:=h'}:=I1.kept (t' :=s1.toks) hk;refine⟨s1.heap.objs.size+4,[s1.heap.objs.size+4,s1.heap.objs.size+2,s1.heap.objs.size+3,s1.heap.objs.size,s1.heap.objs.size+1],_,_,H1,rfl,I2,uN (zipApart_new lt1 lt2),⟨hz,hTI,⟨_,_,hTO⟩,hit1,hit2⟩,fun c hc=> ?_,q⟩;have le:s1.heap.objs.size<=c:=by
  simp only[HE,Hk,Js]at hc
  rcases hc with rfl|rfl|rfl|rfl|rfl<;>omega
 exact I1.fpOk le (I1.hok.fresh le)
theorem vU:du X (binaryOp .FloorDiv) (rI (fun _ j=>0<j/\j.natAbs.log2<9000) fun i j=>.int (i/j)):=FH fun i j _ _ _ _ _ hc q=>by
 have h1:(0:Int)<j:=hc.1;exact floordiv_int (by omega) (by rw[Int.fdiv_eq_ediv_of_nonneg i (by omega)];exact q) (.inl (PyProof.noPylong_of_log2 hc.2))
end
theorem aB.tup{K:W.Frag}{H H' :Hp}{a:Addr}{xs:List V}(e:aB H H')(h:ba K H a xs):ba K H' a xs:=by
 rcases h with(h|⟨o,h⟩)|h
 ·exact .inl (.inl (e _ _ h))
 ·exact .inl (.inr ⟨o,e _ _ h⟩)
 ·exact .inr h
theorem aT{H:Hp}{p:Addr}(h:H p=none)(o:HO):aB H (upd H p o):=fun b u q=>by rw[aR (aY q h)];exact q
theorem aB.upd{H H' :Hp}{D:Addr}{o:HO}(e:aB H H')(h:H D=none):aB H (upd H' D o):=fun b u q=>by rw[aR (aY q h)];exact e b u q
noncomputable def cB(z:Str):List V:=z.cps.toList.map fun c=>V.str ⟨#[c]⟩
theorem jF(z:Str):(cB z).length=z.length:=by
 unfold cB;rw[Go,HJ];rfl
noncomputable def zq(n:Nat):List V:=(List.range n).map fun i=>V.int (i:Nat)
section
variable{X:Cx}{N' :List Str}{scope:Scope}{elt:Expr}{σ:St}{H1:Hp}{J:It}{xs:List V}
theorem wf{r:List (Option Nat)}{σ:St}{x:V}(h:r.length+1=N'.length) :
  ((bO (none::r) σ).set 0 (some x)).length=N'.length/\∀(j:Nat)(v:V),(bO (none::r) σ)[j]? =some (some v)->((bO (none::r) σ).set 0 (some x))[j]? =some (some v):=by
 refine⟨by rw[Jc];simp[bO,h],fun j v e=> ?_⟩;cases j with
 | zero=>simp[bO]at e
 | succ j=>simpa [bO]using e
end
structure i7(K:W.Frag)(mg:Str->Option Value)(x:Str)(st:Stmt)(ps:List Str)(f:Addr)(fd:FuncData):Prop where
 fn:De K x x st f fd
 nm:mg x=some (.ref f)
 bd:Binds K fd ps []
theorem ze{X:Cx}{x:Str}{n:String}{pos:Pos}(hg:Gl X x)(hm:X.mg x=none)(hv:bootBuiltins x=some (.type n))(hn:x≠"__name__":=by decide)(hd:(x==("__debug__":Str))=false:=by decide):PE X (.Name x pos) (tC (.ty n)) :=
 xz (v:=.ty n) hg hm hv rfl hn hd
section
variable{K:W.Frag}
theorem eF(n:String):W.kitOne K (.type n) (.type n)=some true:=by
 unfold W.kitOne;rw[Gu (by simp)]
end
noncomputable def FS:V->Nat
 | .str z=>z.length
 | _=>0
noncomputable def qj(K:W.Frag):Sp:=fun vs H Q _=>∃(a:Addr)(ns:List Int),vs=[.ref a]/\bP K H a (ns.map V.int)/\ns.length<=63/\∀H',Q (.bl true) H'
section
variable{X:Cx}{e st:Expr}{te ts:TE}{pos p2:Pos}
end
section
variable{κ:Type}[DecidableEq κ]
noncomputable def fW(kvs:List (κ×V))(k:κ):Option V:=(kvs.find? fun kv=>decide (kv.1=k)).map (·.2)
noncomputable def kJ(kvs:List (κ×V))(k:κ)(v:V):List (κ×V) :=
 if(kvs.any fun kv=>decide (kv.1=k))=true then kvs.map (fun kv=>if kv.1=k then(kv.1,v)else kv)else kvs++[(k,v)]
theorem fU{p:κ×V}{r:List (κ×V)}{k:κ}(e:p.1=k):fW (p::r) k=some p.2:=by simp[fW,Jv,e]
theorem fV{p:κ×V}{r:List (κ×V)}{k:κ}(e:¬p.1=k):fW (p::r) k=fW r k:=by simp[fW,Jv,e]
theorem m7(k:κ):∀kvs:List (κ×V),(kvs.any fun kv=>decide (kv.1=k))=(fW kvs k).isSome
 | []=>rfl
 | p::r=>by
  rw[List.any_cons]
  by_cases e:p.1=k
  ·simp only[fU e,Hy e,Bool.true_or,Option.isSome_some]
  ·rw[fV e,HS e,Bool.false_or];exact m7 k r
theorem gl.isSome_eq{o:Option V}{u:Option Value}(r:gl o u):o.isSome=u.isSome:=by
 cases o with
 | none=>cases u with
  | none=>rfl
  | some _=>exact(show False from r).elim
 | some _=>cases u with
  | none=>exact(show False from r).elim
  | some _=>rfl
theorem gl.getD{o:Option V}{u:Option Value}{d:V}{d' :Value}(r:gl o u)(rd:RelV d d'):RelV (o.getD d) (u.getD d'):=by
 cases o with
 | none=>cases u with
  | none=>exact rd
  | some _=>exact(show False from r).elim
 | some _=>cases u with
  | none=>exact(show False from r).elim
  | some _=>exact r
theorem KV.val{kvs:List (κ×V)}{vs:List (κ×Value)}(r:KV kvs vs)(k:κ):gl (fW kvs k) (valueAt vs k):=by
 unfold KV at r
 induction r with
 | nil=>exact True.intro
 | @cons p q ps qs h t ih =>
  obtain⟨h1,h2⟩:=h
  by_cases e:p.1=k
  ·have e' :q.1=k:=h1.symm.trans e
   have b:valueAt (q::qs) k=some q.2:=by simp[valueAt,Jv,e']
   rw[fU e,b];exact h2
  ·have e' :¬q.1=k:=fun z=>e (h1.trans z)
   have b:valueAt (q::qs) k=valueAt qs k:=by simp[valueAt,Jv,e']
   rw[fV e,b];exact ih
theorem KV.any{kvs:List (κ×V)}{vs:List (κ×Value)}(r:KV kvs vs)(k:κ):(kvs.any fun kv=>decide (kv.1=k))=vs.any fun kv=>decide (kv.1=k):=by
 unfold KV at r
 induction r with
 | nil=>rfl
 | cons h t ih=>rw[List.any_cons,List.any_cons,ih,h.1]
theorem KV.repl{kvs:List (κ×V)}{vs:List (κ×Value)}(r:KV kvs vs)(k:κ){y:V}{u:Value}(ry:RelV y u) :
  KV (kvs.map fun kv=>if kv.1=k then(kv.1,y)else kv) (vs.map fun kv=>if kv.1=k then(kv.1,u)else kv):=by
 unfold KV at r ⊢
 induction r with
 | nil=>exact .nil
 | @cons p q ps qs h t ih =>
  rw[HW,HW];refine .cons ?_ ih;obtain⟨h1,h2⟩:=h
  by_cases e:p.1=k
  ·rw[Gu e,Gu (h1.symm.trans e)];exact⟨h1,ry⟩
  ·rw[Gq e,Gq (fun z=>e (h1.trans z))];exact⟨h1,h2⟩
theorem KV.put{kvs:List (κ×V)}{vs:List (κ×Value)}(r:KV kvs vs)(k:κ){y:V}{u:Value}(ry:RelV y u):KV (kJ kvs k y) (stored vs k u):=by
 unfold kJ stored;rw[r.any k]
 by_cases e:(vs.any fun kv=>decide (kv.1=k))=true
 ·rw[Gu e,Gu e];exact r.repl k ry
 ·rw[Gq e,Gq e];exact Paired.snoc r ⟨rfl,ry⟩
theorem KV.length{kvs:List (κ×V)}{vs:List (κ×Value)}(r:KV kvs vs):kvs.length=vs.length:=Paired.length r
end
theorem zp{P:Program}{w:World}{k:bK}{u:Value}(r:RelV (kV k) u):(bW P w).is k u=true:=by
 cases k with
 | inl i=>obtain⟨t,e⟩:=(show∃t,u=Value.int i t from r);subst e;exact nY P w i t
 | inr x=>obtain⟨t,e⟩:=(show∃t,u=Value.str x t from r);subst e;exact nX P w x t
theorem lM{P:Program}{w:World}:∀{ks:List bK}{us:List Value},aO (ks.map kV) us->ItemsAre (bW P w) ks us
 | [],_,r=>by rw[List.map_nil]at r;cases r;exact .nil
 | k::ks,_,r=>by
  rw[HW]at r;cases r with
  | cons h t=>exact .cons (zp h) (lM t)
noncomputable abbrev KT(H:Hp):List (List bK×V)->List (List bK×Addr×Value)->Prop:=Paired fun p q=>p.1=q.1/\H q.2.1=some (.tup (p.1.map kV))/\RelV p.2 q.2.2
theorem KT.val{H:Hp}{kvs:List (List bK×V)}{xs:List (List bK×Addr×Value)}(r:KT H kvs xs)(k:List bK):gl (fW kvs k) ((atKey xs k).map (·.2)):=by
 induction r with
 | nil=>exact True.intro
 | @cons p q ps qs h t ih =>
  obtain⟨h1,_,h2⟩:=h
  by_cases e:p.1=k
  ·have e' :q.1=k:=h1.symm.trans e
   have b:atKey (q::qs) k=some q.2:=by simp[atKey,Jv,e']
   rw[fU e,b];exact h2
  ·have e' :¬q.1=k:=fun z=>e (h1.trans z)
   have b:atKey (q::qs) k=atKey qs k:=by simp[atKey,Jv,e']
   rw[fV e,b];exact ih
theorem KT.repl{H:Hp}{kvs:List (List bK×V)}{xs:List (List bK×Addr×Value)}(r:KT H kvs xs)(k:List bK){y:V}{u:Value}(ry:RelV y u) :
  KT H (kvs.map fun kv=>if kv.1=k then(kv.1,y)else kv) (xs.map (putAt k u)):=by
 induction r with
 | nil=>exact .nil
 | @cons p q ps qs h t ih =>
  rw[HW,HW];refine .cons ?_ ih;obtain⟨h1,h2,h3⟩:=h;unfold putAt
  by_cases e:p.1=k
  ·rw[Gu e,Gu (h1.symm.trans e)];exact⟨h1,h2,ry⟩
  ·rw[Gq e,Gq (fun z=>e (h1.trans z))];exact⟨h1,h2,h3⟩
theorem KT.put{H:Hp}{kvs:List (List bK×V)}{xs:List (List bK×Addr×Value)}(r:KT H kvs xs)(k:List bK){b:Addr}{y:V}{u:Value}(hb:H b=some (.tup (k.map kV)))(ry:RelV y u) :
  KT H (kJ kvs k y) (storedH xs k b u):=by
 have e:(kvs.any fun kv=>decide (kv.1=k))=(atKey xs k).isSome:=by
  rw[m7,(r.val k).isSome_eq,Option.isSome_map]
 unfold kJ storedH;rw[e]
 by_cases q:(atKey xs k).isSome=true
 ·rw[Gu q,Gu q];exact r.repl k ry
 ·rw[Gq q,Gq q];exact Paired.snoc r ⟨rfl,hb,ry⟩
theorem KT.keeps{H H' :Hp}{kvs:List (List bK×V)}{xs:List (List bK×Addr×Value)}(r:KT H kvs xs)(ht:∀b ys,H b=some (.tup ys)->H' b=some (.tup ys)):KT H' kvs xs :=
 Paired.mapP r fun _ _ z=>⟨z.1,ht _ _ z.2.1,z.2.2⟩
section
variable{P:Program}{w:World}{H:Hp}{h:Heap}{a:Addr}
theorem zd{u:HO}(ok:dm P w H h)(e:Rd H a u):bC P w H h a u:=e.ok ok
theorem wK{kvs:List (bK×V)}(ok:dm P w H h)(e:Rd H a (.dK kvs)):kvs.length<=sizeLine/\(a==sysModules)=false/\∃vs,KV kvs vs/\h.DictOf (bW P w) a vs :=
 show bC P w H h a (.dK kvs)from zd ok e
theorem vm{ks:List bK}(ok:dm P w H h)(e:H a=some (.tup (ks.map kV))):(tupleKind (bW P w)).is h ks a:=by
 obtain⟨_,its,r,o,h1,h2,n,h3,_⟩:=(show bC P w H h a (.tup (ks.map kV))from ok a _ e);exact⟨o,its.toArray,n,h1,h2,h3,by simpa using lM r⟩
theorem AC{kvs:List (List bK×V)}(ok:dm P w H h)(e:Rd H a (.dT kvs)):kvs.length<=sizeLine/\(a==sysModules)=false /\
  ∃xs,KT H kvs xs/\h.DictOfH (tupleKind (bW P w)) a xs:=by
 obtain⟨z,y,xs,r,o,es,ep,h1,h2,h3,h4,h5⟩:=(show bC P w H h a (.dT kvs)from zd ok e);refine⟨z,y,xs,r,o,es,ep,h1,h2,h3,h4,fun x hx=> ?_,h5⟩;have all:∀{l:List (List bK×V)}{m:List (List bK×Addr×Value)},KT H l m->∀x∈m,(tupleKind (bW P w)).is h x.1 x.2.1:=by
  intro l m q
  induction q with
  | nil=>intro x hx;exact nomatch hx
  | @cons p q ps qs hq t ih =>
   intro x hx
   rcases HE.mp hx with e|hx
   ·subst e
    exact vm ok (by rw[<- hq.1];exact hq.2.1)
   ·exact ih x hx
 exact all r x hx
end
noncomputable def mw(H:Hp)(a:Addr)(y:V)(r:Option V):Prop :=
 (∃kvs k,Rd H a (.dK kvs)/\y=kV k/\r=fW kvs k)\/∃kvs k b,Rd H a (.dT kvs)/\y=.ref b/\H b=some (.tup (k.map kV))/\r=fW kvs k
noncomputable def zK(H:Hp)(a:Addr)(y v:V)(H' :Hp):Prop :=
 (∃kvs k,H a=some (.dK kvs)/\y=kV k/\kvs.length<sizeLine/\H' =upd H a (.dK (kJ kvs k v))) \/
 ∃kvs k b,H a=some (.dT kvs)/\y=.ref b/\H b=some (.tup (k.map kV))/\kvs.length<sizeLine/\H' =upd H a (.dT (kJ kvs k v))
theorem mw.k{H:Hp}{a:Addr}{kvs:List (bK×V)}{k:bK}(e:H a=some (.dK kvs)):mw H a (kV k) (fW kvs k):=.inl ⟨kvs,k,.inl e,rfl,rfl⟩
theorem mw.t{H:Hp}{a b:Addr}{kvs:List (List bK×V)}{k:List bK}(e:H a=some (.dT kvs))(eb:H b=some (.tup (k.map kV))):mw H a (.ref b) (fW kvs k):=.inr ⟨kvs,k,b,.inl e,rfl,eb,rfl⟩
theorem zK.k{H:Hp}{a:Addr}{kvs:List (bK×V)}{k:bK}{v:V}(e:H a=some (.dK kvs))(hl:kvs.length<sizeLine):zK H a (kV k) v (upd H a (.dK (kJ kvs k v))):=.inl ⟨kvs,k,e,rfl,hl,rfl⟩
theorem zK.t{H:Hp}{a b:Addr}{kvs:List (List bK×V)}{k:List bK}{v:V}(e:H a=some (.dT kvs))(eb:H b=some (.tup (k.map kV)))(hl:kvs.length<sizeLine) :
  zK H a (.ref b) v (upd H a (.dT (kJ kvs k v))):=.inr ⟨kvs,k,b,e,rfl,eb,hl,rfl⟩
section
variable{X:Cx}{pins:List (Addr×Obj)}{σ:St}{H:Hp}{s:Shared}{a:Addr}{y v:V}{u r:Value}{o:Option V}{A:Around}{E:Value->Shared->Prop}
theorem tY{Q:Value->Shared->Prop}(hu:A.units+1<cLine)(I:Inv X pins σ H s)(g:mw H a y (some v))(ry:RelV y u)(h:∀w' s',Inv X pins σ H s' ->RelV v w' ->Q w' s') :
  wpAny (model X.prog X.w) A (getItem (.ref a) u) Q E s:=by
 rcases g with⟨kvs,k,e,ey,l⟩|⟨kvs,k,b,e,ey,eb,l⟩
 ·subst ey
  obtain⟨z,hd,vs,rel,dd⟩:=wK I.hok e;obtain⟨w',hw,rw'⟩:=gl.some_of (v:=v) (o:=valueAt vs k) (by rw[l];exact rel.val k);exact wpAny_getItem_of (zp ry) dd.mapOf hw (h w' _ (I.tok _) rw')
 ·subst ey
  cases(show u=Value.ref b from ry);obtain⟨z,hd,xs,rel,dd⟩:=AC I.hok e;obtain⟨w',hw,rw'⟩:=gl.some_of (v:=v) (o:=(atKey xs k).map (·.2)) (by rw[l];exact rel.val k);obtain⟨p,hp,hp2⟩:=Option.map_eq_some_iff.mp hw;refine wpAny_getItem_heap (tupleKind_room_in1 hu) (vm I.hok eb) dd hp ?_;rw[hp2];exact h w' _ (I.tok _) rw'
end
section
variable{X:Cx}{pins:List (Addr×Obj)}{σ:St}{H:Hp}{s:Shared}{a:Addr}{kvs:List (bK×V)}{k:bK}{u:Value}{A:Around}{E:Value->Shared->Prop}
theorem Fv{Q:Value->Shared->Prop}(I:Inv X pins σ H s)(e:Rd H a (.dK kvs))(h:∀t s',Inv X pins σ H s' ->Q (.int kvs.length t) s'):wpAny (model X.prog X.w) A (call (.builtin "len") [.ref a]) Q E s:=by
 obtain⟨z,hd,vs,rel,dd⟩:=wK I.hok e;refine call_len_dict hd dd (by rw[<- rel.length];rw[Ie]at z;omega) ?_;rw[<- rel.length];exact h _ _ (I.tok _)
end
noncomputable def DC(i:Expr):Prop:=∀ov iv,subscripted i false ov iv=operate [ov,iv] (getItem ov iv)
theorem xO{prog:Program}{w:World}{A:Around}{E:Value->Shared->Prop}{s:Shared}{env:Env}{value slice:Expr}{pos:Pos}{T id:String}{Q:Value->Shared->Prop}
  (hl:typeLookup (.type T) "__getitem__"=pure (some (.builtin id))) (hs:DC slice)
  (h:wpAny (model prog w) A (eval value env) (fun o s₁=>wpAny (model prog w) A (eval slice env) (fun i s₂=>s₂.TypeIs o T/\wpAny (model prog w) A (getItem o i) Q E s₂) E s₁) E s) :
  wpAny (model prog w) A (eval (.Subscript value slice pos) env) Q E s:=by
 refine Subscript_ (Ig h (fun o s₁ h₁=>Ig h₁ (fun i s₂ h₂=> ?_) fun _ _ x=>x) fun _ _ x=>x);obtain⟨hT,h₂⟩:=h₂;unfold subscriptTail;refine Gn ?_;rw[getitemInPython_of_ne hT.not_modules];refine Gn (wpAny_specialOf hT hl ?_);have fin:wpAny (model prog w) A (subscripted slice false o i) (fun r s₃=>wpAny (model prog w) A (letTemporaryGo value o r >>= fun _=>pure r) Q E s₃) E s₂:=by
  rw[hs o i];exact wpAny_operating (Ig h₂ (fun r s₃ h₃=>Gn (wpAny_letTemporaryGo (G7 h₃))) fun _ _ x=>x)
 first
  | exact G7 (Gn fin)
  | exact Gn (G7 (Gn fin))
  | exact Gn fin
theorem oS{X:Cx}{pins:List (Addr×Obj)}{σ:St}{H:Hp}{s:Shared}{a:Addr}{y:V}{o:Option V}(I:Inv X pins σ H s)(g:mw H a y o):s.TypeIs (.ref a) "dict":=by
 rcases g with⟨kvs,k,e,_,_⟩|⟨kvs,k,b,e,_,_,_⟩
 ·obtain⟨_,_,vs,_,dd⟩:=wK I.hok e
  exact dd.typeIs
 ·obtain⟨_,_,xs,_,dd⟩:=AC I.hok e
  exact dd.typeIs
noncomputable def EH(td ty:TE):TE:=fun σ H Q=>td σ H fun x H1=>ty σ H1 fun y H2=>∃a v,x=.ref a/\mw H2 a y (some v)/\Q v H2
section
variable{X:Cx}{o i e value:Expr}{pos pos' tpos:Pos}{td ty tv:TE}
theorem qt(hu:X.A.units+1<cLine)(ho:PE X o td)(hi:PE X i ty)(hs:DC i):PE X (.Subscript o i pos) (EH td ty):=by
 intro pins s σ H Q I h;refine xO PySem.F.slot_dict_getitem.lookup hs (bJ (ho pins s σ H _ I h) fun u s1 ⟨x,H1,I1,rx,q1⟩=>bJ (hi pins s1 σ H1 _ I1 q1) fun iv s2 hpq=> ?_);obtain⟨y,H2,I2,ry,a,v,ex,g,q2⟩:=hpq;subst ex;obtain rfl:u=Value.ref a:=rx;exact⟨oS I2 g,tY hu I2 g ry fun w' s3 I3 rw' =>⟨v,H2,I3,rw',q2⟩⟩
end
section
variable{X:Cx}{pos:Pos}
end
noncomputable def Bi(kvs more:List (bK×V)):List (bK×V):=more.foldl (fun acc kv=>kJ acc kv.1 kv.2) kvs
theorem KV.merge:∀{more:List (bK×V)}{rs:List (bK×Value)}{kvs:List (bK×V)}{vs:List (bK×Value)},KV more rs->KV kvs vs->KV (Bi kvs more) (merged vs rs):=by
 intro more rs kvs vs r;unfold KV at r
 induction r generalizing kvs vs with
 | nil=>intro q;exact q
 | @cons p q ps qs h t ih =>
  intro r0;have e:KV (kJ kvs p.1 p.2) (stored vs q.1 q.2):=by
   have:=r0.put p.1 h.2;rw[<- h.1];exact this
  exact ih e
structure M2(X:Cx)(o:Expr)(m:Str)(apos:Pos)(e f:Expr)(cpos:Pos):Prop where
 base:attributeBase o m X.env (eval o X.env)=eval o X.env
 few:((backTo cpos (starEach [e,f] X.env)).all (fun x=> !x.1)&&(backToKw cpos (keywordEach [] X.env)).all (fun x=>x.1.isSome)
  && decide (([e,f]:List Expr).length+([]:List Keyword).length+(if([]:List Keyword).isEmpty then 0 else 1)<30))=true
 line:(apos.endLine==cpos.line)=true
 trees:backTo cpos (starEach [e,f] X.env)=[(false,eval e X.env),(false,eval f X.env)]
section
variable{X:Cx}{pins:List (Addr×Obj)}{σ:St}{H:Hp}{s:Shared}{a:Addr}{y d:V}{u r:Value}{o:Option V}{A:Around}{E:Value->Shared->Prop}
end
section
variable{X:Cx}{o e f:Expr}{apos cpos:Pos}{td ty tx:TE}
end
section
variable{X:Cx}{pins:List (Addr×Obj)}{σ:St}{H:Hp}{s:Shared}{a:Addr}{kvs:List (bK×V)}{A:Around}{E:Value->Shared->Prop}
end
section
variable{X:Cx}{pins:List (Addr×Obj)}{σ:St}{H:Hp}{s:Shared}{a:Addr}{y:V}{u:Value}{A:Around}{E:Value->Shared->Prop}
end
section
variable{κ:Type}[DecidableEq κ]
end
noncomputable def cd(rows:List Str)(i j:Nat):Nat:=((rows.getD i ⟨#[]⟩).cps.toList).getD j 0
noncomputable def fl(c:Nat):Nat:=if c=120 then 46 else 120
noncomputable def sg(o:Bool)(c:Nat):Nat:=if o then fl c else c
noncomputable def Wd(rows:List Str)(w:Nat):Prop:=∀r∈rows,r.length=w
theorem AD{rows:List Str}{w i j:Nat}(hw:Wd rows w)(hi:i<rows.length)(hj:j<w):∃z,rows[i]? =some z/\z.cps.toList[j]? =some (cd rows i j)/\z.length=w:=by
 have e:rows[i]? =some rows[i]:=HA hi;have hl:=hw rows[i] (Jq hi);have hj' :j<rows[i].cps.toList.length:=by
  rw[HJ];show j<rows[i].length;omega
 refine⟨rows[i],e,?_,hl⟩;unfold cd;rw[Hb,Hb,e,Option.getD_some,HA hj',Option.getD_some]
open AutoSeq1 (wpAny_loadPart')
theorem gS:fillsNumberSlot (.type "tuple") "mul"=pure false :=
 PySem.fillsNumberSlot_seq (id:="tuple.__mul__") (r:=some (.builtin "tuple.__rmul__")) F.slot_tuple_mul.lookup (by decide +kernel) F.slot_tuple_rmul.lookup (by decide +kernel)
theorem mC:seqRepeat? (.type "tuple")=pure (some (.builtin "tuple.__mul__")):=by
 unfold seqRepeat?;rw[PySem.seqSlot_of (T:="tuple") (name:="__mul__") (id:="tuple.__mul__") F.slot_tuple_mul.lookup (by decide +kernel),PySem.seqSlot_of (T:="tuple") (name:="__rmul__") (id:="tuple.__rmul__") F.slot_tuple_rmul.lookup (by decide +kernel)];rfl
theorem pJ(a:Int)(t:Tok)(l:Addr)(items:Array Value)(n:Nat)(dd:Option Addr)(sl:Array (Option Value)) :
  Meets (Builtin.«int.__rmul__» ⟨[.int a t,.ref l],[]⟩) (fun _ R s=>s.heap.get? l=some {cls:=.type "tuple",dict:=dd,data:=.seq items n,slots:=sl}/\R (.ok (.ret Value.notImplemented)) s) :=
 .of_wp fun prog w A R s h=>by
  obtain⟨hp,g,d,tk,os⟩:=s;obtain⟨hl,h⟩:=h
  wp_walk
  exact⟨_,rfl,h⟩
theorem o8(l:Addr)(v:Value)(n:Nat)(dd:Option Addr)(sl:Array (Option Value))(u:Tok) :
  Meets (Builtin.«tuple.__mul__» ⟨[.ref l,.int 8 u],[]⟩) (fun _ R s=>s.heap.get? l=some {cls:=.type "tuple",dict:=dd,data:=.seq #[v] n,slots:=sl} /\
   R (.ok (.ret (.ref s.heap.objs.size))) {s with heap:=s.heap.push {cls:=.type "tuple",data:=.seq [v,v,v,v,v,v,v,v].toArray}}) :=
 .of_wp fun prog w A R s h=>by
  obtain⟨hp,g,d,tk,os⟩:=s;obtain⟨hl,h⟩:=h;have f1:=Jb
  wp_walk using Ho hl
  exact⟨_,rfl,h⟩
section
variable{X:Cx}
end
open AutoSeq1 (wpAny_loadPart')
theorem pE(l:Addr)(v:Value)(n:Nat)(dd:Option Addr)(sl:Array (Option Value))(u:Tok) :
  Meets (Builtin.«tuple.__mul__» ⟨[.ref l,.int 2 u],[]⟩) (fun _ R s=>s.heap.get? l=some {cls:=.type "tuple",dict:=dd,data:=.seq #[v] n,slots:=sl} /\
   R (.ok (.ret (.ref s.heap.objs.size))) {s with heap:=s.heap.push {cls:=.type "tuple",data:=.seq [v,v].toArray}}) :=
 .of_wp fun prog w A R s h=>by
  obtain⟨hp,g,d,tk,os⟩:=s;obtain⟨hl,h⟩:=h;have f1:=Jb
  wp_walk using Ho hl
  exact⟨_,rfl,h⟩
theorem pD(l:Addr)(v:Value)(n:Nat)(dd:Option Addr)(sl:Array (Option Value))(u:Tok) :
  Meets (Builtin.«tuple.__mul__» ⟨[.ref l,.int 3 u],[]⟩) (fun _ R s=>s.heap.get? l=some {cls:=.type "tuple",dict:=dd,data:=.seq #[v] n,slots:=sl} /\
   R (.ok (.ret (.ref s.heap.objs.size))) {s with heap:=s.heap.push {cls:=.type "tuple",data:=.seq [v,v,v].toArray}}) :=
 .of_wp fun prog w A R s h=>by
  obtain⟨hp,g,d,tk,os⟩:=s;obtain⟨hl,h⟩:=h;have f1:=Jb
  wp_walk using Ho hl
  exact⟨_,rfl,h⟩
theorem pC(l:Addr)(v:Value)(n:Nat)(dd:Option Addr)(sl:Array (Option Value))(u:Tok) :
  Meets (Builtin.«tuple.__mul__» ⟨[.ref l,.int 4 u],[]⟩) (fun _ R s=>s.heap.get? l=some {cls:=.type "tuple",dict:=dd,data:=.seq #[v] n,slots:=sl} /\
   R (.ok (.ret (.ref s.heap.objs.size))) {s with heap:=s.heap.push {cls:=.type "tuple",data:=.seq [v,v,v,v].toArray}}) :=
 .of_wp fun prog w A R s h=>by
  obtain⟨hp,g,d,tk,os⟩:=s;obtain⟨hl,h⟩:=h;have f1:=Jb
  wp_walk using Ho hl
  exact⟨_,rfl,h⟩
theorem pB(l:Addr)(v:Value)(n:Nat)(dd:Option Addr)(sl:Array (Option Value))(u:Tok) :
  Meets (Builtin.«tuple.__mul__» ⟨[.ref l,.int 5 u],[]⟩) (fun _ R s=>s.heap.get? l=some {cls:=.type "tuple",dict:=dd,data:=.seq #[v] n,slots:=sl} /\
   R (.ok (.ret (.ref s.heap.objs.size))) {s with heap:=s.heap.push {cls:=.type "tuple",data:=.seq [v,v,v,v,v].toArray}}) :=
 .of_wp fun prog w A R s h=>by
  obtain⟨hp,g,d,tk,os⟩:=s;obtain⟨hl,h⟩:=h;have f1:=Jb
  wp_walk using Ho hl
  exact⟨_,rfl,h⟩
theorem pA(l:Addr)(v:Value)(n:Nat)(dd:Option Addr)(sl:Array (Option Value))(u:Tok) :
  Meets (Builtin.«tuple.__mul__» ⟨[.ref l,.int 6 u],[]⟩) (fun _ R s=>s.heap.get? l=some {cls:=.type "tuple",dict:=dd,data:=.seq #[v] n,slots:=sl} /\
   R (.ok (.ret (.ref s.heap.objs.size))) {s with heap:=s.heap.push {cls:=.type "tuple",data:=.seq [v,v,v,v,v,v].toArray}}) :=
 .of_wp fun prog w A R s h=>by
  obtain⟨hp,g,d,tk,os⟩:=s;obtain⟨hl,h⟩:=h;have f1:=Jb
  wp_walk using Ho hl
  exact⟨_,rfl,h⟩
theorem o9(l:Addr)(v:Value)(n:Nat)(dd:Option Addr)(sl:Array (Option Value))(u:Tok) :
  Meets (Builtin.«tuple.__mul__» ⟨[.ref l,.int 7 u],[]⟩) (fun _ R s=>s.heap.get? l=some {cls:=.type "tuple",dict:=dd,data:=.seq #[v] n,slots:=sl} /\
   R (.ok (.ret (.ref s.heap.objs.size))) {s with heap:=s.heap.push {cls:=.type "tuple",data:=.seq [v,v,v,v,v,v,v].toArray}}) :=
 .of_wp fun prog w A R s h=>by
  obtain⟨hp,g,d,tk,os⟩:=s;obtain⟨hl,h⟩:=h;have f1:=Jb
  wp_walk using Ho hl
  exact⟨_,rfl,h⟩
theorem o7(l:Addr)(v:Value)(n:Nat)(dd:Option Addr)(sl:Array (Option Value))(u:Tok)(N:Int)(h3:2<=N)(h8:N<=8) :
  Meets (Builtin.«tuple.__mul__» ⟨[.ref l,.int N u],[]⟩) (fun _ R s=>s.heap.get? l=some {cls:=.type "tuple",dict:=dd,data:=.seq #[v] n,slots:=sl} /\
   R (.ok (.ret (.ref s.heap.objs.size))) {s with heap:=s.heap.push {cls:=.type "tuple",data:=.seq (List.replicate N.toNat v).toArray}}):=by
 have:N=2\/N=3\/N=4\/N=5\/N=6\/N=7\/N=8:=by omega
 rcases this with rfl|rfl|rfl|rfl|rfl|rfl|rfl
 ·exact pE l v n dd sl u
 ·exact pD l v n dd sl u
 ·exact pC l v n dd sl u
 ·exact pB l v n dd sl u
 ·exact pA l v n dd sl u
 ·exact o9 l v n dd sl u
 ·exact o8 l v n dd sl u
section
variable{X:Cx}
theorem BP:du X (compareOp .Is) (fun x y H Q=>∃b c,x=.bl b/\y=.bl c/\Q (.bl (b==c)) H):=by
 intro pins s σ H x y u v Q I rx ry h;obtain⟨b,c,rfl,rfl,q⟩:=h;cases rx;cases ry;exact is_bool ⟨.bl (b==c),H,I,rfl,q⟩
theorem um:Dc X (fun x lo hi H Q=>∃z,x=.str z/\z.length<=sizeLine/\Q (.str (Txt.slice z lo hi)) H):=by
 intro pins s σ H x v vl vu lo hi sl Q I rx hs pl pu h;obtain⟨z,rfl,hz,q⟩:=h;obtain⟨t,rfl⟩:=rx;refine⟨"str",_,slot_str_getitem.lookup,typeIs_str _ _ _,?_⟩;have fin:∀t' k,EP X pins σ Q (.str (Txt.slice z lo hi) t') {s with toks:=k}:=fun t' k=>⟨.str _,H,I.tok _,⟨_,rfl⟩,q⟩;cases pl with
 | none =>
  cases pu with
  | none=>exact KA (l:=none) (u:=none) (st:=none) hs rfl (post_val_or_str ⟨HP (Txt.slice_le z _ _) hz,fin⟩)
  | int j uj=>exact KA (l:=none) (u:=some (j,uj)) (st:=none) hs rfl (post_val_or_str ⟨HP (Txt.slice_le z _ _) hz,fin⟩)
 | int i ui =>
  cases pu with
  | none=>exact KA (l:=some (i,ui)) (u:=none) (st:=none) hs rfl (post_val_or_str ⟨HP (Txt.slice_le z _ _) hz,fin⟩)
  | int j uj=>exact KA (l:=some (i,ui)) (u:=some (j,uj)) (st:=none) hs rfl (post_val_or_str ⟨HP (Txt.slice_le z _ _) hz,fin⟩)
theorem yX(k n:Nat):Builtin.Str.strSliceIndices none (some (k:Int)) 1 n=(List.range (min k n)).map fun i=>0+i:=by
 unfold Builtin.Str.strSliceIndices sliceRange;have c:((if(0:Int)<max 0 (min (k:Int) (n:Int))then(max 0 (min (k:Int) (n:Int))-0+1-1)/1 else 0):Int).toNat=min k n:=by
  rw[Int.ediv_one]
  split<;>omega
 simp only[show(1:Int)>0 by decide,JY,show¬((k:Int)<0)by omega,KG,c];refine Hw fun i _=> ?_;omega
theorem yW(k n:Nat):Builtin.Str.strSliceIndices (some (k:Int)) none 1 n=(List.range (n-min k n)).map fun i=>min k n+i:=by
 unfold Builtin.Str.strSliceIndices sliceRange;have c:((if max 0 (min (k:Int) (n:Int))<(n:Int)then((n:Int)-max 0 (min (k:Int) (n:Int))+1-1)/1 else 0):Int).toNat=n-min k n:=by
  rw[Int.ediv_one]
  split<;>omega
 simp only[show(1:Int)>0 by decide,JY,show¬((k:Int)<0)by omega,KG,c];refine Hw fun i _=> ?_;omega
theorem sU(z:Str)(k:Nat):(Txt.slice z none (some (k:Int))).cps.toList=z.cps.toList.take k:=by
 have l:z.cps.toList.length=z.length:=by rw[HJ];rfl
 have p:=StrLaws.picks z.cps.toList (min k z.length) 0 (by omega);have f:(fun(i:Nat)=>z.cps[i]?)=fun i=>z.cps.toList[i]? :=by funext i;simp
 unfold Txt.slice;rw[yX]
 split
 ·rename_i h
  simp only[Go,Ht,Gv,KD]at h;rw[IQ (by omega)]
 ·rw[f,p,List.drop_zero]
  show(List.take (min k z.length) z.cps.toList).toArray.toList=_;rw[List.toList_toArray,<-l,<-List.take_eq_take_min]
theorem sS(z:Str)(k:Nat):(Txt.slice z (some (k:Int)) none).cps.toList=z.cps.toList.drop k:=by
 have l:z.cps.toList.length=z.length:=by rw[HJ];rfl
 have p:=StrLaws.picks z.cps.toList (z.length-min k z.length) (min k z.length) (by omega);have f:(fun(i:Nat)=>z.cps[i]?)=fun i=>z.cps.toList[i]? :=by funext i;simp
 unfold Txt.slice;rw[yW]
 split
 ·rename_i h
  simp only[Go,Ht,Gv,KD]at h
  by_cases hz:z.length=0
  ·have:z.cps.toList=[]:=List.eq_nil_of_length_eq_zero (by omega)
   rw[this];simp
  ·have:k=0:=by omega
   subst this;rfl
 ·rw[f,p]
  show(List.take (z.length-min k z.length) (List.drop (min k z.length) z.cps.toList)).toArray.toList=_;rw[List.toList_toArray,IQ (by rw[JE];omega)]
  by_cases h:k<=z.length
  ·rw[Ic h]
  ·rw[Nat.min_eq_right (by omega),Ij (by omega),Ij (by omega)]
end
section
variable{P:Program}{w:World}{A:Around}{E:Value->Shared->Prop}{s:Shared}
theorem BW{it a:Addr}{i:Nat}{its:Array Value}{v:Value}{Q:Value->Shared->Prop}(ti:s.heap.IsTupleIter it a i)(ta:s.heap.IsTuple a its)(hv:its[i]? =some v)
  (k:∀h',h'.IsTupleIter it a (i+1)->Heap.SameBut it s.heap h' ->Q v {s with heap:=h'}):wpAny (model P w) A (Builtin.SmallTypes.nextOf (.ref it)) Q E s:=by
 obtain⟨r,hr,rc,rd⟩:=id ti;obtain⟨q,hq,_,nq,qd⟩:=ta;unfold Builtin.SmallTypes.nextOf;refine Gn (JA (name:=Str.ofString "__next__") ti.typeIs F.slot_tuple_iterator_next (IZ F.slot_tuple_iterator_next ti.typeIs F.entry_tuple_iterator_next ?_ (F.args_tuple_iterator_next_1 _)));show wpAny _ _ (field (.ref it) 0 >>= fun _=>_) _ _ s;refine Gn (IJ hr rd (x:=.ref a) rfl ?_);show wpAny _ _ (if(Value.ref a==Value.none)=true then _ else _) _ _ s;rw[Gq (by exact Gz)];show wpAny _ _ (field (.ref it) 1 >>= fun _=>_) _ _ s;refine Gn (IJ hr rd (x:=.int i 0) rfl ?_);show wpAny _ _ (seqItems? (.ref a) >>= fun _=>_) _ _ s;refine Gn (wpAny_seqItems hq qd ?_);simp only[J9,hv];refine Gn (Ja hr rd (by simp) (G7 ⟨v,rfl,G7 (k _ ?_ (Heap.SameBut.update ..))⟩));exact⟨_,Iw _ hr (Iv (IW rd _)),(Obj.cls_mapFields ..).trans rc,by rw[IW rd];simp[rawInt]⟩
theorem pT{it a:Addr}{i:Nat}{its:Array Value}{Q:Value->Shared->Prop}(hd:A.handled=none)(ti:s.heap.IsTupleIter it a i)(ta:s.heap.IsTuple a its)(hv:its[i]? =none)
  (k:∀h' e,Heap.ExtBut it s.heap h' ->(∃o,h'.get? e=some o/\o.cls=.type "StopIteration")->E (.ref e) {s with heap:=h'}):wpAny (model P w) A (Builtin.SmallTypes.nextOf (.ref it)) Q E s:=by
 obtain⟨r,hr,rc,rd⟩:=id ti;obtain⟨q,hq,_,nq,qd⟩:=ta;unfold Builtin.SmallTypes.nextOf;refine Gn (JA (name:=Str.ofString "__next__") ti.typeIs F.slot_tuple_iterator_next (IZ F.slot_tuple_iterator_next ti.typeIs F.entry_tuple_iterator_next ?_ (F.args_tuple_iterator_next_1 _)));show wpAny _ _ (field (.ref it) 0 >>= fun _=>_) _ _ s;refine Gn (IJ hr rd (x:=.ref a) rfl ?_);show wpAny _ _ (if(Value.ref a==Value.none)=true then _ else _) _ _ s;rw[Gq (by exact Gz)];show wpAny _ _ (field (.ref it) 1 >>= fun _=>_) _ _ s;refine Gn (IJ hr rd (x:=.int i 0) rfl ?_);show wpAny _ _ (seqItems? (.ref a) >>= fun _=>_) _ _ s;refine Gn (wpAny_seqItems hq qd ?_);simp only[J9,hv];refine Gn (Jt (Gn (Ja hr rd (by simp) ?_)));show wpAny _ _ (newExc (.type "StopIteration") [] >>= fun _=>_) _ _ _;refine Gn ?_;simp only[newExc,newTuple];refine Gn (IL ?_ (by size_fits));refine Gn (m:=firstArgMember _ _) (Je (a:=Value.none) (by first|(simp only[firstArgMember];rfl)|rfl) ?_);refine IL ?_ (by size_fits);simp only[raiseNew];refine Gn (wpAny_handled ?_)
 first|rw[hd]|rw[show A.in1.handled=none by exact hd]
 refine Gn (G7 (wpAny_throw ?_));exact k _ _ (((Heap.SameBut.update ..).extBut.push _).push _) ⟨_,HH _ rfl,rfl⟩
end
theorem tX{P:Program}{w:World}{A:Around}(hd:A.handled=none)(it a:Addr)(ne:a≠it)(its:Array Value) :
  Draws P w A it [it,a] its.size (fun i v=>its[i]? =some v) (fun i h=>h.IsTupleIter it a i/\h.IsTuple a its) where
 live:=fun _ _ st=>by obtain⟨⟨r,hr,_⟩,_⟩:=st;exact⟨r,hr⟩
 frame:=fun _ _ _ st k=>⟨st.1.at fun o e=>k it (by simp) o e,st.2.at fun o e=>k a (by simp) o e⟩
 item:=fun i s Q E hi st q=>by
  refine BW st.1 st.2 (v:=its[i]) (by simp[hi]) fun h' t' sb=>q _ h' s.toks (by simp[hi]) ⟨t',st.2.extBut sb.extBut ne⟩ sb
 done:=fun s Q E st q=>pT hd st.1 st.2 (by simp) q
open AutoSeq1 (wpAny_loadPart')
theorem nl(a:Addr)(its:Array Value)(n:Nat)(dd:Option Addr)(sl:Array (Option Value)) :
  Meets (Builtin.«enumerate.__new__» ⟨[.type "enumerate",.ref a],[]⟩) (fun _ R s=>s.heap.get? a=some {cls:=.type "tuple",dict:=dd,data:=.seq its n,slots:=sl} /\
   R (.ok (.ret (.ref (s.heap.push {cls:=.type "tuple_iterator",data:=.fields #[.ref a,.int 0 0]}).objs.size)))
    {s with heap:=(s.heap.push {cls:=.type "tuple_iterator",data:=.fields #[.ref a,.int 0 0]}).push {cls:=.type "enumerate",data:=.fields #[.none,.bool false,.ref s.heap.objs.size,rawInt 0,.none,.none]}}) :=
 .of_wp fun prog w A R s h=>by
  obtain⟨hp,g,d,tk,os⟩:=s;obtain⟨ha,h⟩:=h;have hsub:=sub_enumerate;have hT:Heap.IsTuple (Shared.heap ⟨hp,g,d,tk,os⟩) a its:=⟨_,ha,rfl,n,rfl⟩
  wp_walk using Ho ha
  refine wpAny_stack_any fun _=>G7 ?_
  split
  ·rename_i c _ _ _ _ _
   cases(c==Value.type "enumerate")
   ·wp_walk using Ho ha,Kc hT
    exact⟨_,rfl,h⟩
   ·wp_walk using Ho ha,Kc hT
    exact⟨_,rfl,h⟩
  ·wp_walk using Ho ha,Kc hT
   exact⟨_,rfl,h⟩
theorem qI{P:Program}{w:World}{A:Around}{E:Value->Shared->Prop}{s:Shared}{a:Addr}{its:Array Value}{Q:Value->Shared->Prop}(hT:s.heap.IsTuple a its)
  (k:∀h',IsEnum h' (s.heap.objs.size+1) s.heap.objs.size 0 .none->h'.IsTupleIter s.heap.objs.size a 0->(∀b o,s.heap.get? b=some o->h'.get? b=some o)->Q (.ref (s.heap.objs.size+1)) {s with heap:=h'}) :
  wpAny (model P w) A (call (.type "enumerate") [.ref a]) Q E s:=by
 obtain⟨⟨c,dd,dt,sl⟩,ha,hc,n,hd⟩:=hT;simp only at hc hd;subst hc hd;refine callType_new F.called_enumerate (by decide) (F.typeCall_enumerate_1 _) (F.newCall_enumerate_1 _) (fun ob=>F.args_object_init_2 ob _) F.entry_enumerate_new (nl a its n dd sl) ⟨ha,?_⟩;have hz:(s.heap.push {cls:=.type "tuple_iterator",data:=.fields #[.ref a,.int 0 0]}).objs.size=s.heap.objs.size+1:=Heap.size_push ..;show _/\_;rw[hz];have he:IsEnum ((s.heap.push {cls:=.type "tuple_iterator",data:=.fields #[.ref a,.int 0 0]}).push {cls:=.type "enumerate",data:=.fields #[.none,.bool false,.ref s.heap.objs.size,rawInt 0,.none,.none]}) (s.heap.objs.size+1) s.heap.objs.size 0 .none:=by
  have q:=HH (s.heap.push {cls:=.type "tuple_iterator",data:=.fields #[.ref a,.int 0 0]}) (o:={cls:=.type "enumerate",data:=.fields #[.none,.bool false,.ref s.heap.objs.size,rawInt 0,.none,.none]}) rfl;rw[hz]at q;exact q
 exact⟨⟨_,he,rfl⟩,k _ he ⟨_,Gp _ (HH _ rfl),rfl,rfl⟩ fun b o y=>Gp _ (Gp _ y)⟩
noncomputable def Ite(src:Hp->List V->Prop):It :=
 ⟨fun i H=>∃xs x,src H xs/\xs[i]? =some x,fun i H v H' =>∃p,H p=none/\v=.ref p/\∀xs x,src H xs->xs[i]? =some x->H' =upd H p (.tup [.int (i:Nat),x]),fun i H=>∃xs,src H xs/\xs.length=i⟩
structure sE(P:Program)(w:World)(K:W.Frag)(src:Hp->List V->Prop)(e it:Addr)(tn:Nat->Heap->Prop):Prop where
 ne:e≠it
 obj:∀i h,tn i h->∃o,h.get? it=some o/\∀v,o.data≠.cell v
 keep:∀i h h',tn i h->(∀o,h.get? it=some o->h'.get? it=some o)->tn i h'
 inj:∀(X:Cx) pins s σ H xs ys,X.K=K->Inv X pins σ H s->src H xs->src H ys->xs=ys
 draws:∀(X:Cx) pins s σ H xs (i:Nat),X.prog=P->X.w=w->X.K=K->X.calm=true->Inv X pins σ H s->src H xs->tn i s.heap->∃(fp:List Addr)(Pw:Nat->Value->Prop)(St:Nat->Heap->Prop),
  Draws P w X.A.in1 it fp xs.length Pw St/\e∉fp/\St i s.heap/\(∀j v x,Pw j v->xs[j]? =some x->RelV x v)/\∀j h,St j h->tn j h
theorem gJ{P:Program}{w:World}{K:W.Frag}{es:List Expr}{kt:Nat}{tpos:Pos}{src:Hp->List V->Prop}{e it:Addr}{tn:Nat->Heap->Prop}(S:sE P w K src e it tn) :
  mq P w K (.Tuple es kt tpos) (Ite src) [e,it] e (fun i h=>(∃old,IsEnum h e it (i:Nat) old)/\tn i h) where
 mem:=by simp
 obj:=fun i h st c hc=>by
  obtain⟨⟨old,he⟩,ht⟩:=st;simp only[HE,Hk,Js]at hc
  rcases hc with rfl|rfl
  ·exact⟨_,he,fun v z=>by cases z⟩
  ·exact S.obj i h ht
 keep:=fun i h h' st k=>by
  obtain⟨⟨old,he⟩,ht⟩:=st;exact⟨⟨old,k e (by simp) _ he⟩,S.keep i h h' ht fun o q=>k it (by simp) o q⟩
 item:=by
  intro X hP hw hK hc i pins s σ H E I hf st hg;obtain⟨⟨old,he⟩,ht⟩:=st;obtain⟨xs,x,hs,hx⟩:=hg;obtain⟨fp,Pw,St,D,hef,hst,hrel,hback⟩:=S.draws X pins s σ H xs i hP hw hK hc I hs ht;subst hP hw hK;have hlt:i<xs.length:=(G9.mp hx).1;have elt:e<s.heap.objs.size:=G8 he;have ilt:it<s.heap.objs.size:=by obtain⟨o,ho,_⟩:=S.obj i _ ht;exact G8 ho
  refine wpAny_pyNext_enum_itemD D he hst hlt S.ne hef fun u h' tk hu ho hst' hT hsz hk=> ?_;refine⟨_,rfl,wpAny_letOwnedTupleGo_enum ho fun h'' he' hs' => ?_⟩;have kk:∀c o,c∉[e,it]->s.heap.get? c=some o->h''.get? c=some o:=fun c o hc' y=>by
   simp only[HE,Hk,Js,not_or]at hc';exact(hs'.2 c hc'.1).trans (hk c o hc'.1 hc'.2 y)
  have new:h''.get? s.heap.objs.size=some {cls:=.type "tuple",data:=.seq #[.int i tk,u]}:=(hs'.2 _ (J0 elt)).trans hT
  have I1:Inv X pins σ (upd H s.heap.objs.size (.tup [.int (i:Nat),x])) {s with heap:=h'',toks:=tk+1} :=
   I.drew (t' :=tk+1) hf kk (Gr _) ⟨by show 2<=sizeLine;decide,[.int i tk,u],.cons ⟨tk,rfl⟩ (.cons (hrel i u x hu hx) .nil),⟨_,new,rfl,_,rfl,rfl⟩⟩
  refine⟨.ref s.heap.objs.size,_,I1,rfl,⟨s.heap.objs.size,I.hok.fresh (Gr _),rfl,fun xs' x' hs2 hx2=> ?_⟩,⟨⟨u,by simpa using he'⟩,S.keep _ _ _ (hback _ _ hst') fun o y=>(hs'.2 it S.ne.symm).trans y⟩,fun c hc' => ?_⟩
  ·have q:=S.inj X pins s σ H _ _ rfl I hs hs2
   subst q;rw[hx]at hx2;cases hx2;rfl
  ·rw[aR ?_]
   ·exact(hf c hc').1
   ·simp only[HE,Hk,Js]at hc'
    rcases hc' with rfl|rfl
    ·exact HV elt
    ·exact HV ilt
 done:=by
  intro X hP hw hK hc i pins s σ H E I hf st hg;obtain⟨⟨old,he⟩,ht⟩:=st;obtain⟨xs,hs,hx⟩:=hg;obtain⟨fp,Pw,St,D,hef,hst,hrel,hback⟩:=S.draws X pins s σ H xs i hP hw hK hc I hs ht;subst hP hw hK;subst hx;exact wpAny_pyNext_enum_endD D he hst fun h' hk=>⟨rfl,I.drew0 (t' :=s.toks) hf fun c o hc' y=>hk c o (by simp only[HE,Hk,Js,not_or]at hc';exact hc'.2) y⟩
 self:=fun _ _ _ _ _ st h=>by
  obtain⟨⟨old,he⟩,_⟩:=st;exact Kg he h
theorem tU{P:Program}{w:World}{K:W.Frag}{a e it:Addr}(h1:e≠it)(h2:a≠it)(h3:a≠e):sE P w K (fun H xs=>ba K H a xs) e it (fun i h=>h.IsTupleIter it a i) where
 ne:=h1
 obj:=fun i h st=>by
  obtain⟨o,ho,_,d⟩:=st;exact⟨o,ho,fun v z=>by rw[d]at z;cases z⟩
 keep:=fun i h h' st k=>st.at k
 inj:=fun X pins s σ H xs ys hK I h1 h2=>by
  subst hK;exact I.tuple_inj h1 h2
 draws:=fun X pins s σ H xs i hP hw hK hc I hs ht=>by
  subst hP hw hK;obtain⟨its,r,p,_⟩:=I.tuple hs;have l:=r.length;have D:=tX (P:=X.prog) (w:=X.w) (A:=X.A.in1) (I.ok.hd hc) it a h2 its.toArray;rw[Gx,<-l]at D;refine⟨_,_,_,D,by simp[h1,h3.symm],⟨ht,p⟩,fun j v x hv hx=> ?_,fun j h st=>st.1⟩;obtain⟨u,hu,ru⟩:=r.get hx;have e:its[j]? =some v:=by simpa using hv
  rw[hu]at e;cases e;exact ru
theorem tW{P:Program}{w:World}{K:W.Frag}{z:Str}{t:Tok}{e it:Addr}(h1:e≠it):sE P w K (fun _ xs=>xs=cB z) e it (fun i h=>h.IsStrIter it (strIterType z) z t i) where
 ne:=h1
 obj:=fun i h st=>by
  obtain⟨o,ho,_,d⟩:=st;exact⟨o,ho,fun v z=>by rw[d]at z;cases z⟩
 keep:=fun i h h' st k=>by
  obtain⟨o,ho,r⟩:=st;exact⟨o,k o ho,r⟩
 inj:=fun X pins s σ H xs ys hK I h1 h2=>by rw[h1,h2]
 draws:=fun X pins s σ H xs i hP hw hK hc I hs ht=>by
  subst hP hw hK hs;have l:(cB z).length=z.cps.size:=by rw[jF];rfl
  have rel:∀(j:Nat)(v:Value)(x:V),(∃c u,z.cps[j]? =some c/\v=.str ⟨#[c]⟩ u)->(cB z)[j]? =some x->RelV x v:=fun j v x hv hx=>by
   obtain⟨c,u,hc',rfl⟩:=hv;unfold cB at hx;rw[HG,HU,hc']at hx;cases hx;exact⟨u,rfl⟩
  rw[l];cases ha:z.cps.all (·<128)with
  | true =>
   have e:strIterType z="str_ascii_iterator":=by unfold strIterType;rw[Gu ha]
   rw[e]at ht ⊢;exact⟨_,_,_,Draws.strAscii (prog:=X.prog) (w:=X.w) (A:=X.A.in1) (I.ok.hd hc) it z t,by simp[h1],ht,rel,fun j h st=>st⟩
  | false =>
   have e:strIterType z="str_iterator":=by unfold strIterType;rw[Gq (by rw[ha];exact Gz)]
   rw[e]at ht ⊢;exact⟨_,_,_,Draws.strWide (prog:=X.prog) (w:=X.w) (A:=X.A.in1) (I.ok.hd hc) it z t,by simp[h1],ht,rel,fun j h st=>st⟩
section
variable{X:Cx}
noncomputable def B3(K:W.Frag)(ta:TA):TI:=fun σ H R=>ta σ H fun vs H1=>∃a xs,vs=[.ref a]/\ba K H1 a xs/\R (Ite fun H xs=>ba K H a xs) H1
noncomputable def B4(ta:TA):TI:=fun σ H R=>ta σ H fun vs H1=>∃z,vs=[.str z]/\R (Ite fun _ xs=>xs=cB z) H1
theorem vG{es:List Expr}{kt:Nat}{tpos:Pos}{a:Expr}{ta:TA}{p pos:Pos}(hg:Gl X "enumerate")(hm:X.mg "enumerate"=none)(ha:PA X [a] ta)(hs:starEach [a] X.env=[(false,eval a X.env)]:=by rfl) :
  PI X (.Tuple es kt tpos) (.Call (.Name "enumerate" p) [a] [] pos) (B3 X.K ta):=by
 intro pins s σ H R I h;refine Call_ (bv I hg hm boot_enumerate (He (bJ (ha pos pins s σ H _ I h) fun us s1 ⟨vs,H1,I1,r1,q1⟩=> ?_) hs rfl));obtain⟨l,xs,e,sa,q⟩:=q1;subst e;obtain⟨u,rfl,ru⟩:=vals1 r1;cases ru;obtain⟨its,r,pt,_⟩:=I1.tuple sa;have lt:l<s1.heap.objs.size:=by obtain⟨o,e,_⟩:=id pt;exact G8 e
 refine qI pt fun h' he gI hk=> ?_;refine Kg he ?_;have I2:Inv X pins σ H1 {s1 with heap:=h'}:=I1.kept (t' :=s1.toks) hk;refine⟨s1.heap.objs.size+1,[s1.heap.objs.size+1,s1.heap.objs.size],_,_,H1,rfl,I2,gJ (tU (Nat.succ_ne_self _) (HV lt) (HV (Jg lt))),⟨⟨_,he⟩,gI⟩,fun c hc=> ?_,q⟩;have le:s1.heap.objs.size<=c:=by
  simp only[HE,Hk,Js]at hc
  rcases hc with rfl|rfl<;>omega
 exact I1.fpOk le (I1.hok.fresh le)
theorem vH{es:List Expr}{kt:Nat}{tpos:Pos}{a:Expr}{ta:TA}{p pos:Pos}(hg:Gl X "enumerate")(hm:X.mg "enumerate"=none)(ha:PA X [a] ta)(hs:starEach [a] X.env=[(false,eval a X.env)]:=by rfl) :
  PI X (.Tuple es kt tpos) (.Call (.Name "enumerate" p) [a] [] pos) (B4 ta):=by
 intro pins s σ H R I h;refine Call_ (bv I hg hm boot_enumerate (He (bJ (ha pos pins s σ H _ I h) fun us s1 ⟨vs,H1,I1,r1,q1⟩=> ?_) hs rfl));obtain⟨z,e,q⟩:=q1;subst e;obtain⟨u,rfl,t,rfl⟩:=vals1 r1;refine call_enumerate_str fun h' he gI _ hk=> ?_;refine Kg he ?_;have I2:Inv X pins σ H1 {s1 with heap:=h'}:=I1.kept (t' :=s1.toks) hk;refine⟨s1.heap.objs.size+1,[s1.heap.objs.size+1,s1.heap.objs.size],_,_,H1,rfl,I2,gJ (tW (Nat.succ_ne_self _)),⟨⟨_,he⟩,gI⟩,fun c hc=> ?_,q⟩;have le:s1.heap.objs.size<=c:=by
  simp only[HE,Hk,Js]at hc
  rcases hc with rfl|rfl<;>omega
 exact I1.fpOk le (I1.hok.fresh le)
theorem m6{ns:List Int}{us:List Value}{i:Nat}{v:Value}(r:aO (ns.map V.int) us)(h:us[i]? =some v):∃t,v=.int (ns.getD i 0) t:=by
 have hl:=r.length;rw[Go]at hl;have hi:i<us.length:=(G9.mp h).1;obtain⟨u,hu,ru⟩:=r.get (i:=i) (x:=.int (ns[i]'(by omega))) (by simp[show i<ns.length by omega]);rw[hu]at h;cases h;obtain⟨t,e⟩:=ru;refine⟨t,?_⟩;rw[e];simp[List.getD,show i<ns.length by omega]
theorem iP(ns:List Int):∀k,k<=ns.length->preSum (fun i=>ns.getD i 0) k=(ns.take k).sum
 | 0,_=>by simp[preSum]
 | k+1,h=>by
  have e:ns.take (k+1)=ns.take k++[ns[k]'(by omega)]:=by rw[List.take_add_one];simp[show k<ns.length by omega]
  rw[preSum,iP ns k (by omega),e,KI];simp[List.getD,show k<ns.length by omega]
theorem kS(hc:X.calm=true):bL X (.builtin "sum") (fun xs H Q=>∃(p:Addr)(ns:List Int),xs=[.ref p]/\bP X.K H p (ns.map V.int)/\Q (.int ns.sum) H):=by
 intro pins s σ H xs us Q I r h;obtain⟨p,ns,rfl,hq,q⟩:=h;obtain⟨u,rfl,rx⟩:=vals1 r;cases rx;obtain⟨its,r',pl,hz⟩:=I.list hq;have hlen:=r'.length;rw[Go]at hlen;have hp:p<s.heap.objs.size:=by
  obtain⟨o,e,_⟩:=pl.isList;exact G8 e
 refine call_sum_walkAnyS (wpAny_pyIter_list pl.isList ?_);refine⟨s.heap.objs.size,_,_,_,its.toArray.size,_,_,(fun i=>ns.getD i 0),rfl,(Walks.list (A:=X.A.in1) (I.ok.hd hc) s.heap.objs.size p (HV hp) its.toArray).toS,⟨⟨_,HH _ rfl,rfl,rfl⟩,pl.isList.push _⟩,?_,?_,?_⟩
 ·intro b hb
  simp at hb
  rcases hb with rfl|rfl
  ·rw[size_push'];exact Nat.lt_succ_self _
  ·rw[size_push'];exact Jg hp
 ·intro i v hv
  exact m6 r' (by simpa using hv)
 ·intro s' t' hm
  obtain⟨m1,m2,m3,m4,m5⟩:=hm;have e:s' ={s with heap:=s'.heap,toks:=s'.toks}:=by
   cases s';simp only at m2 m3 m4;subst m2 m3 m4;rfl
  rw[e];refine⟨.int ns.sum,H,I.kept (t' :=s'.toks) (fun b o z=>m1 b o (by simpa using HV (G8 z)) (Gp _ z)),⟨t',?_⟩,q⟩;rw[Gx,<-hlen,iP ns _ (Gr _),KF]
theorem fT:∀{us:List Value}{ns:List Int},IntsAre us ns->aO (ns.map V.int) us
 | _,_,.nil=>.nil
 | _,_,.cons n t r=>.cons ⟨t,rfl⟩ (fT r)
noncomputable def sortI(ns:List Int):List Int:=ns.mergeSort (fun a b=>decide (a<=b))
theorem sortI_perm(ns:List Int):(sortI ns).Perm ns:=KJ _ _
theorem uf(ns:List Int):(sortI ns).Pairwise (·<=·):=by
 have:=Jx (le:=fun a b:Int=>decide (a<=b)) (fun a b c h1 h2=>by simp at *;omega) (fun a b=>by simp;omega) ns;exact this.imp fun h=>by simpa using h
theorem lu{ns ms:List Int}(h:ms.Perm ns)(s:ms.Pairwise (·<=·)):ms=sortI ns :=
 Ju (le:=(·<=·)) (fun a b _ _ h1 h2=>Int.le_antisymm h1 h2) s (uf ns) (h.trans (sortI_perm ns).symm)
theorem gf:bL X (.builtin "sorted") (fun xs H Q=>∃(p:Addr)(ns:List Int),xs=[.ref p]/\bP X.K H p (ns.map V.int)/\ns.length<64/\∀a,H a=none->Q (.ref a) (upd H a (.lst ((sortI ns).map V.int)))):=by
 intro pins s σ H xs us Q I r h;obtain⟨p,ns,rfl,hq,h64,q⟩:=h;obtain⟨u,rfl,rx⟩:=vals1 r;cases rx;obtain⟨its,r',pl,hz⟩:=I.list hq;have hlen:=r'.length;rw[Go]at hlen;refine sorted_ints pl.isList (intsAre_of r') (by omega) fun out ns' a1 a2 a3=> ?_;have e:=lu a2 a3;subst e;obtain⟨c,hc⟩:=sortedAll_at s.heap its out;refine⟨.ref (s.heap.objs.size+1),_,I.laid (t' :=s.toks) (o:=.lst ((sortI ns).map V.int)) (fun b o z=>sortedAll_old z) (Nat.le_succ _) ?_,rfl,q _ (I.hok.fresh (Nat.le_succ _))⟩;refine⟨?_,out.toList,c,fT a1,by simpa [seqObj]using hc⟩;rw[Go,(sortI_perm ns).length_eq];have:=Ie;omega
theorem p0{P:Program}{w:World}{K:W.Frag}{a e it:Addr}(h1:e≠it)(h2:a≠it)(h3:a≠e):sE P w K (fun H xs=>bP K H a xs) e it (fun i h=>h.IsListIter it a i) where
 ne:=h1
 obj:=fun i h st=>by
  obtain⟨o,ho,_,d⟩:=st;exact⟨o,ho,fun v z=>by rw[d]at z;cases z⟩
 keep:=fun i h h' st k=>st.at k
 inj:=fun X pins s σ H xs ys hK I h1 h2=>by
  subst hK;exact I.list_inj h1 h2
 draws:=fun X pins s σ H xs i hP hw hK hc I hs ht=>by
  subst hP hw hK;obtain⟨its,r,p,_⟩:=I.list hs;have l:=r.length;have D:=Draws.list (prog:=X.prog) (w:=X.w) (A:=X.A.in1) (I.ok.hd hc) it a h2 its.toArray;rw[Gx,<-l]at D;refine⟨_,_,_,D,by simp[h1,h3.symm],⟨ht,p.isList⟩,fun j v x hv hx=> ?_,fun j h st=>st.1⟩;obtain⟨u,hu,ru⟩:=r.get hx;have e:its[j]? =some v:=by simpa using hv
  rw[hu]at e;cases e;exact ru
noncomputable def B5(K:W.Frag)(ta:TA):TI:=fun σ H R=>ta σ H fun vs H1=>∃a xs,vs=[.ref a]/\bP K H1 a xs/\R (Ite fun H xs=>bP K H a xs) H1
theorem vI{es:List Expr}{kt:Nat}{tpos:Pos}{a:Expr}{ta:TA}{p pos:Pos}(hg:Gl X "enumerate")(hm:X.mg "enumerate"=none)(ha:PA X [a] ta)(hs:starEach [a] X.env=[(false,eval a X.env)]:=by rfl) :
  PI X (.Tuple es kt tpos) (.Call (.Name "enumerate" p) [a] [] pos) (B5 X.K ta):=by
 intro pins s σ H R I h;refine Call_ (bv I hg hm boot_enumerate (He (bJ (ha pos pins s σ H _ I h) fun us s1 ⟨vs,H1,I1,r1,q1⟩=> ?_) hs rfl));obtain⟨l,xs,e,sa,q⟩:=q1;subst e;obtain⟨u,rfl,ru⟩:=vals1 r1;cases ru;obtain⟨its,r,pt,_⟩:=I1.list sa;have lt:l<s1.heap.objs.size:=by obtain⟨o,e,_⟩:=pt.isList;exact G8 e
 refine call_enumerate_list pt.isList fun h' he gI hl hk=> ?_;refine Kg he ?_;have I2:Inv X pins σ H1 {s1 with heap:=h'}:=I1.kept (t' :=s1.toks) hk;refine⟨s1.heap.objs.size+1,[s1.heap.objs.size+1,s1.heap.objs.size],_,_,H1,rfl,I2,gJ (p0 (Nat.succ_ne_self _) (HV lt) (HV (Jg lt))),⟨⟨_,he⟩,gI⟩,fun c hc=> ?_,q⟩;have le:s1.heap.objs.size<=c:=by
  simp only[HE,Hk,Js]at hc
  rcases hc with rfl|rfl<;>omega
 exact I1.fpOk le (I1.hok.fresh le)
noncomputable def wy(i j:Int):Prop:=i.natAbs<2^2000/\j.natAbs<2^2000
theorem intBits_le{k:Int}(h:k.natAbs<2^2000):Builtin.Int.intBits k<=2000:=by
 unfold Builtin.Int.intBits
 split
 ·exact Hu _
 ·have:k.natAbs.log2<2000:=by
   rcases Nat.eq_zero_or_pos k.natAbs with h0|hp
   ·rw[h0];decide
   ·exact(Nat.log2_lt (J0 hp)).mpr h
  omega
theorem wy.ok{i j:Int}(h:wy i j):IntMulOk i j:=by
 unfold IntMulOk;have h1:=intBits_le h.1;have h2:=intBits_le h.2;have h3:Builtin.Int.intTooBig (Builtin.Int.intBits i+Builtin.Int.intBits j)=false:=by
  unfold Builtin.Int.intTooBig;have:((4000:Nat):Int)<=(bitsLine:Nat):=by decide
  exact HS (by omega)
 rw[h3];simp
theorem x9:du X (binaryOp .Mult) (rI wy fun i j=>.int (i*j)):=FH fun _ _ _ _ _ _ _ hc q=>mul_int q hc.ok
theorem qG:bL X (.builtin "len") (fun xs H Q=>∃a kvs,xs=[V.ref a]/\Rd H a (.dK kvs)/\Q (.int kvs.length) H):=by
 intro pins s σ H xs us Q I r h;obtain⟨a,kvs,rfl,ha,q⟩:=h;obtain⟨u,rfl,ru⟩:=vals1 r;cases ru;exact Fv I ha fun t s' I' =>⟨.int kvs.length,H,I',⟨t,rfl⟩,q⟩
noncomputable def NF(X:Cx)(a:Addr):Prop:=∀o u,X.H₀ a≠some (.frz o u)
theorem Inv.nf{pins:List (Addr×Obj)}{σ:St}{H:Hp}{s:Shared}{a:Addr}{kvs:List (bK×V)}(I:Inv X pins σ H s)(ha:H a=some (.dK kvs)):NF X a:=fun o u e=>by
 have:=I.base.frzs a o u e;rw[ha]at this;cases this
end
namespace RV
theorem Ed:Slot "reversed" "__length_hint__" "reversed.__length_hint__":=by
 refine .of (owner:="reversed") (n:="__length_hint__") ?_ (by decide +kernel) (by decide +kernel) (by decide +kernel) ?_ ?_
 ·rw[KS,Jn];kernel_rfl
 ·first|exact .inl (by decide +kernel)|exact .inr (by decide +kernel)
 ·rw[isSubtype_type];kernel_rfl
theorem Fs:entryFor table "reversed.__length_hint__"=some Builtin.«reversed.__length_hint__»:=entryFor_of_tree (by kernel_rfl)
theorem GZ(v:Value):argsOk "reversed.__length_hint__" ⟨[v],[]⟩:=by unfold argsOk;kernel_rfl
section
variable{prog:Program}{w:World}{A:Around}{E:Value->Shared->Prop}{s:Shared}{x:Str}{t:Tok}
end
end RV
end L2
namespace L2
open PySem PySem.Spec PyProof.Rows
namespace RV
noncomputable def DQ(h:Heap)(a:Addr)(x:Str)(t:Tok)(i:Int):Prop:=∃o,h.get? a=some o/\o.cls=.type "reversed"/\o.data=.fields #[.str x t,rawInt i]
section
variable{prog:Program}{w:World}{A:Around}{E:Value->Shared->Prop}{s:Shared}{x:Str}{t:Tok}{a:Addr}
theorem DQ.ty{i:Int}(r:DQ s.heap a x t i):s.TypeIs (.ref a) "reversed":=by
 obtain⟨o,e,c,_⟩:=r;exact⟨o,e,c⟩
theorem aj{Q:Value->Shared->Prop}(r:DQ s.heap a x t ((x.length:Int)-1))(hx:x.length<=sizeLine)
  (h:∀u tk,s.toks<=tk->Q (.int x.length u) {s with toks:=tk}):wpAny (model prog w) A (call (.builtin "reversed.__length_hint__") [.ref a]) Q E s:=by
 obtain⟨o,e,oc,od⟩:=id r;refine IZ Ed r.ty Fs ?_ (GZ _);unfold Builtin.«reversed.__length_hint__»;refine Gn (Je (a:=Value.ref a) rfl ?_);refine Gn (IJ e od (x:=.str x t) rfl ?_);show wpAny _ _ (call (.builtin "len") [.str x t] >>= _) _ _ _;refine Gn (P.len_str (by have:sizeLine<2^63:=(by decide);omega) ?_);refine Gn (m:=asInt? (.int _ _)) (G7 ?_);dsimp only;refine Gn (IJ e od (x:=rawInt ((x.length:Int)-1)) rfl ?_);show wpAny _ _ (if(x.length:Int)<(x.length:Int)-1+1 then _ else _) _ _ _;rw[Gq (by omega),show(x.length:Int)-1+1=x.length by omega];exact Gn (wpAny_mkInt (G7 ⟨_,rfl,h _ _ (by simp;omega)⟩))
end
end RV
end L2
namespace L2
open PySem PySem.Spec PyProof.Rows
namespace RV
section
variable{prog:Program}{w:World}{A:Around}{E:Value->Shared->Prop}{s:Shared}{x:Str}{t:Tok}{a:Addr}
end
end RV
end L2
namespace L2
open PySem PySem.Spec PyProof.Rows
namespace RV
open Builtin Builtin.Str Builtin.Int
section
variable{prog:Program}{w:World}{A:Around}{E:Value->Shared->Prop}{s:Shared}{x sep:Str}{t u:Tok}{a:Addr}
end
end RV
section
variable{X:Cx}
end
end L2
namespace L2
open PySem PySem.Spec PyProof.Rows
section
variable{X:Cx}
section
variable{prog:Program}{w:World}{A:Around}{E:Value->Shared->Prop}{s:Shared}{d:Addr}{od:Obj}{es:Array DictEntry}{ep:Nat}
end
section
variable{prog:Program}{w:World}{A:Around}{E:Value->Shared->Prop}{s:Shared}
end
noncomputable def Itv(K:W.Frag)(a:Addr)(n:Nat):It :=
 ⟨fun i H=>i<n/\∃xs,bP K H a xs/\xs.length=n,fun i H x H' =>H' =H/\∀xs,bP K H a xs->xs.length=n->xs[n-1-i]? =some x,fun i H=>i=n/\∃xs,bP K H a xs/\xs.length=n⟩
theorem uO{P:Program}{w:World}{K:W.Frag}{tg:Expr}(a it:Addr)(n:Nat):mq P w K tg (Itv K a n) [it] it (fun i h=>h.IsRevIter it a ((n:Int)-1-(i:Nat))) where
 mem:=by simp
 obj:=fun i h st b hb=>by
  have e:b=it:=by simpa using hb
  subst e;obtain⟨o,e,c,d⟩:=st;exact⟨o,e,fun v z=>by rw[d]at z;cases z⟩
 keep:=fun i h h' st k=>st.at fun o e=>k it (by simp) o e
 item:=by
  intro X hP hw hK hc i pins s σ H E I hf st hg;subst hP hw hK;obtain⟨hi,xs,hq,hn⟩:=hg;obtain⟨its,rv,p,hz⟩:=I.list hq;have hx:xs[n-1-i]? =some (xs[n-1-i]'(by omega)):=HA (by omega);obtain⟨u,hu,ru⟩:=rv.get hx;obtain⟨f0,f1,f2,f3,f4,f5⟩:=hf it (by simp);have st2:s.heap.IsRevIter it a ((n-1-i:Nat):Int):=by
   rw[show((n-1-i:Nat):Int)=(n:Int)-1-(i:Nat)by omega];exact st
  refine wpAny_pyNext_rev_item st2 p.isList (x:=u) (by simpa using hu) fun h' st' sb=> ?_;have I1:Inv X pins σ H {s with heap:=h'}:=I.turned (t' :=s.toks) (fun b o hb e=>(sb.2 b hb).trans e) f0 f1 f3 f4 f5;obtain⟨o,e,c,d⟩:=id st';have st3:h'.IsRevIter it a ((n:Int)-1-((i+1:Nat):Int)):=by
   rw[show(n:Int)-1-((i+1:Nat):Int)=((n-1-i:Nat):Int)-1 by omega];exact st'
  exact⟨u,rfl,lN (s:={s with heap:=h'}) e c d (by decide) ⟨_,H,I1,ru,⟨rfl,fun ys hy _=>by rw[I.list_inj hy hq];exact hx⟩,st3,fun b hb=>(hf b hb).1⟩⟩
 done:=by
  intro X hP hw hK hc i pins s σ H E I hf st hg;subst hP hw hK;obtain⟨rfl,_⟩:=hg;obtain⟨f0,f1,f2,f3,f4,f5⟩:=hf it (by simp);have st2:s.heap.IsRevIter it a (-1):=by
   rw[show(-1:Int)=(i:Int)-1-(i:Nat)by omega];exact st
  exact wpAny_pyNext_rev_end (I.ok.hd hc) st2 fun h' eb=>⟨rfl,I.turned (t' :=s.toks) (fun b o hb e=>eb b o hb e) f0 f1 f3 f4 f5⟩
 self:=fun _ _ _ _ _ st h=>wpAny_pyIter_revIter st h
noncomputable def iRvd(K:W.Frag)(ta:TA):TI:=fun σ H R=>ta σ H fun vs H1=>∃a xs,vs=[.ref a]/\bP K H1 a xs/\R (Itv K a xs.length) H1
theorem BC{tg:Expr}{a:Expr}{ta:TA}{p pos:Pos}(hg:Gl X "reversed")(hm:X.mg "reversed"=none)(ha:PA X [a] ta)(hs:starEach [a] X.env=[(false,eval a X.env)]:=by rfl) :
  PI X tg (.Call (.Name "reversed" p) [a] [] pos) (iRvd X.K ta):=by
 intro pins s σ H R I h;refine Call_ (bv I hg hm boot_reversed (He (bJ (ha pos pins s σ H _ I h) fun us s1 ⟨vs,H1,I1,r1,q1⟩=> ?_) hs rfl));obtain⟨l,xs,e,sa,q⟩:=q1;subst e;obtain⟨u,rfl,ru⟩:=vals1 r1;cases ru;obtain⟨its,r,pt,_⟩:=I1.list sa;have hl:=r.length;refine call_reversed_list pt.isList ?_;have gI:(s1.heap.push (revObj l ((its.toArray.size:Int)-1))).IsRevIter s1.heap.objs.size l ((its.toArray.size:Int)-1):=⟨_,HH _ rfl,rfl,rfl⟩;refine wpAny_pyIter_revIter gI ?_;have I2:Inv X pins σ H1 {s1 with heap:=s1.heap.push (revObj l ((its.toArray.size:Int)-1))}:=I1.kept (t' :=s1.toks) fun b o e=>Gp _ e;refine⟨s1.heap.objs.size,[s1.heap.objs.size],_,_,H1,rfl,I2,uO l _ xs.length,?_,fun b hb=> ?_,q⟩
 ·show(s1.heap.push _).IsRevIter s1.heap.objs.size l ((xs.length:Int)-1-((0:Nat):Int))
  rw[show(xs.length:Int)-1-((0:Nat):Int)=(its.toArray.size:Int)-1 by rw[Gx];omega];exact gI
 ·have e:b=s1.heap.objs.size:=by simpa using hb
  subst e;exact I1.fpOk (Gr _) (I1.hok.fresh (Gr _))
end
section
variable{prog:Program}{w:World}{A:Around}{E:Value->Shared->Prop}{s:Shared}
end
section
variable{X:Cx}
end
end L2
namespace SQ
open PySem
noncomputable def lst(m:Nat):List Nat:=(List.range 8).filter fun v=>m/2^v%2==1
noncomputable def put(m v:Nat):Nat:=if m/2^v%2=1 then m else m+2^v
noncomputable def tab(led:Bool)(m:Nat):SetTable:={mask:=if(lst m).length<5 then 7 else 31,place:=(lst m).toArray,dummies:= #[],finger:=0,led:=led,moves:=if(lst m).length<5 then 0 else 1,plain:=true}
noncomputable def dr(m v:Nat):Nat:=((lst m).filter (·<v)).length
noncomputable def su:Value->Option Int
 | .int i _=>some i
 | _=>none
theorem sr{x:Value}{i:Int}(h:su x=some i):∃t,x=.int i t:=by
 cases x<;>simp[su]at h;subst h;exact⟨_,rfl⟩
noncomputable def qU(es:List (Int×Value))(m:Nat):Prop:=es.map (fun e=>(e.1,su e.2))=(lst m).map fun v:Nat=>((v:Int),some (v:Int))
noncomputable def SX(w:World)(a:Addr)(m:Nat)(h:Heap):Prop:=∃o es ep,h.get? a=some o/\o.ExactSet/\o.data=.set es ep (tab (!w.params.followText "set-order") m)/\qU es.toList m
theorem qU.len{es:List (Int×Value)}{m:Nat}(h:qU es m):es.length=(lst m).length:=by
 have:=Ia List.length h
 simpa using this
theorem qU.at{es:List (Int×Value)}{m:Nat}(h:qU es m){e:Int×Value}(he:e∈es):∃v t,v∈lst m/\e=((v:Int),.int (v:Int) t):=by
 have:(e.1,su e.2)∈es.map (fun e=>(e.1,su e.2)):=HY.mpr ⟨e,he,rfl⟩;rw[h]at this;obtain⟨v,hv,q⟩:=HY.mp this;obtain⟨e1,e2⟩:=e;simp only[Prod.mk.injEq]at q;obtain⟨t,z⟩:=sr q.2.symm;exact⟨v,t,hv,by rw[z,<-q.1]⟩
theorem qU.has{es:List (Int×Value)}{m:Nat}(h:qU es m){v:Nat}(hv:v∈lst m):∃t,((v:Int),Value.int (v:Int) t)∈es:=by
 have:((v:Int),some (v:Int))∈(lst m).map fun v:Nat=>((v:Int),some (v:Int)):=HY.mpr ⟨v,hv,rfl⟩;rw[<- h]at this;obtain⟨e,he,q⟩:=HY.mp this;obtain⟨u,t,-,rfl⟩:=h.at he;simp only[su,Prod.mk.injEq]at q;have:u=v:=by omega
 subst this;exact⟨t,he⟩
section
variable{prog:Program}{w:World}{A:Around}{E:Value->Shared->Prop}{s:Shared}
end
noncomputable def Ef(f:Nat->Nat):Nat->Nat->Nat->Nat
 | 0,_,m=>m
 | k+1,i,m=>Ef f k (i+1) (put m (f i))
theorem SX.at{w:World}{a:Addr}{m:Nat}{h h' :Heap}(x:SX w a m h)(k:∀o,h.get? a=some o->h'.get? a=some o):SX w a m h' :=
 let⟨o,es,ep,ho,r⟩:=x
 ⟨o,es,ep,k o ho,r⟩
section
variable{prog:Program}{w:World}{A:Around}{E:Value->Shared->Prop}
variable{s:Shared}
noncomputable def bare(led:Bool):Obj:={cls:=.type "set",dict:=none,data:=.set #[] 0 (.fresh 0 0 led)}
end
section
variable{prog:Program}{w:World}{A:Around}{E:Value->Shared->Prop}{s:Shared}
end
noncomputable def wx(I a i n ep j:Nat)(h:Heap):Prop:=∃o,h.get? I=some o/\o.cls=.type "set_iterator"/\o.data=.fields #[.int (j:Nat) 0,.int (i:Nat) 0,.ref a,.int (n:Nat) 0,.int (ep:Nat) 0]
theorem wx.typeIs{I a i n ep j:Nat}{s:Shared}(x:wx I a i n ep j s.heap):s.TypeIs (.ref I) "set_iterator":=let⟨o,ho,hc,_⟩:=x;⟨o,ho,hc⟩
theorem wx.keep{I a i n ep j:Nat}{h h' :Heap}(x:wx I a i n ep j h)(k:∀o,h.get? I=some o->h'.get? I=some o):wx I a i n ep j h' :=let⟨o,ho,r⟩:=x;⟨o,k o ho,r⟩
section
variable{prog:Program}{w:World}{A:Around}
end
section
variable{prog:Program}{w:World}{A:Around}{E:Value->Shared->Prop}{s:Shared}
end
end SQ
namespace SQ
open PySem PyProof.Rows
section
variable{prog:Program}{w:World}{A:Around}{E:Value->Shared->Prop}{s:Shared}
end
end SQ
namespace L2
open PySem PySem.Spec PyProof.Rows
noncomputable def maskOf(ns:List Int):Nat:=SQ.Ef (fun i=>(ns.getD i 0).toNat) ns.length 0 0
noncomputable def zi(ns:List Int):List Int:=(SQ.lst (maskOf ns)).map fun v:Nat=>(v:Int)
section
variable{X:Cx}
theorem Inv.ext{pins:List (Addr×Obj)}{σ:St}{H:Hp}{s:Shared}{a:Addr}{φ:Heap->Prop}(I:Inv X pins σ H s)(h:H a=some (.ext φ)):φ s.heap:=(show bC X.prog X.w H s.heap a (.ext φ)from I.hok a _ h).1
end
end L2
set_option maxHeartbeats 400000
namespace SW
open PySem PySem.W PyProof.Rows
noncomputable def ak(q:Int×Int):Int:=1000*q.1+q.2
section
variable{prog:Program}{w:World}{A:Around}{E:Value->Shared->Prop}{s:Shared}
theorem sW:∀{vs:List Value},vs.length<2->(vs.toArray.zip vs.toArray).map (·.2)=vs.toArray
 | [],_=>by simp
 | [_],_=>by simp
 | _::_::_,h=>absurd h (by simp)
theorem pG:∀{vs:List Value},vs.length<2->(List.range vs.length).map (fun i=>vs.getD i Value.none)=vs
 | [],_=>rfl
 | [_],_=>rfl
 | _::_::_,h=>absurd h (by simp)
theorem uo{f:Nat->Int}:∀{n:Nat},n<2->((List.range n).map f).Pairwise (·<=·)
 | 0,_=>.nil
 | 1,_=>by show([f 0]:List Int).Pairwise (·<=·);exact List.pairwise_singleton _ _
 | _+2,h=>absurd h (by omega)
theorem nt{a:Addr}{vs:List Value}{n:Nat}{P:PySem.Fin->Shared->Prop}(ho:s.heap.get? a=some (seqObj "list" vs.toArray n))(h2:vs.length<2)
  (h:P (.done (.ret .none)) {s with heap:=sortedHeap s.heap a vs vs.toArray}):wpAny (model prog w) A (Builtin.«list.sort» ⟨[.ref a],[]⟩) P E s:=by
 rw[list_sort_plain];refine Gn (listItems_at ho rfl (Gn (listUpdate_at ho rfl ?_ (by rw[Gx,Ie];omega) (Hu _))));obtain⟨e1,g1⟩:∃e1,(s.heap.update a (Obj.mapSeq fun _=>(#[]:Array Value))).get? a=some (seqObj "list" #[] e1):=⟨_,get?_update_seq ho fun _=> #[]⟩;refine Gn (seqEpoch_at g1 rfl (Gn (wpAny_newTuple ?_ (by show vs.length<=_;rw[Ie];omega))));refine Gn (wpAny_newList ?_ (Hu _));refine JX ?_;have g2:(((s.heap.update a (Obj.mapSeq fun _=>(#[]:Array Value))).push (seqObj "tuple" vs.toArray 0)).push (seqObj "list" #[] 0)).get? a=some (seqObj "list" #[] e1):=Gp _ (Gp _ g1);show wpAny (model prog w) A _ P E {s with heap:=((s.heap.update a (Obj.mapSeq fun _=>(#[]:Array Value))).push (seqObj "tuple" vs.toArray 0)).push (seqObj "list" #[] 0)};dsimp only;have n2:vs.toArray.size<2:=by rw[Gx];exact h2
 rw[Gu n2,Gu n2];refine Gn (G7 ?_);rw[StateT.run_pure];refine Gn (G7 ?_);dsimp only;have hout:(arrOf (SortSt.mk' general' (vs.toArray.zip vs.toArray) #[] 7 none)).map (·.2)=vs.toArray:=by
  exact sW h2
 rw[hout];refine Gn (seqEpoch_at g2 rfl ?_);refine Gn (listUpdate_at g2 rfl ?_ (Hu _) (by rw[Gx,Ie];omega));simp only[bne_self_eq_false,KP,KG];exact G7 h
end
end SW
namespace L2
open PySem PySem.Spec PyProof.Rows
theorem aO.pick{us:List V}{vs:List Value}(r:aO us vs):∀{js:List Nat},(∀j∈js,j<us.length)->aO (js.map fun i=>us.getD i .non) (js.map fun i=>vs.getD i Value.none)
 | [],_=>.nil
 | j::js,h=>by
  have hj:=h j Gw;obtain⟨v,hv,rv⟩:=r.get (i:=j) (x:=us[j]) (HA hj);refine .cons ?_ (aO.pick r fun i hi=>h i (Gs _ hi));dsimp only;rw[Hb,HA hj,Hb,hv];exact rv
end L2
namespace SR
open PySem PyProof.Rows
section
variable{prog:Program}{w:World}{A:Around}{E:Value->Shared->Prop}{s:Shared}
end
end SR
set_option maxHeartbeats 800000
namespace SR
open PySem PyProof.Rows
theorem lw:Slot "reversed" "__init__" "object.__init__" :=
 .of (owner:="object") (n:="__init__") (by rw[KS,Jn];kernel_rfl) (by decide +kernel) (by decide +kernel) (by decide +kernel)
  (by first|exact .inl (by decide +kernel)|exact .inr (by decide +kernel)) (by rw[isSubtype_type];kernel_rfl)
theorem bM:Slot "reversed" "__next__" "reversed.__next__" :=
 .of (owner:="reversed") (n:="__next__") (by rw[KS,Jn];kernel_rfl) (by decide +kernel) (by decide +kernel) (by decide +kernel)
  (by first|exact .inl (by decide +kernel)|exact .inr (by decide +kernel)) (by rw[isSubtype_type];kernel_rfl)
theorem b7:Slot "reversed" "__iter__" "reversed.__iter__" :=
 .of (owner:="reversed") (n:="__iter__") (by rw[KS,Jn];kernel_rfl) (by decide +kernel) (by decide +kernel) (by decide +kernel)
  (by first|exact .inl (by decide +kernel)|exact .inr (by decide +kernel)) (by rw[isSubtype_type];kernel_rfl)
theorem fC:entryFor table "reversed.__next__"=some Builtin.«reversed.__next__»:=entryFor_of_tree (by kernel_rfl)
theorem fD:entryFor table "reversed.__iter__"=some Builtin.«dict_keyiterator.__iter__» :=
 entryFor_alias (id' :="dict_keyiterator.__iter__") (by kernel_rfl) (by first|rfl|decide +kernel) (by decide +kernel) (by kernel_rfl)
theorem gE(a:Value):argsOk "reversed.__next__" ⟨[a],[]⟩:=by unfold argsOk;kernel_rfl
theorem gF(a:Value):argsOk "reversed.__iter__" ⟨[a],[]⟩:=by unfold argsOk;kernel_rfl
theorem gc:TypeCalled "reversed" "reversed.__new__" "object.__init__" :=
 ⟨by decide +kernel,by decide +kernel,⟨_,_,F.mro_reversed⟩,F.made_reversed,F.plain_reversed_new,F.sub_reversed_self,lw⟩
theorem nA:typeLookup (.type "tuple") "__reversed__"=pure none:=by rw[KS,Jn];kernel_rfl
noncomputable def rvO(t:Addr)(i:Int):Obj:={cls:=.type "reversed",data:=.fields #[.ref t,rawInt i]}
noncomputable def gG(I t:Addr)(i:Int)(h:Heap):Prop:=∃o,h.get? I=some o/\o.cls=.type "reversed"/\o.data=.fields #[.ref t,rawInt i]
theorem gG.typeIs{I t:Addr}{i:Int}{s:Shared}(x:gG I t i s.heap):s.TypeIs (.ref I) "reversed":=let⟨o,ho,hc,_⟩:=x;⟨o,ho,hc⟩
theorem gG.keep{I t:Addr}{i:Int}{h h' :Heap}(x:gG I t i h)(k:∀o,h.get? I=some o->h'.get? I=some o):gG I t i h' :=let⟨o,ho,r⟩:=x;⟨o,k o ho,r⟩
section
variable{prog:Program}{w:World}{A:Around}{E:Value->Shared->Prop}{s:Shared}
theorem Bc{t:Addr}{its:Array Value}{Q:Value->Shared->Prop}(ht:IsTup s.heap t its)(hz:its.size<=sizeLine)(h:∀tk,Q (.ref s.heap.objs.size) {s with heap:=s.heap.push (rvO t ((its.size:Int)-1)),toks:=tk}) :
  codeAny (model prog w) A (.call (.builtin "reversed.__new__") ⟨[.type "reversed",.ref t],[]⟩) (wants Q E) s:=by
 refine codeAny_of_tree ?_;show wpAny _ A.in1 (do checkBuiltinCall "reversed.__new__" ⟨[.type "reversed",.ref t],[]⟩;again (.builtin "reversed.__new__" ⟨[.type "reversed",.ref t],[]⟩)) _ _ s;refine Gn (Je (F.newCall_reversed_1 _) (G7 ⟨plainId_quiet F.plain_reversed_new _,codeAny_builtin F.entry_reversed_new ?_⟩));rw[Around.under_plainId F.plain_reversed_new _];unfold Builtin.«reversed.__new__»;refine Gn (Je (newClass_reversed _) ?_)
 try dsimp only
 refine Gn (Je (a:=()) (by first|rfl|kernel_rfl) ?_);refine Gn (Je (a:=()) (by first|rfl|kernel_rfl) ?_)
 try dsimp only
 refine Gn (wpAny_specialOf ht.typeIs nA ?_)
 try dsimp only
 have slot:wpAny (model prog w) A.in1 (do
   if<-isInstance (.ref t) (.type "dict")then return false
   match<-specialOf (.ref t) "__getitem__" with
   | none=>return false
   | some (.builtin id) =>
    if["tuple.__getitem__","str.__getitem__","bytes.__getitem__","bytearray.__getitem__","memoryview.__getitem__","numpy.ndarray.__getitem__","sqlite3.Row.__getitem__"].contains id then return true
    if id=="sqlite3.Blob.__getitem__" then return false
    unsupported "reversed.__new__:is-it-a-sequence"
   | some _=>return true) (fun b s1=>b=true/\s1=s) E s:=by
  refine Gn (wpAny_isInstance (b:=false) ht.typeIs F.sub_tuple_dict ?_);rw[Gq Gz];refine Gn (wpAny_specialOf ht.typeIs Hn.lookup ?_);dsimp only;rw[Gu (by decide)];exact G7 ⟨rfl,rfl⟩
 refine Gn (Ig slot (fun b s1 hb=> ?_) fun _ _ x=>x);obtain⟨rfl,rfl⟩:=hb;rw[Gq (show¬((!true)=true)from Gz)];refine Gn (len_tuple ht (by rw[Ie]at hz;omega) ?_);refine Gn (Je (a:=some (its.size:Int)) rfl ?_)
 try dsimp only
 refine Gn (m:=Builtin.SmallTypes.newRecord _ _) ?_;show wpAny _ _ (newObj (.type "reversed") (.fields #[.ref t,rawInt ((its.size:Int)-1)])) _ _ _;refine IL (G7 ?_);exact h _
theorem yw{t:Addr}{its:Array Value}{Q:Value->Shared->Prop}(ht:IsTup s.heap t its)(hz:its.size<=sizeLine)(h:∀tk,Q (.ref s.heap.objs.size) {s with heap:=s.heap.push (rvO t ((its.size:Int)-1)),toks:=tk}) :
  wpAny (model prog w) A (call (.type "reversed") [.ref t]) Q E s:=by
 refine callType_codes (Q₁:=fun ob s₁=>s₁.TypeIs ob "reversed"/\Q ob s₁) gc (F.typeCall_reversed_1 _) F.entry_object_init (Bc ht hz fun tk=>⟨⟨_,HH _ rfl,rfl⟩,h tk⟩) fun ob s₁ h₁=> ?_;exact⟨h₁.1,F.args_object_init_2 ob _,object_init_meets gc.init.lookup gc.made (by decide) prog w A.in1 _ s₁ ⟨h₁.1,rfl,h₁.2⟩⟩
theorem ri(hh:A.handled=none){I t:Addr}{its:Array Value}{Q:Option Value->Shared->Prop}(st:gG I t ((its.size:Int)-1-(its.size:Nat)) s.heap/\IsTup s.heap t its)
  (hQ:∀h',(∀b o,b≠I->s.heap.get? b=some o->h'.get? b=some o)->(∃o,h'.get? I=some o)->Q none {s with heap:=h'}):wpAny (model prog w) A (pyNext (.ref I)) Q E s:=by
 obtain⟨it,ht⟩:=st;obtain⟨o,ho,hc,hd⟩:=id it;unfold pyNext;refine Gn (KM (JA (name:=Str.ofString "__next__") it.typeIs bM (IZ bM it.typeIs fC ?_ (gE _))));unfold Builtin.«reversed.__next__»;refine Gn (Je (a:=(Value.ref I,[])) rfl ?_)
 try dsimp only
 refine Gn (IJ ho hd (x:=.ref t) rfl ?_);refine Gn (IJ ho hd (x:=rawInt ((its.size:Int)-1-(its.size:Nat))) rfl ?_);show wpAny _ _ (if((its.size:Int)-1-(its.size:Nat))<0 then _ else _) _ _ s;rw[Gu (by omega)];refine Gn (Jt ?_);have e1:=Iw (Obj.mapFields (·.setIfInBounds 1 (rawInt (-1)))) ho (Iv (IW hd _));have d1:=IW hd (·.setIfInBounds 1 (rawInt (-1)));refine Gn (m:=(do setField (.ref I) 1 (rawInt (-1));setField (.ref I) 0 .none)) (Gn (Ja ho hd (by simp) (Ja e1 d1 (by simp) ?_)));unfold Builtin.SmallTypes.stopIteration;refine Gn (Gn ?_);simp only[newExc,newTuple];refine Gn (IL ?_ (by size_fits));refine Gn (m:=firstArgMember _ _) (Je (a:=Value.none) (by first|rfl|(simp only[firstArgMember];rfl)) ?_);refine IL ?_ (by size_fits);simp only[raiseNew];refine Gn (wpAny_handled ?_);rw[show A.in1.handled=none from hh];refine Gn (G7 (wpAny_throw ?_));refine Gn (wpAny_isInstance (T:="StopIteration") (b:=true) ⟨_,HH _ rfl,rfl⟩ isSubtype_stop ?_);refine G7 (hQ _ (fun b ob hb e=> ?_) ⟨_,Gp _ (Gp _ (Iw _ e1 (Iv (IW d1 _))))⟩);refine Gp _ (Gp _ ?_);rw[Hh _ _ (Jf hb),Hh _ _ (Jf hb)];exact e
theorem xE(hh:A.handled=none){I t:Addr}{its:Array Value}(hne:t≠I)(hz:its.size<=sizeLine) :
  Walks prog w A I [I,t] [I] its.size (fun i v=>its[its.size-1-i]? =some v) (fun i h=>gG I t ((its.size:Int)-1-(i:Nat)) h/\IsTup h t its) where
 sub:=fun b hb=>by simp at hb;simp[hb]
 frame:=fun _ _ _ st hk=>⟨st.1.keep fun o e=>hk I (by simp) o e,by
  obtain⟨o,ho,r⟩:=st.2;exact⟨o,hk t (by simp) o ho,r⟩⟩
 item:=fun i s Q E hi st hQ=>by
  obtain⟨it,ht⟩:=st;obtain⟨o,ho,hc,hd⟩:=id it;have hz' :its.size<=16777216:=by rw[Ie]at hz;omega
  have hx:its[its.size-1-i]? =some its[its.size-1-i]:=Array.getElem?_eq_getElem (by omega);unfold pyNext;refine Gn (KM (JA (name:=Str.ofString "__next__") it.typeIs bM (IZ bM it.typeIs fC ?_ (gE _))));unfold Builtin.«reversed.__next__»;refine Gn (Je (a:=(Value.ref I,[])) rfl ?_)
  try dsimp only
  refine Gn (IJ ho hd (x:=.ref t) rfl ?_);refine Gn (IJ ho hd (x:=rawInt ((its.size:Int)-1-(i:Nat))) rfl ?_);show wpAny _ _ (if((its.size:Int)-1-(i:Nat))<0 then _ else _) _ _ s;rw[Gq (by omega)];refine Gn (wpAny_specialOf ht.typeIs Hn.lookup ?_);rw[Gq (by simp)];refine Gn (wpAny_mkInt ?_);have ht' :IsTup ({s with toks:=s.toks+1}:Shared).heap t its:=ht;refine Gn (KM (getItem_tuple (j:=its.size-1-i) ht' (by omega) (by omega) ?_ hx ?_))
  ·have e:((its.size:Int)-1-(i:Nat))=((its.size-1-i:Nat):Int):=by omega
   rw[e];unfold seqIndex?;simp;omega
  ·try dsimp only
   refine Gn (IJ ho hd (x:=rawInt ((its.size:Int)-1-(i:Nat))) rfl ?_);refine Gn (Ja ho hd (by simp) (G7 ⟨_,rfl,G7 ?_⟩));refine hQ _ _ (s.toks+1) hx ⟨⟨_,Iw _ ho (Iv (IW hd _)),(Obj.cls_mapFields ..).trans hc,?_⟩,?_⟩ fun b ob hb e=> ?_
   ·rw[IW hd]
    simp[rawInt];omega
   ·obtain⟨o2,ho2,r⟩:=ht
    exact⟨o2,by rw[Hh _ _ (Jf hne)];exact ho2,r⟩
   ·rw[Hh _ _ (fun z=>hb (by simp[z]))]
    exact e
 done:=fun s Q E st hQ=>ri hh st fun h' k _=>hQ h' s.toks fun b ob hb e=>k b ob (fun z=>hb (by simp[z])) e
 self:=fun i s Q E st hQ=>by
  refine wpAny_pyIter_slot st.1.typeIs b7 (IZ b7 st.1.typeIs fD ?_ (gF _));exact G7 ⟨_,rfl,"reversed",_,st.1.typeIs,bM.lookup,hQ⟩
end
end SR
namespace L2
open PySem PySem.Spec PyProof.Rows
section
variable{X:Cx}
end
end L2
set_option maxHeartbeats 4000000
namespace L2
open PySem PySem.Spec PyProof.Rows
section
variable{X:Cx}
noncomputable def Gf(K:W.Frag)(a:Addr)(n:Nat):It :=
 ⟨fun i H=>i<n/\∃xs,ba K H a xs/\xs.length=n,fun i H x H' =>H' =H/\∀xs,ba K H a xs->xs.length=n->xs[n-1-i]? =some x,fun i H=>i=n/\∃xs,ba K H a xs/\xs.length=n⟩
theorem ut{h:Heap}{a it:Addr}{j:Int}{its:Array Value}(st:SR.gG it a j h)(tp:IsTup h a its):a≠it:=by
 rintro rfl;obtain⟨o,e,c,_⟩:=st;obtain⟨o',e',c',_⟩:=tp;rw[e]at e';cases e';rw[c]at c';exact absurd c' (by decide)
theorem m9{P:Program}{w:World}{K:W.Frag}{tg:Expr}(a it:Addr)(n:Nat):mq P w K tg (Gf K a n) [it] it (fun i h=>SR.gG it a ((n:Int)-1-(i:Nat)) h) where
 mem:=by simp
 obj:=fun i h st b hb=>by
  have e:b=it:=by simpa using hb
  subst e;obtain⟨o,e,c,d⟩:=st;exact⟨o,e,fun v z=>by rw[d]at z;cases z⟩
 keep:=fun i h h' st k=>st.keep fun o e=>k it (by simp) o e
 item:=by
  intro X hP hw hK hc i pins s σ H E I hf st hg;subst hP hw hK;obtain⟨hi,xs,hq,hn⟩:=hg;obtain⟨its,rv,tp,hz⟩:=I.tuple hq;have hlen:=rv.length;have hsz:its.toArray.size=n:=by rw[Gx,<-hlen];exact hn
  have hx:xs[n-1-i]? =some (xs[n-1-i]'(by omega)):=HA (by omega);obtain⟨u,hu,ru⟩:=rv.get hx;obtain⟨f0,f1,f2,f3,f4,f5⟩:=hf it (by simp);have hne:=ut st tp;have st2:SR.gG it a ((its.toArray.size:Int)-1-(i:Nat)) s.heap:=by rw[hsz];exact st
  refine(SR.xE (I.ok.hd hc) hne (by rw[hsz,<-hn];exact hz)).item i s _ _ (by rw[hsz];exact hi) ⟨st2,tp⟩ fun v h' tk hv st' sb=> ?_;have ev:v=u:=by
   rw[hsz]at hv;have:its.toArray[n-1-i]? =some u:=by simpa using hu
   rw[this]at hv;exact(HM hv).symm
  subst ev;have I1:Inv X pins σ H {s with heap:=h',toks:=tk}:=I.turned (t' :=tk) (fun b o hb e=>sb b o (by simpa using hb) e) f0 f1 f3 f4 f5;have st3:SR.gG it a ((n:Int)-1-((i+1:Nat):Int)) h' :=by
   have:=st'.1;rw[hsz]at this;exact this
  obtain⟨o,e,c,d⟩:=id st3;exact⟨v,rfl,lN (s:={s with heap:=h',toks:=tk}) e c d (by decide) ⟨_,H,I1,ru,⟨rfl,fun ys hy _=>by rw[I.tuple_inj hy hq];exact hx⟩,st3,fun b hb=>(hf b hb).1⟩⟩
 done:=by
  intro X hP hw hK hc i pins s σ H E I hf st hg;subst hP hw hK;obtain⟨rfl,xs,hq,hn⟩:=hg;obtain⟨its,rv,tp,hz⟩:=I.tuple hq;have hlen:=rv.length;have hsz:its.toArray.size=i:=by rw[Gx,<-hlen];exact hn
  obtain⟨f0,f1,f2,f3,f4,f5⟩:=hf it (by simp);have st2:SR.gG it a ((its.toArray.size:Int)-1-(its.toArray.size:Nat)) s.heap:=by rw[hsz];exact st
  exact SR.ri (I.ok.hd hc) ⟨st2,tp⟩ fun h' k _=>⟨rfl,I.turned (t' :=s.toks) (fun b o hb e=>k b o hb e) f0 f1 f3 f4 f5⟩
 self:=fun A i s Q E st hQ=>by
  refine wpAny_pyIter_slot st.typeIs SR.b7 (IZ SR.b7 st.typeIs SR.fD ?_ (SR.gF _));exact G7 ⟨_,rfl,"reversed",_,st.typeIs,SR.bM.lookup,hQ⟩
noncomputable def iRvT(K:W.Frag)(ta:TA):TI:=fun σ H R=>ta σ H fun vs H1=>∃a xs,vs=[.ref a]/\ba K H1 a xs/\R (Gf K a xs.length) H1
theorem BD{tg:Expr}{a:Expr}{ta:TA}{p pos:Pos}(hg:Gl X "reversed")(hm:X.mg "reversed"=none)(ha:PA X [a] ta)(hs:starEach [a] X.env=[(false,eval a X.env)]:=by rfl) :
  PI X tg (.Call (.Name "reversed" p) [a] [] pos) (iRvT X.K ta):=by
 intro pins s σ H R I h;refine Call_ (bv I hg hm boot_reversed (He (bJ (ha pos pins s σ H _ I h) fun us s1 ⟨vs,H1,I1,r1,q1⟩=> ?_) hs rfl));obtain⟨l,xs,e,sa,q⟩:=q1;subst e;obtain⟨u,rfl,ru⟩:=vals1 r1;cases ru;obtain⟨its,r,tp,hz⟩:=I1.tuple sa;have hl:=r.length;refine SR.yw tp (by rw[Gx,<-hl];exact hz) fun tk=> ?_;have e:(((its.toArray.size:Nat):Int)-1)=(xs.length:Int)-1:=by rw[Gx,hl]
 rw[e];have gI:SR.gG s1.heap.objs.size l ((xs.length:Int)-1) (s1.heap.push (SR.rvO l ((xs.length:Int)-1))):=⟨_,HH _ rfl,rfl,rfl⟩;refine(m9 (P:=X.prog) (w:=X.w) (K:=X.K) (tg:=tg) l s1.heap.objs.size xs.length).self _ 0 _ _ _ (by rw[show(xs.length:Int)-1-((0:Nat):Int)=(xs.length:Int)-1 by omega];exact gI) ?_;have I2:Inv X pins σ H1 {s1 with heap:=s1.heap.push (SR.rvO l ((xs.length:Int)-1)),toks:=tk}:=I1.kept (t' :=tk) fun b o e=>Gp _ e;refine⟨s1.heap.objs.size,[s1.heap.objs.size],_,_,H1,rfl,I2,m9 l _ xs.length,?_,fun b hb=> ?_,q⟩
 ·show SR.gG s1.heap.objs.size l ((xs.length:Int)-1-((0:Nat):Int)) _
  rw[show(xs.length:Int)-1-((0:Nat):Int)=(xs.length:Int)-1 by omega];exact gI
 ·have e:b=s1.heap.objs.size:=by simpa using hb
  subst e;exact I1.fpOk (Gr _) (I1.hok.fresh (Gr _))
end
end L2
namespace L2
open PySem PySem.Spec PyProof.Rows PySem.W
section
variable{X:Cx}
end
end L2
namespace TS
open PySem PySem.W PyProof.Rows
noncomputable abbrev SM:=StateT SortSt Sem
noncomputable def ci :Bool->Keyed->Array Keyed->Nat->Nat->Nat->SM (Option Nat):=sortPriv% PySem.Builtin.gallop
noncomputable def nh :Array Keyed->Array Keyed->SM (Array Keyed):=sortPriv% PySem.Builtin.mergeLo
noncomputable def nj :Array Keyed->Array Keyed->SM (Array Keyed):=sortPriv% PySem.Builtin.mergeHi
noncomputable def AF(left:Bool)(key:Keyed)(arr:Array Keyed)(base i:Nat):SM (Option Bool):=do
 let x<-elem' arr (base+i)
 if left then lt' x key else return(<- lt' key x).map (!·)
noncomputable abbrev G3:=Option (Option Nat)×Nat×Nat
noncomputable def wj(left:Bool)(key:Keyed)(arr:Array Keyed)(base n lo hi:Nat):SM (Option Nat):=do
 let c<-forIn [:n] ((none,lo,hi):G3) fun _ c=>if c.2.1 ≥ c.2.2 then pure (.done (none,c.2.1,c.2.2))else do
  let z<-AF left key arr base (c.2.1+(c.2.2-c.2.1)/2)
  match z with
  | some t=>if t=true then pure (.yield (none,c.2.1+(c.2.2-c.2.1)/2+1,c.2.2))else pure (.yield (none,c.2.1,c.2.1+(c.2.2-c.2.1)/2))
  | none=>pure (.done (some none,c.2.1,c.2.2))
 match c.1 with
 | some r=>pure r
 | none=>pure (some c.2.2)
noncomputable def upL(left:Bool)(key:Keyed)(arr:Array Keyed)(base n aj:Nat)(c:G3):SM (ForInStep G3):=if c.2.2 ≥ n-aj then pure (.done (none,c.2.1,c.2.2))else do
 let z<-AF left key arr base (aj+c.2.2)
 match z with
 | some t=>if(!t)=true then pure (.done (none,c.2.1,c.2.2))else pure (.yield (none,c.2.2,2*c.2.2+1))
 | none=>pure (.done (some none,c.2.1,c.2.2))
noncomputable def dnL(left:Bool)(key:Keyed)(arr:Array Keyed)(base aj:Nat)(c:G3):SM (ForInStep G3):=if c.2.2 ≥ aj+1 then pure (.done (none,c.2.1,c.2.2))else do
 let z<-AF left key arr base (aj-c.2.2)
 match z with
 | some t=>if t=true then pure (.done (none,c.2.1,c.2.2))else pure (.yield (none,c.2.2,2*c.2.2+1))
 | none=>pure (.done (some none,c.2.1,c.2.2))
theorem cT{β γ:Type}{m n:Nat}{f g:Nat->β->SM (ForInStep β)}{k l:β->SM γ}(c:β)(h1:∀x c,f x c=g x c)(h2:∀c,k c=l c):(forIn [m:n] c f >>= k)=(forIn [m:n] c g >>= l):=by
 rw[show f=g from funext fun x=>funext fun c=>h1 x c,show k=l from funext h2]
theorem pr(left:Bool)(key:Keyed)(arr:Array Keyed)(base n aj:Nat):ci left key arr base n aj=(do
 let z<-AF left key arr base aj
 match z with
 | some t=>if t=true then do
   let c<-forIn [:n] ((none,0,1):G3) fun _ c=>upL left key arr base n aj c
   match c.1 with
   | some r=>pure r
   | none=>wj left key arr base n (aj+c.2.1+1) (aj+min c.2.2 (n-aj))else do
   let c<-forIn [:n] ((none,0,1):G3) fun _ c=>dnL left key arr base aj c
   match c.1 with
   | some r=>pure r
   | none=>wj left key arr base n (aj+1-min c.2.2 (aj+1)) (aj-c.2.1)
 | none=>pure none):=by
 change (_ >>= _:SM (Option Nat))=_
 dsimp only;refine HL fun z=> ?_;cases z with
 | none=>rfl
 | some t =>
  refine Hs rfl (fun _=> ?_) fun _=> ?_
  all_goals
   refine cT _ (fun x c=> ?_) fun c=> ?_
   ·first|unfold upL|unfold dnL
    exact Hs rfl (fun _=>rfl) fun _=>HL fun z=>by cases z<;>rfl
   ·cases c.1 with
    | some r=>rfl
    | none =>
     unfold wj;exact cT _ (fun x c=>Hs rfl (fun _=>rfl) fun _=>HL fun z=>by cases z<;>rfl) fun c=>by cases c.1<;>rfl
section
variable{prog:Program}{w:World}{A:Around}{E:Value->Shared->Prop}{s:Shared}{st:SortSt}
theorem GH{left:Bool}{key:Keyed}{arr:Array Keyed}{base n lo hi:Nat}{B:Nat->Bool}{Q:Option Nat->SortSt->Prop}(mono:∀i j,i<=j->j<n->B j=true->B i=true)
  (hb:∀i,i<n->∀Q:Option Bool->SortSt->Prop,Q (some (B i)) st->wpS (model prog w) A E s (AF left key arr base i) Q st)
  (h:∀k,k<=n->(∀i,i<k->B i=true)->(∀i,k<=i->i<n->B i=false)->Q (some k) st)
  (h1:lo<=hi) (h2:hi<=n) (hl:∀i,i<lo->B i=true) (hr:∀i,hi<=i->i<n->B i=false):wpS (model prog w) A E s (wj left key arr base n lo hi) Q st:=by
 unfold wj;have fin:∀l r,r<=l->l<=r->r<=n->(∀i,i<l->B i=true)->(∀i,r<=i->i<n->B i=false)->Q (some r) st:=fun l r a b c d e=>by
  have:l=r:=by omega
  subst this;exact h l c d e
 refine Gy (IK (I:=fun x c st' =>st' =st/\∃l r,c=(none,l,r)/\l<=r/\r<=n/\r-l<=n-x/\(∀i,i<l->B i=true)/\(∀i,r<=i->i<n->B i=false)) ?_ ?_ ⟨rfl,lo,hi,rfl,h1,h2,by omega,hl,hr⟩)
 ·rintro x c st' _ hx ⟨rfl,l,r,rfl,a1,a2,a3,a4,a5⟩
  dsimp only
  by_cases g:l ≥ r
  ·rw[Gu g]
   exact HB (HB (fin l r g a1 a2 a4 a5))
  ·rw[Gq g]
   refine Gy (hb _ (by omega) _ ?_);dsimp only;cases e:B (l+(r-l)/2)
   ·rw[Gq (by simp)]
    refine HB ⟨rfl,_,_,rfl,by omega,by omega,by omega,a4,fun i i1 i2=> ?_⟩;cases e2:B i
    ·rfl
    ·rw[mono _ i i1 i2 e2]at e
     cases e
   ·rw[Gu rfl]
    exact HB ⟨rfl,_,_,rfl,by omega,by omega,by omega,fun i hi=>mono i _ (by omega) (by omega) e,a5⟩
 ·rintro c st' ⟨rfl,l,r,rfl,a1,a2,a3,a4,a5⟩
  exact HB (fin l r (by omega) a1 a2 a4 a5)
theorem gal{left:Bool}{key:Keyed}{arr:Array Keyed}{base n aj:Nat}{B:Nat->Bool}{Q:Option Nat->SortSt->Prop}(hh:aj<n)(mono:∀i j,i<=j->j<n->B j=true->B i=true)
  (hb:∀i,i<n->∀Q:Option Bool->SortSt->Prop,Q (some (B i)) st->wpS (model prog w) A E s (AF left key arr base i) Q st)
  (h:∀k,k<=n->(∀i,i<k->B i=true)->(∀i,k<=i->i<n->B i=false)->Q (some k) st):wpS (model prog w) A E s (ci left key arr base n aj) Q st:=by
 have no:∀i j,i<=j->j<n->B i=false->B j=false:=fun i j a b c=>by
  cases e:B j
  ·rfl
  ·rw[mono i j a b e]at c
   cases c
 rw[pr];refine Gy (hb aj hh _ ?_);dsimp only;cases eB:B aj
 ·simp only[KP,KG]
  have fin:∀la o,la<o->la<=aj->B (aj-la)=false->(aj+1<=o\/B (aj-o)=true)->_:=fun la o a b c d =>
   GH mono hb h (lo:=aj+1-min o (aj+1)) (hi:=aj-la) (by omega) (by omega) (fun i hi=>by
    rcases d with d|d
    ·omega
    ·exact mono i _ (by omega) (by omega) d) fun i i1 i2=>no _ i i1 i2 c
  refine Gy (IK (I:=fun x c st' =>st' =st/\∃la o,c=(none,la,o)/\la<o/\x<o/\la<=aj/\B (aj-la)=false) ?_ ?_ ⟨rfl,0,1,rfl,by omega,by omega,by omega,eB⟩)
  ·rintro x c st' _ hx ⟨rfl,la,o,rfl,a1,a2,a3,a4⟩
   unfold dnL;dsimp only
   by_cases g:o ≥ aj+1
   ·rw[Gu g]
    exact HB (fin la o a1 a3 a4 (.inl g))
   ·rw[Gq g]
    refine Gy (hb _ (by omega) _ ?_);dsimp only;cases e:B (aj-o)
    ·rw[Gq (by simp)]
     exact HB ⟨rfl,_,_,rfl,by omega,by omega,by omega,e⟩
    ·rw[Gu rfl]
     exact HB (fin la o a1 a3 a4 (.inr e))
  ·rintro c st' ⟨rfl,la,o,rfl,a1,a2,a3,a4⟩
   exact fin la o a1 a3 a4 (.inl (by omega))
 ·simp only[JY]
  have fin:∀la o,la<o->aj+la<n->B (aj+la)=true->(n-aj<=o\/B (aj+o)=false)->_:=fun la o a b c d =>
   GH mono hb h (lo:=aj+la+1) (hi:=aj+min o (n-aj)) (by omega) (by omega) (fun i hi=>mono i _ (by omega) b c) fun i i1 i2=>by
    rcases d with d|d
    ·omega
    ·exact no _ i (by omega) i2 d
  refine Gy (IK (I:=fun x c st' =>st' =st/\∃la o,c=(none,la,o)/\la<o/\x<o/\aj+la<n/\B (aj+la)=true) ?_ ?_ ⟨rfl,0,1,rfl,by omega,by omega,by omega,eB⟩)
  ·rintro x c st' _ hx ⟨rfl,la,o,rfl,a1,a2,a3,a4⟩
   unfold upL;dsimp only
   by_cases g:o ≥ n-aj
   ·rw[Gu g]
    exact HB (fin la o a1 a3 a4 (.inl g))
   ·rw[Gq g]
    refine Gy (hb _ (by omega) _ ?_);dsimp only;cases e:B (aj+o)
    ·rw[Gu (by simp)]
     exact HB (fin la o a1 a3 a4 (.inr e))
    ·rw[Gq (by simp)]
     exact HB ⟨rfl,_,_,rfl,by omega,by omega,by omega,e⟩
  ·rintro c st' ⟨rfl,la,o,rfl,a1,a2,a3,a4⟩
   exact fin la o a1 a3 a4 (.inl (by omega))
end
section
variable{kf:Keyed->Int}
noncomputable def fE(kf:Keyed->Int)(l:List Keyed):Prop:=l.Pairwise fun x y=>kf x<=kf y
structure Mg(kf:Keyed->Int)(tot o X Y:List Keyed):Prop where
 l:fE kf (o++X)
 r:fE kf (o++Y)
 p:(o++(X++Y)).Perm tot
theorem Mg.swap{tot o X Y:List Keyed}(h:Mg kf tot o X Y):Mg kf tot o Y X:=⟨h.r,h.l,(JJ o List.perm_append_comm).trans h.p⟩
theorem Mg.mvY{tot o X P R:List Keyed}(h:Mg kf tot o X (P++R))(c:∀p∈P,∀x∈X,kf p<=kf x):Mg kf tot (o++P) X R:=by
 obtain⟨l,r,p⟩:=h;refine⟨?_,by rw[HZ];exact r,?_⟩
 ·rw[<- HZ]at r
  obtain⟨l1,l2,l3⟩:=Hz.mp l;obtain⟨r1,r2,r3⟩:=Hz.mp r;refine Hz.mpr ⟨r1,l2,fun a ha x hx=> ?_⟩
  rcases Hr.mp ha with z|z
  ·exact l3 a z x hx
  ·exact c a z x hx
 ·refine List.Perm.trans ?_ p
  rw[HZ];refine JJ o ?_;rw[<- HZ,<-HZ];exact List.Perm.append_right R List.perm_append_comm
theorem Mg.mvX{tot o P R Y:List Keyed}(h:Mg kf tot o (P++R) Y)(c:∀p∈P,∀x∈Y,kf p<=kf x):Mg kf tot (o++P) R Y:=(h.swap.mvY c).swap
theorem Mg.len{tot o X Y:List Keyed}(h:Mg kf tot o X Y):o.length+X.length+Y.length=tot.length:=by
 have:=h.p.length_eq;rw[G6,G6]at this;omega
theorem Mg.fin{tot o X:List Keyed}(h:Mg kf tot o X []):fE kf (o++X)/\(o++X).Perm tot:=⟨h.l,by simpa using h.p⟩
theorem fE.hd{x:Keyed}{l:List Keyed}(h:fE kf (x::l)){y:Keyed}(m:y∈x::l):kf x<=kf y:=by
 rcases HE.mp m with z|z
 ·rw[z]
  exact JP _
 ·exact(List.pairwise_cons.mp h).1 y z
theorem fE.app{o l:List Keyed}(h:fE kf (o++l)):fE kf l:=(Hz.mp h).2.1
theorem qZ(a:Array Keyed)(i:Nat):(a.extract i a.size).toList=a.toList.drop i:=by
 rw[Iy,IY];exact IQ (by simp)
theorem zM(a:Array Keyed)(i k:Nat):(a.extract i (i+k)).toList=(a.toList.drop i).take k:=by
 rw[Iy,IY,Jw]
theorem iQ{a:Array Keyed}{i:Nat}(h:i<a.size):a.toList.drop i=a[i]'h::a.toList.drop (i+1):=by
 have h' :i<a.toList.length:=by simpa using h
 rw[IA h'];simp
section
variable{prog:Program}{w:World}{A:Around}{E:Value->Shared->Prop}{s:Shared}{st:SortSt}{κ:SortKind}{D:Keyed->Prop}
noncomputable def uB(prog:Program)(w:World)(A:Around)(s:Shared)(κ:SortKind)(kf:Keyed->Int)(D:Keyed->Prop):Prop:=∀x y,D x->D y->∀(E:Value->Shared->Prop)(C:Bool->Shared->Prop),C (decide (kf x<kf y)) s->wpAny (model prog w) A (keyLt' κ x.1 y.1) C E s
theorem vc{x y:Keyed}{Q:Option Bool->SortSt->Prop}(hc:uB prog w A s κ kf D)(hk:kindOf st=κ)(hx:D x)(hy:D y)(h:Q (some (decide (kf x<kf y))) st):wpS (model prog w) A E s (lt' x y) Q st:=by
 rw[lt'_eq];refine Gy (Kf ?_);rw[hk];refine Gy (wpS_lift (KM (hc x y hx hy _ _ ⟨rfl,?_⟩)));exact HB h
theorem yi{arr:Array Keyed}{i:Nat}{x:Keyed}{Q:Keyed->SortSt->Prop}(e:arr[i]? =some x)(h:Q x st):wpS (model prog w) A E s (elem' arr i) Q st:=by
 rw[elem'_eq,e];exact HB h
theorem cU{arr:Array Keyed}{i:Nat}{Q:Keyed->SortSt->Prop}(e:i<arr.size)(h:Q (arr[i]'e) st):wpS (model prog w) A E s (elem' arr i) Q st:=yi (getElem?_pos arr i e) h
noncomputable def Pb(kf:Keyed->Int)(left:Bool)(key x:Keyed):Bool:=if left then decide (kf x<kf key)else !decide (kf key<kf x)
theorem GJ{left:Bool}{key x:Keyed}{arr:Array Keyed}{base i:Nat}{Q:Option Bool->SortSt->Prop}(hc:uB prog w A s κ kf D)(hk:kindOf st=κ)(hx:D x)(hy:D key)(e:arr[base+i]? =some x)(h:Q (some (Pb kf left key x)) st) :
  wpS (model prog w) A E s (AF left key arr base i) Q st:=by
 unfold AF;refine Gy (yi e ?_);cases left with
 | true=>exact vc hc hk hx hy h
 | false=>exact Gy (vc hc hk hy hx (HB h))
theorem tS{left:Bool}{key:Keyed}{arr:Array Keyed}{base n aj:Nat}{L:List Keyed}{Q:Option Nat->SortSt->Prop}(hc:uB prog w A s κ kf D)(hk:kindOf st=κ)(hy:D key)(hn:L.length=n)(hL:∀i,i<n->arr[base+i]? =L[i]?)(asc:fE kf L)(dL:∀x∈L,D x)(hh:aj<n)
  (h:∀k,k<=n->(∀x∈L.take k,Pb kf left key x=true)->(∀x∈L.drop k,Pb kf left key x=false)->Q (some k) st):wpS (model prog w) A E s (ci left key arr base n aj) Q st:=by
 subst hn;have dr:∀i (hi:i<L.length),arr[base+i]? =some L[i]:=fun i hi=>by rw[hL i hi,HA hi]
 refine gal (B:=fun i=>if hi:i<L.length then Pb kf left key L[i]else false) hh (fun i j ij jn bj=> ?_) (fun i hi Q q=> ?_) fun k hk1 k1 k2=>h k hk1 (fun x hx=> ?_) fun x hx=> ?_
 ·rw[dif_pos jn]at bj
  rw[dif_pos (by omega)];have le:kf L[i]<=kf L[j]:=by
   rcases Nat.lt_or_ge i j with z|z
   ·exact KU.mp asc i j (by omega) jn z
   ·have:i=j:=by omega
    subst this;exact JP _
  unfold Pb at bj ⊢;cases left with
  | true =>
   simp only[JY,Hd]at bj ⊢;omega
  | false =>
   simp only[KP,KG,KZ,decide_eq_false_iff_not]at bj ⊢;omega
 ·rw[dif_pos hi]at q
  exact GJ hc hk (dL _ (Jq hi)) hy (dr i hi) q
 ·obtain⟨i,hi,rfl⟩:=List.getElem_of_mem hx
  rw[Hq]at hi;have:=k1 i (by omega);rw[dif_pos (by omega)]at this;rw[List.getElem_take];exact this
 ·obtain⟨i,hi,rfl⟩:=List.getElem_of_mem hx
  rw[JE]at hi;have:=k2 (k+i) (by omega) (by omega);rw[dif_pos (by omega)]at this;rw[List.getElem_drop];exact this
theorem C6{key x:Keyed}(h:Pb kf true key x=true):kf x<kf key:=by simpa [Pb]using h
theorem C9{key x:Keyed}(h:Pb kf true key x=false):kf key<=kf x:=by simpa [Pb]using h
theorem C8{key x:Keyed}(h:Pb kf false key x=true):kf x<=kf key:=by simpa [Pb]using h
theorem C7{key x:Keyed}(h:Pb kf false key x=false):kf key<kf x:=by simpa [Pb]using h
noncomputable abbrev b8(st:SortSt)(g:Nat):SortSt:=SortSt.mk' (kindOf st) (arrOf st) (pendingOf st) g (failedOf st)
noncomputable def fZ :Nat->SM Unit:=sortPriv% PySem.Builtin.setMinGallop
theorem cY(g:Nat):fZ g=modify fun s=>b8 s g:=rfl
end
end
noncomputable abbrev C5:=Option (Array Keyed)×Array Keyed×Nat×Nat×Nat×Nat×Nat
noncomputable def lo4(a b:Array Keyed)(k k1:Nat)(out:Array Keyed)(ia ib mg:Nat):SM (ForInStep C5):=do
 let x<-elem' a ia
 if(ia+1+1==a.size)=true then pure (.done (some (out.push x++b.extract ib b.size++a.extract (ia+1) a.size),out.push x,ia+1,ib,mg,k,k1))
 else if(decide (k<7)&&decide (k1<7))=true then pure (.done (none,out.push x,ia+1,ib,mg,k,k1))else pure (.yield (none,out.push x,ia+1,ib,mg,k,k1))
noncomputable def FN(a b:Array Keyed)(k:Nat)(out:Array Keyed)(ia ib mg bc:Nat):SM (ForInStep C5):=do
 let y<-elem' b ib
 if(ib+1==b.size)=true then pure (.done (some (out.push y++a.extract ia a.size++b.extract (ib+1) b.size),out.push y,ia,ib+1,mg,k,bc))
 else do
  let x<-elem' a ia
  let z<-ci true x b (ib+1) (b.size-(ib+1)) 0
  match z with
  | some k1=>if k1>0 then(if(ib+1+k1==b.size)=true then pure (.done (some (out.push y++b.extract (ib+1) (ib+1+k1)++a.extract ia a.size++b.extract (ib+1+k1) b.size),out.push y++b.extract (ib+1) (ib+1+k1),ia,ib+1+k1,mg,k,k1))else lo4 a b k k1 (out.push y++b.extract (ib+1) (ib+1+k1)) ia (ib+1+k1) mg)else lo4 a b k k1 (out.push y) ia (ib+1) mg
  | none=>pure (.done (some (out.push y++a.extract ia a.size++b.extract (ib+1) b.size),out.push y,ia,ib+1,mg,k,bc))
noncomputable def FP(a b out:Array Keyed)(ia ib mg ac bc:Nat):SM (ForInStep C5):=do
 fZ mg
 let y<-elem' b ib
 let z<-ci false y a ia (a.size-ia) 0
 match z with
 | some k=>if k>0 then(if(ia+k+1==a.size)=true then pure (.done (some (out++a.extract ia (ia+k)++b.extract ib b.size++a.extract (ia+k) a.size),out++a.extract ia (ia+k),ia+k,ib,mg,k,bc))else if(ia+k==a.size)=true then pure (.done (some (out++a.extract ia (ia+k)++a.extract (ia+k) a.size++b.extract ib b.size),out++a.extract ia (ia+k),ia+k,ib,mg,k,bc))else FN a b k (out++a.extract ia (ia+k)) (ia+k) ib mg bc)else FN a b k out ia ib mg bc
 | none=>pure (.done (some (out++a.extract ia a.size++b.extract ib b.size),out,ia,ib,mg,ac,bc))
noncomputable abbrev C4:=Option (Array Keyed)×Array Keyed×Nat×Nat×Nat×Nat
noncomputable def lo1(a b:Array Keyed)(mg:Nat)(c:C4):SM (ForInStep C4):=do
 let y<-elem' b c.2.2.2.1
 let x<-elem' a c.2.2.1
 let z<-lt' y x
 match z with
 | some bw =>
  if bw=true then do
   let y<-elem' b c.2.2.2.1
   if(c.2.2.2.1+1==b.size)=true then pure (.done (some (c.2.1.push y++a.extract c.2.2.1 a.size++b.extract (c.2.2.2.1+1) b.size),c.2.1.push y,c.2.2.1,c.2.2.2.1+1,0,c.2.2.2.2.2+1))
   else if c.2.2.2.2.2+1 ≥ mg then pure (.done (none,c.2.1.push y,c.2.2.1,c.2.2.2.1+1,0,c.2.2.2.2.2+1))else pure (.yield (none,c.2.1.push y,c.2.2.1,c.2.2.2.1+1,0,c.2.2.2.2.2+1))
  else do
   let x<-elem' a c.2.2.1
   if(c.2.2.1+1+1==a.size)=true then pure (.done (some (c.2.1.push x++b.extract c.2.2.2.1 b.size++a.extract (c.2.2.1+1) a.size),c.2.1.push x,c.2.2.1+1,c.2.2.2.1,c.2.2.2.2.1+1,0))
   else if c.2.2.2.2.1+1 ≥ mg then pure (.done (none,c.2.1.push x,c.2.2.1+1,c.2.2.2.1,c.2.2.2.2.1+1,0))else pure (.yield (none,c.2.1.push x,c.2.2.1+1,c.2.2.2.1,c.2.2.2.2.1+1,0))
 | none=>pure (.done (some (c.2.1++a.extract c.2.2.1 a.size++b.extract c.2.2.2.1 b.size),c.2.1,c.2.2.1,c.2.2.2.1,c.2.2.2.2.1,c.2.2.2.2.2))
noncomputable abbrev C3:=Option (Array Keyed)×Array Keyed×Nat×Nat×Nat
noncomputable def lo0(a b:Array Keyed)(c:C3):SM (ForInStep C3):=do
 let d<-forIn [:a.size+b.size] ((none,c.2.1,c.2.2.1,c.2.2.2.1,0,0):C4) fun _ d=>lo1 a b c.2.2.2.2 d
 match d.1 with
 | some r=>pure (.done (some r,d.2.1,d.2.2.1,d.2.2.2.1,c.2.2.2.2))
 | none=>do
  liftM (rule "list.sort.gallop")
  let e<-forIn [:a.size+b.size] ((none,d.2.1,d.2.2.1,d.2.2.2.1,c.2.2.2.2+1,d.2.2.2.2.1,d.2.2.2.2.2):C5) fun _ e =>
   if e.2.2.2.2.1>1 then FP a b e.2.1 e.2.2.1 e.2.2.2.1 (e.2.2.2.2.1-1) e.2.2.2.2.2.1 e.2.2.2.2.2.2 else FP a b e.2.1 e.2.2.1 e.2.2.2.1 e.2.2.2.2.1 e.2.2.2.2.2.1 e.2.2.2.2.2.2
  match e.1 with
  | some r=>pure (.done (some r,e.2.1,e.2.2.1,e.2.2.2.1,e.2.2.2.2.1))
  | none=>do
   fZ (e.2.2.2.2.1+1)
   pure (.yield (none,e.2.1,e.2.2.1,e.2.2.2.1,e.2.2.2.2.1+1))
theorem nZ(a b:Array Keyed):nh a b=(do
 liftM (rule "list.sort.merge-lo")
 let y<-elem' b 0
 if(1==b.size)=true then pure (#[y]++a.extract 0 a.size++b.extract 1 b.size)
 else if(0+1==a.size)=true then pure (#[y]++b.extract 1 b.size++a.extract 0 a.size)
 else do
  let s<-get
  let c<-forIn [:a.size+b.size] ((none,#[y],0,1,gallopOf s):C3) fun _ c=>lo0 a b c
  match c.1 with
  | some r=>pure r
  | none=>unsupported "internal:list.sort.merge-bound"):=by
 change (_ >>= _:SM (Array Keyed))=_
 dsimp only;refine HL fun _=>HL fun y=>Hs rfl (fun _=>rfl) fun _=>Hs rfl (fun _=>rfl) fun _=>HL fun s=> ?_;refine cT _ (fun x c=> ?_) fun c=> ?_
 ·unfold lo0
  refine cT _ (fun x d=> ?_) fun d=> ?_
  ·unfold lo1
   exact HL fun y=>HL fun x=>HL fun z=>by cases z<;>rfl
  ·cases d.1 with
   | some r=>rfl
   | none =>
    refine HL fun _=>cT _ (fun x e=> ?_) fun e=> ?_
    ·refine Hs rfl (fun _=> ?_) fun _=> ?_
     all_goals
      unfold FP;refine HL fun _=>HL fun y=>HL fun z=> ?_;cases z with
      | none=>rfl
      | some k =>
       refine Hs rfl (fun _=>Hs rfl (fun _=>rfl) fun _=>Hs rfl (fun _=>rfl) fun _=> ?_) fun _=> ?_
       all_goals
        unfold FN;refine HL fun y=>Hs rfl (fun _=>rfl) fun _=>HL fun x=>HL fun z=> ?_;cases z with
        | none=>rfl
        | some k=>exact Hs rfl (fun _=>Hs rfl (fun _=>rfl) fun _=>rfl) fun _=>rfl
    ·cases e.1<;>rfl
 ·cases c.1<;>rfl
section
variable{kf:Keyed->Int}{prog:Program}{w:World}{A:Around}{E:Value->Shared->Prop}{s:Shared}{st st0:SortSt}{κ:SortKind}{D:Keyed->Prop}{tot:List Keyed}
noncomputable def Fi(kf:Keyed->Int)(tot:List Keyed)(r:Array Keyed):Prop:=fE kf r.toList/\r.toList.Perm tot
theorem Mg.done{a b out:Array Keyed}{i j:Nat}(M:Mg kf tot out.toList (a.toList.drop i) (b.toList.drop j))(e:i=a.size\/j=b.size):Fi kf tot (out++a.extract i a.size++b.extract j b.size):=by
 unfold Fi;rw[Hm,Hm,qZ,qZ]
 rcases e with e|e
 ·have z:a.toList.drop i=[]:=Ij (by simp[e])
  rw[z]at M ⊢;rw[ID];exact M.swap.fin
 ·have z:b.toList.drop j=[]:=Ij (by simp[e])
  rw[z]at M ⊢;rw[ID];exact M.fin
theorem Mg.last{a b out:Array Keyed}{i j:Nat}(M:Mg kf tot out.toList (a.toList.drop i) (b.toList.drop j))(e:i+1=a.size)(hl:∀y∈b.toList,kf y<=kf (a.getD (a.size-1) default)):Fi kf tot (out++b.extract j b.size++a.extract i a.size):=by
 unfold Fi;rw[Hm,Hm,qZ,qZ];rw[<- ID (b.toList.drop j)]at M;have M:=M.mvY (P:=b.toList.drop j) (R:=[]) fun p hp x hx=>by
  rw[iQ (by omega),Ij (by simp;omega)]at hx;have:x=a[i]:=HF.mp hx;subst this;have:=hl p (JN hp);have e2:a.size-1=i:=by omega
  simpa [Array.getD,e2,show i<a.size by omega]using this
 exact M.fin
noncomputable def LQ(kf:Keyed->Int)(tot:List Keyed)(a b:Array Keyed)(st0:SortSt)(n:Nat)(r:Option (Array Keyed))(out:Array Keyed)(ia ib:Nat)(st:SortSt):Prop :=
 (∃g,st=b8 st0 g)/\((∃q,r=some q/\Fi kf tot q)\/(r=none/\Mg kf tot out.toList (a.toList.drop ia) (b.toList.drop ib)/\ia+1<a.size/\ib<b.size/\n<=out.size))
noncomputable def LR{γ:Type}(kf:Keyed->Int)(tot:List Keyed)(a b:Array Keyed)(st0:SortSt)(n:Nat)(r:ForInStep (Option (Array Keyed)×Array Keyed×Nat×Nat×γ))(st:SortSt):Prop:=match r with
 | .done c=>LQ kf tot a b st0 n c.1 c.2.1 c.2.2.1 c.2.2.2.1 st
 | .yield c=>c.1=none/\LQ kf tot a b st0 n c.1 c.2.1 c.2.2.1 c.2.2.2.1 st
noncomputable def LD(kf:Keyed->Int)(tot:List Keyed)(a b:Array Keyed)(st0:SortSt)(n:Nat)(r:ForInStep C3)(st:SortSt):Prop:=match r with
 | .done c=>∃q,c.1=some q/\Fi kf tot q/\∃g,st=b8 st0 g
 | .yield c=>c.1=none/\LQ kf tot a b st0 n c.1 c.2.1 c.2.2.1 c.2.2.2.1 st
theorem LQ.weak{a b:Array Keyed}{n m:Nat}{r:Option (Array Keyed)}{out:Array Keyed}{ia ib:Nat}(h:LQ kf tot a b st0 n r out ia ib st)(l:m<=n):LQ kf tot a b st0 m r out ia ib st :=
 ⟨h.1,h.2.imp id fun⟨x1,x2,x3,x4,x5⟩=>⟨x1,x2,x3,x4,by omega⟩⟩
section
variable{a b:Array Keyed}(hc:uB prog w A s κ kf D)(hk:kindOf st0=κ)(da:∀x∈a.toList,D x)(db:∀x∈b.toList,D x)(hl:∀y∈b.toList,kf y<=kf (a.getD (a.size-1) default))
include hl
theorem zn{k k1 n ia ib mg:Nat}{out:Array Keyed}(hst:∃g,st=b8 st0 g)(M:Mg kf tot out.toList (a.toList.drop ia) (b.toList.drop ib))(i1:ia+1<a.size)(i2:ib<b.size)(hn:n<=out.size)(hx:∀y∈b.toList.drop ib,kf (a[ia]'(by omega))<=kf y) :
  wpS (model prog w) A E s (lo4 a b k k1 out ia ib mg) (LR kf tot a b st0 (n+1)) st:=by
 unfold lo4;refine Gy (cU (by omega) ?_);rw[iQ (by omega:ia<a.size)]at M;have M' :Mg kf tot (out.push (a[ia]'(by omega))).toList (a.toList.drop (ia+1)) (b.toList.drop ib):=by
  rw[Io];exact M.mvX (P:=[_]) fun p hp x hx' =>by
   rw[HF.mp hp];exact hx x hx'
 by_cases c:ia+1+1=a.size
 ·rw[Gu (by simpa using c)]
  exact HB ⟨hst,.inl ⟨_,rfl,M'.last c hl⟩⟩
 ·rw[Gq (by simpa using c)]
  have z:LQ kf tot a b st0 (n+1) none (out.push (a[ia]'(by omega))) (ia+1) ib st:=⟨hst,.inr ⟨rfl,M',by omega,i2,by simp;omega⟩⟩
  by_cases d:(decide (k<7)&&decide (k1<7))=true
  ·rw[Gu d]
   exact HB z
  ·rw[Gq d]
   exact HB ⟨rfl,z⟩
include hc hk da db
theorem zo{k n ia ib mg bc:Nat}{out:Array Keyed}(hst:∃g,st=b8 st0 g)(M:Mg kf tot out.toList (a.toList.drop ia) (b.toList.drop ib))(i1:ia+1<a.size)(i2:ib<b.size)(hn:n<=out.size)(hx:∀x∈a.toList.drop ia,kf (b[ib]'i2)<=kf x) :
  wpS (model prog w) A E s (FN a b k out ia ib mg bc) (LR kf tot a b st0 (n+1)) st:=by
 unfold FN;refine Gy (cU (by omega) ?_);rw[iQ i2]at M;have M' :Mg kf tot (out.push (b[ib]'i2)).toList (a.toList.drop ia) (b.toList.drop (ib+1)):=by
  rw[Io];exact M.mvY (P:=[_]) fun p hp x hx' =>by
   rw[HF.mp hp];exact hx x hx'
 by_cases c:ib+1=b.size
 ·rw[Gu (by simpa using c)]
  exact HB ⟨hst,.inl ⟨_,rfl,M'.done (.inr c)⟩⟩
 ·rw[Gq (by simpa using c)]
  refine Gy (cU (by omega) ?_);have ha:=M'.l.app;have hb:=M'.r.app;have e1:=iQ (by omega:ia<a.size);refine Gy (tS (L:=b.toList.drop (ib+1)) hc (by obtain⟨g,rfl⟩:=hst;exact hk) (da _ (by simp)) (by simp) (fun i hi=>by rw[List.getElem?_drop,HU]) hb (fun x hx=>db x (JN hx)) (by omega) fun k1 kn k2 k3=> ?_);dsimp only;have k2:=fun x hx=>C6 (k2 x hx);have k3:=fun x hx=>C9 (k3 x hx)
  by_cases c2:k1>0
  ·rw[Gu c2]
   have M2:Mg kf tot (out.push (b[ib]'i2)++b.extract (ib+1) (ib+1+k1)).toList (a.toList.drop ia) (b.toList.drop (ib+1+k1)):=by
    rw[Hm,zM,show b.toList.drop (ib+1+k1)=(b.toList.drop (ib+1)).drop k1 from List.drop_drop.symm];rw[<- Ha k1 (b.toList.drop (ib+1))]at M';refine M'.mvY fun p hp x hx' => ?_;rw[e1]at hx' ha;exact Ik (Il (k2 p hp)) (ha.hd hx')
   by_cases c3:ib+1+k1=b.size
   ·rw[Gu (by simpa using c3)]
    exact HB ⟨hst,.inl ⟨_,rfl,M2.done (.inr c3)⟩⟩
   ·rw[Gq (by simpa using c3)]
    exact zn hl hst M2 i1 (by omega) (by simp;omega) fun y hy=>k3 y (by rw[List.drop_drop];exact hy)
  ·rw[Gq c2]
   have:k1=0:=by omega
   subst this;exact zn hl hst M' i1 (by omega) (by simp;omega) fun y hy=>k3 y (by simpa using hy)
theorem FO{n ia ib mg ac bc:Nat}{out:Array Keyed}(hst:∃g,st=b8 st0 g)(M:Mg kf tot out.toList (a.toList.drop ia) (b.toList.drop ib))(i1:ia+1<a.size)(i2:ib<b.size)(hn:n<=out.size) :
  wpS (model prog w) A E s (FP a b out ia ib mg ac bc) (LR kf tot a b st0 (n+1)) st:=by
 unfold FP;rw[cY];obtain⟨g,rfl⟩:=hst;refine Gy (JW ?_);refine Gy (cU i2 ?_);have hst:∃g,b8 (b8 st0 g) mg=b8 st0 g:=⟨mg,rfl⟩;have ha:=M.l.app;have hb:=M.r.app;have e1:=iQ i2;refine Gy (tS (L:=a.toList.drop ia) hc hk (db _ (by simp)) (by simp) (fun i hi=>by rw[List.getElem?_drop,HU]) ha (fun x hx=>da x (JN hx)) (by omega) fun k1 kn k2 k3=> ?_);dsimp only;have k2:=fun x hx=>C8 (k2 x hx);have k3:=fun x hx=>Il (C7 (k3 x hx))
 by_cases c2:k1>0
 ·rw[Gu c2]
  have M2:Mg kf tot (out++a.extract ia (ia+k1)).toList (a.toList.drop (ia+k1)) (b.toList.drop ib):=by
   rw[Hm,zM,<-List.drop_drop];rw[<- Ha k1 (a.toList.drop ia)]at M;refine M.mvX fun p hp x hx' => ?_;rw[e1]at hx' hb;exact Ik (k2 p hp) (hb.hd hx')
  by_cases c3:ia+k1+1=a.size
  ·rw[Gu (by simpa using c3)]
   exact HB ⟨hst,.inl ⟨_,rfl,M2.last c3 hl⟩⟩
  ·rw[Gq (by simpa using c3)]
   by_cases c4:ia+k1=a.size
   ·rw[Gu (by simpa using c4)]
    exact HB ⟨hst,.inl ⟨_,rfl,M2.done (.inl c4)⟩⟩
   ·rw[Gq (by simpa using c4)]
    exact zo hc hk da db hl hst M2 (by omega) i2 (by simp;omega) fun y hy=>k3 y (by rw[List.drop_drop];exact hy)
 ·rw[Gq c2]
  have:k1=0:=by omega
  subst this;exact zo hc hk da db hl hst M i1 i2 hn fun y hy=>k3 y (by simpa using hy)
theorem FQ{n ia ib mg ac bc:Nat}{out:Array Keyed}(hst:∃g,st=b8 st0 g)(M:Mg kf tot out.toList (a.toList.drop ia) (b.toList.drop ib))(i1:ia+1<a.size)(i2:ib<b.size)(hn:n<=out.size) :
  wpS (model prog w) A E s (lo1 a b mg (none,out,ia,ib,ac,bc)) (LR kf tot a b st0 (n+1)) st:=by
 unfold lo1;have i1' :ia<a.size:=by omega
 have ha:=M.l.app;have hb:=M.r.app;have e1:=iQ i2;have e2:=iQ i1';refine Gy (cU i2 (Gy (cU i1' ?_)));refine Gy (vc hc (by obtain⟨g,rfl⟩:=hst;exact hk) (db _ (by simp)) (da _ (by simp)) ?_);dsimp only
 by_cases c:kf (b[ib]'i2)<kf (a[ia]'i1')
 ·rw[Gu (by simpa using c)]
  refine Gy (cU i2 ?_);have M' :Mg kf tot (out.push (b[ib]'i2)).toList (a.toList.drop ia) (b.toList.drop (ib+1)):=by
   rw[Io];rw[e1]at M;exact M.mvY (P:=[_]) fun p hp x hx' =>by
    rw[HF.mp hp];rw[e2]at hx' ha;exact Ik (Il c) (ha.hd hx')
  by_cases c3:ib+1=b.size
  ·rw[Gu (by simpa using c3)]
   exact HB ⟨hst,.inl ⟨_,rfl,M'.done (.inr c3)⟩⟩
  ·rw[Gq (by simpa using c3)]
   have z:LQ kf tot a b st0 (n+1) none (out.push (b[ib]'i2)) ia (ib+1) st:=⟨hst,.inr ⟨rfl,M',i1,by omega,by simp;omega⟩⟩
   by_cases d:bc+1 ≥ mg
   ·rw[Gu d]
    exact HB z
   ·rw[Gq d]
    exact HB ⟨rfl,z⟩
 ·rw[Gq (by simpa using c)]
  refine Gy (cU i1' ?_);have M' :Mg kf tot (out.push (a[ia]'i1')).toList (a.toList.drop (ia+1)) (b.toList.drop ib):=by
   rw[Io];rw[e2]at M;exact M.mvX (P:=[_]) fun p hp x hx' =>by
    rw[HF.mp hp];rw[e1]at hx' hb;exact Ik (Int.not_lt.mp c) (hb.hd hx')
  by_cases c3:ia+1+1=a.size
  ·rw[Gu (by simpa using c3)]
   exact HB ⟨hst,.inl ⟨_,rfl,M'.last c3 hl⟩⟩
  ·rw[Gq (by simpa using c3)]
   have z:LQ kf tot a b st0 (n+1) none (out.push (a[ia]'i1')) (ia+1) ib st:=⟨hst,.inr ⟨rfl,M',by omega,i2,by simp;omega⟩⟩
   by_cases d:ac+1 ≥ mg
   ·rw[Gu d]
    exact HB z
   ·rw[Gq d]
    exact HB ⟨rfl,z⟩
theorem FR{n ia ib mg:Nat}{out:Array Keyed}(hst:∃g,st=b8 st0 g)(M:Mg kf tot out.toList (a.toList.drop ia) (b.toList.drop ib))(i1:ia+1<a.size)(i2:ib<b.size)(hn:n<=out.size) :
  wpS (model prog w) A E s (lo0 a b (none,out,ia,ib,mg)) (LD kf tot a b st0 (n+1)) st:=by
 unfold lo0;refine Gy (JH (IK (I:=fun x (c:C4) st' =>c.1=none/\LQ kf tot a b st0 (n+x) c.1 c.2.1 c.2.2.1 c.2.2.2.1 st') (Q:=fun c st' =>LQ kf tot a b st0 (n+1) c.1 c.2.1 c.2.2.1 c.2.2.2.1 st') ?_ ?_ ⟨rfl,hst,.inr ⟨rfl,M,i1,i2,hn⟩⟩) ?_)
 ·rintro x ⟨r,out,ia,ib,ac,bc⟩ st' _ hx ⟨e,q,z⟩
  rcases z with⟨q,e',_⟩|⟨_,z1,z2,z3,z4⟩
  ·rw[e]at e'
   cases e'
  ·have e:r=none:=e
   subst e;refine JH (FQ hc hk da db hl q z1 z2 z3 z4) fun r st' h=> ?_;cases r with
   | done c=>exact LQ.weak h (by omega)
   | yield c=>exact h
 ·rintro c st' ⟨e,h⟩
  exact h.weak (by omega)
 ·rintro⟨r,out,ia,ib,ac,bc⟩ st' ⟨q,z⟩
  rcases z with⟨r,e,z⟩|⟨e,z1,z2,z3,z4⟩
  ·have e:_=some r:=e
   subst e;exact HB ⟨_,rfl,z,q⟩
  ·have e:r=none:=e
   subst e;refine Gy (wpS_lift (Jt ⟨rfl,?_⟩));refine Gy (JH (IK (I:=fun x (c:C5) st' =>c.1=none/\LQ kf tot a b st0 (n+1) c.1 c.2.1 c.2.2.1 c.2.2.2.1 st') (Q:=fun c st' =>LQ kf tot a b st0 (n+1) c.1 c.2.1 c.2.2.1 c.2.2.2.1 st') ?_ ?_ ⟨rfl,q,.inr ⟨rfl,z1,z2,z3,z4⟩⟩) ?_)
   ·rintro x ⟨r,out,ia,ib,mg,ac,bc⟩ st' _ hx ⟨e,q,z⟩
    rcases z with⟨q,e',_⟩|⟨_,z1,z2,z3,z4⟩
    ·rw[e]at e'
     cases e'
    ·have e:r=none:=e
     subst e;dsimp only
     split <;>
     ·refine JH (FO hc hk da db hl q z1 z2 z3 z4) fun r st' h=> ?_
      cases r with
      | done c=>exact LQ.weak h (by omega)
      | yield c=>exact⟨h.1,LQ.weak h.2 (by omega)⟩
   ·rintro c st' ⟨_,h⟩
    exact h
   ·rintro⟨r,out,ia,ib,mg,ac,bc⟩ st' ⟨q,z⟩
    rcases z with⟨r,e,z⟩|⟨e,z1,z2,z3,z4⟩
    ·have e:_=some r:=e
     subst e;exact HB ⟨_,rfl,z,q⟩
    ·have e:r=none:=e
     subst e;dsimp only;rw[cY];obtain⟨g,rfl⟩:=q;exact Gy (JW (HB ⟨rfl,⟨_,rfl⟩,.inr ⟨rfl,z1,z2,z3,z4⟩⟩))
end
theorem mergeLo{a b:Array Keyed}{Q:Array Keyed->SortSt->Prop}(hc:uB prog w A s κ kf D)(hk:kindOf st=κ)(da:∀x∈a.toList,D x)(db:∀x∈b.toList,D x)(sa:fE kf a.toList)(sb:fE kf b.toList)(na:0<a.size)(nb:0<b.size)
  (hf:∀x∈a.toList,kf (b[0]'nb)<=kf x) (hl:∀y∈b.toList,kf y<=kf (a.getD (a.size-1) default)) (h:∀r g,Fi kf (a.toList++b.toList) r->Q r (b8 st g)):wpS (model prog w) A E s (nh a b) Q st:=by
 rw[nZ];refine Gy (wpS_lift (Jt ⟨rfl,?_⟩));refine Gy (cU nb ?_);have e1:=iQ nb;have M:Mg kf (a.toList++b.toList) (#[b[0]'nb]:Array Keyed).toList (a.toList.drop 0) (b.toList.drop 1):=by
  rw[List.drop_zero]at e1 ⊢;have M0:Mg kf (a.toList++b.toList) [] a.toList ([b[0]'nb]++b.toList.drop 1):=⟨sa,by rw[e1]at sb;exact sb,by rw[List.nil_append];exact JJ _ (by rw[e1];exact J5 _)⟩;exact M0.mvY fun p hp x hx=>by
   rw[HF.mp hp];exact hf x hx
 by_cases c1:1=b.size
 ·rw[Gu (by simpa using c1)]
  exact HB (h _ (gallopOf st) (M.done (.inr c1)))
 ·rw[Gq (by simpa using c1)]
  by_cases c2:0+1=a.size
  ·rw[Gu (by simpa using c2)]
   exact HB (h _ (gallopOf st) (M.last c2 hl))
  ·rw[Gq (by simpa using c2)]
   refine Gy (Kf ?_);refine Gy (IK (I:=fun x (c:C3) st' =>c.1=none/\LQ kf (a.toList++b.toList) a b st (1+x) c.1 c.2.1 c.2.2.1 c.2.2.2.1 st') ?_ ?_ ⟨rfl,⟨_,rfl⟩,.inr ⟨rfl,M,by show 0+1<a.size;omega,by show 1<b.size;omega,Gr _⟩⟩)
   ·rintro x ⟨r,out,ia,ib,mg⟩ st' _ hx ⟨e,q,z⟩
    rcases z with⟨q,e',_⟩|⟨_,z1,z2,z3,z4⟩
    ·rw[e]at e'
     cases e'
    ·have e:r=none:=e
     subst e;refine JH (FR hc hk da db hl q z1 z2 z3 z4) fun r st' hr=> ?_;cases r with
     | done c =>
      obtain⟨r,c⟩:=c;obtain⟨q,e',f,g,rfl⟩:=hr;have e' :r=some q:=e';subst e';exact HB (h q g f)
     | yield c=>exact hr
   ·rintro⟨r,out,ia,ib,mg⟩ st' ⟨e,q,z⟩
    rcases z with⟨q,e',_⟩|⟨_,z1,z2,z3,z4⟩
    ·rw[e]at e'
     cases e'
    ·have:=z1.len
     simp at this;have z4:1+(max 0 (a.size+b.size))<=out.size:=z4;omega
end
noncomputable abbrev H5:=Option (Array Keyed)×Nat×Nat×Array Keyed×Nat×Nat×Nat
noncomputable abbrev wJ(a b out:Array Keyed)(na nb:Nat):Array Keyed:=a.extract 0 na++b.extract 0 nb++out.reverse
noncomputable abbrev CC(a b out:Array Keyed)(na nb:Nat):Array Keyed:=b.extract 0 nb++a.extract 0 na++out.reverse
noncomputable def hi4(a b:Array Keyed)(k k1:Nat)(out:Array Keyed)(na nb mg:Nat):SM (ForInStep H5):=do
 let x<-elem' a (na-1)
 if(na-1==0)=true then pure (.done (some (wJ a b (out.push x) (na-1) nb),na-1,nb,out.push x,mg,k,k1))
 else if(decide (k<7)&&decide (k1<7))=true then pure (.done (none,na-1,nb,out.push x,mg,k,k1))else pure (.yield (none,na-1,nb,out.push x,mg,k,k1))
noncomputable def Fd(a b:Array Keyed)(k:Nat)(out:Array Keyed)(na nb mg bc:Nat):SM (ForInStep H5):=do
 let y<-elem' b (nb-1)
 if(nb-1==1)=true then pure (.done (some (CC a b (out.push y) na (nb-1)),na,nb-1,out.push y,mg,k,bc))
 else do
  let x<-elem' a (na-1)
  let z<-ci true x b 0 (nb-1) (nb-1-1)
  match z with
  | some dr=>if nb-1-dr>0 then(if(dr==1)=true then pure (.done (some (CC a b (out.push y++(b.extract dr (nb-1)).reverse) na dr),na,dr,out.push y++(b.extract dr (nb-1)).reverse,mg,k,nb-1-dr))else if(dr==0)=true then pure (.done (some (wJ a b (out.push y++(b.extract dr (nb-1)).reverse) na dr),na,dr,out.push y++(b.extract dr (nb-1)).reverse,mg,k,nb-1-dr))else hi4 a b k (nb-1-dr) (out.push y++(b.extract dr (nb-1)).reverse) na dr mg)else hi4 a b k (nb-1-dr) (out.push y) na (nb-1) mg
  | none=>pure (.done (some (wJ a b (out.push y) na (nb-1)),na,nb-1,out.push y,mg,k,bc))
noncomputable def Ff(a b out:Array Keyed)(na nb mg ac bc:Nat):SM (ForInStep H5):=do
 fZ mg
 let y<-elem' b (nb-1)
 let z<-ci false y a 0 na (na-1)
 match z with
 | some dr=>if na-dr>0 then(if(dr==0)=true then pure (.done (some (wJ a b (out++(a.extract dr na).reverse) dr nb),dr,nb,out++(a.extract dr na).reverse,mg,na-dr,bc))else Fd a b (na-dr) (out++(a.extract dr na).reverse) dr nb mg bc)else Fd a b (na-dr) out na nb mg bc
 | none=>pure (.done (some (wJ a b out na nb),na,nb,out,mg,ac,bc))
noncomputable abbrev H4:=Option (Array Keyed)×Nat×Nat×Array Keyed×Nat×Nat
noncomputable def hi1(a b:Array Keyed)(mg:Nat)(c:H4):SM (ForInStep H4):=do
 let y<-elem' b (c.2.2.1-1)
 let x<-elem' a (c.2.1-1)
 let z<-lt' y x
 match z with
 | some aw =>
  if aw=true then do
   let x<-elem' a (c.2.1-1)
   if(c.2.1-1==0)=true then pure (.done (some (wJ a b (c.2.2.2.1.push x) (c.2.1-1) c.2.2.1),c.2.1-1,c.2.2.1,c.2.2.2.1.push x,c.2.2.2.2.1+1,0))
   else if c.2.2.2.2.1+1 ≥ mg then pure (.done (none,c.2.1-1,c.2.2.1,c.2.2.2.1.push x,c.2.2.2.2.1+1,0))else pure (.yield (none,c.2.1-1,c.2.2.1,c.2.2.2.1.push x,c.2.2.2.2.1+1,0))
  else do
   let y<-elem' b (c.2.2.1-1)
   if(c.2.2.1-1==1)=true then pure (.done (some (CC a b (c.2.2.2.1.push y) c.2.1 (c.2.2.1-1)),c.2.1,c.2.2.1-1,c.2.2.2.1.push y,0,c.2.2.2.2.2+1))
   else if c.2.2.2.2.2+1 ≥ mg then pure (.done (none,c.2.1,c.2.2.1-1,c.2.2.2.1.push y,0,c.2.2.2.2.2+1))else pure (.yield (none,c.2.1,c.2.2.1-1,c.2.2.2.1.push y,0,c.2.2.2.2.2+1))
 | none=>pure (.done (some (wJ a b c.2.2.2.1 c.2.1 c.2.2.1),c.2.1,c.2.2.1,c.2.2.2.1,c.2.2.2.2.1,c.2.2.2.2.2))
noncomputable abbrev H3:=Option (Array Keyed)×Nat×Nat×Array Keyed×Nat
noncomputable def hi0(a b:Array Keyed)(c:H3):SM (ForInStep H3):=do
 let d<-forIn [:a.size+b.size] ((none,c.2.1,c.2.2.1,c.2.2.2.1,0,0):H4) fun _ d=>hi1 a b c.2.2.2.2 d
 match d.1 with
 | some r=>pure (.done (some r,d.2.1,d.2.2.1,d.2.2.2.1,c.2.2.2.2))
 | none=>do
  liftM (rule "list.sort.gallop")
  let e<-forIn [:a.size+b.size] ((none,d.2.1,d.2.2.1,d.2.2.2.1,c.2.2.2.2+1,d.2.2.2.2.1,d.2.2.2.2.2):H5) fun _ e =>
   if e.2.2.2.2.1>1 then Ff a b e.2.2.2.1 e.2.1 e.2.2.1 (e.2.2.2.2.1-1) e.2.2.2.2.2.1 e.2.2.2.2.2.2 else Ff a b e.2.2.2.1 e.2.1 e.2.2.1 e.2.2.2.2.1 e.2.2.2.2.2.1 e.2.2.2.2.2.2
  match e.1 with
  | some r=>pure (.done (some r,e.2.1,e.2.2.1,e.2.2.2.1,e.2.2.2.2.1))
  | none=>do
   fZ (e.2.2.2.2.1+1)
   pure (.yield (none,e.2.1,e.2.2.1,e.2.2.2.1,e.2.2.2.2.1+1))
theorem ni(a b:Array Keyed):nj a b=(do
 liftM (rule "list.sort.merge-hi")
 let x<-elem' a (a.size-1)
 if(a.size-1==0)=true then pure (wJ a b #[x] (a.size-1) b.size)
 else if(b.size==1)=true then pure (CC a b #[x] (a.size-1) b.size)
 else do
  let s<-get
  let c<-forIn [:a.size+b.size] ((none,a.size-1,b.size,#[x],gallopOf s):H3) fun _ c=>hi0 a b c
  match c.1 with
  | some r=>pure r
  | none=>unsupported "internal:list.sort.merge-bound"):=by
 change (_ >>= _:SM (Array Keyed))=_
 dsimp only;refine HL fun _=>HL fun y=>Hs rfl (fun _=>rfl) fun _=>Hs rfl (fun _=>rfl) fun _=>HL fun s=> ?_;refine cT _ (fun x c=> ?_) fun c=> ?_
 ·unfold hi0
  refine cT _ (fun x d=> ?_) fun d=> ?_
  ·unfold hi1
   exact HL fun y=>HL fun x=>HL fun z=>by cases z<;>rfl
  ·cases d.1 with
   | some r=>rfl
   | none =>
    refine HL fun _=>cT _ (fun x e=> ?_) fun e=> ?_
    ·refine Hs rfl (fun _=> ?_) fun _=> ?_
     all_goals
      unfold Ff;refine HL fun _=>HL fun y=>HL fun z=> ?_;cases z with
      | none=>rfl
      | some k =>
       refine Hs rfl (fun _=>Hs rfl (fun _=>rfl) fun _=> ?_) fun _=> ?_
       all_goals
        unfold Fd;refine HL fun y=>Hs rfl (fun _=>rfl) fun _=>HL fun x=>HL fun z=> ?_;cases z with
        | none=>rfl
        | some k=>exact Hs rfl (fun _=>Hs rfl (fun _=>rfl) fun _=>Hs rfl (fun _=>rfl) fun _=>rfl) fun _=>rfl
    ·cases e.1<;>rfl
 ·cases c.1<;>rfl
section
variable{kf:Keyed->Int}{prog:Program}{w:World}{A:Around}{E:Value->Shared->Prop}{s:Shared}{st st0:SortSt}{κ:SortKind}{D:Keyed->Prop}{tot:List Keyed}
noncomputable abbrev ng(kf:Keyed->Int):Keyed->Int:=fun x=> - kf x
theorem cu{l:List Keyed}:fE (ng kf) l.reverse↔fE kf l:=by
 unfold fE;rw[List.pairwise_reverse];exact⟨fun h=>h.imp fun{x y} h=>by have: - kf y<= - kf x:=h;omega,fun h=>h.imp fun{x y} h=>by show-kf y<= - kf x;omega⟩
noncomputable abbrev tk(a:Array Keyed)(n:Nat):List Keyed:=(a.toList.take n).reverse
theorem qY(a:Array Keyed)(n:Nat):(a.extract 0 n).toList=a.toList.take n:=by
 rw[Iy,IY,List.drop_zero,Nat.sub_zero]
theorem zU{a:Array Keyed}{n:Nat}(h0:0<n)(h:n<=a.size):tk a n=(a[n-1]'(by omega))::tk a (n-1):=by
 obtain⟨m,rfl⟩:∃m,n=m+1:=⟨n-1,by omega⟩;unfold tk;rw[List.take_succ_eq_append_getElem (by simp;omega),Ip];simp
theorem tkp{a:Array Keyed}{n k:Nat}(h:k<=n)(hn:n<=a.size):tk a n=(a.extract k n).reverse.toList++tk a k:=by
 unfold tk;rw[Jk,Iy,IY,<-Ip]
 congr 1
 rw[<- Ha k (a.toList.take n),KO,Ic h,List.drop_take]
theorem Mg.doneH{a b out:Array Keyed}{i j:Nat}(M:Mg (ng kf) tot out.toList (tk a i) (tk b j))(e:i=0\/j=0):Fi kf tot (wJ a b out i j):=by
 have z:(wJ a b out i j).toList.reverse=out.toList++(tk b j++tk a i):=by
  unfold wJ;rw[Hm,Hm,qY,qY,Jk,Ip,Ip,KH]
 have y:fE (ng kf) (out.toList++(tk b j++tk a i))/\(out.toList++(tk b j++tk a i)).Perm tot:=by
  rcases e with e|e
  ·subst e
   have M:Mg (ng kf) tot out.toList [] (tk b j):=by simpa [tk]using M
   simpa [tk]using M.swap.fin
  ·subst e
   have M:Mg (ng kf) tot out.toList (tk a i) []:=by simpa [tk]using M
   simpa [tk]using M.fin
 rw[<- z]at y;exact⟨cu.mp y.1,(KW _).symm.trans y.2⟩
theorem Mg.firstH{a b out:Array Keyed}{i j:Nat}(M:Mg (ng kf) tot out.toList (tk a i) (tk b j))(h1:j=1)(nb:0<b.size)(hf:∀x∈a.toList,kf (b[0]'nb)<=kf x):Fi kf tot (CC a b out i j):=by
 subst h1;have z:(CC a b out i 1).toList.reverse=out.toList++(tk a i++tk b 1):=by
  unfold CC;rw[Hm,Hm,qY,qY,Jk,Ip,Ip,KH]
 have e:tk b 1=[b[0]'nb]:=by rw[zU (by omega) (by omega)];simp[tk]
 rw[e]at M z;rw[<- ID (tk a i)]at M;have M:=(M.mvX (P:=tk a i) (R:=[]) fun p hp x hx=>by
  rw[HF.mp hx];have:=hf p (Ix (JD.mp hp));show-kf p<= - kf _;omega).swap.fin
 rw[HZ,<-z]at M;exact⟨cu.mp M.1,(KW _).symm.trans M.2⟩
noncomputable def HQ(kf:Keyed->Int)(tot:List Keyed)(a b:Array Keyed)(st0:SortSt)(n:Nat)(r:Option (Array Keyed))(na nb:Nat)(out:Array Keyed)(st:SortSt):Prop :=
 (∃g,st=b8 st0 g)/\((∃q,r=some q/\Fi kf tot q)\/(r=none/\Mg (ng kf) tot out.toList (tk a na) (tk b nb)/\(0<na/\na<=a.size)/\(1<nb/\nb<=b.size)/\n<=out.size))
noncomputable def HR{γ:Type}(kf:Keyed->Int)(tot:List Keyed)(a b:Array Keyed)(st0:SortSt)(n:Nat)(r:ForInStep (Option (Array Keyed)×Nat×Nat×Array Keyed×γ))(st:SortSt):Prop:=match r with
 | .done c=>HQ kf tot a b st0 n c.1 c.2.1 c.2.2.1 c.2.2.2.1 st
 | .yield c=>c.1=none/\HQ kf tot a b st0 n c.1 c.2.1 c.2.2.1 c.2.2.2.1 st
noncomputable def HD(kf:Keyed->Int)(tot:List Keyed)(a b:Array Keyed)(st0:SortSt)(n:Nat)(r:ForInStep H3)(st:SortSt):Prop:=match r with
 | .done c=>∃q,c.1=some q/\Fi kf tot q/\∃g,st=b8 st0 g
 | .yield c=>c.1=none/\HQ kf tot a b st0 n c.1 c.2.1 c.2.2.1 c.2.2.2.1 st
theorem HQ.weak{a b:Array Keyed}{n m:Nat}{r:Option (Array Keyed)}{out:Array Keyed}{ia ib:Nat}(h:HQ kf tot a b st0 n r ia ib out st)(l:m<=n):HQ kf tot a b st0 m r ia ib out st :=
 ⟨h.1,h.2.imp id fun⟨x1,x2,x3,x4,x5⟩=>⟨x1,x2,x3,x4,by omega⟩⟩
section
variable{a b:Array Keyed}(hc:uB prog w A s κ kf D)(hk:kindOf st0=κ)(da:∀x∈a.toList,D x)(db:∀x∈b.toList,D x)(nb0:0<b.size)(hf:∀x∈a.toList,kf (b[0]'nb0)<=kf x)
theorem zt{k k1 n na nb mg:Nat}{out:Array Keyed}(hst:∃g,st=b8 st0 g)(M:Mg (ng kf) tot out.toList (tk a na) (tk b nb))(i1:0<na/\na<=a.size)(i2:1<nb/\nb<=b.size)(hn:n<=out.size)(hx:∀y∈tk b nb,kf y<=kf (a[na-1]'(by omega))) :
  wpS (model prog w) A E s (hi4 a b k k1 out na nb mg) (HR kf tot a b st0 (n+1)) st:=by
 unfold hi4;refine Gy (cU (by omega) ?_);rw[zU i1.1 i1.2]at M;have M' :Mg (ng kf) tot (out.push (a[na-1]'(by omega))).toList (tk a (na-1)) (tk b nb):=by
  rw[Io];exact M.mvX (P:=[_]) fun p hp x hx' =>by
   rw[HF.mp hp];have:=hx x hx';show-kf _<= - kf _;omega
 by_cases c:na-1=0
 ·rw[Gu (by simpa using c)]
  exact HB ⟨hst,.inl ⟨_,rfl,M'.doneH (.inl c)⟩⟩
 ·rw[Gq (by simpa using c)]
  have z:HQ kf tot a b st0 (n+1) none (na-1) nb (out.push (a[na-1]'(by omega))) st:=⟨hst,.inr ⟨rfl,M',by omega,i2,by simp;omega⟩⟩
  by_cases d:(decide (k<7)&&decide (k1<7))=true
  ·rw[Gu d]
   exact HB z
  ·rw[Gq d]
   exact HB ⟨rfl,z⟩
include hc hk da db nb0 hf
theorem zu{k n na nb mg bc:Nat}{out:Array Keyed}(hst:∃g,st=b8 st0 g)(M:Mg (ng kf) tot out.toList (tk a na) (tk b nb))(i1:0<na/\na<=a.size)(i2:1<nb/\nb<=b.size)(hn:n<=out.size)(hx:∀x∈tk a na,kf x<=kf (b[nb-1]'(by omega))) :
  wpS (model prog w) A E s (Fd a b k out na nb mg bc) (HR kf tot a b st0 (n+1)) st:=by
 unfold Fd;refine Gy (cU (by omega) ?_);rw[zU (by omega) i2.2]at M;have M' :Mg (ng kf) tot (out.push (b[nb-1]'(by omega))).toList (tk a na) (tk b (nb-1)):=by
  rw[Io];exact M.mvY (P:=[_]) fun p hp x hx' =>by
   rw[HF.mp hp];have:=hx x hx';show-kf _<= - kf _;omega
 by_cases c:nb-1=1
 ·rw[Gu (by simpa using c)]
  exact HB ⟨hst,.inl ⟨_,rfl,M'.firstH c nb0 hf⟩⟩
 ·rw[Gq (by simpa using c)]
  refine Gy (cU (by omega) ?_);have ha:=cu.mp M'.l.app;have hb:=cu.mp M'.r.app;have ha' :=M'.l.app;have e1:=zU i1.1 i1.2;refine Gy (tS (L:=b.toList.take (nb-1)) hc (by obtain⟨g,rfl⟩:=hst;exact hk) (da _ (by simp)) (by simp;omega) (fun i hi=>by rw[JR hi,HU,Nat.zero_add]) hb (fun x hx=>db x (Ix hx)) (by omega) fun k1 kn k2 k3=> ?_);dsimp only;have k2:=fun x hx=>Il (C6 (k2 x hx));have k3:=fun x hx=>C9 (k3 x hx)
  by_cases c2:nb-1-k1>0
  ·rw[Gu c2]
   have M2:Mg (ng kf) tot (out.push (b[nb-1]'(by omega))++(b.extract k1 (nb-1)).reverse).toList (tk a na) (tk b k1):=by
    rw[Hm];rw[tkp kn (by omega)]at M';refine M'.mvY fun p hp x hx' => ?_;rw[Jk,JD,Iy,IY,<-List.drop_take]at hp;rw[e1]at hx' ha';have l1:=k3 p hp;have l2: - kf _<= - kf x:=ha'.hd hx';show-kf p<= - kf x;omega
   by_cases c3:k1=1
   ·rw[Gu (by simpa using c3)]
    exact HB ⟨hst,.inl ⟨_,rfl,M2.firstH c3 nb0 hf⟩⟩
   ·rw[Gq (by simpa using c3)]
    by_cases c4:k1=0
    ·rw[Gu (by simpa using c4)]
     exact HB ⟨hst,.inl ⟨_,rfl,M2.doneH (.inr c4)⟩⟩
    ·rw[Gq (by simpa using c4)]
     exact zt hst M2 i1 (by omega) (by simp;omega) fun y hy=>k2 y (by rw[KO,Ic kn];exact JD.mp hy)
  ·rw[Gq c2]
   have:k1=nb-1:=by omega
   subst this;exact zt hst M' i1 (by omega) (by simp;omega) fun y hy=>k2 y (by rw[KO,JZ];exact JD.mp hy)
theorem Fe{n na nb mg ac bc:Nat}{out:Array Keyed}(hst:∃g,st=b8 st0 g)(M:Mg (ng kf) tot out.toList (tk a na) (tk b nb))(i1:0<na/\na<=a.size)(i2:1<nb/\nb<=b.size)(hn:n<=out.size) :
  wpS (model prog w) A E s (Ff a b out na nb mg ac bc) (HR kf tot a b st0 (n+1)) st:=by
 unfold Ff;rw[cY];obtain⟨g,rfl⟩:=hst;refine Gy (JW ?_);refine Gy (cU (by omega) ?_);have hst:∃g,b8 (b8 st0 g) mg=b8 st0 g:=⟨mg,rfl⟩;have ha:=cu.mp M.l.app;have hb' :=M.r.app;have e1:=zU (by omega) i2.2;refine Gy (tS (L:=a.toList.take na) hc hk (db _ (by simp)) (by simp;omega) (fun i hi=>by rw[JR hi,HU,Nat.zero_add]) ha (fun x hx=>da x (Ix hx)) (by omega) fun k1 kn k2 k3=> ?_);dsimp only;have k2:=fun x hx=>C8 (k2 x hx);have k3:=fun x hx=>Il (C7 (k3 x hx))
 by_cases c2:na-k1>0
 ·rw[Gu c2]
  have M2:Mg (ng kf) tot (out++(a.extract k1 na).reverse).toList (tk a k1) (tk b nb):=by
   rw[Hm];rw[tkp kn (by omega)]at M;refine M.mvX fun p hp x hx' => ?_;rw[Jk,JD,Iy,IY,<-List.drop_take]at hp;rw[e1]at hx' hb';have l1:=k3 p hp;have l2: - kf _<= - kf x:=hb'.hd hx';show-kf p<= - kf x;omega
  by_cases c4:k1=0
  ·rw[Gu (by simpa using c4)]
   exact HB ⟨hst,.inl ⟨_,rfl,M2.doneH (.inl c4)⟩⟩
  ·rw[Gq (by simpa using c4)]
   exact zu hc hk da db nb0 hf hst M2 (by omega) i2 (by simp;omega) fun y hy=>k2 y (by rw[KO,Ic kn];exact JD.mp hy)
 ·rw[Gq c2]
  have:k1=na:=by omega
  subst this;exact zu hc hk da db nb0 hf hst M i1 i2 hn fun y hy=>k2 y (by rw[KO,JZ];exact JD.mp hy)
theorem Fg{n na nb mg ac bc:Nat}{out:Array Keyed}(hst:∃g,st=b8 st0 g)(M:Mg (ng kf) tot out.toList (tk a na) (tk b nb))(i1:0<na/\na<=a.size)(i2:1<nb/\nb<=b.size)(hn:n<=out.size) :
  wpS (model prog w) A E s (hi1 a b mg (none,na,nb,out,ac,bc)) (HR kf tot a b st0 (n+1)) st:=by
 unfold hi1;have i1' :na-1<a.size:=by omega
 have i2' :nb-1<b.size:=by omega
 have ha:=M.l.app;have hb:=M.r.app;have e1:=zU (by omega) i2.2;have e2:=zU i1.1 i1.2;refine Gy (cU i2' (Gy (cU i1' ?_)));refine Gy (vc hc (by obtain⟨g,rfl⟩:=hst;exact hk) (db _ (by simp)) (da _ (by simp)) ?_);dsimp only
 by_cases c:kf (b[nb-1]'i2')<kf (a[na-1]'i1')
 ·rw[Gu (by simpa using c)]
  refine Gy (cU i1' ?_);have M' :Mg (ng kf) tot (out.push (a[na-1]'i1')).toList (tk a (na-1)) (tk b nb):=by
   rw[Io];rw[e2]at M;exact M.mvX (P:=[_]) fun p hp x hx' =>by
    rw[HF.mp hp];rw[e1]at hx' hb;have l2: - kf _<= - kf x:=hb.hd hx';show-kf _<= - kf x;omega
  by_cases c3:na-1=0
  ·rw[Gu (by simpa using c3)]
   exact HB ⟨hst,.inl ⟨_,rfl,M'.doneH (.inl c3)⟩⟩
  ·rw[Gq (by simpa using c3)]
   have z:HQ kf tot a b st0 (n+1) none (na-1) nb (out.push (a[na-1]'i1')) st:=⟨hst,.inr ⟨rfl,M',by omega,i2,by simp;omega⟩⟩
   by_cases d:ac+1 ≥ mg
   ·rw[Gu d]
    exact HB z
   ·rw[Gq d]
    exact HB ⟨rfl,z⟩
 ·rw[Gq (by simpa using c)]
  refine Gy (cU i2' ?_);have M' :Mg (ng kf) tot (out.push (b[nb-1]'i2')).toList (tk a na) (tk b (nb-1)):=by
   rw[Io];rw[e1]at M;exact M.mvY (P:=[_]) fun p hp x hx' =>by
    rw[HF.mp hp];rw[e2]at hx' ha;have l2: - kf _<= - kf x:=ha.hd hx';show-kf _<= - kf x;omega
  by_cases c3:nb-1=1
  ·rw[Gu (by simpa using c3)]
   exact HB ⟨hst,.inl ⟨_,rfl,M'.firstH c3 nb0 hf⟩⟩
  ·rw[Gq (by simpa using c3)]
   have z:HQ kf tot a b st0 (n+1) none na (nb-1) (out.push (b[nb-1]'i2')) st:=⟨hst,.inr ⟨rfl,M',i1,by omega,by simp;omega⟩⟩
   by_cases d:bc+1 ≥ mg
   ·rw[Gu d]
    exact HB z
   ·rw[Gq d]
    exact HB ⟨rfl,z⟩
theorem Fh{n na nb mg:Nat}{out:Array Keyed}(hst:∃g,st=b8 st0 g)(M:Mg (ng kf) tot out.toList (tk a na) (tk b nb))(i1:0<na/\na<=a.size)(i2:1<nb/\nb<=b.size)(hn:n<=out.size) :
  wpS (model prog w) A E s (hi0 a b (none,na,nb,out,mg)) (HD kf tot a b st0 (n+1)) st:=by
 unfold hi0;refine Gy (JH (IK (I:=fun x (c:H4) st' =>c.1=none/\HQ kf tot a b st0 (n+x) c.1 c.2.1 c.2.2.1 c.2.2.2.1 st') (Q:=fun c st' =>HQ kf tot a b st0 (n+1) c.1 c.2.1 c.2.2.1 c.2.2.2.1 st') ?_ ?_ ⟨rfl,hst,.inr ⟨rfl,M,i1,i2,hn⟩⟩) ?_)
 ·rintro x ⟨r,na,nb,out,ac,bc⟩ st' _ hx ⟨e,q,z⟩
  rcases z with⟨q,e',_⟩|⟨_,z1,z2,z3,z4⟩
  ·rw[e]at e'
   cases e'
  ·have e:r=none:=e
   subst e;refine JH (Fg hc hk da db nb0 hf q z1 z2 z3 z4) fun r st' h=> ?_;cases r with
   | done c=>exact HQ.weak h (by omega)
   | yield c=>exact h
 ·rintro c st' ⟨e,h⟩
  exact h.weak (by omega)
 ·rintro⟨r,na,nb,out,ac,bc⟩ st' ⟨q,z⟩
  rcases z with⟨r,e,z⟩|⟨e,z1,z2,z3,z4⟩
  ·have e:_=some r:=e
   subst e;exact HB ⟨_,rfl,z,q⟩
  ·have e:r=none:=e
   subst e;refine Gy (wpS_lift (Jt ⟨rfl,?_⟩));refine Gy (JH (IK (I:=fun x (c:H5) st' =>c.1=none/\HQ kf tot a b st0 (n+1) c.1 c.2.1 c.2.2.1 c.2.2.2.1 st') (Q:=fun c st' =>HQ kf tot a b st0 (n+1) c.1 c.2.1 c.2.2.1 c.2.2.2.1 st') ?_ ?_ ⟨rfl,q,.inr ⟨rfl,z1,z2,z3,z4⟩⟩) ?_)
   ·rintro x ⟨r,na,nb,out,mg,ac,bc⟩ st' _ hx ⟨e,q,z⟩
    rcases z with⟨q,e',_⟩|⟨_,z1,z2,z3,z4⟩
    ·rw[e]at e'
     cases e'
    ·have e:r=none:=e
     subst e;dsimp only
     split <;>
     ·refine JH (Fe hc hk da db nb0 hf q z1 z2 z3 z4) fun r st' h=> ?_
      cases r with
      | done c=>exact HQ.weak h (by omega)
      | yield c=>exact⟨h.1,HQ.weak h.2 (by omega)⟩
   ·rintro c st' ⟨_,h⟩
    exact h
   ·rintro⟨r,na,nb,out,mg,ac,bc⟩ st' ⟨q,z⟩
    rcases z with⟨r,e,z⟩|⟨e,z1,z2,z3,z4⟩
    ·have e:_=some r:=e
     subst e;exact HB ⟨_,rfl,z,q⟩
    ·have e:r=none:=e
     subst e;dsimp only;rw[cY];obtain⟨g,rfl⟩:=q;exact Gy (JW (HB ⟨rfl,⟨_,rfl⟩,.inr ⟨rfl,z1,z2,z3,z4⟩⟩))
end
theorem mergeHi{a b:Array Keyed}{Q:Array Keyed->SortSt->Prop}(hc:uB prog w A s κ kf D)(hk:kindOf st=κ)(da:∀x∈a.toList,D x)(db:∀x∈b.toList,D x)(sa:fE kf a.toList)(sb:fE kf b.toList)(na:0<a.size)(nb:0<b.size)
  (hf:∀x∈a.toList,kf (b[0]'nb)<=kf x) (hl:∀y∈b.toList,kf y<=kf (a.getD (a.size-1) default)) (h:∀r g,Fi kf (a.toList++b.toList) r->Q r (b8 st g)):wpS (model prog w) A E s (nj a b) Q st:=by
 rw[ni];refine Gy (wpS_lift (Jt ⟨rfl,?_⟩));refine Gy (cU (by omega) ?_);have ea:tk a a.size=a.toList.reverse:=by unfold tk;rw[IQ (by simp)]
 have eb:tk b b.size=b.toList.reverse:=by unfold tk;rw[IQ (by simp)]
 have e1:=zU na (Gr a.size);have M:Mg (ng kf) (a.toList++b.toList) (#[a[a.size-1]'(by omega)]:Array Keyed).toList (tk a (a.size-1)) (tk b b.size):=by
  have e2:[a[a.size-1]'(by omega)]++tk a (a.size-1)=a.toList.reverse:=by rw[List.singleton_append,<-e1,ea]
  have M0:Mg (ng kf) (a.toList++b.toList) [] ([a[a.size-1]'(by omega)]++tk a (a.size-1)) (tk b b.size):=by
   rw[e2,eb];exact⟨cu.mpr sa,cu.mpr sb,by rw[List.nil_append];exact List.Perm.append (KW _) (KW _)⟩
  exact M0.mvX fun p hp x hx=>by
   rw[HF.mp hp];rw[eb]at hx;have:=hl x (JD.mp hx);rw[show a.getD (a.size-1) default=a[a.size-1]'(by omega)by simp[Array.getD,show a.size-1<a.size by omega]]at this;show-kf _<= - kf _;omega
 by_cases c1:a.size-1=0
 ·rw[Gu (by simpa using c1)]
  exact HB (h _ (gallopOf st) (M.doneH (.inl c1)))
 ·rw[Gq (by simpa using c1)]
  by_cases c2:b.size=1
  ·rw[Gu (by simpa using c2)]
   exact HB (h _ (gallopOf st) (M.firstH c2 nb hf))
  ·rw[Gq (by simpa using c2)]
   refine Gy (Kf ?_);refine Gy (IK (I:=fun x (c:H3) st' =>c.1=none/\HQ kf (a.toList++b.toList) a b st (1+x) c.1 c.2.1 c.2.2.1 c.2.2.2.1 st') ?_ ?_ ⟨rfl,⟨_,rfl⟩,.inr ⟨rfl,M,⟨by show 0<a.size-1;omega,Nat.sub_le _ _⟩,⟨by show 1<b.size;omega,Gr _⟩,Gr _⟩⟩)
   ·rintro x ⟨r,na,nb',out,mg⟩ st' _ hx ⟨e,q,z⟩
    rcases z with⟨q,e',_⟩|⟨_,z1,z2,z3,z4⟩
    ·rw[e]at e'
     cases e'
    ·have e:r=none:=e
     subst e;refine JH (Fh hc hk da db nb hf q z1 z2 z3 z4) fun r st' hr=> ?_;cases r with
     | done c =>
      obtain⟨r,c⟩:=c;obtain⟨q,e',f,g,rfl⟩:=hr;have e' :r=some q:=e';subst e';exact HB (h q g f)
     | yield c=>exact hr
   ·rintro⟨r,na,nb',out,mg⟩ st' ⟨e,q,z⟩
    rcases z with⟨q,e',_⟩|⟨_,z1,z2,z3,z4⟩
    ·rw[e]at e'
     cases e'
    ·have:=z1.len
     simp[tk]at this;have z4:1+(max 0 (a.size+b.size))<=out.size:=z4;omega
end
noncomputable def qN(lo a r:Nat):SM AscSt:=forIn [a:r] ((none,a):AscSt) fun _ c=>do
 let z<-ltAt' (lo+c.2) (lo+c.2-1)
 match z with
 | some t=>if t=true then pure (.done (none,c.2))else pure (.yield (none,c.2+1))
 | none=>pure (.done (some none,c.2))
noncomputable def DW(lo n r:Nat):SM (Option Nat):=do
 reverseSlice' lo (lo+n)
 let c<-qN lo n r
 match c.1 with
 | some r=>pure r
 | none=>pure (some c.2)
noncomputable def Fu(lo n r:Nat):SM DescSt:=forIn [n:r] ((none,n,0):DescSt) fun _ c=>do
 let z<-ltAt' (lo+c.2.1) (lo+c.2.1-1)
 match z with
 | some t=>if t=true then(if c.2.2>0 then do
    reverseSlice' (lo+c.2.1-(c.2.2+1)) (lo+c.2.1)
    pure (.yield (none,c.2.1+1,0))else pure (.yield (none,c.2.1+1,0)))else do
   let z<-ltAt' (lo+c.2.1-1) (lo+c.2.1)
   match z with
   | some t=>if t=true then pure (.done (none,c.2.1,c.2.2))else pure (.yield (none,c.2.1+1,c.2.2+1))
   | none=>pure (.done (some none,c.2.1,c.2.2))
 | none=>pure (.done (some none,c.2.1,c.2.2))
noncomputable def Da(lo n r:Nat):SM (Option Nat):=do
 liftM (rule "list.sort.descending-run")
 let c<-Fu lo (n+1) r
 match c.1 with
 | some r=>pure r
 | none=>if c.2.2>0 then do
   reverseSlice' (lo+c.2.1-(c.2.2+1)) (lo+c.2.1)
   DW lo c.2.1 r else DW lo c.2.1 r
theorem CZ(lo r:Nat):countRun' lo r=(do
  let c<-qN lo 1 r
  match c.1 with
  | some r=>pure r
  | none=>if(c.2==r)=true then pure (some c.2)else if c.2>1 then do
     let z<-ltAt' lo (lo+c.2-1)
     match z with
     | some t=>if t=true then pure (some c.2)else do
       reverseSlice' lo (lo+c.2)
       Da lo c.2 r
     | none=>pure none else Da lo c.2 r):=by
 rw[countRun'_eq];dsimp only;unfold qN;refine cT _ (fun x c=>HL fun z=>by cases z<;>rfl) fun c=> ?_;cases c.1 with
 | some r=>rfl
 | none =>
  refine Hs rfl (fun _=>rfl) fun _=>Hs rfl (fun _=>HL fun z=> ?_) fun _=> ?_
  ·cases z with
   | none=>rfl
   | some t =>
    refine Hs rfl (fun _=>rfl) fun _=>HL fun _=> ?_;unfold Da;refine HL fun _=> ?_;unfold Fu;refine cT _ (fun x c=>HL fun z=> ?_) fun c=> ?_
    ·cases z with
     | none=>rfl
     | some t =>
      refine Hs rfl (fun _=>rfl) fun _=>HL fun z=> ?_;cases z<;>rfl
    ·cases c.1 with
     | some r=>rfl
     | none =>
      refine Hs rfl (fun _=>HL fun _=> ?_) fun _=> ?_
      all_goals
       unfold DW;refine HL fun _=> ?_;unfold qN;exact cT _ (fun x c=>HL fun z=>by cases z<;>rfl) fun c=>by cases c.1<;>rfl
  ·unfold Da
   refine HL fun _=> ?_;unfold Fu;refine cT _ (fun x c=>HL fun z=> ?_) fun c=> ?_
   ·cases z with
    | none=>rfl
    | some t =>
     refine Hs rfl (fun _=>rfl) fun _=>HL fun z=> ?_;cases z<;>rfl
   ·cases c.1 with
    | some r=>rfl
    | none =>
     refine Hs rfl (fun _=>HL fun _=> ?_) fun _=> ?_
     all_goals
      unfold DW;refine HL fun _=> ?_;unfold qN;exact cT _ (fun x c=>HL fun z=>by cases z<;>rfl) fun c=>by cases c.1<;>rfl
section
variable{kf:Keyed->Int}
noncomputable def Kx(kf:Keyed->Int)(a:Array Keyed)(i:Nat):Int:=kf (a.getD i default)
theorem eR{a b:Array Keyed}{i j:Nat}(h:a[i]? =b[j]?):Kx kf a i=Kx kf b j:=by
 unfold Kx;rw[Jh,Jh,h]
theorem qS{a:Array Keyed}{i j:Nat}(hj:j<=a.size)(k:Nat):Kx kf (mirror a i j ((j-i)/2)) k=if i<=k/\k<j then Kx kf a (i+j-1-k)else Kx kf a k:=by
 have e:=getElem?_mirror_all (i:=i) hj k
 by_cases c:i<=k/\k<j
 ·rw[Gu c]at e ⊢
  exact eR e
 ·rw[Gq c]at e ⊢
  exact eR e
theorem mv{a:Array Keyed}{i j:Nat}(hj:j<=a.size)(h:∀k,i<=k->k<j->Kx kf a k=Kx kf a (j-1))(k:Nat):Kx kf (mirror a i j ((j-i)/2)) k=Kx kf a k:=by
 rw[qS hj]
 split
 ·rw[h _ (by omega) (by omega),h k (by omega) (by omega)]
 ·rfl
noncomputable def Up(kf:Keyed->Int)(a:Array Keyed)(i j:Nat):Prop:=∀x y,i<=x->x<=y->y<j->Kx kf a x<=Kx kf a y
noncomputable def Dw(kf:Keyed->Int)(a:Array Keyed)(i j:Nat):Prop:=∀x y,i<=x->x<=y->y<j->Kx kf a y<=Kx kf a x
theorem Up.more{a:Array Keyed}{i j:Nat}(h:Up kf a i j)(c:i<j->Kx kf a (j-1)<=Kx kf a j):Up kf a i (j+1):=fun x y hx xy hy=>by
 by_cases e:y<j
 ·exact h x y hx xy e
 ·have:y=j:=by omega
  subst this
  by_cases e2:x=y
  ·subst e2
   exact JP _
  ·exact Ik (h x (y-1) hx (by omega) (by omega)) (c (by omega))
theorem Dw.more{a:Array Keyed}{i j:Nat}(h:Dw kf a i j)(c:i<j->Kx kf a j<=Kx kf a (j-1)):Dw kf a i (j+1):=fun x y hx xy hy=>by
 by_cases e:y<j
 ·exact h x y hx xy e
 ·have:y=j:=by omega
  subst this
  by_cases e2:x=y
  ·subst e2
   exact JP _
  ·exact Ik (c (by omega)) (h x (y-1) hx (by omega) (by omega))
theorem Up.one{a:Array Keyed}{i:Nat}:Up kf a i (i+1):=fun x y hx xy hy=>by
 have:x=y:=by omega
 rw[this];exact JP _
noncomputable def Bg(a b:Array Keyed)(lo:Nat):Prop:=b.Perm a/\∀i,i<lo->b[i]? =a[i]?
theorem Bg.refl(a:Array Keyed)(lo:Nat):Bg a a lo:=⟨Array.Perm.refl _,fun _ _=>rfl⟩
theorem Bg.trans{a b c:Array Keyed}{lo:Nat}(h:Bg a b lo)(g:Bg b c lo):Bg a c lo:=⟨g.1.trans h.1,fun i hi=>(g.2 i hi).trans (h.2 i hi)⟩
theorem Bg.mir{a:Array Keyed}{lo i j:Nat}(hi:lo<=i)(hj:j<=a.size):Bg a (mirror a i j ((j-i)/2)) lo:=⟨mirror_perm _ _ _ _,fun k hk=>by rw[getElem?_mirror_all hj,Gq (by omega)]⟩
theorem Bg.size{a b:Array Keyed}{lo:Nat}(h:Bg a b lo):b.size=a.size:=h.1.size_eq
variable{prog:Program}{w:World}{A:Around}{E:Value->Shared->Prop}{s:Shared}{st:SortSt}{κ:SortKind}{D:Keyed->Prop}
theorem jL{i j:Nat}{Q:Option Bool->SortSt->Prop}(hc:uB prog w A s κ kf D)(hk:kindOf st=κ)(dA:∀x∈(arrOf st).toList,D x)(hi:i<(arrOf st).size)(hj:j<(arrOf st).size)(h:Q (some (decide (Kx kf (arrOf st) i<Kx kf (arrOf st) j))) st):wpS (model prog w) A E s (ltAt' i j) Q st:=by
 rw[ltAt'_eq];refine Gy (Kf (Gy (cU hi (Gy (cU hj (vc hc hk (dA _ (by simp)) (dA _ (by simp)) ?_))))));unfold Kx at h
 simpa [Array.getD,hi,hj]using h
theorem lR{a b:Array Keyed}(h:b.Perm a)(d:∀x∈a.toList,D x):∀x∈b.toList,D x:=fun x hx=>d x ((Array.perm_iff_toList_perm.mp h).mem_iff.mp hx)
section
variable(hc:uB prog w A s κ kf D)(hk:kindOf st=κ)
include hc hk
theorem AG{lo a r:Nat}{xs:Array Keyed}{Q:AscSt->SortSt->Prop}(dA:∀x∈xs.toList,D x)(hn:lo+r<=xs.size)(h1:1<=a)(ha:a<=r)(hs:Up kf xs lo (lo+a))
  (h:∀n,a<=n->n<=r->Up kf xs lo (lo+n)->(n=r\/Kx kf xs (lo+n)<Kx kf xs (lo+n-1))->Q (none,n) (setArr st xs)):wpS (model prog w) A E s (qN lo a r) Q (setArr st xs):=by
 unfold qN;refine IK (I:=fun x c st' =>st' =setArr st xs/\c=(none,x)/\Up kf xs lo (lo+x)) ?_ ?_ ⟨rfl,rfl,hs⟩
 ·rintro x c st' hx hr ⟨rfl,rfl,hs'⟩
  dsimp only;refine Gy (jL hc hk dA (by show _<xs.size;omega) (by show _<xs.size;omega) ?_);dsimp only
  by_cases e:Kx kf xs (lo+x)<Kx kf xs (lo+x-1)
  ·rw[Gu (by simpa using e)]
   exact HB (h x hx (by omega) hs' (.inr e))
  ·rw[Gq (by simpa using e)]
   exact HB ⟨rfl,rfl,hs'.more fun _=>Int.not_lt.mp e⟩
 ·rintro c st' ⟨rfl,rfl,hs'⟩
  rw[show max a r=r by omega]at hs' ⊢;exact h r ha (Gr _) hs' (.inl rfl)
theorem Dy{lo n r:Nat}{xs:Array Keyed}{Q:Option Nat->SortSt->Prop}(dA:∀x∈xs.toList,D x)(hn:lo+r<=xs.size)(h1:1<=n)(ha:n<=r)(hs:Dw kf xs lo (lo+n))
  (h:∀m ys,1<=m->m<=r->Up kf ys lo (lo+m)->Bg xs ys lo->Q (some m) (setArr st ys)):wpS (model prog w) A E s (DW lo n r) Q (setArr st xs):=by
 unfold DW;rw[reverseSlice'_eq];refine Gy (JW ?_);have hb:Bg xs (mirror xs lo (lo+n) ((lo+n-lo)/2)) lo:=Bg.mir (Gr _) (by omega);refine Gy (AG (xs:=mirror xs lo (lo+n) ((lo+n-lo)/2)) hc hk (lR hb.1 dA) (by rw[hb.size];exact hn) h1 ha (fun x y hx xy hy=> ?_) fun m m1 m2 m3 _=>HB (h m _ (by omega) m2 m3 hb));rw[qS (by omega),qS (by omega),Gu (by omega),Gu (by omega)];exact hs _ _ (by omega) (by omega) (by omega)
theorem de_w{lo n r:Nat}{xs:Array Keyed}{Q:DescSt->SortSt->Prop}(dA:∀x∈xs.toList,D x)(hn:lo+r<=xs.size)(h1:1<=n)(ha:n<=r)(hs:Dw kf xs lo (lo+n))
  (h:∀m q ys,n<=m->m<=r->Dw kf ys lo (lo+m)->q+1<=m->(∀i,lo+m-(q+1)<=i->i<lo+m->Kx kf ys i=Kx kf ys (lo+m-1))->Bg xs ys lo->Q (none,m,q) (setArr st ys)):wpS (model prog w) A E s (Fu lo n r) Q (setArr st xs):=by
 unfold Fu;refine IK (I:=fun x c st' =>∃q ys,st' =setArr st ys/\c=(none,x,q)/\Dw kf ys lo (lo+x)/\q+1<=x/\(∀i,lo+x-(q+1)<=i->i<lo+x->Kx kf ys i=Kx kf ys (lo+x-1))/\Bg xs ys lo) ?_ ?_ ⟨0,xs,rfl,rfl,hs,by omega,fun i i1 i2=>by rw[show i=lo+n-1 by omega],Bg.refl _ _⟩
 ·rintro x c st' hx hr ⟨q,ys,rfl,rfl,d,q1,q2,bg⟩
  dsimp only;have z:=bg.size;have dY:=lR bg.1 dA;refine Gy (jL hc hk dY (by show _<ys.size;omega) (by show _<ys.size;omega) ?_);dsimp only
  by_cases e:Kx kf ys (lo+x)<Kx kf ys (lo+x-1)
  ·rw[Gu (by simpa using e)]
   by_cases c:q>0
   ·rw[Gu c,reverseSlice'_eq]
    refine Gy (JW (HB ⟨0,_,rfl,rfl,?_,by omega,fun i i1 i2=>by rw[show i=lo+(x+1)-1 by omega],bg.trans (Bg.mir (by omega) (by show _<=ys.size;omega))⟩));have kk:=mv (kf:=kf) (i:=lo+x-(q+1)) (j:=lo+x) (a:=ys) (by omega) q2;refine Dw.more (j:=lo+x) (fun x y hx xy hy=> ?_) fun _=> ?_
    ·show Kx kf (mirror ys _ _ _) y<=Kx kf (mirror ys _ _ _) x
     rw[kk,kk];exact d x y hx xy hy
    ·show Kx kf (mirror ys _ _ _) _<=Kx kf (mirror ys _ _ _) _
     rw[kk,kk];exact Il e
   ·rw[Gq c]
    exact HB ⟨0,ys,rfl,rfl,d.more fun _=>Il e,by omega,fun i i1 i2=>by rw[show i=lo+(x+1)-1 by omega],bg⟩
  ·rw[Gq (by simpa using e)]
   refine Gy (jL hc hk dY (by show _<ys.size;omega) (by show _<ys.size;omega) ?_);dsimp only
   by_cases f:Kx kf ys (lo+x-1)<Kx kf ys (lo+x)
   ·rw[Gu (by simpa using f)]
    exact HB (h x q ys hx (by omega) d q1 q2 bg)
   ·rw[Gq (by simpa using f)]
    have eq:Kx kf ys (lo+x)=Kx kf ys (lo+x-1):=by omega
    refine HB ⟨q+1,ys,rfl,rfl,d.more fun _=>by omega,by omega,fun i i1 i2=> ?_,bg⟩;rw[show lo+(x+1)-1=lo+x by omega,eq]
    by_cases g:i=lo+x
    ·rw[g,eq]
    ·exact q2 i (by omega) (by omega)
 ·rintro c st' ⟨q,ys,rfl,rfl,d,q1,q2,bg⟩
  rw[show max n r=r by omega]at d q1 q2 ⊢;exact h r q ys ha (Gr _) d q1 q2 bg
theorem Ft{lo n r:Nat}{xs:Array Keyed}{Q:Option Nat->SortSt->Prop}(dA:∀x∈xs.toList,D x)(hn:lo+r<=xs.size)(ha:n+1<=r)(hs:Dw kf xs lo (lo+(n+1)))
  (h:∀m ys,1<=m->m<=r->Up kf ys lo (lo+m)->Bg xs ys lo->Q (some m) (setArr st ys)):wpS (model prog w) A E s (Da lo n r) Q (setArr st xs):=by
 unfold Da;refine Gy (wpS_lift (Jt ⟨rfl,?_⟩));refine Gy (de_w hc hk dA hn (by omega) ha hs fun m q ys m1 m2 d q1 q2 bg=> ?_);dsimp only;have z:=bg.size
 by_cases c:q>0
 ·rw[Gu c,reverseSlice'_eq]
  have b2:Bg ys (mirror ys (lo+m-(q+1)) (lo+m) ((lo+m-(lo+m-(q+1)))/2)) lo:=Bg.mir (by omega) (by omega);have kk:=mv (kf:=kf) (i:=lo+m-(q+1)) (j:=lo+m) (a:=ys) (by omega) q2;refine Gy (JW (Dy (xs:=mirror ys (lo+m-(q+1)) (lo+m) ((lo+m-(lo+m-(q+1)))/2)) hc hk (lR (bg.trans b2).1 dA) (by rw[b2.size];omega) (by omega) m2 (fun x y hx xy hy=> ?_) fun k zs k1 k2 k3 k4=>h k zs k1 k2 k3 ((bg.trans b2).trans k4)));rw[kk,kk];exact d x y hx xy hy
 ·rw[Gq c]
  exact Dy hc hk (lR bg.1 dA) (by omega) (by omega) m2 d fun k zs k1 k2 k3 k4=>h k zs k1 k2 k3 (bg.trans k4)
theorem yn{lo r:Nat}{xs:Array Keyed}{Q:Option Nat->SortSt->Prop}(dA:∀x∈xs.toList,D x)(hn:lo+r<=xs.size)(h1:1<=r)
  (h:∀m ys,1<=m->m<=r->Up kf ys lo (lo+m)->Bg xs ys lo->Q (some m) (setArr st ys)):wpS (model prog w) A E s (countRun' lo r) Q (setArr st xs):=by
 rw[CZ];refine Gy (AG hc hk dA hn (Gr 1) h1 Up.one fun n n1 n2 n3 n4=> ?_);dsimp only
 by_cases e:n=r
 ·rw[Gu (by simpa using e)]
  exact HB (h n xs n1 n2 n3 (Bg.refl _ _))
 ·rw[Gq (by simpa using e)]
  have lt:=n4.resolve_left e
  by_cases g:n>1
  ·rw[Gu g]
   refine Gy (jL hc hk dA (by show _<xs.size;omega) (by show _<xs.size;omega) ?_);dsimp only
   by_cases c:Kx kf xs lo<Kx kf xs (lo+n-1)
   ·rw[Gu (by simpa using c)]
    exact HB (h n xs n1 n2 n3 (Bg.refl _ _))
   ·rw[Gq (by simpa using c),reverseSlice'_eq]
    have all:∀k,lo<=k->k<lo+n->Kx kf xs k=Kx kf xs (lo+n-1):=fun k k1 k2=>by
     have a1:=n3 lo k (Gr _) k1 k2;have a2:=n3 k (lo+n-1) k1 (by omega) (by omega);omega
    have kk:=mv (kf:=kf) (i:=lo) (j:=lo+n) (a:=xs) (by omega) all;have b2:Bg xs (mirror xs lo (lo+n) ((lo+n-lo)/2)) lo:=Bg.mir (Gr _) (by omega);refine Gy (JW (Ft (xs:=mirror xs lo (lo+n) ((lo+n-lo)/2)) hc hk (lR b2.1 dA) (by rw[b2.size];omega) (by omega) (Dw.more (j:=lo+n) (fun x y hx xy hy=> ?_) fun _=> ?_) fun k zs k1 k2 k3 k4=>h k zs k1 k2 k3 (b2.trans k4)))
    ·rw[kk,kk,all x hx (by omega),all y (by omega) hy]
     exact JP _
    ·rw[kk,kk]
     exact Il lt
  ·rw[Gq g]
   have:n=1:=by omega
   subst this;refine Ft hc hk dA hn (by omega) (Dw.more (j:=lo+1) (fun x y hx xy hy=> ?_) fun _=>Il lt) h;have:x=y:=by omega
   rw[this];exact JP _
theorem GI{lo n ok:Nat}{xs:Array Keyed}{Q:Bool->SortSt->Prop}(dA:∀x∈xs.toList,D x)(hn:lo+n<=xs.size)(h1:1<=ok)(ho:ok<=n)(hs:Up kf xs lo (lo+ok))
  (h:∀ys,Up kf ys lo (lo+n)->Bg xs ys lo->Q true (setArr st ys)):wpS (model prog w) A E s (binarySort' lo n ok) Q (setArr st xs):=by
 rw[binarySort'_eq];refine Gy (JH (IK (I:=fun k c st' =>c=(none,())/\∃ys,st' =setArr st ys/\Up kf ys lo (lo+k)/\Bg xs ys lo) (Q:=fun c st' =>c=(none,())/\∃ys,st' =setArr st ys/\Up kf ys lo (lo+n)/\Bg xs ys lo) ?_ ?_ ⟨rfl,xs,rfl,by rw[show max ok 1=ok by omega];exact hs,Bg.refl _ _⟩) ?_)
 ·rintro k c st' k1 k2 ⟨rfl,ys,rfl,u,bg⟩
  have z:=bg.size
  refine Gy (JH (IK (I:=fun x c st'' =>st'' =setArr st ys/\∃l r,c=(none,l,r)/\l<=r/\r<=k/\r-l<=k-x/\(∀i,lo<=i->i<lo+l->Kx kf ys i<=Kx kf ys (lo+k))/\(∀i,lo+r<=i->i<lo+k->Kx kf ys (lo+k)<Kx kf ys i))
   (Q:=fun c st'' =>st'' =setArr st ys/\∃l r,c=(none,l,r)/\l<=k/\(∀i,lo<=i->i<lo+l->Kx kf ys i<=Kx kf ys (lo+k))/\(∀i,lo+l<=i->i<lo+k->Kx kf ys (lo+k)<Kx kf ys i)) ?_ ?_ ⟨rfl,0,k,rfl,by omega,by omega,by omega,fun i i1 i2=>by omega,fun i i1 i2=>by omega⟩) ?_)
  ·rintro x c st'' _ hx ⟨rfl,l,r,rfl,a1,a2,a3,a4,a5⟩
   dsimp only
   by_cases g:l ≥ r
   ·rw[Gu g]
    have:l=r:=by omega
    subst this;exact HB ⟨rfl,l,l,rfl,a2,a4,a5⟩
   ·rw[Gq g]
    refine Gy (jL hc hk (lR bg.1 dA) (by show _<ys.size;omega) (by show _<ys.size;omega) ?_);dsimp only
    by_cases e:Kx kf ys (lo+k)<Kx kf ys (lo+(l+r)/2)
    ·rw[Gu (by simpa using e)]
     exact HB ⟨rfl,l,(l+r)/2,rfl,by omega,by omega,by omega,a4,fun i i1 i2=>Int.lt_of_lt_of_le e (u _ i (by omega) i1 i2)⟩
    ·rw[Gq (by simpa using e)]
     exact HB ⟨rfl,(l+r)/2+1,r,rfl,by omega,by omega,by omega,fun i i0 i1=>Ik (u i (lo+(l+r)/2) i0 (by omega) (by omega)) (Int.not_lt.mp e),a5⟩
  ·rintro c st'' ⟨rfl,l,r,rfl,a1,a2,a3,a4,a5⟩
   have:l=r:=by omega
   subst this;exact⟨rfl,l,l,rfl,a2,a4,a5⟩
  ·rintro c st'' ⟨rfl,l,r,rfl,a1,a4,a5⟩
   show wpS _ _ _ _ (do moveDown' (lo+k) (lo+l);pure (ForInStep.yield (none,()))) _ _;rw[moveDown'_eq];refine Gy (JW (HB ⟨rfl,_,rfl,?_,bg.trans ⟨bubble_perm _ _ _,fun i hi=> ?_⟩⟩))
   ·have kb:∀x,Kx kf (bubble ys (lo+k) (lo+k-(lo+l))) x=if x=lo+l then Kx kf ys (lo+k)else if lo+l<x/\x<=lo+k then Kx kf ys (x-1)else Kx kf ys x:=fun x=>by
     have e:=getElem?_bubble (xs:=ys) (src:=lo+k) (by omega) (lo+k-(lo+l)) (by omega) x;rw[show lo+k-(lo+k-(lo+l))=lo+l by omega]at e
     split at e
     ·rw[Gu (by assumption)]
      exact eR e
     ·rw[Gq (by assumption)]
      split at e
      ·rw[Gu (by assumption)]
       exact eR e
      ·rw[Gq (by assumption)]
       exact eR e
    intro x y hx xy hy;show Kx kf (bubble ys (lo+k) (lo+k-(lo+l))) x<=Kx kf (bubble ys (lo+k) (lo+k-(lo+l))) y;rw[kb,kb]
    repeat' split
    all_goals first
     | (exfalso;omega)
     | exact JP _
     | exact a4 _ (by omega) (by omega)
     | exact Il (a5 _ (by omega) (by omega))
     | exact u _ _ (by omega) (by omega) (by omega)
   ·show(bubble ys (lo+k) (lo+k-(lo+l)))[i]? =_
    rw[getElem?_bubble (by omega) _ (by omega),Gq (by omega),Gq (by omega)]
 ·rintro c st' ⟨rfl,ys,rfl,u,bg⟩
  refine⟨rfl,ys,rfl,?_,bg⟩
  rwa [show max (max ok 1) n=n by omega]at u
 ·rintro c st' ⟨rfl,ys,rfl,u,bg⟩
  exact HB (h ys u bg)
end
end
section
variable{kf:Keyed->Int}{prog:Program}{w:World}{A:Around}{E:Value->Shared->Prop}{s:Shared}{st:SortSt}{κ:SortKind}{D:Keyed->Prop}
theorem xC{σ:Type}{M:Model}{Q:PUnit->σ->Prop}{st v:σ}(h:Q ⟨⟩ v):wpS M A E s (set v:StateT σ Sem PUnit) Q st:=by
 unfold wpS;rw[StateT.run_set];exact G7 ⟨rfl,h⟩
theorem lay:∀(m:List Keyed)(k sa:Nat)(a:Array Keyed)(P X S:List Keyed),a.toList=P++(X++S)->P.length=sa+k->X.length=m.length->((m.zipIdx k).foldl (fun a (x:Keyed×Nat)=>a.setIfInBounds (sa+x.2) x.1) a).toList=P++(m++S)
 | [],k,sa,a,P,X,S,e,h1,h2=>by
  have:X=[]:=Jy.mp h2;subst this;exact e
 | x::m,k,sa,a,P,[],S,e,h1,h2=>by simp at h2
 | x::m,k,sa,a,P,y::X,S,e,h1,h2=>by
  rw[List.zipIdx_cons,List.foldl_cons]
  have:=lay m (k+1) sa (a.setIfInBounds (sa+k) x) (P++[x]) X S (by
   rw[Array.toList_setIfInBounds,e,<-h1];simp) (by simp;omega) (by simpa using h2)
  rw[this];simp
theorem wq{a:Array Keyed}{P X S:List Keyed}(e:a.toList=P++(X++S))(i:Nat)(h:i<X.length):a[P.length+i]? =X[i]? :=by
 rw[<- HU,e,JG (by omega),Jw,JK h]
theorem rY{a:Array Keyed}{P X S:List Keyed}(e:a.toList=P++(X++S)):(a.extract P.length (P.length+X.length)).toList=X:=by
 rw[Iy,IY,e,Jw,List.drop_left,List.take_left]
theorem tB{a:Array Keyed}{pd:Array (Nat×Nat×Nat)}{i pw pq:Nat}{P X Y S:List Keyed}{Q:Bool->SortSt->Prop}(hc:uB prog w A s κ kf D)(hk:kindOf st=κ)(hF:failedOf st=none)(ha:arrOf st=a)(dA:∀x∈a.toList,D x)(e:a.toList=P++(X++(Y++S)))
  (hp:pendingOf st=pd) (p1:pd[i]? =some (P.length,X.length,pw)) (p2:pd[i+1]? =some (P.length+X.length,Y.length,pq)) (nx:X≠[]) (ny:Y≠[]) (sx:fE kf X) (sy:fE kf Y)
  (h:∀b C g,b.toList=P++(C++S)->fE kf C->C.Perm (X++Y)->Q true (SortSt.mk' κ b ((pd.setIfInBounds i (P.length,X.length+Y.length,pw)).eraseIdxIfInBounds (i+1)) g none)):wpS (model prog w) A E s (mergeAt' i) Q st:=by
 subst hk ha hp;have lx:0<X.length:=Jr.mpr nx;have ly:0<Y.length:=Jr.mpr ny;have dX:∀x∈X,D x:=fun x hx=>dA x (by rw[e];simp[hx]);have dY:∀x∈Y,D x:=fun x hx=>dA x (by rw[e];simp[hx]);have e2:(arrOf st).toList=(P++X)++(Y++S):=by rw[e,HZ]
 have atY:=fun i hi=>wq e2 i hi;rw[G6]at atY;have atX:=fun i hi=>wq e i hi
 change wpS _ _ _ _ (_ >>= _:SM Bool) _ _
 refine Gy (Kf ?_);dsimp only;rw[p1,p2];dsimp only;refine Gy (xC ?_);have y0:=atY 0 ly;rw[Nat.add_zero,HA ly]at y0;refine Gy (yi y0 ?_);refine Gy (tS (L:=X) hc rfl (dY _ (Jq ly)) rfl atX sx dX lx fun k kn k2 k3=> ?_);dsimp only;have k2:=fun x hx=>C8 (k2 x hx);have k3:=fun x hx=>Il (C7 (k3 x hx));have yh:∀y∈Y,kf Y[0]<=kf y:=by
  cases Y with
  | nil=>cases ly
  | cons y Y=>exact fun z hz=>fE.hd sy hz
 have whole:(∀x∈X,∀y∈Y,kf x<=kf y)->Q true (SortSt.mk' (kindOf st) (arrOf st) (((pendingOf st).setIfInBounds i (P.length,X.length+Y.length,pw)).eraseIdxIfInBounds (i+1)) (gallopOf st) (failedOf st)):=fun q=>by
  rw[hF];exact h _ (X++Y) _ (by rw[e,HZ]) (Hz.mpr ⟨sx,sy,q⟩) (J5 _)
 by_cases c:X.length-k=0
 ·rw[Gu (by simpa using c)]
  refine HB (whole fun x hx y hy=> ?_);rw[IQ (by omega)]at k2;exact Ik (k2 x hx) (yh y hy)
 ·rw[Gq (by simpa using c)]
  have xl:=atX (X.length-1) (by omega);rw[HA (by omega)]at xl;rw[show P.length+k+(X.length-k)-1=P.length+(X.length-1)by omega];refine Gy (yi xl ?_);have xh:∀x∈X,kf x<=kf (X[X.length-1]'(by omega)):=fun x hx=>by
   obtain⟨j,hj,rfl⟩:=List.getElem_of_mem hx
   rcases Nat.lt_or_ge j (X.length-1)with z|z
   ·exact KU.mp sx j (X.length-1) hj (by omega) z
   ·have:j=X.length-1:=by omega
    subst this;exact JP _
  refine Gy (tS (L:=Y) hc rfl (dX _ (Jq _)) rfl atY sy dY (by omega) fun n nn n2 n3=> ?_);dsimp only;have n2:=fun x hx=>Il (C6 (n2 x hx));have n3:=fun x hx=>C9 (n3 x hx)
  by_cases c2:n=0
  ·rw[Gu (by simpa using c2)]
   refine HB (whole fun x hx y hy=> ?_);subst c2;exact Ik (xh x hx) (n3 y hy)
  ·rw[Gq (by simpa using c2)]
   have eX:((arrOf st).extract (P.length+k) (P.length+X.length)).toList=X.drop k:=by
    have:=rY (a:=arrOf st) (P:=P++X.take k) (X:=X.drop k) (S:=Y++S) (by rw[e,HZ,<-HZ (X.take k),Ha])
    rwa [G6,Hq,JE,Ic kn,show P.length+k+(X.length-k)=P.length+X.length by omega]at this
   have eY:((arrOf st).extract (P.length+X.length) (P.length+X.length+n)).toList=Y.take n:=by
    have:=rY (a:=arrOf st) (P:=P++X) (X:=Y.take n) (S:=Y.drop n++S) (by rw[e2,<-HZ (Y.take n),Ha])
    rwa [G6,Hq,Ic nn]at this
   generalize hx:(arrOf st).extract (P.length+k) (P.length+X.length)=x at eX
   generalize hy:(arrOf st).extract (P.length+X.length) (P.length+X.length+n)=y at eY
   have zx:x.size=X.length-k:=by rw[<- HJ,eX,JE]
   have zy:y.size=n:=by rw[<- HJ,eY,Hq,Ic nn]
   have gx:x.getD (x.size-1) default=X[X.length-1]'(by omega):=by
    have:x[x.size-1]? =X[X.length-1]? :=by
     rw[<- HU,eX,List.getElem?_drop,zx]
     congr 1
     omega
    rw[Jh,this,HA (by omega)];rfl
   have ny0:0<y.size:=by omega
   have gy:y[0]'ny0=Y[0]'ly:=by
    have:y[0]? =Y[0]? :=by
     rw[<- HU,eY,JR (by omega)]
    rw[getElem?_pos y 0 ny0,HA ly]at this;exact HM this
   have fin:∀r g,Fi kf (x.toList++y.toList) r->wpS (model prog w) A E s (do
     modify fun s=>setArr s (r.toList.zipIdx.foldl (fun a p=>a.setIfInBounds (P.length+k+p.2) p.1) (arrOf s))
     return(failedOf (<- get)).isNone) Q (b8 (SortSt.mk' (kindOf st) (arrOf st) (((pendingOf st).setIfInBounds i (P.length,X.length+Y.length,pw)).eraseIdxIfInBounds (i+1)) (gallopOf st) (failedOf st)) g):=fun r g f=>by
    refine Gy (JW (Gy (Kf (HB ?_))));have pm:=f.2;rw[eX,eY]at pm
    have q:=lay r.toList 0 (P.length+k) (arrOf st) (P++X.take k) (X.drop k++Y.take n) (Y.drop n++S) (by
     rw[e]
     conv=>lhs;rw[<- Ha k X,<-Ha n Y]
     simp only[HZ]) (by rw[G6,Hq,Ic kn];rfl) pm.length_eq.symm
    have:=h _ (X.take k++(r.toList++Y.drop n)) g (by rw[q];simp only[HZ]) ?_ ?_
    ·rw[hF]
     exact this
    ·refine Hz.mpr ⟨KC (List.take_sublist _ _) sx,Hz.mpr ⟨f.1,KC (List.drop_sublist _ _) sy,fun a ha b hb=> ?_⟩,fun a ha b hb=> ?_⟩
     ·have:=pm.mem_iff.mp ha
      rcases Hr.mp this with z|z
      ·exact Ik (xh a (JN z)) (n3 b hb)
      ·exact Ik (n2 a z) (n3 b hb)
     ·rcases Hr.mp hb with z|z
      ·rcases Hr.mp (pm.mem_iff.mp z)with z|z
       ·rw[<- Ha k X]at sx
        exact(Hz.mp sx).2.2 a ha b z
       ·exact Ik (k2 a ha) (yh b (Ix z))
      ·exact Ik (k2 a ha) (yh b (JN z))
    ·refine List.Perm.trans (JJ _ (List.Perm.append_right _ pm)) ?_
     conv=>rhs;rw[<- Ha k X,<-Ha n Y]
     simp only[HZ];exact J5 _
   have dx:∀z∈x.toList,D z:=fun z hz=>dX z (by rw[eX]at hz;exact JN hz);have dy:∀z∈y.toList,D z:=fun z hz=>dY z (by rw[eY]at hz;exact Ix hz);have ax:fE kf x.toList:=by rw[eX];exact KC (List.drop_sublist _ _) sx
   have ay:fE kf y.toList:=by rw[eY];exact KC (List.take_sublist _ _) sy
   have hf:∀z∈x.toList,kf (y[0]'ny0)<=kf z:=fun z hz=>by rw[gy];exact k3 z (by rwa [eX]at hz)
   have hl:∀z∈y.toList,kf z<=kf (x.getD (x.size-1) default):=fun z hz=>by rw[gx];exact n2 z (by rwa [eY]at hz)
   by_cases c3:X.length-k<=n
   ·rw[Gu c3]
    exact Gy (mergeLo hc rfl dx dy ax ay (by omega) ny0 hf hl fin)
   ·rw[Gq c3]
    exact Gy (mergeHi hc rfl dx dy ax ay (by omega) ny0 hf hl fin)
end
noncomputable def gR:Nat->List (List Keyed)->List (Nat×Nat)
 | _,[]=>[]
 | o,R::t=>(o,R.length)::gR (o+R.length) t
theorem fk:∀(o:Nat)(R1 R2:List (List Keyed)),gR o (R1++R2)=gR o R1++gR (o+R1.flatten.length) R2
 | o,[],R2=>by simp[gR]
 | o,R::t,R2=>by
  show(o,R.length)::gR (o+R.length) (t++R2)=_;rw[fk];simp[gR,Nat.add_assoc]
theorem jK:∀(o:Nat)(R:List (List Keyed)),(gR o R).length=R.length
 | _,[]=>rfl
 | o,_::t=>by simp[gR,jK _ t]
noncomputable abbrev pm(p:Array (Nat×Nat×Nat)):List (Nat×Nat):=p.toList.map fun r=>(r.1,r.2.1)
section
variable{kf:Keyed->Int}{κ:SortKind}
structure Inv(kf:Keyed->Int)(κ:SortKind)(a₀:List Keyed)(st:SortSt)(RS:List (List Keyed))(aM:List Keyed):Prop where
 kind:kindOf st=κ
 fail:failedOf st=none
 arr:(arrOf st).toList=RS.flatten++aM
 perm:(RS.flatten++aM).Perm a₀
 pd:pm (pendingOf st)=gR 0 RS
 asc:∀R∈RS,fE kf R/\R≠[]
theorem Inv.len{a₀:List Keyed}{st:SortSt}{RS:List (List Keyed)}{aM:List Keyed}(I:Inv kf κ a₀ st RS aM):(pendingOf st).size=RS.length:=by
 have:=Ia List.length I.pd
 rwa [Go,HJ,jK]at this
theorem vZ:∀{RS:List (List Keyed)},(∀R∈RS,R≠[])->RS.length<=RS.flatten.length
 | [],_=>Gr _
 | R::t,h=>by
  have h1:=Jr.mpr (h R Gw);have h2:=vZ fun R hR=>h R (Gs _ hR);simp;simp at h2;omega
theorem two{α:Type}{l:List α}{i:Nat}(h:i+1<l.length):∃l1 x y l2,l=l1++x::y::l2/\l1.length=i :=
 ⟨l.take i,l[i],l[i+1],l.drop (i+2),by rw[<- IA h,<-IA (by omega),Ha],by simp;omega⟩
variable{prog:Program}{w:World}{A:Around}{E:Value->Shared->Prop}{s:Shared}{st:SortSt}{D:Keyed->Prop}{a₀:List Keyed}{RS:List (List Keyed)}{aM:List Keyed}
theorem Inv.merge{i:Nat}{Q:Bool->SortSt->Prop}(I:Inv kf κ a₀ st RS aM)(hc:uB prog w A s κ kf D)(d0:∀x∈a₀,D x)(hi:i+1<RS.length)(h:∀st' RS',Inv kf κ a₀ st' RS' aM->RS'.flatten.length=RS.flatten.length->RS'.length+1=RS.length->Q true st'):wpS (model prog w) A E s (mergeAt' i) Q st:=by
 obtain⟨R1,X,Y,R2,rfl,hl⟩:=two hi;have pd:=I.pd;rw[fk,Nat.zero_add]at pd;obtain⟨q1,q',e1,e2,e3⟩:=List.map_eq_append_iff.mp pd;obtain⟨⟨sa,na,pw⟩,q'',rfl,e4,e5⟩:=Jj.mp e3;obtain⟨⟨sb,nb,pq⟩,q2,rfl,e6,e7⟩:=Jj.mp e5;cases e4;cases e6;have l1:q1.length=i:=by rw[<- hl,<-jK 0 R1,<-e2,Go]
 have dA:∀x∈(arrOf st).toList,D x:=fun x hx=>d0 x (by rw[I.arr]at hx;exact I.perm.mem_iff.mp hx);refine tB (P:=R1.flatten) (X:=X) (Y:=Y) (S:=R2.flatten++aM) (pw:=pw) (pq:=pq) hc I.kind I.fail rfl dA (by rw[I.arr];simp) rfl (by rw[<- HU,e1,<-l1];simp) (by rw[<- HU,e1,<-l1];simp) (I.asc X (by simp)).2 (I.asc Y (by simp)).2 (I.asc X (by simp)).1 (I.asc Y (by simp)).1 fun b C g b1 b2 b3=> ?_;refine h _ (R1++C::R2) ⟨rfl,rfl,by simpa using b1,?_,?_,fun R hR=> ?_⟩ ?_ (by simp;omega)
 ·refine List.Perm.trans ?_ I.perm
  simp only[List.flatten_append,Ii,HZ];refine JJ _ ?_;rw[<- HZ X];exact List.Perm.append_right _ b3
 ·show List.map _ ((((pendingOf st).setIfInBounds i (R1.flatten.length,X.length+Y.length,pw)).eraseIdxIfInBounds (i+1)).toList)=_
  have:(((pendingOf st).setIfInBounds i (R1.flatten.length,X.length+Y.length,pw)).eraseIdxIfInBounds (i+1)).toList=q1++(R1.flatten.length,X.length+Y.length,pw)::q2:=by
   rw[Array.eraseIdxIfInBounds_eq,dif_pos (by rw[Array.size_setIfInBounds,<-HJ,e1];simp;omega),Array.toList_eraseIdx,Array.toList_setIfInBounds,e1,<-l1];simp[List.eraseIdx_append_of_length_le]
  rw[this,Hx,HW,e2,e7,fk,Nat.zero_add];show _=gR 0 R1++(_,C.length)::gR _ R2;rw[b3.length_eq,G6,Nat.add_assoc]
 ·rcases Hr.mp hR with z|z
  ·exact I.asc R (by simp[z])
  ·rcases HE.mp z with z|z
   ·subst z
    refine⟨b2,fun z=> ?_⟩;subst z;have:=b3.length_eq;have:=Jr.mpr (I.asc X (by simp)).2;simp at *;omega
   ·exact I.asc R (by simp[z])
 ·have:=b3.length_eq
  simp at this ⊢;omega
theorem uK{a:Array Keyed}{P R:List Keyed}{m:Nat}(e:a.toList=P++R)(hm:m<=R.length)(u:Up kf a P.length (P.length+m)):fE kf (R.take m):=by
 have k:∀i (hi:i<R.length),Kx kf a (P.length+i)=kf R[i]:=fun i hi=>by
  unfold Kx;rw[Jh,<-HU,e,JG (by omega),Jw,HA hi];rfl
 refine KU.mpr fun i j hi hj ij=> ?_;rw[Hq]at hi hj;rw[List.getElem_take,List.getElem_take,<-k i (by omega),<-k j (by omega)];exact u _ _ (by omega) (by omega) (by omega)
theorem Bg.tl{a b:Array Keyed}{P R:List Keyed}(e:a.toList=P++R)(h:Bg a b P.length):∃R',b.toList=P++R' /\R'.Perm R:=by
 have l:b.toList.take P.length=P:=by
  refine List.ext_getElem? fun i=> ?_
  by_cases c:i<P.length
  ·rw[JR c,HU,h.2 i c,<-HU,e,JK c]
  ·rw[Jd (by simp;omega),Jd (by omega)]
 have z:=Ha P.length b.toList;rw[l]at z;refine⟨_,z.symm,?_⟩;have p:=Array.perm_iff_toList_perm.mp h.1;rw[e,<-z]at p;exact(List.perm_append_left_iff P).mp p
theorem Inv.laid(I:Inv kf κ a₀ st RS aM){b:Array Keyed}(h:Bg (arrOf st) b RS.flatten.length):∃rest',Inv kf κ a₀ (setArr st b) RS rest' /\rest'.length=aM.length:=by
 obtain⟨R',e,p⟩:=h.tl I.arr;exact⟨R',⟨I.kind,I.fail,e,(JJ _ p).trans I.perm,I.pd,I.asc⟩,p.length_eq⟩
theorem ile{c:Prop}[Decidable c]{n:Nat}:(if c then n-1 else n)+1<n+2:=by split<;>omega
theorem Inv.push{n:Nat}(I:Inv kf κ a₀ st RS aM)(h:fE kf (aM.take n))(h1:1<=n)(h2:n<=aM.length):Inv kf κ a₀ (setPending st ((pendingOf st).push (RS.flatten.length,n,0))) (RS++[aM.take n]) (aM.drop n):=by
 have e:(RS++[aM.take n]).flatten++aM.drop n=RS.flatten++aM:=by simp
 refine⟨I.kind,I.fail,by rw[e];exact I.arr,by rw[e];exact I.perm,?_,fun R hR=> ?_⟩
 ·show List.map _ ((pendingOf st).push _).toList=_
  rw[Io,Hx,fk,Nat.zero_add,<-I.pd];simp[gR,Ic h2]
 ·rcases Hr.mp hR with z|z
  ·exact I.asc R z
  ·rw[HF.mp z]
   exact⟨h,Jr.mp (by simp;omega)⟩
theorem Inv.pow{i pw:Nat}(I:Inv kf κ a₀ st RS aM){f:Nat×Nat×Nat->Nat×Nat×Nat}(hf:∀x,((f x).1,(f x).2.1)=(x.1,x.2.1)):Inv kf κ a₀ (setPending st ((pendingOf st).modify i f)) RS aM:=by
 refine⟨I.kind,I.fail,I.arr,I.perm,?_,I.asc⟩;rw[<- I.pd];show List.map _ ((pendingOf st).modify i f).toList=_;rw[Array.toList_modify];refine List.ext_getElem? fun j=> ?_;rw[HG,HG,List.getElem?_modify];cases(pendingOf st).toList[j]? with
 | none=>rfl
 | some x =>
  by_cases c:i=j
  ·simp[c,hf]
  ·simp[c]
theorem Au{Q:Unit->SortSt->Prop}(hc:uB prog w A s κ kf D)(d0:∀x∈a₀,D x)(hk:kindOf st=κ)(hF:failedOf st=none)(ha:(arrOf st).toList=a₀)(hp:pendingOf st= #[])
  (h:∀st',failedOf st' =none->(arrOf st').toList.Perm a₀->fE kf (arrOf st').toList->Q () st'):wpS (model prog w) A E s sortRuns' Q st:=by
 have hz:(arrOf st).size=a₀.length:=by rw[<- ha,HJ]
 rw[sortRuns'_eq];refine Gy (Kf ?_);dsimp only;rw[hz]
 generalize minRun' a₀.length a₀.length 0=mr
 have dI:∀{st:SortSt}{RS:List (List Keyed)}{aM:List Keyed},Inv kf κ a₀ st RS aM->∀x∈(arrOf st).toList,D x:=fun I x hx=>d0 x (by rw[I.arr]at hx;exact I.perm.mem_iff.mp hx);have lI:∀{st:SortSt}{RS:List (List Keyed)}{aM:List Keyed},Inv kf κ a₀ st RS aM->RS.flatten.length+aM.length=a₀.length/\(arrOf st).size=a₀.length:=fun I=>by
  have:=I.perm.length_eq;rw[G6]at this;exact⟨this,by rw[<- HJ,I.arr,G6,this]⟩
 refine Gy (JH (IK (I:=fun x c st' =>∃RS aM lo,c=(none,lo)/\Inv kf κ a₀ st' RS aM/\RS.flatten.length=lo/\x<=lo)
  (Q:=fun c st' =>∃RS,c=(none,a₀.length)/\Inv kf κ a₀ st' RS []) ?_ ?_ ⟨[],a₀,0,rfl,⟨hk,hF,ha,J5 _,by rw[hp];rfl,fun R hR=>by cases hR⟩,rfl,Gr _⟩) ?_)
 ·rintro x c st' _ hx ⟨RS,aM,lo,rfl,I,rfl,hl⟩
  dsimp only;obtain⟨l1,l2⟩:=lI I
  by_cases ge:RS.flatten.length ≥ a₀.length
  ·rw[Gu ge]
   have:aM=[]:=Jy.mp (by omega);subst this;have l1:RS.flatten.length+0=a₀.length:=l1;exact HB ⟨RS,by rw[<- l1];rfl,I⟩
  ·rw[Gq ge]
   refine Gy (yn (st:=st') (xs:=arrOf st') hc I.kind (dI I) (by omega) (by omega) fun m ys m1 m2 m3 bg=> ?_);dsimp only;obtain⟨r2,I2,z2⟩:=I.laid bg
   have fin:∀{st:SortSt}{n:Nat}{RS' :List (List Keyed)}{aM:List Keyed},Inv kf κ a₀ st RS' aM->RS'.flatten.length=RS.flatten.length->fE kf (aM.take n)->1<=n->n<=aM.length->wpS (model prog w) A E s (do
     modify fun s=>setPending s ((pendingOf s).push (RS.flatten.length,n,0))
     pure (ForInStep.yield ((none:Option Unit),RS.flatten.length+n))) (fun r st' =>match r with| .done c=>∃RS,c=(none,a₀.length)/\Inv kf κ a₀ st' RS []| .yield c=>∃RS aM lo,c=(none,lo)/\Inv kf κ a₀ st' RS aM/\RS.flatten.length=lo/\x+1<=lo) st:=fun{st n RS' aM} I e u n1 n2=>by
    have:=I.push u n1 n2;rw[e]at this;refine Gy (JW (HB ⟨_,_,_,rfl,this,?_,by omega⟩));simp only[List.flatten_append,G6,e];simp[Ic n2]
   by_cases c:m<mr
   ·rw[Gu c]
    refine Gy (wpS_lift (Jt ⟨rfl,?_⟩));obtain⟨l3,l4⟩:=lI I2;refine Gy (GI (st:=st') (xs:=ys) hc I.kind (dI I2) (by rw[show ys.size=_ from l4];omega) m1 (by omega) m3 fun zs u b2=> ?_);obtain⟨r3,I3,z3⟩:=I2.laid b2;have u:fE kf (r3.take (min (a₀.length-RS.flatten.length) mr)):=uK I3.arr (by omega) u;rw[Gq (by simp)];have n1:1<=min (a₀.length-RS.flatten.length) mr:=by omega
    have n2:min (a₀.length-RS.flatten.length) mr<=r3.length:=by omega
    generalize min (a₀.length-RS.flatten.length) mr=n at u n1 n2 ⊢
    refine Gy (Kf ?_);cases hb:(pendingOf (setArr st' _)).back? with
    | none=>exact JH (fin I3 rfl u n1 n2) fun r st' h=>by cases r<;>exact h
    | some r =>
     obtain⟨s1,k1,p1⟩:=r;dsimp only;refine Gy (JH (IK (I:=fun x c st' =>c=(none,())/\∃RS',Inv kf κ a₀ st' RS' r3/\RS'.flatten.length=RS.flatten.length) (Q:=fun c st' =>c=(none,())/\∃RS',Inv kf κ a₀ st' RS' r3/\RS'.flatten.length=RS.flatten.length) ?_ ?_ ⟨rfl,RS,I3,rfl⟩) ?_)
     ·rintro x c st4 _ hx ⟨rfl,RS4,I4,e4⟩
      refine Gy (Kf ?_)
      by_cases c:(pendingOf st4).size>1
      ·rw[Gu c]
       cases(pendingOf st4)[(pendingOf st4).size-2]? with
       | none=>exact HB ⟨rfl,RS4,I4,e4⟩
       | some r =>
        dsimp only
        by_cases d:r.2.2<=power' a₀.length (2*s1+k1) (2*s1+k1+k1+n) a₀.length
        ·rw[Gu d]
         exact HB ⟨rfl,RS4,I4,e4⟩
        ·rw[Gq d]
         refine Gy (I4.merge hc d0 (by rw[I4.len]at c ⊢;omega) fun st5 RS5 I5 f5 _=> ?_);rw[Gq (by simp)];exact HB ⟨rfl,RS5,I5,by omega⟩
      ·rw[Gq c]
       exact HB ⟨rfl,RS4,I4,e4⟩
     ·exact fun c st4 h=>h
     ·rintro c st4 ⟨rfl,RS4,I4,e4⟩
      dsimp only;refine Gy (JW ?_);exact JH (fin (I4.pow (pw:=0) fun _=>rfl) e4 u n1 n2) fun r st' h=>by cases r<;>exact h
   ·rw[Gq c]
    have u:fE kf (r2.take m):=uK I2.arr (by omega) m3;have I3:=I2;have n1:=m1;have n2:m<=r2.length:=by omega
    refine Gy (Kf ?_);cases hb:(pendingOf (setArr st' _)).back? with
    | none=>exact JH (fin I3 rfl u n1 n2) fun r st' h=>by cases r<;>exact h
    | some r =>
     obtain⟨s1,k1,p1⟩:=r;dsimp only;refine Gy (JH (IK (I:=fun x c st' =>c=(none,())/\∃RS',Inv kf κ a₀ st' RS' r2/\RS'.flatten.length=RS.flatten.length) (Q:=fun c st' =>c=(none,())/\∃RS',Inv kf κ a₀ st' RS' r2/\RS'.flatten.length=RS.flatten.length) ?_ ?_ ⟨rfl,RS,I3,rfl⟩) ?_)
     ·rintro x c st4 _ hx ⟨rfl,RS4,I4,e4⟩
      refine Gy (Kf ?_)
      by_cases c:(pendingOf st4).size>1
      ·rw[Gu c]
       cases(pendingOf st4)[(pendingOf st4).size-2]? with
       | none=>exact HB ⟨rfl,RS4,I4,e4⟩
       | some r =>
        dsimp only
        by_cases d:r.2.2<=power' a₀.length (2*s1+k1) (2*s1+k1+k1+m) a₀.length
        ·rw[Gu d]
         exact HB ⟨rfl,RS4,I4,e4⟩
        ·rw[Gq d]
         refine Gy (I4.merge hc d0 (by rw[I4.len]at c ⊢;omega) fun st5 RS5 I5 f5 _=> ?_);rw[Gq (by simp)];exact HB ⟨rfl,RS5,I5,by omega⟩
      ·rw[Gq c]
       exact HB ⟨rfl,RS4,I4,e4⟩
     ·exact fun c st4 h=>h
     ·rintro c st4 ⟨rfl,RS4,I4,e4⟩
      dsimp only;refine Gy (JW ?_);exact JH (fin (I4.pow (pw:=0) fun _=>rfl) e4 u n1 n2) fun r st' h=>by cases r<;>exact h
 ·rintro c st' ⟨RS,aM,lo,rfl,I,rfl,hx⟩
  obtain⟨l1,-⟩:=lI I;have:aM=[]:=Jy.mp (by omega);subst this;simp at l1;refine⟨RS,?_,I⟩;rw[<- l1];simp
 ·rintro c st' ⟨RS,rfl,I⟩
  dsimp only;obtain⟨l1,-⟩:=lI I;have l2:=vZ fun R hR=>(I.asc R hR).2;have fin:∀{st:SortSt}{RS:List (List Keyed)},Inv kf κ a₀ st RS []->RS.length<=1->Q () st:=fun{st RS} I l=>by
   have pe:=I.perm;have ar:=I.arr;rw[ID]at pe ar;refine h st I.fail (by rw[ar];exact pe) ?_;rw[ar]
   match RS,l,I with
   | [],_,_=>exact .nil
   | [R],_,I =>
    have:=(I.asc R (by simp)).1
    simpa using this
   | _::_::_,l,_=>simp at l
  refine Gy (IK (I:=fun x c st' =>∃RS,c=(none,())/\Inv kf κ a₀ st' RS []/\RS.length+x<=a₀.length+1) ?_ ?_ ⟨RS,rfl,I,by have l1:RS.flatten.length+0=a₀.length:=l1;omega⟩)
  ·rintro x c st' _ hx ⟨RS,rfl,I,lx⟩
   refine Gy (Kf ?_);rw[I.len]
   by_cases c:RS.length<=1
   ·rw[Gu c]
    exact HB (HB (fin I c))
   ·rw[Gq c]
    refine Gy (I.merge hc d0 (HX ile (show RS.length-2+2<=RS.length by omega)) fun st2 RS2 I2 _ e2=> ?_);rw[Gq (by simp)];exact HB ⟨RS2,rfl,I2,by omega⟩
  ·rintro c st' ⟨RS,rfl,I,lx⟩
   exact HB (fin I (by omega))
end
end TS
set_option genInjectivity false
namespace IR
open PySem
noncomputable abbrev bK:=L2.bK
inductive PV where
 | non|bl (b:Bool)|int (i:Int)|str (z:Str)|lst (xs:List PV)|tup (xs:List PV)|dK (ks:List bK) (vs:List PV)|dT (ks:List (List bK)) (vs:List PV)
instance:Inhabited PV:=⟨.non⟩
mutual
noncomputable def imm:PV->Bool
 | .non=>true| .bl _=>true| .int _=>true| .str _=>true
 | .lst _=>false
 | .tup xs=>imms xs
 | .dK _ _=>false| .dT _ _=>false
noncomputable def imms:List PV->Bool
 | []=>true
 | x::xs=>imm x&&imms xs
end
inductive Bf where
 | len|int|str|list|tuple|sorted|min|max|sum|abs|all|any|lrange|lrange2|isin (t:String)|sumv|sset|lset|trev|lvals
inductive Bm where
 | join|split|count|index|get|jrev
mutual
inductive IE where
 | con (v:PV)|var (i:Nat)|bin (op:Operator) (a b:IE)|neg (a:IE)|cmp (op:CmpOp) (a b:IE)|chn (o1 o2:CmpOp) (a b c:IE)
 | and (a b:IE)|or (a b:IE)|not (a:IE)|ite (c:IC) (a b:IE)
 | call (f:Nat) (es:qT)|bf (f:Bf) (es:qT)|mth (m:Bm) (o:IE) (es:qT)
 | lst (es:qT)|tup (es:qT)|dnew|dlit (k:bK) (e:IE)|dnewT|ixt (a:IE) (es:qT)|ix (a i:IE)|sl (a:IE) (lo hi:IO)|rev (a:IE)
 | lc (elt:IE) (src:IT) (ifs:AH) (caps:List Nat)|lc2 (elt:IE) (src:IT) (ifs:AH) (caps:List Nat)|lci (a:IE) (i:Nat)|lcs (a:IE)|never
inductive qT where
 | nil|cons (e:IE) (es:qT)
inductive IO where
 | no|yes (e:IE)
inductive IC where
 | val (e:IE)|not (c:IC)|and (c d:IC)|or (c d:IC)
inductive AH where
 | no|yes (c:IC)
inductive IT where
 | seq (e:IE)|rng (es:qT)|zip (a b:IE)|enum (a:IE)|rvd (a:IE)|never
end
mutual
inductive IS where
 | asg (i:Nat) (o:Bool) (cap:List Nat) (e:IE)|unp (is:List Nat) (cap:List Nat) (e:IE)|ret (cap:List Nat) (e:IE)|retN|ife (c:IC) (a b:om)
 | forr (is:List Nat) (one:Bool) (cap:List Nat) (src:IT) (body:om)|whil (c:IC) (body:om)|pass|brk|cont
 | app (i:Nat) (cap:List Nat) (e:IE)|ins (i:Nat) (k e:IE)|popD (i:Nat)|popT (j i:Nat)|clr (i:Nat)|revI (i:Nat)|seti (i:Nat) (cap:List Nat) (k e:IE)|sett (i:Nat) (cap:List Nat) (ks:qT) (e:IE)|drop (e:IE)|ext (i:Nat) (e:IE)|appE (o e:IE)|aug (i:Nat) (op:Operator) (e:IE)|augS (i:Nat) (op:Operator) (k e:IE)|grp (i:Nat) (es:qT) (c:IC) (a:om)|hand (m:Nat) (g:List PV->Option PV)|rais (x:Str)|never
inductive om where
 | nil|cons (s:IS) (ss:om)
end
inductive Bd where
 | lst|dK (ks:List bK)|dT (ks:List (List bK))
noncomputable def Bd.pv:Bd->List PV->PV
 | .lst,xs=>.lst xs
 | .dK ks,xs=>.dK ks xs
 | .dT ks,xs=>.dT ks xs
section
variable{κ α:Type}[DecidableEq κ]
noncomputable def fX:List κ->List α->κ->Option α
 | k' ::ks,x::xs,k=>if k' =k then some x else fX ks xs k
 | _,_,_=>none
noncomputable def Eh:List κ->List α->κ->α->List α
 | k' ::ks,x::xs,k,y=>(if k' =k then y else x)::Eh ks xs k y
 | _,xs,_,_=>xs
noncomputable def putL(ks:List κ)(xs:List α)(k:κ)(y:α):List α:=if k∈ks then Eh ks xs k y else xs++[y]
noncomputable def nK(ks:List κ)(k:κ):List κ:=if k∈ks then ks else ks++[k]
end
noncomputable def eG:PV->Option bK
 | .int i=>some (.inl i)
 | .str z=>some (.inr z)
 | _=>none
noncomputable def gX:List PV->Option (List bK)
 | []=>some []
 | x::xs=>(eG x).bind fun k=>(gX xs).map (k::·)
inductive TV where
 | un|frz (v:PV) (n:Bool)|own (xs:List PV) (n:Bool)|owd (b:Bd) (xs:List PV) (n:Bool)
noncomputable def TV.ob:TV->Option (Bd×List PV×Bool)
 | .own xs n=>some (.lst,xs,n)
 | .owd b xs n=>some (b,xs,n)
 | _=>none
noncomputable abbrev En:=List TV
noncomputable def TV.valD:TV->PV
 | .frz v _=>v
 | _=>.non
inductive RV where
 | frz (v:PV) (n:Bool)|bor (v:PV)|own (xs:List PV) (n:Bool)|owd (b:Bd) (xs:List PV) (n:Bool)
noncomputable def RV.val:RV->PV
 | .frz v _=>v
 | .bor v=>v
 | .own xs _=>.lst xs
 | .owd b xs _=>b.pv xs
noncomputable abbrev sc(v:PV):RV:=.frz v true
noncomputable def RV.keep:RV->Option (PV×Bool)
 | .frz v n=>some (v,n)
 | .bor v=>if imm v then some (v,true)else none
 | .own xs n=>some (.lst xs,n)
 | .owd b xs n=>some (b.pv xs,n)
noncomputable def fo(v:PV):RV:=if imm v then .frz v true else .bor v
noncomputable def RV.its:RV->Option (List PV×Bool)
 | .frz (.lst xs) n=>some (xs,n)
 | .frz (.tup xs) n=>some (xs,n)
 | .own xs n=>some (xs,n)
 | .bor (.lst xs)=>if imms xs then some (xs,true)else none
 | .bor (.tup xs)=>if imms xs then some (xs,true)else none
 | _=>none
noncomputable abbrev LN:Nat:=16777216
open L2 (tO ed)
noncomputable def signs(z:Str):List PV:=z.cps.toList.map fun c=>.str ⟨#[c]⟩
noncomputable def kK(xs:List PV)(n:Bool):Option RV:=if xs.length<=LN then some (.own xs n)else none
noncomputable def iY(xs:List PV)(n:Bool):Option RV:=if xs.length<=LN then some (.frz (.tup xs) n)else none
noncomputable def qM(a b:RV):Option RV :=
 match a.val,b.val with
 | .int i,.int j=>some (sc (.int (i+j)))
 | .str x,.str y=>if x.length+y.length<=LN then some (sc (.str (x++y)))else none
 | .lst _,.lst _=>match a.its,b.its with
  | some (xs,n),some (ys,m)=>kK (xs++ys) (n&&m)
  | _,_=>none
 | .tup _,.tup _=>match a.its,b.its with
  | some (xs,n),some (ys,m)=>iY (xs++ys) (n&&m)
  | _,_=>none
 | _,_=>none
noncomputable def qK(a b:RV):Option RV :=
 match a.val,b.val with
 | .int i,.int j=>some (sc (.int (i-j)))
 | _,_=>none
noncomputable def mj(a b:RV):Option RV :=
 match a.val,b.val with
 | .int i,.int j=>if(-(2^64)<i/\i<2^64)\/(-(2^64)<j/\j<2^64)then some (sc (.int (i*j)))else if i.natAbs<2^2000/\j.natAbs<2^2000 then some (sc (.int (i*j)))else none
 | .lst _,.int k=>match a with
  | .own xs n=>if 0<=k/\k<=1000000/\xs.length*k.toNat<=LN then some (.own (List.replicate k.toNat xs).flatten n)else none
  | _=>none
 | .tup _,.int k=>match a.its with
  | some (xs,n)=>if 2<=k/\k<=8/\xs.length=1 then iY (List.replicate k.toNat xs).flatten n else none
  | none=>none
 | .str z,.int k=>if 0<=k/\k<=1000/\z.length<=16 then some (sc (.str ⟨(List.replicate k.toNat z.cps.toList).flatten.toArray⟩))else none
 | _,_=>none
noncomputable def eN(a b:RV):Option RV :=
 match a.val,b.val with
 | .int i,.int j=>if 0<j/\j<2^200 then some (sc (.int (i/j)))else none
 | _,_=>none
noncomputable def qL(a b:RV):Option RV :=
 match a.val,b.val with
 | .int i,.int j=>if 0<j then some (sc (.int (i%j)))else none
 | _,_=>none
noncomputable def gh(a b:RV):Option RV :=
 match a.val,b.val with
 | .int i,.int j=>if 0<=j/\j<=1000000/\i.natAbs<2^64 then some (sc (.int (i*2^j.toNat)))else none
 | _,_=>none
noncomputable def cW(op:Operator)(a b:RV):Option RV:=match op with
 | .Add=>qM a b
 | .Sub=>qK a b
 | .Mult=>mj a b
 | .FloorDiv=>eN a b
 | .Mod=>qL a b
 | .LShift=>gh a b
 | _=>none
noncomputable def eqs:PV->PV->Option Bool
 | .int i,.int j=>some (decide (i=j))
 | .str i,.str j=>some (decide (i=j))
 | .bl i,.bl j=>some (decide (i=j))
 | .non,.non=>some true
 | .non,.int _=>some false| .non,.bl _=>some false| .non,.str _=>some false| .int _,.non=>some false| .bl _,.non=>some false| .str _,.non=>some false
 | .int _,.str _=>some false| .str _,.int _=>some false| .bl _,.str _=>some false| .str _,.bl _=>some false
 | _,_=>none
noncomputable def eqf:PV->PV->Bool
 | .int i,.int j=>decide (i=j)
 | .str i,.str j=>decide (i=j)
 | .bl i,.bl j=>decide (i=j)
 | .bl b,.int j=>decide ((if b then 1 else 0:Int)=j)
 | .int j,.bl b=>decide (j=(if b then 1 else 0:Int))
 | .non,.non=>true
 | _,_=>false
mutual
noncomputable def fR:PV->PyData
 | .non=>.none
 | .bl b=>.bool b
 | .int i=>.int i
 | .str z=>.str z
 | .lst xs=>.list (bV xs)
 | .tup xs=>.tuple (bV xs)
 | .dK _ _=>.dict []
 | .dT _ _=>.dict []
noncomputable def bV:List PV->List PyData
 | []=>[]
 | x::xs=>fR x::bV xs
end
mutual
noncomputable def rf:PV->PV->Bool
 | .lst xs,.lst ys=>pz xs ys
 | .tup xs,.tup ys=>pz xs ys
 | a,b=>eqf a b
noncomputable def pz:List PV->List PV->Bool
 | [],[]=>true
 | x::xs,y::ys=>rf x y&&pz xs ys
 | [],_::_=>false
 | _::_,[]=>false
end
noncomputable def cX:Nat->PV->Bool
 | _,.non=>true
 | _,.bl _=>true
 | _,.int _=>true
 | _,.str z=>PyData.strOk z
 | 0,.lst _=>false
 | 0,.tup _=>false
 | n+1,.lst xs=>xs.all (cX n)
 | n+1,.tup xs=>xs.all (cX n)
 | _,.dK _ _=>false
 | _,.dT _ _=>false
noncomputable def AA(x y:PV):Option Bool:=match eqs x y with
 | some b=>some b
 | none=>if cX 12 x&&cX 12 y then some (rf x y)else none
mutual
noncomputable def Fy(f:Int->Int->Bool)(g:Nat->Nat->Bool):PV->PV->Option Bool
 | .int i,.int j=>some (f i j)
 | .tup xs,.tup ys=>qC f g xs ys
 | _,_=>none
noncomputable def qC(f:Int->Int->Bool)(g:Nat->Nat->Bool):List PV->List PV->Option Bool
 | [],ys=>some (g 0 ys.length)
 | _::_,[]=>some (g 1 0)
 | x::xs,y::ys=>if rf x y then qC f g xs ys else Fy f g x y
end
noncomputable abbrev ltd:=Fy (fun i j=>decide (i<j)) fun a b=>decide (a<b)
noncomputable def ltT(x y:PV):Option Bool:=if cX 12 x&&cX 12 y then ltd x y else none
noncomputable def wT(a b:PV):Option Bool :=
 match a,b with
 | .int i,.int j=>some (decide (i<j))
 | .tup xs,.tup ys=>ltT (.tup xs) (.tup ys)
 | _,_=>none
noncomputable def qA(a b:PV):Option Bool :=
 match a,b with
 | .int i,.int j=>some (decide (i<=j))
 | _,_=>none
noncomputable def wV(a b:PV):Option Bool :=
 match a,b with
 | .int i,.int j=>some (decide (j<i))
 | _,_=>none
noncomputable def qB(a b:PV):Option Bool :=
 match a,b with
 | .int i,.int j=>some (decide (j<=i))
 | _,_=>none
noncomputable def wU(a b:PV):Option Bool :=
 match a,b with
 | .non,.non=>some true
 | x,.non=>some false
 | .bl b,.bl c=>some (b==c)
 | _,_=>none
noncomputable def bN(op:CmpOp)(a b:PV):Option Bool:=match op with
 | .Lt=>wT a b
 | .LtE=>qA a b
 | .Gt=>wV a b
 | .GtE=>qB a b
 | .Eq=>AA a b
 | .NotEq=>(AA a b).map (!·)
 | .Is=>wU a b
 | _=>none
noncomputable def kq:PV->Option Bool
 | .non=>some false
 | .bl b=>some b
 | .int i=>some (i !=0)
 | .str z=>if z.length<=LN then some ((z.length:Int) !=0)else none
 | .lst xs=>some !xs.isEmpty
 | .tup xs=>some !xs.isEmpty
 | .dK ks _=>some !ks.isEmpty
 | .dT _ _=>none
noncomputable def eE:PV->Option Nat
 | .str z=>if z.length<=LN then some z.length else none
 | .lst xs=>some xs.length
 | .tup xs=>some xs.length
 | .dK ks _=>some ks.length
 | _=>none
noncomputable def eW(t:String):PV->Option Bool
 | .non=>if t="int"\/t="str"\/t="list"\/t="tuple"\/t="bool" then some false else none
 | .bl _=>if t="int"\/t="bool" then some true else if t="str"\/t="list"\/t="tuple" then some false else none
 | .int _=>if t="int" then some true else if t="bool"\/t="str"\/t="list"\/t="tuple" then some false else none
 | .str _=>if t="str" then some true else if t="bool"\/t="int"\/t="list"\/t="tuple" then some false else none
 | .lst _=>if t="list" then some true else if t="bool"\/t="int"\/t="str"\/t="tuple" then some false else none
 | .tup _=>if t="tuple" then some true else if t="bool"\/t="int"\/t="str"\/t="list" then some false else none
 | .dK _ _=>if t="bool"\/t="int"\/t="str"\/t="list"\/t="tuple" then some false else none
 | .dT _ _=>none
noncomputable def lV:List PV->Option (List Bool)
 | []=>some []
 | .bl b::r=>(lV r).map (b::·)
 | _::_=>none
noncomputable def fY:List PV->Option (List Str)
 | []=>some []
 | .str z::r=>(fY r).map (z::·)
 | _::_=>none
noncomputable def bE:List PV->Option (List Int)
 | []=>some []
 | .int i::r=>(bE r).map (i::·)
 | _::_=>none
noncomputable def B6(sep:Str):List Str->Str
 | []=>⟨#[]⟩
 | [x]=>x
 | x::y::r=>x++sep++B6 sep (y::r)
noncomputable def lrng(n:Nat):List PV:=(List.range n).map fun i=>.int (i:Nat)
noncomputable def vA:PV->Option (Int×Int)
 | .tup xs=>(bE xs).bind fun ns=>match ns with
  | [a,b]=>some (a,b)
  | _=>none
 | _=>none
noncomputable def cG:List PV->Option (List (Int×Int))
 | []=>some []
 | x::r=>(vA x).bind fun q=>(cG r).map (q::·)
noncomputable def bZ(q:Int×Int):PV:=.tup [.int q.1,.int q.2]
noncomputable def jC(ps:List (Int×Int)):List (Int×Int):=ps.mergeSort fun a b=>decide (SW.ak a<=SW.ak b)
noncomputable def ua(xs:List PV):Option RV:=(cG xs).bind fun ps=>if ps.length<4096/\ps.all (fun q=>decide (0<=q.2)&&decide (q.2<1000))=true then some (.own ((jC ps).map bZ) true)else none
noncomputable def lA(xs:List PV):Option RV:=match bE xs with
 | some ns=>if ns.length<64 then some (.own ((L2.sortI ns).map PV.int) true)else none
 | none=>ua xs
noncomputable def tOf:PV->Option (List (Int×Int))
 | .tup xs=>cG xs
 | _=>none
noncomputable def lh:List PV->Option (List (List (Int×Int)))
 | []=>some []
 | x::r=>(tOf x).bind fun q=>(lh r).map (q::·)
noncomputable def tV(l:List (Int×Int)):PV:=.tup (l.map bZ)
noncomputable def bT(k:Int)(l:List (Int×Int)):Int:=l.foldl (fun k q=>k*1000000+SW.ak q) k
noncomputable def cA(ls:List (List (Int×Int))):List (List (Int×Int)):=ls.mergeSort fun a b=>decide (bT 0 a<=bT 0 b)
noncomputable def DZ(n:Nat)(l:List (Int×Int)):Bool:=decide (l.length=n)&&l.all fun q=>decide (0<=q.1)&&decide (q.1<1000)&&(decide (0<=q.2)&&decide (q.2<1000))
noncomputable def nE(xs:List PV):Option RV:=(lh xs).bind fun ls=>if ls.length<2 then some (.own xs true)else if ls.length<4096/\1<=(ls.headD []).length/\ls.all (DZ (ls.headD []).length)=true then some (.own ((cA ls).map tV) true)else none
noncomputable def qOf:PV->Option (List (Int×Int))
 | .lst xs=>cG xs
 | _=>none
noncomputable def pM:List PV->Option (List (List (Int×Int)))
 | []=>some []
 | x::r=>(qOf x).bind fun q=>(pM r).map (q::·)
noncomputable def qV(q:List (Int×Int)):PV:=.lst (q.map bZ)
noncomputable def cK(q:List (Int×Int)):Int:=SW.ak (q.headD (0,0))
noncomputable def fG(qs:List (List (Int×Int))):List (List (Int×Int)):=qs.mergeSort fun a b=>decide (cK a<=cK b)
noncomputable def uc(xs:List PV)(n:Bool):Option RV:=(pM xs).bind fun qs=>if qs.length<4096/\qs.all (fun q=> !q.isEmpty&&q.all fun p=>decide (0<=p.2)&&decide (p.2<1000))=true/\(qs.map cK).Nodup then some (.own ((fG qs).map qV) n)else none
noncomputable def jA(xs:List PV)(a:RV):Option RV:=match lA xs with
 | some r=>some r
 | none=>(match nE xs with
  | some r=>some r
  | none=>(match a.its with
   | some (ys,n)=>uc ys n
   | none=>none))
noncomputable def uh:PV->Option (List Int)
 | .lst xs=>(bE xs).bind fun ns=>if ns.all (fun n=>decide (0<=n)&&decide (n<8))=true then some ns else none
 | _=>none
noncomputable def revT(a:RV):Option RV:=match a.val with
 | .tup _=>(match a.its with
  | some (xs,n)=>if xs.isEmpty then none else some (.frz (.tup xs.reverse) n)
  | none=>none)
 | _=>none
noncomputable def strI:PV->Option RV
 | .int i=>if i.natAbs.log2<1920 then some (sc (.str (Str.ofString (toString i))))else none
 | _=>none
noncomputable def vw(x:PV)(xs:List PV):Option RV:=if xs.all (cX 12)&&cX 12 x then(xs.findIdx? fun y=>rf y x).map fun j=>sc (.int (j:Nat))else none
noncomputable def FK:PV->Option RV
 | .dK ks vs=>if ks.length<=LN then(bE vs).map fun ns=>.own (ns.map PV.int) true else none
 | _=>none
noncomputable def ml(f:Bf)(as:List RV):Option RV :=
 match f,as with
 | .len,[a]=>(eE a.val).map fun n=>sc (.int (n:Nat))
 | .int,[a]=>match a.val with
  | .int i=>some (sc (.int i))
  | .bl b=>some (sc (.int (if b then 1 else 0)))
  | _=>none
 | .list,[a]=>match a.its with
  | some (xs,n)=>some (.own xs n)
  | none=>none
 | .tuple,[a]=>match a.its with
  | some (xs,n)=>some (.frz (.tup xs) n)
  | none=>none
 | .all,[a]=>match a.val with
  | .lst xs=>(lV xs).map fun bs=>sc (.bl (bs.all id))
  | _=>none
 | .sum,[a]=>match a.val with
  | .lst xs=>(bE xs).map fun ns=>sc (.int ns.sum)
  | _=>none
 | .sorted,[a]=>match a.val with
  | .lst xs=>jA xs a
  | _=>none
 | .sumv,[a]=>match a.val with
  | .dK _ vs=>(bE vs).map fun ns=>sc (.int ns.sum)
  | _=>none
 | .sset,[a]=>(uh a.val).map fun ns=>.own ((L2.zi ns).map PV.int) true
 | .lset,[a]=>(uh a.val).map fun ns=>sc (.int ((L2.zi ns).length:Nat))
 | .trev,[a]=>revT a
 | .lvals,[a]=>FK a.val
 | .str,[a]=>strI a.val
 | .isin t,[a]=>(eW t a.val).map fun b=>sc (.bl b)
 | .min,[a,b]=>match a.val,b.val with
  | .int i,.int j=>some (sc (.int (if j<i then j else i)))
  | _,_=>none
 | .max,[a,b]=>match a.val,b.val with
  | .int i,.int j=>some (sc (.int (if j>i then j else i)))
  | _,_=>none
 | .abs,[a]=>match a.val with
  | .int i=>some (sc (.int (if i<0 then -i else i)))
  | _=>none
 | .lrange,[a]=>match a.val with
  | .int i=>if 0<=i/\i<=1000 then some (.own (lrng i.toNat) true)else none
  | _=>none
 | .lrange2,[a,b]=>match a.val,b.val with
  | .int i,.int j=>if -1000<=i/\j<=1000/\i<=j then some (.own ((List.range (j-i).toNat).map fun k=>.int (i+(k:Nat))) true)else none
  | _,_=>none
 | _,_=>none
noncomputable def FJ(m:Bm)(o:RV)(as:List RV):Option RV :=
 match m,o.val,as with
 | .join,.str sep,[a]=>match a.val with
  | .lst xs=>(fY xs).bind fun ys=>if(ys.map (·.length)).sum+ys.length*sep.length<=LN then some (sc (.str (B6 sep ys)))else none
  | .tup xs=>(fY xs).bind fun ys=>if(ys.map (·.length)).sum+ys.length*sep.length<=LN then some (sc (.str (B6 sep ys)))else none
  | _=>none
 | .jrev,.str sep,[a]=>match a.val with
  | .str z=>if sep.cps= #[]/\0<z.length/\z.length<=LN then some (sc (.str ⟨z.cps.toList.reverse.toArray⟩))else none
  | _=>none
 | .count,.str z,[a]=>match a.val with
  | .str y=>some (sc (.int (Txt.count z y)))
  | _=>none
 | .index,.tup xs,[a]=>vw a.val xs
 | .index,.lst xs,[a]=>vw a.val xs
 | .get,.dK ks vs,[a,d]=>(eG a.val).bind fun k=>match fX ks vs k with
  | some e=>(match o with
   | .frz _ n=>some (.frz e (n||imm e))
   | .bor _=>some (fo e)
   | _=>none)
  | none=>some d
 | _,_,_=>none
noncomputable def index(a i:RV):Option RV :=
 match a,i.val with
 | .frz (.lst xs) n,.int k=>(ed xs k).map fun e=>.frz e (n||imm e)
 | .frz (.tup xs) n,.int k=>(ed xs k).map fun e=>.frz e (n||imm e)
 | .own xs n,.int k=>(ed xs k).map fun e=>.frz e (n||imm e)
 | .bor (.lst xs),.int k=>(ed xs k).map fo
 | .bor (.tup xs),.int k=>(ed xs k).map fo
 | .frz (.str z) _,.int k=>if z.length<=LN then(ed z.cps.toList k).map fun c=>sc (.str ⟨#[c]⟩)else none
 | .frz (.dK ks vs) n,y=>(eG y).bind fun k=>(fX ks vs k).map fun e=>.frz e (n||imm e)
 | .bor (.dK ks vs),y=>(eG y).bind fun k=>(fX ks vs k).map fo
 | _,_=>none
noncomputable def ixT:RV->List bK->Option RV
 | .frz (.dT ks vs) n,k=>(fX ks vs k).map fun e=>.frz e (n||imm e)
 | .bor (.dT ks vs),k=>(fX ks vs k).map fo
 | _,_=>none
noncomputable def cut{α:Type}(xs:List α)(lo hi:Option Int):List α:=(xs.drop (HT.bS xs.length 0 lo)).take (HT.bS xs.length xs.length hi-HT.bS xs.length 0 lo)
noncomputable def slice(a:RV)(lo hi:Option Int):Option RV :=
 match a.val with
 | .str z=>if z.length<=LN then(match lo,hi with
  | none,some k=>if 0<=k then some (sc (.str ⟨(z.cps.toList.take k.toNat).toArray⟩))else none
  | some k,none=>if 0<=k then some (sc (.str ⟨(z.cps.toList.drop k.toNat).toArray⟩))else none
  | _,_=>none)else none
 | .lst _=>match a.its with
  | some (xs,n)=>some (.own (cut xs lo hi) (n||imms xs))
  | none=>none
 | .tup _=>match a.its with
  | some (xs,n)=>if HT.bS xs.length 0 lo=0/\HT.bS xs.length xs.length hi=xs.length then some (.frz (.tup xs) n)else some (.frz (.tup (cut xs lo hi)) n)
  | none=>none
 | _=>none
noncomputable def Eg(a:RV):Option RV :=
 match a.val with
 | .str z=>if z.length<=LN then some (sc (.str ⟨z.cps.toList.reverse.toArray⟩))else none
 | .lst _=>match a.its with
  | some (xs,n)=>some (.own xs.reverse n)
  | none=>none
 | _=>none
noncomputable def keeps:List RV->Option (List PV×Bool)
 | []=>some ([],true)
 | r::rs=>r.keep.bind fun(v,n)=>(keeps rs).map fun(vs,m)=>(v::vs,n&&m)
noncomputable def oJ(τ:En)(i:Nat):Option RV :=
 match τ[i]? with
 | some (.frz v n)=>some (.frz v n)
 | some (.own xs _)=>some (.bor (.lst xs))
 | some (.owd b xs _)=>some (.bor (b.pv xs))
 | _=>none
noncomputable def oF:Option RV->Option (Option Int)
 | none=>some none
 | some r=>match r.val with
  | .int i=>some (some i)
  | _=>none
noncomputable def cD(f:PV->Option (Option (PV×Bool))):List PV->Option (List PV×Bool)
 | []=>some ([],true)
 | x::xs=>(f x).bind fun r=>(cD f xs).map fun(vs,m)=>match r with
  | none=>(vs,m)
  | some (v,n)=>(v::vs,n&&m)
noncomputable def nQ:PV->Option (PV×PV)
 | .tup [a,b]=>some (a,b)
 | _=>none
noncomputable def iW:List RV->Option (List PV)
 | [a]=>match a.val with
  | .int j=>if -(2^62)<=j/\j<2^62 then some ((List.range j.toNat).map fun i=>.int (0+(i:Nat)))else none
  | _=>none
 | [a,b]=>match a.val,b.val with
  | .int i,.int j=>if -(2^62)<=i/\i<2^62/\ -(2^62)<=j/\j<2^62 then some ((List.range (j-i).toNat).map fun k=>.int (i+(k:Nat)))else none
  | _,_=>none
 | [a,b,c]=>match a.val,b.val,c.val with
  | .int i,.int j,.int k=>if k≠0/\k.natAbs<1073741824/\Builtin.Range.small i j k=true then some ((List.range (Builtin.Range.rangeSize i j k).toNat).map fun m=>.int (i+(m:Nat)*k))else none
  | _,_,_=>none
 | _=>none
noncomputable def mT:PV->Option Int
 | .int i=>some i
 | _=>none
noncomputable def iS:PV->Option Bool
 | .bl b=>some b
 | _=>none
noncomputable def lB(x:RV):Option (List PV×Bool×Bool):=match x with
  | .frz (.str z) _=>some (signs z,true,false)
  | .bor (.lst xs)=>if imms xs then some (xs,true,true)else none
  | .bor (.tup xs)=>if imms xs then some (xs,true,true)else none
  | .bor _=>none
  | r=>r.its.map fun(xs,n)=>(xs,n,false)
noncomputable def qx(x y:PV):PV:=.tup [x,y]
noncomputable def dk(i:Nat)(x:PV):PV:=.tup [.int (i:Nat),x]
noncomputable def nr:RV->Option (List PV×Bool)
 | .frz (.lst xs) n=>some (xs,n)
 | .own xs n=>some (xs,n)
 | _=>none
noncomputable def DY:RV->Option (List PV×Bool)
 | .frz (.tup xs) n=>some (xs,n)
 | r=>nr r
noncomputable def uC(x y:RV):Option (List PV×Bool) :=
 match nr x,nr y with
 | some (xs,n),some (ys,m)=>if xs.length=ys.length then some (List.zipWith qx xs ys,n&&m)else none
 | _,_=>none
noncomputable def lP(x:RV):Option (List PV×Bool) :=
 match x with
 | .frz (.str z) _=>some (List.zipWith dk (List.range z.length) (signs z),true)
 | .frz (.tup xs) n=>some (List.zipWith dk (List.range xs.length) xs,n)
 | x=>match nr x with
  | some (xs,n)=>some (List.zipWith dk (List.range xs.length) xs,n)
  | none=>none
noncomputable def EQ(t:Int):List bK->List PV->Option (List Int)
 | [],[]=>some []
 | .inl k::ks,.int v::vs=>(EQ t ks vs).map fun r=>if Builtin.bitAnd k t=0 then v::r else r
 | _,_=>none
noncomputable def qsI:List bK->List PV->Option (List (Int×Int))
 | [],[]=>some []
 | .inl k::ks,.int v::vs=>(qsI ks vs).map ((k,v)::·)
 | _,_=>none
noncomputable def FT:RV->Option RV
 | .frz (.dK ks vs) _=>if ks.length<=LN then(qsI ks vs).map fun qs=>.own (qs.map fun q=>.tup [.int q.2,.int q.1]) true else none
 | _=>none
noncomputable def FU(r:RV)(t:Option TV):Option RV:=match r,t with
 | .frz (.dK ks vs) _,some (.frz (.int t) _)=>if ks.length<=LN then(EQ t ks vs).map fun ns=>.own (ns.map PV.int) true else none
 | _,_=>none
section
variable(cd:Nat->List PV->Option PV)
noncomputable def iV:PV->RV
 | .lst xs=>.own xs true
 | v=>.frz v true
mutual
noncomputable def aP:IE->En->Option RV
 | .con v,_=>some (sc v)
 | .var i,τ=>oJ τ i
 | .bin op a b,τ=>(aP a τ).bind fun x=>(aP b τ).bind fun y=>cW op x y
 | .neg a,τ=>(aP a τ).bind fun x=>(mT x.val).map fun i=>sc (.int (-i))
 | .cmp op a b,τ=>(aP a τ).bind fun x=>(aP b τ).bind fun y=>(bN op x.val y.val).map fun r=>sc (.bl r)
 | .chn o1 o2 a b c,τ=>(aP a τ).bind fun x=>(aP b τ).bind fun y=>(bN o1 x.val y.val).bind fun r=>if r then(aP c τ).bind fun z=>(bN o2 y.val z.val).map fun r=>sc (.bl r)else some (sc (.bl false))
 | .and a b,τ=>(aP a τ).bind fun x=>(iS x.val).bind fun t=>if t then aP b τ else some (sc (.bl false))
 | .or a b,τ=>(aP a τ).bind fun x=>(iS x.val).bind fun t=>if t then some (sc (.bl true))else aP b τ
 | .not a,τ=>(aP a τ).bind fun x=>(iS x.val).map fun b=>sc (.bl !b)
 | .ite c a b,τ=>(dq c τ).bind fun r=>if r then aP a τ else aP b τ
 | .call f es,τ=>(bU es τ).bind fun rs=>(cd f (rs.map RV.val)).map iV
 | .bf f es,τ=>(bU es τ).bind fun rs=>ml f rs
 | .mth m o es,τ=>(aP o τ).bind fun x=>(bU es τ).bind fun rs=>FJ m x rs
 | .lst es,τ=>(bU es τ).bind fun rs=>(keeps rs).bind fun(vs,n)=>kK vs n
 | .tup es,τ=>(bU es τ).bind fun rs=>(keeps rs).bind fun(vs,n)=>iY vs n
 | .dnew,_=>some (.owd (.dK []) [] true)
 | .dlit k e,τ=>(aP e τ).bind fun r=>r.keep.bind fun(v,_)=>if imm v then some (.owd (.dK [k]) [v] true)else none
 | .dnewT,_=>some (.owd (.dT []) [] true)
 | .ixt a es,τ=>(aP a τ).bind fun x=>(bU es τ).bind fun rs=>(gX (rs.map RV.val)).bind fun k=>if k.length<=LN then ixT x k else none
 | .ix a i,τ=>(aP a τ).bind fun x=>(aP i τ).bind fun y=>index x y
 | .sl a lo hi,τ=>(aP a τ).bind fun x=>(CL lo τ).bind fun l=>(CL hi τ).bind fun h=>(oF l).bind fun l' =>(oF h).bind fun h' =>slice x l' h'
 | .rev a,τ=>(aP a τ).bind fun x=>Eg x
 | .lc elt src ifs caps,τ=>(kQ src τ).bind fun(xs,n,_)=>if xs.length<=LN then(cD (fun x=>(gZ ifs (.frz x (n||imm x)::caps.map fun i=>τ.getD i .un)).bind fun b =>
   if b then(aP elt (.frz x (n||imm x)::caps.map fun i=>τ.getD i .un)).bind fun r=>r.keep.map some else some none) xs).map fun(vs,m)=>.own vs m else none
 | .lc2 elt src ifs caps,τ=>(kQ src τ).bind fun(xs,n,_)=>if xs.length<=LN then(cD (fun x=>(nQ x).bind fun(a,b)=>(gZ ifs (.frz a (n||imm a)::.frz b (n||imm b)::caps.map fun i=>τ.getD i .un)).bind fun t =>
   if t then(aP elt (.frz a (n||imm a)::.frz b (n||imm b)::caps.map fun i=>τ.getD i .un)).bind fun r=>r.keep.map some else some none) xs).map fun(vs,m)=>.own vs m else none
 | .lci a i,τ=>(aP a τ).bind fun x=>FU x τ[i]?
 | .lcs a,τ=>(aP a τ).bind fun x=>FT x
 | .never,_=>none
noncomputable def bU:qT->En->Option (List RV)
 | .nil,_=>some []
 | .cons e es,τ=>(aP e τ).bind fun x=>(bU es τ).map (x::·)
noncomputable def CL:IO->En->Option (Option RV)
 | .no,_=>some none
 | .yes e,τ=>(aP e τ).map some
noncomputable def dq:IC->En->Option Bool
 | .val e,τ=>(aP e τ).bind fun x=>kq x.val
 | .not c,τ=>(dq c τ).map (!·)
 | .and c d,τ=>(dq c τ).bind fun r=>if r then dq d τ else some false
 | .or c d,τ=>(dq c τ).bind fun r=>if r then some true else dq d τ
noncomputable def gZ:AH->En->Option Bool
 | .no,_=>some true
 | .yes c,τ=>dq c τ
noncomputable def kQ:IT->En->Option (List PV×Bool×Bool)
 | .seq e,τ=>(aP e τ).bind lB
 | .rng es,τ=>(bU es τ).bind fun rs=>(iW rs).map fun xs=>(xs,true,false)
 | .zip a b,τ=>(aP a τ).bind fun x=>(aP b τ).bind fun y=>(uC x y).map fun(xs,n)=>(xs,n,false)
 | .enum a,τ=>(aP a τ).bind fun x=>(lP x).map fun(xs,n)=>(xs,n,false)
 | .rvd a,τ=>(aP a τ).bind fun x=>(DY x).map fun(xs,n)=>(xs.reverse,n,false)
 | .never,_=>none
end
inductive Fl where
 | nx (τ:En)|bk (τ:En)|ct (τ:En)|rt (v:PV)
noncomputable def eh(f:Fl)(k:En->Option Fl):Option Fl:=match f with
 | .nx τ=>k τ
 | .bk τ=>some (.bk τ)
 | .ct τ=>some (.ct τ)
 | .rt v=>some (.rt v)
noncomputable def mV(τ:En)(i:Nat):En :=
 match τ[i]? with
 | some (.own xs n)=>τ.set i (.frz (.lst xs) n)
 | some (.owd b xs n)=>τ.set i (.frz (b.pv xs) n)
 | _=>τ
noncomputable def ai(cap:List Nat)(τ:En):En:=cap.foldl mV τ
noncomputable def mF(o:Bool)(i:Nat)(r:RV)(τ:En):Option En :=
 match o,r with
 | true,.own xs n=>some (τ.set i (.own xs n))
 | true,.owd b xs n=>some (τ.set i (.owd b xs n))
 | _,r=>r.keep.map fun(v,n)=>τ.set i (.frz v n)
noncomputable def cJ(n:Bool):List Nat->List PV->En->Option En
 | [],[],τ=>some τ
 | i::is,x::xs,τ=>cJ n is xs (τ.set i (.frz x (n||imm x)))
 | _,_,_=>none
noncomputable def eA(is:List Nat)(one n:Bool)(x:PV)(τ:En):Option En :=
 if one then cJ n is [x] τ else match x with
  | .tup xs=>cJ n is xs τ
  | _=>none
noncomputable def Ao(is:List Nat)(n:Bool)(x:PV)(τ:En):Option En:=match x with
 | .tup xs=>cJ n is xs τ
 | .lst xs=>cJ n is xs τ
 | _=>none
noncomputable def jU(set:PV->En->Option En)(body:En->Option Fl):List PV->En->Option Fl
 | [],τ=>some (.nx τ)
 | x::xs,τ=>(set x τ).bind fun τ1=>(body τ1).bind fun f=>match f with
  | .nx τ2=>jU set body xs τ2
  | .ct τ2=>jU set body xs τ2
  | .bk τ2=>some (.nx τ2)
  | .rt v=>some (.rt v)
noncomputable def zP(c:En->Option Bool)(body:En->Option Fl):Nat->En->Option Fl
 | 0,_=>none
 | k+1,τ=>(c τ).bind fun b=>if b then(body τ).bind fun f=>(match f with
  | .nx τ2=>zP c body k τ2
  | .ct τ2=>zP c body k τ2
  | .bk τ2=>some (.nx τ2)
  | .rt v=>some (.rt v))else some (.nx τ)
variable(fu:Nat)
mutual
noncomputable def bz:IS->En->Option Fl
 | .asg i o cap e,τ=>let τ1:=ai cap τ;(aP cd e τ1).bind fun r=>(mF o i r τ1).map .nx
 | .unp is cap e,τ=>let τ1:=ai cap τ;(aP cd e τ1).bind fun r=>r.keep.bind fun(v,n)=>(Ao is n v τ1).map .nx
 | .ret cap e,τ=>let τ1:=ai cap τ;(aP cd e τ1).bind fun r=>r.keep.bind fun(v,n)=>if n then some (.rt v)else none
 | .retN,_=>some (.rt .non)
 | .ife c a b,τ=>(dq cd c τ).bind fun r=>if r then bD a τ else bD b τ
 | .forr is one cap src body,τ=>let τ1:=ai cap τ;(kQ cd src τ1).bind fun(xs,n,b)=>if b then none else jU (eA is one n) (fun τ=>bD body τ) xs τ1
 | .whil c body,τ=>zP (fun τ=>dq cd c τ) (fun τ=>bD body τ) fu τ
 | .pass,τ=>some (.nx τ)
 | .brk,τ=>some (.bk τ)
 | .cont,τ=>some (.ct τ)
 | .app i cap e,τ=>let τ1:=ai cap τ;(aP cd e τ1).bind fun r=>r.keep.bind fun(v,m)=>match τ1[i]? with
  | some (.own xs n)=>if xs.length<LN then some (.nx (τ1.set i (.own (xs++[v]) (n&&m))))else none
  | _=>none
 | .ins i k e,τ=>(aP cd k τ).bind fun x=>(aP cd e τ).bind fun r=>r.keep.bind fun(v,m)=>match x.val,τ[i]? with
  | .int j,some (.own xs n)=>if 0<=j/\j<=xs.length/\xs.length<LN then some (.nx (τ.set i (.own (xs.take j.toNat++v::xs.drop j.toNat) (n&&m))))else none
  | _,_=>none
 | .popD i,τ=>match τ[i]? with
  | some (.own xs n)=>if xs.length=0 then none else some (.nx (τ.set i (.own xs.dropLast n)))
  | _=>none
 | .popT j i,τ=>match τ[i]? with
  | some (.own xs n)=>match xs.getLast? with
   | some v=>if i=j then none else some (.nx ((τ.set i (.own xs.dropLast n)).set j (.frz v (n||imm v))))
   | none=>none
  | _=>none
 | .clr i,τ=>match τ[i]? with
  | some (.own _ _)=>some (.nx (τ.set i (.own [] true)))
  | _=>none
 | .revI i,τ=>match τ[i]? with
  | some (.own xs n)=>some (.nx (τ.set i (.own xs.reverse n)))
  | _=>none
 | .seti i cap k e,τ=>let τ1:=ai cap τ;(aP cd e τ1).bind fun r=>r.keep.bind fun(v,m)=>(aP cd k τ1).bind fun x=>match x.val,τ1[i]? with
  | .int j,some (.own xs n)=>(tO xs.length j).map fun q=>.nx (τ1.set i (.own (xs.set q v) (n&&m)))
  | y,some (.owd (.dK ks) xs n)=>(eG y).bind fun k=>if xs.length<LN then some (.nx (τ1.set i (.owd (.dK (nK ks k)) (putL ks xs k v) (n&&m))))else none
  | _,_=>none
 | .sett i cap es e,τ=>let τ1:=ai cap τ;(aP cd e τ1).bind fun r=>r.keep.bind fun(v,m)=>(bU cd es τ1).bind fun rs=>(gX (rs.map RV.val)).bind fun k=>match τ1[i]? with
  | some (.owd (.dT ks) xs n)=>if xs.length<LN/\k.length<=LN then some (.nx (τ1.set i (.owd (.dT (nK ks k)) (putL ks xs k v) (n&&m))))else none
  | _=>none
 | .drop e,τ=>(aP cd e τ).map fun _=>.nx τ
 | .ext i e,τ=>(aP cd e τ).bind fun r=>match r,τ[i]? with
  | .frz (.lst ys) _,some (.own xs n)=>if imms ys=true/\xs.length+ys.length<=LN then some (.nx (τ.set i (.own (xs++ys) n)))else none
  | _,_=>none
 | .appE o e,τ=>(aP cd o τ).bind fun a=>match a with
  | .own xs _=>(aP cd e τ).bind fun _=>if xs.length<LN then some (.nx τ)else none
  | _=>none
 | .aug i op e,τ=>(aP cd e τ).bind fun r=>match τ[i]?,r.val,op with
  | some (.frz (.int x) _),.int y,.Add=>some (.nx (τ.set i (.frz (.int (x+y)) true)))
  | some (.frz (.int x) _),.int y,.Sub=>some (.nx (τ.set i (.frz (.int (x-y)) true)))
  | _,_,_=>none
 | .augS i op k e,τ=>(aP cd k τ).bind fun x=>(mT x.val).bind fun j=>(aP cd e τ).bind fun r=>(mT r.val).bind fun y=>match τ[i]? with
  | some (.own xs n)=>(tO xs.length j).bind fun q=>((xs[q]?).bind mT).bind fun a=>match op with
   | .Add=>some (.nx (τ.set i (.own (xs.set q (.int (a+y))) n)))
   | .Sub=>some (.nx (τ.set i (.own (xs.set q (.int (a-y))) n)))
   | _=>none
  | _=>none
 | .grp i es c a,τ=>(bU cd es τ).bind fun rs=>match rs with
  | [.own xs true,.own ys true]=>if xs.length<LN/\ys.length<LN then(dq cd c (τ.set i (.frz (.lst [.lst xs,.lst ys]) true))).bind fun b=>if b then(match bD a (τ.set i (.frz (.lst [.lst xs,.lst ys]) true))with
   | some (.rt v)=>some (.rt v)
   | _=>none)else some (.nx (τ.set i .un))else none
  | _=>none
 | .hand m g,τ=>(g ((τ.take m).map TV.valD)).map .rt
 | .rais _,_=>none
 | .never,_=>none
noncomputable def bD:om->En->Option Fl
 | .nil,τ=>some (.nx τ)
 | .cons s ss,τ=>(bz s τ).bind fun f=>eh f (fun τ1=>bD ss τ1)
end
end
structure FD where
 nn:Nat
 np:Nat
 body:om
noncomputable def entry(d:FD)(vs:List PV):En:=vs.map (fun v=>.frz v (imm v))++List.replicate (d.nn-vs.length) .un
noncomputable def fL:Option Fl->Option PV
 | some (.rt v)=>some v
 | some (.nx _)=>some .non
 | _=>none
noncomputable def aG(P:Nat->Option FD):Nat->Nat->List PV->Option PV
 | 0,_,_=>none
 | k+1,f,vs=>(P f).bind fun d=>if vs.length=d.np then fL (bD (aG P k) 1000000 d.body (entry d vs))else none
section
set_option autoImplicit true
set_option relaxedAutoImplicit true
variable{cd:Nat->List PV->Option PV}{fu:Nat}{τ:En}
theorem dH:aP cd (.con v) τ=(some (sc v)):=rfl
theorem cx:aP cd (.var i) τ=(oJ τ i):=rfl
theorem dN:aP cd (.bin op a b) τ=((aP cd a τ).bind fun x=>(aP cd b τ).bind fun y=>cW op x y):=rfl
theorem dU:aP cd (.neg a) τ=((aP cd a τ).bind fun x=>(mT x.val).map fun i=>sc (.int (-i))):=rfl
theorem dJ:aP cd (.cmp op a b) τ=((aP cd a τ).bind fun x=>(aP cd b τ).bind fun y=>(bN op x.val y.val).map fun r=>sc (.bl r)):=rfl
theorem dj:aP cd (.chn o1 o2 a b c) τ=((aP cd a τ).bind fun x=>(aP cd b τ).bind fun y=>(bN o1 x.val y.val).bind fun r=>if r then(aP cd c τ).bind fun z=>(bN o2 y.val z.val).map fun r=>sc (.bl r)else some (sc (.bl false))):=rfl
theorem dP:aP cd (.and a b) τ=((aP cd a τ).bind fun x=>(iS x.val).bind fun t=>if t then aP cd b τ else some (sc (.bl false))):=rfl
theorem dB:aP cd (.or a b) τ=((aP cd a τ).bind fun x=>(iS x.val).bind fun t=>if t then some (sc (.bl true))else aP cd b τ):=rfl
theorem dC:aP cd (.not a) τ=((aP cd a τ).bind fun x=>(iS x.val).map fun b=>sc (.bl !b)):=rfl
theorem df:aP cd (.ite c a b) τ=((dq cd c τ).bind fun r=>if r then aP cd a τ else aP cd b τ):=rfl
theorem dM:aP cd (.call f es) τ=((bU cd es τ).bind fun rs=>(cd f (rs.map RV.val)).map iV):=rfl
theorem dO:aP cd (.bf f es) τ=((bU cd es τ).bind fun rs=>ml f rs):=rfl
theorem dW:aP cd (.mth m o es) τ=((aP cd o τ).bind fun x=>(bU cd es τ).bind fun rs=>FJ m x rs):=rfl
theorem dD:aP cd (.lst es) τ=((bU cd es τ).bind fun rs=>(keeps rs).bind fun(vs,n)=>kK vs n):=rfl
theorem cy:aP cd (.tup es) τ=((bU cd es τ).bind fun rs=>(keeps rs).bind fun(vs,n)=>iY vs n):=rfl
theorem dh:aP cd (.dnew) τ=(some (.owd (.dK []) [] true)):=rfl
theorem di:aP cd (.dlit k e) τ=((aP cd e τ).bind fun r=>r.keep.bind fun(v,_)=>if imm v then some (.owd (.dK [k]) [v] true)else none):=rfl
theorem dg:aP cd (.dnewT) τ=(some (.owd (.dT []) [] true)):=rfl
theorem de:aP cd (.ixt a es) τ=((aP cd a τ).bind fun x=>(bU cd es τ).bind fun rs=>(gX (rs.map RV.val)).bind fun k=>if k.length<=LN then ixT x k else none):=rfl
theorem dG:aP cd (.ix a i) τ=((aP cd a τ).bind fun x=>(aP cd i τ).bind fun y=>index x y):=rfl
theorem cz:aP cd (.sl a lo hi) τ=((aP cd a τ).bind fun x=>(CL cd lo τ).bind fun l=>(CL cd hi τ).bind fun h=>(oF l).bind fun l' =>(oF h).bind fun h' =>slice x l' h'):=rfl
theorem dR:aP cd (.rev a) τ=((aP cd a τ).bind fun x=>Eg x):=rfl
theorem dF:aP cd (.lc elt src ifs caps) τ=((kQ cd src τ).bind fun(xs,n,_)=>if xs.length<=LN then(cD (fun x=>(gZ cd ifs (.frz x (n||imm x)::caps.map fun i=>τ.getD i .un)).bind fun b =>
   if b then(aP cd elt (.frz x (n||imm x)::caps.map fun i=>τ.getD i .un)).bind fun r=>r.keep.map some else some none) xs).map fun(vs,m)=>.own vs m else none):=rfl
theorem dE:aP cd (.lc2 elt src ifs caps) τ=((kQ cd src τ).bind fun(xs,n,_)=>if xs.length<=LN then(cD (fun x=>(nQ x).bind fun(a,b)=>(gZ cd ifs (.frz a (n||imm a)::.frz b (n||imm b)::caps.map fun i=>τ.getD i .un)).bind fun t =>
   if t then(aP cd elt (.frz a (n||imm a)::.frz b (n||imm b)::caps.map fun i=>τ.getD i .un)).bind fun r=>r.keep.map some else some none) xs).map fun(vs,m)=>.own vs m else none):=rfl
theorem dc:aP cd (.lci a i) τ=((aP cd a τ).bind fun x=>FU x τ[i]?):=rfl
theorem dZ:aP cd (.lcs a) τ=((aP cd a τ).bind fun x=>FT x):=rfl
theorem dS:aP cd (.never) τ=(none):=rfl
theorem AL:bU cd (.nil) τ=(some []):=rfl
theorem AM:bU cd (.cons e es) τ=((aP cd e τ).bind fun x=>(bU cd es τ).map (x::·)):=rfl
theorem z0z:CL cd (.no) τ=(some none):=rfl
theorem z16:CL cd (.yes e) τ=((aP cd e τ).map some):=rfl
theorem uD:dq cd (.val e) τ=((aP cd e τ).bind fun x=>kq x.val):=rfl
theorem uF:dq cd (.not c) τ=((dq cd c τ).map (!·)):=rfl
theorem uG:dq cd (.and c d) τ=((dq cd c τ).bind fun r=>if r then dq cd d τ else some false):=rfl
theorem uE:dq cd (.or c d) τ=((dq cd c τ).bind fun r=>if r then some true else dq cd d τ):=rfl
theorem DV:gZ cd (.no) τ=(some true):=rfl
theorem AN:gZ cd (.yes c) τ=(dq cd c τ):=rfl
theorem w6:kQ cd (.seq e) τ=((aP cd e τ).bind lB):=rfl
theorem xA:kQ cd (.rng es) τ=((bU cd es τ).bind fun rs=>(iW rs).map fun xs=>(xs,true,false)):=rfl
theorem w5:kQ cd (.zip a b) τ=((aP cd a τ).bind fun x=>(aP cd b τ).bind fun y=>(uC x y).map fun(xs,n)=>(xs,n,false)):=rfl
theorem xB:kQ cd (.enum a) τ=((aP cd a τ).bind fun x=>(lP x).map fun(xs,n)=>(xs,n,false)):=rfl
theorem w9:kQ cd (.rvd a) τ=((aP cd a τ).bind fun x=>(DY x).map fun(xs,n)=>(xs.reverse,n,false)):=rfl
theorem zL:kQ cd (.never) τ=(none):=rfl
theorem iL:bz cd fu (.asg i o cap e) τ=(let τ1:=ai cap τ;(aP cd e τ1).bind fun r=>(mF o i r τ1).map .nx):=rfl
theorem gr:bz cd fu (.unp is cap e) τ=(let τ1:=ai cap τ;(aP cd e τ1).bind fun r=>r.keep.bind fun(v,n)=>(Ao is n v τ1).map .nx):=rfl
theorem gz:bz cd fu (.ret cap e) τ=(let τ1:=ai cap τ;(aP cd e τ1).bind fun r=>r.keep.bind fun(v,n)=>if n then some (.rt v)else none):=rfl
theorem gw:bz cd fu (.retN) τ=(some (.rt .non)):=rfl
theorem iA:bz cd fu (.ife c a b) τ=((dq cd c τ).bind fun r=>if r then bD cd fu a τ else bD cd fu b τ):=rfl
theorem iD:bz cd fu (.forr is one cap src body) τ=(let τ1:=ai cap τ;(kQ cd src τ1).bind fun(xs,n,b)=>if b then none else jU (eA is one n) (fun τ=>bD cd fu body τ) xs τ1):=rfl
theorem gq:bz cd fu (.whil c body) τ=(zP (fun τ=>dq cd c τ) (fun τ=>bD cd fu body τ) fu τ):=rfl
theorem hV:bz cd fu (.pass) τ=(some (.nx τ)):=rfl
theorem iI:bz cd fu (.brk) τ=(some (.bk τ)):=rfl
theorem iG:bz cd fu (.cont) τ=(some (.ct τ)):=rfl
theorem iN:bz cd fu (.app i cap e) τ=(let τ1:=ai cap τ;(aP cd e τ1).bind fun r=>r.keep.bind fun(v,m)=>match τ1[i]? with
  | some (.own xs n)=>if xs.length<LN then some (.nx (τ1.set i (.own (xs++[v]) (n&&m))))else none
  | _=>none):=rfl
theorem hZ:bz cd fu (.ins i k e) τ=((aP cd k τ).bind fun x=>(aP cd e τ).bind fun r=>r.keep.bind fun(v,m)=>match x.val,τ[i]? with
  | .int j,some (.own xs n)=>if 0<=j/\j<=xs.length/\xs.length<LN then some (.nx (τ.set i (.own (xs.take j.toNat++v::xs.drop j.toNat) (n&&m))))else none
  | _,_=>none):=rfl
theorem hU:bz cd fu (.popD i) τ=(match τ[i]? with
  | some (.own xs n)=>if xs.length=0 then none else some (.nx (τ.set i (.own xs.dropLast n)))
  | _=>none):=rfl
theorem hJ:bz cd fu (.popT j i) τ=(match τ[i]? with
  | some (.own xs n)=>match xs.getLast? with
   | some v=>if i=j then none else some (.nx ((τ.set i (.own xs.dropLast n)).set j (.frz v (n||imm v))))
   | none=>none
  | _=>none):=rfl
theorem iH:bz cd fu (.clr i) τ=(match τ[i]? with
  | some (.own _ _)=>some (.nx (τ.set i (.own [] true)))
  | _=>none):=rfl
theorem gv:bz cd fu (.revI i) τ=(match τ[i]? with
  | some (.own xs n)=>some (.nx (τ.set i (.own xs.reverse n)))
  | _=>none):=rfl
theorem gu:bz cd fu (.seti i cap k e) τ=(let τ1:=ai cap τ;(aP cd e τ1).bind fun r=>r.keep.bind fun(v,m)=>(aP cd k τ1).bind fun x=>match x.val,τ1[i]? with
  | .int j,some (.own xs n)=>(tO xs.length j).map fun q=>.nx (τ1.set i (.own (xs.set q v) (n&&m)))
  | y,some (.owd (.dK ks) xs n)=>(eG y).bind fun k=>if xs.length<LN then some (.nx (τ1.set i (.owd (.dK (nK ks k)) (putL ks xs k v) (n&&m))))else none
  | _,_=>none):=rfl
theorem gt:bz cd fu (.sett i cap es e) τ=(let τ1:=ai cap τ;(aP cd e τ1).bind fun r=>r.keep.bind fun(v,m)=>(bU cd es τ1).bind fun rs=>(gX (rs.map RV.val)).bind fun k=>match τ1[i]? with
  | some (.owd (.dT ks) xs n)=>if xs.length<LN/\k.length<=LN then some (.nx (τ1.set i (.owd (.dT (nK ks k)) (putL ks xs k v) (n&&m))))else none
  | _=>none):=rfl
theorem iF:bz cd fu (.drop e) τ=((aP cd e τ).map fun _=>.nx τ):=rfl
theorem iE:bz cd fu (.ext i e) τ=((aP cd e τ).bind fun r=>match r,τ[i]? with
  | .frz (.lst ys) _,some (.own xs n)=>if imms ys=true/\xs.length+ys.length<=LN then some (.nx (τ.set i (.own (xs++ys) n)))else none
  | _,_=>none):=rfl
theorem iM:bz cd fu (.appE o e) τ=((aP cd o τ).bind fun a=>match a with
  | .own xs _=>(aP cd e τ).bind fun _=>if xs.length<LN then some (.nx τ)else none
  | _=>none):=rfl
theorem iK:bz cd fu (.aug i op e) τ=((aP cd e τ).bind fun r=>match τ[i]?,r.val,op with
  | some (.frz (.int x) _),.int y,.Add=>some (.nx (τ.set i (.frz (.int (x+y)) true)))
  | some (.frz (.int x) _),.int y,.Sub=>some (.nx (τ.set i (.frz (.int (x-y)) true)))
  | _,_,_=>none):=rfl
theorem iJ:bz cd fu (.augS i op k e) τ=((aP cd k τ).bind fun x=>(mT x.val).bind fun j=>(aP cd e τ).bind fun r=>(mT r.val).bind fun y=>match τ[i]? with
  | some (.own xs n)=>(tO xs.length j).bind fun q=>((xs[q]?).bind mT).bind fun a=>match op with
   | .Add=>some (.nx (τ.set i (.own (xs.set q (.int (a+y))) n)))
   | .Sub=>some (.nx (τ.set i (.own (xs.set q (.int (a-y))) n)))
   | _=>none
  | _=>none):=rfl
theorem iC:bz cd fu (.grp i es c a) τ=((bU cd es τ).bind fun rs=>match rs with
  | [.own xs true,.own ys true]=>if xs.length<LN/\ys.length<LN then(dq cd c (τ.set i (.frz (.lst [.lst xs,.lst ys]) true))).bind fun b=>if b then(match bD cd fu a (τ.set i (.frz (.lst [.lst xs,.lst ys]) true))with
   | some (.rt v)=>some (.rt v)
   | _=>none)else some (.nx (τ.set i .un))else none
  | _=>none):=rfl
theorem iB:bz cd fu (.hand m g) τ=((g ((τ.take m).map TV.valD)).map .rt):=rfl
theorem g9:bz cd fu (.rais w1) τ=(none):=rfl
theorem hX:bz cd fu (.never) τ=(none):=rfl
theorem AJ:bD cd fu (.nil) τ=(some (.nx τ)):=rfl
theorem AK:bD cd fu (.cons s ss) τ=((bz cd fu s τ).bind fun f=>eh f (fun τ1=>bD cd fu ss τ1)):=rfl
end
end IR
namespace IR
open PySem PySem.Spec PyProof.Rows L2
noncomputable def del(H:Hp)(p:Addr):Hp:=fun b=>if b=p then none else H b
noncomputable def aQ(H:Hp)(O:List Addr):Hp:=fun b=>if b∈O then none else H b
theorem eK{H H' :Hp}{p:Addr}(s:aB H H'):aB (del H p) (del H' p):=fun b o e=>by
 unfold del at e ⊢
 split at e
 ·cases e
 ·rename_i h
  rw[Gq h];exact s b o e
theorem aH{H H' :Hp}{O:List Addr}(s:aB H H'):aB (aQ H O) (aQ H' O):=fun b o e=>by
 unfold aQ at e ⊢
 split at e
 ·cases e
 ·rename_i h
  rw[Gq h];exact s b o e
theorem bH{H:Hp}{p:Addr}:aB (del H p) H:=fun b o e=>by
 unfold del at e
 split at e
 ·cases e
 ·exact e
theorem aL{H:Hp}{O:List Addr}:aB (aQ H O) H:=fun b o e=>by
 unfold aQ at e
 split at e
 ·cases e
 ·exact e
theorem rM{H:Hp}{O O' :List Addr}(h:∀b∈O',b∈O):aB (aQ H O) (aQ H O'):=fun b o e=>by
 unfold aQ at e ⊢
 split at e
 ·cases e
 ·rename_i n
  rw[Gq fun z=>n (h b z)];exact e
theorem rO{H:Hp}:aQ H []=H:=by funext b;unfold aQ;simp
section
variable(K:W.Frag)(Hi:Hp)
mutual
noncomputable def Rp(n:Bool):PV->Hp->V->Prop
 | .non,_,u=>u=.non
 | .bl b,_,u=>u=.bl b
 | .int i,_,u=>u=.int i
 | .str z,_,u=>u=.str z
 | .lst xs,H,u=>∃p us,u=.ref p/\(n=true->Hi p=none/\H p=some (.lst us))/\bP K H p us/\aJ n xs (del H p) us
 | .tup xs,H,u=>∃p us,u=.ref p/\ba K H p us/\aJ n xs H us
 | .dK ks vs,H,u=>∃p us,u=.ref p/\(n=true->Hi p=none)/\H p=some (.dK (ks.zip us))/\ks.length=us.length/\aJ n vs (del H p) us
 | .dT ks vs,H,u=>∃p us,u=.ref p/\(n=true->Hi p=none)/\H p=some (.dT (ks.zip us))/\ks.length=us.length/\aJ n vs (del H p) us
noncomputable def aJ(n:Bool):List PV->Hp->List V->Prop
 | [],_,us=>us=[]
 | x::xs,H,us=>∃u r,us=u::r/\Rp n x H u/\aJ n xs H r
end
end
section
variable{K:W.Frag}{Hi:Hp}
mutual
theorem Rp.mono{n:Bool}:∀{v:PV}{H H' :Hp}{u:V},aB H H' ->Rp K Hi n v H u->Rp K Hi n v H' u
 | .non,_,_,_,_,h=>by unfold Rp at h ⊢;exact h
 | .bl _,_,_,_,_,h=>by unfold Rp at h ⊢;exact h
 | .int _,_,_,_,_,h=>by unfold Rp at h ⊢;exact h
 | .str _,_,_,_,_,h=>by unfold Rp at h ⊢;exact h
 | .lst xs,_,_,_,s,h=>by
  unfold Rp at h ⊢;obtain⟨p,us,e,q,l,r⟩:=h;exact⟨p,us,e,fun z=>⟨(q z).1,s _ _ (q z).2⟩,s.seq l,aJ.mono (eK s) r⟩
 | .tup xs,_,_,_,s,h=>by
  unfold Rp at h ⊢;obtain⟨p,us,e,l,r⟩:=h;exact⟨p,us,e,s.tup l,aJ.mono s r⟩
 | .dK ks vs,_,_,_,s,h=>by
  unfold Rp at h ⊢;obtain⟨p,us,e,q,l,z,r⟩:=h;exact⟨p,us,e,q,s _ _ l,z,aJ.mono (eK s) r⟩
 | .dT ks vs,_,_,_,s,h=>by
  unfold Rp at h ⊢;obtain⟨p,us,e,q,l,z,r⟩:=h;exact⟨p,us,e,q,s _ _ l,z,aJ.mono (eK s) r⟩
theorem aJ.mono{n:Bool}:∀{xs:List PV}{H H' :Hp}{us:List V},aB H H' ->aJ K Hi n xs H us->aJ K Hi n xs H' us
 | [],_,_,_,_,h=>by unfold aJ at h ⊢;exact h
 | x::xs,_,_,_,s,h=>by
  unfold aJ at h ⊢;obtain⟨u,r,e,a,b⟩:=h;exact⟨u,r,e,Rp.mono s a,aJ.mono s b⟩
end
mutual
theorem Rp.weak{n:Bool}:∀{v:PV}{H:Hp}{u:V},Rp K Hi n v H u->Rp K Hi false v H u
 | .non,_,_,h=>by unfold Rp at h ⊢;exact h
 | .bl _,_,_,h=>by unfold Rp at h ⊢;exact h
 | .int _,_,_,h=>by unfold Rp at h ⊢;exact h
 | .str _,_,_,h=>by unfold Rp at h ⊢;exact h
 | .lst xs,_,_,h=>by
  unfold Rp at h ⊢;obtain⟨p,us,e,q,l,r⟩:=h;exact⟨p,us,e,(fun z=>absurd z Gz),l,aJ.weak r⟩
 | .tup xs,_,_,h=>by
  unfold Rp at h ⊢;obtain⟨p,us,e,l,r⟩:=h;exact⟨p,us,e,l,aJ.weak r⟩
 | .dK ks vs,_,_,h=>by
  unfold Rp at h ⊢;obtain⟨p,us,e,q,l,z,r⟩:=h;exact⟨p,us,e,(fun z=>absurd z Gz),l,z,aJ.weak r⟩
 | .dT ks vs,_,_,h=>by
  unfold Rp at h ⊢;obtain⟨p,us,e,q,l,z,r⟩:=h;exact⟨p,us,e,(fun z=>absurd z Gz),l,z,aJ.weak r⟩
theorem aJ.weak{n:Bool}:∀{xs:List PV}{H:Hp}{us:List V},aJ K Hi n xs H us->aJ K Hi false xs H us
 | [],_,_,h=>by unfold aJ at h ⊢;exact h
 | x::xs,_,_,h=>by
  unfold aJ at h ⊢;obtain⟨u,r,e,a,b⟩:=h;exact⟨u,r,e,Rp.weak a,aJ.weak b⟩
end
theorem Rp.low{n m:Bool}{v:PV}{H:Hp}{u:V}(h:Rp K Hi n v H u)(e:m=true->n=true):Rp K Hi m v H u:=by
 cases n with
 | true=>cases m with
  | true=>exact h
  | false=>exact h.weak
 | false=>cases m with
  | true=>cases e rfl
  | false=>exact h
theorem aJ.low{n m:Bool}{v:List PV}{H:Hp}{u:List V}(h:aJ K Hi n v H u)(e:m=true->n=true):aJ K Hi m v H u:=by
 cases n with
 | true=>cases m with
  | true=>exact h
  | false=>exact h.weak
 | false=>cases m with
  | true=>cases e rfl
  | false=>exact h
mutual
theorem Rp.entry{Hj:Hp}{n:Bool}(k:n=true->∀p,Hi p=none->Hj p=none):∀{v:PV}{H:Hp}{u:V},Rp K Hi n v H u->Rp K Hj n v H u
 | .non,_,_,h=>by unfold Rp at h ⊢;exact h
 | .bl _,_,_,h=>by unfold Rp at h ⊢;exact h
 | .int _,_,_,h=>by unfold Rp at h ⊢;exact h
 | .str _,_,_,h=>by unfold Rp at h ⊢;exact h
 | .lst xs,_,_,h=>by
  unfold Rp at h ⊢;obtain⟨p,us,e,q,l,r⟩:=h;exact⟨p,us,e,fun z=>⟨k z _ (q z).1,(q z).2⟩,l,aJ.entry k r⟩
 | .tup xs,_,_,h=>by
  unfold Rp at h ⊢;obtain⟨p,us,e,l,r⟩:=h;exact⟨p,us,e,l,aJ.entry k r⟩
 | .dK ks vs,_,_,h=>by
  unfold Rp at h ⊢;obtain⟨p,us,e,q,l,z,r⟩:=h;exact⟨p,us,e,fun z=>k z _ (q z),l,z,aJ.entry k r⟩
 | .dT ks vs,_,_,h=>by
  unfold Rp at h ⊢;obtain⟨p,us,e,q,l,z,r⟩:=h;exact⟨p,us,e,fun z=>k z _ (q z),l,z,aJ.entry k r⟩
theorem aJ.entry{Hj:Hp}{n:Bool}(k:n=true->∀p,Hi p=none->Hj p=none):∀{xs:List PV}{H:Hp}{us:List V},aJ K Hi n xs H us->aJ K Hj n xs H us
 | [],_,_,h=>by unfold aJ at h ⊢;exact h
 | x::xs,_,_,h=>by
  unfold aJ at h ⊢;obtain⟨u,r,e,a,b⟩:=h;exact⟨u,r,e,Rp.entry k a,aJ.entry k b⟩
end
noncomputable def qP(H G:Hp):Prop:=(∀b xs,H b=some (.tup xs)->G b=some (.tup xs))/\∀b o xs,H b=some (.frz o (.tup xs))->G b=some (.frz o (.tup xs))
theorem qP.at{H G:Hp}(t:qP H G){p:Addr}{xs:List V}(h:ba K H p xs):ba K G p xs:=by
 rcases h with(h|⟨o,h⟩)|h
 ·exact .inl (.inl (t.1 _ _ h))
 ·exact .inl (.inr ⟨o,t.2 _ _ _ h⟩)
 ·exact .inr h
mutual
theorem Rp.imm{n m:Bool}:∀{v:PV}{H G:Hp}{u:V},imm v=true->qP H G->Rp K Hi n v H u->Rp K Hi m v G u
 | .non,_,_,_,_,_,h=>by unfold Rp at h ⊢;exact h
 | .bl _,_,_,_,_,_,h=>by unfold Rp at h ⊢;exact h
 | .int _,_,_,_,_,_,h=>by unfold Rp at h ⊢;exact h
 | .str _,_,_,_,_,_,h=>by unfold Rp at h ⊢;exact h
 | .lst xs,_,_,_,i,_,h=>by unfold IR.imm at i;cases i
 | .tup xs,_,_,_,i,t,h=>by
  unfold Rp at h ⊢;unfold IR.imm at i;obtain⟨p,us,e,l,r⟩:=h;exact⟨p,us,e,t.at l,aJ.imm i t r⟩
 | .dK ks vs,_,_,_,i,_,h=>by unfold IR.imm at i;cases i
 | .dT ks vs,_,_,_,i,_,h=>by unfold IR.imm at i;cases i
theorem aJ.imm{n m:Bool}:∀{xs:List PV}{H G:Hp}{us:List V},imms xs=true->qP H G->aJ K Hi n xs H us->aJ K Hi m xs G us
 | [],_,_,_,_,_,h=>by unfold aJ at h ⊢;exact h
 | x::xs,_,_,_,i,t,h=>by
  unfold aJ at h ⊢;unfold imms at i;rw[Gv]at i;obtain⟨u,r,e,a,b⟩:=h;exact⟨u,r,e,Rp.imm i.1 t a,aJ.imm i.2 t b⟩
end
theorem Rp.up{n:Bool}{v:PV}{H:Hp}{u:V}(h:Rp K Hi n v H u):Rp K Hi (n||IR.imm v) v H u:=by
 cases e:IR.imm v with
 | true=>rw[Bool.or_true];exact Rp.imm e ⟨fun _ _ e=>e,fun _ _ _ e=>e⟩ h
 | false=>rw[Bool.or_false];exact h
theorem aJ.up{n:Bool}{v:List PV}{H:Hp}{u:List V}(h:aJ K Hi n v H u):aJ K Hi (n||IR.imms v) v H u:=by
 cases e:IR.imms v with
 | true=>rw[Bool.or_true];exact aJ.imm e ⟨fun _ _ e=>e,fun _ _ _ e=>e⟩ h
 | false=>rw[Bool.or_false];exact h
theorem aJ.len{n:Bool}:∀{xs:List PV}{H:Hp}{us:List V},aJ K Hi n xs H us->xs.length=us.length
 | [],_,_,h=>by unfold aJ at h;rw[h];rfl
 | x::xs,_,_,h=>by
  unfold aJ at h;obtain⟨u,r,e,a,b⟩:=h;rw[e,HC,HC,aJ.len b]
theorem aJ.at{n:Bool}:∀{xs:List PV}{H:Hp}{us:List V}{i:Nat}{x:PV},aJ K Hi n xs H us->xs[i]? =some x->∃u,us[i]? =some u/\Rp K Hi n x H u
 | [],_,_,_,_,h,e=>by simp at e
 | y::xs,_,_,i,x,h,e=>by
  unfold aJ at h;obtain⟨u,r,rfl,a,b⟩:=h;cases i with
  | zero=>simp at e;subst e;exact⟨u,by simp,a⟩
  | succ i=>simpa using aJ.at (i:=i) (x:=x) b (by simpa using e)
theorem aJ.at'{n:Bool}:∀{xs:List PV}{H:Hp}{us:List V}{i:Nat}{u:V},aJ K Hi n xs H us->us[i]? =some u->∃x,xs[i]? =some x/\Rp K Hi n x H u
 | [],_,_,_,_,h,e=>by unfold aJ at h;subst h;simp at e
 | y::xs,_,_,i,x,h,e=>by
  unfold aJ at h;obtain⟨u,r,rfl,a,b⟩:=h;cases i with
  | zero=>simp at e;subst e;exact⟨y,by simp,a⟩
  | succ i=>simpa using aJ.at' (i:=i) (u:=x) b (by simpa using e)
theorem aJ.nil{n:Bool}{H:Hp}:aJ K Hi n [] H []:=by unfold aJ;rfl
theorem aJ.cons{n:Bool}{x:PV}{xs:List PV}{H:Hp}{u:V}{us:List V}(a:Rp K Hi n x H u)(b:aJ K Hi n xs H us):aJ K Hi n (x::xs) H (u::us):=by unfold aJ;exact⟨u,us,rfl,a,b⟩
theorem aJ.app{n:Bool}:∀{xs ys:List PV}{H:Hp}{us vs:List V},aJ K Hi n xs H us->aJ K Hi n ys H vs->aJ K Hi n (xs++ys) H (us++vs)
 | [],_,_,_,_,h,g=>by unfold aJ at h;subst h;exact g
 | x::xs,_,_,_,_,h,g=>by
  unfold aJ at h;obtain⟨u,r,rfl,a,b⟩:=h;exact .cons a (aJ.app b g)
theorem aJ.take{n:Bool}:∀{xs:List PV}{H:Hp}{us:List V}(k:Nat),aJ K Hi n xs H us->aJ K Hi n (xs.take k) H (us.take k)
 | [],_,_,_,h=>by unfold aJ at h;subst h;simp;exact .nil
 | x::xs,_,_,k,h=>by
  unfold aJ at h;obtain⟨u,r,rfl,a,b⟩:=h;cases k with
  | zero=>exact .nil
  | succ k=>exact .cons a (aJ.take k b)
theorem aJ.drop{n:Bool}:∀{xs:List PV}{H:Hp}{us:List V}(k:Nat),aJ K Hi n xs H us->aJ K Hi n (xs.drop k) H (us.drop k)
 | [],_,_,_,h=>by unfold aJ at h;subst h;simp;exact .nil
 | x::xs,_,_,k,h=>by
  unfold aJ at h;obtain⟨u,r,rfl,a,b⟩:=h;cases k with
  | zero=>exact .cons a b
  | succ k=>exact aJ.drop k b
theorem aJ.rev{n:Bool}:∀{xs:List PV}{H:Hp}{us:List V},aJ K Hi n xs H us->aJ K Hi n xs.reverse H us.reverse
 | [],_,_,h=>by unfold aJ at h;subst h;exact .nil
 | x::xs,_,_,h=>by
  unfold aJ at h;obtain⟨u,r,rfl,a,b⟩:=h;rw[KY,KY];exact aJ.app (aJ.rev b) (.cons a .nil)
theorem aJ.set{n:Bool}:∀{xs:List PV}{H:Hp}{us:List V}(k:Nat){x:PV}{u:V},aJ K Hi n xs H us->Rp K Hi n x H u->aJ K Hi n (xs.set k x) H (us.set k u)
 | [],_,_,_,_,_,h,_=>by unfold aJ at h;subst h;exact .nil
 | y::xs,_,_,k,_,_,h,g=>by
  unfold aJ at h;obtain⟨u,r,rfl,a,b⟩:=h;cases k with
  | zero=>exact .cons g b
  | succ k=>exact .cons a (aJ.set k b g)
theorem Rp.int{n:Bool}{i:Int}{H:Hp}{u:V}:Rp K Hi n (.int i) H u↔u=.int i:=by unfold Rp;rfl
theorem Rp.str{n:Bool}{i:Str}{H:Hp}{u:V}:Rp K Hi n (.str i) H u↔u=.str i:=by unfold Rp;rfl
theorem Rp.bl{n:Bool}{i:Bool}{H:Hp}{u:V}:Rp K Hi n (.bl i) H u↔u=.bl i:=by unfold Rp;rfl
theorem Rp.non{n:Bool}{H:Hp}{u:V}:Rp K Hi n .non H u↔u=.non:=by unfold Rp;rfl
theorem Rp.tup{n:Bool}{xs:List PV}{H:Hp}{u:V}:Rp K Hi n (.tup xs) H u↔∃p us,u=.ref p/\ba K H p us/\aJ K Hi n xs H us:=by rw[Rp]
theorem Rp.lst{n:Bool}{xs:List PV}{H:Hp}{u:V}:Rp K Hi n (.lst xs) H u↔∃p us,u=.ref p/\(n=true->Hi p=none/\H p=some (.lst us))/\bP K H p us/\aJ K Hi n xs (del H p) us:=by rw[Rp]
theorem aJ.ints{n:Bool}{H:Hp}:∀{xs:List Int}{us:List V},aJ K Hi n (xs.map PV.int) H us↔us=xs.map V.int
 | [],us=>by unfold aJ;rfl
 | x::xs,us=>by
  rw[HW,HW,aJ]
  constructor
  ·rintro⟨u,r,rfl,a,b⟩
   rw[Rp.int.mp a,aJ.ints.mp b]
  ·rintro rfl
   exact⟨_,_,rfl,Rp.int.mpr rfl,aJ.ints.mpr rfl⟩
noncomputable def At:Bd->List V->HO->Prop
 | .lst,us,o=>o=.lst us
 | .dK ks,us,o=>o=.dK (ks.zip us)/\ks.length=us.length
 | .dT ks,us,o=>o=.dT (ks.zip us)/\ks.length=us.length
noncomputable def Mo(o:HO):Prop:=∃b us,At b us o
theorem Mo.lst{us:List V}:Mo (.lst us):=⟨.lst,us,rfl⟩
theorem Mo.tup{xs:List V}(h:Mo (.tup xs)):False:=by
 obtain⟨b,us,h⟩:=h;cases b with
 | lst=>cases h
 | dK ks=>cases h.1
 | dT ks=>cases h.1
variable(K Hi)in
structure ag(O:List Addr)(τ:En)(σ:L2.St)(H:Hp):Prop where
 same:aB Hi H
 own:∀l∈O,Hi l=none/\∃o,H l=some o/\Mo o
 frz:∀(i:Nat)(v:PV)(n:Bool),τ[i]? =some (.frz v n)->∃u,σ[i]? =some (some u)/\Rp K Hi n v (aQ H O) u
 obs:∀(i:Nat)(t:TV)(b:Bd)(xs:List PV)(n:Bool),τ[i]? =some t->t.ob=some (b,xs,n)->∃l us o,σ[i]? =some (some (.ref l))/\l∈O/\H l=some o/\At b us o/\aJ K Hi n xs (aQ H O) us
 dst:∀(i j:Nat)(t t' :TV)(x y:Bd×List PV×Bool)(l:Addr),τ[i]? =some t->t.ob=some x->τ[j]? =some t' ->t'.ob=some y->σ[i]? =some (some (.ref l))->σ[j]? =some (some (.ref l))->i=j
section
variable{O:List Addr}{τ:En}{σ:L2.St}{H H' :Hp}
theorem ag.owns(R:ag K Hi O τ σ H)(i:Nat)(xs:List PV)(n:Bool)(e:τ[i]? =some (.own xs n)):∃l us,σ[i]? =some (some (.ref l))/\l∈O/\H l=some (.lst us)/\aJ K Hi n xs (aQ H O) us:=by
 obtain⟨l,us,o,h1,h2,h3,h4,h5⟩:=R.obs i _ .lst xs n e rfl;cases h4;exact⟨l,us,h1,h2,h3,h5⟩
theorem ag.ext(R:ag K Hi O τ σ H)(s:aB H H'):ag K Hi O τ σ H' where
 same:=R.same.trans s
 own:=fun l hl=>⟨(R.own l hl).1,by obtain⟨o,e,m⟩:=(R.own l hl).2;exact⟨o,s _ _ e,m⟩⟩
 frz:=fun i v n e=>by obtain⟨u,h1,h2⟩:=R.frz i v n e;exact⟨u,h1,h2.mono (aH s)⟩
 obs:=fun i t b xs n e ht=>by obtain⟨l,us,o,h1,h2,h3,h4,h5⟩:=R.obs i t b xs n e ht;exact⟨l,us,o,h1,h2,s _ _ h3,h4,h5.mono (aH s)⟩
 dst:=R.dst
theorem ag.tups(R:ag K Hi O τ σ H):qP H (aQ H O):=by
 refine⟨fun b xs e=> ?_,fun b o xs e=> ?_⟩
 ·unfold aQ
  rw[Gq fun z=> ?_]
  ·exact e
  ·obtain⟨us,e',m⟩:=(R.own b z).2
   rw[e]at e';cases e';exact m.tup
 ·unfold aQ
  rw[Gq fun z=> ?_]
  ·exact e
  ·obtain⟨us,e',m⟩:=(R.own b z).2
   rw[e]at e';cases e';obtain⟨b,us,m⟩:=m;cases b with
   | lst=>cases m
   | dK ks=>cases m.1
   | dT ks=>cases m.1
theorem av{α:Type}{l:List α}{i j:Nat}{x y:α}(h:(l.set i x)[j]? =some y):(i=j/\y=x)\/(i≠j/\l[j]? =some y):=by
 rw[List.getElem?_set]at h
 split at h
 ·rename_i e
  split at h
  ·exact .inl ⟨e,(HM h).symm⟩
  ·cases h
 ·rename_i e
  exact .inr ⟨e,h⟩
theorem ag.setF(R:ag K Hi O τ σ H){i:Nat}{v:PV}{n:Bool}{u:V}(hi:i<σ.length)(r:Rp K Hi n v (aQ H O) u):ag K Hi O (τ.set i (.frz v n)) (σ.set i (some u)) H where
 same:=R.same
 own:=R.own
 frz:=fun j w m e=>by
  rcases av e with⟨rfl,e'⟩|⟨ne,e'⟩
  ·cases e'
   exact⟨u,by rw[IB hi],r⟩
  ·obtain⟨u',h1,h2⟩:=R.frz j w m e'
   exact⟨u',by rw[Hg ne];exact h1,h2⟩
 obs:=fun j t b xs m e ht=>by
  rcases av e with⟨rfl,e'⟩|⟨ne,e'⟩
  ·subst e'
   cases ht
  ·obtain⟨l,us,o,h1,h2⟩:=R.obs j t b xs m e' ht
   exact⟨l,us,o,by rw[Hg ne];exact h1,h2⟩
 dst:=fun a b t t' x y l e1 ht e2 ht' h1 h2=>by
  rcases av e1 with⟨_,z⟩|⟨ne1,z1⟩
  ·subst z
   cases ht
  ·rcases av e2 with⟨_,z⟩|⟨ne2,z2⟩
   ·subst z
    cases ht'
   ·rw[Hg ne1]at h1
    rw[Hg ne2]at h2;exact R.dst a b t t' x y l z1 ht z2 ht' h1 h2
theorem ag.setB(R:ag K Hi O τ σ H){i:Nat}{t0:TV}{b0:Bd}{xs:List PV}{n:Bool}{p:Addr}{us:List V}{o:HO}(hob:t0.ob=some (b0,xs,n))(hi:i<σ.length)(s:aB H H')(h0:H p=none)(h1:H' p=some o)(ha:At b0 us o)(r:aJ K Hi n xs (aQ H' (p::O)) us) :
  ag K Hi (p::O) (τ.set i t0) (σ.set i (some (.ref p))) H' :=by
 have hs:aB (aQ H O) (aQ H' (p::O)):=fun b o e=>by
  unfold aQ at e ⊢
  split at e
  ·cases e
  ·rename_i nb
   have ne:b≠p:=aY e h0;rw[Gq (by simp[ne,nb])];exact s b o e
 have hn:Hi p=none:=R.same.free h0;refine⟨R.same.trans s,fun l hl=> ?_,fun j w m e=> ?_,fun j t b ys m e ht=> ?_,fun a b t t' x y l e1 ht e2 ht' g1 g2=> ?_⟩
 ·rcases HE.mp hl with rfl|hl
  ·exact⟨hn,o,h1,_,_,ha⟩
  ·obtain⟨q,vs,e,m⟩:=R.own l hl
   exact⟨q,vs,s _ _ e,m⟩
 ·rcases av e with⟨rfl,e'⟩|⟨ne,e'⟩
  ·rw[<- e']at hob
   cases hob
  ·obtain⟨u',g1,g2⟩:=R.frz j w m e'
   exact⟨u',by rw[Hg ne];exact g1,g2.mono hs⟩
 ·rcases av e with⟨rfl,e'⟩|⟨ne,e'⟩
  ·subst e'
   rw[hob]at ht;cases ht;exact⟨p,us,o,by rw[IB hi],Gw,h1,ha,r⟩
  ·obtain⟨l,vs,o',g1,g2,g3,g4,g5⟩:=R.obs j t b ys m e' ht
   exact⟨l,vs,o',by rw[Hg ne];exact g1,Gs _ g2,s _ _ g3,g4,g5.mono hs⟩
 ·have old:∀(c:Nat)(t:TV)(x:Bd×List PV×Bool),τ[c]? =some t->t.ob=some x->σ[c]? =some (some (.ref l))->l≠p:=fun c t x e ht g=>by
   obtain⟨b',zs,q⟩:=x;obtain⟨l',vs,o',q1,q2,q3,_⟩:=R.obs c t b' zs q e ht;rw[q1]at g;cases g;exact aY q3 h0
  rcases av e1 with⟨rfl,z1⟩|⟨ne1,z1⟩
  ·rw[IB hi]at g1
   cases g1
   rcases av e2 with⟨rfl,_⟩|⟨ne2,z2⟩
   ·rfl
   ·rw[Hg ne2]at g2
    exact absurd rfl (old b t' y z2 ht' g2)
  ·rw[Hg ne1]at g1
   rcases av e2 with⟨rfl,z2⟩|⟨ne2,z2⟩
   ·rw[IB hi]at g2
    cases g2;exact absurd rfl (old a t x z1 ht g1)
   ·rw[Hg ne2]at g2
    exact R.dst a b t t' x y l z1 ht z2 ht' g1 g2
theorem ag.setO(R:ag K Hi O τ σ H){i:Nat}{xs:List PV}{n:Bool}{p:Addr}{us:List V}(hi:i<σ.length)(s:aB H H')(h0:H p=none)(h1:H' p=some (.lst us))(r:aJ K Hi n xs (aQ H' (p::O)) us) :
  ag K Hi (p::O) (τ.set i (.own xs n)) (σ.set i (some (.ref p))) H' :=R.setB (b0:=.lst) rfl hi s h0 h1 rfl r
theorem ag.updB(R:ag K Hi O τ σ H){i:Nat}{t t1:TV}{b b1:Bd}{xs ys:List PV}{n m:Bool}{l:Addr}{us:List V}{o:HO}(e:τ[i]? =some t)(ht:t.ob=some (b,xs,n))(ht1:t1.ob=some (b1,ys,m))(hl:σ[i]? =some (some (.ref l)))(ha:At b1 us o)(r:aJ K Hi m ys (aQ H O) us) :
  ag K Hi O (τ.set i t1) σ (L2.upd H l o):=by
 obtain⟨l',vs,o',g1,g2,g3,g4,g5⟩:=R.obs i t b xs n e ht;rw[hl]at g1;cases g1;have hh:aQ (L2.upd H l o) O=aQ H O:=by
  funext b
  unfold aQ
  split
  ·rfl
  ·rename_i nb
   exact aR fun z=>nb (z▸g2)
 have hn:=(R.own l g2).1;have hi:i<τ.length:=(G9.mp e).1;refine⟨fun b o q=> ?_,fun k hk=> ?_,fun j w q z=> ?_,fun j t2 b2 zs q z ht2=> ?_,fun a b t2 t3 x y c e1 h2 e2 h3 k1 k2=> ?_⟩
 ·rw[aR (aY q hn)]
  exact R.same b o q
 ·obtain⟨q,ws,z,mo⟩:=R.own k hk
  refine⟨q,?_⟩
  by_cases c:k=l
  ·subst c
   exact⟨o,am,_,_,ha⟩
  ·exact⟨ws,by rw[aR c];exact z,mo⟩
 ·rw[hh]
  rcases av z with⟨rfl,z'⟩|⟨ne,z'⟩
  ·rw[<- z']at ht1
   cases ht1
  ·exact R.frz j w q z'
 ·rw[hh]
  rcases av z with⟨rfl,z'⟩|⟨ne,z'⟩
  ·subst z'
   rw[ht1]at ht2;cases ht2;exact⟨l,us,o,hl,g2,am,ha,r⟩
  ·obtain⟨l2,ws,o2,q1,q2,q3,q4,q5⟩:=R.obs j t2 b2 zs q z' ht2
   refine⟨l2,ws,o2,q1,q2,?_,q4,q5⟩;rw[aR fun c=> ?_]
   ·exact q3
   ·subst c
    exact ne (R.dst i j t t2 _ _ l2 e ht z' ht2 hl q1)
 ·have back:∀(c:Nat)(t2:TV)(x:Bd×List PV×Bool),(τ.set i t1)[c]? =some t2->t2.ob=some x->∃(t3:TV)(y:Bd×List PV×Bool),τ[c]? =some t3/\t3.ob=some y:=fun c t2 x z h=>by
   rcases av z with⟨rfl,_⟩|⟨_,z'⟩
   ·exact⟨_,_,e,ht⟩
   ·exact⟨_,_,z',h⟩
  obtain⟨_,_,z1,w1⟩:=back a t2 x e1 h2;obtain⟨_,_,z2,w2⟩:=back b t3 y e2 h3;exact R.dst a b _ _ _ _ c z1 w1 z2 w2 k1 k2
theorem ag.upd(R:ag K Hi O τ σ H){i:Nat}{xs ys:List PV}{n m:Bool}{l:Addr}{us:List V}(e:τ[i]? =some (.own xs n))(hl:σ[i]? =some (some (.ref l)))(r:aJ K Hi m ys (aQ H O) us) :
  ag K Hi O (τ.set i (.own ys m)) σ (L2.upd H l (.lst us)):=R.updB (b1:=.lst) e rfl rfl hl rfl r
theorem Rp.at{n:Bool}{b:Bd}{xs:List PV}{us:List V}{o:HO}{l:Addr}{G:Hp}(hn:n=true->Hi l=none)(h:G l=some o)(ha:At b us o)(r:aJ K Hi n xs (del G l) us):Rp K Hi n (b.pv xs) G (.ref l):=by
 cases b with
 | lst=>cases ha;exact Rp.lst.mpr ⟨l,us,rfl,fun z=>⟨hn z,h⟩,bP.of h,r⟩
 | dK ks =>
  obtain⟨rfl,hl⟩:=ha;show Rp K Hi n (.dK ks xs) G (.ref l);unfold Rp;exact⟨l,us,rfl,hn,h,hl,r⟩
 | dT ks =>
  obtain⟨rfl,hl⟩:=ha;show Rp K Hi n (.dT ks xs) G (.ref l);unfold Rp;exact⟨l,us,rfl,hn,h,hl,r⟩
theorem ag.freezeB(R:ag K Hi O τ σ H){i:Nat}{t:TV}{b0:Bd}{xs:List PV}{n:Bool}(e:τ[i]? =some t)(ht:t.ob=some (b0,xs,n)):∃O',ag K Hi O' (τ.set i (.frz (b0.pv xs) n)) σ H/\∀b∈O',b∈O:=by
 obtain⟨l,us,o,g1,g2,g3,g4,g5⟩:=R.obs i t b0 xs n e ht;refine⟨O.filter fun b=>decide (b≠l),?_,fun b hb=>(Iq.mp hb).1⟩;have mem:∀b,b∈O.filter (fun b=>decide (b≠l))↔b∈O/\b≠l:=fun b=>by simp
 have hs:aB (aQ H O) (aQ H (O.filter fun b=>decide (b≠l))):=rM fun b hb=>((mem b).mp hb).1;have hd:aB (aQ H O) (del (aQ H (O.filter fun b=>decide (b≠l))) l):=fun b o z=>by
  unfold aQ at z
  split at z
  ·cases z
  ·rename_i nb
   have ne:b≠l:=fun c=>nb (c▸g2);unfold del aQ;rw[Gq ne,Gq fun c=>nb ((mem b).mp c).1];exact z
 have hl:aQ H (O.filter fun b=>decide (b≠l)) l=some o:=by
  unfold aQ;rw[Gq fun c=>((mem l).mp c).2 rfl];exact g3
 refine⟨R.same,fun b hb=>R.own b ((mem b).mp hb).1,fun j w m z=> ?_,fun j t2 b2 ys m z ht2=> ?_,fun a b t2 t3 x y c e1 h2 e2 h3 k1 k2=> ?_⟩
 ·rcases av z with⟨rfl,z'⟩|⟨ne,z'⟩
  ·cases z'
   exact⟨.ref l,g1,Rp.at (fun _=>(R.own l g2).1) hl g4 (g5.mono hd)⟩
  ·obtain⟨u,q1,q2⟩:=R.frz j w m z'
   exact⟨u,q1,q2.mono hs⟩
 ·rcases av z with⟨rfl,z'⟩|⟨ne,z'⟩
  ·subst z'
   cases ht2
  ·obtain⟨l2,ws,o2,q1,q2,q3,q4,q5⟩:=R.obs j t2 b2 ys m z' ht2
   exact⟨l2,ws,o2,q1,(mem l2).mpr ⟨q2,fun c=>by subst c;exact ne (R.dst i j _ _ _ _ l2 e ht z' ht2 g1 q1)⟩,q3,q4,q5.mono hs⟩
 ·rcases av e1 with⟨_,z⟩|⟨_,z1⟩
  ·subst z
   cases h2
  ·rcases av e2 with⟨_,z⟩|⟨_,z2⟩
   ·subst z
    cases h3
   ·exact R.dst a b t2 t3 x y c z1 h2 z2 h3 k1 k2
theorem ag.freeze(R:ag K Hi O τ σ H)(i:Nat):∃O',ag K Hi O' (mV τ i) σ H/\∀b∈O',b∈O:=by
 unfold mV;cases e:τ[i]? with
 | none=>exact⟨O,R,fun b hb=>hb⟩
 | some t =>
  cases t with
  | un=>exact⟨O,R,fun b hb=>hb⟩
  | frz v n=>exact⟨O,R,fun b hb=>hb⟩
  | own xs n=>exact R.freezeB e rfl
  | owd b xs n=>exact R.freezeB e rfl
theorem ag.freezes:∀{cap:List Nat}{O:List Addr}{τ:En},ag K Hi O τ σ H->∃O',ag K Hi O' (ai cap τ) σ H/\∀b∈O',b∈O
 | [],O,_,R=>⟨O,R,fun b hb=>hb⟩
 | i::cap,_,_,R=>by
  obtain⟨O',R',h'⟩:=R.freeze i;obtain⟨O2,R2,h2⟩:=ag.freezes (cap:=cap) R';exact⟨O2,R2,fun b hb=>h' b (h2 b hb)⟩
variable(K Hi)in
noncomputable def aa(O:List Addr)(H H' :Hp):RV->V->Prop
 | .frz v n,u=>Rp K Hi n v (aQ H' O) u
 | .bor v,u=>Rp K Hi false v H' u
 | .own xs n,u=>∃p us,u=.ref p/\H p=none/\H' p=some (.lst us)/\aJ K Hi n xs (aQ (del H' p) O) us
 | .owd b xs n,u=>∃p us o,u=.ref p/\H p=none/\H' p=some o/\At b us o/\aJ K Hi n xs (aQ (del H' p) O) us
theorem aa.ext{H2:Hp}{r:RV}{u:V}(h:aa K Hi O H H' r u)(s:aB H' H2):aa K Hi O H H2 r u:=by
 cases r with
 | frz v n=>exact Rp.mono (aH s) h
 | bor v=>exact Rp.mono s h
 | own xs n =>
  obtain⟨p,us,e,h0,h1,h2⟩:=h;exact⟨p,us,e,h0,s _ _ h1,h2.mono (aH (eK s))⟩
 | owd b xs n =>
  obtain⟨p,us,o,e,h0,h1,ha,h2⟩:=h;exact⟨p,us,o,e,h0,s _ _ h1,ha,h2.mono (aH (eK s))⟩
theorem aa.back{H0:Hp}{r:RV}{u:V}(h:aa K Hi O H H' r u)(s:aB H0 H):aa K Hi O H0 H' r u:=by
 cases r with
 | frz v n=>exact h
 | bor v=>exact h
 | own xs n =>
  obtain⟨p,us,e,h0,h1,h2⟩:=h;exact⟨p,us,e,s.free h0,h1,h2⟩
 | owd b xs n =>
  obtain⟨p,us,o,e,h0,h1,ha,h2⟩:=h;exact⟨p,us,o,e,s.free h0,h1,ha,h2⟩
theorem ft{p:Addr}:aQ (del H' p) O=del (aQ H' O) p:=by
 funext b
 unfold aQ del;dsimp only
 split<;>split<;>(try rfl)<;>simp_all
theorem aa.keep{r:RV}{u:V}{v:PV}{n:Bool}(R:ag K Hi O τ σ H)(h:aa K Hi O H H' r u)(s:aB H H')(e:r.keep=some (v,n)):Rp K Hi n v (aQ H' O) u:=by
 cases r with
 | frz w m =>
  cases e;exact h
 | bor w =>
  have e:(if imm w then some (w,true)else none)=some (v,n):=e
  split at e
  ·rename_i i
   cases e;exact Rp.imm i (R.ext s).tups h
  ·cases e
 | own xs m =>
  cases e;obtain⟨p,us,e,h0,h1,h2⟩:=h;have hl:aQ H' O p=some (.lst us):=by
   unfold aQ;rw[Gq fun z=> ?_]
   ·exact h1
   ·obtain⟨vs,e',_⟩:=(R.own p z).2
    rw[h0]at e';cases e'
  exact Rp.lst.mpr ⟨p,us,e,fun _=>⟨R.same.free h0,hl⟩,bP.of hl,by rw[<- ft];exact h2⟩
 | owd b xs m =>
  cases e;obtain⟨p,us,o,e,h0,h1,ha,h2⟩:=h;subst e;have hl:aQ H' O p=some o:=by
   unfold aQ;rw[Gq fun z=> ?_]
   ·exact h1
   ·obtain⟨vs,e',_⟩:=(R.own p z).2
    rw[h0]at e';cases e'
  exact Rp.at (fun _=>R.same.free h0) hl ha (by rw[<- ft];exact h2)
theorem aa.val{r:RV}{u:V}(R:ag K Hi O τ σ H)(h:aa K Hi O H H' r u)(s:aB H H'):Rp K Hi false r.val H' u:=by
 cases r with
 | frz w m=>exact(Rp.mono aL h).weak
 | bor w=>exact h
 | own xs m=>exact(Rp.mono aL (h.keep R s rfl)).weak
 | owd b xs m=>exact(Rp.mono aL (h.keep R s rfl)).weak
theorem aa.its{r:RV}{u:V}{xs:List PV}{n:Bool}(R:ag K Hi O τ σ H)(h:aa K Hi O H H' r u)(s:aB H H')(e:r.its=some (xs,n)) :
  ∃p us,u=.ref p/\((bP K H' p us/\∃ys,r.val=.lst ys)\/(ba K H' p us/\∃ys,r.val=.tup ys))/\aJ K Hi n xs (aQ H' O) us:=by
 cases r with
 | frz w m =>
  cases w with
  | lst ys =>
   cases e;obtain⟨p,us,e,_,l,r⟩:=Rp.lst.mp h;exact⟨p,us,e,.inl ⟨(aL (O:=O)).seq l,_,rfl⟩,r.mono bH⟩
  | tup ys =>
   cases e;obtain⟨p,us,e,l,r⟩:=Rp.tup.mp h;exact⟨p,us,e,.inr ⟨(aL (O:=O)).tup l,_,rfl⟩,r⟩
  | _=>cases e
 | bor w =>
  cases w with
  | lst ys =>
   have e:(if imms ys then some (ys,true)else none)=some (xs,n):=e
   split at e
   ·rename_i i
    cases e;obtain⟨p,us,e,_,l,r⟩:=Rp.lst.mp h;exact⟨p,us,e,.inl ⟨l,_,rfl⟩,aJ.imm i (R.ext s).tups (r.mono bH)⟩
   ·cases e
  | tup ys =>
   have e:(if imms ys then some (ys,true)else none)=some (xs,n):=e
   split at e
   ·rename_i i
    cases e;obtain⟨p,us,e,l,r⟩:=Rp.tup.mp h;exact⟨p,us,e,.inr ⟨l,_,rfl⟩,aJ.imm i (R.ext s).tups r⟩
   ·cases e
  | _=>cases e
 | own ys m =>
  cases e;obtain⟨p,us,e,h0,h1,h2⟩:=h;exact⟨p,us,e,.inl ⟨bP.of h1,_,rfl⟩,h2.mono (aH bH)⟩
 | owd b ys m=>cases e
end
end
section
variable{K:W.Frag}{Hi:Hp}{κ:Type}[DecidableEq κ]
theorem lg{n:Bool}{G:Hp}{k:κ}:∀{ks:List κ}{vs:List PV}{us:List V},aJ K Hi n vs G us->ks.length=us.length->(fX ks vs k=none->fW (ks.zip us) k=none)/\∀e,fX ks vs k=some e->∃w,fW (ks.zip us) k=some w/\Rp K Hi n e G w
 | [],vs,us,r,hl=>by
  refine⟨fun _=>rfl,fun e h=> ?_⟩;unfold fX at h;cases h
 | k' ::ks,[],us,r,hl=>by
  unfold aJ at r;subst r;cases hl
 | k' ::ks,v::vs,us,r,hl=>by
  unfold aJ at r;obtain⟨u,ws,rfl,a,b⟩:=r;have hl:ks.length=ws.length:=by simpa using hl
  obtain⟨h1,h2⟩:=lg (k:=k) b hl;rw[KN];unfold fX
  by_cases e:k' =k
  ·rw[Gu e,fU (p:=(k',u)) e]
   exact⟨fun z=>(by cases z),fun x z=>⟨u,rfl,by cases z;exact a⟩⟩
  ·rw[Gq e,fV (p:=(k',u)) e]
   exact⟨h1,h2⟩
end
end IR
namespace IR
open PySem
structure Ct where
 N:List Str
 S:List (Str×NameKind)
 F:List (Str×Nat)
 G:List (Str×PV)
 B:List Str
 M:List Nat
noncomputable def slot:List Str->Str->Option Nat
 | [],_=>none
 | y::ys,x=>if y==x then some 0 else(slot ys x).map (·+1)
theorem eS:∀{N:List Str}{x:Str}{i:Nat},slot N x=some i->N[i]? =some x
 | [],_,_,h=>by cases h
 | y::ys,x,i,h=>by
  unfold slot at h
  split at h
  ·rename_i e
   cases h;simp[HN e]
  ·cases e:slot ys x with
   | none=>rw[e]at h;cases h
   | some j =>
    rw[e]at h;cases h
    simpa using eS e
noncomputable def AR(S:List (Str×NameKind))(x:Str):Bool:=S.lookup x==some .local||S.lookup x==some .cell||S.lookup x==some .free
noncomputable def pS(x:Str):Bool:=x==("__debug__":Str)||x==("__classdict__":Str)||x==("__name__":Str)
noncomputable def i8(ct:Ct)(x:Str):IE :=
 if pS x then .never else if AR ct.S x then(match slot ct.N x with
  | some i=>.var i
  | none=>.never)else if ct.S.lookup x==some .globalImplicit then(match ct.G.lookup x with
   | some v=>.con v
   | none=>.never)else .never
noncomputable def cS:Expr->Bool
 | .Set .. =>true
 | _=>false
noncomputable def mS:Expr->Bool
 | .Slice .. =>true
 | _=>false
noncomputable def isStar:Expr->Bool
 | .Starred .. =>true
 | _=>false
noncomputable def vB:Expr->Bool
 | .Name .. =>true
 | .Constant .. =>true
 | _=>false
noncomputable def li:Const->IE
 | .int i=>.con (.int i)
 | .bool b=>.con (.bl b)
 | .str z=>.con (.str z)
 | .none=>.con .non
 | _=>.never
noncomputable def jW(op:BoolOp):List IE->IE
 | []=>.never
 | [a]=>a
 | a::b::r=>match op with
  | .And=>.and a (jW op (b::r))
  | .Or=>.or a (jW op (b::r))
noncomputable def jV(op:BoolOp):List IC->IC
 | []=>.val .never
 | [a]=>a
 | a::b::r=>match op with
  | .And=>.and a (jV op (b::r))
  | .Or=>.or a (jV op (b::r))
noncomputable def oi(x:Str)(k:Nat):Option Bf :=
 if x==("len":Str)&&k==1 then some .len else if x==("int":Str)&&k==1 then some .int else if x==("list":Str)&&k==1 then some .list else if x==("tuple":Str)&&k==1 then some .tuple
 else if x==("all":Str)&&k==1 then some .all else if x==("min":Str)&&k==2 then some .min else if x==("max":Str)&&k==2 then some .max else if x==("abs":Str)&&k==1 then some .abs
 else if x==("any":Str)&&k==1 then some .any else if x==("sum":Str)&&k==1 then some .sum else if x==("sorted":Str)&&k==1 then some .sorted else none
noncomputable def tz(x:Str)(k:Nat):Option Bf:=oi x k
noncomputable def uL(x:Str):Option String :=
 if x==("int":Str)then some "int" else if x==("bool":Str)then some "bool" else if x==("str":Str)then some "str" else if x==("list":Str)then some "list" else if x==("tuple":Str)then some "tuple" else none
noncomputable def own(ct:Ct)(x:Str):Bool:=ct.B.contains x&&ct.S.lookup x==some .globalImplicit
noncomputable def eL:Expr->Option (Str×List Expr)
 | .Call (.Name x _) es [] _=>some (x,es)
 | _=>none
theorem tq{e:Expr}{x:Str}{es:List Expr}(h:eL e=some (x,es)):∃p q,e=.Call (.Name x p) es [] q:=by
 unfold eL at h
 split at h
 ·cases h
  exact⟨_,_,rfl⟩
 ·cases h
noncomputable def ug:List Expr->Option Expr
 | [b]=>some b
 | _=>none
noncomputable def qm(e:Expr):Option Expr:=(eL e).bind fun c=>if c.1==("reversed":Str)then ug c.2 else none
theorem sY{a b:Expr}(h:qm a=some b):∃p q,a=.Call (.Name "reversed" p) [b] [] q:=by
 unfold qm at h;cases e:eL a with
 | none=>rw[e]at h;cases h
 | some c =>
  rw[e]at h;have h:(if c.1==("reversed":Str)then ug c.2 else none)=some b:=h
  split at h
  ·rename_i z
   obtain⟨p,q,rfl⟩:=tq (x:=c.1) (es:=c.2) e;rw[HN z];cases hc:c.2 with
   | nil=>rw[hc]at h;cases h
   | cons d r =>
    rw[hc]at h;cases r with
    | nil=>cases h;exact⟨p,q,rfl⟩
    | cons d2 r=>cases h
  ·cases h
noncomputable def lD(S names:List (Str×NameKind)):List (Str×NameKind):=names.map fun(n,k)=>if(k== .free&&true&&S.lookup n==some .cell)then(n,.cell)else(n,k)
noncomputable def frees(scope:Scope):List Str:=(scope.names.filter fun y=>y.2== .free).map (·.1)
noncomputable def slots(N:List Str):List Str->Option (List Nat)
 | []=>some []
 | x::xs=>(slot N x).bind fun i=>(slots N xs).map (i::·)
noncomputable def tH(ct:Ct)(t:Str)(scope:Scope):Bool :=
 scope.kind== .function&&(scope.names.all fun y=> !(y.2== .cell)||scope.names.lookup y.1==some .cell)&&(scope.names.all fun y=> !(y.2== .local)||scope.names.lookup y.1==some .local) &&
 (scope.names.all fun y=> !(y.2== .free)||(ct.S.lookup y.1==some .cell||ct.S.lookup y.1==some .free))&&decide (t::frees scope).Nodup&&(scope.names.lookup t==some .local||scope.names.lookup t==some .cell) &&
 (frees scope).all fun x=>scope.names.lookup x==some .free
noncomputable def blk(ct:Ct)(t:Str)(scope:Scope):Ct:=⟨t::frees scope,lD ct.S scope.names,ct.F,ct.G,ct.B,[]⟩
noncomputable def lK(ct:Ct)(t t2:Str)(scope:Scope):Bool :=
 scope.kind== .function&&(scope.names.all fun y=> !(y.2== .cell)||scope.names.lookup y.1==some .cell)&&(scope.names.all fun y=> !(y.2== .local)||scope.names.lookup y.1==some .local) &&
 (scope.names.all fun y=> !(y.2== .free)||(ct.S.lookup y.1==some .cell||ct.S.lookup y.1==some .free))&&decide (t::t2::frees scope).Nodup&&(scope.names.lookup t==some .local||scope.names.lookup t==some .cell)&&(scope.names.lookup t2==some .local||scope.names.lookup t2==some .cell) &&
 (frees scope).all fun x=>scope.names.lookup x==some .free
noncomputable def blk2(ct:Ct)(t t2:Str)(scope:Scope):Ct:=⟨t::t2::frees scope,lD ct.S scope.names,ct.F,ct.G,ct.B,[]⟩
noncomputable def sw:List IE->qT
 | []=>.nil
 | e::es=>.cons e (sw es)
noncomputable def nV:Expr->Option Str
 | .Name x _=>some x
 | _=>none
noncomputable def nW:Expr->Option (Str×Str)
 | .Tuple es _ _=>(match es with
  | [a,b]=>(nV a).bind fun x=>(nV b).map fun y=>(x,y)
  | _=>none)
 | _=>none
noncomputable def qe(gs:List Comprehension):Option (Str×Str×Expr×List Expr):=match gs with
 | [g]=>if g.is_async=0 then(nW g.target).map fun w=>(w.1,w.2,g.iter,g.ifs)else none
 | _=>none
theorem nU{e:Expr}{x:Str}(h:nV e=some x):∃p,e=.Name x p:=by
 unfold nV at h
 split at h
 ·cases h;exact⟨_,rfl⟩
 ·cases h
theorem yI{a b:Expr}{q:Str×Str}(h:((nV a).bind fun x=>(nV b).map fun y=>(x,y))=some q):∃p p2,a=.Name q.1 p/\b=.Name q.2 p2:=by
 cases ha:nV a with
 | none=>rw[ha]at h;cases h
 | some x =>
  cases hb:nV b with
  | none=>rw[ha,hb]at h;cases h
  | some y =>
   rw[ha,hb]at h;cases h;obtain⟨p,rfl⟩:=nU ha;obtain⟨p2,rfl⟩:=nU hb;exact⟨p,p2,rfl,rfl⟩
theorem sv{e:Expr}{q:Str×Str}(h:nW e=some q):∃p p2 k p3,e=.Tuple [.Name q.1 p,.Name q.2 p2] k p3:=by
 unfold nW at h
 split at h
 ·split at h
  ·obtain⟨p,p2,rfl,rfl⟩:=yI h
   exact⟨p,p2,_,_,rfl⟩
  ·cases h
 ·cases h
theorem sI{gs:List Comprehension}{t t2:Str}{iter:Expr}{ifs:List Expr}(h:qe gs=some (t,t2,iter,ifs)):∃tp tp2 kk tpp,gs=[⟨.Tuple [.Name t tp,.Name t2 tp2] kk tpp,iter,ifs,0⟩]:=by
 match gs,h with
 | [],h=>cases h
 | _::_::_,h=>cases h
 | [⟨tg,it,fs,as⟩],h =>
  have h' :(if as=0 then(nW tg).map fun w=>(w.1,w.2,it,fs)else none)=some (t,t2,iter,ifs):=h
  split at h'
  ·rename_i e0
   subst e0
   clear h
   cases e1:nW tg with
   | none=>rw[e1]at h';cases h'
   | some w =>
    rw[e1]at h';cases h';obtain⟨p1,p2,k,p3,rfl⟩:=sv e1;exact⟨_,_,_,_,rfl⟩
  ·cases h'
mutual
noncomputable def ao:Nat->Ct->Expr->IE
 | 0,_,_=>.never
 | n+1,ct,e=>match e with
  | .Constant c _ _=>li c
  | .Name x _=>i8 ct x
  | .BinOp a op b _=>.bin op (ao n ct a) (ao n ct b)
  | .UnaryOp op a _=>match op with
   | .USub=>.neg (ao n ct a)
   | .Not=>.not (ao n ct a)
   | _=>.never
  | .Compare a ops cs _=>match ops,cs with
   | [op],[b]=>if cS b then .never else .cmp op (ao n ct a) (ao n ct b)
   | _,_=>.never
  | .BoolOp op vs _=>if vs.length<2 then .never else jW op (vs.map (ao n ct))
  | .IfExp c a b _=>.ite (ku n ct c) (ao n ct a) (ao n ct b)
  | .List es _=>.lst (ee n ct es)
  | .Tuple es _ _=>.tup (ee n ct es)
  | .Subscript a i _=>match i with
   | .Slice lo hi st _=>match st with
    | none=>.sl (ao n ct a) (zT n ct lo) (zT n ct hi)
    | some _=>.never
   | i=>.ix (ao n ct a) (ao n ct i)
  | .Call f es ks cp=>match ks with
   | []=>match f with
    | .Name x _=>gK n ct x es
    | .Attribute o m ap=>if ap.endLine==cp.line then kr n ct o m es else .never
    | _=>.never
   | _=>.never
  | .ListComp elt gs scope _=>match gs with
   | [⟨.Name t _,iter,ifs,0⟩]=>if tH ct t scope then(match slots ct.N (frees scope)with
    | some caps=>.lc (ao n (blk ct t scope) elt) (t8 n ct false iter) (match ifs with
     | []=>.no
     | [c]=>.yes (ku n (blk ct t scope) c)
     | _=>.yes (.val .never)) caps
    | none=>.never)else .never
   | gs=>(match qe gs with
    | some (t,t2,iter,ifs)=>if lK ct t t2 scope then(match slots ct.N (frees scope)with
     | some caps=>.lc2 (ao n (blk2 ct t t2 scope) elt) (t8 n ct true iter) (match ifs with
      | []=>.no
      | [c]=>.yes (ku n (blk2 ct t t2 scope) c)
      | _=>.yes (.val .never)) caps
     | none=>.never)else .never
    | none=>.never)
  | _=>.never
noncomputable def ee:Nat->Ct->List Expr->qT
 | 0,_,_=>.cons .never .nil
 | n+1,ct,es=>sw (es.map fun e=>if isStar e then .never else ao n ct e)
noncomputable def zT:Nat->Ct->Option Expr->IO
 | 0,_,_=>.yes .never
 | n+1,ct,e=>match e with
  | none=>.no
  | some e=>.yes (ao n ct e)
noncomputable def ku:Nat->Ct->Expr->IC
 | 0,_,_=>.val .never
 | n+1,ct,e=>match e with
  | .UnaryOp op a p=>match op with
   | .Not=>.not (ku n ct a)
   | op=>.val (ao n ct (.UnaryOp op a p))
  | .BoolOp op vs _=>jV op (vs.map (ku n ct))
  | .IfExp _ _ _ _=>.val .never
  | e=>.val (ao n ct e)
noncomputable def gK:Nat->Ct->Str->List Expr->IE
 | 0,_,_,_=>.never
 | n+1,ct,x,es=>if pS x then .never else if ct.S.lookup x==some .globalImplicit then(match ct.F.lookup x with
  | some f=>match es with
   | []=>.never
   | es=>.call f (ee n ct es)
  | none=>if ct.B.contains x then(if x==("isinstance":Str)then(match es with
    | [a,.Name t _]=>match uL t with
     | some ty=>if isStar a then .never else if own ct t then .bf (.isin ty) (.cons (ao n ct a) .nil)else .never
     | none=>.never
    | _=>.never)else match es with
     | es=>match tz x es.length with
      | some f=>.bf f (ee n ct es)
      | none=>.never)else .never)else .never
noncomputable def kr:Nat->Ct->Expr->Str->List Expr->IE
 | 0,_,_,_,_=>.never
 | n+1,ct,o,m,es=>if vB o then(match es with
  | _=>.never)else .never
noncomputable def t8:Nat->Ct->Bool->Expr->IT
 | 0,_,_,_=>.never
 | n+1,ct,tp,e=>if cS e then .never else match qm e with
  | some a=>if isStar a|| !own ct ("reversed":Str)then .never else .rvd (ao n ct a)
  | none=>match eL e with
  | some (x,es)=>if x==("range":Str)then(if own ct x then .rng (ee n ct es)else .never)else if x==("zip":Str)then(match es with
    | [a,b]=>if isStar a||isStar b|| !tp|| !own ct x then .never else .zip (ao n ct a) (ao n ct b)
    | _=>.never)else if x==("enumerate":Str)then(match es with
    | [a]=>if isStar a|| !tp|| !own ct x then .never else .enum (ao n ct a)
    | _=>.never)else .seq (ao n ct e)
  | none=>.seq (ao n ct e)
end
noncomputable def jf:Nat->Ct->Expr->List Nat
 | 0,_,_=>[]
 | n+1,ct,e=>match e with
  | .Name x _=>(slot ct.N x).toList
  | .List es _=>es.flatMap (jf n ct)
  | .Tuple es _ _=>es.flatMap (jf n ct)
  | .IfExp _ a b _=>jf n ct a++jf n ct b
  | _=>[]
noncomputable def je:Nat->Ct->Expr->List Nat
 | 0,_,_=>[]
 | n+1,ct,e=>match e with
  | .Name x _=>(slot ct.N x).toList
  | .List es _=>es.flatMap (je n ct)
  | .Tuple es _ _=>es.flatMap (je n ct)
  | .BinOp a _ b _=>je n ct a++je n ct b
  | .IfExp _ a b _=>je n ct a++je n ct b
  | .Call (.Name x _) es _ _=>if x==("tuple":Str)||x==("list":Str)||x==("sorted":Str)then es.flatMap (je n ct)else[]
  | .ListComp _ gs _ _=>gs.flatMap fun g=>je n ct g.iter
  | _=>[]
noncomputable def Cg(ct:Ct)(x:Str)(e:Expr):List Nat:=match e with
 | .BinOp (.Name y _) .Add (.List _ _) _=>(slot ct.N y).toList
 | .BinOp (.Name y _) .Add _ _=>if y==x then(slot ct.N x).toList else[]
 | _=>[]
noncomputable def Fz(n:Nat)(ct:Ct)(e:Expr):List Nat:=match eL e with
 | some (x,es)=>if x==("zip":Str)||x==("enumerate":Str)||x==("reversed":Str)then es.flatMap (jf n ct)else[]
 | none=>jf n ct e
noncomputable def loc(ct:Ct)(x:Str):Option Nat:=if(ct.S.lookup x==some .local||ct.S.lookup x==some .cell)&& !pS x then slot ct.N x else none
noncomputable def pk:Expr->Bool
 | .ListComp .. =>true
 | .SetComp .. =>true
 | .DictComp .. =>true
 | _=>false
noncomputable def mE:Option Expr->Option Expr->Option Str
 | some (.Call (.Name x _) [] [] _),none=>some x
 | _,_=>none
theorem pL{e c:Option Expr}{x:Str}(h:mE e c=some x):∃p q,e=some (.Call (.Name x p) [] [] q)/\c=none:=by
 unfold mE at h
 split at h
 ·cases h
  exact⟨_,_,rfl,rfl⟩
 ·cases h
noncomputable def locs(ct:Ct):List Expr->Option (List Nat)
 | []=>some []
 | .Name x _::es=>(loc ct x).bind fun i=>(locs ct es).map (i::·)
 | _::_=>none
noncomputable def sL(ct:Ct):Expr->Option (List Nat×Bool)
 | .Name x _=>(loc ct x).map fun i=>([i],true)
 | .Tuple es _ _=>(locs ct es).map fun is=>(is,false)
 | _=>none
mutual
noncomputable def j0:Nat->Ct->Stmt->IS
 | 0,_,_=>.never
 | n+1,ct,s=>match s with
  | .Return v _=>match v with
   | some e=>.ret (je n ct e) (ao n ct e)
   | none=>.retN
  | .Assign ts e _=>match ts with
   | [.Name x _]=>match loc ct x with
    | some i=>.asg i (ct.M.contains i) (Cg ct x e++jf n ct e) (ao n ct e)
    | none=>.never
   | _=>.never
  | .If c a b _=>.ife (ku n ct c) (bG n ct a) (bG n ct b)
  | .For tg it body els _=>match els with
   | []=>match sL ct tg with
    | some (is,one)=>.forr is one (Fz n ct it) (t8 n ct (!one) it) (bG n ct body)
    | none=>.never
   | _=>.never
  | .While c body els _=>match els with
   | []=>.whil (ku n ct c) (bG n ct body)
   | _=>.never
  | .Pass _=>.pass
  | .Break _=>.brk
  | .Continue _=>.cont
  | .Expr e _=>match e with
   | .Call (.Attribute (.Name x _) m ap) es [] cp=>if ap.endLine==cp.line then(match loc ct x with
    | some i=>(match es with
     | [a]=>if isStar a then .never else if m==("append":Str)then .app i (jf n ct a) (ao n ct a)else if m==("extend":Str)then .ext i (ao n ct a)else .never
     | _=>.never)
    | none=>.never)else .never
   | _=>.never
  | .Raise e c _=>match mE e c with
   | some x=>if ct.S.lookup x==some .globalImplicit&& !pS x then .rais x else .never
   | none=>.never
  | .AugAssign t op e _=>match t with
   | .Name x _=>match loc ct x with
    | some i=>.aug i op (ao n ct e)
    | none=>.never
   | _=>.never
  | _=>.never
noncomputable def bG:Nat->Ct->List Stmt->om
 | 0,_,_=>.cons .never .nil
 | n+1,ct,ss=>match ss with
  | []=>.nil
  | s::ss=>.cons (j0 n ct s) (bG n ct ss)
end
section
set_option autoImplicit true
set_option relaxedAutoImplicit true
variable{n:Nat}{ct:Ct}
theorem jz:ao 0 w0 w1=.never:=rfl
theorem ju:ao (n+1) ct (.Constant c w1 w2)=(li c):=rfl
theorem jp:ao (n+1) ct (.Name x w1)=(i8 ct x):=rfl
theorem jy:ao (n+1) ct (.BinOp a op b w1)=(.bin op (ao n ct a) (ao n ct b)):=rfl
theorem jl:ao (n+1) ct (.UnaryOp op a w1)=(match op with
   | .USub=>.neg (ao n ct a)
   | .Not=>.not (ao n ct a)
   | _=>.never):=rfl
theorem jv:ao (n+1) ct (.Compare a ops cs w1)=(match ops,cs with
   | [op],[b]=>if cS b then .never else .cmp op (ao n ct a) (ao n ct b)
   | _,_=>.never):=rfl
theorem jx:ao (n+1) ct (.BoolOp op vs w1)=(if vs.length<2 then .never else jW op (vs.map (ao n ct))):=rfl
theorem jt:ao (n+1) ct (.IfExp c a b w1)=(.ite (ku n ct c) (ao n ct a) (ao n ct b)):=rfl
theorem jr:ao (n+1) ct (.List es w1)=(.lst (ee n ct es)):=rfl
theorem jm:ao (n+1) ct (.Tuple es w1 w2)=(.tup (ee n ct es)):=rfl
theorem jo:ao (n+1) ct (.Subscript a i w1)=(match i with
   | .Slice lo hi st _=>match st with
    | none=>.sl (ao n ct a) (zT n ct lo) (zT n ct hi)
    | some _=>.never
   | i=>.ix (ao n ct a) (ao n ct i)):=rfl
theorem jw:ao (n+1) ct (.Call f es ks cp)=(match ks with
   | []=>match f with
    | .Name x _=>gK n ct x es
    | .Attribute o m ap=>if ap.endLine==cp.line then kr n ct o m es else .never
    | _=>.never
   | _=>.never):=rfl
theorem jq:ao (n+1) ct (.ListComp elt gs scope w1)=(match gs with
   | [⟨.Name t _,iter,ifs,0⟩]=>if tH ct t scope then(match slots ct.N (frees scope)with
    | some caps=>.lc (ao n (blk ct t scope) elt) (t8 n ct false iter) (match ifs with
     | []=>.no
     | [c]=>.yes (ku n (blk ct t scope) c)
     | _=>.yes (.val .never)) caps
    | none=>.never)else .never
   | gs=>(match qe gs with
    | some (t,t2,iter,ifs)=>if lK ct t t2 scope then(match slots ct.N (frees scope)with
     | some caps=>.lc2 (ao n (blk2 ct t t2 scope) elt) (t8 n ct true iter) (match ifs with
      | []=>.no
      | [c]=>.yes (ku n (blk2 ct t t2 scope) c)
      | _=>.yes (.val .never)) caps
     | none=>.never)else .never
    | none=>.never)):=rfl
theorem z2p:ee 0 w0 w1=.cons .never .nil:=rfl
theorem z2q:ee (n+1) ct es=(sw (es.map fun e=>if isStar e then .never else ao n ct e)):=rfl
theorem z2t:zT 0 w0 w1=.yes .never:=rfl
theorem z2u:zT (n+1) ct (none)=(.no):=rfl
theorem z2v:zT (n+1) ct (some e)=(.yes (ao n ct e)):=rfl
theorem Dj:ku 0 w0 w1=.val .never:=rfl
theorem Dg:ku (n+1) ct (.UnaryOp op a p)=(match op with
   | .Not=>.not (ku n ct a)
   | op=>.val (ao n ct (.UnaryOp op a p))):=rfl
theorem Di:ku (n+1) ct (.BoolOp op vs w1)=(jV op (vs.map (ku n ct))):=rfl
theorem Dh:ku (n+1) ct (.IfExp w1 w2 w3 w4)=(.val .never):=rfl
theorem z26:gK 0 w0 w1 w2=.never:=rfl
theorem z27:gK (n+1) ct x es=(if pS x then .never else if ct.S.lookup x==some .globalImplicit then(match ct.F.lookup x with
  | some f=>match es with
   | []=>.never
   | es=>.call f (ee n ct es)
  | none=>if ct.B.contains x then(if x==("isinstance":Str)then(match es with
    | [a,.Name t _]=>match uL t with
     | some ty=>if isStar a then .never else if own ct t then .bf (.isin ty) (.cons (ao n ct a) .nil)else .never
     | none=>.never
    | _=>.never)else match es with
     | es=>match tz x es.length with
      | some f=>.bf f (ee n ct es)
      | none=>.never)else .never)else .never):=rfl
theorem z2r:kr 0 w0 w1 w2 w3=.never:=rfl
theorem z2s:kr (n+1) ct o m es=(if vB o then(match es with
  | _=>.never)else .never):=rfl
theorem z3b:t8 0 w0 w1 w2=.never:=rfl
theorem z3c:t8 (n+1) ct tp e=(if cS e then .never else match qm e with
  | some a=>if isStar a|| !own ct ("reversed":Str)then .never else .rvd (ao n ct a)
  | none=>match eL e with
  | some (x,es)=>if x==("range":Str)then(if own ct x then .rng (ee n ct es)else .never)else if x==("zip":Str)then(match es with
    | [a,b]=>if isStar a||isStar b|| !tp|| !own ct x then .never else .zip (ao n ct a) (ao n ct b)
    | _=>.never)else if x==("enumerate":Str)then(match es with
    | [a]=>if isStar a|| !tp|| !own ct x then .never else .enum (ao n ct a)
    | _=>.never)else .seq (ao n ct e)
  | none=>.seq (ao n ct e)):=rfl
theorem ko:j0 0 w0 w1=.never:=rfl
theorem kX:j0 (n+1) ct (.Return v w1)=(match v with
   | some e=>.ret (je n ct e) (ao n ct e)
   | none=>.retN):=rfl
theorem km:j0 (n+1) ct (.Assign ts e w1)=(match ts with
   | [.Name x _]=>match loc ct x with
    | some i=>.asg i (ct.M.contains i) (Cg ct x e++jf n ct e) (ao n ct e)
    | none=>.never
   | _=>.never):=rfl
theorem kc:j0 (n+1) ct (.If c a b w1)=(.ife (ku n ct c) (bG n ct a) (bG n ct b)):=rfl
theorem ke:j0 (n+1) ct (.For tg it body els w1)=(match els with
   | []=>match sL ct tg with
    | some (is,one)=>.forr is one (Fz n ct it) (t8 n ct (!one) it) (bG n ct body)
    | none=>.never
   | _=>.never):=rfl
theorem kW:j0 (n+1) ct (.While c body els w1)=(match els with
   | []=>.whil (ku n ct c) (bG n ct body)
   | _=>.never):=rfl
theorem kZ:j0 (n+1) ct (.Pass w1)=(.pass):=rfl
theorem kj:j0 (n+1) ct (.Break w1)=(.brk):=rfl
theorem ki:j0 (n+1) ct (.Continue w1)=(.cont):=rfl
theorem kh:j0 (n+1) ct (.Expr e w1)=(match e with
   | .Call (.Attribute (.Name x _) m ap) es [] cp=>if ap.endLine==cp.line then(match loc ct x with
    | some i=>(match es with
     | [a]=>if isStar a then .never else if m==("append":Str)then .app i (jf n ct a) (ao n ct a)else if m==("extend":Str)then .ext i (ao n ct a)else .never
     | _=>.never)
    | none=>.never)else .never
   | _=>.never):=rfl
theorem kY:j0 (n+1) ct (.Raise e c w1)=(match mE e c with
   | some x=>if ct.S.lookup x==some .globalImplicit&& !pS x then .rais x else .never
   | none=>.never):=rfl
theorem kl:j0 (n+1) ct (.AugAssign t op e w1)=(match t with
   | .Name x _=>match loc ct x with
    | some i=>.aug i op (ao n ct e)
    | none=>.never
   | _=>.never):=rfl
theorem DU:bG 0 w0 w1=.cons .never .nil:=rfl
theorem DS:bG (n+1) ct ([])=(.nil):=rfl
theorem DT:bG (n+1) ct (s::ss)=(.cons (j0 n ct s) (bG n ct ss)):=rfl
end
end IR
namespace L2
open PySem PySem.Spec PyProof.Rows
section
variable{X:Cx}
theorem yC:du X (binaryOp .Add) (fun x y H Q=>∃(l b:Addr)(xs zs:List V),x=.ref l/\y=.ref b/\bP X.K H l xs/\bP X.K H b zs/\xs.length+zs.length<=sizeLine/\∀p,H p=none->Q (.ref p) (upd H p (.lst (xs++zs)))):=by
 intro pins s σ H x y v u Q I rx ry h;obtain⟨l,b,xs,zs,rfl,rfl,hH,hB,hz,q⟩:=h;cases rx;cases ry;obtain⟨its,r,pl,_⟩:=I.list hH;obtain⟨its2,r2,pl2,_⟩:=I.list hB;have hl:=r.length;have hl2:=r2.length;obtain⟨⟨cls,dd,data,sl⟩,ho,hc,n,hd⟩:=id pl.isList;obtain⟨⟨cls2,dd2,data2,sl2⟩,ho2,hc2,n2,hd2⟩:=id pl2.isList;simp only at hc hd hc2 hd2;subst hc hd hc2 hd2;have e:its.toArray++its2.toArray=(its++its2).toArray:=by simp
 refine concat_meets ⟨_,ho,rfl⟩ ⟨_,ho2,rfl⟩ noFill_list_add seq_list_add PySem.F.slot_list_add PySem.F.entry_list_add (PySem.F.args_list_add_2 _ _) (list_addW l b its.toArray its2.toArray n n2 dd dd2 sl sl2 (by rw[Gx,Gx];omega)) ⟨ho,ho2,?_⟩;rw[e];exact⟨.ref _,_,I.lnew (t' :=s.toks) (r.append r2) (by rw[G6];omega),rfl,q _ I.fresh⟩
theorem yA:du X (binaryOp .Add) (fun x y H Q=>∃(a b:Addr)(xs ys:List V),x=.ref a/\y=.ref b/\ba X.K H a xs/\ba X.K H b ys/\xs.length+ys.length<=sizeLine/\∀p H',aB H H' ->ba X.K H' p (xs++ys)->Q (.ref p) H'):=by
 intro pins s σ H x y u v Q I rx ry h;obtain⟨a,b,xs,ys,rfl,rfl,ha,hb,hz,q⟩:=h
 by_cases hx:xs=[]
 ·subst hx
  cases rx;cases ry;obtain⟨its,r1,p1,_⟩:=I.tuple ha;obtain⟨its2,r2,p2,_⟩:=I.tuple hb;cases r1;obtain⟨⟨cls,dd,data,sl⟩,ho,hc,n,hd⟩:=id p1;obtain⟨⟨cls2,dd2,data2,sl2⟩,ho2,hc2,n2,hd2⟩:=id p2;simp only at hc hd hc2 hd2;subst hc hd hc2 hd2
  exact concat_meets ⟨_,ho,rfl⟩ ⟨_,ho2,rfl⟩ noFill_tuple_add seq_tuple_add PySem.F.slot_tuple_add PySem.F.entry_tuple_add (Ka _ _)
   (tuple_addW0 a b #[] its2.toArray n n2 dd dd2 sl sl2 rfl) ⟨ho,ho2,⟨.ref b,H,I,rfl,q b H (aB.refl H) hb⟩⟩
 ·refine yB pins s σ H (.ref a) (.ref b) u v Q I rx ry ⟨a,b,xs,ys,rfl,rfl,ha,hb,hx,hz,fun e=> ?_,fun _ p hp=>q p _ (aT hp _) (ba.of am)⟩
  subst e;exact q a H (aB.refl H) (by rw[ID];exact ha)
theorem xQ:Dc X (fun x lo hi H Q=>∃a xs,x=.ref a/\ba X.K H a xs/\(HT.bS xs.length 0 lo=0/\HT.bS xs.length xs.length hi=xs.length)/\Q (.ref a) H):=by
 intro pins s σ H x v vl vu lo hi sl Q I rx hs pl pu h;obtain⟨a,xs,rfl,hx,hw,q⟩:=h;cases rx;obtain⟨its,r,ht,hz⟩:=I.tuple hx;have hlen:its.toArray.size=xs.length:=by rw[Gx];exact r.length.symm
 refine⟨"tuple",_,Hn.lookup,ht.typeIs,?_⟩;obtain⟨os,hos,hcs,hds⟩:=id hs;have hTs:s.TypeIs (.ref sl) "slice":=⟨os,hos,hcs⟩;unfold getItem
 try with_reducible refine JX ?_
 first|refine Gn (G7 ?_)|skip
 refine Gn (wpAny_sequenceKey ht.typeIs (by decide) ?_)
 refine Gn (JA (name:=Str.ofString "__getitem__") ht.typeIs Hn
  (IZ Hn ht.typeIs entry_tuple_getitem ?_ (args_tuple_getitem _ _)))
 show wpAny _ _ (Builtin.Tuple.tupleItemsOf (.ref a) >>= _) _ _ s;refine Gn (tupleItemsOf_ ht ?_);refine Gn (wpAny_typeOf hTs ?_);rw[Gu (by decide)];refine Gn (HT.cO hs pl pu ?_);rw[<- hlen]at hw;show wpAny _ _ (if(((HT.bS its.toArray.size 0 lo:Nat):Int)==0&&(1:Int)==1&&(HT.bS its.toArray.size its.toArray.size hi-HT.bS its.toArray.size 0 lo)==its.toArray.size)=true then _ else _) _ _ s;rw[Gu (by rw[hw.1,hw.2];simp)];unfold Builtin.Tuple.tupleIsExact;refine Gn (Gn (wpAny_typeOf ht.typeIs (G7 ?_)));rw[Gu (by decide)];exact Gn (Jt (G7 ⟨_,rfl,G7 ⟨.ref a,H,I,rfl,q⟩⟩))
theorem mz{v:V}{u:Value}(r:RelV v u):∀n:Nat,aO (List.replicate n v) (List.replicate n u)
 | 0=>.nil
 | n+1=>.cons r (mz r n)
theorem vR:du X (binaryOp .Mult) (fun x y H Q=>∃(a:Addr)(v:V)(N:Int),x=.ref a/\y=.int N/\2<=N/\N<=8/\ba X.K H a [v]/\∀p,H p=none->Q (.ref p) (upd H p (.tup (List.replicate N.toNat v)))):=by
 intro pins s σ H x y u v' Q I rx ry h;obtain⟨a,v,N,rfl,rfl,n3,n8,ha,q⟩:=h;cases rx;obtain⟨t,rfl⟩:=ry;obtain⟨its,r,ht,hz⟩:=I.tuple ha;obtain⟨u,rfl,ru⟩:=vals1 r;obtain⟨⟨cls,dd,data,sl⟩,ho,hc,n,hd⟩:=id ht;simp only at hc hd;subst hc hd
 refine wpAny_binaryOp_repeat_ref (T:="tuple") (U:="int") (by decide) ⟨_,ho,rfl⟩ (fun s' =>typeIs_int s' N t) gS F.fills_int_mul F.slot_int_rmul mC F.slot_int_index.lookup
  (Ke F.slot_int_rmul (typeIs_int s N t) F.entry_int_rmul (F.args_int_rmul_2 _ _) (pJ N t a _ n dd sl) ⟨ho,rfl,⟨_,ho,rfl⟩,Ke F.slot_tuple_mul ⟨_,ho,rfl⟩ F.entry_tuple_mul (F.args_tuple_mul_2 _ _) (o7 a u n dd sl t N n3 n8) ⟨ho,?_⟩⟩)
 refine⟨.ref s.heap.objs.size,_,I.laid (t' :=s.toks) (o:=.tup (List.replicate N.toNat v)) (fun b ob q=>Gp _ q) (Gr _) ?_,rfl,q _ (I.hok.fresh (Gr _))⟩;have z:N.toNat<=8:=by omega
 exact⟨by rw[List.length_replicate];exact HP z (by decide),_,mz ru _,cv.new _ _⟩
end
end L2
namespace IR
open PySem PySem.Spec PyProof.Rows L2
noncomputable abbrev WE(X:Cx)(e:Expr)(σ:L2.St)(H:Hp)(Q:VK):Prop:=∀(pins:List (Addr×Obj))(s:Shared),Inv X pins σ H s->wpAny (model X.prog X.w) X.A (eval e X.env) (EP X pins σ Q) X.xe s
noncomputable abbrev WT(X:Cx)(e:Expr)(σ:L2.St)(H:Hp)(Q:Bool->Hp->Prop):Prop:=∀(pins:List (Addr×Obj))(s:Shared),Inv X pins σ H s->wpAny (model X.prog X.w) X.A (isTrue e X.env (eval e X.env)) (TP X pins σ Q) X.xe s
noncomputable abbrev WA(X:Cx)(es:List Expr)(σ:L2.St)(H:Hp)(Q:List V->Hp->Prop):Prop:=∀(pos:Pos)(pins:List (Addr×Obj))(s:Shared),Inv X pins σ H s->wpAny (model X.prog X.w) X.A (spliced (backTo pos (starEach es X.env))) (AP X pins σ Q) X.xe s
theorem ae{X:Cx}{e:Expr}:PE X e (fun σ H Q=>WE X e σ H Q):=fun pins s σ H Q I h=>h pins s I
theorem iX{X:Cx}{e:Expr}:PT X e (fun σ H Q=>WT X e σ H Q):=fun pins s σ H Q I h=>h pins s I
theorem nR{X:Cx}{e:List Expr}:PA X e (fun σ H Q=>WA X e σ H Q):=fun pos pins s σ H Q I h=>h pos pins s I
theorem we{X:Cx}{e:Expr}{t:TE}{σ:L2.St}{H:Hp}{Q:VK}(h:PE X e t)(q:t σ H Q):WE X e σ H Q:=fun pins s I=>h pins s σ H Q I q
theorem wt{X:Cx}{e:Expr}{t:TT}{σ:L2.St}{H:Hp}{Q:Bool->Hp->Prop}(h:PT X e t)(q:t σ H Q):WT X e σ H Q:=fun pins s I=>h pins s σ H Q I q
theorem wa{X:Cx}{e:List Expr}{t:TA}{σ:L2.St}{H:Hp}{Q:List V->Hp->Prop}(h:PA X e t)(q:t σ H Q):WA X e σ H Q:=fun pos pins s I=>h pos pins s σ H Q I q
noncomputable def zY(K:W.Frag)(m:List PV->Option PV):Sp:=fun vs H Q _=>∃pvs r,aJ K H false pvs H vs/\m pvs=some r/\∀u H',aB H H' ->Rp K H true r H' u->Q u H'
structure bQ(cd:Nat->List PV->Option PV)(X:Cx)(ct:Ct):Prop where
 N:X.N=ct.N
 nd:ct.N.Nodup
 S:X.env.scope.names=ct.S
 kind:X.env.scope.kind=.function
 calm:X.calm=true
 glob:∀x v,ct.G.lookup x=some v->∃u w,X.mg x=some u/\RelV w u/\∀Hi n H,Rp X.K Hi n v H w
 bl:∀x,ct.B.contains x=true->X.mg x=none
 fns:∀x f,ct.F.lookup x=some f->∃k a fd ps,bu X.prog X.w X.K X.mg X.base oz k a fd ps (zY X.K (cd f))/\eQ k X.A/\X.mg x=some (.ref a)/\W.keepIn X.K (.ref a)=true/\Binds X.K fd ps []
 xe:PassesOwn (model X.prog X.w) X.A X.env X.xe
 un:X.A.units+64<cLine
section
variable{X:Cx}{Hi:Hp}{τ:En}
variable(X Hi τ)in
noncomputable def aK(e:Expr)(r:RV):Prop:=∀(O:List Addr)(σ:L2.St)(H:Hp)(Q:VK),ag X.K Hi O τ σ H->(∀u H',aB H H' ->aa X.K Hi O H H' r u->Q u H')->WE X e σ H Q
variable(X Hi τ)in
noncomputable def eP(e:Expr)(b:Bool):Prop:=∀(O:List Addr)(σ:L2.St)(H:Hp)(Q:Bool->Hp->Prop),ag X.K Hi O τ σ H->(∀H',aB H H' ->Q b H')->WT X e σ H Q
variable(X Hi)in
noncomputable def b6(O:List Addr)(H H' :Hp):List RV->List V->Prop
 | [],us=>us=[]
 | r::rs,us=>∃u vs,us=u::vs/\aa X.K Hi O H H' r u/\b6 O H H' rs vs
variable(X Hi τ)in
noncomputable def mx(es:List Expr)(rs:List RV):Prop:=∀(O:List Addr)(σ:L2.St)(H:Hp)(Q:List V->Hp->Prop),ag X.K Hi O τ σ H->(∀us H',aB H H' ->b6 X Hi O H H' rs us->Q us H')->WA X es σ H Q
theorem cF:sizeLine=16777216:=Ie
theorem b6.ext{O:List Addr}{H H' H2:Hp}(s:aB H' H2):∀{rs:List RV}{us:List V},b6 X Hi O H H' rs us->b6 X Hi O H H2 rs us
 | [],_,h=>h
 | r::rs,_,h=>by
  obtain⟨u,vs,e,a,b⟩:=h;exact⟨u,vs,e,a.ext s,b6.ext s b⟩
theorem b6.back{O:List Addr}{H0 H H' :Hp}(s:aB H0 H):∀{rs:List RV}{us:List V},b6 X Hi O H H' rs us->b6 X Hi O H0 H' rs us
 | [],_,h=>h
 | r::rs,_,h=>by
  obtain⟨u,vs,e,a,b⟩:=h;exact⟨u,vs,e,a.back s,b6.back s b⟩
theorem b6.vals{O:List Addr}{σ:L2.St}{H H' :Hp}(R:ag X.K Hi O τ σ H)(s:aB H H'):∀{rs:List RV}{us:List V},b6 X Hi O H H' rs us->aJ X.K Hi false (rs.map RV.val) H' us
 | [],_,h=>by cases h;exact .nil
 | r::rs,_,h=>by
  obtain⟨u,vs,rfl,a,b⟩:=h;exact .cons (a.val R s) (b6.vals R s b)
theorem b6.keeps{O:List Addr}{σ:L2.St}{H H' :Hp}(R:ag X.K Hi O τ σ H)(s:aB H H'):∀{rs:List RV}{us:List V}{vs:List PV}{n:Bool},b6 X Hi O H H' rs us->IR.keeps rs=some (vs,n)->aJ X.K Hi n vs (aQ H' O) us
 | [],_,_,_,h,e=>by cases h;cases e;exact .nil
 | r::rs,_,vs,n,h,e=>by
  obtain⟨u,ws,rfl,a,b⟩:=h;unfold IR.keeps at e;cases hk:r.keep with
  | none=>rw[hk]at e;cases e
  | some p =>
   obtain⟨v,n1⟩:=p;rw[hk]at e;cases hs:IR.keeps rs with
   | none=>rw[hs]at e;cases e
   | some p =>
    obtain⟨vs',n2⟩:=p;rw[hs]at e;cases e;refine .cons ((a.keep R s hk).low fun z=> ?_) ((b6.keeps R s b hs).low fun z=> ?_)
    ·rw[Gv]at z;exact z.1
    ·rw[Gv]at z;exact z.2
theorem fA{v:PV}{u:V}{O:List Addr}{H H' :Hp}(h:∀G,Rp X.K Hi true v G u):aa X.K Hi O H H' (sc v) u:=h _
theorem wR{c:Const}{k:Nat}{pos:Pos}{r:RV}{cd:Nat->List PV->Option PV}(h:aP cd (li c) τ=some r):aK X Hi τ (.Constant c k pos) r:=by
 intro O σ H Q R q;cases c with
 | int i =>
  cases h;exact we BH (q _ _ (aB.refl _) (fA fun _=>Rp.int.mpr rfl))
 | bool b =>
  cases h;exact we qw (q _ _ (aB.refl _) (fA fun _=>Rp.bl.mpr rfl))
 | str b =>
  cases h;exact we BE (q _ _ (aB.refl _) (fA fun _=>Rp.str.mpr rfl))
 | none =>
  cases h;exact we vN (q _ _ (aB.refl _) (fA fun _=>Rp.non.mpr rfl))
 | _=>cases h
theorem o0{S:List (Str×NameKind)}{sc:Scope}(e:sc.names=S){x:Str}(h:AR S x=true):Db sc x:=by
 unfold AR at h;unfold Db;rw[e]
 simpa [IF,or_assoc]using h
theorem bh{x:Str}(h:pS x=false):(x==("__debug__":Str))=false/\(x==("__classdict__":Str))=false/\x≠"__name__":=by
 unfold pS at h;simp only[Bool.or_eq_false_iff]at h;exact⟨h.1.1,h.1.2,fun e=>by rw[e]at h;simp at h⟩
theorem yJ{cd:Nat->List PV->Option PV}{ct:Ct}(C:bQ cd X ct){x:Str}{pos:Pos}{r:RV}(h:aP cd (i8 ct x) τ=some r):aK X Hi τ (.Name x pos) r:=by
 intro O σ H Q R q;unfold i8 at h
 split at h
 ·simp[dH,cx,dN,dU,dJ,dj,dP,dB,dC,df,dM,dO,dW,dD,cy,dh,di,dg,de,dG,cz,dR,dF,dE,dc,dZ,dS]at h
 rename_i ho;obtain⟨o1,o2,o3⟩:=bh (Im.mpr ho)
 split at h
 ·rename_i hv
  cases hs:slot ct.N x with
  | none=>rw[hs]at h;simp[dH,cx,dN,dU,dJ,dj,dP,dB,dC,df,dM,dO,dW,dD,cy,dh,di,dg,de,dG,cz,dR,dF,dE,dc,dZ,dS]at h
  | some i =>
   rw[hs]at h;have h:oJ τ i=some r:=by simpa [dH,cx,dN,dU,dJ,dj,dP,dB,dC,df,dM,dO,dW,dD,cy,dh,di,dg,de,dG,cz,dR,dF,dE,dc,dZ,dS]using h
   refine we (mJ (by rw[C.N];exact eS hs) (o0 C.S hv) o1 o2) ?_;unfold oJ at h;cases ht:τ[i]? with
   | none=>rw[ht]at h;cases h
   | some t =>
    rw[ht]at h;cases t with
    | un=>cases h
    | frz v n =>
     cases h;obtain⟨u,h1,h2⟩:=R.frz i v n ht;exact⟨u,h1,q u H (aB.refl _) h2⟩
    | own xs n =>
     cases h;obtain⟨l,us,h1,h2,h3,h4⟩:=R.owns i xs n ht;refine⟨_,h1,q _ H (aB.refl _) ?_⟩;refine Rp.lst.mpr ⟨l,us,rfl,(fun z=>absurd z Gz),bP.of h3,h4.weak.mono fun b o e=> ?_⟩;unfold aQ at e
     split at e
     ·cases e
     ·rename_i nb
      unfold del;have ne:b≠l:=fun z=>nb (z▸h2);rw[Gq ne];exact e
    | owd b xs n =>
     cases h;obtain⟨l,us,o,h1,h2,h3,ha,h4⟩:=R.obs i _ b xs n ht rfl;refine⟨_,h1,q _ H (aB.refl _) ?_⟩;refine Rp.at (fun z=>absurd z Gz) h3 ha (h4.weak.mono fun c o e=> ?_);unfold aQ at e
     split at e
     ·cases e
     ·rename_i nb
      unfold del;have ne:c≠l:=fun z=>nb (z▸h2);rw[Gq ne];exact e
 ·split at h
  ·rename_i hg
   cases hx:ct.G.lookup x with
   | none=>rw[hx]at h;simp[dH,cx,dN,dU,dJ,dj,dP,dB,dC,df,dM,dO,dW,dD,cy,dh,di,dg,de,dG,cz,dR,dF,dE,dc,dZ,dS]at h
   | some v =>
    rw[hx]at h;have h:some (sc v)=some r:=by simpa [dH,cx,dN,dU,dJ,dj,dP,dB,dC,df,dM,dO,dW,dD,cy,dh,di,dg,de,dG,cz,dR,dF,dE,dc,dZ,dS]using h
    cases h;obtain⟨u,w,h1,h2,h3⟩:=C.glob x v hx;have g:Gl X x:=by
     show X.env.scope.names.lookup x=_;rw[C.S]
     simpa using hg
    exact we (fj g h1 h2 o1) (q _ _ (aB.refl _) (fA fun _=>h3 _ _ _))
  ·simp[dH,cx,dN,dU,dJ,dj,dP,dB,dC,df,dM,dO,dW,dD,cy,dh,di,dg,de,dG,cz,dR,dF,dE,dc,dZ,dS]at h
theorem eM{a b:Expr}{op:Operator}{pos:Pos}{x y r:RV}{rr:R2}(ho:du X (binaryOp op) rr)(ha:aK X Hi τ a x)(hb:aK X Hi τ b y)
  (k:∀(O:List Addr)(σ:L2.St)(H H2:Hp)(u v:V)(Q:VK),ag X.K Hi O τ σ H->aB H H2->aa X.K Hi O H H2 x u->aa X.K Hi O H H2 y v->(∀w H3,aB H2 H3->aa X.K Hi O H H3 r w->Q w H3)->rr u v H2 Q) :
  aK X Hi τ (.BinOp a op b pos) r:=by
 intro O σ H Q R q;refine we (Et ho ae ae) ?_;refine ha O σ H _ R fun u H1 s1 r1=>hb O σ H1 _ (R.ext s1) fun v H2 s2 r2=> ?_;exact k O σ H H2 u v Q R (s1.trans s2) (r1.ext s2) (r2.back s1) fun w H3 s3 r3=>q w H3 (s1.trans (s2.trans s3)) r3
theorem aa.int{O:List Addr}{σ:L2.St}{H H' :Hp}{x:RV}{u:V}{i:Int}(R:ag X.K Hi O τ σ H)(s:aB H H')(h:aa X.K Hi O H H' x u)(e:x.val=.int i):u=.int i:=by
 have z:=h.val R s;rw[e]at z;exact Rp.int.mp z
theorem aa.str{O:List Addr}{σ:L2.St}{H H' :Hp}{x:RV}{u:V}{i:Str}(R:ag X.K Hi O τ σ H)(s:aB H H')(h:aa X.K Hi O H H' x u)(e:x.val=.str i):u=.str i:=by
 have z:=h.val R s;rw[e]at z;exact Rp.str.mp z
theorem aa.bl{O:List Addr}{σ:L2.St}{H H' :Hp}{x:RV}{u:V}{i:Bool}(R:ag X.K Hi O τ σ H)(s:aB H H')(h:aa X.K Hi O H H' x u)(e:x.val=.bl i):u=.bl i:=by
 have z:=h.val R s;rw[e]at z;exact Rp.bl.mp z
theorem aa.tup{O:List Addr}{σ:L2.St}{H H' :Hp}{x:RV}{u:V}{ys:List PV}(R:ag X.K Hi O τ σ H)(s:aB H H')(h:aa X.K Hi O H H' x u)(e:x.val=.tup ys):∃p us,u=.ref p/\ba X.K H' p us/\aJ X.K Hi false ys H' us:=by
 have z:=h.val R s;rw[e]at z;exact Rp.tup.mp z
theorem aa.lst{O:List Addr}{σ:L2.St}{H H' :Hp}{x:RV}{u:V}{ys:List PV}(R:ag X.K Hi O τ σ H)(s:aB H H')(h:aa X.K Hi O H H' x u)(e:x.val=.lst ys):∃p us,u=.ref p/\bP X.K H' p us/\aJ X.K Hi false ys H' us:=by
 have z:=h.val R s;rw[e]at z;obtain⟨p,us,h1,_,h2,h3⟩:=Rp.lst.mp z;exact⟨p,us,h1,h2,h3.mono bH⟩
theorem aa.itsL{O:List Addr}{σ:L2.St}{H H' :Hp}{r:RV}{u:V}{xs ys:List PV}{n:Bool}(R:ag X.K Hi O τ σ H)(s:aB H H')(h:aa X.K Hi O H H' r u)(e:r.its=some (xs,n))(ev:r.val=.lst ys) :
  ∃p us,u=.ref p/\bP X.K H' p us/\aJ X.K Hi n xs (aQ H' O) us:=by
 obtain⟨p,us,h1,h2,h3⟩:=h.its R s e
 rcases h2 with⟨h2,_⟩|⟨_,zs,h2⟩
 ·exact⟨p,us,h1,h2,h3⟩
 ·rw[ev]at h2
  cases h2
theorem aa.itsT{O:List Addr}{σ:L2.St}{H H' :Hp}{r:RV}{u:V}{xs ys:List PV}{n:Bool}(R:ag X.K Hi O τ σ H)(s:aB H H')(h:aa X.K Hi O H H' r u)(e:r.its=some (xs,n))(ev:r.val=.tup ys) :
  ∃p us,u=.ref p/\ba X.K H' p us/\aJ X.K Hi n xs (aQ H' O) us:=by
 obtain⟨p,us,h1,h2,h3⟩:=h.its R s e
 rcases h2 with⟨_,zs,h2⟩|⟨h2,_⟩
 ·rw[ev]at h2
  cases h2
 ·exact⟨p,us,h1,h2,h3⟩
theorem b9{O:List Addr}{H H2:Hp}{xs:List PV}{n:Bool}{p:Addr}{us:List V}(s:aB H H2)(hp:H2 p=none)(r:aJ X.K Hi n xs (aQ H2 O) us):aa X.K Hi O H (L2.upd H2 p (.lst us)) (.own xs n) (.ref p):=by
 refine⟨p,us,rfl,s.free hp,am,r.mono (aH fun b o e=> ?_)⟩;have ne:=aY e hp;unfold del;rw[Gq ne,aR ne];exact e
theorem iu{O:List Addr}{σ:L2.St}{H H2:Hp}{p:Addr}{o:HO}(R:ag X.K Hi O τ σ H)(s:aB H H2)(hp:H2 p=none):aQ (L2.upd H2 p o) O p=some o:=by
 unfold aQ;rw[Gq fun z=> ?_]
 ·exact am
 ·obtain⟨us,e,_⟩:=(R.own p z).2
  rw[s _ _ e]at hp;cases hp
theorem rN{O:List Addr}{σ:L2.St}{H H2:Hp}{p:Addr}{us:List V}(R:ag X.K Hi O τ σ H)(s:aB H H2)(h:ba X.K H2 p us):ba X.K (aQ H2 O) p us:=(R.ext s).tups.at h
theorem Bk{n m:Bool}{xs ys:List PV}{H:Hp}{us vs:List V}(a:aJ X.K Hi n xs H us)(b:aJ X.K Hi m ys H vs):aJ X.K Hi (n&&m) (xs++ys) H (us++vs):=by
 refine aJ.app (a.low fun z=> ?_) (b.low fun z=> ?_)
 ·rw[Gv]at z;exact z.1
 ·rw[Gv]at z;exact z.2
theorem uq{O:List Addr}{H H' :Hp}{i:Int}:aa X.K Hi O H H' (sc (.int i)) (.int i):=fA fun _=>Rp.int.mpr rfl
theorem DX{O:List Addr}{H H' :Hp}{i:Bool}:aa X.K Hi O H H' (sc (.bl i)) (.bl i):=fA fun _=>Rp.bl.mpr rfl
theorem ER{O:List Addr}{H H' :Hp}{i:Str}:aa X.K Hi O H H' (sc (.str i)) (.str i):=fA fun _=>Rp.str.mpr rfl
theorem qy{xs:List PV}{n:Bool}{r:RV}(h:kK xs n=some r):xs.length<=LN/\r=.own xs n:=by
 unfold kK at h
 split at h
 ·rename_i e;cases h;exact⟨e,rfl⟩
 ·cases h
theorem mK{xs:List PV}{n:Bool}{r:RV}(h:iY xs n=some r):xs.length<=LN/\r=.frz (.tup xs) n:=by
 unfold iY at h
 split at h
 ·rename_i e;cases h;exact⟨e,rfl⟩
 ·cases h
theorem binI{a b:Expr}{op:Operator}{pos:Pos}{x y:RV}{i j:Int}{C:Int->Int->Prop}{g:Int->Int->V}{w:PV}(ho:du X (binaryOp op) (rI C g))(ha:aK X Hi τ a x)(hb:aK X Hi τ b y)(ex:x.val=.int i)(ey:y.val=.int j)(c:C i j)
  (hg:∀G,Rp X.K Hi true w G (g i j)):aK X Hi τ (.BinOp a op b pos) (sc w) :=
 eM ho ha hb fun O σ H H2 u v Q R s ru rv q=>⟨i,j,ru.int R s ex,rv.int R s ey,c,q _ _ (aB.refl _) (fA hg)⟩
theorem AE{a b:Expr}{op:Operator}{pos:Pos}{x y:RV}{i j:Int}{g:Int->Int->V}{w:PV}(ho:du X (binaryOp op) (xZ g))(ha:aK X Hi τ a x)(hb:aK X Hi τ b y)(ex:x.val=.int i)(ey:y.val=.int j)
  (hg:∀G,Rp X.K Hi true w G (g i j)):aK X Hi τ (.BinOp a op b pos) (sc w) :=
 eM ho ha hb fun O σ H H2 u v Q R s ru rv q=>⟨i,j,ru.int R s ex,rv.int R s ey,q _ _ (aB.refl _) (fA hg)⟩
theorem oM(a:Array Nat):∀(m:Nat)(acc:Array Nat),((List.replicate m a).foldl (·++·) acc).toList=acc.toList++(List.replicate m a.toList).flatten
 | 0,acc=>by simp
 | m+1,acc=>by
  rw[IG,List.foldl_cons,oM a m,IG,Ii];simp
theorem Bh{z:Str}{n:Nat}:Txt.mul z (n:Int)=(⟨(List.replicate n z.cps.toList).flatten.toArray⟩:Str):=by
 refine UM.lq ?_;unfold Txt.mul
 split
 ·rename_i c
  have:n=0:=by omega
  subst this;rfl
 ·split
  ·rename_i c1 c
   rcases(IF ..).mp c with c|c
   ·have:n=1:=by
     have:=KD.mp c;omega
    subst this;simp
   ·have e:z.cps.toList=[]:=Jy.mp (by have:=KD.mp c;simpa [Str.length]using this)
    show z.cps.toList=(List.replicate n z.cps.toList).flatten;rw[e];simp
  ·rw[J9]
   have:=oM z.cps n #[]
   simpa using this
theorem aJ.rep{n:Bool}{xs:List PV}{H:Hp}{us:List V}(h:aJ X.K Hi n xs H us):∀k:Nat,aJ X.K Hi n (List.replicate k xs).flatten H (List.replicate k us).flatten
 | 0=>by simp;exact .nil
 | k+1=>by
  rw[IG,Ii,IG,Ii];exact h.app (aJ.rep h k)
theorem aJ.rep1{K:W.Frag}{Hi:Hp}{n:Bool}{x:PV}{H:Hp}{u:V}(a:Rp K Hi n x H u):∀m:Nat,aJ K Hi n (List.replicate m [x]).flatten H (List.replicate m u)
 | 0=>.nil
 | m+1=>by
  rw[IG,Ii];exact .cons a (aJ.rep1 a m)
theorem wg{a b:Expr}{op:Operator}{pos:Pos}{x y r:RV}(ha:aK X Hi τ a x)(hb:aK X Hi τ b y)(h:cW op x y=some r):aK X Hi τ (.BinOp a op b pos) r:=by
 cases op with
 | Add =>
  have h:qM x y=some r:=h;unfold qM at h
  split at h
  case h_1 i j e1 e2=>cases h;exact AE BR ha hb e1 e2 fun _=>Rp.int.mpr rfl
  case h_2 i j e1 e2 =>
   split at h
   ·rename_i hz
    cases h;exact eM pQ ha hb fun O σ H H2 u v Q R s ru rv q=>⟨i,j,ru.str R s e1,rv.str R s e2,by rw[cF];exact hz,q _ _ (aB.refl _) ER⟩
   ·cases h
  case h_3 e1 e2 =>
   split at h
   ·rename_i xs n ys m ix iy
    obtain⟨hz,rfl⟩:=qy h;refine eM yC ha hb fun O σ H H2 u v Q R s ru rv q=> ?_;obtain⟨p,us,rfl,l1,r1⟩:=ru.itsL R s ix e1;obtain⟨p2,us2,rfl,l2,r2⟩:=rv.itsL R s iy e2;have z1:=r1.len;have z2:=r2.len;rw[G6]at hz;exact⟨p,p2,us,us2,rfl,rfl,l1,l2,by rw[cF,<-z1,<-z2];exact hz,fun p3 hp=>q _ _ (aT hp _) (b9 s hp (Bk r1 r2))⟩
   ·cases h
  case h_4 e1 e2 =>
   split at h
   ·rename_i xs n ys m ix iy
    obtain⟨hz,rfl⟩:=mK h;refine eM yA ha hb fun O σ H H2 u v Q R s ru rv q=> ?_;obtain⟨p,us,rfl,l1,r1⟩:=ru.itsT R s ix e1;obtain⟨p2,us2,rfl,l2,r2⟩:=rv.itsT R s iy e2;have z1:=r1.len;have z2:=r2.len;rw[G6]at hz;exact⟨p,p2,us,us2,rfl,rfl,l1,l2,by rw[cF,<-z1,<-z2];exact hz,fun p3 H3 s3 l3=>q _ _ s3 (Rp.tup.mpr ⟨p3,_,rfl,rN R (s.trans s3) l3,(Bk r1 r2).mono (aH s3)⟩)⟩
   ·cases h
  case h_5=>cases h
 | Sub =>
  have h:qK x y=some r:=h;unfold qK at h
  split at h
  case h_1 i j e1 e2=>cases h;exact AE BJ ha hb e1 e2 fun _=>Rp.int.mpr rfl
  case h_2=>cases h
 | Mult =>
  have h:mj x y=some r:=h;unfold mj at h
  split at h
  case h_1 i j e1 e2 =>
   split at h
   ·rename_i c
    cases h;exact binI BN ha hb e1 e2 c fun _=>Rp.int.mpr rfl
   ·split at h
    ·rename_i c
     cases h;exact binI x9 ha hb e1 e2 c fun _=>Rp.int.mpr rfl
    ·cases h
  case h_2 k e1 e2 =>
   split at h
   ·rename_i xs n
    split at h
    ·rename_i c
     cases h;refine eM BL ha hb fun O σ H H2 u v Q R s ru rv q=> ?_;obtain⟨p,us,rfl,l0,l1,r1⟩:=ru;have z1:=r1.len;refine⟨p,k,us,rfl,rv.int R s e2,l1,by omega,by omega,by rw[cF,<-z1];exact c.2.2,fun p3 hp=>q _ _ (aT hp _) (b9 s hp ((r1.mono (aH bH)).rep _))⟩
    ·cases h
   ·cases h
  case h_3 k e1 e2 =>
   split at h
   ·rename_i xs n ix
    split at h
    ·rename_i c
     obtain⟨n3,n8,c2⟩:=c;obtain⟨hz,rfl⟩:=mK h;refine eM vR ha hb fun O σ H H2 u v Q R s ru rv q=> ?_;obtain⟨p,us,rfl,l1,r1⟩:=ru.itsT R s ix e1;obtain⟨x1,rfl⟩:∃x1,xs=[x1]:=by
      match xs,c2 with
      | [x1],_=>exact⟨x1,rfl⟩
     have r1' :=r1;unfold aJ at r1';obtain⟨u1,us',rfl,a1,b1⟩:=r1';unfold aJ at b1;subst b1;refine⟨p,u1,k,rfl,rv.int R s e2,n3,n8,l1,fun p3 hp=>q _ _ (aT hp _) (Rp.tup.mpr ⟨p3,_,rfl,ba.of (iu R s hp),?_⟩)⟩;exact aJ.rep1 (Rp.mono (aH (O:=O) (aT hp (.tup (List.replicate k.toNat u1)))) a1) _
    ·cases h
   ·cases h
  case h_4 z k e1 e2 =>
   split at h
   ·rename_i c
    cases h;refine eM (rr:=fun x y H Q=>∃(z:Str)(n:Nat),x=.str z/\y=.int n/\z.length<=16/\n<=1000/\Q (.str (Txt.mul z (n:Int))) H) ?_ ha hb fun O σ H H2 u v Q R s ru rv q=> ?_
    ·intro pins s σ H x y u v Q I rx ry h
     obtain⟨z,n,rfl,rfl,hz,hn,q⟩:=h;obtain⟨t,rfl⟩:=rx;obtain⟨t',rfl⟩:=ry;exact SB.mul (mulOk_of 16 1048576 (by omega) (by omega) (by omega) (by decide) (by decide)) fun t2 k=>⟨.str _,H,I.tok _,⟨_,rfl⟩,q⟩
    ·refine⟨z,k.toNat,ru.str R s e1,by rw[rv.int R s e2];congr 1;omega,c.2.2,by omega,?_⟩
     rw[Bh];exact q _ _ (aB.refl _) ER
   ·cases h
  case h_5=>cases h
 | FloorDiv =>
  have h:eN x y=some r:=h;unfold eN at h
  split at h
  case h_1 i j e1 e2 =>
   split at h
   ·rename_i c
    cases h;exact binI vU ha hb e1 e2 ⟨c.1,Jo ((Nat.log2_lt (n:=j.natAbs) (k:=200) (by omega)).mpr (by omega)) (by decide)⟩ fun _=>Rp.int.mpr rfl
   ·cases h
  case h_2=>cases h
 | Mod =>
  have h:qL x y=some r:=h;unfold qL at h
  split at h
  case h_1 i j e1 e2 =>
   split at h
   ·rename_i c
    cases h;exact binI BO ha hb e1 e2 c fun _=>Rp.int.mpr rfl
   ·cases h
  case h_2=>cases h
 | LShift =>
  have h:gh x y=some r:=h;unfold gh at h
  split at h
  case h_1 i j e1 e2 =>
   split at h
   ·rename_i c
    cases h;exact binI BK ha hb e1 e2 c fun _=>Rp.int.mpr rfl
   ·cases h
  case h_2=>cases h
 | _=>exact absurd (show(none:Option RV)=some r from h) (by intro z;cases z)
mutual
theorem bo{pins:List (Addr×Obj)}{σ:L2.St}{H:Hp}{s:Shared}(I:Inv X pins σ H s):∀{a:PV}{n:Nat}{u:V}{u' :Value},cX n a=true->Rp X.K Hi false a H u->RelV u u' ->∃as,Reads s.heap u' (fR a) as
 | .non,_,_,_,_,r,e=>by cases Rp.non.mp r;cases e;exact⟨_,.none⟩
 | .bl b,_,_,_,_,r,e=>by cases Rp.bl.mp r;cases e;exact⟨_,.bool b⟩
 | .int i,_,_,_,_,r,e=>by cases Rp.int.mp r;obtain⟨t,rfl⟩:=e;exact⟨_,.int i t⟩
 | .str z,_,_,_,_,r,e=>by cases Rp.str.mp r;obtain⟨t,rfl⟩:=e;exact⟨_,.str z t⟩
 | .lst xs,n,_,_,f,r,e=>by
  obtain⟨p,us,rfl,_,l,r⟩:=Rp.lst.mp r;cases e;cases n with
  | zero=>cases f
  | succ n =>
   obtain⟨its,rv,pl,_⟩:=I.list l;obtain⟨as,z⟩:=ck I (xs:=xs) (n:=n) f (r.mono bH) rv;obtain⟨o,ho,hc,m,hd⟩:=pl.isList;exact⟨_,.list ho hc hd (by simpa using z)⟩
 | .tup xs,n,_,_,f,r,e=>by
  obtain⟨p,us,rfl,l,r⟩:=Rp.tup.mp r;cases e;cases n with
  | zero=>cases f
  | succ n =>
   obtain⟨its,rv,pl,_⟩:=I.tuple l;obtain⟨as,z⟩:=ck I (xs:=xs) (n:=n) f r rv;obtain⟨o,ho,hc,m,hd⟩:=pl;exact⟨_,.tuple ho hc hd (by simpa using z)⟩
 | .dK _ _,n,_,_,f,_,_=>by cases n<;>cases f
 | .dT _ _,n,_,_,f,_,_=>by cases n<;>cases f
theorem ck{pins:List (Addr×Obj)}{σ:L2.St}{H:Hp}{s:Shared}(I:Inv X pins σ H s):∀{xs:List PV}{n:Nat}{us:List V}{us' :List Value},xs.all (cX n)=true->aJ X.K Hi false xs H us->aO us us' ->∃as,ReadsAll s.heap us' (bV xs) as
 | [],_,_,_,_,r,e=>by
  unfold aJ at r;subst r;cases e;exact⟨_,.nil⟩
 | x::xs,n,_,_,f,r,e=>by
  unfold aJ at r;obtain⟨u,us,rfl,r1,r2⟩:=r;cases e with
  | cons e1 e2 =>
   rw[JC,Gv]at f;obtain⟨as,z⟩:=bo I f.1 r1 e1;obtain⟨bs,y⟩:=ck I f.2 r2 e2;exact⟨_,.cons z y⟩
end
mutual
theorem cj:∀{a:PV}{n:Nat},cX n a=true->(fR a).canLay0=true/\(fR a).depth<=n
 | .non,n,_=>⟨rfl,Hu _⟩
 | .bl _,n,_=>⟨rfl,Hu _⟩
 | .int _,n,_=>⟨rfl,Hu _⟩
 | .str z,n,h=>⟨by cases n<;>exact h,Hu _⟩
 | .lst xs,0,h=>by cases h
 | .lst xs,n+1,h=>⟨(eI (xs:=xs) (n:=n) h).1,Nat.succ_le_succ (eI (xs:=xs) (n:=n) h).2⟩
 | .tup xs,0,h=>by cases h
 | .tup xs,n+1,h=>⟨(eI (xs:=xs) (n:=n) h).1,Nat.succ_le_succ (eI (xs:=xs) (n:=n) h).2⟩
 | .dK _ _,n,h=>by cases n<;>cases h
 | .dT _ _,n,h=>by cases n<;>cases h
theorem eI:∀{xs:List PV}{n:Nat},xs.all (cX n)=true->PyData.canLayAll0 (bV xs)=true/\PyData.depthAll (bV xs)<=n
 | [],n,_=>⟨rfl,Hu _⟩
 | x::xs,n,h=>by
  rw[JC,Gv]at h;obtain⟨a,b⟩:=cj h.1;obtain⟨c,d⟩:=eI h.2;refine⟨?_,?_⟩
  ·show((fR x).canLay0&&PyData.canLayAll0 (bV xs))=true
   rw[a,c];rfl
  ·show max (fR x).depth (PyData.depthAll (bV xs))<=n
   omega
end
mutual
theorem i5:∀(a b:PV),PyData.eqv (fR a) (fR b)=rf a b
 | .lst xs,b=>by
  cases b with
  | lst ys=>show PyData.eqvAll (bV xs) (bV ys)=pz xs ys;exact ja xs ys
  | _=>rfl
 | .tup xs,b=>by
  cases b with
  | tup ys=>show PyData.eqvAll (bV xs) (bV ys)=pz xs ys;exact ja xs ys
  | _=>rfl
 | .non,b=>by cases b<;>rfl
 | .bl x,b=>by cases b<;>first|rfl|exact beq_eq_decide _ _|(unfold rf;simp[fR,PyData.eqv,eqf,Bool.beq_eq_decide_eq])
 | .int x,b=>by cases b<;>first|rfl|exact beq_eq_decide _ _|(unfold rf;simp[fR,PyData.eqv,eqf,Bool.beq_eq_decide_eq])
 | .str x,b=>by cases b<;>first|rfl|exact beq_eq_decide _ _|(unfold rf;simp[fR,PyData.eqv,eqf,Bool.beq_eq_decide_eq])
 | .dK k v,b=>by cases b<;>rfl
 | .dT k v,b=>by cases b<;>rfl
theorem ja:∀(xs ys:List PV),PyData.eqvAll (bV xs) (bV ys)=pz xs ys
 | [],[]=>rfl
 | [],_::_=>rfl
 | _::_,[]=>rfl
 | x::xs,y::ys=>by
  show(PyData.eqv (fR x) (fR y)&&PyData.eqvAll (bV xs) (bV ys))=(rf x y&&pz xs ys);rw[i5 x y,ja xs ys]
end
variable(X Hi)in
noncomputable def Ei(g:Bool->Bool):R2:=fun x y H Q=>∃a b,cX 12 a=true/\cX 12 b=true/\Rp X.K Hi false a H x/\Rp X.K Hi false b H y/\Q (.bl (g (rf a b))) H
theorem vV(hu:X.A.units+64<cLine):du X (compareOp .Eq) (Ei X Hi id):=by
 intro pins s σ H x y u v Q I rx ry h;obtain⟨a,b,fa,fb,ra,rb,q⟩:=h;obtain⟨as,za⟩:=bo I fa ra rx;obtain⟨bs,zb⟩:=bo I fb rb ry;obtain⟨ca,da⟩:=cj fa;obtain⟨cb,db⟩:=cj fb;refine SeqAt.compareEq_reads za zb ca cb (by omega) ?_;rw[i5];exact⟨.bl _,H,I,rfl,q⟩
theorem BM(hu:X.A.units+64<cLine):du X (compareOp .NotEq) (Ei X Hi not):=by
 intro pins s σ H x y u v Q I rx ry h;obtain⟨a,b,fa,fb,ra,rb,q⟩:=h;obtain⟨as,za⟩:=bo I fa ra rx;obtain⟨bs,zb⟩:=bo I fb rb ry;obtain⟨ca,da⟩:=cj fa;obtain⟨cb,db⟩:=cj fb;refine SeqAt.compareNe_reads za zb ca cb (by omega) ?_;rw[i5];exact⟨.bl _,H,I,rfl,q⟩
noncomputable def oo(op:CmpOp)(A:Around)(s:Shared)(a b:Value)(t:Bool):Prop:=∀(prog:Program)(w:World)(E:Value->Shared->Prop)(Q:Value->Shared->Prop),Q (.bool t) s->wpAny (model prog w) A (richCompare op a b) Q E s
inductive OW(op:CmpOp)(A:Around)(s:Shared):List (Value×Value)->Option Bool->Prop
 | nil:OW op A s [] none
 | eq {p q:Value} {r:List (Value×Value)} {t:Option Bool}:SeqAt.EqAt A s p q true->OW op A s r t->OW op A s ((p,q)::r) t
 | ne {p q:Value} {r:List (Value×Value)} {t:Bool}:SeqAt.EqAt A s p q false->oo op A s p q t->OW op A s ((p,q)::r) (some t)
structure TOp(op:CmpOp)(f:Int->Int->Bool)(g:Nat->Nat->Bool):Prop where
 int:∀{A:Around}{s:Shared}{i j:Int}{t t' :Tok},oo op A s (.int i t) (.int j t') (f i j)
 tup:∀{A:Around}{s:Shared}{l b:Addr}{xs ys:Array Value}{t:Option Bool},s.heap.IsTuple l xs->s.heap.IsTuple b ys->A.units<cLine->OW op A.in1 s (xs.toList.zip ys.toList) t->oo op A s (.ref l) (.ref b) (t.getD (g xs.size ys.size))
 co:∀a b:Value,compareOp op a b=richCompare op a b
 s1:∀n,g (n+1) 0=g 1 0
 s2:∀a b,g (a+1) (b+1)=g a b
theorem gP{h:Heap}:∀{xs:List PV}{vs:List Value}{as:List Addr},ReadsAll h vs (bV xs) as->vs.length=xs.length
 | [],_,_,r=>by cases r;rfl
 | x::xs,_,_,r=>by
  cases r with
  | cons a b=>rw[HC,HC,gP b]
mutual
theorem wW{op:CmpOp}{f:Int->Int->Bool}{g:Nat->Nat->Bool}(T:TOp op f g):∀{x y:PV}{n:Nat}{A:Around}{s:Shared}{a b:Value}{as bs:List Addr}{t:Bool},Reads s.heap a (fR x) as->Reads s.heap b (fR y) bs->cX n x=true->cX n y=true->A.units+n<cLine->Fy f g x y=some t->oo op A s a b t
 | .int i,y,_,_,_,_,_,_,_,_,ra,rb,_,_,_,h=>by
  cases y with
  | int j =>
   cases h;cases ra;cases rb;exact T.int
  | _=>cases h
 | .tup xs,y,n,A,s,_,_,_,_,t,ra,rb,fa,fb,hu,h=>by
  cases y with
  | tup ys =>
   cases n with
   | zero=>cases fa
   | succ n =>
    cases ra with
    | @tuple l o vs m _ _ h1 h2 h3 h4 =>
     cases rb with
     | @tuple l' o' ws m' _ _ k1 k2 k3 k4 =>
      obtain⟨o,ow,e⟩:=fz T (A:=A.in1) (n:=n) h4 k4 fa fb (by show A.units+1+n<cLine;omega) h;rw[HJ,HJ]at e;rw[e];exact T.tup ⟨_,h1,h2,_,h3⟩ ⟨_,k1,k2,_,k3⟩ (by omega) ow
  | _=>cases h
 | .non,_,_,_,_,_,_,_,_,_,_,_,_,_,_,h=>by cases h
 | .bl _,_,_,_,_,_,_,_,_,_,_,_,_,_,_,h=>by cases h
 | .str _,_,_,_,_,_,_,_,_,_,_,_,_,_,_,h=>by cases h
 | .lst _,_,_,_,_,_,_,_,_,_,_,_,_,_,_,h=>by cases h
 | .dK _ _,_,_,_,_,_,_,_,_,_,_,_,_,_,_,h=>by cases h
 | .dT _ _,_,_,_,_,_,_,_,_,_,_,_,_,_,_,h=>by cases h
theorem fz{op:CmpOp}{f:Int->Int->Bool}{g:Nat->Nat->Bool}(T:TOp op f g):∀{xs ys:List PV}{n:Nat}{A:Around}{s:Shared}{vs ws:List Value}{as bs:List Addr}{t:Bool},ReadsAll s.heap vs (bV xs) as->ReadsAll s.heap ws (bV ys) bs->xs.all (cX n)=true->ys.all (cX n)=true->A.units+n<cLine->qC f g xs ys=some t ->
  ∃o:Option Bool,OW op A s (vs.zip ws) o/\t=o.getD (g vs.length ws.length)
 | [],ys,_,_,_,_,_,_,_,_,ra,rb,_,_,_,h=>by
  cases h;cases ra;exact⟨none,.nil,by rw[gP rb];rfl⟩
 | x::xs,[],_,_,_,_,_,_,_,_,ra,rb,_,_,_,h=>by
  cases h;cases rb;exact⟨none,by rw[List.zip_nil_right];exact .nil,by rw[gP ra];exact(T.s1 _).symm⟩
 | x::xs,y::ys,n,A,s,_,_,_,_,t,ra,rb,fa,fb,hu,h=>by
  rw[JC,Gv]at fa fb;cases ra with
  | cons r rs =>
   cases rb with
   | cons r' rs' =>
    obtain⟨c1,d1⟩:=cj fa.1;obtain⟨c2,d2⟩:=cj fb.1;have he:=SeqAt.eqAt_reads (fR x) (fR y) A s _ _ _ _ r r' c1 c2 (by omega);rw[i5]at he;have h:(if rf x y=true then qC f g xs ys else Fy f g x y)=some t:=h;cases e:rf x y with
    | true =>
     rw[e]at h he;obtain⟨o,ow,z⟩:=fz T rs rs' fa.2 fb.2 hu h;refine⟨o,.eq he ow,?_⟩;rw[z,HC,HC,T.s2]
    | false =>
     rw[e]at h he;exact⟨some t,.ne he (wW T r r' fa.1 fb.1 hu h),rfl⟩
end
variable(X Hi)in
noncomputable def Ej(f:Int->Int->Bool)(g:Nat->Nat->Bool):R2:=fun x y H Q=>∃a b t,cX 12 a=true/\cX 12 b=true/\Rp X.K Hi false a H x/\Rp X.K Hi false b H y/\Fy f g a b=some t/\Q (.bl t) H
theorem BQ{op:CmpOp}{f:Int->Int->Bool}{g:Nat->Nat->Bool}(T:TOp op f g)(hu:X.A.units+64<cLine):du X (compareOp op) (Ej X Hi f g):=by
 intro pins s σ H x y u v Q I rx ry h;obtain⟨a,b,t,fa,fb,ra,rb,e,q⟩:=h;obtain⟨as,za⟩:=bo I fa ra rx;obtain⟨bs,zb⟩:=bo I fb rb ry;have z:=wW T (A:=X.A) za zb fa fb (by omega) e;rw[T.co];exact z _ _ _ _ ⟨.bl _,H,I,rfl,q⟩
theorem AX(l b:Addr)(xs ys:Array Value)(n n2:Nat)(d1 d2:Option Addr)(sl sl2:Array (Option Value)):Meets (Builtin.«tuple.__lt__» ⟨[.ref l,.ref b],[]⟩)
  (fun A R s=>s.heap.get? l=some ⟨.type "tuple",d1,.seq xs n,sl⟩/\s.heap.get? b=some ⟨.type "tuple",d2,.seq ys n2,sl2⟩ /\
   ∃t:Option Bool,OW .Lt A.in1 s (xs.toList.zip ys.toList) t/\R (.ok (.ret (.bool (t.getD (decide (xs.size<ys.size)))))) s) :=
 .of_wp fun prog w A R s h=>by
  obtain⟨hp,g,d,tk,os⟩:=s;obtain⟨h1,h2,t,ow,hR⟩:=h;have f2:=AutoSeq1.sub_tuple_tuple
  wp_walk using HI h1,HI h2,wpAny_forIn_list _ (fun aM c s' =>c.1=none/\s' =⟨hp,g,d,tk,os⟩/\∃t:Option Bool,OW .Lt A.in1 ⟨hp,g,d,tk,os⟩ aM t/\R (.ok (.ret (.bool (t.getD (decide (xs.size<ys.size)))))) ⟨hp,g,d,tk,os⟩) _
  case turn =>
   rintro⟨y,x⟩ aM c s' ⟨hc,rfl,t,ow,hR⟩;cases ow with
   | eq he ow =>
    refine Gn (he prog w _ _ ?_)
    wp_walk
    exact⟨rfl,rfl,t,ow,hR⟩
   | ne he hl =>
    refine Gn (he prog w _ _ ?_);refine Gn (Jt (Gn (hl prog w _ _ ?_)));refine Gn (G7 (G7 ?_));exact G7 ⟨_,rfl,hR⟩
  case fin =>
   rintro⟨c1,c2⟩ s' ⟨hc,rfl,t,ow,hR⟩;cases ow;simp only at hc;subst hc
   wp_walk
   exact⟨_,rfl,by simpa [Builtin.Tuple.tupleCompareSizes]using hR⟩
  case h =>
   exact⟨rfl,rfl,t,ow,hR⟩
theorem tD{A:Around}{s:Shared}{l b:Addr}{xs ys:Array Value}{t:Option Bool}(hl:s.heap.IsTuple l xs)(hb:s.heap.IsTuple b ys)(hu:A.units<cLine)(ow:OW .Lt A.in1 s (xs.toList.zip ys.toList) t):oo .Lt A s (.ref l) (.ref b) (t.getD (decide (xs.size<ys.size))):=fun prog w E Q h=>by
 obtain⟨⟨c1,d1,x1,s1⟩,h1,e1,n,y1⟩:=id hl;obtain⟨⟨c2,d2,x2,s2⟩,h2,e2,m,y2⟩:=id hb;simp only at e1 y1 e2 y2;subst e1 y1 e2 y2;exact richCompare_meets_room (op:=.Lt) ⟨_,h1,rfl⟩ ⟨_,h2,rfl⟩ PySem.F.slot_tuple_lt PySem.F.entry_tuple_lt (PySem.F.args_tuple_lt_2 _ _) (AX l b xs ys n m d1 d2 s1 s2) ⟨h1,h2,t,ow,(fun z=>nomatch z),h⟩ hu
theorem rE:TOp .Lt (fun i j=>decide (i<j)) fun a b=>decide (a<b):=⟨fun _ _ _ _ q=>PyProof.Rows.lt_int q,tD,fun _ _=>rfl,fun n=>rfl,fun a b=>Jm.mpr (by omega)⟩
theorem vS(hu:X.A.units+64<cLine):du X (compareOp .Lt) (Ej X Hi (fun i j=>decide (i<j)) fun a b=>decide (a<b)):=BQ rE hu
theorem oA{y:PV}{k:bK}{n:Bool}{G:Hp}{v:V}(h:eG y=some k)(r:Rp X.K Hi n y G v):v=kV k:=by
 cases y with
 | int i=>cases h;exact Rp.int.mp r
 | str z=>cases h;exact Rp.str.mp r
 | _=>cases h
theorem Rp.dT{n:Bool}{ks:List (List bK)}{vs:List PV}{G:Hp}{u:V}(h:Rp X.K Hi n (.dT ks vs) G u):∃p us,u=.ref p/\G p=some (.dT (ks.zip us))/\ks.length=us.length/\aJ X.K Hi n vs (IR.del G p) us:=by
 unfold Rp at h;obtain⟨p,us,e,_,h1,h2,h3⟩:=h;exact⟨p,us,e,h1,h2,h3⟩
theorem Rp.dK{n:Bool}{ks:List bK}{vs:List PV}{G:Hp}{u:V}(h:Rp X.K Hi n (.dK ks vs) G u):∃p us,u=.ref p/\G p=some (.dK (ks.zip us))/\ks.length=us.length/\aJ X.K Hi n vs (IR.del G p) us:=by
 unfold Rp at h;obtain⟨p,us,e,_,h1,h2,h3⟩:=h;exact⟨p,us,e,h1,h2,h3⟩
end
end IR
namespace TS
open PySem PySem.W PyProof.Rows
theorem vK{α β:Type}{f:α->β}{m n:List β}(h:m.Perm n):∀{l:List α},n=l.map f->∃js:List α,js.Perm l/\m=js.map f:=by
 induction h with
 | nil =>
  intro l e;exact⟨l,J5 _,e⟩
 | cons x _ ih =>
  intro l e;obtain⟨a,r,rfl,rfl,e2⟩:=Jj.mp e.symm;obtain⟨js,p,z⟩:=ih e2.symm;exact⟨a::js,p.cons a,by rw[z];rfl⟩
 | swap x y r =>
  intro l e;obtain⟨a,r1,rfl,rfl,e2⟩:=Jj.mp e.symm;obtain⟨b,r2,rfl,rfl,rfl⟩:=Jj.mp e2;exact⟨b::a::r2,List.Perm.swap a b r2,rfl⟩
 | trans _ _ ih1 ih2 =>
  intro l e;obtain⟨j2,p2,e2⟩:=ih2 e;obtain⟨j1,p1,e1⟩:=ih1 e2;exact⟨j1,p1.trans p2,e1⟩
section
variable{prog:Program}{w:World}{A:Around}{E:Value->Shared->Prop}{s:Shared}
theorem yN{a:Addr}{vs:List Value}{n:Nat}{κ:SortKind}{key:Nat->Int}{P:PySem.Fin->Shared->Prop}(ho:s.heap.get? a=some (seqObj "list" vs.toArray n))(h2:2<=vs.length)(hz:vs.length<4096)
  (hd:∀i j,i<vs.length->j<vs.length->vs.getD i Value.none=vs.getD j Value.none->key i=key j)
  (hk:∀(s1:Shared)(Q:SortKind->Shared->Prop),(∀b o,b≠a->s.heap.get? b=some o->s1.heap.get? b=some o)->Q κ s1->wpAny (model prog w) A (keyKind' vs.toArray) Q E s1)
  (hc:∀(s1:Shared) i j (E:Value->Shared->Prop) C,(∀b o,b≠a->s.heap.get? b=some o->s1.heap.get? b=some o)->i<vs.length->j<vs.length->C (decide (key i<key j)) s1->wpAny (model prog w) A (keyLt' κ (vs.getD i Value.none) (vs.getD j Value.none)) C E s1)
  (h:∀js:List Nat,js.Perm (List.range vs.length)->(js.map key).Pairwise (·<=·)->P (.done (.ret .none)) {s with heap:=sortedHeap s.heap a vs (js.map fun i=>vs.getD i Value.none).toArray}) :
  wpAny (model prog w) A (Builtin.«list.sort» ⟨[.ref a],[]⟩) P E s:=by
 have ha:a<s.heap.objs.size:=G8 ho;rw[list_sort_plain];refine Gn (listItems_at ho rfl (Gn (listUpdate_at ho rfl ?_ (by rw[Gx,Ie];omega) (Hu _))));obtain⟨e1,g1⟩:∃e1,(s.heap.update a (Obj.mapSeq fun _=>(#[]:Array Value))).get? a=some (seqObj "list" #[] e1):=⟨_,get?_update_seq ho fun _=> #[]⟩;refine Gn (seqEpoch_at g1 rfl (Gn (wpAny_newTuple ?_ (by show vs.length<=_;rw[Ie];omega))));refine Gn (wpAny_newList ?_ (Hu _));refine JX ?_;have g2:(((s.heap.update a (Obj.mapSeq fun _=>(#[]:Array Value))).push (seqObj "tuple" vs.toArray 0)).push (seqObj "list" #[] 0)).get? a=some (seqObj "list" #[] e1):=Gp _ (Gp _ g1)
 have old:∀b o,b≠a->s.heap.get? b=some o->(((s.heap.update a (Obj.mapSeq fun _=>(#[]:Array Value))).push (seqObj "tuple" vs.toArray 0)).push (seqObj "list" #[] 0)).get? b=some o:=fun b o nb e =>
  Gp _ (Gp _ (by rw[Hh _ _ (Jf nb)];exact e))
 show wpAny (model prog w) A _ P E {s with heap:=((s.heap.update a (Obj.mapSeq fun _=>(#[]:Array Value))).push (seqObj "tuple" vs.toArray 0)).push (seqObj "list" #[] 0)};dsimp only;have n2:¬vs.toArray.size<2:=by rw[Gx];omega
 rw[Gq n2,Gq n2];refine Gn (hk _ _ old ?_);have px:∀x:Keyed,(∃i,i<vs.length/\x=(vs.getD i Value.none,vs.getD i Value.none))->∃k:Int,∃i,i<vs.length/\x=(vs.getD i Value.none,vs.getD i Value.none)/\k=key i:=fun x ⟨i,hi,e⟩=>⟨key i,i,hi,e,rfl⟩;obtain⟨kf,hkf⟩:∃kf:Keyed->Int,∀x,(∃i,i<vs.length/\x=(vs.getD i Value.none,vs.getD i Value.none))->∃i,i<vs.length/\x=(vs.getD i Value.none,vs.getD i Value.none)/\kf x=key i:=by
  refine⟨fun x=>open Classical in if h:∃i,i<vs.length/\x=(vs.getD i Value.none,vs.getD i Value.none)then(px x h).choose else 0,fun x h=> ?_⟩;obtain⟨i,hi,e,z⟩:=(px x h).choose_spec;exact⟨i,hi,e,by simp only[dif_pos h];exact z⟩
 have kfi:∀i,i<vs.length->kf (vs.getD i Value.none,vs.getD i Value.none)=key i:=fun i hi=>by
  obtain⟨j,hj,e,z⟩:=hkf _ ⟨i,hi,rfl⟩;rw[z];exact hd j i hj hi (Prod.mk.inj e).1.symm
 have ez:(vs.toArray.zip vs.toArray).toList=(List.range vs.length).map fun i=>(vs.getD i Value.none,vs.getD i Value.none):=by
  rw[Array.toList_zip]
  apply List.ext_getElem (by simp)
  intro i h1 h2;have:i<vs.length:=by simpa using h2
  simp[this]
 refine Gn (Ig (show wpS (model prog w) A E {s with heap:=((s.heap.update a (Obj.mapSeq fun _=>(#[]:Array Value))).push (seqObj "tuple" vs.toArray 0)).push (seqObj "list" #[] 0)} sortRuns' (fun _ st' =>∃js:List Nat,js.Perm (List.range vs.length)/\(js.map key).Pairwise (·<=·)/\(arrOf st').map (·.2)=(js.map fun i=>vs.getD i Value.none).toArray/\failedOf st' =none) (SortSt.mk' κ (vs.toArray.zip vs.toArray) #[] 7 none)from
  Au (kf:=kf) (κ:=κ) (D:=fun x=>∃i,i<vs.length/\x=(vs.getD i Value.none,vs.getD i Value.none)) (a₀:=(vs.toArray.zip vs.toArray).toList) (fun x y dx dy E C q=> ?_) (fun x hx=> ?_) rfl rfl rfl rfl fun st' f1 f2 f3=> ?_) ?_ fun _ _ e=>e)
 ·obtain⟨i,hi,e1,z1⟩:=hkf x dx
  obtain⟨j,hj,e2,z2⟩:=hkf y dy;rw[z1,z2]at q;rw[e1,e2];exact hc _ i j E C old hi hj q
 ·rw[ez]at hx
  obtain⟨i,hi,rfl⟩:=HY.mp hx;exact⟨i,Ib.mp hi,rfl⟩
 ·obtain⟨js,p,z⟩:=vK f2 ez
  refine⟨js,p,?_,?_,f1⟩
  ·rw[z]at f3
   have f3:=Ih.mp f3;rw[Ih];exact f3.imp_of_mem fun{i j} hi hj le=>by
    rw[kfi i (Ib.mp (p.mem_iff.mp hi)),kfi j (Ib.mp (p.mem_iff.mp hj))]at le;exact le
  ·apply Array.toList_inj.mp
   rw[Array.toList_map,z,Iu];rfl
 ·rintro⟨⟨⟩,st'⟩ s' ⟨rfl,js,p,z,hout,hf⟩
  dsimp only;rw[hout];refine Gn (seqEpoch_at g2 rfl ?_);refine Gn (listUpdate_at g2 rfl ?_ (Hu _) (by rw[Gx,Go,p.length_eq,Ht,Ie];omega));rw[hf];simp only[bne_self_eq_false,KP,KG];exact G7 (h js p z)
theorem uX{l:Addr}{vs:List Value}{κ:SortKind}{key:Nat->Int}{Q:Value->Shared->Prop}(hl:s.heap.IsList l vs.toArray)(hz:vs.length<4096)
  (hd:∀i j,i<vs.length->j<vs.length->vs.getD i Value.none=vs.getD j Value.none->key i=key j)
  (hk:2<=vs.length->∀(E:Value->Shared->Prop)(s1:Shared)(Q:SortKind->Shared->Prop),(∀b o,s.heap.get? b=some o->s1.heap.get? b=some o)->Q κ s1->wpAny (model prog w) A.in1.in1 (keyKind' vs.toArray) Q E s1)
  (hc:2<=vs.length->∀(s1:Shared) i j (E:Value->Shared->Prop) C,(∀b o,s.heap.get? b=some o->s1.heap.get? b=some o)->i<vs.length->j<vs.length->C (decide (key i<key j)) s1->wpAny (model prog w) A.in1.in1 (keyLt' κ (vs.getD i Value.none) (vs.getD j Value.none)) C E s1)
  (h:∀js:List Nat,js.Perm (List.range vs.length)->(js.map key).Pairwise (·<=·)->Q (.ref (s.heap.objs.size+1)) {s with heap:=sortedAll s.heap vs (js.map fun i=>vs.getD i Value.none).toArray}) :
  wpAny (model prog w) A (call (.builtin "sorted") [.ref l]) Q E s:=by
 refine Calls.call_function_entry kind_sorted plain_sorted entry_sorted (args_sorted1 _) ?_;unfold Builtin.«sorted»;refine Gn (m:=checkCount "sorted" 1 1 _) (G7 ?_);refine Gn (collect_list hl ?_ (by rw[Ie];omega));refine Gn (wpAny_newList ?_ (by rw[Ie];omega));have hsz:((s.heap.push (seqObj "list" #[] 0)).update s.heap.objs.size (Obj.mapSeq (·++vs.toArray))).objs.size=s.heap.objs.size+1:=by rw[Heap.size_update,size_push']
 have hoL:(((s.heap.push (seqObj "list" #[] 0)).update s.heap.objs.size (Obj.mapSeq (·++vs.toArray))).push (seqObj "list" vs.toArray 0)).get? (s.heap.objs.size+1)=some (seqObj "list" vs.toArray 0):=by
  rw[<- hsz];exact HH _ rfl
 have keep:∀b o,s.heap.get? b=some o->(((s.heap.push (seqObj "list" #[] 0)).update s.heap.objs.size (Obj.mapSeq (·++vs.toArray))).push (seqObj "list" vs.toArray 0)).get? b=some o:=fun b o e=>by
  have lt:b<s.heap.objs.size:=G8 e;refine Gp _ ?_;rw[Hh _ _ (J0 lt)];exact Gp _ e
 show wpAny _ _ _ _ _ {s with heap:=((s.heap.push (seqObj "list" #[] 0)).update s.heap.objs.size (Obj.mapSeq (·++vs.toArray))).push (seqObj "list" vs.toArray 0)};rw[hsz]
 by_cases h2:vs.length<2
 ·refine Gn (JX (IZ slot_list_sort ⟨_,hoL,rfl⟩ entry_list_sort (SW.nt hoL h2 ⟨_,rfl,?_⟩) (args_list_sort _)))
  have q:=h (List.range vs.length) (J5 _) (SW.uo h2);rw[SW.pG h2]at q;exact G7 ⟨_,rfl,q⟩
 ·refine Gn (JX (IZ slot_list_sort ⟨_,hoL,rfl⟩ entry_list_sort (yN (κ:=κ) (key:=key) hoL (by omega) hz hd (fun s1 Q1 k q1=> ?_) (fun s1 i j E C k hi hj c=> ?_) fun js p z=>⟨_,rfl,G7 ⟨_,rfl,h js p z⟩⟩) (args_list_sort _)))
  ·exact hk (by omega) _ s1 Q1 (fun b o e=>k b o (HV (Jg (G8 e))) (keep b o e)) q1
  ·exact hc (by omega) s1 i j E C (fun b o e=>k b o (HV (Jg (G8 e))) (keep b o e)) hi hj c
end
end TS
namespace IR
open PySem PySem.W PyProof.Rows L2
section
variable{prog:Program}{w:World}{A:Around}{E:Value->Shared->Prop}{s:Shared}
theorem vd{b fin:Bool}{Q:Bool->Shared->Prop}{l:List (Value×Value)}{o:Option Bool}(ow:OW .Lt A s l o):∀i,(b&&i==0)=false->Q (o.getD fin) s->KatLex prog w A b fin Q l i s:=by
 induction ow with
 | nil=>exact fun i _ h=>kat_nil h
 | eq he _ ih=>exact fun i _ h=>kat_cons (he prog w _ _ (kat_yes (ih (i+1) (by simp) h)))
 | ne he hl=>exact fun i f h=>kat_cons (he prog w _ _ (kat_no (by rw[f];exact kat_one _ _ (hl prog w _ _ h))))
noncomputable abbrev cl:=qC (fun i j=>decide (i<j)) fun a b=>decide (a<b)
noncomputable def isInt:PV->Bool
 | .int _=>true
 | _=>false
noncomputable def isTu:PV->Bool
 | .tup _=>true
 | _=>false
noncomputable def rR(b:Bool):List PV->Bool
 | x::_=>if b then isInt x else isTu x
 | []=>false
theorem yK{b:Bool}{xs ys:List PV}{n:Nat}{v u:Value}{as bs:List Addr}{t:Bool}{Q:Bool->Shared->Prop}(rv:Reads s.heap v (fR (.tup xs)) as)(ru:Reads s.heap u (fR (.tup ys)) bs)(fx:xs.all (cX n)=true)(fy:ys.all (cX n)=true)(hu:A.units+n<cLine)
  (f1:rR b xs=true) (f2:rR b ys=true) (e:cl xs ys=some t) (h:Q t s):wpAny (model prog w) A (keyLt' (tuples' b) v u) Q E s:=by
 cases rv with
 | @tuple a o vs m _ _ h1 h2 h3 h4 =>
  cases ru with
  | @tuple a' o' ws m' _ _ k1 k2 k3 k4 =>
   refine kat_lt h1 h3 k1 k3 ?_;cases b with
   | false =>
    obtain⟨o,ow,e⟩:=fz rE (A:=A) (n:=n) h4 k4 fx fy hu e;rw[HJ,HJ]at e;subst e;exact vd ow 0 rfl h
   | true =>
    match xs,ys,f1,f2 with
    | .int i::xs,.int j::ys,_,_ =>
     rw[JC,Gv]at fx fy
     generalize hv:vs.toList=vl at h4
     generalize hw:ws.toList=wl at k4
     have zv:vs.size=vl.length:=by rw[<- hv,HJ]
     have zw:ws.size=wl.length:=by rw[<- hw,HJ]
     rw[zv,zw];cases h4 with
     | cons r rs =>
      cases k4 with
      | cons r' rs' =>
       cases r;cases r';have e:(if rf (.int i) (.int j)=true then cl xs ys else some (decide (i<j)))=some t:=e;refine kat_cons (wpAny_eqBool_int (kat_go (fun q=>kat_yes ?_) fun q=>kat_no (oneLt_int ?_)))
       ·have q:i=j:=by simpa using q
        rw[Gu (by show decide (i=j)=true;simpa using q)]at e;obtain⟨o,ow,e⟩:=fz rE (A:=A) (n:=n) rs rs' fx.2 fy.2 hu e;refine vd ow 1 rfl ?_;rw[HC,HC,show∀a b:Nat,decide (a+1<b+1)=decide (a<b)from fun a b=>Jm.mpr (by omega),<-e];exact h
       ·have q:¬i=j:=by simpa using q
        rw[Gq (by show¬decide (i=j)=true;simpa using q)]at e;cases e;exact h
theorem tJ{b:Bool}{vs:List Value}{xss:List (List PV)}{as:List Addr}{Q:SortKind->Shared->Prop}(h1:1<=vs.length)(r:ReadsAll s.heap vs (bV (xss.map .tup)) as)(f:∀xs∈xss,rR b xs=true)(h:Q (tuples' b) s):wpAny (model prog w) A (keyKind' vs.toArray) Q E s:=by
 obtain⟨fs,hf,hl,hi⟩:∃fs,KatTups s.heap vs fs/\fs.length=vs.length/\∀v∈fs,Looks (model prog w) s.heap (typeOf v) (.type (if b then "int" else "tuple")):=by
  clear h1 h
  induction xss generalizing vs as with
  | nil =>
   cases r;exact⟨[],.nil,rfl,fun v hv=>by cases hv⟩
  | cons xs xss ih =>
   cases r with
   | cons r rs =>
    obtain⟨fs,a1,a2,a3⟩:=ih rs fun xs hx=>f xs (Gs _ hx);have f1:=f xs Gw;cases r with
    | @tuple a o us m _ _ k1 k2 k3 k4 =>
     match xs,f1 with
     | x::xs,f1 =>
      generalize hv:us.toList=ul at k4
      cases k4 with
      | @cons v vs' _ _ _ _ r' rs' =>
       refine⟨v::fs,KatTups.cons k1 k2 k3 (by rw[<- HU,hv];rfl) a1,by simp[a2],fun z hz=> ?_⟩
       rcases HE.mp hz with q|q
       ·subst q
        cases b with
        | true =>
         match x,f1 with
         | .int i,_ =>
          cases r';exact .now
        | false =>
         match x,f1 with
         | .tup ys,_ =>
          cases r' with
          | @tuple a' o' us' m' _ _ l1 l2 l3 l4 =>
           have:=(show Looks (model prog w) s.heap (typeOf (.ref a')) o'.cls from(Looks.ld l1).andThen .now);rw[l2]at this;exact this
       ·exact a3 z q
 have q:=kat_kind (M:=model prog w) (A:=A) (E:=E) (Q:=Q) (T:=.type (if b then "int" else "tuple")) hf (by omega) hi (by cases b<;>decide);refine q ?_;cases b<;>exact h
theorem yO(l c:Addr)(xs ys:Array Value)(n n2:Nat)(d1 d2:Option Addr)(sl sl2:Array (Option Value))(k:Nat):∀i:Nat,xs.size-i=k->Meets (Builtin.«list.__eq__.loop» ⟨[.ref l,.ref c,rawInt i,rawInt 0],[]⟩)
  (fun A R s=>s.heap.get? l=some ⟨.type "list",d1,.seq xs n,sl⟩/\s.heap.get? c=some ⟨.type "list",d2,.seq ys n2,sl2⟩ /\
   ∃o:Option Bool,OW .Lt A.in1 s ((xs.toList.drop i).zip (ys.toList.drop i)) o/\R (.ok (.ret (.bool (o.getD (decide (xs.size<ys.size)))))) s):=by
 induction k with
 | zero =>
  intro i hk prog w A R s h;obtain⟨hp,g,d,tk,os⟩:=s;obtain⟨h1,h2,o,ow,hR⟩:=h;have z1:xs[((i:Nat):Int).toNat]? =none:=by simp;omega
  rw[show xs.toList.drop i=[]by simp;omega]at ow;cases ow
  wp_walk using HI h1,HI h2
  rw[z1]
  wp_walk using HI h1,HI h2
  exact hR
 | succ k ih =>
  intro i hk prog w A R s h;obtain⟨hp,g,d,tk,os⟩:=s;obtain⟨h1,h2,o,ow,hR⟩:=h;have hi:i<xs.size:=by omega
  have z1:xs[((i:Nat):Int).toNat]? =some xs[i]:=by simp[hi]
  have dx:xs.toList.drop i=xs[i]::xs.toList.drop (i+1):=by simp[IA,hi]
  by_cases hj:i<ys.size
  ·have z2:ys[((i:Nat):Int).toNat]? =some ys[i]:=by simp[hj]
   have dy:ys.toList.drop i=ys[i]::ys.toList.drop (i+1):=by simp[IA,hj]
   rw[dx,dy,KN]at ow
   wp_walk using HI h1,HI h2
   rw[z1,z2];cases ow with
   | eq he ow =>
    refine Gn (he prog w _ _ ?_);have hc:((i:Int)+1)=((i+1:Nat):Int):=by push_cast;rfl
    wp_walk
    rw[hc]
    exact⟨plainId_quiet KB _,codeAny_builtin MeetsSeq3.entry_eq_loop (by
     rw[Around.under_plainId KB _];exact ih (i+1) (by omega) prog w A R _ ⟨h1,h2,o,ow,hR⟩)⟩
   | ne he hl =>
    refine Gn (he prog w _ _ ?_);rw[Gq (by simp)]
    wp_walk using HI h1,HI h2
    rw[z1,z2];refine Gn (hl prog w _ _ ?_)
    wp_walk
    exact hR
  ·have z2:ys[((i:Nat):Int).toNat]? =none:=by simp;omega
   rw[show ys.toList.drop i=[]by simp;omega,List.zip_nil_right]at ow;cases ow
   wp_walk using HI h1,HI h2
   rw[z1,z2]
   wp_walk using HI h1,HI h2
   exact hR
theorem yP(l c:Addr)(xs ys:Array Value)(n n2:Nat)(d1 d2:Option Addr)(sl sl2:Array (Option Value)):Meets (Builtin.«list.__lt__» ⟨[.ref l,.ref c],[]⟩)
  (fun A R s=>s.heap.get? l=some ⟨.type "list",d1,.seq xs n,sl⟩/\s.heap.get? c=some ⟨.type "list",d2,.seq ys n2,sl2⟩ /\
   ∃o:Option Bool,OW .Lt A.in1 s (xs.toList.zip ys.toList) o/\R (.ok (.ret (.bool (o.getD (decide (xs.size<ys.size)))))) s):=by
 intro prog w A R s h;obtain⟨hp,g,d,tk,os⟩:=s;obtain⟨h1,h2,h⟩:=h;have f3:=AutoSeq1.sub_list_list
 wp_walk using HI h1,HI h2
 exact⟨plainId_quiet KB _,codeAny_builtin MeetsSeq3.entry_eq_loop (by
  rw[Around.under_plainId KB _];exact yO l c xs ys n n2 d1 d2 sl sl2 _ 0 rfl prog w A R _ ⟨h1,h2,h⟩)⟩
theorem yL{xs ys:List PV}{n:Nat}{v u:Value}{as bs:List Addr}{t:Bool}{Q:Bool->Shared->Prop}(rv:Reads s.heap v (fR (.lst xs)) as)(ru:Reads s.heap u (fR (.lst ys)) bs)(fx:xs.all (cX n)=true)(fy:ys.all (cX n)=true)(hu:A.units+n+2<cLine)
  (e:cl xs ys=some t) (h:Q t s):wpAny (model prog w) A (keyLt' oneType' v u) Q E s:=by
 cases rv with
 | @list a o vs m _ _ h1 h2 h3 h4 =>
  cases ru with
  | @list a' o' ws m' _ _ k1 k2 k3 k4 =>
   obtain⟨c1,d1,x1,s1⟩:=o;obtain⟨c2,d2,x2,s2⟩:=o';simp only at h2 h3 k2 k3;subst h2 h3 k2 k3;obtain⟨o,ow,e⟩:=fz rE (A:=A.in1) (n:=n) h4 k4 fx fy (by show A.units+1+n<cLine;omega) e;rw[HJ,HJ]at e;subst e;rw[keyLt'_oneType,oneLt'_eq];simp only[JY];refine Gn (wpAny_cRoomFor (by omega) ?_);exact Gn (wpAny_callSpecialIfBound?_slot (T:="list") ⟨_,h1,rfl⟩ PySem.F.slot_list_lt (Ke PySem.F.slot_list_lt ⟨_,h1,rfl⟩ PySem.F.entry_list_lt (PySem.F.args_list_lt_2 _ _) (yP a a' vs ws m m' d1 d2 s1 s2) ⟨h1,k1,o,ow,JU h⟩))
theorem tK{vs:List Value}{xss:List (List PV)}{as:List Addr}{Q:SortKind->Shared->Prop}(h2:2<=vs.length)(r:ReadsAll s.heap vs (bV (xss.map .lst)) as)(h:Q oneType' s):wpAny (model prog w) A (keyKind' vs.toArray) Q E s:=by
 refine kas_kind (T:=.type "list") h2 (fun v hv=> ?_) (by decide) (by decide) h
 clear h2 h
 induction xss generalizing vs as with
 | nil =>
  cases r;cases hv
 | cons xs xss ih =>
  cases r with
  | cons r rs =>
   rcases HE.mp hv with z|z
   ·subst z
    cases r with
    | @list a o us m _ _ k1 k2 k3 k4 =>
     have:=(show Looks (model prog w) s.heap (typeOf (.ref a)) o.cls from(Looks.ld k1).andThen .now)
     rwa [k2]at this
   ·exact ih rs z
end
noncomputable def i6(ys:List PV)(key:Nat->Int):Prop:=(∀i j,i<ys.length->j<ys.length->fR (ys.getD i .non)=fR (ys.getD j .non)->key i=key j) /\
 (ys.length<2\/∃xss:List (List PV),((∃b,ys=xss.map .tup/\∀xs∈xss,rR b xs=true)\/ys=xss.map .lst)/\∀i j,i<ys.length->j<ys.length->cl (xss.getD i []) (xss.getD j [])=some (decide (key i<key j)))
theorem cC{h:Heap}:∀{ys:List PV}{vs:List Value}{as:List Addr}(i:Nat),ReadsAll h vs (bV ys) as->i<ys.length->∃bs,Reads h (vs.getD i Value.none) (fR (ys.getD i .non)) bs
 | y::ys,_,_,0,.cons r _,_=>⟨_,r⟩
 | y::ys,_,_,i+1,.cons _ rs,h=>by
  obtain⟨bs,z⟩:=cC i rs (by simpa using h);exact⟨bs,by simpa using z⟩
mutual
theorem pK{h h' :Heap}(k:∀b o,h.get? b=some o->h'.get? b=some o):∀{v:Value}{d:PyData}{as:List Addr},Reads h v d as->Reads h' v d as
 | _,_,_,.none=>.none
 | _,_,_,.bool b=>.bool b
 | _,_,_,.int i t=>.int i t
 | _,_,_,.str x t=>.str x t
 | _,_,_,.list a b c d=>.list (k _ _ a) b c (af k d)
 | _,_,_,.tuple a b c d=>.tuple (k _ _ a) b c (af k d)
 | _,_,_,.dict a b c d e=>.dict (k _ _ a) b c (af k d) (af k e)
theorem af{h h' :Heap}(k:∀b o,h.get? b=some o->h'.get? b=some o):∀{vs:List Value}{ds:List PyData}{as:List Addr},ReadsAll h vs ds as->ReadsAll h' vs ds as
 | _,_,_,.nil=>.nil
 | _,_,_,.cons a b=>.cons (pK k a) (af k b)
end
theorem ah{α β:Type}(f:α->β)(l:List α)(d:α)(e:β)(i:Nat)(h:i<l.length):(l.map f).getD i e=f (l.getD i d):=by simp[h]
variable{X:Cx}{Hi:Hp}
theorem cM(hu:X.A.units+64<cLine):bL X (.builtin "sorted") (fun xs H Q=>∃(p:Addr)(us:List V)(ys:List PV)(key:Nat->Int),xs=[.ref p]/\bP X.K H p us/\aJ X.K Hi false ys H us/\ys.all (cX 12)=true/\us.length<4096/\i6 ys key /\
  ∀a (js:List Nat),H a=none->js.Perm (List.range us.length)->(js.map key).Pairwise (·<=·)->Q (.ref a) (L2.upd H a (.lst (js.map fun i=>us.getD i .non)))):=by
 intro pins s σ H xs us Q I r h;obtain⟨p,ws,ys,key,rfl,hq,hp,hf,hz,⟨hd,hk⟩,q⟩:=h;obtain⟨u,rfl,rx⟩:=vals1 r;cases rx;obtain⟨its,r',pl,hz'⟩:=I.list hq;have hlen:=r'.length;have hy:=hp.len;obtain⟨as,ra⟩:=ck I hf hp r';have fat:∀i,i<ys.length->cX 12 (ys.getD i .non)=true:=fun i hi=>by
  have:=HK.mp hf (ys[i]) (Jq hi)
  simpa [hi]using this
 have un:X.A.in1.in1.units=X.A.units+2:=rfl
 obtain⟨κ,hkind,hcmp⟩:∃κ:SortKind,(2<=its.length->∀(E:Value->Shared->Prop)(s1:Shared)(Q:SortKind->Shared->Prop),(∀b o,s.heap.get? b=some o->s1.heap.get? b=some o)->Q κ s1->wpAny (model X.prog X.w) X.A.in1.in1 (keyKind' its.toArray) Q E s1) /\
   (2<=its.length->∀(s1:Shared) i j (E:Value->Shared->Prop) C,(∀b o,s.heap.get? b=some o->s1.heap.get? b=some o)->i<its.length->j<its.length->C (decide (key i<key j)) s1->wpAny (model X.prog X.w) X.A.in1.in1 (keyLt' κ (its.getD i Value.none) (its.getD j Value.none)) C E s1):=by
  rcases hk with hk|⟨xss,hk,hc⟩
  ·exact⟨oneType',fun h2=>absurd h2 (by omega),fun h2=>absurd h2 (by omega)⟩
  rcases hk with⟨b,rfl,fb⟩|rfl
  ·refine⟨tuples' b,fun h2 E s1 Q k q=>tJ (xss:=xss) (by omega) (af k ra) fb q,fun _ s1 i j E C k hi hj c=> ?_⟩
   rw[Go]at hy;obtain⟨b1,r1⟩:=cC i (af k ra) (by rw[Go];omega);obtain⟨b2,r2⟩:=cC j (af k ra) (by rw[Go];omega);have f1:=fat i (by rw[Go];omega);have f2:=fat j (by rw[Go];omega);rw[ah PV.tup xss [] .non _ (by omega)]at r1 f1;rw[ah PV.tup xss [] .non _ (by omega)]at r2 f2;have m1:∀i,i<xss.length->xss.getD i []∈xss:=fun i hi=>by simp[hi]
   exact yK (n:=11) r1 r2 f1 f2 (by omega) (fb _ (m1 i (by omega))) (fb _ (m1 j (by omega))) (hc i j (by rw[Go];omega) (by rw[Go];omega)) c
  ·refine⟨oneType',fun h2 E s1 Q k q=>tK (xss:=xss) h2 (af k ra) q,fun _ s1 i j E C k hi hj c=> ?_⟩
   rw[Go]at hy;obtain⟨b1,r1⟩:=cC i (af k ra) (by rw[Go];omega);obtain⟨b2,r2⟩:=cC j (af k ra) (by rw[Go];omega);have f1:=fat i (by rw[Go];omega);have f2:=fat j (by rw[Go];omega);rw[ah PV.lst xss [] .non _ (by omega)]at r1 f1;rw[ah PV.lst xss [] .non _ (by omega)]at r2 f2;exact yL (n:=11) r1 r2 f1 f2 (by omega) (hc i j (by rw[Go];omega) (by rw[Go];omega)) c
 refine TS.uX (κ:=κ) (key:=key) pl.isList (by omega) (fun i j hi hj e=> ?_) hkind hcmp fun js pm pw=> ?_
 ·obtain⟨b1,r1⟩:=cC i ra (by omega)
  obtain⟨b2,r2⟩:=cC j ra (by omega);rw[e]at r1;exact hd i j (by omega) (by omega) (PySem.Reads.unique r1 _ _ r2).1
 obtain⟨c,hc'⟩:=sortedAll_at s.heap its (js.map fun i=>its.getD i Value.none).toArray;rw[<- hlen]at pm;refine⟨.ref (s.heap.objs.size+1),_,I.laid (t' :=s.toks) (o:=.lst (js.map fun i=>ws.getD i .non)) (fun b o z=>sortedAll_old z) (Nat.le_succ _) ?_,rfl,q _ js (I.hok.fresh (Nat.le_succ _)) pm pw⟩;refine⟨?_,js.map fun i=>its.getD i Value.none,c,aO.pick r' fun j hj=>Ib.mp (pm.mem_iff.mp hj),by simpa [seqObj]using hc'⟩;rw[Go,pm.length_eq,Ht,Ie];omega
end IR
namespace IR
open PySem PySem.Spec PyProof.Rows L2
section
variable{X:Cx}{Hi:Hp}
end
section
variable{X:Cx}{Hi:Hp}{τ:En}
theorem wE{a b:PV}{t:Bool}{H H' :Hp}{u v:V}(h:eqs a b=some t)(ha:Rp X.K Hi false a H u)(hb:Rp X.K Hi false b H' v):Aq u v=true/\decide (u=v)=t:=by
  cases a<;>cases b<;>first
    | exact absurd (show(none:Option Bool)=some t from h) (by intro z;cases z)
    | (have e:=HM (show some _=some t from h)
       subst e
       first
       | rw[Rp.int.mp ha]|rw[Rp.str.mp ha]|rw[Rp.bl.mp ha]|rw[Rp.non.mp ha]
       first
       | rw[Rp.int.mp hb]|rw[Rp.str.mp hb]|rw[Rp.bl.mp hb]|rw[Rp.non.mp hb]
       exact⟨rfl,by simp⟩)
theorem BZ{a:PV}{H:Hp}{u:V}(ha:Rp X.K Hi false a H u)(h:∀z,a≠z\/z≠PV.non):u≠.non:=by
 intro e;subst e;cases a with
 | non=>rcases h .non with z|z<;>exact z rfl
 | bl b=>cases Rp.bl.mp ha
 | int b=>cases Rp.int.mp ha
 | str b=>cases Rp.str.mp ha
 | lst xs=>obtain⟨p,us,z,_⟩:=Rp.lst.mp ha;cases z
 | tup xs=>obtain⟨p,us,z,_⟩:=Rp.tup.mp ha;cases z
 | dK ks vs=>unfold Rp at ha;obtain⟨p,us,z,_⟩:=ha;cases z
 | dT ks vs=>unfold Rp at ha;obtain⟨p,us,z,_⟩:=ha;cases z
theorem oX(hun:X.A.units+64<cLine){op:CmpOp}{x y:RV}{t:Bool}(h:bN op x.val y.val=some t):∃rr:R2,du X (compareOp op) rr /\
  ∀(O:List Addr)(σ:L2.St)(H H2:Hp)(u v:V)(Q:VK),ag X.K Hi O τ σ H->aB H H2->aa X.K Hi O H H2 x u->aa X.K Hi O H H2 y v->Q (.bl t) H2->rr u v H2 Q:=by
 cases op with
 | Lt =>
  have h:wT x.val y.val=some t:=h;unfold wT at h
  split at h
  case h_1 i j e1 e2=>cases h;exact⟨_,Ez,fun O σ H H2 u v Q R s ru rv q=>⟨i,j,ru.int R s e1,rv.int R s e2,q⟩⟩
  case h_2 xs ys e1 e2 =>
   unfold ltT at h
   split at h
   ·rename_i c
    rw[Gv]at c;exact⟨_,vS (Hi:=Hi) hun,fun O σ H H2 u v Q R s ru rv q=>⟨_,_,t,c.1,c.2,by have z:=ru.val R s;rw[e1]at z;exact z,by have z:=rv.val R s;rw[e2]at z;exact z,h,q⟩⟩
   ·cases h
  case h_3=>cases h
 | LtE =>
  have h:qA x.val y.val=some t:=h;unfold qA at h
  split at h
  case h_1 i j e1 e2=>cases h;exact⟨_,FA,fun O σ H H2 u v Q R s ru rv q=>⟨i,j,ru.int R s e1,rv.int R s e2,q⟩⟩
  case h_2=>cases h
 | Gt =>
  have h:wV x.val y.val=some t:=h;unfold wV at h
  split at h
  case h_1 i j e1 e2=>cases h;exact⟨_,FC,fun O σ H H2 u v Q R s ru rv q=>⟨i,j,ru.int R s e1,rv.int R s e2,q⟩⟩
  case h_2=>cases h
 | GtE =>
  have h:qB x.val y.val=some t:=h;unfold qB at h
  split at h
  case h_1 i j e1 e2=>cases h;exact⟨_,FE,fun O σ H H2 u v Q R s ru rv q=>⟨i,j,ru.int R s e1,rv.int R s e2,q⟩⟩
  case h_2=>cases h
 | Eq =>
  have h:AA x.val y.val=some t:=h;unfold AA at h
  split at h
  ·rename_i z
   cases h;refine⟨_,FF,fun O σ H H2 u v Q R s ru rv q=> ?_⟩;obtain⟨z1,z2⟩:=wE z (ru.val R s) (rv.val R s);exact⟨z1,by rw[z2];exact q⟩
  ·split at h
   ·rename_i c
    rw[Gv]at c;cases h;exact⟨_,vV (Hi:=Hi) hun,fun O σ H H2 u v Q R s ru rv q=>⟨_,_,c.1,c.2,ru.val R s,rv.val R s,q⟩⟩
   ·cases h
 | NotEq =>
  have h:(AA x.val y.val).map (!·)=some t:=h;obtain⟨k,e,rfl⟩:∃k,AA x.val y.val=some k/\t= !k:=by
   cases e:AA x.val y.val with
   | none=>rw[e]at h;cases h
   | some k=>rw[e]at h;cases h;exact⟨k,rfl,rfl⟩
  unfold AA at e
  split at e
  ·rename_i z
   cases e;refine⟨_,Ey,fun O σ H H2 u v Q R s ru rv q=> ?_⟩;obtain⟨z1,z2⟩:=wE z (ru.val R s) (rv.val R s);exact⟨z1,by rw[z2];exact q⟩
  ·split at e
   ·rename_i c
    rw[Gv]at c;cases e;exact⟨_,BM (Hi:=Hi) hun,fun O σ H H2 u v Q R s ru rv q=>⟨_,_,c.1,c.2,ru.val R s,rv.val R s,q⟩⟩
   ·cases e
 | Is =>
  have h:wU x.val y.val=some t:=h;unfold wU at h
  split at h
  case h_1 e1 e2 =>
   cases h;refine⟨_,vT,fun O σ H H2 u v Q R s ru rv q=> ?_⟩;have z1:=ru.val R s;have z2:=rv.val R s;rw[e1]at z1;rw[e2]at z2;exact⟨Rp.non.mp z2,by rw[Rp.non.mp z1];exact q⟩
  case h_2 e2 ne =>
   cases h;refine⟨_,vT,fun O σ H H2 u v Q R s ru rv q=> ?_⟩;have z2:=rv.val R s;rw[e2]at z2;have n:u≠.non:=BZ (ru.val R s) fun z=>by
    by_cases c:z=.non
    ·left;intro c2;exact ne (c2.trans c)
    ·right;exact c
   exact⟨Rp.non.mp z2,by rw[HS n];exact q⟩
  case h_3 b c e1 e2=>cases h;exact⟨_,BP,fun O σ H H2 u v Q R s ru rv q=>⟨b,c,ru.bl R s e1,rv.bl R s e2,q⟩⟩
  case h_4=>cases h
 | _=>exact absurd (show(none:Option Bool)=some t from h) (by intro z;cases z)
theorem zk{op:CmpOp}{b:Expr}(h:cS b=false):behindInMarks op b=false:=by
 cases b<;>first|rfl|cases h
theorem Cb(hun:X.A.units+64<cLine){a b:Expr}{op:CmpOp}{pos:Pos}{x y:RV}{t:Bool}(ha:aK X Hi τ a x)(hb:aK X Hi τ b y)(hs:cS b=false)(h:bN op x.val y.val=some t):aK X Hi τ (.Compare a [op] [b] pos) (sc (.bl t)):=by
 obtain⟨rr,ho,k⟩:=oX (X:=X) (Hi:=Hi) (τ:=τ) hun h;intro O σ H Q R q;refine we (qu ho ae ae (zk hs)) ?_;refine ha O σ H _ R fun u H1 s1 r1=>hb O σ H1 _ (R.ext s1) fun v H2 s2 r2=> ?_;exact k O σ H H2 u v Q R (s1.trans s2) (r1.ext s2) (r2.back s1) (q _ _ (s1.trans s2) DX)
theorem Ca(hun:X.A.units+64<cLine){a b:Expr}{op:CmpOp}{pos:Pos}{x y:RV}{t:Bool}(ha:aK X Hi τ a x)(hb:aK X Hi τ b y)(hs:cS b=false)(h:bN op x.val y.val=some t):eP X Hi τ (.Compare a [op] [b] pos) t:=by
 obtain⟨rr,ho,k⟩:=oX (X:=X) (Hi:=Hi) (τ:=τ) hun h;intro O σ H Q R q;refine wt (xf ho ae ae (zk hs)) ?_;refine ha O σ H _ R fun u H1 s1 r1=>hb O σ H1 _ (R.ext s1) fun v H2 s2 r2=> ?_;exact k O σ H H2 u v _ R (s1.trans s2) (r1.ext s2) (r2.back s1) ⟨t,rfl,q _ (s1.trans s2)⟩
theorem Be{a:Expr}{pos:Pos}{x:RV}{i:Int}(ha:aK X Hi τ a x)(e:x.val=.int i):aK X Hi τ (.UnaryOp .USub a pos) (sc (.int (-i))):=by
 intro O σ H Q R q;refine we (Es AU ae) ?_;exact ha O σ H _ R fun u H1 s1 r1=>⟨i,r1.int R s1 e,q _ _ s1 uq⟩
theorem BY{a:Expr}{pos:Pos}{x:RV}{b:Bool}(ha:aK X Hi τ a x)(e:x.val=.bl b):aK X Hi τ (.UnaryOp .Not a pos) (sc (.bl !b)):=by
 intro O σ H Q R q;refine we (BG ae) ?_;exact ha O σ H _ R fun u H1 s1 r1=>⟨b,r1.bl R s1 e,q _ _ s1 DX⟩
theorem BU{op:BoolOp}{a:Expr}{pos:Pos}{x:RV}(ha:aK X Hi τ a x):aK X Hi τ (.BoolOp op [a] pos) x:=by
 intro O σ H Q R q;exact we (BF ae) (ha O σ H _ R q)
theorem GW{a b:Expr}{aM:List Expr}{pos:Pos}{x y:RV}(ha:aK X Hi τ a x)(e:x.val=.bl true)(hb:aK X Hi τ (.BoolOp .And (b::aM) pos) y):aK X Hi τ (.BoolOp .And (a::b::aM) pos) y:=by
 intro O σ H Q R q;refine we (vQ ae ae) ?_;exact ha O σ H _ R fun u H1 s1 r1=>⟨true,r1.bl R s1 e,pf (hb O σ H1 _ (R.ext s1) fun w H2 s2 r2=>q w H2 (s1.trans s2) (r2.back s1))⟩
theorem GX{a b:Expr}{aM:List Expr}{pos:Pos}{x:RV}(ha:aK X Hi τ a x)(e:x.val=.bl false):aK X Hi τ (.BoolOp .And (a::b::aM) pos) (sc (.bl false)):=by
 intro O σ H Q R q;refine we (vQ ae ae) ?_;exact ha O σ H _ R fun u H1 s1 r1=>⟨false,r1.bl R s1 e,pi (q _ _ s1 DX)⟩
theorem or_f{a b:Expr}{aM:List Expr}{pos:Pos}{x y:RV}(ha:aK X Hi τ a x)(e:x.val=.bl false)(hb:aK X Hi τ (.BoolOp .Or (b::aM) pos) y):aK X Hi τ (.BoolOp .Or (a::b::aM) pos) y:=by
 intro O σ H Q R q;refine we (zf ae ae) ?_;exact ha O σ H _ R fun u H1 s1 r1=>⟨false,r1.bl R s1 e,pi (hb O σ H1 _ (R.ext s1) fun w H2 s2 r2=>q w H2 (s1.trans s2) (r2.back s1))⟩
theorem or_t{a b:Expr}{aM:List Expr}{pos:Pos}{x:RV}(ha:aK X Hi τ a x)(e:x.val=.bl true):aK X Hi τ (.BoolOp .Or (a::b::aM) pos) (sc (.bl true)):=by
 intro O σ H Q R q;refine we (zf ae ae) ?_;exact ha O σ H _ R fun u H1 s1 r1=>⟨true,r1.bl R s1 e,pf (q _ _ s1 DX)⟩
theorem Bv{c a b:Expr}{pos:Pos}{t:Bool}{r:RV}(hc:eP X Hi τ c t)(h:aK X Hi τ (if t=true then a else b) r):aK X Hi τ (.IfExp c a b pos) r:=by
 intro O σ H Q R q;refine we (vO iX ae ae) ?_;refine hc O σ H _ R fun H1 s1=> ?_;cases t with
 | true=>exact pf ((show aK X Hi τ a r from h) O σ H1 _ (R.ext s1) fun w H2 s2 r2=>q w H2 (s1.trans s2) (r2.back s1))
 | false=>exact pi ((show aK X Hi τ b r from h) O σ H1 _ (R.ext s1) fun w H2 s2 r2=>q w H2 (s1.trans s2) (r2.back s1))
theorem uQ{v:PV}{b:Bool}{H:Hp}{u:V}(h:kq v=some b)(r:Rp X.K Hi false v H u):C0 X.K u H b:=by
 cases v with
 | non=>cases h;rw[Rp.non.mp r];rfl
 | bl c=>cases h;rw[Rp.bl.mp r];rfl
 | int i=>cases h;rw[Rp.int.mp r];rfl
 | str z =>
  have h:(if z.length<=LN then some ((z.length:Int) !=0)else none)=some b:=h
  split at h
  ·rename_i c
   cases h;rw[Rp.str.mp r];exact⟨by rw[cF];exact c,rfl⟩
  ·cases h
 | lst xs =>
  cases h;obtain⟨p,us,rfl,_,l,r⟩:=Rp.lst.mp r;have:=r.len;exact .inl ⟨us,l,by cases xs<;>cases us<;>simp_all⟩
 | tup xs =>
  cases h;obtain⟨p,us,rfl,l,r⟩:=Rp.tup.mp r;have:=r.len;exact .inr (.inl ⟨us,l,by cases xs<;>cases us<;>simp_all⟩)
 | dK ks vs =>
  cases h;unfold Rp at r;obtain⟨p,us,rfl,_,l,z,r⟩:=r;exact .inr (.inr ⟨_,l,by cases ks<;>cases us<;>simp_all⟩)
 | dT ks vs=>cases h
theorem AS{e:Expr}{x:RV}{b:Bool}(he:aK X Hi τ e x)(h:kq x.val=some b)(hp:∀whole,isTrue e X.env whole=(do let v<-whole;standAt e.pos;holding [v] (truthy v))):eP X Hi τ e b:=by
 intro O σ H Q R q;refine wt (ux ae hp) ?_;exact he O σ H _ R fun u H1 s1 r1=>⟨b,uQ h (r1.val R s1),q _ s1⟩
theorem BX{a:Expr}{pos:Pos}{b:Bool}(ha:eP X Hi τ a b):eP X Hi τ (.UnaryOp .Not a pos) !b:=by
 intro O σ H Q R q;exact wt (A6 iX) (ha O σ H _ R fun H1 s1=>q _ s1)
noncomputable def kT(X:Cx)(Hi:Hp)(τ:En)(e:Expr)(b:Bool):Prop:=∀(O:List Addr)(σ:L2.St)(H:Hp)(Q:Bool->Hp->Prop),ag X.K Hi O τ σ H->(∀H',aB H H' ->Q b H') ->
 ∀(whole:Sem Value)(pins:List (Addr×Obj))(s:Shared),Inv X pins σ H s->wpAny (model X.prog X.w) X.A (isTrue e X.env whole) (TP X pins σ Q) X.xe s
theorem El{e:Expr}:PW X e (fun σ H Q=>∀(whole:Sem Value)(pins:List (Addr×Obj))(s:Shared),Inv X pins σ H s->wpAny (model X.prog X.w) X.A (isTrue e X.env whole) (TP X pins σ Q) X.xe s):=fun wh pins s σ H Q I h=>h wh pins s I
theorem kT.tc{e:Expr}{b:Bool}(h:kT X Hi τ e b):eP X Hi τ e b:=fun O σ H Q R q pins s I=>h O σ H Q R q _ pins s I
theorem BS{op:BoolOp}{a:Expr}{pos:Pos}{b:Bool}(ha:eP X Hi τ a b):kT X Hi τ (.BoolOp op [a] pos) b:=by
 intro O σ H Q R q wh pins s I;cases op with
 | And=>exact xb iX wh pins s σ H Q I (ha O σ H Q R q)
 | Or=>exact A0 iX wh pins s σ H Q I (ha O σ H Q R q)
theorem wr{a b:Expr}{aM:List Expr}{pos:Pos}{t u:Bool}(ha:eP X Hi τ a t)(hb:if t=true then kT X Hi τ (.BoolOp .And (b::aM) pos) u else u=false):kT X Hi τ (.BoolOp .And (a::b::aM) pos) u:=by
 intro O σ H Q R q wh pins s I;refine A1 iX El wh pins s σ H Q I ?_;refine ha O σ H _ R fun H1 s1=> ?_;cases t with
 | true=>exact pf ((show kT X Hi τ _ u from hb) O σ H1 _ (R.ext s1) fun H2 s2=>q _ (s1.trans s2))
 | false =>
  have hb:u=false:=hb;subst hb;exact pi (q _ s1)
theorem zh{a b:Expr}{aM:List Expr}{pos:Pos}{t u:Bool}(ha:eP X Hi τ a t)(hb:if t=true then u=true else kT X Hi τ (.BoolOp .Or (b::aM) pos) u):kT X Hi τ (.BoolOp .Or (a::b::aM) pos) u:=by
 intro O σ H Q R q wh pins s I;refine Em iX El wh pins s σ H Q I ?_;refine ha O σ H _ R fun H1 s1=> ?_;cases t with
 | false=>exact pi ((show kT X Hi τ _ u from hb) O σ H1 _ (R.ext s1) fun H2 s2=>q _ (s1.trans s2))
 | true =>
  have hb:u=true:=hb;subst hb;exact pf (q _ s1)
end
end IR
namespace L2
open PySem PySem.Spec PyProof.Rows
section
variable{X:Cx}
inductive Gb(K:W.Frag)(H:Hp):V->Value->Prop where
 | of {x:V} {t:Value} (h:gk K H x t):Gb K H x t
 | lst {a:Addr} {xs:List V} (e:bP K H a xs):Gb K H (.ref a) (.type "list")
 | tup {a:Addr} {xs:List V} (e:ba K H a xs):Gb K H (.ref a) (.type "tuple")
theorem qH:bL X (.builtin "isinstance") (fun xs H Q=>∃x c t b,xs=[x,.ty c]/\Gb X.K H x t/\W.kitOne X.K t (.type c)=some b/\Q (.bl b) H):=by
 intro pins s σ H xs us Q I r h;obtain⟨x,c,t,b,rfl,ty,e,q⟩:=h;obtain⟨u,w',rfl,rx,ry⟩:=vals2 r;cases ry;cases ty with
 | of ty=>exact tP I rx ty e fun tk=>⟨.bl b,H,I.tok _,rfl,q⟩
 | lst l =>
  cases rx;obtain⟨its,r',pl,hz⟩:=I.list l;obtain⟨o,n,h1,h2,_⟩:=pl;exact JS W.kitx_list I.kIn ⟨o,h1,h2⟩ e (fun z=>nomatch z) fun tk=>⟨.bl b,H,I.tok _,rfl,q⟩
 | tup l =>
  cases rx;obtain⟨its,r',pl,hz⟩:=I.tuple l;obtain⟨o,h1,h2,_⟩:=pl;exact JS W.kitx_tuple I.kIn ⟨o,h1,h2⟩ e (fun z=>nomatch z) fun tk=>⟨.bl b,H,I.tok _,rfl,q⟩
end
section
variable{K:W.Frag}
theorem kits:(W.kitOne K (.type "NoneType") (.type "int")=some false/\W.kitOne K (.type "NoneType") (.type "str")=some false/\W.kitOne K (.type "NoneType") (.type "list")=some false/\W.kitOne K (.type "NoneType") (.type "tuple")=some false/\W.kitOne K (.type "NoneType") (.type "bool")=some false) /\
  (W.kitOne K (.type "bool") (.type "int")=some true/\W.kitOne K (.type "bool") (.type "str")=some false/\W.kitOne K (.type "bool") (.type "list")=some false/\W.kitOne K (.type "bool") (.type "tuple")=some false) /\
  (W.kitOne K (.type "int") (.type "bool")=some false/\W.kitOne K (.type "int") (.type "str")=some false/\W.kitOne K (.type "int") (.type "list")=some false/\W.kitOne K (.type "int") (.type "tuple")=some false) /\
  (W.kitOne K (.type "str") (.type "bool")=some false/\W.kitOne K (.type "str") (.type "int")=some false/\W.kitOne K (.type "str") (.type "list")=some false/\W.kitOne K (.type "str") (.type "tuple")=some false) /\
  (W.kitOne K (.type "list") (.type "bool")=some false/\W.kitOne K (.type "list") (.type "int")=some false/\W.kitOne K (.type "list") (.type "str")=some false/\W.kitOne K (.type "list") (.type "tuple")=some false) /\
  (W.kitOne K (.type "tuple") (.type "bool")=some false/\W.kitOne K (.type "tuple") (.type "int")=some false/\W.kitOne K (.type "tuple") (.type "str")=some false/\W.kitOne K (.type "tuple") (.type "list")=some false) /\
  (W.kitOne K (.type "dict") (.type "bool")=some false/\W.kitOne K (.type "dict") (.type "int")=some false/\W.kitOne K (.type "dict") (.type "str")=some false/\W.kitOne K (.type "dict") (.type "list")=some false/\W.kitOne K (.type "dict") (.type "tuple")=some false):=by
 refine⟨⟨?_,?_,?_,?_,?_⟩,⟨?_,?_,?_,?_⟩,⟨?_,?_,?_,?_⟩,⟨?_,?_,?_,?_⟩,⟨?_,?_,?_,?_⟩,⟨?_,?_,?_,?_⟩,⟨?_,?_,?_,?_,?_⟩⟩<;>kernel_rfl
end
end L2
namespace IR
open PySem PySem.Spec PyProof.Rows L2
section
variable{X:Cx}{Hi:Hp}{τ:En}
theorem aS{e:Expr}{es:List Expr}{env:Env}(h:isStar e=false):starEach (e::es) env=(false,eval e env)::starEach es env:=by
 cases e<;>first|rfl|cases h
theorem eU{env:Env}{pos:Pos}:∀{es:List Expr},(∀e∈es,isStar e=false)->(backTo pos (starEach es env)).any (·.1)=false
 | [],_=>rfl
 | e::es,h=>by
  rw[aS (h e Gw)];show(false||(backTo pos (starEach es env)).any (·.1))=false;rw[eU fun x hx=>h x (Gs _ hx)];rfl
theorem Cw:mx X Hi τ [] []:=by
 intro O σ H Q R q;exact wa az (q _ _ (aB.refl _) rfl)
theorem zE{e:Expr}{es:List Expr}{r:RV}{rs:List RV}(he:aK X Hi τ e r)(hs:isStar e=false)(hr:mx X Hi τ es rs):mx X Hi τ (e::es) (r::rs):=by
 intro O σ H Q R q;refine wa (aN ae nR (aS hs)) ?_;refine he O σ H _ R fun u H1 s1 r1=>hr O σ H1 _ (R.ext s1) fun us H2 s2 r2=> ?_;exact q _ _ (s1.trans s2) ⟨u,us,rfl,r1.ext s2,r2.back s1⟩
theorem Bj{es:List Expr}{pos:Pos}{rs:List RV}{vs:List PV}{n:Bool}{r:RV}(h:mx X Hi τ es rs)(hk:keeps rs=some (vs,n))(hn:kK vs n=some r):aK X Hi τ (.List es pos) r:=by
 obtain⟨hz,rfl⟩:=qy hn;intro O σ H Q R q;refine we (pP nR) ?_;refine h O σ H _ R fun us H1 s1 r1=> ?_;have k:=r1.keeps R s1 hk;have hl:=k.len;exact⟨by rw[cF,<-hl];exact hz,fun p hp=>q _ _ (s1.trans (aT hp _)) (b9 s1 hp k)⟩
theorem AW{es:List Expr}{m:Nat}{pos:Pos}{rs:List RV}{vs:List PV}{n:Bool}{r:RV}(h:mx X Hi τ es rs)(hk:keeps rs=some (vs,n))(hn:iY vs n=some r):aK X Hi τ (.Tuple es m pos) r:=by
 obtain⟨hz,rfl⟩:=mK hn;intro O σ H Q R q;refine we (vL nR) ?_;refine h O σ H _ R fun us H1 s1 r1=> ?_;have k:=r1.keeps R s1 hk;have hl:=k.len;exact⟨by rw[cF,<-hl];exact hz,fun p hp=>q _ _ (s1.trans (aT hp _)) (Rp.tup.mpr ⟨p,us,rfl,ba.of (iu R s1 hp),k.mono (aH (aT hp _))⟩)⟩
noncomputable def gH(O:List Addr)(G:Hp):Prop:=∀l∈O,(∀xs,G l≠some (.tup xs))/\∀o xs,G l≠some (.frz o (.tup xs))
theorem Mo.noTup{o:HO}{G:Hp}{l:Addr}(m:Mo o)(e:G l=some o):(∀xs,G l≠some (.tup xs))/\∀o xs,G l≠some (.frz o (.tup xs)):=by
 obtain⟨b,us,m⟩:=m;refine⟨fun xs z=> ?_,fun o xs z=> ?_⟩<;>(rw[e]at z;cases z;cases b<;>first|cases m.1|cases m)
theorem gH.del{O:List Addr}{G:Hp}{p:Addr}(h:gH O G):gH O (IR.del G p):=fun l hl=>by
 refine⟨fun xs e=> ?_,fun o xs e=> ?_⟩
 ·unfold IR.del at e
  split at e
  ·cases e
  ·exact(h l hl).1 xs e
 ·unfold IR.del at e
  split at e
  ·cases e
  ·exact(h l hl).2 o xs e
theorem gH.tups{O:List Addr}{G:Hp}(h:gH O G):qP G (aQ G O):=by
 refine⟨fun b xs e=> ?_,fun b o xs e=> ?_⟩
 ·unfold aQ
  rw[Gq fun z=>(h b z).1 xs e];exact e
 ·unfold aQ
  rw[Gq fun z=>(h b z).2 o xs e];exact e
mutual
theorem Rp.avoid{K:W.Frag}{Hj:Hp}{O:List Addr}(hO:∀l∈O,Hj l≠none):∀{v:PV}{G:Hp}{u:V},gH O G->Rp K Hj true v G u->Rp K Hj true v (aQ G O) u
 | .non,_,_,_,h=>by unfold Rp at h ⊢;exact h
 | .bl _,_,_,_,h=>by unfold Rp at h ⊢;exact h
 | .int _,_,_,_,h=>by unfold Rp at h ⊢;exact h
 | .str _,_,_,_,h=>by unfold Rp at h ⊢;exact h
 | .lst xs,G,_,t,h=>by
  unfold Rp at h ⊢;obtain⟨p,us,e,q,l,r⟩:=h;obtain⟨q1,q2⟩:=q rfl;have q3:aQ G O p=some (.lst us):=by
   unfold aQ;rw[Gq fun z=>hO p z q1];exact q2
  exact⟨p,us,e,fun _=>⟨q1,q3⟩,bP.of q3,by rw[<- ft];exact aJ.avoid hO t.del r⟩
 | .tup xs,_,_,t,h=>by
  unfold Rp at h ⊢;obtain⟨p,us,e,l,r⟩:=h;exact⟨p,us,e,t.tups.at l,aJ.avoid hO t r⟩
 | .dK ks vs,G,_,t,h=>by
  unfold Rp at h ⊢;obtain⟨p,us,e,q,l,z,r⟩:=h;refine⟨p,us,e,q,?_,z,by rw[<- ft];exact aJ.avoid hO t.del r⟩;unfold aQ;rw[Gq fun z=>hO p z (q rfl)];exact l
 | .dT ks vs,G,_,t,h=>by
  unfold Rp at h ⊢;obtain⟨p,us,e,q,l,z,r⟩:=h;refine⟨p,us,e,q,?_,z,by rw[<- ft];exact aJ.avoid hO t.del r⟩;unfold aQ;rw[Gq fun z=>hO p z (q rfl)];exact l
theorem aJ.avoid{K:W.Frag}{Hj:Hp}{O:List Addr}(hO:∀l∈O,Hj l≠none):∀{xs:List PV}{G:Hp}{us:List V},gH O G->aJ K Hj true xs G us->aJ K Hj true xs (aQ G O) us
 | [],_,_,_,h=>by unfold aJ at h ⊢;exact h
 | x::xs,_,_,t,h=>by
  unfold aJ at h ⊢;obtain⟨u,r,e,a,b⟩:=h;exact⟨u,r,e,Rp.avoid hO t a,aJ.avoid hO t b⟩
end
theorem xK{O:List Addr}{σ:L2.St}{H H1 H' :Hp}{v:PV}{u:V}(R:ag X.K Hi O τ σ H)(s1:aB H H1)(s:aB H1 H')(h:Rp X.K H1 true v H' u):aa X.K Hi O H H' (iV v) u:=by
 have e1:∀p,H1 p=none->Hi p=none:=fun p hp=>R.same.free (s1.free hp);have hO:∀l∈O,H1 l≠none:=fun l hl z=>by
  obtain⟨us,e,_⟩:=(R.own l hl).2;rw[s1 _ _ e]at z;cases z
 have hT:gH O H' :=fun l hl=>by
  obtain⟨us,e,mo⟩:=(R.own l hl).2;have e' :=s _ _ (s1 _ _ e);exact mo.noTup e'
 have gen:Rp X.K Hi true v (aQ H' O) u:=(Rp.avoid hO hT h).entry fun _=>e1;cases v with
 | lst xs =>
  obtain⟨p,us,e,q,l,r⟩:=Rp.lst.mp h;obtain⟨q1,q2⟩:=q rfl;exact⟨p,us,e,s1.free q1,q2,(aJ.avoid hO hT.del r).entry fun _=>e1⟩
 | _=>exact gen
theorem call_ok{cd:Nat->List PV->Option PV}{ct:Ct}(C:bQ cd X ct){x:Str}{f:Nat}{e:Expr}{es:List Expr}{p pos:Pos}{rs:List RV}{v:PV}(hx:pS x=false)(hg:ct.S.lookup x=some .globalImplicit)(hf:ct.F.lookup x=some f)
  (hs:∀a∈e::es,isStar a=false) (ha:mx X Hi τ (e::es) rs) (hv:cd f (rs.map RV.val)=some v):aK X Hi τ (.Call (.Name x p) (e::es) [] pos) (iV v):=by
 intro O σ H Q R q;obtain⟨k,a,fd,ps,F,hr,hm,kp,bd⟩:=C.fns x f hf;have g:Gl X x:=by
  show X.env.scope.names.lookup x=_;rw[C.S];exact hg
 refine we (qv F hr g hm kp bd .nil Ew nR (bh hx).1 (aS (hs e Gw)) (eU fun b hb=>hs b (Gs _ hb))) ?_;refine ha O σ H _ R fun us H1 s1 r1=> ?_;have vs:=r1.vals R s1;rw[ID];exact⟨_,v,vs.entry (fun z=>by cases z),hv,fun u H' s' ru=>q _ _ (s1.trans s') (xK R s1 s' ru)⟩
theorem fB{cd:Nat->List PV->Option PV}{ct:Ct}(C:bQ cd X ct){x:Str}(h:own ct x=true):Gl X x/\X.mg x=none:=by
 unfold own at h;rw[Gv]at h;refine⟨?_,C.bl x h.1⟩;show X.env.scope.names.lookup x=_;rw[C.S]
 simpa using h.2
theorem eO{cd:Nat->List PV->Option PV}{ct:Ct}(C:bQ cd X ct){x:Str}{id:String}{a:Expr}{p pos:Pos}{ra r:RV}{rr:List V->Hp->VK->Prop}(hc:bL X (.builtin id) rr)(ho:own ct x=true)(hb:bootBuiltins x=some (.builtin id))(hx:pS x=false)(hs:isStar a=false)(ha:aK X Hi τ a ra)
  (k:∀(O:List Addr)(σ:L2.St)(H H2:Hp)(u:V)(Q:VK),ag X.K Hi O τ σ H->aB H H2->aa X.K Hi O H H2 ra u->(∀w H3,aB H2 H3->aa X.K Hi O H H3 r w->Q w H3)->rr [u] H2 Q):aK X Hi τ (.Call (.Name x p) [a] [] pos) r:=by
 intro O σ H Q R q;obtain⟨g,hm⟩:=fB C ho;refine we (cR hc g hm hb (aN ae az (aS hs)) (bh hx).2.2 (bh hx).1 (aS hs) rfl) ?_;exact ha O σ H _ R fun u H1 s1 r1=>k O σ H H1 u Q R s1 r1 fun w H3 s3 r3=>q w H3 (s1.trans s3) r3
theorem qi{cd:Nat->List PV->Option PV}{ct:Ct}(C:bQ cd X ct){x:Str}{id:String}{a:Expr}{p pos:Pos}{ra r:RV}{rr:List V->Hp->VK->Prop}(hc:bL X (.type id) rr)(ho:own ct x=true)(hb:bootBuiltins x=some (.type id))(hx:pS x=false)(hs:isStar a=false)(ha:aK X Hi τ a ra)
  (k:∀(O:List Addr)(σ:L2.St)(H H2:Hp)(u:V)(Q:VK),ag X.K Hi O τ σ H->aB H H2->aa X.K Hi O H H2 ra u->(∀w H3,aB H2 H3->aa X.K Hi O H H3 r w->Q w H3)->rr [u] H2 Q):aK X Hi τ (.Call (.Name x p) [a] [] pos) r:=by
 intro O σ H Q R q;obtain⟨g,hm⟩:=fB C ho;refine we (sm hc g hm hb (aN ae az (aS hs)) (bh hx).2.2 (bh hx).1 (aS hs) rfl) ?_;exact ha O σ H _ R fun u H1 s1 r1=>k O σ H H1 u Q R s1 r1 fun w H3 s3 r3=>q w H3 (s1.trans s3) r3
theorem b2_go{cd:Nat->List PV->Option PV}{ct:Ct}(C:bQ cd X ct){x:Str}{id:String}{a b:Expr}{p pos:Pos}{ra rb r:RV}{rr:List V->Hp->VK->Prop}(hc:bL X (.builtin id) rr)(ho:own ct x=true)(hb:bootBuiltins x=some (.builtin id))(hx:pS x=false)(hs:isStar a=false)(hs2:isStar b=false)(ha:aK X Hi τ a ra)(hb' :aK X Hi τ b rb)
  (k:∀(O:List Addr)(σ:L2.St)(H H2:Hp)(u v:V)(Q:VK),ag X.K Hi O τ σ H->aB H H2->aa X.K Hi O H H2 ra u->aa X.K Hi O H H2 rb v->(∀w H3,aB H2 H3->aa X.K Hi O H H3 r w->Q w H3)->rr [u,v] H2 Q):aK X Hi τ (.Call (.Name x p) [a,b] [] pos) r:=by
 intro O σ H Q R q;obtain⟨g,hm⟩:=fB C ho;refine we (cR hc g hm hb (aN ae (aN ae az (aS hs2)) (aS hs)) (bh hx).2.2 (bh hx).1 (aS hs) (eU fun c hc=>by simp at hc;subst hc;exact hs2)) ?_;exact ha O σ H _ R fun u H1 s1 r1=>hb' O σ H1 _ (R.ext s1) fun v H2 s2 r2=>k O σ H H2 u v Q R (s1.trans s2) (r1.ext s2) (r2.back s1) fun w H3 s3 r3=>q w H3 (s1.trans (s2.trans s3)) r3
theorem oh:∀{xs:List PV}{bs:List Bool}{H:Hp}{us:List V},lV xs=some bs->aJ X.K Hi false xs H us->us=bs.map V.bl
 | [],bs,_,_,h,r=>by cases h;unfold aJ at r;exact r
 | x::xs,bs,_,_,h,r=>by
  unfold aJ at r;obtain⟨u,ws,rfl,a,b⟩:=r;cases x with
  | bl c =>
   have h:(lV xs).map (c::·)=some bs:=h;cases e:lV xs with
   | none=>rw[e]at h;cases h
   | some ds =>
    rw[e]at h;cases h;rw[Rp.bl.mp a,oh e b];rfl
  | _=>cases h
theorem gY:∀{xs:List PV}{bs:List Int}{H:Hp}{us:List V},bE xs=some bs->aJ X.K Hi false xs H us->us=bs.map V.int
 | [],bs,_,_,h,r=>by cases h;unfold aJ at r;exact r
 | x::xs,bs,_,_,h,r=>by
  unfold aJ at r;obtain⟨u,ws,rfl,a,b⟩:=r;cases x with
  | int c =>
   have h:(bE xs).map (c::·)=some bs:=h;cases e:bE xs with
   | none=>rw[e]at h;cases h
   | some ds =>
    rw[e]at h;cases h;rw[Rp.int.mp a,gY e b];rfl
  | _=>cases h
theorem Bw{t:String}{v:PV}{b:Bool}{H:Hp}{u:V}(h:eW t v=some b)(r:Rp X.K Hi false v H u):∃c,Gb X.K H u c/\W.kitOne X.K c (.type t)=some b:=by
 obtain⟨⟨n1,n2,n3,n4,n5⟩,⟨b1,b2,b3,b4⟩,⟨i1,i2,i3,i4⟩,⟨s1,s2,s3,s4⟩,⟨l1,l2,l3,l4⟩,⟨t1,t2,t3,t4⟩,⟨d1,d2,d3,d4,d5⟩⟩:= @kits X.K;cases v with
 | non =>
  rw[Rp.non.mp r];refine⟨_,.of .non,?_⟩;simp only[eW]at h
  split at h
  ·rename_i c
   cases h
   rcases c with rfl|rfl|rfl|rfl|rfl<;>assumption
  ·cases h
 | bl x =>
  rw[Rp.bl.mp r];refine⟨_,.of (.bl x),?_⟩;simp only[eW]at h
  split at h
  ·rename_i c
   cases h
   rcases c with rfl|rfl
   ·assumption
   ·exact eF _
  ·split at h
   ·rename_i c
    cases h
    rcases c with rfl|rfl|rfl<;>assumption
   ·cases h
 | int x =>
  rw[Rp.int.mp r];refine⟨_,.of (.int x),?_⟩;simp only[eW]at h
  split at h
  ·rename_i c
   cases h;subst c;exact eF _
  ·split at h
   ·rename_i c
    cases h
    rcases c with rfl|rfl|rfl|rfl<;>assumption
   ·cases h
 | str x =>
  rw[Rp.str.mp r];refine⟨_,.of (.str x),?_⟩;simp only[eW]at h
  split at h
  ·rename_i c
   cases h;subst c;exact eF _
  ·split at h
   ·rename_i c
    cases h
    rcases c with rfl|rfl|rfl|rfl<;>assumption
   ·cases h
 | lst x =>
  obtain⟨p,us,rfl,_,l,_⟩:=Rp.lst.mp r;refine⟨_,.lst l,?_⟩;simp only[eW]at h
  split at h
  ·rename_i c
   cases h;subst c;exact eF _
  ·split at h
   ·rename_i c
    cases h
    rcases c with rfl|rfl|rfl|rfl<;>assumption
   ·cases h
 | tup x =>
  obtain⟨p,us,rfl,l,_⟩:=Rp.tup.mp r;refine⟨_,.tup l,?_⟩;simp only[eW]at h
  split at h
  ·rename_i c
   cases h;subst c;exact eF _
  ·split at h
   ·rename_i c
    cases h
    rcases c with rfl|rfl|rfl|rfl<;>assumption
   ·cases h
 | dK ks vs =>
  unfold Rp at r;obtain⟨p,us,rfl,_,l,_⟩:=r;refine⟨_,.of (.dK l),?_⟩;simp only[eW]at h
  split at h
  ·rename_i c
   cases h
   rcases c with rfl|rfl|rfl|rfl|rfl<;>assumption
  ·cases h
 | dT ks vs=>cases h
theorem yx{t:Str}{ty:String}(h:uL t=some ty):bootBuiltins t=some (.type ty)/\pS t=false:=by
 unfold uL at h
 split at h
 ·rename_i c;cases h;rw[HN c];exact⟨PyProof.Rows.boot_int,by decide⟩
 split at h
 ·rename_i c;cases h;rw[HN c];exact⟨PyProof.Rows.boot_bool,by decide⟩
 split at h
 ·rename_i c;cases h;rw[HN c];exact⟨PyProof.Rows.boot_str,by decide⟩
 split at h
 ·rename_i c;cases h;rw[HN c];exact⟨PyProof.Rows.boot_list,by decide⟩
 split at h
 ·rename_i c;cases h;rw[HN c];exact⟨PyProof.Rows.boot_tuple,by decide⟩
 cases h
theorem isin_ok{cd:Nat->List PV->Option PV}{ct:Ct}(C:bQ cd X ct){t:Str}{ty:String}{a:Expr}{p pt pos:Pos}{ra:RV}{b:Bool}(ho:own ct ("isinstance":Str)=true)(ht:uL t=some ty)(hot:own ct t=true)(hs:isStar a=false)(ha:aK X Hi τ a ra)(h:eW ty ra.val=some b) :
  aK X Hi τ (.Call (.Name "isinstance" p) [a,.Name t pt] [] pos) (sc (.bl b)):=by
 intro O σ H Q R q;obtain⟨g,hm⟩:=fB C ho;obtain⟨g2,hm2⟩:=fB C hot;obtain⟨hb,hod⟩:=yx ht;refine we (cR qH g hm boot_isinstance (aN ae (aN (ze g2 hm2 hb (bh hod).2.2 (bh hod).1) az) (aS hs)) (by decide) (by decide) (aS hs) rfl) ?_;refine ha O σ H _ R fun u H1 s1 r1=> ?_;obtain⟨c,ty',k⟩:=Bw h (r1.val R s1);exact⟨u,ty,c,b,rfl,ty',k,q _ _ s1 DX⟩
end
end IR
namespace L2
open PySem PySem.Spec PyProof.Rows
end L2
namespace IR
open PySem L2
section
variable{X:Cx}{Hi:Hp}{τ:En}
theorem xm{x:PV}{q:Int×Int}(h:vA x=some q):x=bZ q:=by
 cases x with
 | tup xs =>
  have h:((bE xs).bind fun ns=>match ns with
   | [a,b]=>some (a,b)
   | _=>none)=some q:=h
  cases e:bE xs with
  | none=>rw[e]at h;cases h
  | some ns =>
   rw[e]at h
   match ns,h with
   | [a,b],h =>
    cases h;have:xs=[PV.int a,PV.int b]:=by
     have key:∀(xs:List PV)(ns:List Int),bE xs=some ns->xs=ns.map PV.int:=by
      intro xs
      induction xs with
      | nil=>intro ns z;cases z;rfl
      | cons y r ih =>
       intro ns z;cases y with
       | int i =>
        have z:(bE r).map (i::·)=some ns:=z;cases e2:bE r with
        | none=>rw[e2]at z;cases z
        | some m=>rw[e2]at z;cases z;rw[ih m e2];rfl
       | _=>cases z
     exact key xs _ e
    subst this;rfl
 | _=>cases h
theorem fg:∀{xs:List PV}{ps:List (Int×Int)},cG xs=some ps->xs=ps.map bZ
 | [],_,h=>by cases h;rfl
 | x::r,ps,h=>by
  have h:((vA x).bind fun q=>(cG r).map (q::·))=some ps:=h;cases e:vA x with
  | none=>rw[e]at h;cases h
  | some q =>
   rw[e]at h;have h:(cG r).map (q::·)=some ps:=h;cases e2:cG r with
   | none=>rw[e2]at h;cases h
   | some m =>
    rw[e2]at h;cases h;rw[xm e,fg e2];rfl
theorem aJ.pick{n:Bool}{H:Hp}{xs:List PV}{us:List V}(r:aJ X.K Hi n xs H us):∀{js:List Nat},(∀j∈js,j<us.length)->aJ X.K Hi n (js.map fun i=>xs.getD i .non) H (js.map fun i=>us.getD i .non)
 | [],_=>.nil
 | j::js,h=>by
  have hj:=h j Gw;obtain⟨x,hx,rx⟩:=r.at' (i:=j) (u:=us[j]) (HA hj);refine .cons ?_ (aJ.pick r fun i hi=>h i (Gs _ hi));dsimp only;rw[Hb,hx,Hb,HA hj];exact rx
theorem jB(ps:List (Int×Int)):(jC ps).Perm ps:=KJ _ _
theorem ud(ps:List (Int×Int)):(jC ps).Pairwise fun a b=>SW.ak a<=SW.ak b:=by
 have:=Jx (le:=fun a b:Int×Int=>decide (SW.ak a<=SW.ak b)) (fun a b c h1 h2=>by simp only[Hd]at *;omega) (fun a b=>by simp only[IF,Hd];omega) ps;exact this.imp fun h=>by simpa using h
theorem n9{a b:Int×Int}(ha:0<=a.2/\a.2<1000)(hb:0<=b.2/\b.2<1000)(h:SW.ak a=SW.ak b):a=b:=by
 unfold SW.ak at h;exact Prod.ext (by omega) (by omega)
theorem lr{ps qs:List (Int×Int)}(hb:∀q∈ps,0<=q.2/\q.2<1000)(p:qs.Perm ps)(s:qs.Pairwise fun a b=>SW.ak a<=SW.ak b):qs=jC ps :=
 Ju (le:=fun a b=>SW.ak a<=SW.ak b) (fun a b ha hb' h1 h2=>n9 (hb _ (p.mem_iff.mp ha)) (hb _ ((jB ps).mem_iff.mp hb')) (by omega)) s (ud ps) (p.trans (jB ps).symm)
theorem fI{α:Type}(d:α)(xs:List α):(List.range xs.length).map (fun i=>xs.getD i d)=xs:=by
 apply List.ext_getElem (by simp)
 intro i h1 h2;simp[h2]
theorem jR:∀ps:List (Int×Int),imms (ps.map bZ)=true
 | []=>rfl
 | q::ps=>by
  show(imm (bZ q)&&imms (ps.map bZ))=true;rw[jR ps];rfl
theorem me(p q:Int×Int)(hp:0<=p.2/\p.2<1000)(hq:0<=q.2/\q.2<1000)(xs ys:List PV)(h:p=q->cl xs ys=some (decide (SW.ak p<SW.ak q))):cl (.int p.1::.int p.2::xs) (.int q.1::.int q.2::ys)=some (decide (SW.ak p<SW.ak q)):=by
 show(if decide (p.1=q.1)=true then(if decide (p.2=q.2)=true then cl xs ys else some (decide (p.2<q.2)))else some (decide (p.1<q.1)))=_;unfold SW.ak at h ⊢
 by_cases e1:p.1=q.1
 ·rw[Gu (by simpa using e1)]
  by_cases e2:p.2=q.2
  ·rw[Gu (by simpa using e2)]
   exact h (Prod.ext e1 e2)
  ·rw[Gq (by simpa using e2)]
   exact Ia some (Jm.mpr (by omega))
 ·rw[Gq (by simpa using e1)]
  exact Ia some (Jm.mpr (by omega))
theorem mZ{p q:Int×Int}(h:fR (bZ p)=fR (bZ q)):p=q:=by
 have h:PyData.tuple [.int p.1,.int p.2]=.tuple [.int q.1,.int q.2]:=h
 injection h with h
 injection h with h1 h
 injection h with h2
 injection h1 with h1
 injection h2 with h2
 exact Prod.ext h1 h2
theorem iw(n:Nat):∀ps:List (Int×Int),(ps.map bZ).all (cX (n+1))=true
 | []=>rfl
 | p::ps=>by
  have e:cX (n+1) (bZ p)=true:=by simp[bZ,cX]
  rw[HW,JC,e,iw n ps];rfl
theorem sM{ps:List (Int×Int)}(hb:∀q∈ps,0<=q.2/\q.2<1000):i6 (ps.map bZ) fun i=>SW.ak (ps.getD i (0,0)):=by
 have hm:∀i,i<ps.length->ps.getD i (0,0)∈ps:=fun i hi=>by simp[hi]
 refine⟨fun i j hi hj e=> ?_,.inr ⟨ps.map fun q=>[.int q.1,.int q.2],.inl ⟨true,by rw[Iu];rfl,fun xs hx=> ?_⟩,fun i j hi hj=> ?_⟩⟩
 ·rw[Go]at hi hj
  rw[ah bZ ps (0,0) _ _ hi,ah bZ ps (0,0) _ _ hj]at e;show SW.ak _=SW.ak _;rw[mZ e]
 ·obtain⟨q,_,rfl⟩:=HY.mp hx
  rfl
 ·rw[Go]at hi hj
  rw[ah _ ps (0,0) _ _ hi,ah _ ps (0,0) _ _ hj];exact me _ _ (hb _ (hm i hi)) (hb _ (hm j hj)) [] [] fun e=>by rw[e];simp[cl,qC]
theorem uZ{cd:Nat->List PV->Option PV}{ct:Ct}(C:bQ cd X ct){a:Expr}{p pos:Pos}{ra r:RV}{xs:List PV}(ho:own ct ("sorted":Str)=true)(hs:isStar a=false)(ha:aK X Hi τ a ra)(e:ra.val=.lst xs)(h:ua xs=some r) :
  aK X Hi τ (.Call (.Name "sorted" p) [a] [] pos) r:=by
 unfold ua at h;cases eb:cG xs with
 | none=>rw[eb]at h;cases h
 | some ps =>
  rw[eb]at h;have h:(if ps.length<4096/\ps.all (fun q=>decide (0<=q.2)&&decide (q.2<1000))=true then some (RV.own ((jC ps).map bZ) true)else none)=some r:=h
  split at h
  ·rename_i c
   cases h;refine eO C (cM (Hi:=Hi) C.un) ho Kb (by decide) hs ha fun O σ H H2 u Q R s r q=> ?_;obtain⟨p,us,rfl,l,r⟩:=r.lst R s e;have ex:=fg eb;subst ex;have hl:=r.len;rw[Go]at hl;have hb:∀q∈ps,0<=q.2/\q.2<1000:=fun q hq=>by
    have:=HK.mp c.2 q hq
    simpa using this
   refine⟨p,us,ps.map bZ,_,rfl,l,r,iw 11 ps,by omega,sM hb,fun d js hd pm pw=>q _ _ (aT hd _) (b9 s hd ?_)⟩;have hj:∀j∈js,j<us.length:=fun j hj=>Ib.mp (pm.mem_iff.mp hj);have e1:js.map (fun i=>ps.getD i (0,0))=jC ps:=by
    refine lr hb ?_ ?_
    ·have:=pm.map fun i=>ps.getD i (0,0)
     rw[<- hl,fI]at this;exact this
    ·rw[Ih]at pw ⊢
     exact pw
   have e2:js.map (fun i=>(ps.map bZ).getD i .non)=(jC ps).map bZ:=by
    rw[<- e1,Iu];refine Hw fun i hi=> ?_;have:=hj i hi;have lt:i<ps.length:=by omega
    simp[lt]
   have rp:=r.pick hj;rw[e2]at rp;exact rp.imm (jR _) (R.ext s).tups
  ·cases h
theorem Az{x:PV}{q:List (Int×Int)}(h:qOf x=some q):x=qV q:=by
 cases x with
 | lst xs =>
  have:=fg (show cG xs=some q from h);subst this;rfl
 | _=>cases h
theorem qp:∀{xs:List PV}{qs:List (List (Int×Int))},pM xs=some qs->xs=qs.map qV
 | [],_,h=>by cases h;rfl
 | x::r,qs,h=>by
  have h:((qOf x).bind fun q=>(pM r).map (q::·))=some qs:=h;cases e1:qOf x with
  | none=>rw[e1]at h;cases h
  | some q =>
   rw[e1]at h;have h:(pM r).map (q::·)=some qs:=h;cases e2:pM r with
   | none=>rw[e2]at h;cases h
   | some m =>
    rw[e2]at h;cases h;rw[Az e1,qp e2];rfl
theorem iO(qs:List (List (Int×Int))):(fG qs).Perm qs:=KJ _ _
theorem sR(qs:List (List (Int×Int))):(fG qs).Pairwise fun a b=>cK a<=cK b:=by
 have:=Jx (le:=fun a b:List (Int×Int)=>decide (cK a<=cK b)) (fun a b c h1 h2=>by simp only[Hd]at *;omega) (fun a b=>by simp only[IF,Hd];omega) qs;exact this.imp fun h=>by simpa using h
theorem n6{α:Type}{f:α->Int}{l:List α}(h:(l.map f).Nodup):∀{a b:α},a∈l->b∈l->f a=f b->a=b:=by
 induction l with
 | nil=>intro a b ha;cases ha
 | cons x l ih =>
  intro a b ha hb e;rw[HW,IP]at h
  rcases HE.mp ha with z|z
  ·rcases HE.mp hb with y|y
   ·rw[z,y]
   ·exact absurd (HY.mpr ⟨b,y,by rw[<- e,z]⟩) h.1
  ·rcases HE.mp hb with y|y
   ·exact absurd (HY.mpr ⟨a,z,by rw[e,y]⟩) h.1
   ·exact ih h.2 z y e
theorem j4{qs rs:List (List (Int×Int))}(hn:(qs.map cK).Nodup)(p:rs.Perm qs)(s:rs.Pairwise fun a b=>cK a<=cK b):rs=fG qs :=
 Ju (le:=fun a b=>cK a<=cK b) (fun a b ha hb' h1 h2=>n6 hn (p.mem_iff.mp ha) ((iO qs).mem_iff.mp hb') (by omega)) s (sR qs) (p.trans (iO qs).symm)
theorem rz:∀ps:List (Int×Int),cl (ps.map bZ) (ps.map bZ)=some false
 | []=>rfl
 | p::ps=>by
  show(if(decide (p.1=p.1)&&(decide (p.2=p.2)&&true))=true then cl (ps.map bZ) (ps.map bZ)else _)=_;rw[Gu (by simp)];exact rz ps
theorem uW{qs:List (List (Int×Int))}(hb:∀q∈qs,q≠[]/\∀p∈q,0<=p.2/\p.2<1000)(hn:(qs.map cK).Nodup):i6 (qs.map qV) fun i=>cK (qs.getD i []):=by
 have hm:∀i,i<qs.length->qs.getD i []∈qs:=fun i hi=>by simp[hi]
 have key:∀a∈qs,∀b∈qs,cl (a.map bZ) (b.map bZ)=some (decide (cK a<cK b)):=fun a ha b hb' =>by
  obtain⟨a0,a1⟩:=hb a ha;obtain⟨b0,b1⟩:=hb b hb'
  by_cases e:cK a=cK b
  ·have:=n6 hn ha hb' e
   subst this;rw[rz];simp
  ·match a,b,a0,b0 with
   | p::a,q::b,_,_ =>
    have e:SW.ak p≠SW.ak q:=e;have ne:¬(p.1=q.1/\p.2=q.2):=fun z=>e (by rw[show p=q from Prod.ext z.1 z.2]);have hp:=a1 p Gw;have hq:=b1 q Gw;show(if(decide (p.1=q.1)&&(decide (p.2=q.2)&&true))=true then cl (a.map bZ) (b.map bZ)else cl [.int p.1,.int p.2] [.int q.1,.int q.2])=some (decide (SW.ak p<SW.ak q));rw[Gq (by simpa using ne)];exact me p q hp hq [] [] fun z=>absurd (by rw[z]) e
 refine⟨fun i j hi hj e=> ?_,.inr ⟨qs.map fun q=>q.map bZ,.inr (by rw[Iu];rfl),fun i j hi hj=> ?_⟩⟩
 ·rw[Go]at hi hj
  rw[ah qV qs [] _ _ hi,ah qV qs [] _ _ hj]at e;show cK _=cK _;obtain⟨a0,a1⟩:=hb _ (hm i hi);obtain⟨b0,b1⟩:=hb _ (hm j hj)
  revert e a0 b0
  generalize qs.getD i []=a
  generalize qs.getD j []=b
  intro e a0 b0
  match a,b,a0,b0 with
  | p::a,q::b,_,_ =>
   have e:PyData.list (fR (bZ p)::bV (a.map bZ))=.list (fR (bZ q)::bV (b.map bZ)):=e
   injection e with e
   injection e with e
   show SW.ak p=SW.ak q;rw[mZ e]
 ·rw[Go]at hi hj
  rw[ah _ qs [] _ _ hi,ah _ qs [] _ _ hj];exact key _ (hm i hi) _ (hm j hj)
theorem Ag{x:PV}{q:List (Int×Int)}(h:tOf x=some q):x=tV q:=by
 cases x with
 | tup xs =>
  have:=fg (show cG xs=some q from h);subst this;rfl
 | _=>cases h
theorem qg:∀{xs:List PV}{qs:List (List (Int×Int))},lh xs=some qs->xs=qs.map tV
 | [],_,h=>by cases h;rfl
 | x::r,qs,h=>by
  have h:((tOf x).bind fun q=>(lh r).map (q::·))=some qs:=h;cases e1:tOf x with
  | none=>rw[e1]at h;cases h
  | some q =>
   rw[e1]at h;have h:(lh r).map (q::·)=some qs:=h;cases e2:lh r with
   | none=>rw[e2]at h;cases h
   | some m =>
    rw[e2]at h;cases h;rw[Ag e1,qg e2];rfl
noncomputable def qW(l:List (Int×Int)):Prop:=∀q∈l,(0<=q.1/\q.1<1000)/\0<=q.2/\q.2<1000
theorem ir:∀{a b:List (Int×Int)}{k m:Int},a.length=b.length->qW a->qW b->k<m->bT k a<bT m b
 | [],[],_,_,_,_,_,h=>h
 | [],_::_,_,_,h,_,_,_=>by simp at h
 | _::_,[],_,_,h,_,_,_=>by simp at h
 | p::a,q::b,k,m,hl,ha,hb,h=>by
  have hp:=ha p Gw;have hq:=hb q Gw;refine ir (a:=a) (b:=b) (by simpa using hl) (fun x hx=>ha x (Gs _ hx)) (fun x hx=>hb x (Gs _ hx)) ?_;show k*1000000+SW.ak p<m*1000000+SW.ak q;unfold SW.ak;omega
theorem mf:∀{a b:List (Int×Int)}{k:Int},a.length=b.length->qW a->qW b->cl (a.map bZ) (b.map bZ)=some (decide (bT k a<bT k b))/\(bT k a=bT k b->a=b)
 | [],[],_,_,_,_=>⟨by simp[cl,qC,bT],fun _=>rfl⟩
 | [],_::_,_,h,_,_=>by simp at h
 | _::_,[],_,h,_,_=>by simp at h
 | p::a,q::b,k,hl,ha,hb=>by
  have hp:=ha p Gw;have hq:=hb q Gw;have hl' :a.length=b.length:=by simpa using hl
  have ha' :qW a:=fun x hx=>ha x (Gs _ hx);have hb' :qW b:=fun x hx=>hb x (Gs _ hx);have e:cl ((p::a).map bZ) ((q::b).map bZ)=if(decide (p.1=q.1)&&(decide (p.2=q.2)&&true))=true then cl (a.map bZ) (b.map bZ)else cl [.int p.1,.int p.2] [.int q.1,.int q.2]:=rfl
  have g1:bT k (p::a)=bT (k*1000000+SW.ak p) a:=rfl;have g2:bT k (q::b)=bT (k*1000000+SW.ak q) b:=rfl
  by_cases z:p=q
  ·subst z
   obtain⟨i1,i2⟩:=mf (k:=k*1000000+SW.ak p) hl' ha' hb';rw[e,Gu (by simp),g1,g2,i1];exact⟨rfl,fun h=>by rw[i2 h]⟩
  ·have nz:¬(p.1=q.1/\p.2=q.2):=fun h=>z (Prod.ext h.1 h.2)
   rw[e,Gq (by simpa using nz),me p q hp.2 hq.2 [] [] (fun h=>absurd h z),g1,g2];have ne:SW.ak p≠SW.ak q:=fun h=>z (n9 hp.2 hq.2 h)
   rcases Int.lt_or_lt_of_ne ne with h|h
   ·have:=ir (k:=k*1000000+SW.ak p) (m:=k*1000000+SW.ak q) hl' ha' hb' (by omega)
    exact⟨Ia some (Jm.mpr ⟨fun _=>this,fun _=>h⟩),fun w=>by omega⟩
   ·have:=ir (k:=k*1000000+SW.ak q) (m:=k*1000000+SW.ak p) hl'.symm hb' ha' (by omega)
    exact⟨Ia some (Jm.mpr ⟨fun w=>by omega,fun w=>by omega⟩),fun w=>by omega⟩
theorem dw(qs:List (List (Int×Int))):(cA qs).Perm qs:=KJ _ _
theorem sQ(qs:List (List (Int×Int))):(cA qs).Pairwise fun a b=>bT 0 a<=bT 0 b:=by
 have:=Jx (le:=fun a b:List (Int×Int)=>decide (bT 0 a<=bT 0 b)) (fun a b c h1 h2=>by simp only[Hd]at *;omega) (fun a b=>by simp only[IF,Hd];omega) qs;exact this.imp fun h=>by simpa using h
theorem eo{n:Nat}{qs rs:List (List (Int×Int))}(hb:∀q∈qs,q.length=n/\qW q)(p:rs.Perm qs)(s:rs.Pairwise fun a b=>bT 0 a<=bT 0 b):rs=cA qs :=
 Ju (le:=fun a b=>bT 0 a<=bT 0 b) (fun a b ha hb' h1 h2=>by
  obtain⟨a1,a2⟩:=hb a (p.mem_iff.mp ha);obtain⟨b1,b2⟩:=hb b ((dw qs).mem_iff.mp hb');exact(mf (k:=0) (by omega) a2 b2).2 (by omega)) s (sQ qs) (p.trans (dw qs).symm)
theorem v8:∀qs:List (List (Int×Int)),(qs.map tV).all (cX 12)=true
 | []=>rfl
 | q::qs=>by
  show((q.map bZ).all (cX 11)&&(qs.map tV).all (cX 12))=true;rw[iw 10 q,v8 qs];rfl
theorem rK:∀qs:List (List (Int×Int)),imms (qs.map tV)=true
 | []=>rfl
 | q::qs=>by
  show(imms (q.map bZ)&&imms (qs.map tV))=true;rw[jR q,rK qs];rfl
theorem ro:∀{a b:List (Int×Int)},bV (a.map bZ)=bV (b.map bZ)->a=b
 | [],[],_=>rfl
 | [],_::_,h=>by cases h
 | _::_,[],h=>by cases h
 | p::a,q::b,h=>by
  have h:fR (bZ p)::bV (a.map bZ)=fR (bZ q)::bV (b.map bZ):=h
  injection h with h1 h2
  rw[mZ h1,ro h2]
theorem uV{n:Nat}{qs:List (List (Int×Int))}(h:qs.length<2\/1<=n/\∀q∈qs,q.length=n/\qW q):i6 (qs.map tV) fun i=>bT 0 (qs.getD i []):=by
 have hm:∀i,i<qs.length->qs.getD i []∈qs:=fun i hi=>by simp[hi]
 refine⟨fun i j hi hj e=> ?_,?_⟩
 ·rw[Go]at hi hj
  rw[ah tV qs [] _ _ hi,ah tV qs [] _ _ hj]at e;have e:PyData.tuple (bV ((qs.getD i []).map bZ))=.tuple (bV ((qs.getD j []).map bZ)):=e
  injection e with e
  show bT 0 _=bT 0 _;rw[ro e]
 ·rcases h with h|⟨n1,h⟩
  ·exact .inl (by rw[Go];exact h)
  ·refine .inr ⟨qs.map fun q=>q.map bZ,.inl ⟨false,by rw[Iu];rfl,fun xs hx=> ?_⟩,fun i j hi hj=> ?_⟩
   ·obtain⟨q,hq,rfl⟩:=HY.mp hx
    have:=(h q hq).1
    match q,this with
    | p::q,_=>rfl
    | [],z=>simp at z;omega
   ·rw[Go]at hi hj
    rw[ah _ qs [] _ _ hi,ah _ qs [] _ _ hj];obtain⟨a1,a2⟩:=h _ (hm i hi);obtain⟨b1,b2⟩:=h _ (hm j hj);exact(mf (k:=0) (by omega) a2 b2).1
theorem uY{cd:Nat->List PV->Option PV}{ct:Ct}(C:bQ cd X ct){a:Expr}{p pos:Pos}{ra r:RV}{xs:List PV}(ho:own ct ("sorted":Str)=true)(hs:isStar a=false)(ha:aK X Hi τ a ra)(e:ra.val=.lst xs)(h:nE xs=some r) :
  aK X Hi τ (.Call (.Name "sorted" p) [a] [] pos) r:=by
 unfold nE at h;cases eb:lh xs with
 | none=>rw[eb]at h;cases h
 | some qs =>
 rw[eb]at h;have h:(if qs.length<2 then some (RV.own xs true)else if qs.length<4096/\1<=(qs.headD []).length/\qs.all (DZ (qs.headD []).length)=true then some (RV.own ((cA qs).map tV) true)else none)=some r:=h;have ex:=qg eb;subst ex;obtain⟨ys,n,sb,er,lz,un⟩:∃ys n,(qs.length<2\/1<=n/\∀q∈qs,q.length=n/\qW q)/\r=.own (ys.map tV) true/\qs.length<4096/\∀rs:List (List (Int×Int)),rs.Perm qs->(rs.Pairwise fun a b=>bT 0 a<=bT 0 b)->rs=ys:=by
  split at h
  ·rename_i c
   cases h;refine⟨qs,0,.inl c,rfl,by omega,fun rs p _=> ?_⟩
   match qs,c,p with
   | [],_,p=>exact List.Perm.eq_nil p
   | [q],_,p=>exact List.perm_singleton.mp p
   | _::_::l,c,_=>exact absurd c (by simp)
  ·split at h
   ·rename_i c
    cases h;have hb:∀q∈qs,q.length=(qs.headD []).length/\qW q:=fun q hq=>by
     have:=HK.mp c.2.2 q hq;unfold DZ at this;rw[Gv,Hd]at this;exact⟨this.1,fun x hx=>by simpa [and_assoc]using HK.mp this.2 x hx⟩
    exact⟨cA qs,_,.inr ⟨c.2.1,hb⟩,rfl,c.1,fun rs p s=>eo hb p s⟩
   ·cases h
 subst er;refine eO C (cM (Hi:=Hi) C.un) ho Kb (by decide) hs ha fun O σ H H2 u Q R s r q=> ?_;obtain⟨p,us,rfl,l,r⟩:=r.lst R s e;have hl:=r.len;rw[Go]at hl;refine⟨p,us,qs.map tV,_,rfl,l,r,v8 qs,by omega,uV sb,fun d js hd pm pw=>q _ _ (aT hd _) (b9 s hd ?_)⟩;have hj:∀j∈js,j<us.length:=fun j hj=>Ib.mp (pm.mem_iff.mp hj);have e1:js.map (fun i=>qs.getD i [])=ys:=by
  refine un _ ?_ ?_
  ·have:=pm.map fun i=>qs.getD i []
   rw[<- hl,fI]at this;exact this
  ·rw[Ih]at pw ⊢
   exact pw
 have e2:js.map (fun i=>(qs.map tV).getD i .non)=ys.map tV:=by
  rw[<- e1,Iu];refine Hw fun i hi=> ?_;have:=hj i hi;have lt:i<qs.length:=by omega
  simp[lt]
 have rp:=r.pick hj;rw[e2]at rp;exact rp.imm (rK _) (R.ext s).tups
theorem v9:∀qs:List (List (Int×Int)),(qs.map qV).all (cX 12)=true
 | []=>rfl
 | q::qs=>by
  show((q.map bZ).all (cX 11)&&(qs.map qV).all (cX 12))=true;rw[iw 10 q,v9 qs];rfl
theorem ub{cd:Nat->List PV->Option PV}{ct:Ct}(C:bQ cd X ct){a:Expr}{p pos:Pos}{ra r:RV}{xs ys:List PV}{n:Bool}(ho:own ct ("sorted":Str)=true)(hs:isStar a=false)(ha:aK X Hi τ a ra)(e:ra.val=.lst xs)(ei:ra.its=some (ys,n))(h:uc ys n=some r) :
  aK X Hi τ (.Call (.Name "sorted" p) [a] [] pos) r:=by
 unfold uc at h;cases eb:pM ys with
 | none=>rw[eb]at h;cases h
 | some qs =>
 rw[eb]at h;have h:(if qs.length<4096/\qs.all (fun q=> !q.isEmpty&&q.all fun p=>decide (0<=p.2)&&decide (p.2<1000))=true/\(qs.map cK).Nodup then some (RV.own ((fG qs).map qV) n)else none)=some r:=h
 split at h
 case isFalse=>cases h
 rename_i c;cases h;have ex:=qp eb;subst ex;have hb:∀q∈qs,q≠[]/\∀p∈q,0<=p.2/\p.2<1000:=fun q hq=>by
  have:=HK.mp c.2.1 q hq;rw[Gv]at this;exact⟨fun z=>by rw[z]at this;simp at this,fun p hp=>by simpa using HK.mp this.2 p hp⟩
 refine eO C (cM (Hi:=Hi) C.un) ho Kb (by decide) hs ha fun O σ H H2 u Q R s r q=> ?_;obtain⟨p,us,rfl,l,r⟩:=r.itsL R s ei e;have hl:=r.len;rw[Go]at hl;refine⟨p,us,qs.map qV,_,rfl,l,r.weak.mono aL,v9 qs,by omega,uW hb c.2.2,fun d js hd pm pw=>q _ _ (aT hd _) (b9 s hd ?_)⟩;have hj:∀j∈js,j<us.length:=fun j hj=>Ib.mp (pm.mem_iff.mp hj);have e1:js.map (fun i=>qs.getD i [])=fG qs:=by
  refine j4 c.2.2 ?_ ?_
  ·have:=pm.map fun i=>qs.getD i []
   rw[<- hl,fI]at this;exact this
  ·rw[Ih]at pw ⊢
   exact pw
 have e2:js.map (fun i=>(qs.map qV).getD i .non)=(fG qs).map qV:=by
  rw[<- e1,Iu];refine Hw fun i hi=> ?_;have:=hj i hi;have lt:i<qs.length:=by omega
  simp[lt]
 have rp:=r.pick hj;rw[e2]at rp;exact rp
end
end IR
namespace IR
open PySem PySem.Spec PyProof.Rows L2
section
variable{X:Cx}{Hi:Hp}{τ:En}
theorem ve{cd:Nat->List PV->Option PV}{ct:Ct}(C:bQ cd X ct){a:Expr}{p pos:Pos}{ra:RV}{n:Nat}(ho:own ct ("len":Str)=true)(hs:isStar a=false)(ha:aK X Hi τ a ra)(h:eE ra.val=some n) :
  aK X Hi τ (.Call (.Name "len" p) [a] [] pos) (sc (.int n)):=by
 cases e:ra.val with
 | str z =>
  rw[e]at h;have h:(if z.length<=LN then some z.length else none)=some n:=h
  split at h
  ·rename_i c
   cases h;exact eO C mi ho PySem.boot_len (by decide) hs ha fun O σ H H2 u Q R s r q=>⟨z,by rw[r.str R s e],by rw[cF];exact c,q _ _ (aB.refl _) uq⟩
  ·cases h
 | lst xs =>
  rw[e]at h;cases h;refine eO C gC ho PySem.boot_len (by decide) hs ha fun O σ H H2 u Q R s r q=> ?_;obtain⟨p,us,rfl,l,r⟩:=r.lst R s e;exact⟨p,us,rfl,.inl l,by rw[<- r.len];exact q _ _ (aB.refl _) uq⟩
 | tup xs =>
  rw[e]at h;cases h;refine eO C gC ho PySem.boot_len (by decide) hs ha fun O σ H H2 u Q R s r q=> ?_;obtain⟨p,us,rfl,l,r⟩:=r.tup R s e;exact⟨p,us,rfl,.inr l,by rw[<- r.len];exact q _ _ (aB.refl _) uq⟩
 | dK ks vs =>
  rw[e]at h;cases h;refine eO C qG ho PySem.boot_len (by decide) hs ha fun O σ H H2 u Q R s r q=> ?_;have z:=r.val R s;rw[e]at z;unfold Rp at z;obtain⟨p,us,rfl,_,hp,hl,_⟩:=z;refine⟨p,_,rfl,.inl hp,?_⟩;have:(ks.zip us).length=ks.length:=by rw[List.length_zip,<-hl,JZ]
  rw[this];exact q _ _ (aB.refl _) uq
 | _=>rw[e]at h;cases h
theorem gi{x:Str}{k:Nat}{f:Bf}(h:oi x k=some f):(x="len"/\k=1/\f=.len)\/(x="int"/\k=1/\f=.int)\/(x="list"/\k=1/\f=.list)\/(x="tuple"/\k=1/\f=.tuple)\/(x="all"/\k=1/\f=.all)\/(x="min"/\k=2/\f=.min)\/(x="max"/\k=2/\f=.max)\/(x="abs"/\k=1/\f=.abs)\/(x="any"/\k=1/\f=.any)\/(x="sum"/\k=1/\f=.sum)\/(x="sorted"/\k=1/\f=.sorted):=by
 unfold oi at h
 split at h
 ·rename_i c;rw[Gv]at c;cases h;exact .inl ⟨HN c.1,HN c.2,rfl⟩
 split at h
 ·rename_i c;rw[Gv]at c;cases h;exact .inr (.inl ⟨HN c.1,HN c.2,rfl⟩)
 split at h
 ·rename_i c;rw[Gv]at c;cases h;exact .inr (.inr (.inl ⟨HN c.1,HN c.2,rfl⟩))
 split at h
 ·rename_i c;rw[Gv]at c;cases h;exact .inr (.inr (.inr (.inl ⟨HN c.1,HN c.2,rfl⟩)))
 split at h
 ·rename_i c;rw[Gv]at c;cases h;exact .inr (.inr (.inr (.inr (.inl ⟨HN c.1,HN c.2,rfl⟩))))
 split at h
 ·rename_i c;rw[Gv]at c;cases h;exact .inr (.inr (.inr (.inr (.inr (.inl ⟨HN c.1,HN c.2,rfl⟩)))))
 split at h
 ·rename_i c;rw[Gv]at c;cases h;exact .inr (.inr (.inr (.inr (.inr (.inr (.inl ⟨HN c.1,HN c.2,rfl⟩))))))
 split at h
 ·rename_i c;rw[Gv]at c;cases h;exact .inr (.inr (.inr (.inr (.inr (.inr (.inr (.inl ⟨HN c.1,HN c.2,rfl⟩)))))))
 split at h
 ·rename_i c;rw[Gv]at c;cases h;exact .inr (.inr (.inr (.inr (.inr (.inr (.inr (.inr (.inl ⟨HN c.1,HN c.2,rfl⟩))))))))
 split at h
 ·rename_i c;rw[Gv]at c;cases h;exact .inr (.inr (.inr (.inr (.inr (.inr (.inr (.inr (.inr (.inl ⟨HN c.1,HN c.2,rfl⟩)))))))))
 split at h
 ·rename_i c;rw[Gv]at c;cases h;exact .inr (.inr (.inr (.inr (.inr (.inr (.inr (.inr (.inr (.inr (⟨HN c.1,HN c.2,rfl⟩))))))))))
 cases h
theorem Cr{cd:Nat->List PV->Option PV}{ct:Ct}(C:bQ cd X ct){x:Str}{f:Bf}{a:Expr}{p pos:Pos}{ra r:RV}(ho:own ct x=true)(hb:tz x 1=some f)(hs:isStar a=false)(ha:aK X Hi τ a ra)(h:ml f [ra]=some r) :
  aK X Hi τ (.Call (.Name x p) [a] [] pos) r:=by
 have hb:oi x 1=some f:=hb
 rcases gi hb with⟨rfl,_,rfl⟩|⟨rfl,_,rfl⟩|⟨rfl,_,rfl⟩|⟨rfl,_,rfl⟩|⟨rfl,_,rfl⟩|⟨_,z,_⟩|⟨_,z,_⟩|⟨rfl,_,rfl⟩|⟨rfl,_,rfl⟩|⟨rfl,_,rfl⟩|⟨rfl,_,rfl⟩
 ·have h:(eE ra.val).map (fun n=>sc (.int (n:Nat)))=some r:=h
  cases e:eE ra.val with
  | none=>rw[e]at h;cases h
  | some n =>
   rw[e]at h;cases h;exact ve C ho hs ha e
 ·unfold ml at h
  cases e:ra.val with
  | int i =>
   simp only[e]at h;cases h;exact qi C lU ho PyProof.Rows.boot_int (by decide) hs ha fun O σ H H2 u Q R s r q=>.inl ⟨i,by rw[r.int R s e],q _ _ (aB.refl _) uq⟩
  | bl i =>
   simp only[e]at h;cases h;exact qi C lU ho PyProof.Rows.boot_int (by decide) hs ha fun O σ H H2 u Q R s r q=>.inr ⟨i,by rw[r.bl R s e],q _ _ (aB.refl _) uq⟩
  | _=>simp only[e]at h;cases h
 ·have h:(match ra.its with|some (xs,n)=>some (RV.own xs n)|none=>none)=some r:=h
  cases e:ra.its with
  | none=>rw[e]at h;cases h
  | some w =>
   obtain⟨xs,n⟩:=w;rw[e]at h;cases h;refine qi C mh ho PyProof.Rows.boot_list (by decide) hs ha fun O σ H H2 u Q R s r q=> ?_;obtain⟨p,us,rfl,l,r⟩:=r.its R s e;exact⟨p,us,rfl,l.imp (·.1) (·.1),fun l2 hl=>q _ _ (aT hl _) (b9 s hl r)⟩
 ·have h:(match ra.its with|some (xs,n)=>some (RV.frz (.tup xs) n)|none=>none)=some r:=h
  cases e:ra.its with
  | none=>rw[e]at h;cases h
  | some w =>
   obtain⟨xs,n⟩:=w;rw[e]at h;cases h;refine qi C kR ho PyProof.Rows.boot_tuple (by decide) hs ha fun O σ H H2 u Q R s r q=> ?_;obtain⟨p,us,rfl,l,r⟩:=r.its R s e;refine⟨p,us,rfl,l.imp (fun l=>⟨l.1,fun l2 hl=> ?_⟩) (fun l=>⟨l.1,?_⟩)⟩
   ·exact q _ _ (aT hl _) (Rp.tup.mpr ⟨l2,us,rfl,ba.of (iu R s hl),r.mono (aH (aT hl _))⟩)
   ·exact q _ _ (aB.refl _) (Rp.tup.mpr ⟨p,us,rfl,rN R s l.1,r⟩)
 ·unfold ml at h
  cases e:ra.val with
  | lst xs =>
   simp only[e]at h;cases eb:lV xs with
   | none=>rw[eb]at h;cases h
   | some bs =>
    rw[eb]at h;cases h;refine eO C (og C.calm) ho boot_all (by decide) hs ha fun O σ H H2 u Q R s r q=> ?_;obtain⟨p,us,rfl,l,r⟩:=r.lst R s e;have:=oh eb r;subst this;exact⟨p,bs,rfl,l,q _ _ (aB.refl _) DX⟩
  | _=>simp only[e]at h;cases h
 ·cases z
 ·cases z
 ·unfold ml at h
  cases e:ra.val with
  | int i =>
   simp only[e]at h;cases h;exact eO C wZ ho PyProof.Rows.boot_abs (by decide) hs ha fun O σ H H2 u Q R s r q=>⟨i,by rw[r.int R s e],q _ _ (aB.refl _) uq⟩
  | _=>simp only[e]at h;cases h
 ·exact absurd (show(none:Option RV)=some r from h) (by simp)
 ·have h:(match ra.val with
   | .lst xs=>(bE xs).map fun ns=>sc (.int ns.sum)
   | _=>none)=some r:=h
  cases e:ra.val with
  | lst xs =>
   simp only[e]at h;cases eb:bE xs with
   | none=>rw[eb]at h;cases h
   | some bs =>
    rw[eb]at h;cases h;refine eO C (kS C.calm) ho boot_sum (by decide) hs ha fun O σ H H2 u Q R s r q=> ?_;obtain⟨p,us,rfl,l,r⟩:=r.lst R s e;have:=gY eb r;subst this;exact⟨p,bs,rfl,l,q _ _ (aB.refl _) uq⟩
  | _=>simp only[e]at h;cases h
 ·have h:(match ra.val with
   | .lst xs=>jA xs ra
   | _=>none)=some r:=h
  cases e:ra.val with
  | lst xs =>
   simp only[e]at h;unfold jA at h;cases es:lA xs with
   | none =>
    rw[es]at h;dsimp only at h;cases eu:nE xs with
    | some r' =>
     rw[eu]at h;cases h;exact uY C ho hs ha e eu
    | none =>
    rw[eu]at h;dsimp only at h
    split at h
    ·rename_i ys n ei
     exact ub C ho hs ha e ei h
    ·cases h
   | some r' =>
   rw[es]at h;cases h;have h:=es;unfold lA at h;cases eb:bE xs with
   | none =>
    rw[eb]at h;exact uZ C ho hs ha e h
   | some bs =>
    rw[eb]at h;have h:(if bs.length<64 then some (RV.own ((L2.sortI bs).map PV.int) true)else none)=some r:=h
    split at h
    ·rename_i c
     cases h;refine eO C gf ho boot_sorted (by decide) hs ha fun O σ H H2 u Q R s r q=> ?_;obtain⟨p,us,rfl,l,r⟩:=r.lst R s e;have:=gY eb r;subst this;exact⟨p,bs,rfl,l,c,fun a ha=>q _ _ (aT ha _) (b9 s ha (aJ.ints.mpr rfl))⟩
    ·cases h
  | _=>simp only[e]at h;cases h
theorem Cq{cd:Nat->List PV->Option PV}{ct:Ct}(C:bQ cd X ct){x:Str}{f:Bf}{a b:Expr}{p pos:Pos}{ra rb r:RV}(ho:own ct x=true)(hb:tz x 2=some f)(hs:isStar a=false)(hs2:isStar b=false)(ha:aK X Hi τ a ra)(hb' :aK X Hi τ b rb)(h:ml f [ra,rb]=some r) :
  aK X Hi τ (.Call (.Name x p) [a,b] [] pos) r:=by
 refine JL fun no=> ?_;have hb:oi x 2=some f:=hb
 rcases gi hb with⟨_,z,_⟩|⟨_,z,_⟩|⟨_,z,_⟩|⟨_,z,_⟩|⟨_,z,_⟩|⟨rfl,_,rfl⟩|⟨rfl,_,rfl⟩|⟨_,z,_⟩|⟨_,z,_⟩|⟨_,z,_⟩|⟨_,z,_⟩
 ·cases z
 ·cases z
 ·cases z
 ·cases z
 ·cases z
 ·unfold ml at h
  cases e1:ra.val with
  | int i =>
   cases e2:rb.val with
   | int j =>
    simp only[e1,e2]at h;cases h;exact no<|b2_go C (tf C.calm) ho boot_min (by decide) hs hs2 ha hb' fun O σ H H2 u v Q R s r r2 q=>⟨i,j,by rw[r.int R s e1,r2.int R s e2],q _ _ (aB.refl _) uq⟩
   | _=>simp only[e1,e2]at h;cases h
  | _=>simp only[e1]at h;cases h
 ·unfold ml at h
  cases e1:ra.val with
  | int i =>
   cases e2:rb.val with
   | int j =>
    simp only[e1,e2]at h;cases h;exact no<|b2_go C (tj C.calm) ho boot_max (by decide) hs hs2 ha hb' fun O σ H H2 u v Q R s r r2 q=>⟨i,j,by rw[r.int R s e1,r2.int R s e2],q _ _ (aB.refl _) uq⟩
   | _=>simp only[e1,e2]at h;cases h
  | _=>simp only[e1]at h;cases h
 ·cases z
 ·cases z
 ·cases z
 ·cases z
theorem aJ.lrng{n:Bool}{H:Hp}(k:Nat):aJ X.K Hi n (lrng k) H (zq k):=by
 unfold IR.lrng zq
 generalize List.range k=l
 induction l with
 | nil=>exact .nil
 | cons x l ih=>exact .cons (Rp.int.mpr rfl) ih
theorem FI{b:Expr}(h:mS b=false):DC b:=by
 intro o i;cases b<;>first|rfl|cases h
theorem xr{b:Expr}(h:mS b=false):sA b:=by
 intro o i;cases b<;>first|rfl|cases h
theorem jg{n:Bool}{xs:List PV}{H:Hp}{us:List V}{k:Int}{e:PV}(r:aJ X.K Hi n xs H us)(h:ed xs k=some e):∃u,ed us k=some u/\Rp X.K Hi n e H u:=by
 unfold ed at h ⊢;rw[<- r.len];cases c:tO xs.length k with
 | none=>rw[c]at h;cases h
 | some j =>
  rw[c]at h;exact r.at (i:=j) h
theorem vv(hun:X.A.units+64<cLine){a i:Expr}{pos:Pos}{x y r:RV}(hb:mS i=false)(ha:aK X Hi τ a x)(hi:aK X Hi τ i y)(h:index x y=some r):aK X Hi τ (.Subscript a i pos) r:=by
 have go:∀{rr:R2}(hr:Ge X rr),(∀(O:List Addr)(σ:L2.St)(H H2:Hp)(u v:V)(Q:VK),ag X.K Hi O τ σ H->aB H H2->aa X.K Hi O H H2 x u->aa X.K Hi O H H2 y v->(∀w,aa X.K Hi O H H2 r w->Q w H2)->rr u v H2 Q)->aK X Hi τ (.Subscript a i pos) r:=by
  intro rr hr k O σ H Q R q;refine we (Ev hr ae ae (xr hb)) ?_;refine ha O σ H _ R fun u H1 s1 r1=>hi O σ H1 _ (R.ext s1) fun v H2 s2 r2=> ?_;exact k O σ H H2 u v Q R (s1.trans s2) (r1.ext s2) (r2.back s1) fun w r3=>q w H2 (s1.trans s2) r3
 unfold index at h
 split at h
 case h_1 xs n k e2 =>
  cases c:ed xs k with
  | none=>rw[c]at h;cases h
  | some e =>
   rw[c]at h;cases h;refine go mM fun O σ H H2 u v Q R s r1 r2 q=> ?_;obtain⟨p,us,rfl,_,l,r⟩:=Rp.lst.mp (show Rp X.K Hi n (.lst xs) (aQ H2 O) u from r1);obtain⟨w,hw,rw'⟩:=jg r c;exact⟨p,us,k,w,rfl,r2.int R s e2,(aL (O:=O)).seq l,hw,q w (rw'.mono bH).up⟩
 case h_2 xs n k e2 =>
  cases c:ed xs k with
  | none=>rw[c]at h;cases h
  | some e =>
   rw[c]at h;cases h;refine go vq fun O σ H H2 u v Q R s r1 r2 q=> ?_;obtain⟨p,us,rfl,l,r⟩:=Rp.tup.mp (show Rp X.K Hi n (.tup xs) (aQ H2 O) u from r1);obtain⟨w,hw,rw'⟩:=jg r c;exact⟨p,us,k,w,rfl,r2.int R s e2,(aL (O:=O)).tup l,hw,q w rw'.up⟩
 case h_3 xs n k e2 =>
  cases c:ed xs k with
  | none=>rw[c]at h;cases h
  | some e =>
   rw[c]at h;cases h;refine go mM fun O σ H H2 u v Q R s r1 r2 q=> ?_;obtain⟨p,us,rfl,h0,h1,r⟩:=r1;obtain⟨w,hw,rw'⟩:=jg r c;exact⟨p,us,k,w,rfl,r2.int R s e2,bP.of h1,hw,q w (rw'.mono (aH bH)).up⟩
 case h_4 xs k e2 =>
  cases c:ed xs k with
  | none=>rw[c]at h;cases h
  | some e =>
   rw[c]at h;cases h;refine go mM fun O σ H H2 u v Q R s r1 r2 q=> ?_;obtain⟨p,us,rfl,_,l,r⟩:=Rp.lst.mp (show Rp X.K Hi false (.lst xs) H2 u from r1);obtain⟨w,hw,rw'⟩:=jg r c;refine⟨p,us,k,w,rfl,r2.int R s e2,l,hw,q w ?_⟩;unfold fo
   split
   ·rename_i im
    exact Rp.imm im (R.ext s).tups (rw'.mono bH)
   ·exact rw'.mono bH
 case h_5 xs k e2 =>
  cases c:ed xs k with
  | none=>rw[c]at h;cases h
  | some e =>
   rw[c]at h;cases h;refine go vq fun O σ H H2 u v Q R s r1 r2 q=> ?_;obtain⟨p,us,rfl,l,r⟩:=Rp.tup.mp (show Rp X.K Hi false (.tup xs) H2 u from r1);obtain⟨w,hw,rw'⟩:=jg r c;refine⟨p,us,k,w,rfl,r2.int R s e2,l,hw,q w ?_⟩;unfold fo
   split
   ·rename_i im
    exact Rp.imm im (R.ext s).tups rw'
   ·exact rw'
 case h_6 z n k e2 =>
  split at h
  ·rename_i hz
   cases c:ed z.cps.toList k with
   | none=>rw[c]at h;cases h
   | some e =>
    rw[c]at h;cases h;exact go Bu fun O σ H H2 u v Q R s r1 r2 q=>⟨z,k,e,r1.str R s rfl,r2.int R s e2,by rw[cF];exact hz,c,q _ ER⟩
  ·cases h
 case h_7 ks vs n =>
  cases ek:eG y.val with
  | none=>rw[ek]at h;cases h
  | some k =>
   rw[ek]at h;have h:(fX ks vs k).map (fun e=>RV.frz e (n||imm e))=some r:=h;cases c:fX ks vs k with
   | none=>rw[c]at h;cases h
   | some e =>
    rw[c]at h;cases h;intro O σ H Q R q;refine we (qt (by omega) ae ae (FI hb)) ?_;refine ha O σ H _ R fun u H1 s1 r1=>hi O σ H1 _ (R.ext s1) fun v H2 s2 r2=> ?_;obtain⟨p,us,rfl,h1,h2,h3⟩:=Rp.dK (show Rp X.K Hi n (.dK ks vs) (aQ H2 O) u from r1.ext s2);obtain⟨w,hw,rw'⟩:=(lg (k:=k) h3 h2).2 e c;rw[oA ek ((r2.back s1).val R (s1.trans s2))];have g:mw H2 p (kV k) (some w):=by rw[<- hw];exact .k (aL p _ h1)
    exact⟨p,w,rfl,g,q w H2 (s1.trans s2) (rw'.mono bH).up⟩
 case h_8 ks vs =>
  cases ek:eG y.val with
  | none=>rw[ek]at h;cases h
  | some k =>
   rw[ek]at h;have h:(fX ks vs k).map fo=some r:=h;cases c:fX ks vs k with
   | none=>rw[c]at h;cases h
   | some e =>
    rw[c]at h;cases h;intro O σ H Q R q;refine we (qt (by omega) ae ae (FI hb)) ?_;refine ha O σ H _ R fun u H1 s1 r1=>hi O σ H1 _ (R.ext s1) fun v H2 s2 r2=> ?_;obtain⟨p,us,rfl,h1,h2,h3⟩:=Rp.dK (show Rp X.K Hi false (.dK ks vs) H2 u from r1.ext s2);obtain⟨w,hw,rw'⟩:=(lg (k:=k) h3 h2).2 e c;rw[oA ek ((r2.back s1).val R (s1.trans s2))];have g:mw H2 p (kV k) (some w):=by rw[<- hw];exact .k h1
    refine⟨p,w,rfl,g,q w H2 (s1.trans s2) ?_⟩;unfold fo
    split
    ·rename_i im
     exact Rp.imm im (R.ext (s1.trans s2)).tups (rw'.mono bH)
    ·exact rw'.mono bH
 case h_9=>cases h
variable(X Hi τ)in
noncomputable def t6(e:Option Expr)(o:Option Int):Prop:=match e,o with
 | none,none=>True
 | some e,some i=>∃r,aK X Hi τ e r/\r.val=.int i
 | _,_=>False
theorem dz{a:Expr}{lo hi:Option Expr}{l h:Option Int}{p2 pos:Pos}{x r:RV}{rr:V->Option Int->Option Int->Hp->VK->Prop}(hr:Dc X rr)(ha:aK X Hi τ a x)(hl:t6 X Hi τ lo l)(hh:t6 X Hi τ hi h)
  (k:∀(O:List Addr)(σ:L2.St)(H H2:Hp)(u:V)(Q:VK),ag X.K Hi O τ σ H->aB H H2->aa X.K Hi O H H2 x u->(∀w H3,aB H2 H3->aa X.K Hi O H H3 r w->Q w H3)->rr u l h H2 Q):aK X Hi τ (.Subscript a (.Slice lo hi none p2) pos) r:=by
 have part:∀{e:Option Expr}{o:Option Int},t6 X Hi τ e o->∃t,PO X e t/\∀(O:List Addr)(σ:L2.St)(H:Hp)(Q:Option Int->Hp->Prop),ag X.K Hi O τ σ H->(∀H',aB H H' ->Q o H')->t σ H Q:=by
  intro e o he;cases e with
  | none =>
   cases o with
   | none=>exact⟨_,xq,fun O σ H Q R q=>q H (aB.refl _)⟩
   | some i=>cases he
  | some e =>
   cases o with
   | none=>cases he
   | some i =>
    obtain⟨r,h1,h2⟩:=he;exact⟨_,xo ae,fun O σ H Q R q=>h1 O σ H _ R fun u H1 s1 r1=>⟨i,r1.int R s1 h2,q _ s1⟩⟩
 obtain⟨tl,pl,ql⟩:=part hl;obtain⟨th,ph,qh⟩:=part hh;intro O σ H Q R q;refine we (vM hr ae pl ph) ?_;refine ha O σ H _ R fun u H1 s1 r1=>ql O σ H1 _ (R.ext s1) fun H2 s2=>qh O σ H2 _ (R.ext (s1.trans s2)) fun H3 s3=> ?_;exact k O σ H H3 u Q R (s1.trans (s2.trans s3)) (r1.ext (s2.trans s3)) fun w H4 s4 r4=>q w H4 (s1.trans (s2.trans (s3.trans s4))) r4
theorem aJ.cut{n:Bool}{xs:List PV}{H:Hp}{us:List V}(r:aJ X.K Hi n xs H us)(lo hi:Option Int):aJ X.K Hi n (IR.cut xs lo hi) H (oV us lo hi):=by
 unfold IR.cut oV;rw[<- r.len];exact(r.drop _).take _
theorem aa.whole{O:List Addr}{σ:L2.St}{H H' :Hp}{x:RV}{u:V}{xs ys:List PV}{n:Bool}(R:ag X.K Hi O τ σ H)(s:aB H H')(h:aa X.K Hi O H H' x u)(e:x.its=some (xs,n))(ev:x.val=.tup ys):aa X.K Hi O H H' (.frz (.tup xs) n) u:=by
 cases x with
 | frz w m =>
  obtain rfl:w=.tup ys:=ev;cases e;exact h
 | bor w =>
  obtain rfl:w=.tup ys:=ev;have e:(if imms ys then some (ys,true)else none)=some (xs,n):=e
  split at e
  ·rename_i i
   cases e;exact Rp.imm (by rw[imm];exact i) (R.ext s).tups (show Rp X.K Hi false (.tup _) H' u from h)
  ·cases e
 | own ys m=>cases ev
 | owd b ys m=>cases b<;>cases ev
theorem uk{a:Expr}{lo hi:Option Expr}{l h:Option Int}{p2 pos:Pos}{x r:RV}(ha:aK X Hi τ a x)(hl:t6 X Hi τ lo l)(hh:t6 X Hi τ hi h)(e:slice x l h=some r):aK X Hi τ (.Subscript a (.Slice lo hi none p2) pos) r:=by
 unfold slice at e
 split at e
 case h_1 z ev =>
  split at e
  ·rename_i hz
   split at e
   ·rename_i k
    split at e
    ·rename_i hk
     cases e;refine dz um ha hl hh fun O σ H H2 u Q R s r1 q=>⟨z,r1.str R s ev,by rw[cF];exact hz,?_⟩;have e1:Txt.slice z none (some k)=(⟨(z.cps.toList.take k.toNat).toArray⟩:Str):=by
      refine UM.lq ?_;have:=sU z k.toNat;rw[show((k.toNat:Nat):Int)=k by omega]at this;rw[this]
     rw[e1];exact q _ _ (aB.refl _) ER
    ·cases e
   ·rename_i k
    split at e
    ·rename_i hk
     cases e;refine dz um ha hl hh fun O σ H H2 u Q R s r1 q=>⟨z,r1.str R s ev,by rw[cF];exact hz,?_⟩;have e1:Txt.slice z (some k) none=(⟨(z.cps.toList.drop k.toNat).toArray⟩:Str):=by
      refine UM.lq ?_;have:=sS z k.toNat;rw[show((k.toNat:Nat):Int)=k by omega]at this;rw[this]
     rw[e1];exact q _ _ (aB.refl _) ER
    ·cases e
   ·cases e
  ·cases e
 case h_2 ev =>
  cases ei:x.its with
  | none=>rw[ei]at e;cases e
  | some w =>
   obtain⟨xs,n⟩:=w;rw[ei]at e;cases e;refine dz xR ha hl hh fun O σ H H2 u Q R s r1 q=> ?_;obtain⟨p,us,rfl,l1,r2⟩:=r1.itsL R s ei ev;exact⟨p,us,rfl,l1,fun p3 hp=>q _ _ (aT hp _) (b9 s hp (r2.up.cut _ _))⟩
 case h_3 ev =>
  cases ei:x.its with
  | none=>rw[ei]at e;cases e
  | some w =>
   obtain⟨xs,n⟩:=w;rw[ei]at e;dsimp only at e
   split at e
   ·rename_i hw
    cases e;refine dz xQ ha hl hh fun O σ H H2 u Q R s r1 q=> ?_;obtain⟨p,us,rfl,l1,r2⟩:=r1.itsT R s ei ev;exact⟨p,us,rfl,l1,by rw[<- r2.len];exact hw,q _ _ (aB.refl _) (r1.whole R s ei ev)⟩
   ·rename_i hw
    cases e;refine dz An ha hl hh fun O σ H H2 u Q R s r1 q=> ?_;obtain⟨p,us,rfl,l1,r2⟩:=r1.itsT R s ei ev;refine⟨p,us,rfl,l1,by rw[<- r2.len];exact hw,fun p3 hp=>q _ _ (aT hp _) ?_⟩;exact Rp.tup.mpr ⟨p3,_,rfl,ba.of (iu R s hp),(r2.cut _ _).mono (aH (aT hp _))⟩
 case h_4=>cases e
end
end IR
namespace IR
open PySem L2
section
variable{X:Cx}{Hi:Hp}{τ:En}
end
end IR
namespace IR
open PySem PySem.Spec PyProof.Rows L2
section
variable{X:Cx}{Hi:Hp}{τ:En}
noncomputable def WI(X:Cx)(tg iter:Expr)(σ:L2.St)(H:Hp)(R:It->Hp->Prop):Prop:=∃wi,PI X tg iter wi/\wi σ H R
theorem xw{tg iter:Expr}:PI X tg iter (fun σ H R=>WI X tg iter σ H R):=fun pins s σ H R I ⟨wi,h,q⟩=>h pins s σ H R I q
noncomputable def qR(O:List Addr)(H:Hp):Prop:=∀l∈O,∃o,H l=some o/\Mo o
theorem ag.lsts{K:W.Frag}{O:List Addr}{σ:L2.St}{H:Hp}(R:ag K Hi O τ σ H):qR O H:=fun l hl=>(R.own l hl).2
noncomputable def zI(B:Hp)(H:Hp)(O:List Addr):Prop:=qR O H/\aB B (aQ H O)
noncomputable def OkB(B:Hp)(H:Hp)(O:List Addr):Prop:=qR O H/\aB B H
theorem qR.tups{O:List Addr}{H:Hp}(h:qR O H):qP H (aQ H O):=by
 refine gH.tups fun l hl=> ?_;obtain⟨us,e,mo⟩:=h l hl;exact mo.noTup e
variable(X Hi)in
structure iT(J:It)(Ok:Hp->List Addr->Prop)(xs:List PV)(n:Bool):Prop where
 go:∀(H:Hp)(O:List Addr)(i:Nat),Ok H O->i<xs.length->J.go i H
 stop:∀(H:Hp)(O:List Addr),Ok H O->J.stop xs.length H
 yld:∀(H:Hp)(O:List Addr)(i:Nat)(u:V)(H' :Hp),Ok H O->i<xs.length->J.yld i H u H' ->aB H H' /\∃x,xs[i]? =some x/\Rp X.K Hi n x (aQ H' O) u
variable(X Hi τ)in
noncomputable def gm(tg iter:Expr)(xs:List PV)(n b:Bool):Prop:=∀(O:List Addr)(σ:L2.St)(H:Hp)(R:It->Hp->Prop),ag X.K Hi O τ σ H ->
 (∀J H1,aB H H1->iT X Hi J (if b=true then OkB H1 else zI (aQ H1 O)) xs n->R J H1)->WI X tg iter σ H R
theorem AB{B:Hp}{p:Addr}{us:List V}{xs:List PV}{n:Bool}(l:bP X.K B p us)(r:aJ X.K Hi n xs B us):iT X Hi (Itl X.K p) (zI B) xs n where
 go:=fun H O i ok hi=>⟨us,us[i]'(by rw[<- r.len];exact hi),(ok.2.trans aL).seq l,by simp⟩
 stop:=fun H O ok=>⟨us,(ok.2.trans aL).seq l,by rw[r.len];exact Gr _⟩
 yld:=fun H O i u H' ok hi y=>by
  obtain⟨e,y⟩:=y;subst e;obtain⟨x,h1,h2⟩:=r.at' (y us ((ok.2.trans aL).seq l));exact⟨aB.refl _,x,h1,h2.mono ok.2⟩
theorem Fp{B:Hp}{p:Addr}{us:List V}{xs:List PV}{n:Bool}(l:ba X.K B p us)(r:aJ X.K Hi n xs B us):iT X Hi (Itt X.K p) (zI B) xs n where
 go:=fun H O i ok hi=>⟨us,us[i]'(by rw[<- r.len];exact hi),(ok.2.trans aL).tup l,by simp⟩
 stop:=fun H O ok=>⟨us,(ok.2.trans aL).tup l,by rw[r.len];exact Gr _⟩
 yld:=fun H O i u H' ok hi y=>by
  obtain⟨e,y⟩:=y;subst e;obtain⟨x,h1,h2⟩:=r.at' (y us ((ok.2.trans aL).tup l));exact⟨aB.refl _,x,h1,h2.mono ok.2⟩
theorem CO{B:Hp}{p:Addr}{us:List V}{xs:List PV}{n m:Bool}(l:bP X.K B p us)(r:aJ X.K Hi m xs B us)(im:imms xs=true):iT X Hi (Itl X.K p) (OkB B) xs n where
 go:=fun H O i ok hi=>⟨us,us[i]'(by rw[<- r.len];exact hi),ok.2.seq l,by simp⟩
 stop:=fun H O ok=>⟨us,ok.2.seq l,by rw[r.len];exact Gr _⟩
 yld:=fun H O i u H' ok hi y=>by
  obtain⟨e,y⟩:=y;subst e;have r2:aJ X.K Hi n xs (aQ H' O) us:=aJ.imm im ok.1.tups (r.mono ok.2);obtain⟨x,h1,h2⟩:=r2.at' (y us (ok.2.seq l));exact⟨aB.refl _,x,h1,h2⟩
theorem CN{B:Hp}{p:Addr}{us:List V}{xs:List PV}{n m:Bool}(l:ba X.K B p us)(r:aJ X.K Hi m xs B us)(im:imms xs=true):iT X Hi (Itt X.K p) (OkB B) xs n where
 go:=fun H O i ok hi=>⟨us,us[i]'(by rw[<- r.len];exact hi),ok.2.tup l,by simp⟩
 stop:=fun H O ok=>⟨us,ok.2.tup l,by rw[r.len];exact Gr _⟩
 yld:=fun H O i u H' ok hi y=>by
  obtain⟨e,y⟩:=y;subst e;have r2:aJ X.K Hi n xs (aQ H' O) us:=aJ.imm im ok.1.tups (r.mono ok.2);obtain⟨x,h1,h2⟩:=r2.at' (y us (ok.2.tup l));exact⟨aB.refl _,x,h1,h2⟩
theorem eT(z:Str):(signs z).length=z.cps.size:=by unfold signs;rw[Go,HJ]
theorem signs_at{z:Str}{i:Nat}{c:Nat}(h:z.cps[i]? =some c):(signs z)[i]? =some (.str ⟨#[c]⟩):=by
 unfold signs;rw[HG,HU,h];rfl
theorem Fq{B:Hp}{z:Str}{n:Bool}:iT X Hi (Gg z) (zI B) (signs z) n where
 go:=fun H O i ok hi=>by rw[eT]at hi;exact hi
 stop:=fun H O ok=>by show(signs z).length=z.cps.size;exact eT z
 yld:=fun H O i u H' ok hi y=>by
  obtain⟨e,c,hc,rfl⟩:=y;subst e;exact⟨aB.refl _,_,signs_at hc,Rp.str.mpr rfl⟩
theorem rh{B:Hp}{lo:Int}{k:Nat}{n:Bool}:iT X Hi (Gi lo k) (zI B) ((List.range k).map fun i=>.int (lo+(i:Nat))) n where
 go:=fun H O i ok hi=>by show i<k;simpa using hi
 stop:=fun H O ok=>by show k<=_;simp
 yld:=fun H O i u H' ok hi y=>by
  obtain⟨e,rfl⟩:=y;subst e;have hi:i<k:=by simpa using hi
  exact⟨aB.refl _,_,by rw[HG,II hi];rfl,Rp.int.mpr rfl⟩
theorem wH{B:Hp}{lo c:Int}{k:Nat}{n:Bool}:iT X Hi (Itc lo c k) (zI B) ((List.range k).map fun i=>.int (lo+(i:Nat)*c)) n where
 go:=fun H O i ok hi=>by show i<k;simpa using hi
 stop:=fun H O ok=>by show _=k;simp
 yld:=fun H O i u H' ok hi y=>by
  obtain⟨e,rfl⟩:=y;subst e;have hi:i<k:=by simpa using hi
  exact⟨aB.refl _,_,by rw[HG,II hi];rfl,Rp.int.mpr rfl⟩
theorem Ap{tg e:Expr}{r:RV}{xs:List PV}{n b:Bool}(he:aK X Hi τ e r)(h:lB r=some (xs,n,b)):gm X Hi τ tg e xs n b:=by
 intro O σ H R Rl q;cases r with
 | frz v m =>
  cases v with
  | str z =>
   cases h;refine⟨_,BB ae,?_⟩;exact he O σ H _ Rl fun u H1 s1 r1=>⟨z,r1.str Rl s1 rfl,q _ _ s1 Fq⟩
  | lst ys =>
   cases h;refine⟨_,mI ae,?_⟩;refine he O σ H _ Rl fun u H1 s1 r1=> ?_;obtain⟨p,us,rfl,_,l,r⟩:=Rp.lst.mp (show Rp X.K Hi n (.lst xs) (aQ H1 O) u from r1);exact⟨p,rfl,⟨us,(aL (O:=O)).seq l⟩,q _ _ s1 (AB l (r.mono bH))⟩
  | tup ys =>
   cases h;refine⟨_,vF ae,?_⟩;refine he O σ H _ Rl fun u H1 s1 r1=> ?_;obtain⟨p,us,rfl,l,r⟩:=Rp.tup.mp (show Rp X.K Hi n (.tup xs) (aQ H1 O) u from r1);exact⟨p,rfl,⟨us,(aL (O:=O)).tup l⟩,q _ _ s1 (Fp l r)⟩
  | _=>cases h
 | bor v =>
  cases v with
  | lst ys =>
   have h:(if imms ys then some (ys,true,true)else none)=some (xs,n,b):=h
   split at h
   ·rename_i im
    cases h;refine⟨_,mI ae,?_⟩;refine he O σ H _ Rl fun u H1 s1 r1=> ?_;obtain⟨p,us,rfl,_,l,r⟩:=Rp.lst.mp (show Rp X.K Hi false (.lst xs) H1 u from r1);exact⟨p,rfl,⟨us,l⟩,q _ _ s1 (CO l (r.mono bH) im)⟩
   ·cases h
  | tup ys =>
   have h:(if imms ys then some (ys,true,true)else none)=some (xs,n,b):=h
   split at h
   ·rename_i im
    cases h;refine⟨_,vF ae,?_⟩;refine he O σ H _ Rl fun u H1 s1 r1=> ?_;obtain⟨p,us,rfl,l,r⟩:=Rp.tup.mp (show Rp X.K Hi false (.tup xs) H1 u from r1);exact⟨p,rfl,⟨us,l⟩,q _ _ s1 (CN l r im)⟩
   ·cases h
  | _=>cases h
 | owd bd ys m=>cases h
 | own ys m =>
  cases h;refine⟨_,mI ae,?_⟩;refine he O σ H _ Rl fun u H1 s1 r1=> ?_;obtain⟨p,us,rfl,h0,h1,r⟩:=r1;have hl:aQ H1 O p=some (.lst us):=by
   unfold aQ;rw[Gq fun z=> ?_]
   ·exact h1
   ·obtain⟨vs,e',_⟩:=(Rl.own p z).2
    rw[h0]at e';cases e'
  exact⟨p,rfl,⟨us,bP.of h1⟩,q _ _ s1 (AB (bP.of hl) (r.mono (aH bH)))⟩
theorem Ax{cd:Nat->List PV->Option PV}{ct:Ct}(C:bQ cd X ct){tg:Expr}{es:List Expr}{p pos:Pos}{rs:List RV}{xs:List PV}(ho:own ct ("range":Str)=true)(hs:∀a∈es,isStar a=false)(ha:mx X Hi τ es rs)(hl:es.length=rs.length)(h:iW rs=some xs) :
  gm X Hi τ tg (.Call (.Name "range" p) es [] pos) xs true false:=by
 intro O σ H R Rl q;obtain⟨g,hm⟩:=fB C ho;unfold iW at h
 split at h
 ·rename_i ra
  cases e:ra.val with
  | int j =>
   simp only[e]at h
   split at h
   ·rename_i c
    cases h
    match es,hl with
    | [a],_ =>
     refine⟨_,sj g hm nR (aS (hs a (by simp))),?_⟩;refine ha O σ H _ Rl fun us H1 s1 r1=> ?_;obtain⟨u,vs,rfl,r2,z⟩:=r1;cases z;exact⟨j,by rw[r2.int Rl s1 e],c.1,c.2,q _ _ s1 rh⟩
   ·cases h
  | _=>simp only[e]at h;cases h
 ·rename_i ra rb
  cases e:ra.val with
  | int i =>
   cases e2:rb.val with
   | int j =>
    simp only[e,e2]at h
    split at h
    ·rename_i c
     cases h
     match es,hl with
     | [a,b],_ =>
      have h1:starEach [a,b] X.env=[(false,eval a X.env),(false,eval b X.env)]:=by rw[aS (hs a (by simp)),aS (hs b (by simp))];rfl
      refine⟨_,si g hm nR h1 (aS (hs b (by simp))),?_⟩;refine ha O σ H _ Rl fun us H1 s1 r1=> ?_;obtain⟨u,vs,rfl,r2,u2,vs2,rfl,r3,z⟩:=r1;cases z;exact⟨i,j,by rw[r2.int Rl s1 e,r3.int Rl s1 e2],c,q _ _ s1 rh⟩
    ·cases h
   | _=>simp only[e,e2]at h;cases h
  | _=>simp only[e]at h;cases h
 ·rename_i ra rb rc
  cases e:ra.val with
  | int i =>
   cases e2:rb.val with
   | int j =>
    cases e3:rc.val with
    | int k =>
     simp only[e,e2,e3]at h
     split at h
     ·rename_i c
      cases h
      match es,hl with
      | [a,b,d],_ =>
       refine⟨_,sh g hm nR (aS (hs a (by simp))) (eU fun z hz=>hs z (by simp at hz ⊢;rcases hz with rfl|rfl<;>simp)),?_⟩;refine ha O σ H _ Rl fun us H1 s1 r1=> ?_;obtain⟨u,vs,rfl,r2,u2,vs2,rfl,r3,u3,vs3,rfl,r4,z⟩:=r1;cases z;exact⟨i,j,k,by rw[r2.int Rl s1 e,r3.int Rl s1 e2,r4.int Rl s1 e3],c.1,c.2.1,c.2.2,q _ _ s1 wH⟩
     ·cases h
    | _=>simp only[e,e2,e3]at h;cases h
   | _=>simp only[e,e2]at h;cases h
  | _=>simp only[e]at h;cases h
 ·cases h
theorem iq{O:List Addr}{σ:L2.St}{H H1:Hp}{r:RV}{xs:List PV}{n:Bool}{u:V}(R:ag X.K Hi O τ σ H)(s:aB H H1)(h:nr r=some (xs,n))(ok:aa X.K Hi O H H1 r u):∃p us,u=.ref p/\bP X.K (aQ H1 O) p us/\aJ X.K Hi n xs (aQ H1 O) us:=by
 cases r with
 | frz v m =>
  cases v with
  | lst ys =>
   cases h;obtain⟨p,us,rfl,_,l,r⟩:=Rp.lst.mp (show Rp X.K Hi n (.lst xs) (aQ H1 O) u from ok);exact⟨p,us,rfl,l,r.mono bH⟩
  | _=>cases h
 | bor v=>cases h
 | owd bd ys m=>cases h
 | own ys m =>
  cases h;obtain⟨p,us,rfl,h0,h1,r⟩:=ok;have hl:aQ H1 O p=some (.lst us):=by
   unfold aQ;rw[Gq fun z=> ?_]
   ·exact h1
   ·obtain⟨vs,e',_⟩:=(R.own p z).2
    rw[h0]at e';cases e'
  exact⟨p,us,rfl,bP.of hl,r.mono (aH bH)⟩
theorem io{O:List Addr}{H:Hp}{p:Addr}{us:List V}{xs:List PV}{n:Bool}(l:qR O H)(hp:H p=none)(r:aJ X.K Hi n xs (aQ H O) us):Rp X.K Hi n (.tup xs) (aQ (L2.upd H p (.tup us)) O) (.ref p):=by
 refine Rp.tup.mpr ⟨p,us,rfl,ba.of ?_,r.mono (aH (aT hp _))⟩;unfold aQ;rw[Gq fun z=> ?_]
 ·exact am
 ·obtain⟨us,e,_⟩:=l p z
  rw[e]at hp;cases hp
theorem AI{cd:Nat->List PV->Option PV}{ct:Ct}(C:bQ cd X ct){ts:List Expr}{kt:Nat}{tpos:Pos}{a b:Expr}{p pos:Pos}{ra rb:RV}{xs:List PV}{n:Bool}(ho:own ct ("zip":Str)=true)(hs:isStar a=false)(hs2:isStar b=false)(ha:aK X Hi τ a ra)(hb:aK X Hi τ b rb)(h:uC ra rb=some (xs,n)) :
  gm X Hi τ (.Tuple ts kt tpos) (.Call (.Name "zip" p) [a,b] [] pos) xs n false:=by
 intro O σ H R Rl q;obtain⟨g,hm⟩:=fB C ho;unfold uC at h
 split at h
 ·rename_i ys n1 zs n2 e1 e2
  split at h
  ·rename_i hlen
   cases h;refine⟨_,BA g hm (aN ae (aN ae az (aS hs2)) (aS hs)) (aS hs) (eU fun c hc=>by simp at hc;subst hc;exact hs2),?_⟩;refine ha O σ H _ Rl fun u H1 s1 r1=>hb O σ H1 _ (Rl.ext s1) fun v H2 s2 r2=> ?_;obtain⟨p1,us,rfl,l1,q1⟩:=iq Rl (s1.trans s2) e1 (r1.ext s2);obtain⟨p2,vs,rfl,l2,q2⟩:=iq Rl (s1.trans s2) e2 (r2.back s1);refine⟨p1,p2,us,vs,rfl,(aL (O:=O)).seq l1,(aL (O:=O)).seq l2,q _ _ (s1.trans s2) ?_⟩;have z1:=q1.len;have z2:=q2.len;have zl:(List.zipWith qx ys zs).length=us.length:=by rw[JT,<-hlen,JZ];exact z1
   refine⟨fun G P i ok hi=> ?_,fun G P ok=> ?_,fun G P i w G' ok hi y=> ?_⟩
   ·rw[zl]at hi
    exact⟨us,vs,us[i],vs[i]'(by omega),(ok.2.trans aL).seq l1,(ok.2.trans aL).seq l2,by simp,by simp⟩
   ·exact⟨us,vs,(ok.2.trans aL).seq l1,(ok.2.trans aL).seq l2,.inl (by rw[zl];exact Gr _)⟩
   ·rw[zl]at hi
    obtain⟨p3,hp3,rfl,y⟩:=y;have e:=y us vs us[i] (vs[i]'(by omega)) ((ok.2.trans aL).seq l1) ((ok.2.trans aL).seq l2) (by simp) (by simp);subst e;obtain⟨x1,hx1,rx1⟩:=q1.at' (i:=i) (u:=us[i]) (by simp);obtain⟨x2,hx2,rx2⟩:=q2.at' (i:=i) (u:=vs[i]'(by omega)) (by simp);refine⟨aT hp3 _,qx x1 x2,by rw[Ir,hx1,hx2],io ok.1 hp3 (.cons ((rx1.mono ok.2).low fun z=> ?_) (.cons ((rx2.mono ok.2).low fun z=> ?_) .nil))⟩
    ·rw[Gv]at z;exact z.1
    ·rw[Gv]at z;exact z.2
  ·cases h
 ·cases h
theorem xW{cd:Nat->List PV->Option PV}{ct:Ct}(C:bQ cd X ct){tg:Expr}{a:Expr}{p pos:Pos}{ra:RV}{ys:List PV}{n:Bool}(ho:own ct ("reversed":Str)=true)(hs:isStar a=false)(ha:aK X Hi τ a ra)(h:nr ra=some (ys,n)) :
  gm X Hi τ tg (.Call (.Name "reversed" p) [a] [] pos) ys.reverse n false:=by
 intro O σ H R Rl q;obtain⟨g,hm⟩:=fB C ho;refine⟨_,BC g hm (aN ae az (aS hs)) (aS hs),?_⟩;refine ha O σ H _ Rl fun u H1 s1 r1=> ?_;obtain⟨p1,us,rfl,l,r⟩:=iq Rl s1 h r1;refine⟨p1,us,rfl,(aL (O:=O)).seq l,q _ _ s1 ?_⟩;have hsl:=r.len;refine⟨fun G P i ok hi=> ?_,fun G P ok=> ?_,fun G P i w G' ok hi y=> ?_⟩
 ·rw[I0]at hi
  exact⟨by omega,us,(ok.2.trans aL).seq l,rfl⟩
 ·exact⟨by rw[I0];exact hsl,us,(ok.2.trans aL).seq l,rfl⟩
 ·rw[I0]at hi
  obtain⟨rfl,y⟩:=y;have e:=y us ((ok.2.trans aL).seq l) rfl;obtain⟨x1,hx1,rx1⟩:=r.at' e;refine⟨aB.refl _,x1,?_,rx1.mono ok.2⟩;rw[List.getElem?_reverse hi,hsl];exact hx1
theorem xV{cd:Nat->List PV->Option PV}{ct:Ct}(C:bQ cd X ct){tg:Expr}{a:Expr}{p pos:Pos}{ys:List PV}{n:Bool}(ho:own ct ("reversed":Str)=true)(hs:isStar a=false)(ha:aK X Hi τ a (.frz (.tup ys) n)) :
  gm X Hi τ tg (.Call (.Name "reversed" p) [a] [] pos) ys.reverse n false:=by
 intro O σ H R Rl q;obtain⟨g,hm⟩:=fB C ho;refine⟨_,BD g hm (aN ae az (aS hs)) (aS hs),?_⟩;refine ha O σ H _ Rl fun u H1 s1 r1=> ?_;obtain⟨p1,us,rfl,l,r⟩:=Rp.tup.mp (show Rp X.K Hi n (.tup ys) (aQ H1 O) u from r1);refine⟨p1,us,rfl,(aL (O:=O)).tup l,q _ _ s1 ?_⟩;have hsl:=r.len;refine⟨fun G P i ok hi=> ?_,fun G P ok=> ?_,fun G P i w G' ok hi y=> ?_⟩
 ·rw[I0]at hi
  exact⟨by omega,us,(ok.2.trans aL).tup l,rfl⟩
 ·exact⟨by rw[I0];exact hsl,us,(ok.2.trans aL).tup l,rfl⟩
 ·rw[I0]at hi
  obtain⟨rfl,y⟩:=y;have e:=y us ((ok.2.trans aL).tup l) rfl;obtain⟨x1,hx1,rx1⟩:=r.at' e;refine⟨aB.refl _,x1,?_,rx1.mono ok.2⟩;rw[List.getElem?_reverse hi,hsl];exact hx1
theorem xX{r:RV}{ys:List PV}{n:Bool}(h:DY r=some (ys,n)):r=.frz (.tup ys) n\/nr r=some (ys,n):=by
 unfold DY at h
 split at h
 ·cases h
  exact .inl rfl
 ·exact .inr h
theorem As{cd:Nat->List PV->Option PV}{ct:Ct}(C:bQ cd X ct){tg:Expr}{a:Expr}{p pos:Pos}{ra:RV}{ys:List PV}{n:Bool}(ho:own ct ("reversed":Str)=true)(hs:isStar a=false)(ha:aK X Hi τ a ra)(h:DY ra=some (ys,n)) :
  gm X Hi τ tg (.Call (.Name "reversed" p) [a] [] pos) ys.reverse n false:=by
 rcases xX h with e|e
 ·rw[e]at ha
  exact xV C ho hs ha
 ·exact xW C ho hs ha e
theorem yf{cd:Nat->List PV->Option PV}{ct:Ct}(C:bQ cd X ct){ts:List Expr}{kt:Nat}{tpos:Pos}{a:Expr}{p pos:Pos}{ra:RV}{xs:List PV}{n:Bool}(ho:own ct ("enumerate":Str)=true)(hs:isStar a=false)(ha:aK X Hi τ a ra)(h:lP ra=some (xs,n)) :
  gm X Hi τ (.Tuple ts kt tpos) (.Call (.Name "enumerate" p) [a] [] pos) xs n false:=by
 intro O σ H R Rl q;obtain⟨g,hm⟩:=fB C ho;unfold lP at h
 split at h
 ·rename_i z m
  cases h;refine⟨_,vH g hm (aN ae az (aS hs)) (aS hs),?_⟩;refine ha O σ H _ Rl fun u H1 s1 r1=>⟨z,by rw[r1.str Rl s1 rfl],q _ _ s1 ?_⟩;have zl:(List.zipWith dk (List.range z.length) (signs z)).length=z.length:=by rw[JT,eT,Ht];exact JZ _
  have hsl:(cB z).length=z.length:=jF z;refine⟨fun G P i ok hi=> ?_,fun G P ok=> ?_,fun G P i w G' ok hi y=> ?_⟩
  ·rw[zl]at hi
   exact⟨_,(cB z)[i]'(by omega),rfl,by simp⟩
  ·exact⟨_,rfl,by rw[zl,hsl]⟩
  ·rw[zl]at hi
   obtain⟨p3,hp3,rfl,y⟩:=y;have hz:i<z.cps.size:=hi;obtain⟨c,hc⟩:∃c,z.cps[i]? =some c:=⟨z.cps[i],by simp[hz]⟩;have hv:(cB z)[i]? =some (.str ⟨#[c]⟩):=by
    unfold cB;rw[HG,HU,hc];rfl
   have e:=y _ (.str ⟨#[c]⟩) rfl hv;subst e;refine⟨aT hp3 _,dk i (.str ⟨#[c]⟩),by rw[Ir,signs_at hc,II hi],io ok.1 hp3 (.cons (Rp.int.mpr rfl) (.cons (Rp.str.mpr rfl) .nil))⟩
 ·rename_i ys m
  cases h;refine⟨_,vG g hm (aN ae az (aS hs)) (aS hs),?_⟩;refine ha O σ H _ Rl fun u H1 s1 r1=> ?_;obtain⟨p1,us,rfl,l,r⟩:=Rp.tup.mp (show Rp X.K Hi n (.tup ys) (aQ H1 O) u from r1);refine⟨p1,us,rfl,(aL (O:=O)).tup l,q _ _ s1 ?_⟩;have zl:(List.zipWith dk (List.range ys.length) ys).length=ys.length:=by rw[JT,Ht];exact JZ _
  have hsl:=r.len;refine⟨fun G P i ok hi=> ?_,fun G P ok=> ?_,fun G P i w G' ok hi y=> ?_⟩
  ·rw[zl]at hi
   exact⟨us,us[i]'(by omega),(ok.2.trans aL).tup l,by simp⟩
  ·exact⟨us,(ok.2.trans aL).tup l,by rw[zl,hsl]⟩
  ·rw[zl]at hi
   obtain⟨p3,hp3,rfl,y⟩:=y;have hv:us[i]? =some (us[i]'(by omega)):=by simp
   have e:=y us _ ((ok.2.trans aL).tup l) hv;subst e;obtain⟨x1,hx1,rx1⟩:=r.at' hv;exact⟨aT hp3 _,dk i x1,by rw[Ir,hx1,II hi],io ok.1 hp3 (.cons (Rp.int.mpr rfl) (.cons (rx1.mono ok.2) .nil))⟩
 ·split at h
  ·rename_i ys m e1
   cases h;refine⟨_,vI g hm (aN ae az (aS hs)) (aS hs),?_⟩;refine ha O σ H _ Rl fun u H1 s1 r1=> ?_;obtain⟨p1,us,rfl,l,r⟩:=iq Rl s1 e1 r1;refine⟨p1,us,rfl,(aL (O:=O)).seq l,q _ _ s1 ?_⟩;have zl:(List.zipWith dk (List.range ys.length) ys).length=ys.length:=by rw[JT,Ht];exact JZ _
   have hsl:=r.len;refine⟨fun G P i ok hi=> ?_,fun G P ok=> ?_,fun G P i w G' ok hi y=> ?_⟩
   ·rw[zl]at hi
    exact⟨us,us[i]'(by omega),(ok.2.trans aL).seq l,by simp⟩
   ·exact⟨us,(ok.2.trans aL).seq l,by rw[zl,hsl]⟩
   ·rw[zl]at hi
    obtain⟨p3,hp3,rfl,y⟩:=y;have hv:us[i]? =some (us[i]'(by omega)):=by simp
    have e:=y us _ ((ok.2.trans aL).seq l) hv;subst e;obtain⟨x1,hx1,rx1⟩:=r.at' hv;exact⟨aT hp3 _,dk i x1,by rw[Ir,hx1,II hi],io ok.1 hp3 (.cons (Rp.int.mpr rfl) (.cons (rx1.mono ok.2) .nil))⟩
  ·cases h
theorem gN{N:List Str}:∀{xs:List Str}{is:List Nat},slots N xs=some is->xs.length=is.length
 | [],is,h=>by cases h;rfl
 | x::xs,is,h=>by
  unfold slots at h;cases e:slot N x with
  | none=>rw[e]at h;cases h
  | some i =>
   rw[e]at h;cases e2:slots N xs with
   | none=>simp[e2]at h
   | some js =>
    simp[e2]at h;subst h;simp[gN e2]
theorem nF{N:List Str}:∀{xs:List Str}{is:List Nat}{j i:Nat},slots N xs=some is->is[j]? =some i->∃x,xs[j]? =some x/\N[i]? =some x
 | [],is,j,i,h,hj=>by cases h;simp at hj
 | x::xs,is,j,i,h,hj=>by
  unfold slots at h;cases e:slot N x with
  | none=>rw[e]at h;cases h
  | some i0 =>
   rw[e]at h;cases e2:slots N xs with
   | none=>simp[e2]at h
   | some js =>
    simp[e2]at h;subst h;cases j with
    | zero =>
     simp at hj;subst hj;exact⟨x,by simp,eS e⟩
    | succ j=>simpa using nF e2 (by simpa using hj)
theorem jO{ct:Ct}{t:Str}{scope:Scope}(h:tH ct t scope=true):scope.kind=.function/\(∀y∈scope.names,y.2=.cell->scope.names.lookup y.1=some .cell)/\(∀y∈scope.names,y.2=.local->scope.names.lookup y.1=some .local) /\
  (∀y∈scope.names,y.2=.free->(ct.S.lookup y.1=some .cell\/ct.S.lookup y.1=some .free))/\(t::frees scope).Nodup/\(scope.names.lookup t=some .local\/scope.names.lookup t=some .cell)/\∀x∈frees scope,scope.names.lookup x=some .free:=by
 unfold tH at h;simp only[Gv]at h;obtain⟨⟨⟨⟨⟨⟨h1,h2⟩,h3⟩,h4⟩,h5⟩,h6⟩,h7⟩:=h;refine⟨HN h1,fun y hy e=> ?_,fun y hy e=> ?_,fun y hy e=> ?_,Jz h5,by simpa using h6,fun x hx=> ?_⟩
 ·have:=HK.mp h2 y hy
  rw[e]at this
  simpa using this
 ·have:=HK.mp h3 y hy
  rw[e]at this
  simpa using this
 ·have:=HK.mp h4 y hy
  rw[e]at this
  simpa using this
 ·have:=HK.mp h7 x hx
  simpa using this
theorem fe{env:Env}:∀{names:List (Str×NameKind)}{x:Str},names.lookup x=some .cell ->
  (names.map fun(n,k)=>if(k==NameKind.free&&env.scope.kind== .function&&env.kindOf n==some .cell)then(n,NameKind.cell)else(n,k)).lookup x=some .cell
 | [],_,h=>by simp at h
 | (n,k)::r,x,h=>by
  have ih:= @fe env r x;show List.lookup x ((if(k==NameKind.free&&env.scope.kind== .function&&env.kindOf n==some .cell)=true then(n,NameKind.cell)else(n,k))::_)=_;cases hx:x==n with
  | true =>
   simp only[Hl,hx]at h;cases h;rw[Gq (by simp)];simp only[Hl,hx]
  | false =>
   simp only[Hl,hx]at h
   by_cases hc:(k==NameKind.free&&env.scope.kind== .function&&env.kindOf n==some .cell)=true
   ·rw[Gu hc];simp only[Hl,hx];exact ih h
   ·rw[Gq hc];simp only[Hl,hx];exact ih h
theorem lm{N' :List Str}{scope:Scope}{Cf:Addr}{s2:Shared}{H2:Hp}{fp:List Addr}{cl:List (Str×Addr)}{t:Str}(h:scope.names.lookup t=some .local\/scope.names.lookup t=some .cell):L2.Loc (bF X N' scope Cf s2 H2 fp cl).env.scope t:=by
 rcases h with h|h
 ·exact .inl (lookup_relabel_local h)
 ·exact .inr (fe h)
theorem pF{N' :List Str}{scope:Scope}{Cf:Addr}{s2:Shared}{H2:Hp}{fp:List Addr}{cl:List (Str×Addr)}{t:Str}(h:scope.names.lookup t=some .local\/scope.names.lookup t=some .cell):(bF X N' scope Cf s2 H2 fp cl).fn t=true\/(bF X N' scope Cf s2 H2 fp cl).env.scope.names.lookup t=some .local:=by
 rcases h with h|h
 ·exact .inr (lookup_relabel_local h)
 ·left
  show(scope.names.lookup t==some .cell)=true;rw[h];rfl
theorem bQ.blk{cd:Nat->List PV->Option PV}{ct:Ct}(C:bQ cd X ct){t:Str}{scope:Scope}(h:tH ct t scope=true)(Cf:Addr)(s2:Shared)(H2:Hp)(fp:List Addr)(cl:List (Str×Addr)):bQ cd (bF X (t::frees scope) scope Cf s2 H2 fp cl) (blk ct t scope):=by
 obtain⟨h1,h2,h3,h4,h5,h6,h7⟩:=jO h;refine⟨rfl,h5,?_,h1,C.calm,C.glob,C.bl,C.fns,PassesOwn.never,C.un⟩;show(scope.names.map fun(n,k)=>if(k==NameKind.free&&X.env.scope.kind== .function&&X.env.kindOf n==some .cell)then(n,NameKind.cell)else(n,k))=lD ct.S scope.names;unfold lD;refine Hw fun y hy=> ?_;obtain⟨n,k⟩:=y;have e:(X.env.scope.kind==ScopeKind.function)=true:=by rw[C.kind];rfl
 have e2:X.env.kindOf n=ct.S.lookup n:=by
  show X.env.scope.names.lookup n=_;rw[C.S]
 dsimp only;rw[e,e2]
theorem gW{ct:Ct}{t t2:Str}{scope:Scope}(h:lK ct t t2 scope=true):scope.kind=.function/\(∀y∈scope.names,y.2=.cell->scope.names.lookup y.1=some .cell)/\(∀y∈scope.names,y.2=.local->scope.names.lookup y.1=some .local) /\
  (∀y∈scope.names,y.2=.free->(ct.S.lookup y.1=some .cell\/ct.S.lookup y.1=some .free))/\(t::t2::frees scope).Nodup/\(scope.names.lookup t=some .local\/scope.names.lookup t=some .cell)/\(scope.names.lookup t2=some .local\/scope.names.lookup t2=some .cell)/\∀x∈frees scope,scope.names.lookup x=some .free:=by
 unfold lK at h;simp only[Gv]at h;obtain⟨⟨⟨⟨⟨⟨⟨h1,h2⟩,h3⟩,h4⟩,h5⟩,h6⟩,h8⟩,h7⟩:=h;refine⟨HN h1,fun y hy e=> ?_,fun y hy e=> ?_,fun y hy e=> ?_,Jz h5,by simpa using h6,by simpa using h8,fun x hx=> ?_⟩
 ·have:=HK.mp h2 y hy
  rw[e]at this
  simpa using this
 ·have:=HK.mp h3 y hy
  rw[e]at this
  simpa using this
 ·have:=HK.mp h4 y hy
  rw[e]at this
  simpa using this
 ·have:=HK.mp h7 x hx
  simpa using this
theorem bQ.blk2{cd:Nat->List PV->Option PV}{ct:Ct}(C:bQ cd X ct){t t2:Str}{scope:Scope}(h:lK ct t t2 scope=true)(Cf:Addr)(s2:Shared)(H2:Hp)(fp:List Addr)(cl:List (Str×Addr)):bQ cd (bF X (t::t2::frees scope) scope Cf s2 H2 fp cl) (blk2 ct t t2 scope):=by
 obtain⟨h1,h2,h3,h4,h5,h6,h8,h7⟩:=gW h;refine⟨rfl,h5,?_,h1,C.calm,C.glob,C.bl,C.fns,PassesOwn.never,C.un⟩;show(scope.names.map fun(n,k)=>if(k==NameKind.free&&X.env.scope.kind== .function&&X.env.kindOf n==some .cell)then(n,NameKind.cell)else(n,k))=lD ct.S scope.names;unfold lD;refine Hw fun y hy=> ?_;obtain⟨n,k⟩:=y;have e:(X.env.scope.kind==ScopeKind.function)=true:=by rw[C.kind];rfl
 have e2:X.env.kindOf n=ct.S.lookup n:=by
  show X.env.scope.names.lookup n=_;rw[C.S]
 dsimp only;rw[e,e2]
theorem i9{cd:Nat->List PV->Option PV}{ct:Ct}(C:bQ cd X ct){scope:Scope}:∀{xs:List Str}{caps:List Nat},slots ct.N xs=some caps->(∀x∈xs,scope.names.lookup x=some .free/\(ct.S.lookup x=some .cell\/ct.S.lookup x=some .free))->bR X scope xs (caps.map some)
 | [],caps,h,_=>by cases h;exact True.intro
 | x::xs,caps,h,k=>by
  unfold slots at h;cases e:slot ct.N x with
  | none=>rw[e]at h;cases h
  | some i0 =>
   rw[e]at h;cases e2:slots ct.N xs with
   | none=>simp[e2]at h
   | some js =>
    simp[e2]at h;subst h;obtain⟨k1,k2⟩:=k x Gw;exact⟨⟨by rw[C.N];exact eS e,k1,by rw[C.S];exact k2⟩,i9 C e2 fun y hy=>k y (Gs _ hy)⟩
theorem vW{t:TV}{x:Bd×List PV×Bool}(h:t.ob=some x):t≠.un:=fun e=>by subst e;cases h
theorem ag.block{K:W.Frag}{O:List Addr}{σ:L2.St}{H:Hp}{caps:List Nat}{x:PV}{n:Bool}{u:V}(R:ag K Hi O τ σ H)(nd:caps.Nodup)(r:Rp K Hi n x (aQ H O) u) :
  ag K Hi O (.frz x n::caps.map fun i=>τ.getD i .un) (some u::bO (caps.map some) σ) H:=by
 have hτ:∀(j:Nat)(v:TV),(caps.map fun i=>τ.getD i .un)[j]? =some v->v≠.un->∃i,caps[j]? =some i/\τ[i]? =some v:=fun j v e hv=>by
  rw[HG]at e;cases ec:caps[j]? with
  | none=>rw[ec]at e;cases e
  | some i =>
   rw[ec]at e;refine⟨i,rfl,?_⟩;have e:τ.getD i .un=v:=HM e;rw[Hb]at e;cases et:τ[i]? with
   | none=>rw[et]at e;exact absurd e.symm hv
   | some w=>rw[et]at e;exact Ia some e
 have hσ:∀(j i:Nat),caps[j]? =some i->(bO (caps.map some) σ)[j]? =some ((σ[i]?).join):=fun j i e=>by
  unfold bO;rw[HG,HG,e];rfl
 refine⟨R.same,R.own,fun j v m e=> ?_,fun j t bd ys m e ht=> ?_,fun a b t t' x1 y1 l e1 ht e2 ht' h1 h2=> ?_⟩
 ·cases j with
  | zero =>
   simp at e;obtain⟨rfl,rfl⟩:=e;exact⟨u,by simp,r⟩
  | succ j =>
   obtain⟨i,h1,h2⟩:=hτ j _ (by simpa using e) (by simp);obtain⟨w,h3,h4⟩:=R.frz i v m h2;exact⟨w,by rw[JV,hσ j i h1,h3];rfl,h4⟩
 ·cases j with
  | zero =>
   simp at e;subst e;cases ht
  | succ j =>
   obtain⟨i,h1,h2⟩:=hτ j _ (by simpa using e) (vW ht);obtain⟨l,us,o,h3,h4⟩:=R.obs i t bd ys m h2 ht;exact⟨l,us,o,by rw[JV,hσ j i h1,h3];rfl,h4⟩
 ·cases a with
  | zero =>
   simp at e1;subst e1;cases ht
  | succ a =>
   cases b with
   | zero =>
    simp at e2;subst e2;cases ht'
   | succ b =>
    obtain⟨i,c1,c2⟩:=hτ a _ (by simpa using e1) (vW ht);obtain⟨j,d1,d2⟩:=hτ b _ (by simpa using e2) (vW ht');rw[JV,hσ a i c1]at h1;rw[JV,hσ b j d1]at h2;obtain⟨b1,xs1,n1⟩:=x1;obtain⟨b2,xs2,n2⟩:=y1;obtain⟨l1,us1,o1,g1,_⟩:=R.obs i t b1 xs1 n1 c2 ht;obtain⟨l2,us2,o2,g2,_⟩:=R.obs j t' b2 xs2 n2 d2 ht';rw[g1]at h1;rw[g2]at h2;cases h1;cases h2;have e:=R.dst i j t t' _ _ l c2 ht d2 ht' g1 g2;subst e
    congr 1
    have ha:a<caps.length:=(G9.mp c1).1;have hb:b<caps.length:=(G9.mp d1).1;have e1:caps[a]=i:=by rw[HA ha]at c1;exact HM c1
    have e2:caps[b]=i:=by rw[HA hb]at d1;exact HM d1
    exact(List.getElem_inj nd).mp (e1.trans e2.symm)
theorem fO{N:List Str}:∀{xs:List Str}{caps:List Nat},slots N xs=some caps->xs.Nodup->caps.Nodup
 | [],caps,h,_=>by cases h;exact List.nodup_nil
 | x::xs,caps,h,nd=>by
  unfold slots at h;cases e:slot N x with
  | none=>rw[e]at h;cases h
  | some i0 =>
   rw[e]at h;cases e2:slots N xs with
   | none=>simp[e2]at h
   | some js =>
    simp[e2]at h;subst h;refine IP.mpr ⟨fun hm=> ?_,fO e2 (IP.mp nd).2⟩;obtain⟨k,hk⟩:=List.mem_iff_getElem?.mp hm;obtain⟨y,h1,h2⟩:=nF e2 hk;rw[eS e]at h2;cases h2;exact(IP.mp nd).1 (IN h1)
theorem ag.hide{K:W.Frag}{O:List Addr}{σ:L2.St}{H H' :Hp}{D:Addr}{us:List V}(R:ag K Hi O τ σ H)(s:aB H H')(h0:H D=none)(h1:H' D=some (.lst us)):ag K Hi (D::O) τ σ H' :=by
 have hs:aB (aQ H O) (aQ H' (D::O)):=fun b o e=>by
  unfold aQ at e ⊢
  split at e
  ·cases e
  ·rename_i nb
   have ne:b≠D:=aY e h0;rw[Gq (by simp[ne,nb])];exact s b o e
 refine⟨R.same.trans s,fun l hl=> ?_,fun i v n e=> ?_,fun i t b xs n e ht=> ?_,R.dst⟩
 ·rcases HE.mp hl with rfl|hl
  ·exact⟨R.same.free h0,_,h1,.lst⟩
  ·obtain⟨q,vs,e,mo⟩:=R.own l hl
   exact⟨q,vs,s _ _ e,mo⟩
 ·obtain⟨u,g1,g2⟩:=R.frz i v n e
  exact⟨u,g1,g2.mono hs⟩
 ·obtain⟨l,vs,o,g1,g2,g3,g4,g5⟩:=R.obs i t b xs n e ht
  exact⟨l,vs,o,g1,Gs _ g2,s _ _ g3,g4,g5.mono hs⟩
theorem il{e:Expr}{env:Env}(h:cS e=false):∀x,foldedSetIterable e env x=pure x:=by
 intro x;cases e with
 | Set a b c=>cases h
 | _=>rfl
noncomputable def Fw(cd:Nat->List PV->Option PV)(ifs:AH)(elt:IE)(n:Bool)(aM:En):PV->Option (Option (PV×Bool)):=fun x=>(gZ cd ifs (.frz x (n||imm x)::aM)).bind fun b=>if b then(aP cd elt (.frz x (n||imm x)::aM)).bind fun r=>r.keep.map some else some none
theorem vh{cd:Nat->List PV->Option PV}{ctb:Ct}{Nn:List Str}{pre:List (Option Nat)}{tg iter elt:Expr}{ifs:List Expr}{ifs' :AH}{elt' :IE}{scope:Scope}{xs:List PV}{n b:Bool}{VS:List PV}{NN:Bool}{CF:PV->Option (Option (PV×Bool))}
  (gI:gm X Hi τ tg iter xs n b) (hz:xs.length<=LN) (hblk:∀(Cf:Addr)(s2:Shared)(H2:Hp)(fp:List Addr)(cl:List (Str×Addr)),bQ cd (bF X Nn scope Cf s2 H2 fp cl) ctb)
  (hifs:∀(X' :Cx)(τ' :En)(k:Bool),bQ cd X' ctb->gZ cd ifs' τ' =some k->∃tt,t5 X' ifs tt/\∀(O:List Addr)(σ:L2.St)(H:Hp)(Q:Bool->Hp->Prop),ag X'.K Hi O τ' σ H->(∀H',aB H H' ->Q k H')->tt σ H Q)
  (helt:∀(X' :Cx)(τ' :En)(r:RV),bQ cd X' ctb->aP cd elt' τ' =some r->aK X' Hi τ' elt r)
  (step:∀(O:List Addr)(σ:L2.St)(D:Addr)(x:PV)(r0:Option (PV×Bool))(u:V)(G' :Hp)(Cf:Addr)(s2:Shared)(H2:Hp)(fp:List Addr)(cl:List (Str×Addr)),CF x=some r0->ag X.K Hi (D::O) τ σ G' ->Rp X.K Hi n x (aQ G' (D::O)) u ->
   ∃(τx:En)(σx:L2.St)(g:TG),((gZ cd ifs' τx).bind fun t=>if t then(aP cd elt' τx).bind fun r=>r.keep.map some else some none)=some r0/\ag X.K Hi (D::O) τx σx G' /\PG (bF X Nn scope Cf s2 H2 fp cl) tg g /\
    ∀K:L2.St->Hp->Prop,K σx G' ->g u (bO pre σ) G' fun σ2 H3=>(σ2.length=Nn.length/\∀(j:Nat)(v:V),(bO pre σ)[j]? =some (some v)->σ2[j]? =some (some v))/\K σ2 H3)
  (hrun:cD CF xs=some (VS,NN)) (O:List Addr) (σ:L2.St) (H:Hp) (Q:VK) (R:ag X.K Hi O τ σ H) (q:∀u H',aB H H' ->aa X.K Hi O H H' (.own VS NN) u->Q u H'):Ah X Nn pre scope tg ifs elt (fun σ H R=>WI X tg iter σ H R) σ H Q:=by
 refine gI O σ H _ R fun J H1 s1 En=> ?_;intro D hD;have ok:∀(G:Hp)(ys:List V),aB H1 G->G D=some (.lst ys)->(if b=true then OkB H1 else zI (aQ H1 O)) G (D::O):=by
  intro G ys sG gD;have ls:qR (D::O) G:=fun l hl=>by
   rcases HE.mp hl with rfl|hl
   ·exact⟨_,gD,.lst⟩
   ·obtain⟨us,e,mo⟩:=(R.own l hl).2
    exact⟨us,sG _ _ (s1 _ _ e),mo⟩
  cases b with
  | true=>exact⟨ls,sG⟩
  | false =>
   refine⟨ls,fun c o e=> ?_⟩;unfold aQ at e ⊢
   split at e
   ·cases e
   ·rename_i nb
    have ne:c≠D:=aY e hD;rw[Gq (by simp[ne,nb])];exact sG c o e
 refine⟨fun i m ys G=>m=xs.length-i/\i<=xs.length/\aB H1 G/\G D=some (.lst ys)/\ys.length<=i/\∃dn ws mm,cD CF (xs.drop i)=some (ws,mm)/\VS=dn++ws/\(NN=true->mm=true)/\aJ X.K Hi NN dn (aQ G (D::O)) ys,
  ⟨xs.length,by simp,Hu _,aT hD _,am,Gr _,[],VS,NN,hrun,rfl,id,.nil⟩,?_⟩
 rintro i m ys G ⟨rfl,hi,sG,gD,hyl,dn,ws,mm,hc1,hv,hn,hr⟩
 by_cases hlt:i<xs.length
 ·refine .inr ⟨En.go G (D::O) i (ok G ys sG gD) hlt,fun u G' y=> ?_⟩
  obtain⟨sGG,x,hx,rx⟩:=En.yld G (D::O) i u G' (ok G ys sG gD) hlt y;intro Cf s2 H2 fp cl;have C' :=hblk Cf s2 H2 fp cl;have hd:xs.drop i=x::xs.drop (i+1):=by
   rw[IA hlt];rw[HA hlt]at hx;rw[HM hx]
  rw[hd]at hc1;unfold cD at hc1;cases hf:CF x with
  | none=>rw[hf]at hc1;cases hc1
  | some r0 =>
   rw[hf]at hc1;cases hcr:cD CF (xs.drop (i+1))with
   | none=>rw[hcr]at hc1;cases hc1
   | some w =>
    obtain⟨ws',mm'⟩:=w;rw[hcr]at hc1;have gD' :G' D=some (.lst ys):=sGG _ _ gD;obtain⟨τx,σx,g,hf,RB,pg,hg⟩:=step O σ D x r0 u G' Cf s2 H2 fp cl hf (R.hide (s1.trans (sG.trans sGG)) (s1.free hD) gD') rx;cases hco:gZ cd ifs' τx with
    | none=>rw[hco]at hf;cases hf
    | some k =>
     rw[hco]at hf;obtain⟨tt,ptt,qtt⟩:=hifs _ _ _ C' hco;refine⟨g,tt,_,pg,ptt,ae,hg _ ?_⟩;refine qtt (D::O) _ G' _ RB fun G4 s4=> ?_;cases k with
     | false =>
      rw[Gq Gz];have hf:(some none:Option (Option (PV×Bool)))=some r0:=hf;cases hf;cases hc1;exact⟨xs.length-(i+1),by omega,rfl,hlt,sG.trans (sGG.trans s4),s4 _ _ gD',by omega,dn,ws,mm,hcr,hv,hn,hr.mono (aH (sGG.trans s4))⟩
     | true =>
      rw[Gu rfl];have hf:((aP cd elt' τx).bind fun r=>r.keep.map some)=some r0:=hf;cases he:aP cd elt' τx with
      | none=>rw[he]at hf;cases hf
      | some r =>
       rw[he]at hf;have hf:r.keep.map some=some r0:=hf;cases hk:r.keep with
       | none=>rw[hk]at hf;cases hf
       | some vn =>
        obtain⟨v,nv⟩:=vn;rw[hk]at hf;cases hf;have hc1:some (v::ws',nv&&mm')=some (ws,mm):=hc1;cases hc1;refine helt _ _ _ C' he (D::O) _ G4 _ (RB.ext s4) fun w G5 s5 r5=> ?_;have kp:=r5.keep (RB.ext s4) s5 hk;have gD5:=s5 _ _ (s4 _ _ gD');have sT:=sG.trans (sGG.trans (s4.trans s5));have hz' :xs.length<=16777216:=hz;refine⟨gD5,by rw[cF];omega,xs.length-(i+1),by omega,rfl,hlt,sT.upd hD,am,by rw[G6];simp;omega,dn++[v],ws',mm',hcr,by rw[hv];simp,fun z=> ?_,?_⟩
        ·have:=hn z
         rw[Gv]at this;exact this.2
        ·have e:aQ (L2.upd G5 D (.lst (ys++[w]))) (D::O)=aQ G5 (D::O):=by
          funext c
          unfold aQ
          split
          ·rfl
          ·rename_i nc
           exact aR fun z=>nc (z▸Gw)
         rw[e];refine(hr.mono (aH (sGG.trans (s4.trans s5)))).app (.cons (kp.low fun z=> ?_) .nil);have:=hn z;rw[Gv]at this;exact this.1
 ·have e:i=xs.length:=by omega
  subst e;rw[List.drop_length]at hc1;cases hc1;refine .inl ⟨En.stop G (D::O) (ok G ys sG gD),q _ _ (s1.trans sG) ?_⟩;refine⟨D,ys,rfl,s1.free hD,gD,?_⟩;rw[hv,ID];refine hr.mono fun c o e=> ?_;unfold aQ at e;unfold aQ del
  split at e
  ·cases e
  ·rename_i nc
   have n1:c≠D:=fun z=>nc (z▸Gw);have n2:c∉O:=fun z=>nc (Gs _ z);rw[Gq n2,Gq n1];exact e
theorem yT{cd:Nat->List PV->Option PV}{ct:Ct}(C:bQ cd X ct){t:Str}{tp:Pos}{iter elt:Expr}{ifs:List Expr}{ifs' :AH}{elt' :IE}{scope:Scope}{caps:List Nat}{xs:List PV}{n b:Bool}{VS:List PV}{NN:Bool}
  (h:tH ct t scope=true) (hc:slots ct.N (frees scope)=some caps) (hset:cS iter=false) (gI:gm X Hi τ (.Name t tp) iter xs n b) (hz:xs.length<=LN)
  (hifs:∀(X' :Cx)(τ' :En)(k:Bool),bQ cd X' (blk ct t scope)->gZ cd ifs' τ' =some k->∃tt,t5 X' ifs tt/\∀(O:List Addr)(σ:L2.St)(H:Hp)(Q:Bool->Hp->Prop),ag X'.K Hi O τ' σ H->(∀H',aB H H' ->Q k H')->tt σ H Q)
  (helt:∀(X' :Cx)(τ' :En)(r:RV),bQ cd X' (blk ct t scope)->aP cd elt' τ' =some r->aK X' Hi τ' elt r)
  (hrun:cD (Fw cd ifs' elt' n (caps.map fun i=>τ.getD i .un)) xs=some (VS,NN)):bR X scope (t::frees scope) (none::caps.map some)/\eH X.env.scope scope=true /\
  ∀(O:List Addr)(σ:L2.St)(H:Hp)(Q:VK),ag X.K Hi O τ σ H->(∀u H',aB H H' ->aa X.K Hi O H H' (.own VS NN) u->Q u H')->Ah X (t::frees scope) (none::caps.map some) scope (.Name t tp) ifs elt (fun σ H R=>WI X (.Name t tp) iter σ H R) σ H Q:=by
 obtain⟨h1,h2,h3,h4,h5,h6,h7⟩:=jO h;have hmem:∀x∈frees scope,(x,NameKind.free)∈scope.names:=fun x hx=>Hc (h7 x hx);have hsrc:bR X scope (t::frees scope) (none::caps.map some):=i9 C hc fun x hx=>⟨h7 x hx,h4 _ (hmem x hx) rfl⟩;have hfr:eH X.env.scope scope=true:=by
  unfold eH;rw[HK];intro y hy;rw[C.S]
  by_cases e:y.2=.free
  ·rcases h4 y hy e with z|z<;>simp[e,z]
  ·simp[e]
 have hlen:=gN hc;refine⟨hsrc,hfr,vh gI hz (C.blk h) hifs helt (fun O σ D x r0 u G' Cf s2 H2 fp cl hf R rx=> ?_) hrun⟩;exact⟨_,some u::bO (caps.map some) σ,rQ 0,hf,R.block (fO hc (IP.mp h5).2) rx.up,fi h5 rfl (lm h6) (pF h6),fun K k=>⟨wf (by simp[hlen]),k⟩⟩
theorem ag.consF{K:W.Frag}{O:List Addr}{σ:L2.St}{H:Hp}{x:PV}{n:Bool}{u:V}(R:ag K Hi O τ σ H)(r:Rp K Hi n x (aQ H O) u):ag K Hi O (.frz x n::τ) (some u::σ) H:=by
 refine⟨R.same,R.own,fun j v m e=> ?_,fun j t bd ys m e ht=> ?_,fun a b t t' x1 y1 l e1 ht e2 ht' h1 h2=> ?_⟩
 ·cases j with
  | zero =>
   simp at e;obtain⟨rfl,rfl⟩:=e;exact⟨u,by simp,r⟩
  | succ j =>
   obtain⟨w,h3,h4⟩:=R.frz j v m (by simpa using e);exact⟨w,by simpa using h3,h4⟩
 ·cases j with
  | zero =>
   simp at e;subst e;cases ht
  | succ j =>
   obtain⟨l,us,o,h3,h4⟩:=R.obs j t bd ys m (by simpa using e) ht;exact⟨l,us,o,by simpa using h3,h4⟩
 ·cases a with
  | zero =>
   simp at e1;subst e1;cases ht
  | succ a =>
   cases b with
   | zero =>
    simp at e2;subst e2;cases ht'
   | succ b=>rw[R.dst a b t t' x1 y1 l (by simpa using e1) ht (by simpa using e2) ht' (by simpa using h1) (by simpa using h2)]
theorem tu{N' :List Str}{r:List (Option Nat)}{σ:L2.St}{x y:V}(h:r.length+2=N'.length) :
  (((bO (none::none::r) σ).set 0 (some x)).set 1 (some y)).length=N'.length/\∀(j:Nat)(v:V),(bO (none::none::r) σ)[j]? =some (some v)->(((bO (none::none::r) σ).set 0 (some x)).set 1 (some y))[j]? =some (some v):=by
 refine⟨by rw[Jc,Jc];simp[bO,h],fun j v e=> ?_⟩;cases j with
 | zero=>simp[bO]at e
 | succ j =>
  cases j with
  | zero=>simp[bO]at e
  | succ j=>simpa [bO]using e
noncomputable def wS(cd:Nat->List PV->Option PV)(ifs:AH)(elt:IE)(n:Bool)(aM:En):PV->Option (Option (PV×Bool)):=fun x=>(nQ x).bind fun(a,b)=>(gZ cd ifs (.frz a (n||imm a)::.frz b (n||imm b)::aM)).bind fun t=>if t then(aP cd elt (.frz a (n||imm a)::.frz b (n||imm b)::aM)).bind fun r=>r.keep.map some else some none
theorem vg{cd:Nat->List PV->Option PV}{ct:Ct}(C:bQ cd X ct){t t2:Str}{kk:Nat}{tp tp2 tpp:Pos}{iter elt:Expr}{ifs:List Expr}{ifs' :AH}{elt' :IE}{scope:Scope}{caps:List Nat}{xs:List PV}{n b:Bool}{VS:List PV}{NN:Bool}
  (h:lK ct t t2 scope=true) (hc:slots ct.N (frees scope)=some caps) (hset:cS iter=false) (gI:gm X Hi τ (.Tuple [.Name t tp,.Name t2 tp2] kk tpp) iter xs n b) (hz:xs.length<=LN)
  (hifs:∀(X' :Cx)(τ' :En)(k:Bool),bQ cd X' (blk2 ct t t2 scope)->gZ cd ifs' τ' =some k->∃tt,t5 X' ifs tt/\∀(O:List Addr)(σ:L2.St)(H:Hp)(Q:Bool->Hp->Prop),ag X'.K Hi O τ' σ H->(∀H',aB H H' ->Q k H')->tt σ H Q)
  (helt:∀(X' :Cx)(τ' :En)(r:RV),bQ cd X' (blk2 ct t t2 scope)->aP cd elt' τ' =some r->aK X' Hi τ' elt r)
  (hrun:cD (wS cd ifs' elt' n (caps.map fun i=>τ.getD i .un)) xs=some (VS,NN)):bR X scope (t::t2::frees scope) (none::none::caps.map some)/\eH X.env.scope scope=true /\
  ∀(O:List Addr)(σ:L2.St)(H:Hp)(Q:VK),ag X.K Hi O τ σ H->(∀u H',aB H H' ->aa X.K Hi O H H' (.own VS NN) u->Q u H')->Ah X (t::t2::frees scope) (none::none::caps.map some) scope (.Tuple [.Name t tp,.Name t2 tp2] kk tpp) ifs elt (fun σ H R=>WI X (.Tuple [.Name t tp,.Name t2 tp2] kk tpp) iter σ H R) σ H Q:=by
 obtain⟨h1,h2,h3,h4,h5,h6,h8,h7⟩:=gW h;have hmem:∀x∈frees scope,(x,NameKind.free)∈scope.names:=fun x hx=>Hc (h7 x hx);have hsrc:bR X scope (t::t2::frees scope) (none::none::caps.map some):=i9 C hc fun x hx=>⟨h7 x hx,h4 _ (hmem x hx) rfl⟩;have hfr:eH X.env.scope scope=true:=by
  unfold eH;rw[HK];intro y hy;rw[C.S]
  by_cases e:y.2=.free
  ·rcases h4 y hy e with z|z<;>simp[e,z]
  ·simp[e]
 have hlen:=gN hc;refine⟨hsrc,hfr,vh gI hz (C.blk2 h) hifs helt (fun O σ D x r0 u G' Cf s2 H2 fp cl hf R rx=> ?_) hrun⟩;unfold wS at hf;obtain⟨x1,x2,rfl⟩:∃x1 x2,x=.tup [x1,x2]:=by
  cases hp:nQ x with
  | none=>rw[hp]at hf;cases hf
  | some w =>
   unfold nQ at hp
   split at hp
   ·exact⟨_,_,rfl⟩
   ·cases hp
 obtain⟨pa,us,rfl,lt,rt⟩:=Rp.tup.mp rx;unfold aJ at rt;obtain⟨u1,us1,rfl,ra,rt⟩:=rt;unfold aJ at rt;obtain⟨u2,us2,rfl,rb,rt⟩:=rt;unfold aJ at rt;subst rt
 exact⟨_,some u1::some u2::bO (caps.map some) σ,_,hf,(R.block (fO hc (IP.mp (IP.mp h5).2).2) rb.up).consF ra.up,vJ (C.blk2 h Cf s2 H2 fp cl).calm (jJ (fi (i:=0) h5 rfl (lm h6) (pF h6)) (jJ (fi (i:=1) h5 rfl (lm h8) (pF h8)) qr rfl) rfl) rfl rfl,
  fun K k=>⟨pa,_,rfl,(aL (O:=D::O)).tup lt,rfl,u1,_,rfl,u2,_,rfl,rfl,⟨tu (by simp[hlen]),k⟩⟩⟩
end
theorem bind_some{α β:Type}{o:Option α}{f:α->Option β}{b:β}(h:o.bind f=some b):∃a,o=some a/\f a=some b:=by
 cases o with
 | none=>cases h
 | some a=>exact⟨a,rfl,h⟩
theorem map_some{α β:Type}{o:Option α}{f:α->β}{b:β}(h:o.map f=some b):∃a,o=some a/\f a=b:=by
 cases o with
 | none=>cases h
 | some a=>exact⟨a,rfl,HM h⟩
structure iU(cd:Nat->List PV->Option PV)(n:Nat):Prop where
 e:∀(X:Cx)(ct:Ct)(Hi:Hp)(τ:En)(e:Expr)(r:RV),bQ cd X ct->aP cd (ao n ct e) τ=some r->aK X Hi τ e r
 cm:∀(X:Cx)(ct:Ct)(Hi:Hp)(τ:En)(a:Expr)(ops:List CmpOp)(cs:List Expr)(pos:Pos)(r:RV),bQ cd X ct->aP cd (ao n ct (.Compare a ops cs pos)) τ=some r->∃t,r=sc (.bl t)/\eP X Hi τ (.Compare a ops cs pos) t
 es:∀(X:Cx)(ct:Ct)(Hi:Hp)(τ:En)(es:List Expr)(rs:List RV),bQ cd X ct->bU cd (ee n ct es) τ=some rs->mx X Hi τ es rs/\(∀a∈es,isStar a=false)/\es.length=rs.length/\∀(i:Nat)(a:Expr)(r:RV),es[i]? =some a->rs[i]? =some r->aK X Hi τ a r
 o:∀(X:Cx)(ct:Ct)(Hi:Hp)(τ:En)(e:Option Expr)(o:Option RV)(i:Option Int),bQ cd X ct->CL cd (zT n ct e) τ=some o->oF o=some i->t6 X Hi τ e i
 c:∀(X:Cx)(ct:Ct)(Hi:Hp)(τ:En)(e:Expr)(b:Bool),bQ cd X ct->dq cd (ku n ct e) τ=some b->eP X Hi τ e b
 call:∀(X:Cx)(ct:Ct)(Hi:Hp)(τ:En)(x:Str)(es:List Expr)(p pos:Pos)(r:RV),bQ cd X ct->aP cd (gK n ct x es) τ=some r->aK X Hi τ (.Call (.Name x p) es [] pos) r
 mth:∀(X:Cx)(ct:Ct)(Hi:Hp)(τ:En)(o:Expr)(m:Str)(es:List Expr)(ap cp:Pos)(r:RV),bQ cd X ct->(ap.endLine==cp.line)=true->aP cd (kr n ct o m es) τ=some r->aK X Hi τ (.Call (.Attribute o m ap) es [] cp) r
 t:∀(X:Cx)(ct:Ct)(Hi:Hp)(τ:En)(tp:Bool)(e tg:Expr)(xs:List PV)(k b:Bool),bQ cd X ct->(tp=true->∃ts kk p,tg=.Tuple ts kk p)->kQ cd (t8 n ct tp e) τ=some (xs,k,b)->gm X Hi τ tg e xs k b/\cS e=false
section
variable{cd:Nat->List PV->Option PV}
theorem gg{v:PV}{b:Bool}(h:iS v=some b):v=.bl b:=by
 cases v<;>first|(cases h;done)|(cases h;rfl)
theorem vt{v:PV}{b:Int}(h:mT v=some b):v=.int b:=by
 cases v<;>first|(cases h;done)|(cases h;rfl)
theorem pR{α:Type}{l:List α}(h:l.length=1):∃a,l=[a]:=by
 cases l with
 | nil=>cases h
 | cons a l =>
  cases l with
  | nil=>exact⟨a,rfl⟩
  | cons b l=>cases h
theorem uM{α:Type}{l:List α}(h:l.length=2):∃a b,l=[a,b]:=by
 cases l with
 | nil=>cases h
 | cons a l =>
  obtain⟨b,rfl⟩:=pR (show l.length=1 from KL h);exact⟨a,b,rfl⟩
theorem aU{τ:En}{r:RV}(h:aP cd .never τ=some r){P:Prop}:P:=by simp[dH,cx,dN,dU,dJ,dj,dP,dB,dC,df,dM,dO,dW,dD,cy,dh,di,dg,de,dG,cz,dR,dF,dE,dc,dZ,dS]at h
theorem oO{X:Cx}{Hi:Hp}{τ:En}{op:BoolOp}{pos:Pos}{f:Expr->IE}(hf:∀e r,aP cd (f e) τ=some r->aK X Hi τ e r):∀{vs:List Expr}{r:RV},aP cd (jW op (vs.map f)) τ=some r->aK X Hi τ (.BoolOp op vs pos) r
 | [],r,h=>aU h
 | [a],r,h=>BU (hf a r h)
 | a::b::aM,r,h=>by
  have ih:= @oO X Hi τ op pos f hf (b::aM);cases op with
  | And =>
   have h:aP cd (.and (f a) (jW .And ((b::aM).map f))) τ=some r:=h;simp only[dH,cx,dN,dU,dJ,dj,dP,dB,dC,df,dM,dO,dW,dD,cy,dh,di,dg,de,dG,cz,dR,dF,dE,dc,dZ,dS]at h;obtain⟨x,hx,h⟩:=bind_some h;have hx:=hf a x hx;obtain⟨t,ht,h⟩:=bind_some h;have e:=gg ht;cases t with
   | true=>exact GW hx e (ih h)
   | false=>cases h;exact GX hx e
  | Or =>
   have h:aP cd (.or (f a) (jW .Or ((b::aM).map f))) τ=some r:=h;simp only[dH,cx,dN,dU,dJ,dj,dP,dB,dC,df,dM,dO,dW,dD,cy,dh,di,dg,de,dG,cz,dR,dF,dE,dc,dZ,dS]at h;obtain⟨x,hx,h⟩:=bind_some h;have hx:=hf a x hx;obtain⟨t,ht,h⟩:=bind_some h;have e:=gg ht;cases t with
   | true=>cases h;exact or_t hx e
   | false=>exact or_f hx e (ih h)
theorem oN{X:Cx}{Hi:Hp}{τ:En}{op:BoolOp}{pos:Pos}{f:Expr->IC}(hf:∀e b,dq cd (f e) τ=some b->eP X Hi τ e b):∀{vs:List Expr}{b:Bool},dq cd (jV op (vs.map f)) τ=some b->kT X Hi τ (.BoolOp op vs pos) b
 | [],r,h=>by
  have h:dq cd (.val .never) τ=some r:=h;simp[uD,uF,uG,uE,dH,cx,dN,dU,dJ,dj,dP,dB,dC,df,dM,dO,dW,dD,cy,dh,di,dg,de,dG,cz,dR,dF,dE,dc,dZ,dS]at h
 | [a],r,h=>BS (hf a r h)
 | a::b::aM,r,h=>by
  have ih:= @oN X Hi τ op pos f hf (b::aM);cases op with
  | And =>
   have h:dq cd (.and (f a) (jV .And ((b::aM).map f))) τ=some r:=h;simp only[uD,uF,uG,uE]at h;obtain⟨x,hx,h⟩:=bind_some h;have hx:=hf a x hx;cases x with
   | true=>exact wr hx (ih h)
   | false=>cases h;exact wr hx rfl
  | Or =>
   have h:dq cd (.or (f a) (jV .Or ((b::aM).map f))) τ=some r:=h;simp only[uD,uF,uG,uE]at h;obtain⟨x,hx,h⟩:=bind_some h;have hx:=hf a x hx;cases x with
   | true=>cases h;exact zh hx rfl
   | false=>exact zh hx (ih h)
theorem rA{X:Cx}{Hi:Hp}{τ:En}{f:Expr->IE}(hf:∀e r,aP cd (f e) τ=some r->aK X Hi τ e r):∀{es:List Expr}{rs:List RV},bU cd (sw (es.map fun e=>if isStar e then .never else f e)) τ=some rs->mx X Hi τ es rs/\(∀a∈es,isStar a=false)/\es.length=rs.length/\∀(i:Nat)(a:Expr)(r:RV),es[i]? =some a->rs[i]? =some r->aK X Hi τ a r
 | [],rs,h=>by
  have h:some []=some rs:=by simpa [sw,AL,AM]using h
  cases h;exact⟨Cw,fun a ha=>(by cases ha),rfl,fun i a r e=>(by simp at e)⟩
 | e::es,rs,h=>by
  have h:bU cd (.cons (if isStar e then .never else f e) (sw (es.map fun e=>if isStar e then .never else f e))) τ=some rs:=h;simp only[AL,AM]at h;obtain⟨x,hx,h⟩:=bind_some h;obtain⟨ys,hy,h⟩:=map_some h;subst h;obtain⟨i1,i2,i3,i4⟩:=rA hf hy;cases hs:isStar e with
  | true=>rw[hs]at hx;exact aU hx
  | false =>
   rw[hs]at hx;refine⟨zE (hf e x hx) hs i1,fun a ha=> ?_,by rw[HC,HC,i3],fun i a r e1 e2=> ?_⟩
   ·rcases HE.mp ha with rfl|ha
    ·exact hs
    ·exact i2 a ha
   ·cases i with
    | zero =>
     simp at e1 e2;subst e1 e2;exact hf _ _ hx
    | succ i=>exact i4 i a r (by simpa using e1) (by simpa using e2)
theorem Fx{n:Nat}(IH:iU cd n){X:Cx}{ct:Ct}{Hi:Hp}{τ:En}{a:Expr}{ops:List CmpOp}{cs:List Expr}{pos:Pos}{r:RV}(C:bQ cd X ct)(h:aP cd (ao (n+1) ct (.Compare a ops cs pos)) τ=some r) :
  ∃t,r=sc (.bl t)/\aK X Hi τ (.Compare a ops cs pos) r/\eP X Hi τ (.Compare a ops cs pos) t:=by
 refine JL fun no=> ?_;simp only[jz,ju,jp,jy,jl,jv,jx,jt,jr,jm,jo,jw,jq]at h
 split at h
 ·rename_i op b
  split at h
  ·exact aU h
  ·rename_i hs
   have hs:=Im.mpr hs;simp only[dH,cx,dN,dU,dJ,dj,dP,dB,dC,df,dM,dO,dW,dD,cy,dh,di,dg,de,dG,cz,dR,dF,dE,dc,dZ,dS]at h;obtain⟨x,hx,h⟩:=bind_some h;obtain⟨y,hy,h⟩:=bind_some h;obtain⟨t,ht,h⟩:=map_some h;subst h;have ha:=IH.e X ct Hi τ a x C hx;have hb:=IH.e X ct Hi τ b y C hy;exact no<|⟨t,rfl,Cb C.un ha hb hs ht,Ca C.un ha hb hs ht⟩
 ·exact aU h
theorem GA{n:Nat}(IH:iU cd n){X:Cx}{ct:Ct}{Hi:Hp}{τ:En}{x:Str}{es:List Expr}{p pos:Pos}{r:RV}(C:bQ cd X ct)(h:aP cd (gK (n+1) ct x es) τ=some r):aK X Hi τ (.Call (.Name x p) es [] pos) r:=by
 refine JL fun no=> ?_;simp only[z26,z27]at h
 split at h
 ·exact aU h
 rename_i ho;have ho:=Im.mpr ho
 split at h
 ·rename_i hg
  have hg:ct.S.lookup x=some .globalImplicit:=by simpa using hg
  cases hf:ct.F.lookup x with
  | some f =>
   rw[hf]at h;dsimp only at h;cases es with
   | nil=>exact aU h
   | cons e es =>
    simp only[dH,cx,dN,dU,dJ,dj,dP,dB,dC,df,dM,dO,dW,dD,cy,dh,di,dg,de,dG,cz,dR,dF,dE,dc,dZ,dS]at h;obtain⟨rs,hrs,h⟩:=bind_some h;obtain⟨v,hv,h⟩:=map_some h;subst h;obtain⟨i1,i2,i3,i4⟩:=IH.es X ct Hi τ (e::es) rs C hrs;exact no<|call_ok C ho hg hf i2 i1 hv
  | none =>
   rw[hf]at h;dsimp only at h
   split at h
   ·rename_i hb
    have hown:own ct x=true:=by
     unfold own;rw[hb,hg];rfl
    have plain:∀{es:List Expr}{r:RV},aP cd (match tz x es.length with|some f=>IE.bf f (ee n ct es)|none=>.never) τ=some r->aK X Hi τ (.Call (.Name x p) es [] pos) r:=by
     intro es r h;cases hbf:tz x es.length with
     | none=>rw[hbf]at h;exact aU h
     | some f =>
      rw[hbf]at h;simp only[dH,cx,dN,dU,dJ,dj,dP,dB,dC,df,dM,dO,dW,dD,cy,dh,di,dg,de,dG,cz,dR,dF,dE,dc,dZ,dS]at h;obtain⟨rs,hrs,h⟩:=bind_some h;obtain⟨i1,i2,i3,i4⟩:=IH.es X ct Hi τ es rs C hrs;have one:∀a,es=[a]->aK X Hi τ (.Call (.Name x p) es [] pos) r:=by
       intro a ea;subst ea;obtain⟨ra,rfl⟩:=pR (show rs.length=1 from i3.symm);exact Cr C hown hbf (i2 a (by simp)) (i4 0 a ra rfl rfl) h
      have two:∀a b,es=[a,b]->aK X Hi τ (.Call (.Name x p) es [] pos) r:=by
       intro a b ea;subst ea;obtain⟨ra,rb,rfl⟩:=uM (show rs.length=2 from i3.symm);exact Cq C hown hbf (i2 a (by simp)) (i2 b (by simp)) (i4 0 a ra rfl rfl) (i4 1 b rb rfl rfl) h
      have hk:es.length=1\/es.length=2:=by
       rcases gi hbf with⟨_,z,_⟩|⟨_,z,_⟩|⟨_,z,_⟩|⟨_,z,_⟩|⟨_,z,_⟩|⟨_,z,_⟩|⟨_,z,_⟩|⟨_,z,_⟩|⟨_,z,_⟩|⟨_,z,_⟩|⟨_,z,_⟩<;>simp[z]
      rcases hk with hk|hk
      ·obtain⟨a,ha⟩:=pR hk
       exact one a ha
      ·obtain⟨a,b,ha⟩:=uM hk
       exact two a b ha
    split at h
    ·rename_i hi
     have hi:x=("isinstance":Str):=HN hi;subst hi
     split at h
     ·rename_i a t tpos
      split at h
      ·rename_i ty hty
       split at h
       ·exact aU h
       ·rename_i hs
        have hs:=Im.mpr hs
        split at h
        ·rename_i hot
         simp only[dH,cx,dN,dU,dJ,dj,dP,dB,dC,df,dM,dO,dW,dD,cy,dh,di,dg,de,dG,cz,dR,dF,dE,dc,dZ,dS,AL,AM]at h;obtain⟨rs,hrs,h⟩:=bind_some h;obtain⟨ra,hra,h2⟩:=bind_some hrs;cases h2;have h:(eW ty ra.val).map (fun b=>sc (.bl b))=some r:=h;obtain⟨b,hb2,h⟩:=map_some h;subst h;exact no<|isin_ok C hown hty hot hs (IH.e X ct Hi τ a ra C hra) hb2
        ·exact aU h
      ·exact aU h
     ·exact aU h
    ·exact no<|plain h
   ·exact aU h
 ·exact aU h
theorem mthE{n:Nat}(IH:iU cd n){X:Cx}{ct:Ct}{Hi:Hp}{τ:En}{o:Expr}{m:Str}{es:List Expr}{ap cp:Pos}{r:RV}(C:bQ cd X ct)(hl:(ap.endLine==cp.line)=true)(h:aP cd (kr (n+1) ct o m es) τ=some r):aK X Hi τ (.Call (.Attribute o m ap) es [] cp) r:=by
 refine JL fun no=> ?_;simp only[z2r,z2s]at h
 split at h
 ·exact aU h
 ·exact aU h
theorem FW{n:Nat}(IH:iU cd n){X:Cx}{ct:Ct}{Hi:Hp}{τ:En}{tp:Bool}{e tg:Expr}{xs:List PV}{k b:Bool}(C:bQ cd X ct)(ht:tp=true->∃ts kk p,tg=.Tuple ts kk p)(h:kQ cd (t8 (n+1) ct tp e) τ=some (xs,k,b)):gm X Hi τ tg e xs k b/\cS e=false:=by
 simp only[z3b,z3c]at h
 split at h
 ·simp[w6,xA,w5,xB,w9,zL]at h
 rename_i hset;have hset:=Im.mpr hset;refine⟨?_,hset⟩;have seq:kQ cd (.seq (ao n ct e)) τ=some (xs,k,b)->gm X Hi τ tg e xs k b:=by
  intro h;simp only[w6,xA,w5,xB,w9,zL]at h;obtain⟨r,hr,h⟩:=bind_some h;exact Ap (IH.e X ct Hi τ e r C hr) h
 have nv:∀{P:Prop},kQ cd .never τ=some (xs,k,b)->P:=by
  intro P h;simp[w6,xA,w5,xB,w9,zL]at h
 split at h
 ·rename_i a hv
  split at h
  ·exact nv h
  ·rename_i hc
   simp only[IF,not_or,Bool.not_eq_true,Bool.not_eq_false']at hc;obtain⟨p,q,rfl⟩:=sY hv;simp only[w6,xA,w5,xB,w9,zL]at h;obtain⟨ra,hra,h⟩:=bind_some h;obtain⟨w,hw,h⟩:=map_some h;cases h;exact As C hc.2 hc.1 (IH.e X ct Hi τ a ra C hra) hw
 split at h
 ·rename_i x es hc
  obtain⟨p,pos,rfl⟩:∃p pos,e=.Call (.Name x p) es [] pos:=by
   unfold eL at hc
   split at hc
   ·cases hc;exact⟨_,_,rfl⟩
   ·cases hc
  split at h
  ·rename_i hx
   have hx:=HN hx;subst hx
   split at h
   ·rename_i ho
    simp only[w6,xA,w5,xB,w9,zL]at h;obtain⟨rs,hrs,h⟩:=bind_some h;obtain⟨ys,hy,h⟩:=map_some h;cases h;obtain⟨i1,i2,i3,i4⟩:=IH.es X ct Hi τ es rs C hrs;exact Ax C ho i2 i1 i3 hy
   ·exact nv h
  ·split at h
   ·rename_i hx
    have hx:=HN hx;subst hx
    split at h
    ·rename_i a b'
     split at h
     ·exact nv h
     ·rename_i hc
      simp only[IF,not_or,Bool.not_eq_true,KZ]at hc;obtain⟨⟨⟨c1,c2⟩,c3⟩,c4⟩:=hc;obtain⟨ts,kk,tpos,rfl⟩:=ht (by simpa using c3);simp only[w6,xA,w5,xB,w9,zL]at h;obtain⟨ra,hra,h⟩:=bind_some h;obtain⟨rb,hrb,h⟩:=bind_some h;obtain⟨w,hw,h⟩:=map_some h;cases h;exact AI C (by simpa using c4) c1 c2 (IH.e X ct Hi τ _ ra C hra) (IH.e X ct Hi τ _ rb C hrb) hw
    ·exact nv h
   ·split at h
    ·rename_i hx
     have hx:=HN hx;subst hx
     split at h
     ·rename_i a
      split at h
      ·exact nv h
      ·rename_i hc
       simp only[IF,not_or,Bool.not_eq_true,KZ]at hc;obtain⟨⟨c1,c3⟩,c4⟩:=hc;obtain⟨ts,kk,tpos,rfl⟩:=ht (by simpa using c3);simp only[w6,xA,w5,xB,w9,zL]at h;obtain⟨ra,hra,h⟩:=bind_some h;obtain⟨w,hw,h⟩:=map_some h;cases h;exact yf C (by simpa using c4) c1 (IH.e X ct Hi τ _ ra C hra) hw
     ·exact nv h
    ·exact seq h
 ·exact seq h
theorem lcE{n:Nat}(IH:iU cd n){X:Cx}{ct:Ct}{Hi:Hp}{τ:En}{elt:Expr}{gs:List Comprehension}{scope:Scope}{pos:Pos}{r:RV}(C:bQ cd X ct)(h:aP cd (ao (n+1) ct (.ListComp elt gs scope pos)) τ=some r) :
  ∃tg iter ifs N' src,gs=[⟨tg,iter,ifs,0⟩]/\bR X scope N' src/\scope.kind=.function/\(∀y∈scope.names,y.2=.cell->scope.names.lookup y.1=some .cell)/\(∀y∈scope.names,y.2=.local->scope.names.lookup y.1=some .local)/\eH X.env.scope scope=true/\cS iter=false /\
   ∀(O:List Addr)(σ:L2.St)(H:Hp)(Q:VK),ag X.K Hi O τ σ H->(∀u H',aB H H' ->aa X.K Hi O H H' r u->Q u H')->Ah X N' src scope tg ifs elt (fun σ H R=>WI X tg iter σ H R) σ H Q:=by
 refine JL fun no=> ?_;simp only[jz,ju,jp,jy,jl,jv,jx,jt,jr,jm,jo,jw,jq]at h
 split at h
 ·rename_i t tp iter ifs
  split at h
  ·rename_i hlc
   cases hc:slots ct.N (frees scope)with
   | none=>rw[hc]at h;exact aU h
   | some caps =>
    rw[hc]at h;simp only[dH,cx,dN,dU,dJ,dj,dP,dB,dC,df,dM,dO,dW,dD,cy,dh,di,dg,de,dG,cz,dR,dF,dE,dc,dZ,dS]at h;obtain⟨w,hw,h⟩:=bind_some h;obtain⟨xs,n',b⟩:=w;dsimp only at h
    split at h
    ·rename_i hz
     obtain⟨w2,hw2,h⟩:=map_some h;obtain⟨VS,NN⟩:=w2;subst h;obtain⟨gI,hset⟩:=IH.t X ct Hi τ false iter (.Name t tp) xs n' b C (fun z=>by cases z) hw;obtain⟨g1,g2,g3,g4,g5,g6,g7⟩:=jO hlc;obtain⟨q1,q2,q3⟩:=yT (elt:=elt) (ifs:=ifs) C hlc hc hset gI hz (fun X' τ' k C' hk=>by
      split at hk
      ·simp only[DV,AN]at hk
       cases hk;exact⟨_,nO,fun O σ H Q R q=>q H (aB.refl _)⟩
      ·rename_i c
       simp only[DV,AN]at hk;exact⟨_,nN iX,fun O σ H Q R q=>IH.c X' _ Hi τ' _ k C' hk O σ H Q R q⟩
      ·simp[DV,AN,uD,uF,uG,uE,dH,cx,dN,dU,dJ,dj,dP,dB,dC,df,dM,dO,dW,dD,cy,dh,di,dg,de,dG,cz,dR,dF,dE,dc,dZ,dS]at hk) (fun X' τ' r' C' hr' =>IH.e X' _ Hi τ' elt r' C' hr') hw2
     exact no<|⟨.Name t tp,iter,ifs,_,_,rfl,q1,g1,g2,g3,q2,hset,q3⟩
    ·cases h
  ·exact aU h
 ·cases e2:qe gs with
  | none=>rw[e2]at h;exact aU h
  | some w =>
   obtain⟨t,t2,iter,ifs⟩:=w;rw[e2]at h;obtain⟨tp,tp2,kk,tpp,rfl⟩:=sI e2;dsimp only at h
   split at h
   ·rename_i hlc
    cases hc:slots ct.N (frees scope)with
    | none=>rw[hc]at h;exact aU h
    | some caps =>
     rw[hc]at h;simp only[dH,cx,dN,dU,dJ,dj,dP,dB,dC,df,dM,dO,dW,dD,cy,dh,di,dg,de,dG,cz,dR,dF,dE,dc,dZ,dS]at h;obtain⟨w,hw,h⟩:=bind_some h;obtain⟨xs,n',b⟩:=w;dsimp only at h
     split at h
     ·rename_i hz
      obtain⟨w2,hw2,h⟩:=map_some h;obtain⟨VS,NN⟩:=w2;subst h;obtain⟨gI,hset⟩:=IH.t X ct Hi τ true iter (.Tuple [.Name t tp,.Name t2 tp2] kk tpp) xs n' b C (fun _=>⟨_,_,_,rfl⟩) hw;obtain⟨g1,g2,g3,g4,g5,g6,g8,g7⟩:=gW hlc;obtain⟨q1,q2,q3⟩:=vg (elt:=elt) (ifs:=ifs) C hlc hc hset gI hz (fun X' τ' k C' hk=>by
       split at hk
       ·simp only[DV,AN]at hk
        cases hk;exact⟨_,nO,fun O σ H Q R q=>q H (aB.refl _)⟩
       ·rename_i c
        simp only[DV,AN]at hk;exact⟨_,nN iX,fun O σ H Q R q=>IH.c X' _ Hi τ' _ k C' hk O σ H Q R q⟩
       ·simp[DV,AN,uD,uF,uG,uE,dH,cx,dN,dU,dJ,dj,dP,dB,dC,df,dM,dO,dW,dD,cy,dh,di,dg,de,dG,cz,dR,dF,dE,dc,dZ,dS]at hk) (fun X' τ' r' C' hr' =>IH.e X' _ Hi τ' elt r' C' hr') hw2
      exact no<|⟨.Tuple [.Name t tp,.Name t2 tp2] kk tpp,iter,ifs,_,_,rfl,q1,g1,g2,g3,q2,hset,q3⟩
     ·cases h
   ·exact aU h
theorem expE{n:Nat}(IH:iU cd n){X:Cx}{ct:Ct}{Hi:Hp}{τ:En}{e:Expr}{r:RV}(C:bQ cd X ct)(h:aP cd (ao (n+1) ct e) τ=some r):aK X Hi τ e r:=by
 cases e with
 | Constant c k pos=>simp only[jz,ju,jp,jy,jl,jv,jx,jt,jr,jm,jo,jw,jq]at h;exact wR h
 | Name x pos=>simp only[jz,ju,jp,jy,jl,jv,jx,jt,jr,jm,jo,jw,jq]at h;exact yJ C h
 | BinOp a op b pos =>
  simp only[jz,ju,jp,jy,jl,jv,jx,jt,jr,jm,jo,jw,jq,dH,cx,dN,dU,dJ,dj,dP,dB,dC,df,dM,dO,dW,dD,cy,dh,di,dg,de,dG,cz,dR,dF,dE,dc,dZ,dS]at h;obtain⟨x,hx,h⟩:=bind_some h;obtain⟨y,hy,h⟩:=bind_some h;exact wg (IH.e X ct Hi τ a x C hx) (IH.e X ct Hi τ b y C hy) h
 | UnaryOp op a pos =>
  simp only[jz,ju,jp,jy,jl,jv,jx,jt,jr,jm,jo,jw,jq]at h;cases op with
  | USub =>
   simp only[dH,cx,dN,dU,dJ,dj,dP,dB,dC,df,dM,dO,dW,dD,cy,dh,di,dg,de,dG,cz,dR,dF,dE,dc,dZ,dS]at h;obtain⟨x,hx,h⟩:=bind_some h;obtain⟨i,hi,h⟩:=map_some h;subst h;exact Be (IH.e X ct Hi τ a x C hx) (vt hi)
  | Not =>
   simp only[dH,cx,dN,dU,dJ,dj,dP,dB,dC,df,dM,dO,dW,dD,cy,dh,di,dg,de,dG,cz,dR,dF,dE,dc,dZ,dS]at h;obtain⟨x,hx,h⟩:=bind_some h;obtain⟨i,hi,h⟩:=map_some h;subst h;exact BY (IH.e X ct Hi τ a x C hx) (gg hi)
  | _=>exact aU h
 | Compare a ops cs pos =>
  obtain⟨t,_,h1,_⟩:=Fx IH (Hi:=Hi) C h;exact h1
 | BoolOp op vs pos =>
  simp only[jz,ju,jp,jy,jl,jv,jx,jt,jr,jm,jo,jw,jq]at h
  split at h
  ·exact aU h
  ·exact oO (fun e r h=>IH.e X ct Hi τ e r C h) h
 | IfExp c a b pos =>
  simp only[jz,ju,jp,jy,jl,jv,jx,jt,jr,jm,jo,jw,jq,dH,cx,dN,dU,dJ,dj,dP,dB,dC,df,dM,dO,dW,dD,cy,dh,di,dg,de,dG,cz,dR,dF,dE,dc,dZ,dS]at h;obtain⟨t,ht,h⟩:=bind_some h;refine Bv (IH.c X ct Hi τ c t C ht) ?_;cases t with
  | true=>exact IH.e X ct Hi τ a r C h
  | false=>exact IH.e X ct Hi τ b r C h
 | List es pos =>
  simp only[jz,ju,jp,jy,jl,jv,jx,jt,jr,jm,jo,jw,jq,dH,cx,dN,dU,dJ,dj,dP,dB,dC,df,dM,dO,dW,dD,cy,dh,di,dg,de,dG,cz,dR,dF,dE,dc,dZ,dS]at h;obtain⟨rs,hrs,h⟩:=bind_some h;obtain⟨w,hw,h⟩:=bind_some h;obtain⟨vs,n'⟩:=w;exact Bj (IH.es X ct Hi τ es rs C hrs).1 hw h
 | Tuple es k pos =>
  simp only[jz,ju,jp,jy,jl,jv,jx,jt,jr,jm,jo,jw,jq,dH,cx,dN,dU,dJ,dj,dP,dB,dC,df,dM,dO,dW,dD,cy,dh,di,dg,de,dG,cz,dR,dF,dE,dc,dZ,dS]at h;obtain⟨rs,hrs,h⟩:=bind_some h;obtain⟨w,hw,h⟩:=bind_some h;obtain⟨vs,n'⟩:=w;exact AW (IH.es X ct Hi τ es rs C hrs).1 hw h
 | Subscript a i pos =>
  simp only[jz,ju,jp,jy,jl,jv,jx,jt,jr,jm,jo,jw,jq]at h
  split at h
  ·rename_i lo hi st sp
   cases st with
   | none =>
    simp only[dH,cx,dN,dU,dJ,dj,dP,dB,dC,df,dM,dO,dW,dD,cy,dh,di,dg,de,dG,cz,dR,dF,dE,dc,dZ,dS]at h;obtain⟨x,hx,h⟩:=bind_some h;obtain⟨l,hl,h⟩:=bind_some h;obtain⟨u,hu,h⟩:=bind_some h;obtain⟨l',hl',h⟩:=bind_some h;obtain⟨u',hu',h⟩:=bind_some h;exact uk (IH.e X ct Hi τ a x C hx) (IH.o X ct Hi τ lo l l' C hl hl') (IH.o X ct Hi τ hi u u' C hu hu') h
   | some st=>exact aU h
  ·rename_i hns
   simp only[dH,cx,dN,dU,dJ,dj,dP,dB,dC,df,dM,dO,dW,dD,cy,dh,di,dg,de,dG,cz,dR,dF,dE,dc,dZ,dS]at h;obtain⟨x,hx,h⟩:=bind_some h;obtain⟨y,hy,h⟩:=bind_some h;refine vv C.un ?_ (IH.e X ct Hi τ a x C hx) (IH.e X ct Hi τ i y C hy) h;cases i<;>first|rfl|(exfalso;exact hns _ _ _ _ rfl)
 | Call f es ks cp =>
  simp only[jz,ju,jp,jy,jl,jv,jx,jt,jr,jm,jo,jw,jq]at h;cases ks with
  | nil =>
   dsimp only at h;cases f with
   | Name x p=>exact IH.call X ct Hi τ x es p cp r C h
   | Attribute o m ap =>
    dsimp only at h
    split at h
    ·rename_i hl
     exact IH.mth X ct Hi τ o m es ap cp r C hl h
    ·exact aU h
   | _=>exact aU h
  | cons k ks=>exact aU h
 | ListComp elt gs scope pos =>
  obtain⟨tg,iter,ifs,N',src,rfl,h1,h2,h3,h4,h5,h6,h7⟩:=lcE IH (Hi:=Hi) C h;intro O σ H Q R q;exact we (Eu C.calm xw h1 h2 h3 h4 h5 (il h6)) (h7 O σ H Q R q)
 | _=>(try simp only[jz,ju,jp,jy,jl,jv,jx,jt,jr,jm,jo,jw,jq]at h);exact aU h
theorem tstE{n:Nat}(IH:iU cd n){X:Cx}{ct:Ct}{Hi:Hp}{τ:En}{e:Expr}{b:Bool}(C:bQ cd X ct)(h:dq cd (ku (n+1) ct e) τ=some b):eP X Hi τ e b:=by
 have plain:∀{e:Expr},dq cd (.val (ao n ct e)) τ=some b->(∀whole,isTrue e X.env whole=(do let v<-whole;standAt e.pos;holding [v] (truthy v)))->eP X Hi τ e b:=by
  intro e h hp;simp only[uD,uF,uG,uE]at h;obtain⟨x,hx,h⟩:=bind_some h;exact AS (IH.e X ct Hi τ e x C hx) h hp
 cases e with
 | UnaryOp op a p =>
  simp only[Dj,Dg,Di,Dh]at h;cases op with
  | Not =>
   simp only[uD,uF,uG,uE]at h;obtain⟨t,ht,h⟩:=map_some h;subst h;exact BX (IH.c X ct Hi τ a t C ht)
  | _=>exact plain h fun _=>rfl
 | BoolOp op vs p =>
  simp only[Dj,Dg,Di,Dh]at h;exact(oN (fun e b h=>IH.c X ct Hi τ e b C h) h).tc
 | IfExp c a b' p =>
  simp[Dj,Dg,Di,Dh,uD,uF,uG,uE,dH,cx,dN,dU,dJ,dj,dP,dB,dC,df,dM,dO,dW,dD,cy,dh,di,dg,de,dG,cz,dR,dF,dE,dc,dZ,dS]at h
 | Compare a ops cs pos =>
  have h:dq cd (.val (ao n ct (.Compare a ops cs pos))) τ=some _:=h;simp only[uD,uF,uG,uE]at h;obtain⟨x,hx,h⟩:=bind_some h;obtain⟨t,rfl,ht⟩:=IH.cm X ct Hi τ a ops cs pos x C hx;cases h;exact ht
 | _=>(try simp only[Dj,Dg,Di,Dh]at h);exact plain h fun _=>rfl
theorem cI:∀n:Nat,iU cd n
 | 0=>by
  refine⟨fun X ct Hi τ e r C h=> ?_,fun X ct Hi τ a ops cs pos r C h=> ?_,fun X ct Hi τ es rs C h=> ?_,fun X ct Hi τ e o i C h=> ?_,fun X ct Hi τ e b C h=> ?_,fun X ct Hi τ x es p pos r C h=> ?_,fun X ct Hi τ o m es ap cp r C hl h=> ?_,fun X ct Hi τ tp e tg xs k b C ht h=> ?_⟩
  ·simp[jz,ju,jp,jy,jl,jv,jx,jt,jr,jm,jo,jw,jq,dH,cx,dN,dU,dJ,dj,dP,dB,dC,df,dM,dO,dW,dD,cy,dh,di,dg,de,dG,cz,dR,dF,dE,dc,dZ,dS]at h
  ·simp[jz,ju,jp,jy,jl,jv,jx,jt,jr,jm,jo,jw,jq,dH,cx,dN,dU,dJ,dj,dP,dB,dC,df,dM,dO,dW,dD,cy,dh,di,dg,de,dG,cz,dR,dF,dE,dc,dZ,dS]at h
  ·simp[z2p,z2q,AL,AM,dH,cx,dN,dU,dJ,dj,dP,dB,dC,df,dM,dO,dW,dD,cy,dh,di,dg,de,dG,cz,dR,dF,dE,dc,dZ,dS]at h
  ·simp[z2t,z2u,z2v,z0z,z16,dH,cx,dN,dU,dJ,dj,dP,dB,dC,df,dM,dO,dW,dD,cy,dh,di,dg,de,dG,cz,dR,dF,dE,dc,dZ,dS]at h
  ·simp[Dj,Dg,Di,Dh,uD,uF,uG,uE,dH,cx,dN,dU,dJ,dj,dP,dB,dC,df,dM,dO,dW,dD,cy,dh,di,dg,de,dG,cz,dR,dF,dE,dc,dZ,dS]at h
  ·simp[z26,z27,dH,cx,dN,dU,dJ,dj,dP,dB,dC,df,dM,dO,dW,dD,cy,dh,di,dg,de,dG,cz,dR,dF,dE,dc,dZ,dS]at h
  ·simp[z2r,z2s,dH,cx,dN,dU,dJ,dj,dP,dB,dC,df,dM,dO,dW,dD,cy,dh,di,dg,de,dG,cz,dR,dF,dE,dc,dZ,dS]at h
  ·simp[z3b,z3c,w6,xA,w5,xB,w9,zL]at h
 | n+1=>by
  have IH:=cI n;refine⟨fun X ct Hi τ e r C h=>expE IH C h,fun X ct Hi τ a ops cs pos r C h=> ?_,fun X ct Hi τ es rs C h=> ?_,fun X ct Hi τ e o i C h hi=> ?_,fun X ct Hi τ e b C h=>tstE IH C h,fun X ct Hi τ x es p pos r C h=>GA IH C h,fun X ct Hi τ o m es ap cp r C hl h=>mthE IH C hl h,fun X ct Hi τ tp e tg xs k b C ht h=>FW IH C ht h⟩
  ·obtain⟨t,h1,_,h2⟩:=Fx IH (Hi:=Hi) C h
   exact⟨t,h1,h2⟩
  ·simp only[z2p,z2q]at h
   exact rA (fun e r h=>IH.e X ct Hi τ e r C h) h
  ·cases e with
   | none =>
    simp only[z2t,z2u,z2v,z0z,z16]at h;cases h;cases hi;exact True.intro
   | some e =>
    simp only[z2t,z2u,z2v,z0z,z16]at h;obtain⟨r,hr,h⟩:=map_some h;subst h;simp only[oF]at hi
    split at hi
    ·rename_i j ej
     cases hi;exact⟨r,IH.e X ct Hi τ e r C hr,ej⟩
    ·cases hi
end
end IR
namespace L2
open PySem PySem.Spec PyProof.Rows
section
variable{X:Cx}{pins:List (Addr×Obj)}{σ:St}{H:Hp}{s:Shared}
theorem uz{xn:Str}{ix:Nat}{xpos apos:Pos}{elt target iter:Expr}{ifs:List Expr}{scope:Scope}{pos:Pos}{N' :List Str}{src:List (Option Nat)}{wi:TI}(hc:X.calm=true)(hi:PI X target iter wi)(hsrc:bR X scope N' src)
  (hkind:scope.kind=.function) (hcell:∀y∈scope.names,y.2=.cell->scope.names.lookup y.1=some .cell) (hnames:∀y∈scope.names,y.2=.local->scope.names.lookup y.1=some .local)
  (hfr:eH X.env.scope scope=true)
  (hs:∀x,foldedSetIterable iter X.env x=pure x) (hN:X.N.Nodup) (hix:X.N[ix]? =some xn) (hxl:Loc X.env.scope xn) (hf:X.fn xn=true\/X.env.scope.names.lookup xn=some .local)
  (hsw:swapsWith (.ListComp elt [⟨target,iter,ifs,0⟩] scope pos) (some (.Name xn xpos)) apos.line X.env=pure true) :
  PS X (.Assign [.Name xn xpos] (.ListComp elt [⟨target,iter,ifs,0⟩] scope pos) apos) (EL (Ah X N' src scope target ifs elt wi) (rQ ix)):=by
 intro pins s σ H D0 I h;rw[exec_Assign_Name_used xn xpos _ apos hsw];refine Gn (wpAny_standAt (Gn ?_));show wpAny (model X.prog X.w) X.A (comprehension (.ListComp elt [⟨target,iter,ifs,0⟩] scope pos) scope X.env _ (newList []) false _ (some (assign (.Name xn xpos) X.env)) >>= fun _=>pure ()) _ _ _;refine Gn (bJ (Q:=fun _ s' =>SP X pins D0 .next s') ?_ fun _ s9 h9=>G7 (G7 h9));refine rJ (use:=some (assign (.Name xn xpos) X.env)) hc hi hsrc hkind hcell hnames hfr hs I h fun C a' s2 s4 H2 H3 fp cl m I2 f2 below hCle I4 hn qn _=> ?_;have u4:Un (ou X.stack) fp H2 H3 s2.heap s4.heap:=I4.base;have IX:Inv X pins σ H3 s4:=I2.call' (s' :=s4) (ch:=fp) I4.os u4 I4.hok I4.bare fun b hb=>⟨(f2 b hb).2.2.2.1,(f2 b hb).2.1,(f2 b hb).2.2.2.2.1,(f2 b hb).2.2.2.2.2⟩;have hC3:H3 C=none:=I4.free;refine wpAny_assign_Name (ky IX hN hix hxl (v:=.ref a') rfl (fun s5 I5 ⟨a,sb,ha⟩=> ?_) hf);have ane:C≠a:=by
  rcases ha with rfl|ha
  ·exact(below _ I2.lt).symm
  ·obtain⟨v,qc⟩:=I2.cell _ _ ha
   exact(below _ qc.lt).symm
 refine⟨m,?_,fun h' hs' => ?_⟩
 ·obtain⟨ob,es,ep,ho,rr⟩:=hn
  exact⟨ob,es,ep,(sb.2 _ ane).trans ho,rr⟩
 ·refine⟨_,H3,I5.turned (t' :=s5.toks) (it:=C) (fun b o ne e=>(hs'.2 b ne).trans e) hC3 (below _ I2.lt).symm (.inr (HP I2.sz hCle)) (fun x c e=> ?_) (fun p hp=> ?_),qn⟩
  ·obtain⟨v,qc⟩:=I2.cell x c e
   exact below _ qc.lt
  ·exact below _ (G8 (I2.pin p hp).1)
end
end L2
namespace IR
open PySem PySem.Spec PyProof.Rows L2
section
variable{X:Cx}{Hi:Hp}{τ:En}{cd:Nat->List PV->Option PV}{ct:Ct}
noncomputable abbrev WS(X:Cx)(st:Stmt)(D:cw)(σ:L2.St)(H:Hp):Prop:=∀(pins:List (Addr×Obj))(s:Shared),Inv X pins σ H s->wpAny (model X.prog X.w) X.A (exec st X.env) (SP X pins D) X.xe s
noncomputable abbrev WSs(X:Cx)(st:List Stmt)(D:cw)(σ:L2.St)(H:Hp):Prop:=∀(pins:List (Addr×Obj))(s:Shared),Inv X pins σ H s->wpAny (model X.prog X.w) X.A (execs st X.env) (SP X pins D) X.xe s
theorem Er{st:Stmt}:PS X st (fun D σ H=>WS X st D σ H):=fun pins s σ H D I h=>h pins s I
theorem cP{st:List Stmt}:my X st (fun D σ H=>WSs X st D σ H):=fun pins s σ H D I h=>h pins s I
theorem ws{st:Stmt}{t:TS}{σ:L2.St}{H:Hp}{D:cw}(h:PS X st t)(q:t D σ H):WS X st D σ H:=fun pins s I=>h pins s σ H D I q
theorem wss{st:List Stmt}{t:TS}{σ:L2.St}{H:Hp}{D:cw}(h:my X st t)(q:t D σ H):WSs X st D σ H:=fun pins s I=>h pins s σ H D I q
variable(X Hi)in
noncomputable def qX(O:List Addr)(H:Hp)(τ' :En)(P:L2.St->Hp->Prop):Prop:=∀(σ' :L2.St)(H' :Hp)(O' :List Addr),ag X.K Hi O' τ' σ' H' ->σ'.length=X.N.length->aB (aQ H O) (aQ H' O')->P σ' H'
variable(X Hi)in
noncomputable def wu(fl:Fl)(O:List Addr)(H:Hp)(D:cw):Prop:=match fl with
 | .nx τ' =>qX X Hi O H τ' D.nx
 | .bk τ' =>qX X Hi O H τ' D.bk
 | .ct τ' =>qX X Hi O H τ' D.ct
 | .rt v=>∀u H',aB Hi H' ->Rp X.K Hi true v H' u->D.rt u H'
variable(X Hi τ)in
noncomputable def ji(st:Stmt)(fl:Fl):Prop:=∀(O:List Addr)(σ:L2.St)(H:Hp)(D:cw),ag X.K Hi O τ σ H->σ.length=X.N.length->wu X Hi fl O H D->WS X st D σ H
variable(X Hi τ)in
noncomputable def qQ(st:List Stmt)(fl:Fl):Prop:=∀(O:List Addr)(σ:L2.St)(H:Hp)(D:cw),ag X.K Hi O τ σ H->σ.length=X.N.length->wu X Hi fl O H D->WSs X st D σ H
theorem qX.from{O O' :List Addr}{H H' :Hp}{τ' :En}{P:L2.St->Hp->Prop}(h:qX X Hi O H τ' P)(s:aB (aQ H O) (aQ H' O')):qX X Hi O' H' τ' P:=fun σ2 H2 O2 R hl s2=>h σ2 H2 O2 R hl (s.trans s2)
theorem wu.from{O O' :List Addr}{H H' :Hp}{fl:Fl}{D:cw}(h:wu X Hi fl O H D)(s:aB (aQ H O) (aQ H' O')):wu X Hi fl O' H' D:=by
 cases fl with
 | nx τ' =>exact qX.from (show qX X Hi O H τ' D.nx from h) s
 | bk τ' =>exact qX.from (show qX X Hi O H τ' D.bk from h) s
 | ct τ' =>exact qX.from (show qX X Hi O H τ' D.ct from h) s
 | rt v=>exact h
theorem fJ(C:bQ cd X ct){x:Str}{i:Nat}(h:loc ct x=some i):X.N[i]? =some x/\L2.Loc X.env.scope x/\pS x=false/\AR ct.S x=true:=by
 unfold loc at h
 split at h
 ·rename_i c
  rw[Gv]at c;refine⟨by rw[C.N];exact eS h,?_,by simpa using c.2,?_⟩
  ·unfold L2.Loc
   rw[C.S]
   simpa using c.1
  ·unfold AR
   have:=c.1;simp only[IF]at this ⊢;exact .inl this
 ·cases h
theorem fK{cap:List Nat}{O:List Addr}{σ:L2.St}{H:Hp}(R:ag X.K Hi O τ σ H):∃O',ag X.K Hi O' (ai cap τ) σ H/\aB (aQ H O) (aQ H O'):=by
 obtain⟨O',R',h⟩:=R.freezes (cap:=cap);exact⟨O',R',rM h⟩
theorem A2{o:Bool}{i:Nat}{r:RV}{τ' :En}{O:List Addr}{σ:L2.St}{H H' :Hp}{u:V}(R:ag X.K Hi O τ σ H)(s:aB H H')(hi:i<σ.length)(ok:aa X.K Hi O H H' r u)(h:mF o i r τ=some τ') :
  ∃O',ag X.K Hi O' τ' (σ.set i (some u)) H' /\aB (aQ H O) (aQ H' O'):=by
 unfold mF at h
 split at h
 ·rename_i xs n
  cases h;obtain⟨p,us,rfl,h0,h1,r1⟩:=ok;have hs:aB (aQ (del H' p) O) (aQ H' (p::O)):=fun b o e=>by
   unfold aQ del at e;unfold aQ
   split at e
   ·cases e
   ·rename_i nb
    split at e
    ·cases e
    ·rename_i np
     rw[Gq (by simp[np,nb])];exact e
  refine⟨p::O,R.setO hi s h0 h1 (r1.mono hs),fun b o e=> ?_⟩;unfold aQ at e ⊢
  split at e
  ·cases e
  ·rename_i nb
   have ne:b≠p:=aY e h0;rw[Gq (by simp[ne,nb])];exact s b o e
 ·rename_i b xs n
  cases h;obtain⟨p,us,o,rfl,h0,h1,ha,r1⟩:=ok;have hs:aB (aQ (del H' p) O) (aQ H' (p::O)):=fun b o e=>by
   unfold aQ del at e;unfold aQ
   split at e
   ·cases e
   ·rename_i nb
    split at e
    ·cases e
    ·rename_i np
     rw[Gq (by simp[np,nb])];exact e
  refine⟨p::O,R.setB rfl hi s h0 h1 ha (r1.mono hs),fun b o e=> ?_⟩;unfold aQ at e ⊢
  split at e
  ·cases e
  ·rename_i nb
   have ne:b≠p:=aY e h0;rw[Gq (by simp[ne,nb])];exact s b o e
 ·obtain⟨w,hw,h⟩:=map_some h
  obtain⟨v,n⟩:=w;subst h;exact⟨O,(R.ext s).setF hi (ok.keep R s hw),aH s⟩
theorem vX{e:Expr}{x:Str}{p:Pos}{l:Nat}{env:Env}(h:pk e=false\/env.kindOf x≠some .local):swapsWith e (some (.Name x p)) l env=pure false:=by
 rcases h with h|h
 ·cases e<;>first|rfl|cases h
 ·have hk:(env.kindOf x==some NameKind.local)=false:=by simpa using h
  cases e<;>first|rfl|(show(pure (_&&(env.kindOf x==some NameKind.local)&&_&&_):Sem Bool)=pure false;rw[hk,Bool.and_false,KQ,KQ])
theorem Cv(C:bQ cd X ct)(hfn:X.fn=fun _=>true){n:Nat}{x:Str}{i:Nat}{o:Bool}{cap:List Nat}{e:Expr}{xp pos:Pos}{r:RV}{τ' :En}(hx:loc ct x=some i)(hr:aP cd (ao n ct e) (ai cap τ)=some r)(hp:mF o i r (ai cap τ)=some τ') :
  ji X Hi τ (.Assign [.Name x xp] e pos) (.nx τ'):=by
 intro O σ H D R hl q;obtain⟨h1,h2,h3,h4⟩:=fJ C hx;obtain⟨O1,R1,s1⟩:=fK (cap:=cap) R;have he:=(cI n).e X ct Hi (ai cap τ) e r C hr;have hi:i<σ.length:=by rw[hl];exact(G9.mp h1).1
 have hN:X.N.Nodup:=by rw[C.N];exact C.nd
 have fin:∀u H',aB H H' ->aa X.K Hi O1 H H' r u->D.nx (σ.set i (some u)) H' :=fun u H' s ok=>by
  obtain⟨O2,R2,s2⟩:=A2 R1 s hi ok hp;exact q _ _ O2 R2 (by rw[Jc];exact hl) (s1.trans s2)
 by_cases hc:pk e=false\/X.env.kindOf x≠some .local
 ·refine ws (gQ hN h1 h2 ae (vX hc) (.inl (by rw[hfn]))) ?_
  exact he O1 σ H _ R1 fin
 ·rw[not_or]at hc
  obtain⟨c1,c2⟩:=hc;have c2:X.env.kindOf x=some .local:=Classical.not_not.mp c2;cases e with
  | ListComp elt gs scope lp =>
   cases n with
   | zero=>simp[jz,ju,jp,jy,jl,jv,jx,jt,jr,jm,jo,jw,jq,dH,cx,dN,dU,dJ,dj,dP,dB,dC,df,dM,dO,dW,dD,cy,dh,di,dg,de,dG,cz,dR,dF,dE,dc,dZ,dS]at hr
   | succ n =>
    obtain⟨tg,iter,ifs,N',src,rfl,g1,g2,g3,g4,g5,g6,g7⟩:=lcE (cI n) (Hi:=Hi) C hr;obtain⟨b,hb⟩:∃b,swapsWith (.ListComp elt [⟨tg,iter,ifs,0⟩] scope lp) (some (.Name x xp)) pos.line X.env=pure b:=⟨_,rfl⟩;cases b with
    | true=>exact ws (uz C.calm xw g1 g2 g3 g4 g5 (il g6) hN h1 h2 (.inl (by rw[hfn])) hb) (g7 O1 σ H _ R1 fin)
    | false=>exact ws (gQ hN h1 h2 ae hb (.inl (by rw[hfn]))) (he O1 σ H _ R1 fin)
  | SetComp a b c d=>exact aU (by cases n<;>exact hr)
  | DictComp a b c d e=>exact aU (by cases n<;>exact hr)
  | _=>exact absurd rfl c1
theorem Ay(C:bQ cd X ct){n:Nat}{cap:List Nat}{e:Expr}{pos:Pos}{r:RV}{v:PV}(hr:aP cd (ao n ct e) (ai cap τ)=some r)(hk:r.keep=some (v,true)):ji X Hi τ (.Return (some e) pos) (.rt v):=by
 intro O σ H D R hl q;obtain⟨O1,R1,s1⟩:=fK (cap:=cap) R;refine ws (pN ae) ?_;exact(cI n).e X ct Hi _ e r C hr O1 σ H _ R1 fun u H' s ok=>q u H' (R.same.trans s) ((ok.keep R1 s hk).mono aL)
theorem xY{pos:Pos}:ji X Hi τ (.Return none pos) (.rt .non):=by
 intro O σ H D R hl q;exact ws xj (q _ _ R.same (Rp.non.mpr rfl))
theorem B2{c:Expr}{a b:List Stmt}{pos:Pos}{t:Bool}{fl:Fl}(hc:eP X Hi τ c t)(h:qQ X Hi τ (if t=true then a else b) fl):ji X Hi τ (.If c a b pos) fl:=by
 intro O σ H D R hl q;refine ws (u7 iX cP cP) ?_;refine hc O σ H _ R fun H1 s1=> ?_;cases t with
 | true=>exact pf ((show qQ X Hi τ a fl from h) O σ H1 _ (R.ext s1) hl (q.from (aH s1)))
 | false=>exact pi ((show qQ X Hi τ b fl from h) O σ H1 _ (R.ext s1) hl (q.from (aH s1)))
theorem rF(C:bQ cd X ct)(hfn:X.fn=fun _=>true):∀{es:List Expr}{is:List Nat},locs ct es=some is->∃t,Gc X es t/\(assignEach es X.env).length=is.length/\(assignEach es X.env).findIdx? (·.1)=none /\
  ∀(O:List Addr)(τ τ' :En)(σ:L2.St)(H:Hp)(n:Bool)(xs:List PV)(us:List V)(Q:L2.St->Hp->Prop),ag X.K Hi O τ σ H->σ.length=X.N.length->aJ X.K Hi n xs (aQ H O) us->cJ n is xs τ=some τ' ->
   (∀σ',ag X.K Hi O τ' σ' H->σ'.length=X.N.length->Q σ' H)->t us σ H Q
 | [],is,h=>by
  cases h;refine⟨_,qr,rfl,rfl,fun O τ τ' σ H n xs us Q R hl r e q=> ?_⟩;cases xs with
  | nil =>
   unfold aJ at r;subst r;cases e;exact⟨rfl,q σ R hl⟩
  | cons x xs=>cases e
 | .Name x p::es,is,h=>by
  have h:(loc ct x).bind (fun i=>(locs ct es).map (i::·))=some is:=h;obtain⟨i,hi,h⟩:=bind_some h;obtain⟨js,hj,h⟩:=map_some h;subst h;obtain⟨h1,h2,h3,h4⟩:=fJ C hi;obtain⟨t,pt,hlen,hf,k⟩:=rF C hfn hj;refine⟨_,jJ (fi (by rw[C.N];exact C.nd) h1 h2 (.inl (by rw[hfn]))) pt rfl,?_,?_,fun O τ τ' σ H n xs us Q R hl r e q=> ?_⟩
  ·show(assignEach es X.env).length+1=_
   rw[hlen];rfl
  ·show List.findIdx? (·.1) ((false,assign (.Name x p) X.env)::assignEach es X.env)=none
   rw[List.findIdx?_cons,hf];rfl
  ·cases xs with
   | nil=>cases e
   | cons y ys =>
    unfold aJ at r;obtain⟨u,vs,rfl,a,b⟩:=r;have hi' :i<σ.length:=by rw[hl];exact(G9.mp h1).1
    exact⟨u,vs,rfl,k O _ τ' _ H n ys vs Q (R.setF hi' a.up) (by rw[Jc];exact hl) b e q⟩
 | .BoolOp .. ::_,_,h=>by cases h
 | .NamedExpr .. ::_,_,h=>by cases h
 | .BinOp .. ::_,_,h=>by cases h
 | .UnaryOp .. ::_,_,h=>by cases h
 | .Lambda .. ::_,_,h=>by cases h
 | .IfExp .. ::_,_,h=>by cases h
 | .Dict .. ::_,_,h=>by cases h
 | .Set .. ::_,_,h=>by cases h
 | .ListComp .. ::_,_,h=>by cases h
 | .SetComp .. ::_,_,h=>by cases h
 | .DictComp .. ::_,_,h=>by cases h
 | .GeneratorExp .. ::_,_,h=>by cases h
 | .Await .. ::_,_,h=>by cases h
 | .Yield .. ::_,_,h=>by cases h
 | .YieldFrom .. ::_,_,h=>by cases h
 | .Compare .. ::_,_,h=>by cases h
 | .Call .. ::_,_,h=>by cases h
 | .FormattedValue .. ::_,_,h=>by cases h
 | .JoinedStr .. ::_,_,h=>by cases h
 | .Constant .. ::_,_,h=>by cases h
 | .Attribute .. ::_,_,h=>by cases h
 | .Subscript .. ::_,_,h=>by cases h
 | .Starred .. ::_,_,h=>by cases h
 | .List .. ::_,_,h=>by cases h
 | .Tuple .. ::_,_,h=>by cases h
 | .Slice .. ::_,_,h=>by cases h
theorem zV(C:bQ cd X ct)(hfn:X.fn=fun _=>true){tg:Expr}{is:List Nat}{one:Bool}(h:sL ct tg=some (is,one)):(one=false->∃ts k p,tg=.Tuple ts k p)/\∃g,PG X tg g /\
  ∀(O:List Addr)(τ τ' :En)(σ:L2.St)(H:Hp)(n:Bool)(x:PV)(u:V)(Q:L2.St->Hp->Prop),ag X.K Hi O τ σ H->σ.length=X.N.length->Rp X.K Hi n x (aQ H O) u->eA is one n x τ=some τ' ->
   (∀σ',ag X.K Hi O τ' σ' H->σ'.length=X.N.length->Q σ' H)->g u σ H Q:=by
 cases tg with
 | Name x p =>
  obtain⟨i,hi,h⟩:=map_some (show(loc ct x).map (fun i=>([i],true))=some (is,one)from h);cases h;obtain⟨h1,h2,h3,h4⟩:=fJ C hi;refine⟨fun z=>(by cases z),_,fi (by rw[C.N];exact C.nd) h1 h2 (.inl (by rw[hfn])),fun O τ τ' σ H n x u Q R hl r e q=> ?_⟩;have e:some (τ.set i (.frz x (n||imm x)))=some τ' :=e;cases e;have hi' :i<σ.length:=by rw[hl];exact(G9.mp h1).1
  exact q _ (R.setF hi' r.up) (by rw[Jc];exact hl)
 | Tuple es k p =>
  obtain⟨js,hj,h⟩:=map_some (show(locs ct es).map (fun is=>(is,false))=some (is,one)from h);cases h;obtain⟨t,pt,hlen,hf,kk⟩:=rF (Hi:=Hi) C hfn hj;refine⟨fun _=>⟨_,_,_,rfl⟩,_,vJ C.calm pt hlen hf,fun O τ τ' σ H n x u Q R hl r e q=> ?_⟩;cases x with
  | tup xs =>
   obtain⟨a,us,rfl,l,r2⟩:=Rp.tup.mp r;have e:cJ n is xs τ=some τ' :=e;have hz:∀{is:List Nat}{xs:List PV}{τ τ' :En},cJ n is xs τ=some τ' ->xs.length=is.length:=by
    intro is
    induction is with
    | nil=>intro xs τ τ' e;cases xs with
     | nil=>rfl
     | cons _ _=>cases e
    | cons i is ih=>intro xs τ τ' e;cases xs with
     | nil=>cases e
     | cons x xs=>rw[HC,HC,ih (show cJ n is xs _=some τ' from e)]
   exact⟨a,us,rfl,(aL (O:=O)).tup l,by rw[<- r2.len];exact hz e,kk O τ τ' σ H n xs us Q R hl r2 e q⟩
  | _=>cases e
 | _=>cases h
theorem CA(C:bQ cd X ct)(hfn:X.fn=fun _=>true){tg it:Expr}{is:List Nat}{one:Bool}{cap:List Nat}{n:Nat}{body:List Stmt}{pos:Pos}{xs:List PV}{k:Bool}{bd:En->Option Fl}{fl:Fl}(ht:sL ct tg=some (is,one))
  (hi:kQ cd (t8 n ct (!one) it) (ai cap τ)=some (xs,k,false)) (hb:∀τ fl,bd τ=some fl->qQ X Hi τ body fl) (h:jU (eA is one k) bd xs (ai cap τ)=some fl):ji X Hi τ (.For tg it body [] pos) fl:=by
 intro O σ H D R hl q;obtain⟨O1,R1,s1⟩:=fK (cap:=cap) R;obtain⟨htp,g,pg,kg⟩:=zV (Hi:=Hi) C hfn ht;obtain⟨gI,hset⟩:=(cI n).t X ct Hi (ai cap τ) (!one) it tg xs k false C (fun z=>htp (by simpa using z)) hi;refine ws (u8 C.xe C.calm xw pg cP (il hset)) ?_;refine gI O1 σ H _ R1 fun J H1 sJ En=> ?_;rw[Gq Gz]at En;have s2:aB (aQ H O) (aQ H1 O1):=s1.trans (aH sJ);refine⟨fun i m σ' G=>m=xs.length-i/\i<=xs.length/\∃(P:List Addr)(υ:IR.En),ag X.K Hi P υ σ' G/\σ'.length=X.N.length/\aB (aQ H1 O1) (aQ G P)/\jU (eA is one k) bd (xs.drop i) υ=some fl,⟨xs.length,by simp,Hu _,O1,_,R1.ext sJ,hl,aB.refl _,h⟩,?_⟩;rintro i m σ' G ⟨rfl,hi',P,υ,RP,hlP,sP,hrun⟩;have BV:zI (aQ H1 O1) G P:=⟨RP.lsts,sP⟩
 by_cases hlt:i<xs.length
 ·refine .inr ⟨En.go G P i BV hlt,fun σ2 G2=>∃m',m' <xs.length-i/\(m' =xs.length-(i+1)/\i+1<=xs.length/\∃(P:List Addr)(υ:IR.En),ag X.K Hi P υ σ2 G2/\σ2.length=X.N.length/\aB (aQ H1 O1) (aQ G2 P)/\jU (eA is one k) bd (xs.drop (i+1)) υ=some fl),
   fun σ2 G2 h=>h,fun u G' y=> ?_⟩
  obtain⟨sG,x,hx,rx⟩:=En.yld G P i u G' BV hlt y;have hd:xs.drop i=x::xs.drop (i+1):=by
   rw[IA hlt];rw[HA hlt]at hx;rw[HM hx]
  rw[hd]at hrun;unfold jU at hrun;obtain⟨υ1,h1,hrun⟩:=bind_some hrun;obtain⟨f,hf,hrun⟩:=bind_some hrun;refine kg P υ υ1 σ' G' k x u _ (RP.ext sG) hlP rx h1 fun σ1 R2 hl1=> ?_;have s3:aB (aQ H1 O1) (aQ G' P):=sP.trans (aH sG);refine hb υ1 f hf P σ1 G' _ R2 hl1 ?_;cases f with
  | nx υ2=>exact fun σ3 G3 P3 R3 hl3 s4=>⟨_,by omega,rfl,hlt,P3,υ2,R3,hl3,s3.trans s4,hrun⟩
  | ct υ2=>exact fun σ3 G3 P3 R3 hl3 s4=>⟨_,by omega,rfl,hlt,P3,υ2,R3,hl3,s3.trans s4,hrun⟩
  | bk υ2 =>
   have hrun:some (Fl.nx υ2)=some fl:=hrun;cases hrun;exact fun σ3 G3 P3 R3 hl3 s4=>q σ3 G3 P3 R3 hl3 (s2.trans (s3.trans s4))
  | rt v =>
   have hrun:some (Fl.rt v)=some fl:=hrun;cases hrun;exact q
 ·have e:i=xs.length:=by omega
  subst e;rw[List.drop_length]at hrun;have hrun:some (Fl.nx υ)=some fl:=hrun;cases hrun;exact .inl ⟨En.stop G P BV,q σ' G P RP hlP (s2.trans sP)⟩
theorem uH(C:bQ cd X ct){c:Expr}{body:List Stmt}{pos:Pos}{ce:En->Option Bool}{bd:En->Option Fl}{fl:Fl}(hc:∀τ b,ce τ=some b->eP X Hi τ c b)(hb:∀τ fl,bd τ=some fl->qQ X Hi τ body fl){fu:Nat}(h:zP ce bd fu τ=some fl) :
  ji X Hi τ (.While c body [] pos) fl:=by
 intro O σ H D R hl q;refine ws (uy C.xe iX cP) ?_;refine⟨fun m σ' G=>∃(P:List Addr)(υ:IR.En),ag X.K Hi P υ σ' G/\σ'.length=X.N.length/\aB (aQ H O) (aQ G P)/\zP ce bd m υ=some fl,⟨fu,O,τ,R,hl,aB.refl _,h⟩,?_⟩;rintro m σ' G ⟨P,υ,RP,hlP,sP,hrun⟩;cases m with
 | zero=>cases hrun
 | succ m =>
  unfold zP at hrun;obtain⟨b,hbv,hrun⟩:=bind_some hrun;refine hc υ b hbv P σ' G _ RP fun G1 s1=> ?_;cases b with
  | false =>
   rw[Gq Gz]at hrun ⊢;cases hrun;exact q σ' G1 P (RP.ext s1) hlP (sP.trans (aH s1))
  | true =>
   rw[Gu rfl]at hrun ⊢;obtain⟨f,hf,hrun⟩:=bind_some hrun;refine⟨fun σ2 G2=>∃m',m' <m+1/\∃(P:List Addr)(υ:IR.En),ag X.K Hi P υ σ2 G2/\σ2.length=X.N.length/\aB (aQ H O) (aQ G2 P)/\zP ce bd m' υ=some fl,fun σ2 G2 h=>h,?_⟩;have s3:aB (aQ H O) (aQ G1 P):=sP.trans (aH s1);refine hb υ f hf P σ' G1 _ (RP.ext s1) hlP ?_;cases f with
   | nx υ2=>exact fun σ3 G3 P3 R3 hl3 s4=>⟨m,by omega,P3,υ2,R3,hl3,s3.trans s4,hrun⟩
   | ct υ2=>exact fun σ3 G3 P3 R3 hl3 s4=>⟨m,by omega,P3,υ2,R3,hl3,s3.trans s4,hrun⟩
   | bk υ2 =>
    have hrun:some (Fl.nx υ2)=some fl:=hrun;cases hrun;exact fun σ3 G3 P3 R3 hl3 s4=>q σ3 G3 P3 R3 hl3 (s3.trans s4)
   | rt v =>
    have hrun:some (Fl.rt v)=some fl:=hrun;cases hrun;exact q
theorem qa{i:Nat}{xs ys:List PV}{n m:Bool}{O:List Addr}{σ:L2.St}{H:Hp}{l:Addr}{us:List V}{P:L2.St->Hp->Prop}(R:ag X.K Hi O τ σ H)(hl:σ.length=X.N.length)(e:τ[i]? =some (.own xs n))(g:σ[i]? =some (some (.ref l)))(r:aJ X.K Hi m ys (aQ H O) us)
  (q:qX X Hi O H (τ.set i (.own ys m)) P):P σ (L2.upd H l (.lst us)):=by
 have R2:=R.upd e g r;refine q σ _ O R2 hl fun b o z=> ?_;obtain⟨l',vs,g1,g2,_⟩:=R.owns i xs n e;rw[g]at g1;cases g1;unfold aQ at z ⊢
 split at z
 ·cases z
 ·rename_i nb
  have ne:b≠l:=fun c=>nb (c▸g2);rw[Gq nb,aR ne];exact z
theorem Cy(C:bQ cd X ct){n:Nat}{x m:Str}{i:Nat}{cap:List Nat}{a:Expr}{xp ap cp pos:Pos}{r:RV}{v:PV}{k j:Bool}{xs:List PV}(hx:loc ct x=some i)(hm:m="append")(hline:(ap.endLine==cp.line)=true)(hs:isStar a=false)
  (hr:aP cd (ao n ct a) (ai cap τ)=some r) (hk:r.keep=some (v,k)) (ho:(ai cap τ)[i]? =some (.own xs j)) (hz:xs.length<LN) :
  ji X Hi τ (.Expr (.Call (.Attribute (.Name x xp) m ap) [a] [] cp) pos) (.nx ((ai cap τ).set i (.own (xs++[v]) (j&&k)))):=by
 intro O σ H D R hl q;subst hm;obtain⟨h1,h2,h3,h4⟩:=fJ C hx;obtain⟨O1,R1,s1⟩:=fK (cap:=cap) R;obtain⟨o1,o2,o3⟩:=bh h3;refine ws (mH (zg PySem.F.plainAttrs_list PySem.F.slot_list_append PySem.F.type_list_append lJ (mJ h1 (o0 C.S h4) o1 o2) (aN ae az (aS hs)) rfl (by rw[aS hs];rfl) hline (aS hs) rfl) rfl) ?_;obtain⟨l,us,g1,g2,g3,g4⟩:=R1.owns i xs j ho;refine⟨_,g1,.inl ⟨rfl,us,bP.of g3⟩,?_⟩;refine(cI n).e X ct Hi _ a r C hr O1 σ H _ R1 fun u H' s ok=> ?_;have kp:=ok.keep R1 s hk;have hlen:=g4.len;refine⟨l,us,u,rfl,rfl,s _ _ g3,by rw[cF,<-hlen];exact hz,?_⟩;exact qa (R1.ext s) hl ho g1 (Bk (g4.mono (aH s)) (.cons kp .nil)) (qX.from q (s1.trans (aH s)))
theorem tF(l b:Addr)(xs ys:Array Value)(n m:Nat)(dd:Option Addr)(sl:Array (Option Value))(h0:¬(!xs.isEmpty&&Builtin.List.listTooLong (xs.size+ys.size))=true)(h1:xs.size<=sizeLine)(h2:(xs++ys).size<=sizeLine+1):Meets (Builtin.«list.extend» ⟨[.ref l,.ref b],[]⟩)
  (fun _ R s=>s.heap.get? l=some ⟨.type "list",none,.seq xs n,#[]⟩/\s.heap.get? b=some ⟨.type "list",dd,.seq ys m,sl⟩/\R (.ok (.ret .none)) {s with heap:=s.heap.update l (Obj.mapSeq fun z=>z++ys)}) :=
 .of_wp fun prog w A R s h=>by
  obtain⟨hp,g,d,tk,os⟩:=s;obtain⟨hl,hb,h⟩:=h;have f3:=AutoSeq1.sub_list_list;have f5:=AutoSeq1.sub_list_tuple
  wp_walk using(PySem.wpAny_updateSeq hl rfl (hz:=h1) (_hz' :=h2)),HI hl,HI hb
  exact⟨_,rfl,h⟩
theorem pW:MtM X "list.extend" (fun x vs H Q=>∃l b xs zs,x=.ref l/\vs=[.ref b]/\H l=some (.lst xs)/\bP X.K H b zs/\xs.length+zs.length<=sizeLine/\Q .non (L2.upd H l (.lst (xs++zs)))):=by
 intro pins s σ H x vs v us Q I rx rv h;obtain⟨l,b,xs,zs,rfl,rfl,hH,hB,hz,q⟩:=h;cases rx;obtain⟨u,rfl,ru⟩:=rv.one;cases ru;obtain⟨z,its,n,r,hl,e⟩:=I.lstM hH;obtain⟨its2,r2,pl,hz2⟩:=I.list hB;have hl2:=r2.length;obtain⟨⟨cls,dd,data,sl⟩,ho,hc,m,hd⟩:=id pl.isList;simp only at hc hd;subst hc hd;have hsz:its.toArray.size+its2.toArray.size<=sizeLine:=by rw[Gx,Gx];omega
 refine Ke PySem.F.slot_list_extend ⟨_,e,rfl⟩ PySem.F.entry_list_extend (PySem.F.args_list_extend_2 _ _) (tF l b its.toArray its2.toArray n m dd sl (by rw[nS hsz,Bool.and_false];exact Gz) (by omega) (by rw[Array.size_append];omega)) ⟨e,ho,?_⟩;refine⟨.non,_,I.lset (its' :=its++its2) hH e (by simp) (r.append r2) ?_,rfl,q⟩;rw[G6];omega
theorem CD(C:bQ cd X ct){n:Nat}{x m:Str}{i:Nat}{a:Expr}{xp ap cp pos:Pos}{k j:Bool}{xs ys:List PV}(hx:loc ct x=some i)(hm:m="extend")(hline:(ap.endLine==cp.line)=true)(hs:isStar a=false)
  (hr:aP cd (ao n ct a) τ=some (.frz (.lst ys) k)) (ho:τ[i]? =some (.own xs j)) (hz:imms ys=true/\xs.length+ys.length<=LN) :
  ji X Hi τ (.Expr (.Call (.Attribute (.Name x xp) m ap) [a] [] cp) pos) (.nx (τ.set i (.own (xs++ys) j))):=by
 intro O σ H D R hl q;subst hm;obtain⟨h1,h2,h3,h4⟩:=fJ C hx;obtain⟨o1,o2,o3⟩:=bh h3;refine ws (mH (zg PySem.F.plainAttrs_list PySem.F.slot_list_extend PySem.F.type_list_extend pW (mJ h1 (o0 C.S h4) o1 o2) (aN ae az (aS hs)) rfl (by rw[aS hs];rfl) hline (aS hs) rfl) rfl) ?_;obtain⟨l,us,g1,g2,g3,g4⟩:=R.owns i xs j ho;refine⟨_,g1,.inl ⟨rfl,us,bP.of g3⟩,?_⟩;refine(cI n).e X ct Hi _ a _ C hr O σ H _ R fun u H' s ok=> ?_;obtain⟨p,vs,rfl,sq,rp⟩:=ok.itsL R s (xs:=ys) (n:=k) rfl rfl;have hlen:=g4.len;have hlen2:=rp.len;refine⟨l,p,us,vs,rfl,rfl,s _ _ g3,sq,by rw[cF,<-hlen,<-hlen2];exact hz.2,?_⟩;exact qa (R.ext s) hl ho g1 (aJ.app (g4.mono (aH s)) (rp.imm hz.1 ⟨fun _ _ z=>z,fun _ _ _ z=>z⟩)) (qX.from q (aH s))
theorem aJ.dropLast{n:Bool}{xs:List PV}{H:Hp}{us:List V}(h:aJ X.K Hi n xs H us):aJ X.K Hi n xs.dropLast H us.dropLast:=by
 rw[List.dropLast_eq_take,List.dropLast_eq_take,<-h.len];exact h.take _
theorem wp(C:bQ cd X ct)(hfn:X.fn=fun _=>true){n:Nat}{x:Str}{i:Nat}{op:Operator}{e:Expr}{xp pos:Pos}{r:RV}{v w:Int}{k:Bool}{g:Int->Int->Int}(hx:loc ct x=some i)(hop:PIp X op (ipI g))(hr:aP cd (ao n ct e) τ=some r)(hv:τ[i]? =some (.frz (.int v) k))(hw:r.val=.int w) :
  ji X Hi τ (.AugAssign (.Name x xp) op e pos) (.nx (τ.set i (.frz (.int (g v w)) true))):=by
 intro O σ H D R hl q;obtain⟨h1,h2,h3,h4⟩:=fJ C hx;have hi:i<σ.length:=by rw[hl];exact(G9.mp h1).1
 have hN:X.N.Nodup:=by rw[C.N];exact C.nd
 obtain⟨u,hu,ru⟩:=R.frz i _ _ hv;cases Rp.int.mp ru;refine ws (A8 hN h1 h2 ae hop (.inl (by rw[hfn]))) ⟨_,hu,?_⟩;refine(cI n).e X ct Hi _ e r C hr O σ H _ R fun u' H' s ok=>⟨v,w,rfl,ok.int R s hw,?_⟩;exact q _ _ O ((R.ext s).setF hi (Rp.int.mpr rfl)) (by rw[Jc];exact hl) (aH s)
end
section
variable{cd:Nat->List PV->Option PV}{fu:Nat}
structure Gm(cd:Nat->List PV->Option PV)(fu:Nat)(n:Nat):Prop where
 s:∀(X:Cx)(ct:Ct)(Hi:Hp)(τ:En)(st:Stmt)(fl:Fl),bQ cd X ct->(X.fn=fun _=>true)->bz cd fu (j0 n ct st) τ=some fl->ji X Hi τ st fl
 ss:∀(X:Cx)(ct:Ct)(Hi:Hp)(τ:En)(st:List Stmt)(fl:Fl),bQ cd X ct->(X.fn=fun _=>true)->bD cd fu (bG n ct st) τ=some fl->qQ X Hi τ st fl
theorem au{τ:En}{r:Fl}(h:bz cd fu .never τ=some r){P:Prop}:P:=by simp[iL,gr,gz,gw,iA,iD,gq,hV,iI,iG,iN,hZ,hU,hJ,iH,gv,gu,gt,iF,iE,iM,iK,iJ,iC,iB,g9,hX]at h
theorem stE{n:Nat}(IH:Gm cd fu n){X:Cx}{ct:Ct}{Hi:Hp}{τ:En}{st:Stmt}{fl:Fl}(C:bQ cd X ct)(hfn:X.fn=fun _=>true)(h:bz cd fu (j0 (n+1) ct st) τ=some fl):ji X Hi τ st fl:=by
 cases st with
 | Return v pos =>
  simp only[ko,kX,km,kc,ke,kW,kZ,kj,ki,kh,kY,kl]at h;cases v with
  | none =>
   simp only[iL,gr,gz,gw,iA,iD,gq,hV,iI,iG,iN,hZ,hU,hJ,iH,gv,gu,gt,iF,iE,iM,iK,iJ,iC,iB,g9,hX]at h;cases h;exact xY
  | some e =>
   simp only[iL,gr,gz,gw,iA,iD,gq,hV,iI,iG,iN,hZ,hU,hJ,iH,gv,gu,gt,iF,iE,iM,iK,iJ,iC,iB,g9,hX]at h;obtain⟨r,hr,h⟩:=bind_some h;obtain⟨w,hk,h⟩:=bind_some h;obtain⟨v,m⟩:=w;dsimp only at h
   split at h
   ·rename_i hm
    cases h;subst hm;exact Ay C hr hk
   ·cases h
 | Assign ts e pos =>
  simp only[ko,kX,km,kc,ke,kW,kZ,kj,ki,kh,kY,kl]at h
  split at h
  ·rename_i x xp
   cases hx:loc ct x with
   | none=>rw[hx]at h;exact au h
   | some i =>
    rw[hx]at h;dsimp only at h;simp only[iL,gr,gz,gw,iA,iD,gq,hV,iI,iG,iN,hZ,hU,hJ,iH,gv,gu,gt,iF,iE,iM,iK,iJ,iC,iB,g9,hX]at h;obtain⟨r,hr,h⟩:=bind_some h;obtain⟨τ',hp',h⟩:=map_some h;subst h;exact Cv C hfn hx hr hp'
  ·exact au h
 | If c a b pos =>
  simp only[ko,kX,km,kc,ke,kW,kZ,kj,ki,kh,kY,kl,iL,gr,gz,gw,iA,iD,gq,hV,iI,iG,iN,hZ,hU,hJ,iH,gv,gu,gt,iF,iE,iM,iK,iJ,iC,iB,g9,hX]at h;obtain⟨t,ht,h⟩:=bind_some h;refine B2 ((cI n).c X ct Hi τ c t C ht) ?_;cases t with
  | true=>exact IH.ss X ct Hi τ a fl C hfn h
  | false=>exact IH.ss X ct Hi τ b fl C hfn h
 | For tg it body els pos =>
  simp only[ko,kX,km,kc,ke,kW,kZ,kj,ki,kh,kY,kl]at h;cases els with
  | cons _ _=>exact au h
  | nil =>
   dsimp only at h;cases ht:sL ct tg with
   | none=>rw[ht]at h;exact au h
   | some w =>
    obtain⟨is,one⟩:=w;rw[ht]at h;simp only[iL,gr,gz,gw,iA,iD,gq,hV,iI,iG,iN,hZ,hU,hJ,iH,gv,gu,gt,iF,iE,iM,iK,iJ,iC,iB,g9,hX]at h;obtain⟨w,hw,h⟩:=bind_some h;obtain⟨xs,k,b⟩:=w;dsimp only at h;cases b with
    | true=>cases h
    | false=>exact CA C hfn ht hw (fun τ fl h=>IH.ss X ct Hi τ body fl C hfn h) h
 | While c body els pos =>
  simp only[ko,kX,km,kc,ke,kW,kZ,kj,ki,kh,kY,kl]at h;cases els with
  | cons _ _=>exact au h
  | nil =>
   simp only[iL,gr,gz,gw,iA,iD,gq,hV,iI,iG,iN,hZ,hU,hJ,iH,gv,gu,gt,iF,iE,iM,iK,iJ,iC,iB,g9,hX]at h;exact uH C (fun τ b h=>(cI n).c X ct Hi τ c b C h) (fun τ fl h=>IH.ss X ct Hi τ body fl C hfn h) h
 | Pass pos =>
  simp only[ko,kX,km,kc,ke,kW,kZ,kj,ki,kh,kY,kl,iL,gr,gz,gw,iA,iD,gq,hV,iI,iG,iN,hZ,hU,hJ,iH,gv,gu,gt,iF,iE,iM,iK,iJ,iC,iB,g9,hX]at h;cases h;exact fun O σ H D R hl q=>ws xk (q σ H O R hl (aB.refl _))
 | Break pos =>
  simp only[ko,kX,km,kc,ke,kW,kZ,kj,ki,kh,kY,kl,iL,gr,gz,gw,iA,iD,gq,hV,iI,iG,iN,hZ,hU,hJ,iH,gv,gu,gt,iF,iE,iM,iK,iJ,iC,iB,g9,hX]at h;cases h;exact fun O σ H D R hl q=>ws u9 (q σ H O R hl (aB.refl _))
 | Continue pos =>
  simp only[ko,kX,km,kc,ke,kW,kZ,kj,ki,kh,kY,kl,iL,gr,gz,gw,iA,iD,gq,hV,iI,iG,iN,hZ,hU,hJ,iH,gv,gu,gt,iF,iE,iM,iK,iJ,iC,iB,g9,hX]at h;cases h;exact fun O σ H D R hl q=>ws nM (q σ H O R hl (aB.refl _))
 | Expr e pos =>
  simp only[ko,kX,km,kc,ke,kW,kZ,kj,ki,kh,kY,kl]at h
  split at h
  ·rename_i x xp m ap es cp
   split at h
   ·rename_i hline
    cases hx:loc ct x with
    | none=>rw[hx]at h;exact au h
    | some i =>
     rw[hx]at h;dsimp only at h
     split at h
     ·rename_i a
      split at h
      ·exact au h
      ·rename_i hs
       split at h
       ·rename_i hm
        simp only[iL,gr,gz,gw,iA,iD,gq,hV,iI,iG,iN,hZ,hU,hJ,iH,gv,gu,gt,iF,iE,iM,iK,iJ,iC,iB,g9,hX]at h;obtain⟨r,hr,h⟩:=bind_some h;obtain⟨w,hk,h⟩:=bind_some h;obtain⟨v,k⟩:=w
        split at h
        ·rename_i xs j ho
         split at h
         ·rename_i hz
          cases h;exact Cy C hx (HN hm) hline (Im.mpr hs) hr hk ho hz
         ·cases h
        ·cases h
       ·split at h
        ·rename_i hm
         simp only[iL,gr,gz,gw,iA,iD,gq,hV,iI,iG,iN,hZ,hU,hJ,iH,gv,gu,gt,iF,iE,iM,iK,iJ,iC,iB,g9,hX]at h;obtain⟨r,hr,h⟩:=bind_some h
         split at h
         ·rename_i ys k xs j ho
          split at h
          ·rename_i hz
           cases h;exact CD C hx (HN hm) hline (Im.mpr hs) hr ho hz
          ·cases h
         ·cases h
        ·exact au h
     ·exact au h
   ·exact au h
  ·exact au h
 | AugAssign t op e pos =>
  simp only[ko,kX,km,kc,ke,kW,kZ,kj,ki,kh,kY,kl]at h
  split at h
  ·rename_i x xp
   cases hx:loc ct x with
   | none=>rw[hx]at h;exact au h
   | some i =>
    rw[hx]at h;simp only[iL,gr,gz,gw,iA,iD,gq,hV,iI,iG,iN,hZ,hU,hJ,iH,gv,gu,gt,iF,iE,iM,iK,iJ,iC,iB,g9,hX]at h;obtain⟨r,hr,h⟩:=bind_some h
    split at h
    ·rename_i hv hw
     cases h;exact wp C hfn hx By hr (by assumption) (by assumption)
    ·rename_i hv hw
     cases h;exact wp C hfn hx Bx hr (by assumption) (by assumption)
    ·cases h
  ·exact au h
 | Raise e c pos =>
  simp only[ko,kX,km,kc,ke,kW,kZ,kj,ki,kh,kY,kl]at h
  split at h
  ·split at h
   ·simp[iL,gr,gz,gw,iA,iD,gq,hV,iI,iG,iN,hZ,hU,hJ,iH,gv,gu,gt,iF,iE,iM,iK,iJ,iC,iB,g9,hX]at h
   ·exact au h
  ·exact au h
 | _=>(try simp only[ko,kX,km,kc,ke,kW,kZ,kj,ki,kh,kY,kl]at h);exact au h
theorem zF:∀n:Nat,Gm cd fu n
 | 0=>by
  refine⟨fun X ct Hi τ st fl C hfn h=> ?_,fun X ct Hi τ st fl C hfn h=> ?_⟩
  ·simp[ko,kX,km,kc,ke,kW,kZ,kj,ki,kh,kY,kl,iL,gr,gz,gw,iA,iD,gq,hV,iI,iG,iN,hZ,hU,hJ,iH,gv,gu,gt,iF,iE,iM,iK,iJ,iC,iB,g9,hX]at h
  ·simp[DU,DS,DT,AJ,AK,iL,gr,gz,gw,iA,iD,gq,hV,iI,iG,iN,hZ,hU,hJ,iH,gv,gu,gt,iF,iE,iM,iK,iJ,iC,iB,g9,hX]at h
 | n+1=>by
  have IH:=zF n;refine⟨fun X ct Hi τ st fl C hfn h=>stE IH C hfn h,fun X ct Hi τ st fl C hfn h=> ?_⟩;cases st with
  | nil =>
   simp only[DU,DS,DT,AJ,AK]at h;cases h;exact fun O σ H D R hl q=>wss xi (q σ H O R hl (aB.refl _))
  | cons st ss =>
   simp only[DU,DS,DT]at h;simp only[AJ,AK]at h;obtain⟨f,hf,h⟩:=bind_some h;have h1:=IH.s X ct Hi τ st f C hfn hf;intro O σ H D R hl q;refine wss (eD Er cP) ?_;refine h1 O σ H _ R hl ?_;cases f with
   | nx τ1=>exact fun σ1 H1 O1 R1 hl1 s1=>IH.ss X ct Hi τ1 ss fl C hfn h O1 σ1 H1 D R1 hl1 (q.from s1)
   | bk τ1 =>
    have h:some (Fl.bk τ1)=some fl:=h;cases h;exact q
   | ct τ1 =>
    have h:some (Fl.ct τ1)=some fl:=h;cases h;exact q
   | rt v =>
    have h:some (Fl.rt v)=some fl:=h;cases h;exact q
end
theorem lQ{K:W.Frag}{H:Hp}{d:FD}{N:List Str}{pvs:List PV}{vs:List V}(hn:d.nn=N.length)(r:aJ K H false pvs H vs):ag K H [] (entry d pvs) (start N vs) H:=by
 have hl:=r.len;have dr:∀(i:Nat)(t:TV),(entry d pvs)[i]? =some t->t=.un\/∃v u,t=.frz v (imm v)/\(start N vs)[i]? =some (some u)/\Rp K H false v H u:=fun i t e=>by
  unfold entry at e
  by_cases hi:i<pvs.length
  ·rw[JK (by simpa using hi),HG]at e
   have hv:pvs[i]? =some pvs[i]:=by simp
   rw[hv]at e;cases e;obtain⟨u,hu,ru⟩:=r.at hv;refine .inr ⟨_,u,rfl,?_,ru⟩;unfold L2.start;rw[JK (by rw[Go];omega),HG,hu];rfl
  ·rw[JG (by simpa using hi),List.getElem?_replicate]at e
   split at e
   ·cases e
    exact .inl rfl
   ·cases e
 refine⟨aB.refl _,fun l hl=>(by cases hl),fun i v n e=> ?_,fun i t b xs n e ht=> ?_,fun i j t t' x y l e1 ht e2 ht' h1 h2=> ?_⟩
 ·rcases dr i _ e with z|⟨v',u,z,h1,h2⟩
  ·cases z
  ·cases z
   refine⟨u,h1,?_⟩;rw[rO];cases him:imm v with
   | true=>exact Rp.imm him ⟨fun _ _ e=>e,fun _ _ _ e=>e⟩ h2
   | false=>exact h2
 ·rcases dr i _ e with z|⟨v',u,z,h1,h2⟩<;>(subst z;cases ht)
 ·rcases dr i _ e1 with z|⟨v',u,z,h1,h2⟩<;>(subst z;cases ht)
theorem Bo{p:Program}{w:World}{K:W.Frag}{mg:Str->Option Value}{base:Heap}{P:Nat->Option FD}{k f:Nat}{a:Addr}{fd:FuncData}{ps:List Str}(F:bu p w K mg base oz k a fd ps (zY K (aG P k f)))
  (h:∀ns:List Int,ns.length<=63->aG P k f [.lst (ns.map PV.int)]=some (.bl true)):bu p w K mg base oz k a fd ps (qj K) :=
 F.imp fun vs H Q E z=>by
  obtain⟨l,ns,rfl,hS,h63,q⟩:=z;refine⟨[.lst (ns.map PV.int)],.bl true,.cons (Rp.lst.mpr ⟨l,_,rfl,(fun z=>by cases z),hS,aJ.ints.mpr rfl⟩) .nil,h ns h63,fun u H' s r=> ?_⟩;rw[Rp.bl.mp r];exact q H'
section
variable{K:W.Frag}{mg:Str->Option Value}{P:Nat->Option FD}{F0:List (Str×Nat)}{G0:List (Str×PV)}{B0:List Str}
theorem gnil:∀(x:Str)(v:PV),([]:List (Str×PV)).lookup x=some v->∃u w,mg x=some u/\RelV w u/\∀Hi n H,Rp K Hi n v H w:=fun x f h=>by cases h
theorem rP{x0:Str}{v0:PV}{r:List (Str×PV)}(h:∃u w,mg x0=some u/\RelV w u/\∀Hi n H,Rp K Hi n v0 H w)(hr:∀(x:Str) (v:PV),r.lookup x=some v->∃u w,mg x=some u/\RelV w u/\∀Hi n H,Rp K Hi n v H w) :
  ∀(x:Str)(v:PV),((x0,v0)::r).lookup x=some v->∃u w,mg x=some u/\RelV w u/\∀Hi n H,Rp K Hi n v H w:=fun x f e=>by
 rw[Hl]at e
 split at e
 ·rename_i c
  cases e;rw[HN c];exact h
 ·exact hr x f e
theorem bnil:∀(x:Str),([]:List Str).contains x=true->mg x=none:=fun x h=>by simp at h
theorem b5{x0:Str}{r:List Str}(h:mg x0=none)(hr:∀(x:Str),r.contains x=true->mg x=none):∀(x:Str),(x0::r).contains x=true->mg x=none:=fun x e=>by
 rw[List.contains_cons,IF]at e
 rcases e with e|e
 ·rw[HN e]
  exact h
 ·exact hr x e
end
theorem tG{α:Type}{us:List α}(h:us.length=1):∃a,us=[a]:=by
 cases us with
 | nil=>cases h
 | cons a us=>cases us with
  | nil=>exact⟨a,rfl⟩
  | cons b us=>cases h
theorem pc{α:Type}{us:List α}(h:us.length=2):∃a b,us=[a,b]:=by
 cases us with
 | nil=>cases h
 | cons a us=>obtain⟨b,rfl⟩:=tG (KL h);exact⟨a,b,rfl⟩
theorem mL{α:Type}{us:List α}(h:us.length=3):∃a b c,us=[a,b,c]:=by
 cases us with
 | nil=>cases h
 | cons a us=>obtain⟨b,c,rfl⟩:=pc (KL h);exact⟨a,b,c,rfl⟩
theorem len4{α:Type}{us:List α}(h:us.length=4):∃a b c d,us=[a,b,c,d]:=by
 cases us with
 | nil=>cases h
 | cons a us=>obtain⟨b,c,d,rfl⟩:=mL (KL h);exact⟨a,b,c,d,rfl⟩
theorem oK{set:PV->En->Option En}{body:En->Option Fl}(I:Nat->En->Prop)(R:Fl->Prop):∀(xs ys:List PV)(τ:En),I xs.length τ ->
  (∀(i:Nat)(x:PV)(τ:En),(xs++ys)[i]? =some x->xs.length<=i->I i τ->∃τ1 f,set x τ=some τ1/\body τ1=some f/\(match f with| .nx τ2=>I (i+1) τ2| .ct τ2=>I (i+1) τ2| .bk τ2=>R (.nx τ2)| .rt v=>R (.rt v))) ->
  (∀τ,I (xs++ys).length τ->R (.nx τ))->∃fl,jU set body ys τ=some fl/\R fl
 | xs,[],τ,h0,hs,he=>⟨.nx τ,rfl,he τ (by rw[ID];exact h0)⟩
 | xs,y::ys,τ,h0,hs,he=>by
  obtain⟨τ1,f,h1,h2,h3⟩:=hs xs.length y τ (by simp) (Gr _) h0;have e:xs++y::ys=(xs++[y])++ys:=by simp
  have ih:=fun τ2 (h:I (xs.length+1) τ2)=>oK (set:=set) (body:=body) I R (xs++[y]) ys τ2 (by rw[G6];exact h) (fun i x τ hx hi=>hs i x τ (by rw[e];exact hx) (by rw[G6]at hi;omega)) (by rw[<- e];exact he);unfold jU;rw[h1];dsimp only[Option.bind];rw[h2];cases f with
  | nx τ2=>exact ih τ2 h3
  | ct τ2=>exact ih τ2 h3
  | bk τ2=>exact⟨_,rfl,h3⟩
  | rt v=>exact⟨_,rfl,h3⟩
theorem yc{set:PV->En->Option En}{body:En->Option Fl}{xs:List PV}{τ:En}(I:Nat->En->Prop)(R:Fl->Prop)(h0:I 0 τ)
  (hs:∀(i:Nat)(x:PV)(τ:En),xs[i]? =some x->I i τ->∃τ1 f,set x τ=some τ1/\body τ1=some f/\(match f with| .nx τ2=>I (i+1) τ2| .ct τ2=>I (i+1) τ2| .bk τ2=>R (.nx τ2)| .rt v=>R (.rt v)))
  (he:∀τ,I xs.length τ->R (.nx τ)):∃fl,jU set body xs τ=some fl/\R fl :=
 oK I R [] xs τ h0 (fun i x τ hx _ hI=>hs i x τ hx hI) he
section
variable{v:PV}{n m:Bool}{xs ys:List PV}{i j:Int}{z y:Str}{a b:RV}{τ:En}{t:TV}{k:Nat}
theorem cE:(RV.frz v n).val=v:=rfl
theorem xI:(RV.bor v).val=v:=rfl
theorem xH:(RV.own xs n).val=.lst xs:=rfl
theorem vp:(RV.frz v n).keep=some (v,n):=rfl
theorem vo:(RV.own xs n).keep=some (.lst xs,n):=rfl
theorem yS:eE (.lst xs)=some xs.length:=rfl
theorem yQ:eE (.tup xs)=some xs.length:=rfl
theorem len_str:eE (.str z)=if z.length<=LN then some z.length else none:=rfl
theorem yg:fL (some (.rt v))=some v:=rfl
theorem B7:oJ (.frz v n::τ) 0=some (.frz v n):=rfl
theorem B9:oJ (.own xs n::τ) 0=some (.bor (.lst xs)):=rfl
theorem B8:oJ (t::τ) (k+1)=oJ τ k:=rfl
theorem jT:ai [] τ=τ:=rfl
theorem lO{c:List Nat}:ai (k::c) τ=ai c (mV τ k):=rfl
theorem ya:mV (.own xs n::τ) 0=.frz (.lst xs) n::τ:=rfl
theorem rT:mV (.frz v n::τ) 0=.frz v n::τ:=rfl
theorem v4:mV (t::τ) (k+1)=t::mV τ k:=by
 unfold mV;rw[JV];cases τ[k]? with
 | none=>rfl
 | some t=>cases t<;>rfl
theorem zB:cW .Add (.frz (.int i) n) (.frz (.int j) m)=some (sc (.int (i+j))):=rfl
theorem yy:cW .Sub (.frz (.int i) n) (.frz (.int j) m)=some (sc (.int (i-j))):=rfl
theorem y7:cW .Mult (.frz (.int i) n) (.frz (.int j) m)=if(-(2^64)<i/\i<2^64)\/(-(2^64)<j/\j<2^64)then some (sc (.int (i*j)))else if i.natAbs<2^2000/\j.natAbs<2^2000 then some (sc (.int (i*j)))else none:=rfl
theorem y9:cW .FloorDiv (.frz (.int i) n) (.frz (.int j) m)=if 0<j/\j<2^200 then some (sc (.int (i/j)))else none:=rfl
theorem y8:cW .Mod (.frz (.int i) n) (.frz (.int j) m)=if 0<j then some (sc (.int (i%j)))else none:=rfl
theorem yz:cW .LShift (.frz (.int i) n) (.frz (.int j) m)=if 0<=j/\j<=1000000/\i.natAbs<2^64 then some (sc (.int (i*2^j.toNat)))else none:=rfl
theorem zA:cW .Add (.frz (.str z) n) (.frz (.str y) m)=if z.length+y.length<=LN then some (sc (.str (z++y)))else none:=rfl
theorem Cc:bN .Lt (.int i) (.int j)=some (decide (i<j)):=rfl
theorem Cd:bN .Gt (.int i) (.int j)=some (decide (j<i)):=rfl
theorem yt:bN .Eq (.int i) (.int j)=some (decide (i=j)):=rfl
theorem yq:bN .Eq (.str z) (.str y)=some (decide (z=y)):=rfl
theorem yp:bN .NotEq (.str z) (.str y)=some (!decide (z=y)):=rfl
end
section
variable{cd:Nat->List PV->Option PV}{fu:Nat}{s:IS}{ss:om}{τ τ1:En}{v:PV}
end
theorem bn{cd:Nat->List PV->Option PV}{fu:Nat}{s:IS}{ss:om}{τ:En}:bD cd fu (.cons s ss) τ=(bz cd fu s τ).bind fun f=>eh f (bD cd fu ss):=by simp only[AJ,AK]
theorem wD{cd:Nat->List PV->Option PV}{fu:Nat}{τ:En}:bD cd fu .nil τ=some (.nx τ):=by simp only[AJ,AK]
theorem run{P:Nat->Option FD}{k f:Nat}{d:FD}{vs:List PV}{r:PV}(hP:P f=some d)(hl:vs.length=d.np)(h:fL (bD (aG P k) 1000000 d.body (entry d vs))=some r):aG P (k+1) f vs=some r:=by
 show(P f).bind _=_;rw[hP];show(if vs.length=d.np then _ else _)=_;rw[Gu hl];exact h
section
variable{a b:RV}{t:String}{n m:Bool}{xs ys:List PV}{i j:Int}{bl:Bool}
theorem lj{τ:En}{k:En->Option Fl}:eh (.nx τ) k=k τ:=rfl
theorem xM{v:PV}{k:En->Option Fl}:eh (.rt v) k=some (.rt v):=rfl
theorem uR:kq (.bl bl)=some bl:=rfl
theorem wd:iS (.bl bl)=some bl:=rfl
theorem xT:lB (.frz (.lst xs) n)=some (xs,n,false):=rfl
theorem xS:lB (.own xs n)=some (xs,n,false):=rfl
theorem Ep{τ:En}{k:Nat}:mF true k (.own xs n) τ=some (τ.set k (.own xs n)):=rfl
theorem A3{τ:En}{k:Nat}:mF false k (.own xs n) τ=some (τ.set k (.frz (.lst xs) n)):=rfl
theorem A4{τ:En}{k:Nat}{o:Bool}{v:PV}:mF o k (.frz v n) τ=some (τ.set k (.frz v n)):=by cases o<;>rfl
theorem Ac:iV (.lst xs)=.own xs true:=rfl
theorem AZ:iV (.tup xs)=.frz (.tup xs) true:=rfl
theorem Ad:iV (.int i)=.frz (.int i) true:=rfl
theorem Ae:iV (.bl bl)=.frz (.bl bl) true:=rfl
theorem Aa{z:Str}:iV (.str z)=.frz (.str z) true:=rfl
theorem Ab:iV .non=.frz .non true:=rfl
theorem Co:ml .len [a]=(eE a.val).map fun n=>sc (.int (n:Nat)):=rfl
theorem zD:ml .int [.frz (.bl bl) n]=some (sc (.int (if bl then 1 else 0))):=rfl
theorem zC:ml (.isin t) [a]=(eW t a.val).map fun b=>sc (.bl b):=rfl
theorem wm:ml .list [.frz (.tup xs) n]=some (.own xs n):=rfl
theorem wn:ml .list [.frz (.lst xs) n]=some (.own xs n):=rfl
theorem tw:ml .tuple [.frz (.lst xs) n]=some (.frz (.tup xs) n):=rfl
theorem Cm:ml .min [.frz (.int i) n,.frz (.int j) m]=some (sc (.int (if j<i then j else i))):=rfl
theorem Cn:ml .max [.frz (.int i) n,.frz (.int j) m]=some (sc (.int (if j>i then j else i))):=rfl
theorem Cp:ml .abs [.frz (.int i) n]=some (sc (.int (if i<0 then -i else i))):=rfl
theorem wk:ml .sorted [.own xs n]=jA xs (.own xs n):=rfl
theorem Ee:DY (.frz (.lst xs) n)=some (xs,n):=rfl
theorem ix_L(k:Int):index (.frz (.lst xs) n) (.frz (.int k) m)=(ed xs k).map fun e=>.frz e (n||imm e):=rfl
theorem ix_T(k:Int):index (.frz (.tup xs) n) (.frz (.int k) m)=(ed xs k).map fun e=>.frz e (n||imm e):=rfl
theorem ix_O(k:Int):index (.own xs n) (.frz (.int k) m)=(ed xs k).map fun e=>.frz e (n||imm e):=rfl
theorem ix_S(k:Int)(z:Str):index (.frz (.str z) n) (.frz (.int k) m)=if z.length<=LN then(ed z.cps.toList k).map fun c=>sc (.str ⟨#[c]⟩)else none:=rfl
end
theorem oD{i:Int}:eW "int" (.int i)=some true:=by simp[eW]
theorem mR{i:Int}:eW "bool" (.int i)=some false:=by simp[eW]
theorem oC{i:Int}:eW "str" (.int i)=some false:=by simp[eW]
theorem oB{z:Str}:eW "str" (.str z)=some true:=by simp[eW]
theorem mQ{i:Int}:eW "list" (.int i)=some false:=by simp[eW]
theorem mO{z:Str}:eW "list" (.str z)=some false:=by simp[eW]
theorem mP{xs:List PV}:eW "list" (.lst xs)=some true:=by simp[eW]
theorem kP{i:Int}:eW "tuple" (.int i)=some false:=by simp[eW]
theorem kN{z:Str}:eW "tuple" (.str z)=some false:=by simp[eW]
theorem kO{xs:List PV}:eW "tuple" (.lst xs)=some false:=by simp[eW]
theorem kM{xs:List PV}:eW "tuple" (.tup xs)=some true:=by simp[eW]
theorem p7  :bN .Is .non .non=some true:=rfl
theorem p9{i:Int}:bN .Is (.int i) .non=some false:=rfl
theorem p6{z:Str}:bN .Is (.str z) .non=some false:=rfl
theorem p8{xs:List PV}:bN .Is (.lst xs) .non=some false:=rfl
theorem p5{xs:List PV}:bN .Is (.tup xs) .non=some false:=rfl
theorem jc{α:Type}{f:PV->Option (Option (PV×Bool))}{h:α->PV}{g:α->PV}:∀{l:List α},(∀x∈l,f (h x)=some (some (g x,true)))->cD f (l.map h)=some (l.map g,true)
 | [],_=>rfl
 | x::xs,k=>by
  rw[HW];unfold cD;rw[k x Gw,jc fun y hy=>k y (Gs _ hy)];rfl
noncomputable def To(o:Option Fl)(Q:Fl->Prop):Prop:=∃f,o=some f/\Q f
theorem xL{f:Fl}{Q:Fl->Prop}:To (some f) Q↔Q f:=⟨fun⟨g,e,h⟩=>by cases e;exact h,fun h=>⟨f,rfl,h⟩⟩
theorem To.imp{o:Option Fl}{Q Q' :Fl->Prop}(h:To o Q)(k:∀f,Q f->Q' f):To o Q' :=by
 obtain⟨f,e,q⟩:=h;exact⟨f,e,k f q⟩
theorem zZ{P:Nat->Option FD}{k f:Nat}{d:FD}{vs:List PV}{Q:PV->Prop}(hP:P f=some d)(hl:vs.length=d.np)(h:To (bD (aG P k) 1000000 d.body (entry d vs)) fun fl=>∃v,fL (some fl)=some v/\Q v):∃v,aG P (k+1) f vs=some v/\Q v:=by
 obtain⟨fl,e,v,h1,h2⟩:=h;exact⟨v,run hP hl (by rw[e];exact h1),h2⟩
theorem br{P:Nat->Option FD}{k f:Nat}{d:FD}{vs:List PV}{r:PV}(hP:P f=some d)(hl:vs.length=d.np)(h:To (bD (aG P k) 1000000 d.body (entry d vs)) fun fl=>fL (some fl)=some r):aG P (k+1) f vs=some r:=by
 obtain⟨fl,e,h1⟩:=h;exact run hP hl (by rw[e];exact h1)
section
variable{cd:Nat->List PV->Option PV}{fu:Nat}{τ:En}{cap:List Nat}{e e2:IE}{i j:Nat}{o one:Bool}{is:List Nat}{c:IC}{a b body:om}{src:IT}
theorem CJ:bz cd fu (.asg i o cap e) τ=(aP cd e (ai cap τ)).bind fun r=>(mF o i r (ai cap τ)).map .nx:=by simp only[iL,gr,gz,gw,iA,iD,gq,hV,iI,iG,iN,hZ,hU,hJ,iH,gv,gu,gt,iF,iE,iM,iK,iJ,iC,iB,g9,hX]
theorem CG:bz cd fu (.ret cap e) τ=(aP cd e (ai cap τ)).bind fun r=>r.keep.bind fun(v,n)=>if n then some (.rt v)else none:=by simp only[iL,gr,gz,gw,iA,iD,gq,hV,iI,iG,iN,hZ,hU,hJ,iH,gv,gu,gt,iF,iE,iM,iK,iJ,iC,iB,g9,hX]
theorem CH:bz cd fu (.ife c a b) τ=(dq cd c τ).bind fun r=>if r then bD cd fu a τ else bD cd fu b τ:=by simp only[iL,gr,gz,gw,iA,iD,gq,hV,iI,iG,iN,hZ,hU,hJ,iH,gv,gu,gt,iF,iE,iM,iK,iJ,iC,iB,g9,hX]
noncomputable def qq(i:Nat)(v:PV)(m:Bool)(τ:En):Option Fl:=match τ[i]? with
  | some (.own xs n)=>if xs.length<LN then some (.nx (τ.set i (.own (xs++[v]) (n&&m))))else none
  | _=>none
theorem CK:bz cd fu (.app i cap e) τ=(aP cd e (ai cap τ)).bind fun r=>r.keep.bind fun(v,m)=>qq i v m (ai cap τ):=by simp only[iL,gr,gz,gw,iA,iD,gq,hV,iI,iG,iN,hZ,hU,hJ,iH,gv,gu,gt,iF,iE,iM,iK,iJ,iC,iB,g9,hX];rfl
theorem eC{v:PV}{n m:Bool}{xs:List PV}(h:τ[i]? =some (.own xs n))(hz:xs.length<LN):qq i v m τ=some (.nx (τ.set i (.own (xs++[v]) (n&&m)))):=by
 unfold qq;rw[h];exact Gu hz
theorem cH{xs:List PV}{n:Bool}{k:En->Option Fl}{Q:Fl->Prop}(ht:kQ cd src (ai cap τ)=some (xs,n,false))(I:Nat->En->Prop)(h0:I 0 (ai cap τ))
  (hs:∀(i:Nat)(x:PV)(τ:En),xs[i]? =some x->I i τ->∃τ1,eA is one n x τ=some τ1/\To (bD cd fu body τ1) fun f=>match f with| .nx τ2=>I (i+1) τ2| .ct τ2=>I (i+1) τ2| .bk τ2=>To (k τ2) Q| .rt v=>Q (.rt v))
  (hk:∀τ',I xs.length τ' ->To (k τ') Q):To ((bz cd fu (.forr is one cap src body) τ).bind fun f=>eh f k) Q:=by
 obtain⟨fl,e,h⟩:=yc (set:=eA is one n) (body:=fun τ=>bD cd fu body τ) (xs:=xs) (τ:=ai cap τ) I (fun fl=>To (eh fl k) Q) h0 (fun i x τ hx hI=>by
  obtain⟨τ1,h1,f,h2,h3⟩:=hs i x τ hx hI;refine⟨τ1,f,h1,h2,?_⟩;cases f with
  | nx τ2=>exact h3
  | ct τ2=>exact h3
  | bk τ2=>exact h3
  | rt v=>exact⟨_,rfl,h3⟩) hk
 have e2:bz cd fu (.forr is one cap src body) τ=some fl:=by
  simp only[iL,gr,gz,gw,iA,iD,gq,hV,iI,iG,iN,hZ,hU,hJ,iH,gv,gu,gt,iF,iE,iM,iK,iJ,iC,iB,g9,hX,ht,Hf];exact e
 rw[e2];exact h
end
theorem bt:∀l:List Str,imms (l.map PV.str)=true
 | []=>rfl
 | x::l=>by rw[HW,imms,bt l];rfl
theorem oI{α:Type}{f:α->PV}(h:∀x,imm (f x)=true):∀l:List α,imms (l.map f)=true
 | []=>rfl
 | x::l=>by rw[HW,imms,oI h l,h x];rfl
theorem vx(l:List Str):imm (.tup (l.map PV.str))=true:=by rw[imm];exact bt l
theorem B1:oF none=some none:=rfl
theorem Bz{n:Bool}{i:Int}:oF (some (.frz (.int i) n))=some (some i):=rfl
theorem jD{n:Bool}{xs:List PV}{lo hi:Option Int}:slice (.frz (.lst xs) n) lo hi=some (.own (cut xs lo hi) (n||imms xs)):=rfl
theorem qJ(P:Nat->Option FD)(k f:Nat)(vs:List PV):aG P (k+1) f vs=(P f).bind fun d=>if vs.length=d.np then fL (bD (aG P k) 1000000 d.body (entry d vs))else none:=rfl
section
variable{cd:Nat->List PV->Option PV}{fu:Nat}{τ:En}{e e2:IE}{i:Nat}
noncomputable def Cu(i:Nat)(op:Operator)(y:PV)(τ:En):Option Fl:=match τ[i]?,y,op with
  | some (.frz (.int x) _),.int y,.Add=>some (.nx (τ.set i (.frz (.int (x+y)) true)))
  | some (.frz (.int x) _),.int y,.Sub=>some (.nx (τ.set i (.frz (.int (x-y)) true)))
  | _,_,_=>none
theorem CI{op:Operator}:bz cd fu (.aug i op e) τ=(aP cd e τ).bind fun r=>Cu i op r.val τ:=by simp only[iL,gr,gz,gw,iA,iD,gq,hV,iI,iG,iN,hZ,hU,hJ,iH,gv,gu,gt,iF,iE,iM,iK,iJ,iC,iB,g9,hX];rfl
theorem r6{x y:Int}{n:Bool}(h:τ[i]? =some (.frz (.int x) n)):Cu i .Sub (.int y) τ=some (.nx (τ.set i (.frz (.int (x-y)) true))):=by unfold Cu;rw[h]
noncomputable def setO(i:Nat)(k v:PV)(m:Bool)(τ:En):Option Fl:=match k,τ[i]? with
  | .int j,some (.own xs n)=>(L2.tO xs.length j).map fun q=>.nx (τ.set i (.own (xs.set q v) (n&&m)))
  | y,some (.owd (.dK ks) xs n)=>(eG y).bind fun k=>if xs.length<LN then some (.nx (τ.set i (.owd (.dK (nK ks k)) (putL ks xs k v) (n&&m))))else none
  | _,_=>none
end
theorem CM{n:Bool}{xs:List PV}:lP (.frz (.lst xs) n)=some (List.zipWith dk (List.range xs.length) xs,n):=rfl
theorem yr{xs ys:List PV}:bN .Eq (.lst xs) (.lst ys)=if cX 12 (.lst xs)&&cX 12 (.lst ys)then some (rf (.lst xs) (.lst ys))else none:=rfl
theorem at_0{α:Type}{x:α}{xs:List α}:L2.ed (x::xs) 0=some x:=by
 have:=eZ (xs:=x::xs) (j:=0) (v:=x) (by simp);exact this
theorem at_1{α:Type}{x y:α}{xs:List α}:L2.ed (x::y::xs) 1=some y:=by
 have:=eZ (xs:=x::y::xs) (j:=1) (v:=y) (by simp);exact this
theorem ff{n i:Nat}{x:PV}(h:((List.range n).map fun i=>PV.int (0+(i:Nat)))[i]? =some x):i<n/\x=.int (i:Nat):=by
 rw[HG]at h
 by_cases hi:i<n
 ·rw[II hi]at h
  refine⟨hi,?_⟩;have:=(HM h).symm
  simpa using this
 ·rw[Jd (by simpa using hi)]at h
  cases h
theorem ik{n:Nat}:((List.range n).map fun i=>PV.int (0+(i:Nat))).length=n:=by simp
theorem rg{xs:List PV}{i:Nat}{x:PV}(h:(List.zipWith dk (List.range xs.length) xs)[i]? =some x):∃y,xs[i]? =some y/\x=dk i y:=by
 rw[Ir]at h;cases e:xs[i]? with
 | none=>rw[e]at h;cases hh:(List.range xs.length)[i]? <;>rw[hh]at h<;>cases h
 | some y =>
  rw[e]at h;have hi:i<xs.length:=(G9.mp e).1;rw[II hi]at h;exact⟨y,rfl,(HM h).symm⟩
theorem oQ{xs:List PV}:(List.zipWith dk (List.range xs.length) xs).length=xs.length:=by rw[JT,Ht,JZ]
theorem yE(c d:Nat):decide ((⟨#[c]⟩:Str)=⟨#[d]⟩)=decide (c=d):=by
 by_cases h:c=d
 ·subst h;simp
 ·rw[HS h,HS]
  intro e;have:=Ia (fun z:Str=>z.cps.toList) e;simp at this;exact h this
theorem wY(c:Nat):decide ((⟨#[c]⟩:Str)="x")=(c==120):=by
 have:=yE c 120;rw[show(⟨#[120]⟩:Str)="x" from rfl]at this;rw[this];rfl
theorem cq{α:Type}{f:PV->Option (Option (PV×Bool))}{h:α->PV}{p:α->Bool}{g:α->PV}:∀{l:List α},(∀x∈l,f (h x)=some (if p x then some (g x,true)else none))->cD f (l.map h)=some ((l.filter p).map g,true)
 | [],_=>rfl
 | x::xs,k=>by
  rw[HW];unfold cD;rw[k x Gw,cq fun y hy=>k y (Gs _ hy)];cases e:p x
  ·simp[IU,e]
  ·simp[IU,e]
noncomputable abbrev kU:=List (Int×Int)
noncomputable def Fj(c:kU)(k:Int):Option Int:=(c.find? fun p=>decide (p.1=k)).map (·.2)
noncomputable def A5(c:kU)(k v:Int):kU:=if(c.any fun p=>decide (p.1=k))=true then c.map (fun p=>if p.1=k then(p.1,v)else p)else c++[(k,v)]
noncomputable def addT(c:kU)(k n:Int):kU:=A5 c k ((Fj c k).getD 0+n)
noncomputable def EO(t n:Int)(c:kU)(b:Int):kU:=if Builtin.bitAnd t b=0 then addT c (Builtin.bitOr t b) n else c
noncomputable def EN(B:List Int)(c:kU)(p:Int×Int):kU:=B.foldl (EO p.1 p.2) c
noncomputable def upT(B:List Int)(c lev:kU):kU:=lev.foldl (EN B) c
noncomputable def wl(Ls:List kU)(B:List Int):Nat->List kU
 | 0=>Ls++[[]]
 | i+1=>(wl Ls B i).set (i+1) (upT B ((wl Ls B i).getD (i+1) []) (Ls.getD i []))
section
variable{X:Cx}{Hi:Hp}{τ:En}{cd:Nat->List PV->Option PV}{ct:Ct}{O:List Addr}{σ:L2.St}{H H' :Hp}{D:cw}
theorem fm{α:Type}{l:List α}{i j:Nat}{x:α}(h:l.Nodup)(hi:l[i]? =some x)(hj:l[j]? =some x):i=j:=by
 obtain⟨a,b⟩:=G9.mp hi;obtain⟨c,d⟩:=G9.mp hj;exact(List.getElem_inj h).mp (b.trans d.symm)
end
end IR
namespace IR
open PySem
noncomputable def Ak{α:Type}(l:List α)(f:α->Int):Int:=(l.map f).sum
noncomputable def cnt:List (List Nat)->List Nat->Nat->Int
 | [],_,0=>1
 | [],_,_+1=>0
 | _::rs,T,0=>cnt rs T 0
 | r::rs,T,k+1=>cnt rs T (k+1)+Ak (r.filter fun c=> !T.contains c) fun c=>cnt rs (c::T) k
noncomputable def Cols(rows:List (List Nat)):Prop:=∀r∈rows,∀c∈r,c<8
noncomputable abbrev aF:=Nat×Nat
noncomputable def Cs(cells:List aF)(k:Nat):List aF:=(cells.drop (k+1)).filter fun c=>decide ((cells.getD k (0,0)).1<c.1)
noncomputable def pl:Nat->List aF->List Int->Nat->Int
 | _,_,_,0=>1
 | 0,_,_,_+1=>0
 | n+1,cells,T,j+1=>Ak (List.range cells.length) fun k=>if T.contains ((cells.getD k (0,0)).2:Int)then 0 else pl n (Cs cells k) (T++[((cells.getD k (0,0)).2:Int)]) j
noncomputable def qk(i:Nat)(r:List Nat):List aF:=r.map fun c=>(i,c)
noncomputable def bX:Nat->List (List Nat)->List aF
 | _,[]=>[]
 | i,r::rs=>qk i r++bX (i+1) rs
theorem fN:∀(i:Nat)(rs:List (List Nat)),∀c∈bX i rs,i<=c.1/\c.1<i+rs.length
 | i,[],c,h=>by cases h
 | i,r::rs,c,h=>by
  rcases Hr.mp h with z|z
  ·obtain⟨x,_,rfl⟩:=HY.mp z
   exact⟨Gr _,by rw[HC];omega⟩
  ·have:=fN (i+1) rs c z
   rw[HC];omega
theorem eJ{l:List aF}{p:aF->Bool}(h:∀c∈l,p c=false):l.filter p=[]:=List.filter_eq_nil_iff.mpr fun c hc=>by rw[h c hc];exact Gz
noncomputable def oW(z:Str):List Nat:=(List.range z.length).filter fun c=>z.cps.toList.getD c 0==120
noncomputable def aC(rows:List Str):List aF:=bX 0 (rows.map oW)
noncomputable def freeC(T:List Nat)(l:List aF):List aF:=l.filter fun c=> !T.contains c.2
end IR
namespace IR
open PySem L2
theorem jd:∀(i:Nat)(rs:List (List Nat)),(∀r∈rs,r.length<=8)->(bX i rs).length<=8*rs.length
 | _,[],_=>Gr _
 | i,r::rs,h=>by
  have h1:=jd (i+1) rs fun r' hr' =>h r' (Gs _ hr');have h2:=h r Gw;rw[bX,G6,HC];unfold qk;rw[Go];omega
theorem qE(rows:List Str)(h8:rows.length<=8)(w8:∀z∈rows,z.length<=8):(aC rows).length<=64:=by
 have:=jd 0 (rows.map oW) fun r hr=>by
  obtain⟨z,hz,rfl⟩:=HY.mp hr;unfold oW;refine HP (JI _ _) ?_;rw[Ht];exact w8 z hz
 rw[Go]at this;unfold aC;omega
noncomputable def bk(w j:Nat):Nat:=if j<w then w-1-j else j
noncomputable def ch:Nat->Nat->Nat
 | _,0=>1
 | 0,_+1=>0
 | n+1,k+1=>ch n (k+1)+ch n k
noncomputable def fl:Nat->Nat->Nat
 | _,0=>1
 | n,k+1=>n*fl (n-1) k
noncomputable def fn(m n k:Nat):Int:=((ch m k*fl n k:Nat):Int)
section
variable(b:Nat->Nat->Bool)
noncomputable def gI:List Nat->List Nat->Nat->Int
 | [],_,j=>if j=0 then 1 else 0
 | i::L,C,j=>Ak C fun c=>if b i c then(if j=0 then 0 else gI L (C.erase c) (j-1))else gI L (C.erase c) j
end
noncomputable def fx(x:Int):Nat->Int
 | 0=>1
 | m+1=>fx x m*(x-m)
theorem cr:∀(i:Nat)(rs:List (List Nat))(c:aF),c∈bX i rs->∃q∈rs,c.2∈q
 | _,[],c,h=>by simp[bX]at h
 | i,r::rs,c,h=>by
  rw[bX,Hr]at h
  rcases h with h|h
  ·obtain⟨d,hd,rfl⟩:=HY.mp h
   exact⟨r,Gw,hd⟩
  ·obtain⟨q,hq,e⟩:=cr (i+1) rs c h
   exact⟨q,Gs _ hq,e⟩
end IR
namespace IR
end IR
namespace IR
end IR
namespace IR
open PySem L2
end IR
namespace IR
open PySem
section
variable{α:Type}(S:α->α->Bool)
noncomputable def nI:Nat->List α->Nat
 | 0,_=>1
 | _+1,[]=>0
 | k+1,c::l=>nI k (l.filter fun x=> !S c x)+nI (k+1) l
termination_by k l=>(k,l.length)
theorem cf(l:List α):nI S 0 l=1:=by rw[nI]
theorem va(k:Nat):nI S (k+1) []=0:=by rw[nI]
theorem qz(k:Nat)(c:α)(l:List α):nI S (k+1) (c::l)=nI S k (l.filter fun x=> !S c x)+nI S (k+1) l:=by rw[nI]
noncomputable def ext(p:List α):List α->List (List α×List α)
 | []=>[]
 | c::l=>(p++[c],l.filter fun x=> !S c x)::ext p l
noncomputable def up(lev:List (List α×List α)):List (List α×List α):=lev.flatMap fun x=>ext S x.1 x.2
noncomputable def lv(l:List α):Nat->List (List α×List α)
 | 0=>[([],l)]
 | k+1=>up S (lv l k)
noncomputable def wI(j:Nat)(lev:List (List α×List α)):Nat:=(lev.map fun x=>nI S j x.2).sum
theorem AQ(j:Nat)(a b:List (List α×List α)):wI S j (a++b)=wI S j a+wI S j b:=by
 unfold wI;rw[Hx,KI]
theorem uI(j:Nat)(p:List α):∀l:List α,wI S j (ext S p l)=nI S (j+1) l
 | []=>by rw[va];rfl
 | c::l=>by
  rw[qz,<-uI j p l];rfl
theorem zQ(j:Nat):∀lev:List (List α×List α),wI S j (up S lev)=wI S (j+1) lev
 | []=>rfl
 | x::lev=>by
  have e:up S (x::lev)=ext S x.1 x.2++up S lev:=rfl;rw[e,AQ,uI,zQ j lev];rfl
theorem zR(l:List α):∀k j:Nat,wI S j (lv S l k)=nI S (j+k) l
 | 0,j=>by
  show nI S j l+0=_;rfl
 | k+1,j=>by
  show wI S j (up S (lv S l k))=_;rw[zQ,zR l k (j+1)]
  congr 1
  omega
theorem xG(lev:List (List α×List α)):wI S 0 lev=lev.length:=by
 unfold wI
 induction lev with
 | nil=>rfl
 | cons x lev ih=>rw[HW,List.sum_cons,ih,cf,HC];omega
theorem gT(l:List α)(k:Nat):(lv S l k).length=nI S k l:=by
 rw[<- xG S,zR]
 congr 1
 omega
theorem oP{p:List α}:∀{l:List α}{x:List α×List α},x∈ext S p l->x.1.length=p.length+1
 | c::l,x,h=>by
  unfold ext at h
  rcases HE.mp h with r|r
  ·rw[r];simp
  ·exact oP r
theorem eV{l:List α}:∀{k:Nat}{x:List α×List α},x∈lv S l k->x.1.length=k
 | 0,x,h=>by
  have h:x∈[([],l)]:=h;rw[HF.mp h];rfl
 | k+1,x,h=>by
  have h:x∈(lv S l k).flatMap fun x=>ext S x.1 x.2:=h;obtain⟨y,hy,hx⟩:=List.mem_flatMap.mp h;rw[oP S hx,eV hy]
noncomputable def fd(s:Nat):List α->List (List α)
 | []=>[[]]
 | c::l=>fd s l++((fd s l).filter fun p=>decide (p.length<s)&&p.all fun x=> !S c x).map (c::·)
noncomputable def cQ(k:Nat)(Q:α->Bool)(L:List (List α)):Nat:=(L.filter fun p=>decide (p.length=k)&&p.all Q).length
theorem wc(k:Nat)(Q:α->Bool)(a b:List (List α)):cQ k Q (a++b)=cQ k Q a+cQ k Q b:=by
 unfold cQ;rw[List.filter_append,G6]
theorem r9(Q R:α->Bool):∀p:List α,(p.all fun x=>Q x&&R x)=(p.all Q&&p.all R)
 | []=>rfl
 | a::p=>by
  rw[JC,JC,JC,r9 Q R p];cases Q a<;>cases R a<;>simp
theorem Ci(k s:Nat)(hk:k<s)(Q:α->Bool)(c:α)(L:List (List α)) :
  cQ (k+1) Q ((L.filter fun p=>decide (p.length<s)&&p.all fun x=> !S c x).map (c::·))=if Q c then cQ k (fun x=>Q x&& !S c x) L else 0:=by
 induction L with
 | nil=>unfold cQ;cases Q c<;>rfl
 | cons p L ih =>
  have e2:cQ k (fun x=>Q x&& !S c x) (p::L)=(if(decide (p.length=k)&&p.all fun x=>Q x&& !S c x)then 1 else 0)+cQ k (fun x=>Q x&& !S c x) L:=by
   unfold cQ;rw[IU]
   split<;>simp<;>omega
  have al:=r9 Q (fun x=> !S c x) p;rw[IU]
  split
  ·rename_i h
   rw[Gv]at h;rw[HW];have e1:∀M:List (List α),cQ (k+1) Q ((c::p)::M)=(if(decide (p.length=k)&&(Q c&&p.all Q))then 1 else 0)+cQ (k+1) Q M:=fun M=>by
    unfold cQ;rw[IU,JC,HC];have:decide (p.length+1=k+1)=decide (p.length=k):=by simp
    rw[this]
    split<;>simp<;>omega
   rw[e1,ih,e2,al,h.2,Bool.and_true];cases Q c
   ·simp
   ·simp
  ·rename_i h
   rw[ih,e2,al];have z:(decide (p.length=k)&&(p.all Q&&p.all fun x=> !S c x))=false:=by
    cases hd:decide (p.length=k)
    ·rfl
    ·have hl:p.length=k:=Jz hd
     have:decide (p.length<s)=true:=Hy (by omega);rw[this,Bool.true_and]at h;cases hq:p.all fun x=> !S c x
     ·simp
     ·exact absurd hq h
   rw[z];cases Q c<;>simp
theorem jZ(s:Nat):∀(l:List α)(k:Nat)(Q:α->Bool),k<=s->cQ k Q (fd S s l)=nI S k (l.filter Q)
 | [],0,Q,_=>by rw[List.filter_nil,cf];rfl
 | [],k+1,Q,_=>by rw[List.filter_nil,va];rfl
 | c::l,0,Q,_=>by
  rw[cf];show cQ 0 Q (fd S s l++_)=1;rw[wc,jZ s l 0 Q (by omega),cf];have z:∀M:List (List α),cQ 0 Q (M.map (c::·))=0:=fun M=>by
   unfold cQ
   induction M with
   | nil=>rfl
   | cons m M ih=>rw[HW,IU,HC];simp at ih ⊢
  rw[z]
 | c::l,k+1,Q,h=>by
  show cQ (k+1) Q (fd S s l++_)=_;rw[wc,Ci S k s (by omega),jZ s l (k+1) Q h,IU];cases hq:Q c
  ·rfl
  ·rw[Gu rfl,Gu rfl,qz,jZ s l k _ (by omega),List.filter_filter]
   have:(fun x=>Q x&& !S c x)=fun a=>(!S c a&&Q a):=by funext x;rw[Bool.and_comm]
   rw[this];omega
theorem jY(s:Nat):∀(l:List α)(p:List α),p∈fd S s l->p.length<=s
 | [],p,h=>by
  have h:p∈[[]]:=h;rw[HF.mp h];exact Hu _
 | c::l,p,h=>by
  rcases Hr.mp (show p∈fd S s l++_ from h)with r|r
  ·exact jY s l p r
  ·obtain⟨q,hq,rfl⟩:=HY.mp r
   have:=(Iq.mp hq).2;rw[Gv]at this;have:=Jz this.1;rw[HC];omega
noncomputable def bI(s:Nat)(l:List α):Nat:=((List.range (s+1)).map fun k=>nI S k l).sum
theorem Bl(s:Nat)(L:List (List α))(h:∀p∈L,p.length<=s):L.length=((List.range (s+1)).map fun k=>cQ k (fun _=>true) L).sum:=by
 induction L with
 | nil =>
  have:((List.range (s+1)).map fun k=>cQ k (fun _=>true) ([]:List (List α)))=(List.range (s+1)).map fun _=>0:=Hw fun k _=>rfl;rw[this]
  induction(List.range (s+1))with
  | nil=>rfl
  | cons a r ih=>rw[HW,List.sum_cons,<-ih];rfl
 | cons p L ih =>
  have e:∀k,cQ k (fun _=>true) (p::L)=(if p.length=k then 1 else 0)+cQ k (fun _=>true) L:=fun k=>by
   unfold cQ;rw[IU];have:(p.all fun _=>true)=true:=by simp
   rw[this,Bool.and_true]
   by_cases hk:p.length=k
   ·rw[Gu (Hy hk),Gu hk,HC];omega
   ·rw[Gq (by simpa using hk),Gq hk];omega
  have hp:=h p Gw;rw[HC,ih fun q hq=>h q (Gs _ hq)];have s1:∀(n:Nat),((List.range n).map fun k=>cQ k (fun _=>true) (p::L)).sum=((List.range n).map fun k=>cQ k (fun _=>true) L).sum+if p.length<n then 1 else 0:=by
   intro n
   induction n with
   | zero=>rfl
   | succ n ihn =>
    rw[List.range_succ,Hx,KI,Hx,KI,ihn];show _+(cQ n _ (p::L)+0)=_+(cQ n _ L+0)+_;rw[e n]
    by_cases a:p.length<n
    ·rw[Gu a,Gq (by omega),Gu (by omega)];omega
    ·by_cases b:p.length=n
     ·rw[Gq a,Gu b,Gu (by omega)];omega
     ·rw[Gq a,Gq b,Gq (by omega)];omega
  rw[s1 (s+1),Gu (by omega)]
theorem wA(s:Nat)(l:List α):(fd S s l).length=bI S s l:=by
 rw[Bl s _ (jY S s l)];unfold bI
 congr 1
 refine Hw fun k hk=> ?_;have:=Ib.mp hk;rw[jZ S s l k _ (by omega),List.filter_eq_self.mpr (fun _ _=>rfl)]
theorem mY(s k:Nat)(hk:k<=s)(l:List α):((fd S s l).filter fun p=>decide (p.length=k)).length=nI S k l:=by
 have e:=jZ S s l k (fun _=>true) hk;rw[List.filter_eq_self.mpr (fun _ _=>rfl)]at e;rw[<- e];unfold cQ
 congr 2
 funext p
 simp
theorem ye(s:Nat)(c:α)(l:List α):(fd S s l).length<=(fd S s (c::l)).length:=by
 show _<=(fd S s l++_).length;rw[G6];omega
end
noncomputable def aslt(a b c d:Int):Bool:=decide ((if a-c<0 then -(a-c)else a-c)=(if b-d<0 then -(b-d)else b-d))
noncomputable def stk(j:Nat)(a b c d:Int):Bool:=if j=0 then decide (a=c)||decide (b=d)else if j=1 then aslt a b c d else(decide (a=c)||decide (b=d))||aslt a b c d
noncomputable def aI(j:Nat):Str:=if j=0 then "straight" else if j=1 then "aslant" else "all"
noncomputable def SK(j:Nat)(c x:aF):Bool:=stk j (c.1:Nat) (c.2:Nat) (x.1:Nat) (x.2:Nat)
noncomputable def jP(z:Str):Option Nat:=if z=aI 0 then some 0 else if z=aI 1 then some 1 else if z=aI 2 then some 2 else none
noncomputable def uv:List PV->Option PV
 | [.str kd,.tup zs,.int size]=>(jP kd).bind fun j=>(fY zs).bind fun rows=>match rows with
  | []=>none
  | z::rs=>if(z::rs).length<=8/\z.length<=8/\((z::rs).all fun y=>y.length==z.length)=true/\0<=size/\size<=8/\(aC (z::rs)).length<=64/\1000<bI (SK j) size.toNat (aC (z::rs))then some (.bl true)else none
 | _=>none
end IR
namespace L2
open SQ
end L2
namespace OD
section
variable{α:Type}[DecidableEq α](ok:List α->α->Bool)
noncomputable def cnt:List α->List α->Nat->Nat
 | _,_,0=>1
 | _,[],_+1=>0
 | b,c::L,m+1=>(if ok b c then cnt (b++[c]) L m else 0)+cnt b L (m+1)
noncomputable def unr:List α->List α->Nat->Nat->List α
 | _,_,0,_=>[]
 | _,[],_+1,_=>[]
 | b,c::L,m+1,n=>if ok b c then(if n<cnt ok (b++[c]) L m then c::unr (b++[c]) L m n else unr b L (m+1) (n-cnt ok (b++[c]) L m))else unr b L (m+1) n
variable{ok}
variable(lt:α->α->Bool)
noncomputable def t9:List α->List α->Bool
 | [],[]=>false
 | [],_::_=>true
 | _::_,[]=>false
 | x::p,y::q=>if x=y then t9 p q else lt x y
variable{lt}
end
end OD
namespace OD
section
variable{α:Type}[DecidableEq α]{ok:List α->α->Bool}{lt:α->α->Bool}
noncomputable def turn(ok:List α->α->Bool)(nb:List α->Int)(s:List α×Int)(c:α):List α×Int :=
 if ok s.1 c then(if s.2<nb (s.1++[c])then(s.1++[c],s.2)else(s.1,s.2-nb (s.1++[c])))else s
end
end OD
namespace IR
open PySem
noncomputable def BV(b:List (Int×Int))(c:Int×Int):Bool:=(b.all fun x=>decide (x.1<c.1))&&(b.all fun x=>decide (x.2≠c.2))
structure fE(b:List (Int×Int)):Prop where
 rows:(b.map (·.1)).Pairwise (·<·)
 cols:(b.map (·.2)).Nodup
noncomputable def FM(a c:Int×Int):Bool:=if a.1=c.1 then decide (a.2<c.2)else decide (a.1<c.1)
section
variable{rows:List (List Nat)}(hr:∀cs∈rows,cs.Pairwise (·<·))
end
end IR
namespace OD
section
variable{α:Type}[DecidableEq α]{ok:List α->α->Bool}
noncomputable def fs{β:Type}(f:Nat->Option β):Nat->Option β
 | 0=>none
 | n+1=>(f n).or (fs f n)
noncomputable def tr(ok:List α->α->Bool):List α->List α->List α->Nat->Option (List α)
 | _,_,[],_=>none
 | _,[],_::_,_=>none
 | b,c::L,x::p,0=>if x=c then(if 0<cnt ok b L (p.length+1)then some (unr ok b L (p.length+1) 0)else none)else tr ok b L (x::p) 0
 | b,c::L,x::p,i+1=>if x=c then(tr ok (b++[c]) L p i).map (c::·)else tr ok b L (x::p) (i+1)
end
end OD
namespace IR
open PySem
noncomputable def chR(C:List (List Int))(r:Int):List Int:=C.getD r.toNat []
noncomputable def tkL(rec:kU->Int->List Int->Bool×kU×List Int)(row:Int):List Int->kU->List Int->Bool×kU×List Int
 | [],H,T=>(false,H,T)
 | c::cs,H,T=>if T.contains c then tkL rec row cs H T else match Fj H c with
  | none=>(true,A5 H c row,T++[c])
  | some r=>match rec H r (T++[c])with
   | (true,H',T')=>(true,A5 H' c row,T')
   | (false,H',T')=>tkL rec row cs H' T'
noncomputable def tk(C:List (List Int)):Nat->kU->Int->List Int->Bool×kU×List Int
 | 0,H,_,T=>(false,H,T)
 | n+1,H,row,T=>tkL (tk C n) row (chR C row) H T
noncomputable def hd(C:List (List Int)):Nat->kU
 | 0=>[]
 | k+1=>(tk C 9 (hd C k) (k:Nat) []).2.1
section
variable{C:List (List Int)}{H:kU}{n k:Nat}{R Q:List Int}
end
section
variable{rows:List (List Nat)}(hc:Cols rows)(hr:∀cs∈rows,cs.Pairwise (·<·))
include hr
end
section
variable{α:Type}{S:α->α->Bool}
noncomputable def Fm(S:α->α->Bool)(p b:List α):List α:=b.filter fun c=>p.all fun y=> !S y c
theorem rZ{p:List α}:∀{l:List α}{x:List α×List α},x∈ext S p l->∃u c v,l=u++c::v/\x=(p++[c],v.filter fun y=> !S c y)
 | c::l,x,h=>by
  unfold ext at h
  rcases HE.mp h with r|r
  ·exact⟨[],c,l,rfl,r⟩
  ·obtain⟨u,d,v,e,q⟩:=rZ r
   exact⟨c::u,d,v,by rw[e];rfl,q⟩
theorem re{p:List α}:∀l:List α,(ext S p l).map (·.1)=l.map fun c=>p++[c]
 | []=>rfl
 | c::l=>by
  show(p++[c])::(ext S p l).map (·.1)=_;rw[re l];rfl
structure LvI(S:α->α->Bool)(l:List α)(x:List α×List α)(a b:List α):Prop where
 cut:l=a++b
 free:x.2=Fm S x.1 b
 nil:x.1=[]->a=[]
 last:∀y,x.1.getLast? =some y->a.getLast? =some y
 sub:x.1.Sublist a
 apart:x.1.Pairwise fun u v=>S u v=false
theorem v7(p b:List α)(c:α):(Fm S p b).filter (fun y=> !S c y)=Fm S (p++[c]) b:=by
 unfold Fm;rw[List.filter_filter];refine List.filter_congr fun d _=> ?_;rw[List.all_append,Bool.and_comm];simp
theorem lvI{l:List α}:∀{k:Nat}{x:List α×List α},x∈lv S l k->∃a b,LvI S l x a b
 | 0,x,h=>by
  have h:x∈[([],l)]:=h;rw[HF.mp h];exact⟨[],l,rfl,(List.filter_eq_self.mpr fun _ _=>rfl).symm,fun _=>rfl,fun y hy=>(by cases hy),.slnil,.nil⟩
 | k+1,x,h=>by
  have h:x∈(lv S l k).flatMap fun x=>ext S x.1 x.2:=h;obtain⟨y,hy,hx⟩:=List.mem_flatMap.mp h;obtain⟨a,b,i⟩:=lvI hy;obtain⟨u,c,v,e,rfl⟩:=rZ hx;have hf:b.filter (fun d=>y.1.all fun z=> !S z d)=u++c::v:=by rw[<- e,i.free];rfl
  obtain⟨b1,b2,rfl,h1,h2⟩:=List.filter_eq_append_iff.mp hf;obtain⟨b3,b4,rfl,h3,h4,h5⟩:=List.filter_eq_cons_iff.mp h2;rw[HK]at h4;refine⟨a++b1++b3++[c],b4,by rw[i.cut];simp,?_,fun z=>by simp at z,fun z hz=> ?_,?_,?_⟩
  ·show v.filter (fun y=> !S c y)=Fm S (y.1++[c]) b4
   rw[<- v7,<-h5];rfl
  ·have hz:(y.1++[c]).getLast? =some z:=hz
   rw[List.getLast?_append]at hz;rw[List.getLast?_append];exact hz
  ·show(y.1++[c]).Sublist _
   refine List.Sublist.append ?_ (List.Sublist.refl _);rw[HZ];exact i.sub.trans (List.sublist_append_left _ _)
  ·show(y.1++[c]).Pairwise _
   rw[Hz];refine⟨i.apart,List.pairwise_singleton _ _,fun u hu v hv=> ?_⟩;rw[HF.mp hv]
   simpa using h4 u hu
theorem FL(l:List α)(k:Nat):(lv S l (k+1)).map (·.1)=(lv S l k).flatMap fun x=>x.2.map fun c=>x.1++[c]:=by
 show((lv S l k).flatMap fun x=>ext S x.1 x.2).map (·.1)=_;rw[List.map_flatMap]
 congr 1
 funext x
 exact re x.2
variable[DecidableEq α]{lt:α->α->Bool}
theorem nu:∀(p q:List α)(c d:α),p.length=q.length->OD.t9 lt p q=true->OD.t9 lt (p++[c]) (q++[d])=true
 | [],[],c,d,_,h=>by cases h
 | [],_::_,_,_,h,_=>by cases h
 | _::_,[],_,_,h,_=>by cases h
 | x::p,y::q,c,d,hl,h=>by
  have h:(if x=y then OD.t9 lt p q else lt x y)=true:=h;show(if x=y then OD.t9 lt (p++[c]) (q++[d])else lt x y)=true
  by_cases e:x=y
  ·rw[Gu e]at h ⊢
   exact nu p q c d (KL hl) h
  ·rw[Gq e]at h ⊢
   exact h
theorem nw{c d:α}(hn:c≠d)(h:lt c d=true):∀p:List α,OD.t9 lt (p++[c]) (p++[d])=true
 | []=>by
  show(if c=d then _ else lt c d)=true;rw[Gq hn];exact h
 | x::p=>by
  show(if x=x then OD.t9 lt (p++[c]) (p++[d])else _)=true;rw[Gu rfl];exact nw hn h p
theorem pX{l:List α}(hl:l.Pairwise fun a c=>lt a c=true/\a≠c):∀k,((lv S l k).map (·.1)).Pairwise fun p q=>OD.t9 lt p q=true
 | 0=>List.pairwise_singleton _ _
 | k+1=>by
  have ih:=pX hl k;rw[Ih]at ih;rw[FL,List.pairwise_flatMap];refine⟨fun x hx=> ?_,ih.imp_of_mem fun{x y} hx hy h u hu v hv=> ?_⟩
  ·obtain⟨a,b,i⟩:=lvI hx
   have hs:x.2.Sublist l:=by
    rw[i.cut,i.free];exact List.filter_sublist.trans (List.sublist_append_right _ _)
   rw[Ih];exact(hl.sublist hs).imp fun z=>nw z.2 z.1 x.1
  ·obtain⟨c,_,rfl⟩:=HY.mp hu
   obtain⟨d,_,rfl⟩:=HY.mp hv;exact nu _ _ _ _ (by rw[eV S hx,eV S hy]) h
end
end IR
namespace XE
open PySem
noncomputable abbrev fr(l:List Env):List Addr:=l.filterMap (·.frame)
noncomputable def uA(h:Heap)(e T:Addr)(cls:Value)(dd:Option Addr)(fl:Value):Prop :=
 ∃oe vs oT ts,h.get? e=some oe/\oe.cls=cls/\oe.dict=dd/\oe.data=.fields vs/\vs[1]? =some (.ref T)/\T≠e/\h.get? T=some oT/\oT.data=.fields ts/\ts[3]? =some fl
structure Up(fs ns:List Addr)(h h' :Heap):Prop where
 keep:∀b o,h.get? b=some o->b∉fs->b∉ns->h'.get? b=some o
 slot:∀b o,h.get? b=some o->b∈fs->∃sl,h'.get? b=some {o with slots:=sl}
theorem wL(o:Obj)(f:Array Value->Array Value):(Obj.mapFields f o).dict=o.dict:=by
 unfold Obj.mapFields
 split<;>rfl
section
variable{M:Model}{A:Around}{E:Value->Shared->Prop}{s:Shared}{base:Heap}{env:Env}{outer:List Env}{L e T:Addr}{cls fl:Value}{dd:Option Addr}{Q:Unit->Shared->Prop}{oe:Obj}{vs:Array Value}
theorem oR{head:Value}{nx:Bool}(hfr:A.frames=some (env::outer))(fl:s.heap.FunFrames base (env::outer))(hf:env.frame=some L)(he:s.heap.get? e=some oe)(hd:oe.data=.fields vs)(hz:1<vs.size)
  (h:∀h' T,Up (fr (env::outer)) [e] s.heap h' ->s.heap.get? T=none->uA h' e T oe.cls oe.dict (rawInt L)->Q () {s with heap:=h'}) :
  wpAny M A (do let a<-frameOf env;let pl<-entryPlaceOf L nx;let b<-EntryCells.newEntry head a .none (rawInt L) .none pl;setField (.ref e) 1 b) Q E s:=by
 have ne:e∉fr (env::outer):=fun m=>by
  obtain⟨_,o,ho,hn⟩:=fl.mem m;rw[he]at ho;cases ho;exact hn vs hd
 refine Gn (wpAny_frameOf_fun hfr fl hf fun k1 sk=> ?_);refine Gn (wpAny_entryPlaceOf fun pl isp=> ?_);unfold EntryCells.newEntry newFields;refine Gn (IL ?_ (isp.sizeOk5 _ _ _ _ _));have he1:k1.get? e=some oe:=(sk.2.1 e ne).trans he;have ht:k1.objs.size≠e:=J0 (G8 he1)
 generalize hob:({cls:=.type "traceback",dict:=none,data:=.fields ([head,.ref L,.none,rawInt L,.none]++(if pl.isEmpty then List.replicate 6 Value.none else pl)).toArray}:Obj)=ob
 have he2:=Gp (h:=k1) ob he1;refine Ja he2 hd hz ?_;have hd3:=IW hd (·.setIfInBounds 1 (Value.ref k1.objs.size));have kp:∀b o,b≠e->k1.get? b=some o->((k1.push ob).update e (Obj.mapFields (·.setIfInBounds 1 (Value.ref k1.objs.size)))).get? b=some o:=fun b o nb q=>by
  rw[Hh _ _ (Jf nb)];exact Gp _ q
 refine h _ k1.objs.size ⟨fun b o q n1 n2=>kp b o (fun z=>n2 (by rw[z];exact HF.mpr rfl)) ((sk.2.1 b n1).trans q),fun b o q m=> ?_⟩ ?_ ?_
 ·obtain⟨sl,q1⟩:=sk.2.2 b o q
  exact⟨sl,kp b _ (fun z=>ne (by rw[<- z];exact m)) q1⟩
 ·cases q:s.heap.get? k1.objs.size with
  | none=>rfl
  | some o =>
   obtain⟨sl,q1⟩:=sk.2.2 _ o q;exact absurd (G8 q1) (JB _)
 ·refine⟨_,_,ob,_,Iw _ he2 (Iv hd3),Obj.cls_mapFields _ _,wL _ _,hd3,by simp[hz],ht,?_,by rw[<- hob],?_⟩
  ·rw[Hh _ _ (Jf ht)]
   exact HH k1 (by rw[<- hob];rfl)
  ·rcases isp with rfl|⟨_,_,_,_,_,_,_,rfl⟩<;>simp
theorem land(ht:uA s.heap e T cls dd fl)(h:∀h',(∀b o,s.heap.get? b=some o->b≠T->h'.get? b=some o)->uA h' e T cls dd .none->Q () {s with heap:=h'}):wpAny M A (setFlight (.ref e) none) Q E s:=by
 obtain⟨oe,vs,oT,ts,e1,e2,e3,e4,e5,e6,e7,e8,e9⟩:=ht;unfold setFlight;refine Gn (IJ e1 e4 e5 ?_);rw[Gu (show(Value.ref T !=Value.none)=true by simp)];have h3:3<ts.size:=(Jl.mp e9).1;have d3:=IW e8 (·.setIfInBounds 3 ((none:Option Addr).elim Value.none fun f=>rawInt f));refine Ja e7 e8 h3 (h _ (fun b o q n=> ?_) ⟨oe,vs,_,_,?_,e2,e3,e4,e5,e6,Iw _ e7 (Iv d3),d3,by simp[h3]⟩)
 ·rw[Hh _ _ (Jf n)]
  exact q
 ·rw[Hh _ _ e6]
  exact e1
theorem pU(hfr:A.frames=some (env::outer))(hl:s.heap.FunFrames base (env::outer))(hf:env.frame=some L)(he:s.heap.get? e=some oe)(hd:oe.data=.fields vs)(h1:vs[1]? =some .none)
  (h:∀h' T,Up (fr (env::outer)) [e] s.heap h' ->s.heap.get? T=none->uA h' e T oe.cls oe.dict (rawInt L)->Q () {s with heap:=h'}):wpAny M A (noteFrame (.ref e) env) Q E s:=by
 unfold noteFrame;simp only[hf];refine Gn (IJ he hd h1 ?_);rw[Gq (by decide)];exact oR hfr hl hf he hd (Jl.mp h1).1 h
theorem lH(hfr:A.frames=some (env::outer))(hl:s.heap.FunFrames base (env::outer))(hf:env.frame=some L)(ht:uA s.heap e T cls dd .none)
  (h:∀h' T',Up (fr (env::outer)) [e,T] s.heap h' ->s.heap.get? T' =none->uA h' e T' cls dd (rawInt L)->Q () {s with heap:=h'}):wpAny M A (noteFrame (.ref e) env) Q E s:=by
 obtain⟨oe,vs,oT,ts,e1,e2,e3,e4,e5,e6,e7,e8,e9⟩:=ht;unfold noteFrame;simp only[hf];refine Gn (IJ e1 e4 e5 ?_);rw[Gu (show(Value.ref T !=Value.none)=true by simp)];refine Gn (IJ e7 e8 e9 ?_);rw[Gq (show¬((Value.none==rawInt L)=true)by simp[rawInt])];have nf:∀b∈fr (env::outer),b≠T:=fun b m z=>by
  obtain⟨_,o,ho,hn⟩:=hl.mem m;rw[z,e7]at ho;cases ho;exact hn ts e8
 refine Gn (Ja e7 e8 (Jl.mp e9).1 ?_);have ot:∀b,b≠T->(s.heap.update T (Obj.mapFields (·.setIfInBounds 3 Value.none))).get? b=s.heap.get? b:=fun b n=>Hh _ _ (Jf n);refine oR (s:={s with heap:=s.heap.update T (Obj.mapFields (·.setIfInBounds 3 Value.none))}) (base:=base) hfr (hl.of_keeps fun b o q n=>⟨o,?_,rfl⟩) hf ((ot e (Jf e6)).trans e1) e4 (Jl.mp e5).1 fun h' T' u n f=> ?_
 ·rw[ot b fun z=>by rw[z,e7]at q;cases q;exact n ts e8]
  exact q
 ·have nT:T' ≠T:=fun z=>by
   rw[z]at n;rw[show(Shared.heap {s with heap:=s.heap.update T (Obj.mapFields (·.setIfInBounds 3 Value.none))}).get? T=_ from Iw _ e7 (Iv (IW e8 _))]at n;cases n
  refine h h' T' ⟨fun b o q n1 n2=>u.keep b o ?_ n1 ?_,fun b o q m=>u.slot b o ?_ m⟩ ?_ (by rw[<- e2,<-e3];exact f)
  ·exact(ot b fun z=>n2 (by rw[z];simp)).trans q
  ·exact fun z=>n2 (by rw[HF.mp z];simp)
  ·exact(ot b (nf b m)).trans q
  ·exact(ot T' nT).symm.trans n
theorem Up.land{fs ns:List Addr}{h h1 h2:Heap}(u:Up fs ns h h1)(n:h.get? T=none)(k:∀b o,h1.get? b=some o->b≠T->h2.get? b=some o):Up fs ns h h2 :=
 ⟨fun b o q n1 n2=>k b o (u.keep b o q n1 n2) (fun z=>by rw[z,n]at q;cases q),fun b o q m=>by
  obtain⟨sl,q1⟩:=u.slot b o q m;exact⟨sl,k b _ q1 (fun z=>by rw[z,n]at q;cases q)⟩⟩
theorem n0(hfr:A.frames=some (env::outer))(hl:s.heap.FunFrames base (env::outer))(hf:env.frame=some L)(he:s.heap.get? e=some oe)(hd:oe.data=.fields vs)(h1:vs[1]? =some .none)
  (h:∀h' T,Up (fr (env::outer)) [e] s.heap h' ->s.heap.get? T=none->uA h' e T oe.cls oe.dict .none->Q () {s with heap:=h'}):wpAny M A (leaving env (.ref e)) Q E s:=by
 unfold leaving;refine Gn (pU hfr hl hf he hd h1 fun k1 T u n f=> ?_);exact land (s:={s with heap:=k1}) f fun k2 k f2=>h k2 T (u.land n k) n f2
theorem vf(hfr:A.frames=some (env::outer))(hl:s.heap.FunFrames base (env::outer))(hf:env.frame=some L)(ht:uA s.heap e T cls dd .none)
  (h:∀h' T',Up (fr (env::outer)) [e,T] s.heap h' ->s.heap.get? T' =none->uA h' e T' cls dd .none->Q () {s with heap:=h'}):wpAny M A (leaving env (.ref e)) Q E s:=by
 unfold leaving;refine Gn (lH hfr hl hf ht fun k1 T' u n f=> ?_);exact land (s:={s with heap:=k1}) f fun k2 k f2=>h k2 T' (u.land n k) n f2
theorem yH(hfr:A.frames=some (env::outer))(hl:s.heap.FunFrames base (env::outer))(hf:env.frame=some L)(ht:uA s.heap e T cls dd .none)
  (h:∀h' T',Up (fr (env::outer)) [e,T] s.heap h' ->s.heap.get? T' =none->uA h' e T' cls dd .none->Q () {s with heap:=h'}) :
  wpAny M A (noteFrame (.ref e) env) (fun _ s2=>wpAny M A (setFlight (.ref e) none) Q E s2) E s:=by
 refine lH hfr hl hf ht fun k1 T' u n f=> ?_;exact land (s:={s with heap:=k1}) f fun k2 k f2=>h k2 T' (u.land n k) n f2
end
end XE
namespace XE
open PySem PySem.W PyProof.Rows
structure XC(K:Frag)(C:Addr):Prop where
 ga:findIn K (.ref C) "__getattribute__"=some (some (.builtin "BaseException.__getattribute__"))
 gn:findIn K (.ref C) "__getattr__"=some none
 ca:findIn K (.ref C) "__class__"=some (some (.builtin "object.__class__"))
 sg:specialIn K (.builtin "object.__class__") "__get__"=some (some (.builtin "getset_descriptor.__get__"))
 tk:takesIn K (.builtin "object.__class__")=some true
 ob:mroIn K C (.type "object")=some true
 be:mroIn K C (.type "BaseException")=some true
 cl:(clsIn K C).isSome=true
section
variable{prog:Program}{w:World}{A:Around}{E:Value->Shared->Prop}{s:Shared}{K:Frag}{e C:Addr}{ox:Obj}{od:Option Obj}
theorem XC.find(c:XC K C):findObj K C od "__class__"=some (.bind (.builtin "getset_descriptor.__get__") (.builtin "object.__class__")):=by
 obtain⟨cd,hc⟩:=JQ.mp c.cl;unfold findObj;rw[hc,Hf,c.ca,Hf];simp[c.sg,c.tk]
theorem vz{M:Model}{nameV:Value}{Q:Unit->Shared->Prop}(c:XC K C)(X:K.In s.heap)(I:InstAt s.heap e ox C od)(hq:Q () s):wpAny M A (checkBuiltinCall "BaseException.__getattribute__" ⟨[.ref e,nameV],[]⟩) Q E s:=by
 obtain⟨hh,g,d,t,os⟩:=s;have q0:=I.type (M:=M);have q4:=looks_mroIn (M:=M) X c.be;have kk:builtinKind "BaseException.__getattribute__"=some .slot:=by decide +kernel
 have hsp:splitId "BaseException.__getattribute__"=some ("BaseException","__getattribute__"):=by decide +kernel
 have ha:=F.args_bexc_ga (.ref e) nameV;simp only[checkBuiltinCall,kk,hsp];refine Gn ?_;unfold isInstance
 repeat lk
 exact hq
theorem wX{Q:Option Value->Shared->Prop}(c:XC K C)(X:K.In s.heap)(I:InstAt s.heap e ox C od)(h:Q (some (.ref C)) {s with toks:=s.toks+1}) :
  wpAny (model prog w) A (getAttr? (.ref e) "__class__") Q E s:=by
 obtain⟨hh,g,d,t,os⟩:=s;have q0:=I.type (M:=model prog w);have q1:=looks_findIn (M:=model prog w) X c.ga;have q2:=looks_findIn (M:=model prog w) X c.gn;have q3:=looks_find (M:=model prog w) X I c.find;have q4:=looks_mroIn (M:=model prog w) X c.be;unfold getAttr? getAttrBy? getAttrBy;refine Gn (wpAny_mkText (Gn (KM (JX (Gn (q0.at (Gn (q1.at ?_))))))));show wpAny _ _ (getAttrByItsOwn _ _ _ _ _ _) _ _ _;unfold getAttrByItsOwn hookBefore;refine Gn ?_;show wpAny _ _ (typeLookup _ _) _ _ _;refine q2.at ?_;refine Gn (KM (JX ?_));show wpAny _ _ (boundAndCalled _ _ _) _ _ _;unfold boundAndCalled;rw[F.attr_ValueError.ga.bind (.ref e)];refine Gn (G7 ?_);refine wpAny_call (codeAny_call_builtin F.attr_ValueError.ga.plain F.entry_bexc_ga (vz c X I ?_));unfold Builtin.«object.__getattribute__»;refine Gn (G7 ?_);refine Gn (G7 ?_);refine Gn (q0.at ?_);refine Gn (q3.at ?_);show wpAny _ _ (holding [_] (call _ [_,_,_]) >>= ret) _ _ _;refine Gn (JX (wpAny_call (class_get (ox:=ox) (od:=od) X I c.ob ?_)));exact G7 (G7 (G7 h))
theorem FV{K:Frag}{e C:Addr}(c:XC K C):KitX K (.ref e) (.ref C) (fun h=>∃ox od,W.InstAt h e ox C od) where
 ty:=fun _ _ _ ⟨_,_,I⟩=>I.type
 it:=fun _ _ X _=>by
  obtain⟨cd,hc⟩:=JQ.mp c.cl;unfold clsIn at hc
  split at hc
  ·rename_i ho
   exact fun A' Q' E' s' k q=>Gn (wpAny_loadPart (k _ _ (X _ _ ho)) (G7 q))
  ·cases hc
 ne:=fun h tp dd its n sl X htp=>by
  obtain⟨cd,hc⟩:=JQ.mp c.cl;refine Im.mpr fun q=> ?_;have z:C=tp:=Value.ref.inj (KD.mp q);subst z;unfold clsIn at hc
  split at hc
  ·rename_i ho
   have z:=(X _ _ ho).symm.trans htp;cases z
  ·cases hc
 ca:=fun X ⟨_,_,I⟩ k=>wX c X I k
end
end XE
namespace L2.XN
open PySem PySem.Spec PyProof.Rows L2 XE
section
variable{P:Program}{w:World}{H H' :Hp}{h h' h2:Heap}{a:Addr}{o:HO}{fs ns:List Addr}
theorem lG(x:bC P w H h a o):∃u,h.get? a=some u:=by
 cases o with
 | lst xs=>obtain⟨_,_,_,_,e⟩:=x;exact⟨_,e⟩
 | tup xs=>obtain⟨_,_,_,ob,e,_⟩:=x;exact⟨_,e⟩
 | dK kvs=>obtain⟨_,_,_,_,ob,_,_,e,_⟩:=x;exact⟨_,e⟩
 | dT kvs=>obtain⟨_,_,_,_,ob,_,_,e,_⟩:=x;exact⟨_,e⟩
 | set S n=>obtain⟨ob,_,_,_,e,_⟩:=x;exact⟨_,e⟩
 | ins C dx fs=>obtain⟨_,_,_,e,_⟩:=x;exact⟨_,e⟩
 | own y=>exact x
 | xd fs=>obtain⟨_,⟨_,_,_,e,_⟩,_⟩:=x;exact⟨_,e⟩
 | rng lo hi=>obtain⟨_,_,_,e⟩:=x;exact⟨_,e⟩
 | frz ob u=>obtain⟨e,_⟩:=x;exact⟨_,e⟩
 | tbl ps=>exact⟨_,(show h.get? a=some _ from x)⟩
 | met f y=>exact⟨_,(show h.get? a=some _ from x)⟩
 | ext φ=>obtain⟨_,e,_⟩:=x;exact e
theorem jS(ok:dm P w H h)(e:h.get? a=none):H a=none:=by
 cases q:H a with
 | none=>rfl
 | some u =>
  obtain⟨v,hv⟩:=lG (ok a u q);rw[e]at hv;cases hv
theorem pp(ok:dm P w H h)(u:Up fs ns h h')(hf:∀b∈fs,H b=none)(hn:∀b∈ns,H b=none):dm P w H h' :=fun a o e =>
 (ok a o e).stay (fun b v hb q=>u.keep b v q (fun z=>by
  rcases hb with r|r
  ·rw[r]at z;rw[hf _ z]at e;cases e
  ·rw[hf _ z]at r;cases r) fun z=>by
  rcases hb with r|r
  ·rw[r]at z;rw[hn _ z]at e;cases e
  ·rw[hn _ z]at r;cases r) (fun _ q=>q) fun _ _ q=>q
theorem zS{H0:Hp}{h0 h1:Heap}{L:Addr}(u:Un fs [] H0 H h0 h1)(p:Up (L::fs) ns h1 h2)(hL:h0.objs.size<=L)(hn:∀b∈ns,h0.get? b=none):Un fs [] H0 H h0 h2:=by
 have nL:∀b o,h0.get? b=some o->b≠L:=fun b o q z=>absurd (G8 q) (by rw[z];exact Nat.not_lt.mpr hL);have nn:∀b o,h0.get? b=some o->b∉ns:=fun b o q z=>by rw[hn b z]at q;cases q
 refine⟨fun b o q n hb hx=>p.keep b o (u.keep b o q n hb hx) (fun z=> ?_) (nn b o q),fun b o q n hb hx=> ?_,u.free,fun b o q hx=> ?_,u.tups,u.frzs,u.tbls⟩
 ·rcases HE.mp z with r|r
  ·exact nL b o q r
  ·exact hb r
 ·obtain⟨sl,e1⟩:=u.slot b o q n hb hx
  obtain⟨sl2,e2⟩:=p.slot b _ e1 (Gs _ hb);exact⟨sl2,e2⟩
 ·obtain⟨o1,e1⟩:=u.there b o q hx
  by_cases hb:b∈L::fs
  ·obtain⟨sl,e2⟩:=p.slot b _ e1 hb
   exact⟨_,e2⟩
  ·exact⟨_,p.keep b _ e1 hb (nn b o q)⟩
end
noncomputable def sF(P:Program)(w:World)(C:Addr):oy:=fun outer H s E u s' =>
 ∃e T H' dd,u=.ref e/\s'.os=s.os/\AllBare s'.gens/\Un (ou outer) [] H H' s.heap s'.heap/\dm P w H' s'.heap/\s.heap.get? e=none/\s.heap.get? T=none/\H' e=none/\H' T=none /\
  uA s'.heap e T (.ref C) dd .none/\E (.ref C) dd H'
section
variable{P:Program}{w:World}{K:W.Frag}{mg:Str->Option Value}{base:Heap}{N:List Str}{qual:Str}{scope:Scope}{f C:Addr}{cd:Value}{A:Around}{outer:List Env}{s s1:Shared}{H H1:Hp}{E:XK}
 {pins:List (Addr×Obj)} {σ:St}
theorem sZ{args:List Value}{h' :Heap}{e:Addr}(I:Inv (fw (sF P w C) P w K mg base N qual scope f cd A outer s H E) pins σ H1 s1)(mk:Heap.MadeExcOf s1.heap h' e (.ref C) args)(q:E (.ref C) none H1) :
  (fw (sF P w C) P w K mg base N qual scope f cd A outer s H E).xe (.ref e) {s1 with heap:=h'}:=by
 have J:Inv (fw (sF P w C) P w K mg base N qual scope f cd A outer s H E) pins σ H1 {s1 with heap:=h'} :=
  I.call' (ch:=[]) rfl (Un.kept mk.keeps) (I.hok.kept mk.keeps) I.bare (fun b z=>absurd z (by simp))
 obtain⟨t,he,-,-⟩:=mk.there;have n1:s.heap.get? e=none:=by
  cases q:s.heap.get? e with
  | none=>rfl
  | some o =>
   obtain⟨o',z⟩:=I.base.there e o q (Hk);rw[mk.new]at z;cases z
 have n2:H1 e=none:=jS I.hok mk.new;refine n0 (s:={s1 with heap:=h'}) (base:=base) J.ok.frames J.stack rfl he rfl rfl fun h2 T up hT fly=> ?_;refine⟨e,T,H1,none,rfl,J.os,J.bare,zS J.base up J.ok.above (fun b m=>by rw[HF.mp m];exact n1),pp J.hok up J.stkFree (fun b m=>by rw[HF.mp m];exact n2),n1,?_,n2,jS J.hok hT,fly,q⟩;cases q:s.heap.get? T with
 | none=>rfl
 | some o =>
  obtain⟨o',z⟩:=J.base.there T o q (Hk);rw[hT]at z;cases z
theorem x8{E2:XK}(hE:∀dd H',E2 (.ref C) dd H' ->E (.ref C) dd H'):jj (sF P w C) (fw (sF P w C) P w K mg base N qual scope f cd A outer s H E) E2:=by
 intro pins σ H1 s1 u s2 I ⟨e,T,H2,dd,hu,ho,hb,un,ok,n1,n2,n3,n4,fly,q⟩;subst hu;have J:Inv (fw (sF P w C) P w K mg base N qual scope f cd A outer s H E) pins σ H2 s2:=I.call' (ch:=[]) ho un ok hb (fun b z=>absurd z (by simp));have m1:∀b,s1.heap.get? b=none->s.heap.get? b=none:=fun b z=>by
  cases q:s.heap.get? b with
  | none=>rfl
  | some o =>
   obtain⟨o',y⟩:=I.base.there b o q (Hk);rw[z]at y;cases y
 have ns:∀b∈[e,T],s.heap.get? b=none/\H2 b=none:=fun b m=>by
  rcases HE.mp m with r|r
  ·rw[r];exact⟨m1 _ n1,n3⟩
  ·rw[HF.mp r];exact⟨m1 _ n2,n4⟩
 refine vf (base:=base) J.ok.frames J.stack rfl fly fun h2 T' up hT fly' => ?_;refine⟨e,T',H2,dd,rfl,J.os,J.bare,zS J.base up J.ok.above (fun b m=>(ns b m).1),pp J.hok up J.stkFree (fun b m=>(ns b m).2),m1 _ n1,?_,n3,?_,fly',hE _ _ q⟩
 ·cases q:s.heap.get? T' with
  | none=>rfl
  | some o =>
   obtain⟨o',z⟩:=J.base.there T' o q (Hk);rw[hT]at z;cases z
 ·exact jS J.hok hT
end
noncomputable def uS(E:XK)(C:Addr):TS:=fun _ _ H=>E (.ref C) none H
theorem sd{X:Cx}{x:Str}{C:Addr}{bm bmN:List Value}{newId nid initId inN B Bn:String}{np cpos pos:Pos}{E:XK}(O:OwnCls x C bm newId X.mg X.base)(Fn:ExcBaseFacts Bn newId inN bmN)(hBn:bm.contains (.type Bn)=true)
  (FB:ExcBaseFacts B nid initId bm) (hc:X.calm=true) (hg:Gl X x)
  (hx:∀pins σ H s h' e,Inv X pins σ H s->Heap.MadeExcOf s.heap h' e (.ref C) []->E (.ref C) none H->X.xe (.ref e) {s with heap:=h'}) (hd:(x==("__debug__":Str))=false:=by decide) :
  PS X (.Raise (some (.Call (.Name x np) [] [] cpos)) none pos) (uS E C):=by
 intro pins s σ H D I q;obtain⟨tl,N,nm,qn,bs,hdct,sn,sub,ab,col,dd,k0,k1,k2,k3,k5,mN,hC,hN,hni,T⟩:=O.obj
 refine wpAny_Raise_call_subU (C:=C) (nm:=nm) (q:=qn) (N:=N) (bs:=bs) (bm:=tl) (hdct:=hdct) (sn:=sn) (sub:=sub) (ab:=ab) (col:=col) (dd:=dd) (k0:=k0) (k1:=k1) (k2:=k2) (k3:=k3) (k5:=k5)
  Fn hBn FB (mN:=mN) (T.hasType FB.hasBase) (I.ok.hd hc) rfl hni (fq I hg O.bound ⟨rfl,?_⟩ hd)
 exact evalArgs_empty ⟨rfl,Hu _,I.bk _ _ hC,hN.keeps I.bk,T.keeps I.bk,fun h' e m=>hx pins σ H s h' e I m q⟩
end L2.XN
namespace L2.XN
open PySem PySem.Spec PyProof.Rows L2 XE
section
variable{X:Cx}{pins:List (Addr×Obj)}{σ:St}{H:Hp}{s:Shared}{Wh:Value->Shared->Prop}{A:Around}{cm:Bool}
noncomputable abbrev vC(X:Cx)(pn:List (Addr×Obj))(Wh:Value->Shared->Prop):Cx:={X with pn:=pn,xe:=Wh}
noncomputable abbrev zr(X:Cx)(e:Addr)(pn:List (Addr×Obj)):Cx:={X with A:=X.A.mark (some (.ref e)),calm:=false,pn:=pn,xe:=fun _ _=>False}
theorem pinned(I:Inv X pins σ H s):Inv (vC X (X.pn++pins) Wh) [] σ H s :=
 ⟨⟨I.ok.mod,I.ok.kind,I.ok.glob,I.ok.blt,I.ok.above,I.ok.inj,I.ok.has,I.ok.cab,I.ok.hd,I.ok.frames,I.ok.stk,I.ok.exf,I.ok.bs,I.ok.bsz,I.ok.noex,I.ok.exfs,I.ok.funs,I.ok.frf⟩,I.os,I.bare,I.base,I.loc,I.cell,I.free,I.freeC,
  fun p hp=>I.pin p (by rw[ID]at hp;exact hp),I.hok,I.len⟩
theorem unpinned{p2:List (Addr×Obj)}(ok:X.Ok)(I:Inv (vC X (X.pn++pins) Wh) p2 σ H s):Inv X pins σ H s :=
 ⟨ok,I.os,I.bare,I.base,I.loc,I.cell,I.free,I.freeC,fun p hp=>I.pin p (JO _ hp),I.hok,I.len⟩
theorem FY(I:Inv X pins σ H s){e:Addr}{pn:List (Addr×Obj)}(hp:∀p∈pn,s.heap.get? p.1=some p.2/\H p.1=none/\p.1≠X.env.locals/\p.1∉X.fs/\∀v,p.2.data≠.cell v):Inv (zr X e pn) [] σ H s :=
 ⟨⟨I.ok.mod,I.ok.kind,I.ok.glob,I.ok.blt,I.ok.above,I.ok.inj,I.ok.has,I.ok.cab,(fun z=>by cases z),I.ok.frames,I.ok.stk,I.ok.exf,I.ok.bs,I.ok.bsz,I.ok.noex,I.ok.exfs,I.ok.funs,I.ok.frf⟩,I.os,I.bare,I.base,I.loc,I.cell,I.free,I.freeC,
  fun p m=>hp p (by rw[ID]at m;exact m),I.hok,I.len⟩
theorem Ex(ok:X.Ok){e:Addr}{pn:List (Addr×Obj)}(I:Inv (zr X e pn) [] σ H s)(hp:∀p∈X.pn++pins,p∈pn):Inv X pins σ H s :=
 ⟨ok,I.os,I.bare,I.base,I.loc,I.cell,I.free,I.freeC,fun p m=>I.pin p (JO _ (hp p m)),I.hok,I.len⟩
theorem CP{M:Model}{A:Around}{E:Value->Shared->Prop}{i:Nat}{x:Str}{v:V}{Q:Unit->Shared->Prop}(I:Inv X pins σ H s)(hN:X.N.Nodup)(hi:X.N[i]? =some x)(hk:X.env.scope.names.lookup x=some .local)(hv:σ[i]? =some (some v))
  (h:∀s',Inv X pins (σ.set i none) H s' ->Q () s'):wpAny M A (unbindName X.env x) Q E s:=by
 obtain⟨m,hn,hl⟩:=id I.loc;obtain⟨u,-,l⟩:=hl i x v hi hv (.inl hk);have hm:m x=some u:=by
  rcases l with l|⟨k,_⟩
  ·exact l.2
  ·have k' :X.env.scope.names.lookup x=some .cell\/X.env.scope.names.lookup x=some .free:=k
   rw[hk]at k'
   rcases k' with z|z<;>cases z
 obtain⟨oL,_,_,hoL,_⟩:=id hn;refine wpAny_unbindName_local hk hn hm (by rw[I.ok.kind];rfl) fun h' u' hn' hs=> ?_;have lo:∀b o,X.s₀.heap.get? b=some o->b≠X.env.locals:=fun b o e=>HV (HX (G8 e) I.ok.above)
 refine h _ ⟨I.ok,I.os,I.bare,⟨fun b o e n hb hx=>(hs.2 b (lo b o e)).trans (I.base.keep b o e n hb hx),fun b o e n hb hx=> ?_,I.base.free,fun b o e hx=> ?_,I.base.tups,I.base.frzs,I.base.tbls⟩,
  ⟨_,hn',fun j y v' e1 e2 e3=> ?_⟩,fun y c e=> ?_,I.free,I.freeC,fun p hp=> ?_,fun b ob e=> ?_,by simpa using I.len⟩
 ·obtain⟨sl,q⟩:=I.base.slot b o e n hb hx
  exact⟨sl,(hs.2 b (lo b o e)).trans q⟩
 ·obtain⟨o',q⟩:=I.base.there b o e hx
  exact⟨o',(hs.2 b (lo b o e)).trans q⟩
 ·by_cases hj:j=i
  ·subst hj
   rw[IB (by rw[I.len];exact(G9.mp hi).1)]at e2;cases e2
  ·rw[Hg (Jf hj)]at e2
   obtain⟨w1,r1,q⟩:=hl j y v' e1 e2 e3;refine⟨w1,r1,?_⟩
   rcases q with⟨k,q⟩|⟨k,c,q,z⟩
   ·have ny:y≠x:=fun z=>hj (fm hN e1 (z▸hi))
    exact .inl ⟨k,by simp[ny,q]⟩
   ·exact .inr ⟨k,c,q,z.sameBut hs (I.cne y c q)⟩
 ·obtain⟨w1,z⟩:=I.cell y c e
  exact⟨w1,z.sameBut hs (I.cne y c e)⟩
 ·obtain⟨q,n,ne,nf,d⟩:=I.pin p hp
  exact⟨(hs.2 p.1 ne).trans q,n,ne,nf,d⟩
 ·refine(I.hok b ob e).stay (fun c w1 hc q=>(hs.2 c fun z=> ?_).trans q) (fun _ q=>q) fun _ _ q=>q
  rcases hc with r|r
  ·rw[r]at z;rw[z,I.free]at e;cases e
  ·rw[z,I.free]at r;cases r
noncomputable def wv(CX:oy)(X:Cx)(E:St->XK):Prop:=∀(pins:List (Addr×Obj))(σ:St)(H:Hp)(s:Shared)(u:Value)(s' :Shared),Inv X pins σ H s->CX X.stack H s (E σ) u s' ->X.xe u s'
noncomputable def Ai(sp:Sp)(dvs:List V)(E:St->XK)(t:TA):TE:=fun σ H Q=>t σ H fun vs H1=>sp (vs++dvs) H1 Q (E σ)
theorem vP{CX:oy}{k:Nat}{f:Addr}{fd:FuncData}{ps:List Str}{sp:Sp}{dvs:List V}{ds:List Value}{E:St->XK}{x:Str}{p pos:Pos}{e:Expr}{es:List Expr}{t:TA}(F:bu X.prog X.w X.K X.mg X.base CX k f fd ps sp)(hr:eQ k X.A)(hg:Gl X x)
  (hm:X.mg x=some (.ref f)) (hk:W.keepIn X.K (.ref f)=true) (hb:Binds X.K fd ps ds) (hd:aO dvs ds) (hx:wv CX X E) (ha:PA X (e::es) t) (hdb:(x==("__debug__":Str))=false:=by decide)
  (he:starEach (e::es) X.env=(false,eval e X.env)::starEach es X.env:=by rfl) (hpl:(backTo pos (starEach es X.env)).any (·.1)=false:=by rfl):PE X (.Call (.Name x p) (e::es) [] pos) (Ai sp dvs E t):=by
 intro pins s σ H Q I h;refine Kd (fq I hg hm ?_ hdb);refine W.callWith_K (h₀:=X.base) I.ok.mod.kin hk (bJ (ha pos pins s σ H _ I h) fun us s1 ⟨vs,H1,I1,r,q⟩=>⟨I1.kIn,?_⟩) he hpl;have r2:aO (vs++dvs) (us++ds):=r.append hd;have hl:(us++ds).length=ps.length:=by rw[<- r2.length];exact F.len _ _ _ _ q
 refine wpAny_call (codeAny_mono (F.run X.A X.stack s1 H1 ⟨us,[]⟩ (us++ds) (vs++dvs) Q (E σ) hr I1.env0 (hb s1 us I1.kIn hl) r2 q) fun r s' hq=> ?_);cases r with
 | error u=>exact hx pins σ H1 s1 u s' I1 hq
 | ok fl =>
  cases fl with
  | ret u=>exact I1.after hq
  | next=>exact hq.elim
  | brk=>exact hq.elim
  | cont=>exact hq.elim
theorem AT{fs ns:List Addr}{H0:Hp}{h0 h1 h2:Heap}(u:Un fs [] H0 H h0 h1)(p:Up fs ns h1 h2)(hn:∀b∈ns,h0.get? b=none):Un fs [] H0 H h0 h2:=by
 have nn:∀b o,h0.get? b=some o->b∉ns:=fun b o q z=>by rw[hn b z]at q;cases q
 refine⟨fun b o q n hb hx=>p.keep b o (u.keep b o q n hb hx) hb (nn b o q),fun b o q n hb hx=> ?_,u.free,fun b o q hx=> ?_,u.tups,u.frzs,u.tbls⟩
 ·obtain⟨sl,e1⟩:=u.slot b o q n hb hx
  obtain⟨sl2,e2⟩:=p.slot b _ e1 hb;exact⟨sl2,e2⟩
 ·obtain⟨o1,e1⟩:=u.there b o q hx
  by_cases hb:b∈fs
  ·obtain⟨sl,e2⟩:=p.slot b _ e1 hb
   exact⟨_,e2⟩
  ·exact⟨_,p.keep b _ e1 hb (nn b o q)⟩
noncomputable def wo(i:Nat)(D:cw):cw:={nx:=fun σ H=>D.nx (σ.set i none) H,rt:=D.rt,bk:=fun σ H=>D.bk (σ.set i none) H,ct:=fun σ H=>D.ct (σ.set i none) H}
noncomputable def EA(C:Addr)(i:Nat)(tb:(St->XK)->TS)(ts:Addr->Option Addr->TS):TS:=fun D σ H =>
 ∃E:St->XK,tb E D σ H/\∀σ' H' dd,σ'.length=σ.length->E σ' (.ref C) dd H' ->∀e,H' e=none->ts e dd (wo i D) (σ'.set i (some (.ref e))) H'
noncomputable def Dd(C e:Addr)(dd:Option Addr)(oe:Obj):Prop:=oe.cls=.ref C/\oe.dict=dd/\∃vs,oe.data=.fields vs
theorem A7{C D:Addr}{i:Nat}{n bx:Str}{bp hpos pos:Pos}{body suite:List Stmt}{b0:Stmt}{tb:(St->XK)->TS}{ts:Addr->Option Addr->TS}(hcalm:X.calm=true)(hst:X.stack=X.env::X.outer)(hf:X.env.frame=some X.env.locals)(hN:X.N.Nodup)(hi:X.N[i]? =some n)
  (hk:X.env.scope.names.lookup n=some .local) (hg:Gl X bx) (hm:X.mg bx=some (.ref D)) (hx:W.exmOne X.K (.ref C) (.ref D)=some true)
  (hb:∀(E:St->XK)(pn:List (Addr×Obj))(Wh:Value->Shared->Prop),wv (sF X.prog X.w C) (vC X pn Wh) E->my (vC X pn Wh) body (tb E))
  (hs:∀(e:Addr)(dd:Option Addr)(oe:Obj)(pn:List (Addr×Obj)),Dd C e dd oe->my (zr X e ((e,oe)::pn)) (b0::suite) (ts e dd)) (hd:(bx==("__debug__":Str))=false:=by decide) :
  PS X (.Try body [.ExceptHandler (some (.Name bx bp)) (some n) (b0::suite) hpos] [] [] pos) (EA C i tb ts):=by
 intro pins s σ H D' I ⟨E,hq,hh⟩;refine wpAny_Try_except ?_
 let Wh:Value->Shared->Prop:=fun u s' =>wpAny (model X.prog X.w) X.A (noteFrame u X.env) (fun _ s2=>wpAny (model X.prog X.w) X.A (setFlight u none) (fun _ s3 =>
  wpAny (model X.prog X.w) X.A (handleBy u X.env [.ExceptHandler (some (.Name bx bp)) (some n) (b0::suite) hpos]) (SP X pins D') X.xe s3) X.xe s2) X.xe s'
 have hp:wv (sF X.prog X.w C) (vC X (X.pn++pins) Wh) E:=by
  intro p2 σ1 H1 s1 u s2 I1 ⟨e,T,H2,dd,hu,ho,hbr,un,ok,n1,n2,n3,n4,fly,q⟩;subst hu;have J1:Inv X pins σ1 H1 s1:=unpinned I.ok I1;have J2:Inv X pins σ1 H2 s2:=J1.call' (ch:=[]) ho un ok hbr (fun b z=>absurd z (by simp));have hfr:X.A.frames=some (X.env::X.outer):=by rw[<- hst];exact I.ok.frames
  have hfs:s2.heap.FunFrames X.base (X.env::X.outer):=by rw[<- hst];exact J2.stack
  have ns:∀b∈[e,T],s1.heap.get? b=none/\H2 b=none:=fun b m=>by
   rcases HE.mp m with r|r
   ·rw[r];exact⟨n1,n3⟩
   ·rw[HF.mp r];exact⟨n2,n4⟩
  have st:∀{h3:Heap},Up (fr (X.env::X.outer)) [e,T] s2.heap h3->Inv X pins σ1 H2 {s2 with heap:=h3}:=fun{h3} up=>by
   rw[<- hst]at up;exact J1.call' (ch:=[]) (s' :={s2 with heap:=h3}) ho (AT un up fun b m=>(ns b m).1) (pp ok up J2.stkFree fun b m=>(ns b m).2) hbr (fun b z=>absurd z (by simp))
  show wpAny _ _ (noteFrame (.ref e) X.env) _ _ s2;refine yH (base:=X.base) hfr hfs hf fly fun h3 T' up hT fly3=> ?_;have J3:=st up;refine wpAny_handleBy_cons (codeAny_handlers_test ?_) (by intro z;cases z);have K3:Inv (zr X e []) [] σ1 H2 {s2 with heap:=h3}:=FY J3 (fun p z=>absurd z (by simp));refine fq K3 hg hm ?_ hd;obtain⟨oe,vs,oT,tts,e1,e2,e3,e4,e5,e6,e7,e8,e9⟩:=id fly3;have lt:W.Looks (model X.prog X.w) h3 (typeOf (.ref e)) (.ref C):=e2▸(W.Looks.ld e1).andThen .now;refine(W.exm_one (M:=model X.prog X.w) K3.kIn lt hx).here ?_;refine codeAny_handlers_suite_as ?_;refine land (s:={s2 with heap:=h3}) fly3 fun h4 k4 fly4=> ?_;have J4:=st (up.land hT k4);obtain⟨oe4,vs4,oT4,ts4,f1,f2,f3,f4,f5,f6,f7,f8,f9⟩:=id fly4;have K4:Inv (zr X e ((e,oe4)::(X.pn++pins))) [] σ1 H2 {s2 with heap:=h4}:=by
   refine FY J4 fun p m=> ?_
   rcases HE.mp m with r|r
   ·subst r
    refine⟨f1,n3,fun z=> ?_,fun z=> ?_,fun v z=>by rw[f4]at z;cases z⟩
    ·obtain⟨m1,⟨oL,_,_,hoL,_⟩,_⟩:=J1.loc
     have z:e=X.env.locals:=z;rw[<- z,n1]at hoL;cases hoL
    ·obtain⟨_,o,h1,_⟩:=J1.funs.mem z
     rw[show s1.heap.get? e=none from n1]at h1;cases h1
   ·exact J4.pin p r
  refine dv (X:=zr X e ((e,oe4)::(X.pn++pins))) K4 hN hi (.inl hk) (v:=.ref e) rfl (fun s5 I5=> ?_) (.inr hk);refine Ig (hs e dd oe4 _ ⟨f2,f3,vs4,f4⟩ [] s5 _ _ (wo i D') I5 (hh σ1 H2 dd ?_ q e n3)) (fun f s6 r=> ?_) fun _ _ z=>z.elim
  ·rw[J1.len,I.len]
  have fin:∀σ6 H6 v0,Inv (zr X e ((e,oe4)::(X.pn++pins))) [] σ6 H6 s6->(∀s7,Inv X pins (σ6.set i none) H6 s7->SP X pins D' f s7)->v0=v0 ->
    wpAny (model X.prog X.w) X.A (do bindName X.env n .none;unbindBehindTheSuite X.env n hpos) (fun _ s3=>SP X pins D' f s3) X.xe s6:=fun σ6 H6 (v0:Nat) I6 k _=>by
   have J6:Inv X pins σ6 H6 s6:=Ex I.ok I6 fun p m=>Gs _ m;refine Gn (wpAny_bindName (dv J6 hN hi (.inl hk) (v:=.non) rfl (fun s7 J7=> ?_) (.inr hk)));unfold unbindBehindTheSuite;refine wpAny_onRaise (CP J7 hN hi hk (v:=.non) ?_ fun s8 J8=> ?_)
   ·rw[IB (by rw[J6.len];exact(G9.mp hi).1)]
   ·rw[List.set_set]at J8
    exact k s8 J8
  cases f with
  | next =>
   obtain⟨σ6,H6,I6,q6⟩:=r;exact fin σ6 H6 0 I6 (fun s7 J=>⟨_,_,J,q6⟩) rfl
  | brk =>
   obtain⟨σ6,H6,I6,q6⟩:=r;exact fin σ6 H6 0 I6 (fun s7 J=>⟨_,_,J,q6⟩) rfl
  | cont =>
   obtain⟨σ6,H6,I6,q6⟩:=r;exact fin σ6 H6 0 I6 (fun s7 J=>⟨_,_,J,q6⟩) rfl
  | ret u =>
   obtain⟨v,σ6,H6,I6,rv,q6⟩:=r;exact fin σ6 H6 0 I6 (fun s7 J=>⟨v,_,_,J,rv,q6⟩) rfl
 refine Ig (hb E _ Wh hp [] s σ H D' (pinned I) hq) (fun f s1 r=> ?_) fun _ _ r=>r;cases f with
 | next =>
  obtain⟨σ6,H6,I6,q6⟩:=r;exact KR ⟨σ6,H6,unpinned I.ok I6,q6⟩
 | brk =>
  obtain⟨σ6,H6,I6,q6⟩:=r;exact⟨σ6,H6,unpinned I.ok I6,q6⟩
 | cont =>
  obtain⟨σ6,H6,I6,q6⟩:=r;exact⟨σ6,H6,unpinned I.ok I6,q6⟩
 | ret u =>
  obtain⟨v,σ6,H6,I6,rv,q6⟩:=r;exact⟨v,σ6,H6,unpinned I.ok I6,rv,q6⟩
end
end L2.XN
namespace L2.XN
open PySem PySem.Spec PyProof.Rows L2 XE
structure ww(K:W.Frag)(mg:Str->Option Value)(x:Str)(C:Addr):Prop where
 nm:mg x=some (.ref C)
 cl:(W.clsIn K C).isSome=true
 ty:W.typeIn K (.ref C)=some (.type "type")
section
variable{K:W.Frag}{mg:Str->Option Value}{x:Str}{C D:Addr}{b:Bool}
theorem ww.kcls(k:ww K mg x D)(h:W.subIn K (.ref C) (.ref D)=some b):W.kitCls K (.ref C) (.ref D)=some b:=by
 show(if((W.clsIn K D).isSome&&W.typeIn K (.ref D)==some (.type "type"))=true then W.subIn K (.ref C) (.ref D)else none)=some b;rw[Gu (by rw[k.cl,k.ty];rfl)];exact h
theorem ww.kit(k:ww K mg x D)(h:W.subIn K (.ref C) (.ref D)=some b)(hb:C=D->b=true):W.kitOne K (.ref C) (.ref D)=some b:=by
 unfold W.kitOne
 split
 ·rename_i z
  rw[hb (Value.ref.inj (KD.mp z))]
 ·exact k.kcls h
theorem ww.exm(k:ww K mg x D)(h:W.subIn K (.ref C) (.ref D)=some b)(hB:W.subIn K (.ref D) (.type "BaseException")=some true):W.exmOne K (.ref C) (.ref D)=some b:=by
 unfold W.exmOne;rw[Gu (by rw[hB];rfl)];exact k.kcls h
theorem Bp{T:String}(h:W.subIn K (.ref C) (.type T)=some b)(hm:W.kitMeta T=true):W.kitOne K (.ref C) (.type T)=some b:=by
 unfold W.kitOne;rw[Gq (by intro z;cases KD.mp z)];show(if W.kitMeta T=true then W.subIn K (.ref C) (.type T)else none)=some b;rw[Gu hm];exact h
theorem BI{h:Heap}{bm:List Value}{newId:String}(X:K.In h)(nm:mg x=some (.ref C))(q:W.excIn K C bm newId=true):OwnCls x C bm newId mg h:=by
 refine⟨nm,?_⟩;unfold W.excIn at q
 split at q
 case h_2=>cases q
 rename_i dd cd sl look
 split at q
 case h_2=>cases q
 rename_i C1 tl k0 k1 k2 k3 n k5 e1 e2;simp only[Gv,KD,KZ]at q;obtain⟨⟨⟨⟨⟨z1,z2⟩,z3⟩,z4⟩,z5⟩,z6⟩:=q;subst z1 z2;obtain⟨c1,c2,c3,c4,c5,c6,c7,c8,c9,c10,c11⟩:=cd;dsimp only at e1 z3 z5 z6;subst e1 z3;obtain⟨l⟩:=sl;dsimp only at e2;subst e2;exact⟨tl,_,_,_,_,_,_,_,_,_,_,_,_,_,_,_,_,X _ _ look,.of_isNs (W.isNs_of_in X z5),W.nsMap_none_of_in X z5 z6,W.tail_of_in X z4⟩
end
theorem CB{P:Program}{w:World}{K:W.Frag}{mg:Str->Option Value}{base:Heap}{CX:oy}{k:Nat}{f:Addr}{fd:FuncData}{ps:List Str}{sp:Sp}(len:∀vs H Q E,sp vs H Q E->vs.length=ps.length)
  (h:Mod K mg base->bu P w K mg base CX k f fd ps sp):bu P w K mg base CX k f fd ps sp :=
 ⟨len,fun A outer s H args us vs Q E hr he=>(h he.mod).run A outer s H args us vs Q E hr he⟩
section
variable{X:Cx}{e C:Addr}{dd:Option Addr}{oe:Obj}{c:V}{u:Value}{b:Bool}
theorem oa(hp:(e,oe)∈X.pn)(hx:Dd C e dd oe)(xc:XC X.K C)(hu:∀v,RelV c v->v=u)(k:W.kitOne X.K (.ref C) u=some b):bL X (.builtin "isinstance") (fun xs H Q=>xs=[.ref e,c]/\dd=none/\Q (.bl b) H):=by
 intro pins s σ H xs us Q I r h;obtain⟨rfl,hd,q⟩:=h;obtain⟨u1,u2,rfl,r1,r2⟩:=vals2 r;cases r1;rw[hu u2 r2];obtain⟨p1,-,-,-,-⟩:=I.pin (e,oe) (JO _ hp);obtain⟨x1,x2,vs,x3⟩:=hx;have ia:W.InstAt s.heap e oe C none:=⟨p1,x1,by unfold W.notCls;rw[x3],by rw[x2,hd];trivial⟩;exact JS (FV xc) I.kIn ⟨oe,none,ia⟩ k (fun z=>by cases z) fun tk=>⟨.bl b,H,I.tok _,rfl,q⟩
end
end L2.XN
namespace XE
open PySem
section
variable{M:Model}{A:Around}{E:Value->Shared->Prop}{h:Heap}{g:Array GenState}{d:Drawn}{t:Nat}{os:OsState}
variable{nm q:Str}{C N:Addr}{bs bm bmB:List Value}{hdct:Bool}{sn:List Str}{sub:List Value}{ab:Bool}{col:Option Bool}{dd:Option Addr}{k0 k1 k2 k3 k5:Option Value}{B Bn newId nid initId inN:String}{bmN:List Value}
end
section
variable{prog:Program}{w:World}{A:Around}{R:Result->Shared->Prop}{h:Heap}{g:Array GenState}{d:Drawn}{t:Nat}{os:OsState}
variable{nm q:Str}{C N:Addr}{bs bm bmB:List Value}{hdct:Bool}{sn:List Str}{sub:List Value}{ab:Bool}{col:Option Bool}{dd:Option Addr}{k0 k1 k2 k3 k5:Option Value}{B Bn newId nid initId inN:String}{bmN:List Value}
end
section
variable{prog:Program}{w:World}{A:Around}{E:Value->Shared->Prop}{h:Heap}{g:Array GenState}{d:Drawn}{t:Nat}{os:OsState}
variable{nm q:Str}{C N:Addr}{bs bm bmB:List Value}{hdct:Bool}{sn:List Str}{sub:List Value}{ab:Bool}{col:Option Bool}{dd:Option Addr}{k0 k1 k2 k3 k5:Option Value}{B Bn newId nid initId inN:String}{bmN:List Value}
end
section
open PySem.W Builtin Builtin.ObjectAttr
variable{prog:Program}{w:World}{A:Around}{E:Value->Shared->Prop}{s:Shared}{K:Frag}{x C:Addr}{name:Str}{v:Value}{cd:ClassData}{o:Obj}
end
end XE
namespace XE
open PySem PySem.W PyProof.Rows
section
variable{prog:Program}{w:World}{A:Around}{E:Value->Shared->Prop}{s:Shared}{K:Frag}{e C:Addr}{ox:Obj}{od:Option Obj}{name:Str}{v:Value}
end
end XE
namespace L2.XN
open PySem PySem.Spec PyProof.Rows L2 XE
noncomputable def XN(C:Addr)(dd:Option Addr)(e:Addr):HO:=.ext fun h=>∃t,h.get? e=some {cls:=.ref C,dict:=dd,data:=.fields #[.ref t,.none,.none,.none,.bool false,.none]}
section
variable{P:Program}{w:World}{H H1 H2:Hp}{h h2:Heap}{e C:Addr}{dd:Option Addr}{o:HO}{fs ex:List Addr}
end
section
variable{X:Cx}{pins:List (Addr×Obj)}{σ:St}{H:Hp}{s:Shared}{C f e:Addr}{nm:Str}{k:Nat}{fd:FuncData}{ps:List Str}{sp:Sp}{E:XK}{Q:VK}{us ws:List Value}{zs:List V}{kw:List (Str×Value)}
end
end L2.XN
namespace L2.XN
open PySem PySem.Spec PyProof.Rows L2 XE
section
variable{X:Cx}{pins:List (Addr×Obj)}{σ:St}{H:Hp}{s:Shared}{C f e:Addr}{nm x:Str}{k:Nat}{fd:FuncData}{ps:List Str}{sp:Sp}{E:XK}{Q:VK}{p pos pos' :Pos}{e1 o value:Expr}{es:List Expr}{t:TA}{ta tv te:TE}{dvs:List V}{ds:List Value}
end
section
variable{X:Cx}{ex:Expr}{te:TE}{pos:Pos}
end
section
variable{P:Program}{w:World}{K:W.Frag}{mg:Str->Option Value}{base:Heap}{N:List Str}{qual:Str}{scope:Scope}{f C:Addr}{cd:Value}{A:Around}{outer:List Env}{s s1:Shared}{H H1:Hp}{E:XK}
 {pins:List (Addr×Obj)} {σ:St}
end
end L2.XN
namespace L2.XN
open PySem PySem.Spec PyProof.Rows L2 XE
section
variable{X:Cx}{pins:List (Addr×Obj)}{σ:St}{H:Hp}{s:Shared}
end
end L2.XN
namespace L2.XN
open PySem PySem.Spec PyProof.Rows L2 XE
section
variable{X:Cx}{pins:List (Addr×Obj)}{σ:St}{H:Hp}{s:Shared}{C f e:Addr}{nm nk x:Str}{k:Nat}{fd:FuncData}{ps:List Str}{sp:Sp}{E:XK}{Q:VK}{p pos kpos:Pos}{e1:Expr}{te:TE}
end
end L2.XN
namespace L2.XN
open PySem PySem.Spec PyProof.Rows L2 XE
section
variable{P:Program}{w:World}{K:W.Frag}{mg:Str->Option Value}{base:Heap}{N ps:List Str}{qual:Str}{scope:Scope}{f:Addr}{A:Around}{outer:List Env}{s s1:Shared}{H:Hp}{us:List Value}{vs:List V}{k:Nat}{sp:Sp}
end
section
variable{X:Cx}{k:Nat}{f:Addr}{fd:FuncData}{ps:List Str}{sp:Sp}{x:Str}{p pos:Pos}{e:Expr}{es:List Expr}{t:TA}
end
end L2.XN
namespace IR
open PySem PySem.Spec PyProof.Rows L2 L2.XN
section
variable(cd:Nat->List PV->Option PV)(xd:Nat->List PV->Bool)(fu:Nat)(cn:Str)
noncomputable def forX(set:PV->En->Option En)(bx:En->Bool)(bd:En->Option Fl):List PV->En->Bool
 | [],_=>false
 | x::xs,τ=>match set x τ with
  | some τ1=>bx τ1||(match bd τ1 with
   | some (.nx τ2)=>forX set bx bd xs τ2
   | some (.ct τ2)=>forX set bx bd xs τ2
   | _=>false)
  | none=>false
noncomputable def Ch(τ:En):IE->Bool
 | .call f es=>(match bU cd es τ with
  | some rs=>xd f (rs.map RV.val)
  | none=>false)
 | _=>false
noncomputable def oE:IS->Bool
 | .grp .. =>true
 | _=>false
mutual
noncomputable def ie:IS->En->Bool
 | .rais x,_=>x==cn
 | .ife c a b,τ=>(match dq cd c τ with
  | some true=>evXs a τ
  | some false=>evXs b τ
  | none=>false)
 | .forr is one cap src body,τ=>(match kQ cd src (ai cap τ)with
  | some (xs,n,false)=>forX (eA is one n) (fun τ=>evXs body τ) (fun τ=>bD cd fu body τ) xs (ai cap τ)
  | _=>false)
 | .asg _ _ cap e,τ=>Ch cd xd (ai cap τ) e
 | .ret cap e,τ=>Ch cd xd (ai cap τ) e
 | _,_=>false
noncomputable def evXs:om->En->Bool
 | .nil,_=>false
 | .cons s ss,τ=> !oE s&&(ie s τ||(match bz cd fu s τ with
  | some (.nx τ1)=>evXs ss τ1
  | _=>false))
end
end
noncomputable def xD(P:Nat->Option FD)(cn:Str):Nat->Nat->List PV->Bool
 | 0,_,_=>false
 | k+1,f,vs=>match P f with
  | some d=>decide (vs.length=d.np)&&evXs (aG P k) (xD P cn k) 1000000 cn d.body (entry d vs)
  | none=>false
noncomputable def spX(K:W.Frag)(C:Addr)(m:List PV->Bool):Sp:=fun vs H _ E=>∃pvs,aJ K H false pvs H vs/\m pvs=true/\∀H',aB H H' ->E (.ref C) none H'
structure XX(cd:Nat->List PV->Option PV)(xd:Nat->List PV->Bool)(cn:Str)(C:Addr)(E:XK)(X:Cx)(ct:Ct):Prop where
 ok:bQ cd X ct
 fns:∀x f,ct.F.lookup x=some f->∃k a fd ps,bu X.prog X.w X.K X.mg X.base (sF X.prog X.w C) k a fd ps (spX X.K C (xd f))/\eQ k X.A/\X.mg x=some (.ref a)/\W.keepIn X.K (.ref a)=true/\Binds X.K fd ps []
 pass:jj (sF X.prog X.w C) X E
 rais:∀np cpos pos,Gl X cn->PS X (.Raise (some (.Call (.Name cn np) [] [] cpos)) none pos) (uS E C)
 fn:X.fn=fun _=>true
section
variable{cd:Nat->List PV->Option PV}{xd:Nat->List PV->Bool}{fu:Nat}{cn:Str}{C:Addr}{E:XK}{X:Cx}{ct:Ct}{Hi:Hp}{τ:En}
variable(X Hi C E τ)in
noncomputable def XSt(st:Stmt):Prop:=∀(O:List Addr)(σ:L2.St)(H:Hp)(D:cw),ag X.K Hi O τ σ H->σ.length=X.N.length->(∀H' O',aB (aQ H O) (aQ H' O')->E (.ref C) none H')->WS X st D σ H
variable(X Hi C E τ)in
noncomputable def XSs(st:List Stmt):Prop:=∀(O:List Addr)(σ:L2.St)(H:Hp)(D:cw),ag X.K Hi O τ σ H->σ.length=X.N.length->(∀H' O',aB (aQ H O) (aQ H' O')->E (.ref C) none H')->WSs X st D σ H
theorem nC{n:Nat}{e:Expr}{f:Nat}{ies:qT}(h:ao n ct e=.call f ies):∃m x p a as pos,e=.Call (.Name x p) (a::as) [] pos/\pS x=false/\ct.S.lookup x=some .globalImplicit/\ct.F.lookup x=some f/\ies=ee m ct (a::as):=by
 cases n with
 | zero=>simp[jz,ju,jp,jy,jl,jv,jx,jt,jr,jm,jo,jw,jq]at h
 | succ n =>
  cases e with
  | Call fn es ks cp =>
   simp only[jz,ju,jp,jy,jl,jv,jx,jt,jr,jm,jo,jw,jq]at h
   split at h
   ·split at h
    ·rename_i x p
     cases n with
     | zero=>simp[z26,z27]at h
     | succ n =>
      simp only[z26,z27]at h
      split at h
      ·cases h
      ·rename_i ho
       split at h
       ·rename_i hg
        split at h
        ·rename_i f' hf
         split at h
         ·cases h
         ·rename_i hne
          cases es with
          | nil=>exact absurd rfl hne
          | cons a as =>
           have h1:f' =f:=by cases h;rfl
           have h2:ee n ct (a::as)=ies:=by cases h;rfl
           subst h1 h2;exact⟨n,x,p,a,as,cp,rfl,Im.mpr ho,HN hg,hf,rfl⟩
        ·(repeat' split at h)<;>cases h
       ·cases h
    ·split at h
     ·cases n with
      | zero=>simp[z2r,z2s]at h
      | succ n =>
       simp only[z2r,z2s]at h
       (repeat' split at h)<;>cases h
     ·cases h
    ·cases h
   ·cases h
  | Constant c k p=>simp only[jz,ju,jp,jy,jl,jv,jx,jt,jr,jm,jo,jw,jq]at h;cases c<;>cases h
  | Name x p =>
   simp only[jz,ju,jp,jy,jl,jv,jx,jt,jr,jm,jo,jw,jq,i8]at h
   (repeat' split at h)<;>cases h
  | BoolOp op vs p =>
   simp only[jz,ju,jp,jy,jl,jv,jx,jt,jr,jm,jo,jw,jq]at h
   split at h
   ·cases h
   ·match vs with
    | []=>cases h
    | [_]=>rename_i z;exact absurd (by simp) z
    | a::b::r=>cases op<;>cases h
  | _ =>
   (try simp only[jz,ju,jp,jy,jl,jv,jx,jt,jr,jm,jo,jw,jq]at h)
   (repeat' split at h)<;>cases h
theorem wb(A:XX cd xd cn C E X ct){n:Nat}{e:Expr}(h:Ch cd xd τ (ao n ct e)=true){O:List Addr}{σ:L2.St}{H:Hp}{Q:VK}(R:ag X.K Hi O τ σ H)(q:∀H',aB H H' ->E (.ref C) none H'):WE X e σ H Q:=by
 cases ht:ao n ct e with
 | call f ies =>
  rw[ht]at h
  have h2:(match bU cd ies τ with
   | some rs=>xd f (rs.map RV.val)
   | none=>false)=true:=h
  clear h
  cases hrs:bU cd ies τ with
  | none=>rw[hrs]at h2;cases h2
  | some rs =>
   rw[hrs]at h2;obtain⟨m,x,p,a,as,pos,rfl,ho,hg,hf,rfl⟩:=nC ht;obtain⟨k,ad,fd,ps,F,hr,hm,kp,bd⟩:=A.fns x f hf;have g:Gl X x:=by
    show X.env.scope.names.lookup x=_;rw[A.ok.S];exact hg
   obtain⟨i1,i2,_⟩:=(cI m).es X ct Hi τ (a::as) rs A.ok hrs;refine we (qv F hr g hm kp bd .nil A.pass nR (bh ho).1 (aS (i2 a Gw)) (eU fun b hb=>i2 b (Gs _ hb))) ?_;refine i1 O σ H _ R fun us H1 s1 r1=> ?_;have vs:=r1.vals R s1;rw[ID];exact⟨_,vs.entry (fun z=>by cases z),h2,fun H' s' =>q H' (s1.trans s')⟩
 | _=>rw[ht]at h;cases h
theorem yb(A:XX cd xd cn C E X ct){tg it:Expr}{is:List Nat}{one:Bool}{cap:List Nat}{n:Nat}{body:List Stmt}{pos:Pos}{xs:List PV}{k:Bool}{bx:En->Bool}{bd:En->Option Fl}(ht:sL ct tg=some (is,one))
  (hi:kQ cd (t8 n ct (!one) it) (ai cap τ)=some (xs,k,false)) (hb:∀τ fl,bd τ=some fl->qQ X Hi τ body fl) (hx:∀τ,bx τ=true->XSs C E X Hi τ body) (h:forX (eA is one k) bx bd xs (ai cap τ)=true):XSt C E X Hi τ (.For tg it body [] pos):=by
 intro O σ H D R hl q;obtain⟨O1,R1,s1⟩:=fK (cap:=cap) R;obtain⟨htp,g,pg,kg⟩:=zV (Hi:=Hi) A.ok A.fn ht;obtain⟨gI,hset⟩:=(cI n).t X ct Hi (ai cap τ) (!one) it tg xs k false A.ok (fun z=>htp (by simpa using z)) hi;refine ws (u8 A.ok.xe A.ok.calm xw pg cP (il hset)) ?_;refine gI O1 σ H _ R1 fun J H1 sJ En=> ?_;rw[Gq Gz]at En;have s2:aB (aQ H O) (aQ H1 O1):=s1.trans (aH sJ);refine⟨fun i m σ' G=>m=xs.length-i/\i<=xs.length/\∃(P:List Addr)(υ:IR.En),ag X.K Hi P υ σ' G/\σ'.length=X.N.length/\aB (aQ H1 O1) (aQ G P)/\forX (eA is one k) bx bd (xs.drop i) υ=true,⟨xs.length,by simp,Hu _,O1,_,R1.ext sJ,hl,aB.refl _,h⟩,?_⟩;rintro i m σ' G ⟨rfl,hi',P,υ,RP,hlP,sP,hrun⟩;have BV:zI (aQ H1 O1) G P:=⟨RP.lsts,sP⟩
 by_cases hlt:i<xs.length
 ·refine .inr ⟨En.go G P i BV hlt,fun σ2 G2=>∃m',m' <xs.length-i/\(m' =xs.length-(i+1)/\i+1<=xs.length/\∃(P:List Addr)(υ:IR.En),ag X.K Hi P υ σ2 G2/\σ2.length=X.N.length/\aB (aQ H1 O1) (aQ G2 P)/\forX (eA is one k) bx bd (xs.drop (i+1)) υ=true),
   fun σ2 G2 h=>h,fun u G' y=> ?_⟩
  obtain⟨sG,x,hxx,rx⟩:=En.yld G P i u G' BV hlt y;have hd:xs.drop i=x::xs.drop (i+1):=by
   rw[IA hlt];rw[HA hlt]at hxx;rw[HM hxx]
  rw[hd]at hrun;unfold forX at hrun;cases h1:eA is one k x υ with
  | none=>rw[h1]at hrun;cases hrun
  | some υ1 =>
   rw[h1]at hrun
   have hrun:(bx υ1||(match bd υ1 with
    | some (.nx τ2)=>forX (eA is one k) bx bd (xs.drop (i+1)) τ2
    | some (.ct τ2)=>forX (eA is one k) bx bd (xs.drop (i+1)) τ2
    | _=>false))=true:=hrun
   refine kg P υ υ1 σ' G' k x u _ (RP.ext sG) hlP rx h1 fun σ1 R2 hl1=> ?_;have s3:aB (aQ H1 O1) (aQ G' P):=sP.trans (aH sG)
   rcases Bool.or_eq_true_iff.mp hrun with hr|hr
   ·exact hx υ1 hr P σ1 G' _ R2 hl1 fun H' O' s=>q H' O' (s2.trans (s3.trans s))
   ·cases hf:bd υ1 with
    | none=>rw[hf]at hr;cases hr
    | some f =>
     rw[hf]at hr;refine hb υ1 f hf P σ1 G' _ R2 hl1 ?_;cases f with
     | nx υ2=>exact fun σ3 G3 P3 R3 hl3 s4=>⟨_,by omega,rfl,hlt,P3,υ2,R3,hl3,s3.trans s4,hr⟩
     | ct υ2=>exact fun σ3 G3 P3 R3 hl3 s4=>⟨_,by omega,rfl,hlt,P3,υ2,R3,hl3,s3.trans s4,hr⟩
     | bk υ2=>cases hr
     | rt v=>cases hr
 ·have e:i=xs.length:=by omega
  subst e;rw[List.drop_length]at hrun;cases hrun
structure Gk(cd:Nat->List PV->Option PV)(xd:Nat->List PV->Bool)(fu:Nat)(cn:Str)(C:Addr)(E:XK)(X:Cx)(ct:Ct)(Hi:Hp)(n:Nat):Prop where
 s:∀(τ:En)(st:Stmt),ie cd xd fu cn (j0 n ct st) τ=true->XSt C E X Hi τ st
 ss:∀(τ:En)(st:List Stmt),evXs cd xd fu cn (bG n ct st) τ=true->XSs C E X Hi τ st
theorem cc{τ:En}(h:ie cd xd fu cn .never τ=true){P:Prop}:P:=by simp[ie]at h
theorem stX{n:Nat}(A:XX cd xd cn C E X ct)(IH:Gk cd xd fu cn C E X ct Hi n){st:Stmt}(h:ie cd xd fu cn (j0 (n+1) ct st) τ=true):XSt C E X Hi τ st:=by
 cases st with
 | Raise e c pos =>
  simp only[ko,kX,km,kc,ke,kW,kZ,kj,ki,kh,kY,kl]at h
  split at h
  ·rename_i x hx
   split at h
   ·rename_i hg
    obtain⟨p,p2,rfl,rfl⟩:=pL hx;simp only[ie]at h;have e:=HN h;subst e;rw[Gv]at hg;intro O σ H D R hl q;refine ws (A.rais _ _ _ ?_) (q H O (aB.refl _));show X.env.scope.names.lookup x=_;rw[A.ok.S];exact HN hg.1
   ·exact cc h
  ·exact cc h
 | If c a b pos =>
  simp only[ko,kX,km,kc,ke,kW,kZ,kj,ki,kh,kY,kl,ie]at h
  split at h
  ·rename_i hc
   intro O σ H D R hl q;refine ws (u7 iX cP cP) ?_;refine(cI n).c X ct Hi τ c true A.ok hc O σ H _ R fun H1 s1=>pf ?_;exact IH.ss τ a h O σ H1 _ (R.ext s1) hl fun H' O' s=>q H' O' ((aH s1).trans s)
  ·rename_i hc
   intro O σ H D R hl q;refine ws (u7 iX cP cP) ?_;refine(cI n).c X ct Hi τ c false A.ok hc O σ H _ R fun H1 s1=>pi ?_;exact IH.ss τ b h O σ H1 _ (R.ext s1) hl fun H' O' s=>q H' O' ((aH s1).trans s)
  ·cases h
 | For tg it body els pos =>
  simp only[ko,kX,km,kc,ke,kW,kZ,kj,ki,kh,kY,kl]at h
  split at h
  ·split at h
   ·rename_i is one ht
    simp only[ie]at h
    split at h
    ·rename_i xs k hi
     exact yb A ht hi (fun τ fl hf=>(zF n).ss X ct Hi τ body fl A.ok A.fn hf) (fun τ hx=>IH.ss τ body hx) h
    ·cases h
   ·exact cc h
  ·exact cc h
 | Return v pos =>
  simp only[ko,kX,km,kc,ke,kW,kZ,kj,ki,kh,kY,kl]at h
  split at h
  ·rename_i e
   simp only[ie]at h;intro O σ H D R hl q;obtain⟨O1,R1,s1⟩:=fK (cap:=je n ct e) R;exact ws (pN ae) (wb A h R1 fun H' s=>q H' O1 (s1.trans (aH s)))
  ·simp[ie]at h
 | Assign ts e pos =>
  simp only[ko,kX,km,kc,ke,kW,kZ,kj,ki,kh,kY,kl]at h
  split at h
  ·rename_i x xp
   split at h
   ·rename_i i hx
    simp only[ie]at h;intro O σ H D R hl q;obtain⟨h1,h2,h3,h4⟩:=fJ A.ok hx;obtain⟨O1,R1,s1⟩:=fK (cap:=Cg ct x e++jf n ct e) R;have hN:X.N.Nodup:=by rw[A.ok.N];exact A.ok.nd
    have hc:pk e=false:=by
     cases ht:ao n ct e with
     | call f ies =>
      obtain⟨_,_,_,_,_,_,rfl,_⟩:=nC ht;rfl
     | _=>rw[ht]at h;cases h
    exact ws (gQ hN h1 h2 ae (vX (.inl hc)) (.inl (by rw[A.fn]))) (wb A h R1 fun H' s=>q H' O1 (s1.trans (aH s)))
   ·exact cc h
  ·exact cc h
 | _ =>
  (try simp only[ko,kX,km,kc,ke,kW,kZ,kj,ki,kh,kY,kl]at h)
  (repeat' split at h)<;>first|exact cc h|(simp[ie]at h)
theorem GY(A:XX cd xd cn C E X ct):∀n:Nat,Gk cd xd fu cn C E X ct Hi n
 | 0=>by
  refine⟨fun τ st h=> ?_,fun τ st h=> ?_⟩
  ·simp[ko,kX,km,kc,ke,kW,kZ,kj,ki,kh,kY,kl,ie]at h
  ·simp[DU,DS,DT,evXs,ie,iL,gr,gz,gw,iA,iD,gq,hV,iI,iG,iN,hZ,hU,hJ,iH,gv,gu,gt,iF,iE,iM,iK,iJ,iC,iB,g9,hX]at h
 | n+1=>by
  have IH:=GY A n;refine⟨fun τ st h=>stX A IH h,fun τ st h=> ?_⟩;cases st with
  | nil=>simp[DU,DS,DT,evXs]at h
  | cons st ss =>
   simp only[DU,DS,DT]at h
   have h:(!oE (j0 n ct st)&&(ie cd xd fu cn (j0 n ct st) τ||(match bz cd fu (j0 n ct st) τ with
    | some (.nx τ1)=>evXs cd xd fu cn (bG n ct ss) τ1
    | _=>false)))=true:=by
    simp only[evXs]at h;exact h
   have h:=(Bool.and_eq_true_iff.mp h).2;intro O σ H D R hl q;refine wss (eD Er cP) ?_
   rcases Bool.or_eq_true_iff.mp h with h|h
   ·exact IH.s τ st h O σ H _ R hl q
   ·cases hf:bz cd fu (j0 n ct st) τ with
    | none=>rw[hf]at h;cases h
    | some f =>
     rw[hf]at h;cases f with
     | nx τ1 =>
      refine(zF n).s X ct Hi τ st (.nx τ1) A.ok A.fn hf O σ H _ R hl ?_;exact fun σ1 H1 O1 R1 hl1 s1=>IH.ss τ1 ss h O1 σ1 H1 D R1 hl1 fun H' O' s=>q H' O' (s1.trans s)
     | bk τ1=>cases h
     | ct τ1=>cases h
     | rt v=>cases h
end
section
variable{cd:Nat->List PV->Option PV}{xd:Nat->List PV->Bool}{fu:Nat}{cn:Str}{τ τ1:En}{s:IS}{ss:om}
theorem ig(hg:oE s=false)(h:bz cd fu s τ=some (.nx τ1))(h2:evXs cd xd fu cn ss τ1=true):evXs cd xd fu cn (.cons s ss) τ=true:=by
 rw[evXs,hg,h];show(_||evXs cd xd fu cn ss τ1)=true;rw[h2,Bool.or_true]
theorem fS(hg:oE s=false)(h:ie cd xd fu cn s τ=true):evXs cd xd fu cn (.cons s ss) τ=true:=by
 rw[evXs,hg,h];rfl
theorem Dk{c:IC}{a b:om}{t:Bool}(hc:dq cd c τ=some t)(h:evXs cd xd fu cn (if t then a else b) τ=true):ie cd xd fu cn (.ife c a b) τ=true:=by
 rw[ie,hc];cases t<;>exact h
theorem AO:ie cd xd fu cn (.rais cn) τ=true:=by
 rw[ie];exact beq_self_eq_true cn
theorem zO{P:Nat->Option FD}{k f:Nat}{vs:List PV}{d:FD}(hP:P f=some d)(hl:vs.length=d.np)(h:evXs (aG P k) (xD P cn k) 1000000 cn d.body (entry d vs)=true):xD P cn (k+1) f vs=true:=by
 unfold xD;rw[hP];show(decide _&&_)=true;rw[Hy hl,h];rfl
end
theorem yY{P:Nat->Option FD}{f n m mm:Nat}{e:IE}{g:List PV->Option PV}(hP:P f=some ⟨n,m,.cons (.drop e) (.cons (.hand mm g) .nil)⟩)(cn:Str):∀(k:Nat)(vs:List PV),xD P cn k f vs=false
 | 0,_=>rfl
 | k+1,vs=>by
  have z:evXs (aG P k) (xD P cn k) 1000000 cn (.cons (.drop e) (.cons (.hand mm g) .nil)) (entry ⟨n,m,.cons (.drop e) (.cons (.hand mm g) .nil)⟩ vs)=false:=by
   simp only[evXs,ie,oE,iL,gr,gz,gw,iA,iD,gq,hV,iI,iG,iN,hZ,hU,hJ,iH,gv,gu,gt,iF,iE,iM,iK,iJ,iC,iB,g9,hX,Bool.false_or,Bool.not_false,Bool.true_and];cases aP (aG P k) e (entry ⟨n,m,.cons (.drop e) (.cons (.hand mm g) .nil)⟩ vs)with
   | none=>rfl
   | some r =>
    simp only[Iz];cases g (((entry ⟨n,m,.cons (.drop e) (.cons (.hand mm g) .nil)⟩ vs).take mm).map TV.valD)<;>rfl
  unfold xD;rw[hP];show(_&&_)=false;rw[z,Bool.and_false]
structure zH(mg:Str->Option Value)(base:Heap)(cn:Str)(C:Addr):Prop where
 ex:∃bm newId nid initId inN B Bn bmN,OwnCls cn C bm newId mg base/\ExcBaseFacts Bn newId inN bmN/\bm.contains (.type Bn)=true/\ExcBaseFacts B nid initId bm
 nd:(cn==("__debug__":Str))=false
section
variable{K:W.Frag}{mg:Str->Option Value}{P:Nat->Option FD}{F:List (Str×Nat)}{G:List (Str×PV)}{B:List Str}{p:Program}{w:World}{base:Heap}{k:Nat}
variable(K mg P F p w base k)in
noncomputable def jk:Prop:=∀y g,F.lookup y=some g->∃b gd qs,mg y=some (.ref b)/\W.keepIn K (.ref b)=true/\Binds K gd qs []/\bu p w K mg base oz k b gd qs (zY K (aG P k g)) /\
 ∀cn C,zH mg base cn C->bu p w K mg base (sF p w C) k b gd qs (spX K C (xD P cn k g))
variable(K mg P F G B)in
structure bY(x:Str)(f:Nat)(a:Addr)(fd:FuncData)(ps:List Str):Prop where
 ex:(mg x=some (.ref a)/\W.keepIn K (.ref a)=true/\Binds K fd ps []/\(∀cn k vs,xD P cn k f vs=false)/\∀(p:Program)(w:World)(base:Heap)(k:Nat),jk K mg P F p w base k->bu p w K mg base oz (k+1) a fd ps (zY K (aG P (k+1) f))) \/
  ∃st N M n body,i7 K mg x st ps a fd/\aX N ps (aA st)/\P f=some ⟨N.length,ps.length,body⟩/\bG n ⟨N,(aA st).names,F,G,B,M⟩ (aD st)=body
theorem bY.def{x:Str}{f:Nat}{a:Addr}{fd:FuncData}{ps:List Str}(d:bY K mg P F G B x f a fd ps):mg x=some (.ref a)/\W.keepIn K (.ref a)=true/\Binds K fd ps []:=by
 rcases d.ex with⟨h1,h2,h3,_⟩|⟨st,N,M,n,body,D,_⟩
 ·exact⟨h1,h2,h3⟩
 ·exact⟨D.nm,D.fn.kp,D.bd⟩
theorem kz{N ps:List Str}{vs:List V}(S:ps.length<=N.length)(h:vs.length=ps.length):(start N vs).length=N.length:=by
 unfold L2.start;rw[G6,Go,List.length_replicate];omega
variable(hG:∀x v,G.lookup x=some v->∃u w,mg x=some u/\RelV w u/\∀Hi n H,Rp K Hi n v H w)(hB:∀x,B.contains x=true->mg x=none)
include hG hB
theorem Am(IH:jk K mg P F p w base k){x:Str}{f:Nat}{a:Addr}{fd:FuncData}{ps:List Str}{st:Stmt}{N:List Str}{M:List Nat}{n:Nat}{body:om}(D:i7 K mg x st ps a fd)(S:aX N ps (aA st))(hP:P f=some ⟨N.length,ps.length,body⟩)
  (hb:bG n ⟨N,(aA st).names,F,G,B,M⟩ (aD st)=body):bu p w K mg base oz (k+1) a fd ps (zY K (aG P (k+1) f)):=by
 have run:∀{pvs:List PV}{r:PV},aG P (k+1) f pvs=some r->pvs.length=ps.length/\fL (bD (aG P k) 1000000 body (entry ⟨N.length,ps.length,body⟩ pvs))=some r:=fun{pvs r} h=>by
  unfold aG at h;rw[hP]at h;dsimp only[Option.bind]at h
  split at h
  ·rename_i hl
   exact⟨hl,h⟩
  ·cases h
 refine D.fn.ok S (fun vs H Q E h=> ?_) (fun cdv A outer s H vs Q E hr h=> ?_)
 ·obtain⟨pvs,r,h1,h2,_⟩:=h
  rw[<- h1.len];exact(run h2).1
 ·obtain⟨pvs,r,h1,h2,q⟩:=h
  obtain⟨hl,h2⟩:=run h2;have hps:ps.length<=N.length:=by have:=Ia List.length S.pre;rw[Hq]at this;omega
  cases he:bD (aG P k) 1000000 body (entry ⟨N.length,ps.length,body⟩ pvs)with
  | none=>rw[he]at h2;cases h2
  | some fl =>
   rw[he]at h2
   have C:bQ (aG P k) (fw oz p w K mg base N x (aA st) a cdv A outer s H E).nox ⟨N,(aA st).names,F,G,B,M⟩ :=
    ⟨rfl,S.nd,rfl,S.kind,rfl,hG,hB,fun y g hy=>by
     obtain⟨b,gd,qs,z1,z2,z3,z4,_⟩:=IH y g hy;exact⟨k,b,gd,qs,z4,hr,z1,z2,z3⟩,PassesOwn.never,hr.units⟩
   rw[<- hb]at he;have h3:=(zF n).ss _ _ H _ (aD st) fl C rfl he;refine⟨_,cP,h3 [] (start N vs) H _ (lQ rfl h1) (kz hps (by rw[<- h1.len];exact hl)) ?_⟩;cases fl with
   | nx τ' =>
    cases h2;exact fun σ' H' O' R' _ _=>q _ _ R'.same (Rp.non.mpr rfl)
   | rt v =>
    cases h2;exact q
   | bk τ' =>cases h2
   | ct τ' =>cases h2
theorem Al(IH:jk K mg P F p w base k){x:Str}{f:Nat}{a:Addr}{fd:FuncData}{ps:List Str}{st:Stmt}{N:List Str}{M:List Nat}{n:Nat}{body:om}(D:i7 K mg x st ps a fd)(S:aX N ps (aA st))(hP:P f=some ⟨N.length,ps.length,body⟩)
  (hb:bG n ⟨N,(aA st).names,F,G,B,M⟩ (aD st)=body) {cn:Str} {C:Addr} (XC:zH mg base cn C):bu p w K mg base (sF p w C) (k+1) a fd ps (spX K C (xD P cn (k+1) f)):=by
 have run:∀{pvs:List PV},xD P cn (k+1) f pvs=true->pvs.length=ps.length/\evXs (aG P k) (xD P cn k) 1000000 cn body (entry ⟨N.length,ps.length,body⟩ pvs)=true:=fun{pvs} h=>by
  unfold xD at h;rw[hP]at h;have h:=Bool.and_eq_true_iff.mp h;exact⟨Jz h.1,h.2⟩
 obtain⟨oc,od,kV,doc,pm,an,cdv,ct,osl,rfl,lk,hcd⟩:=D.fn.ex;obtain⟨bm,newId,nid,initId,inN,Bb,Bn,bmN,O,Fn,hBn,FB⟩:=XC.ex;refine zz lk hcd S (fun vs H Q E h=> ?_) fun A outer s H vs Q E hr h=> ?_
 ·obtain⟨pvs,h1,h2,_⟩:=h
  rw[<- h1.len];exact(run h2).1
 ·obtain⟨pvs,h1,h2,q⟩:=h
  obtain⟨hl,h2⟩:=run h2;have hps:ps.length<=N.length:=by have:=Ia List.length S.pre;rw[Hq]at this;omega
  have A' :XX (aG P k) (xD P cn k) cn C E (fw (sF p w C) p w K mg base N x (aA st) a cdv A outer s H E) ⟨N,(aA st).names,F,G,B,M⟩ :=
   ⟨⟨rfl,S.nd,rfl,S.kind,rfl,hG,hB,fun y g hy=>by
     obtain⟨b,gd,qs,z1,z2,z3,z4,_⟩:=IH y g hy;exact⟨k,b,gd,qs,z4,hr,z1,z2,z3⟩,PassesOwn.leaving,hr.units⟩,fun y g hy=>by
     obtain⟨b,gd,qs,z1,z2,z3,_,z5⟩:=IH y g hy;exact⟨k,b,gd,qs,z5 cn C XC,hr,z1,z2,z3⟩,x8 fun _ _ z=>z,
    fun np cpos pos g=>sd O Fn hBn FB rfl g (fun pins σ H s h' e I mk q=>sZ I mk q) XC.nd,rfl⟩
  rw[<- hb]at h2;refine⟨_,cP,(GY A' n).ss _ (aD st) h2 [] (start N vs) H _ (lQ rfl h1) (kz hps (by rw[<- h1.len];exact hl)) fun H' O' s=>q H' fun b o e=>aL b o (s b o (by rw[rO];exact e))⟩
theorem rV(hF:∀x f,F.lookup x=some f->∃a fd ps,bY K mg P F G B x f a fd ps):∀(k:Nat)(x:Str)(f:Nat)(a:Addr)(fd:FuncData)(ps:List Str),bY K mg P F G B x f a fd ps ->
  bu p w K mg base oz k a fd ps (zY K (aG P k f))/\∀cn C,zH mg base cn C->bu p w K mg base (sF p w C) k a fd ps (spX K C (xD P cn k f))
 | 0,x,f,a,fd,ps,_=>⟨⟨fun vs H Q E h=>(by obtain⟨_,_,_,z,_⟩:=h;cases z),fun A outer s H args us vs Q E _ _ _ _ h=>(by obtain⟨_,_,_,z,_⟩:=h;cases z)⟩,
  fun cn C _=>⟨fun vs H Q E h=>(by obtain⟨_,_,z,_⟩:=h;cases z),fun A outer s H args us vs Q E _ _ _ _ h=>(by obtain⟨_,_,z,_⟩:=h;cases z)⟩⟩
 | k+1,x,f,a,fd,ps,d=>by
  have IH:jk K mg P F p w base k:=fun y g hy=>by
   obtain⟨b,gd,qs,dy⟩:=hF y g hy;obtain⟨z1,z2,z3⟩:=dy.def;obtain⟨z4,z5⟩:=rV hF k y g b gd qs dy;exact⟨b,gd,qs,z1,z2,z3,z4,z5⟩
  rcases d.ex with⟨_,_,_,nx,hand⟩|⟨st,N,M,n,body,D,S,hP,hb⟩
  ·exact⟨hand p w base k IH,fun cn C _=>⟨fun vs H Q E h=>(by obtain⟨_,_,z,_⟩:=h;rw[nx]at z;cases z),fun A outer s H args us vs Q E _ _ _ _ h=>(by obtain⟨_,_,z,_⟩:=h;rw[nx]at z;cases z)⟩⟩
  ·exact⟨Am hG hB IH D S hP hb,fun cn C XC=>Al hG hB IH D S hP hb XC⟩
end
section
variable{K:W.Frag}{mg:Str->Option Value}{P:Nat->Option FD}{F0:List (Str×Nat)}{G0:List (Str×PV)}{B0:List Str}
theorem Fo:∀(x:Str)(f:Nat),([]:List (Str×Nat)).lookup x=some f->∃a fd ps,bY K mg P F0 G0 B0 x f a fd ps:=fun x f h=>by cases h
theorem bB{x0:Str}{f0:Nat}{r:List (Str×Nat)}(h:∃a fd ps,bY K mg P F0 G0 B0 x0 f0 a fd ps)(hr:∀(x:Str) (f:Nat),r.lookup x=some f->∃a fd ps,bY K mg P F0 G0 B0 x f a fd ps) :
  ∀(x:Str)(f:Nat),((x0,f0)::r).lookup x=some f->∃a fd ps,bY K mg P F0 G0 B0 x f a fd ps:=fun x f e=>by
 rw[Hl]at e
 split at e
 ·rename_i c
  cases e;rw[HN c];exact h
 ·exact hr x f e
end
end IR
namespace Law
open PySem PySem.Spec PyProof.Rows L2 IR
noncomputable def kx(i:Nat):Stmt:=PySem.Challenge.pw_unstruck_k72_all_placings_small.main.body.getD i (.Pass ⟨0,0,0,0⟩)
noncomputable def F:List (Str×Nat):=[("cells_of",3),("is_straight",129),("is_aslant",130),("struck",131),("not_struck",182),("with_one_more",183),("all_placings",184),("_law_cell",4),("_law_mixed",5),("_law_board",6),("_law_cells",7),("_law_whole",8),("_law_same",9),("_law_all_same",10),("_law_strikes",186),("_law_kind",187),("_law_listed",188),("_law_refused",189),("_law_good",193),("law",194)]
noncomputable def G:List (Str×PV):=[("CELL",(.str "x")),("STRAIGHT",(.str "straight")),("ASLANT",(.str "aslant")),("MOST_PLACINGS",(.int 1000))]
noncomputable def B:List Str:=["len","int","list","tuple","min","max","abs","isinstance","str","bool","range","zip","enumerate","sorted","reversed","ValueError"]
noncomputable abbrev s3:Stmt:=kx 2
noncomputable abbrev N3:List Str:=["board","cells","row","line","column","sign"]
noncomputable abbrev kI:Stmt:=kx 13
noncomputable abbrev DN:List Str:=["one","other"]
noncomputable abbrev kH:Stmt:=kx 14
noncomputable abbrev DM:List Str:=["one","other"]
noncomputable abbrev kG:Stmt:=kx 15
noncomputable abbrev DL:List Str:=["kind","one","other"]
noncomputable abbrev kF:Stmt:=kx 16
noncomputable abbrev DK:List Str:=["kind","cell","cells"]
noncomputable abbrev kE:Stmt:=kx 17
noncomputable abbrev DJ:List Str:=["kind","level","room","above","placing","free","place","cell"]
noncomputable abbrev kB:Stmt:=kx 18
noncomputable abbrev DI:List Str:=["kind","board","size","level","room","more"]
noncomputable abbrev s4:Stmt:=kx 20
noncomputable abbrev N4:List Str:=["_law_script","_law_k"]
noncomputable abbrev s5:Stmt:=kx 21
noncomputable abbrev N5:List Str:=["_law_cell_here","_law_k","_law_number"]
noncomputable abbrev s6:Stmt:=kx 22
noncomputable abbrev N6:List Str:=["_law_head","_law_cell_here","_law_most","_law_rows","_law_columns","_law_thick","_law_lines","_law_row","_law_signs","_law_column","_law_place","_law_one"]
noncomputable abbrev s7:Stmt:=kx 23
noncomputable abbrev N7:List Str:=["_law_board_here","_law_found","_law_row","_law_column"]
noncomputable abbrev s8:Stmt:=kx 24
noncomputable abbrev N8:List Str:=["_law_found"]
noncomputable abbrev s9:Stmt:=kx 25
noncomputable abbrev N9:List Str:=["_law_found","_law_due"]
noncomputable abbrev wz:Stmt:=kx 26
noncomputable abbrev N10:List Str:=["_law_found","_law_due","_law_one","_law_other"]
noncomputable abbrev kA:Stmt:=kx 27
noncomputable abbrev DH:List Str:=["_law_kind_here","_law_one","_law_other","_law_down","_law_along"]
noncomputable abbrev j9:Stmt:=kx 28
noncomputable abbrev DG:List Str:=["_law_number"]
noncomputable abbrev j8:Stmt:=kx 29
noncomputable abbrev DF:List Str:=["_law_kind_here","_law_cells_here","_law_size","_law_most","_law_found","_law_one","_law_longer","_law_placing","_law_hit"]
noncomputable abbrev j7:Stmt:=kx 30
noncomputable abbrev Gd:List Str:=["_law_kind_here","_law_board_here","_law_size","_law_found","e","_law_others"]
noncomputable abbrev j6:Stmt:=kx 31
noncomputable abbrev DE:List Str:=["_law_kind_here","_law_board_here","_law_size","_law_listed_here","_law_due","_law_found"]
noncomputable abbrev gO:Stmt:=kx 32
noncomputable abbrev DD:List Str:=["_law_script","_law_k","_law_board_here","_law_cell_here"]
noncomputable def d3:FD:=⟨6,1,
  (.cons (.asg 1 true [] (.lst .nil))
  (.cons (.forr [2,3] false [0] (.enum (.var 0)) (.cons (.forr [4,5] false [3] (.enum (.var 3)) (.cons (.ife (.val (.cmp .Eq (.var 5) (.con (.str "x")))) (.cons (.app 1 [2,4] (.tup (.cons (.var 2) (.cons (.var 4) .nil))))
  .nil) .nil)
  .nil))
  .nil))
  (.cons (.ret [1] (.var 1))
  .nil)))⟩
noncomputable def CY:FD:=⟨2,2,
  (.cons (.ret [] (.or (.cmp .Eq (.ix (.var 0) (.con (.int 0))) (.ix (.var 1) (.con (.int 0)))) (.cmp .Eq (.ix (.var 0) (.con (.int 1))) (.ix (.var 1) (.con (.int 1))))))
  .nil)⟩
noncomputable def CW:FD:=⟨2,2,
  (.cons (.ret [] (.cmp .Eq (.bf .abs (.cons (.bin .Sub (.ix (.var 0) (.con (.int 0))) (.ix (.var 1) (.con (.int 0)))) .nil)) (.bf .abs (.cons (.bin .Sub (.ix (.var 0) (.con (.int 1))) (.ix (.var 1) (.con (.int 1)))) .nil))))
  .nil)⟩
noncomputable def CV:FD:=⟨3,3,
  (.cons (.ife (.val (.cmp .Eq (.var 0) (.con (.str "straight")))) (.cons (.ret [] (.call 129 (.cons (.var 1) (.cons (.var 2) .nil))))
  .nil) .nil)
  (.cons (.ife (.val (.cmp .Eq (.var 0) (.con (.str "aslant")))) (.cons (.ret [] (.call 130 (.cons (.var 1) (.cons (.var 2) .nil))))
  .nil) .nil)
  (.cons (.ret [] (.or (.call 129 (.cons (.var 1) (.cons (.var 2) .nil))) (.call 130 (.cons (.var 1) (.cons (.var 2) .nil)))))
  .nil)))⟩
noncomputable def CU:FD:=⟨3,3,
  (.cons (.ret [2] (.lc (.var 0) (.seq (.var 2)) (.yes (.not (.val (.call 131 (.cons (.var 2) (.cons (.var 1) (.cons (.var 0) .nil))))))) [1,0]))
  .nil)⟩
noncomputable def wQ:FD:=⟨8,3,
  (.cons (.asg 3 true [] (.lst .nil))
  (.cons (.forr [4,5] false [1] (.seq (.var 1)) (.cons (.forr [6,7] false [5] (.enum (.var 5)) (.cons (.app 3 [] (.tup (.cons (.bin .Add (.var 4) (.tup (.cons (.var 7) .nil))) (.cons (.call 182 (.cons (.var 0) (.cons (.var 7) (.cons (.sl (.var 5) (.yes (.bin .Add (.var 6) (.con (.int 1)))) .no) .nil)))) .nil))))
  .nil))
  (.cons (.ife (.val (.cmp .Gt (.bf .len (.cons (.var 3) .nil)) (.var 2))) (.cons (.rais "TooGreat")
  .nil) .nil)
  .nil)))
  (.cons (.ret [3] (.var 3))
  .nil)))⟩
noncomputable def wP:FD:=⟨6,3,
  (.cons (.asg 3 false [] (.lst (.cons (.tup (.cons (.tup .nil) (.cons (.call 3 (.cons (.var 1) .nil)) .nil))) .nil)))
  (.cons (.asg 4 false [] (.bin .Sub (.con (.int 1000)) (.con (.int 1))))
  (.cons (.forr [5] true [] (.rng (.cons (.var 2) .nil)) (.cons (.asg 3 false [] (.call 183 (.cons (.var 0) (.cons (.var 3) (.cons (.var 4) .nil)))))
  (.cons (.aug 4 .Sub (.bf .len (.cons (.var 3) .nil)))
  .nil)))
  (.cons (.ret [3] (.lc2 (.var 0) (.seq (.var 3)) (.yes (.val (.cmp .Eq (.bf .len (.cons (.var 0) .nil)) (.var 2)))) [2]))
  .nil))))⟩
noncomputable def d4:FD:=⟨2,2,
  (.cons (.ife (.val (.cmp .Lt (.var 1) (.bf .len (.cons (.var 0) .nil)))) (.cons (.ret [] (.ix (.var 0) (.var 1)))
  .nil) .nil)
  (.cons (.ret [] (.con (.int 0)))
  .nil))⟩
noncomputable def d5:FD:=⟨3,2,
  (.cons (.asg 2 false [] (.bin .Mod (.bin .Add (.bin .Add (.bin .Mult (.bin .Mod (.var 0) (.con (.int 2147483647))) (.con (.int 39373))) (.bin .Mult (.bin .Mult (.con (.int 7877)) (.var 1)) (.var 1))) (.con (.int 60493))) (.con (.int 2147483647))))
  (.cons (.asg 2 false [] (.bin .Mod (.bin .Mult (.var 2) (.var 2)) (.con (.int 2147483629))))
  (.cons (.ret [2,1,2] (.bin .Mod (.bin .Mult (.bin .Add (.bin .Mult (.var 2) (.con (.int 48271))) (.var 1)) (.var 2)) (.con (.int 2147483587))))
  .nil)))⟩
noncomputable def d6:FD:=⟨12,3,
  (.cons (.asg 3 false [] (.bin .Add (.con (.int 1)) (.bin .Mod (.var 0) (.var 2))))
  (.cons (.asg 4 false [] (.bin .Add (.con (.int 1)) (.bin .Mod (.bin .FloorDiv (.var 0) (.con (.int 8))) (.var 2))))
  (.cons (.asg 5 false [] (.bin .Add (.con (.int 1)) (.bin .Mod (.bin .FloorDiv (.var 0) (.con (.int 64))) (.con (.int 8)))))
  (.cons (.asg 6 true [] (.lst .nil))
  (.cons (.forr [7] true [] (.rng (.cons (.var 3) .nil)) (.cons (.asg 8 false [] (.con (.str "")))
  (.cons (.forr [9] true [] (.rng (.cons (.var 4) .nil)) (.cons (.asg 10 false [] (.bin .Add (.bin .Mult (.var 4) (.var 7)) (.var 9)))
  (.cons (.asg 11 false [] (.cmp .Eq (.bin .Mod (.bin .FloorDiv (.var 1) (.bin .LShift (.con (.int 1)) (.var 10))) (.con (.int 2))) (.con (.int 1))))
  (.cons (.ife (.val (.cmp .Lt (.var 1) (.bin .LShift (.con (.int 1)) (.con (.int 64))))) (.cons (.asg 11 false [] (.cmp .Lt (.bin .Mod (.call 5 (.cons (.var 1) (.cons (.var 10) .nil))) (.con (.int 8))) (.var 5)))
  .nil) .nil)
  (.cons (.asg 8 false [8] (.bin .Add (.var 8) (.ix (.lst (.cons (.con (.str ".")) (.cons (.con (.str "x")) .nil))) (.bf .int (.cons (.var 11) .nil)))))
  .nil)))))
  (.cons (.app 6 [8] (.var 8))
  .nil))))
  (.cons (.ret [6] (.bf .tuple (.cons (.var 6) .nil)))
  .nil))))))⟩
noncomputable def d7:FD:=⟨4,1,
  (.cons (.asg 1 true [] (.lst .nil))
  (.cons (.forr [2] true [] (.rng (.cons (.bf .len (.cons (.var 0) .nil)) .nil)) (.cons (.forr [3] true [] (.rng (.cons (.bf .len (.cons (.ix (.var 0) (.con (.int 0))) .nil)) .nil)) (.cons (.ife (.val (.cmp .Eq (.ix (.ix (.var 0) (.var 2)) (.var 3)) (.con (.str "x")))) (.cons (.app 1 [2,3] (.tup (.cons (.var 2) (.cons (.var 3) .nil))))
  .nil) .nil)
  .nil))
  .nil))
  (.cons (.ret [1] (.var 1))
  .nil)))⟩
noncomputable def d8:FD:=⟨1,1,
  (.cons (.ret [] (.and (.bf (.isin "int") (.cons (.var 0) .nil)) (.not (.bf (.isin "bool") (.cons (.var 0) .nil)))))
  .nil)⟩
noncomputable def d9:FD:=⟨2,2,
  (.cons (.ife (.val (.cmp .Is (.var 1) (.con .non))) (.cons (.ret [] (.cmp .Is (.var 0) (.con .non)))
  .nil) .nil)
  (.cons (.ife (.val (.bf (.isin "tuple") (.cons (.var 1) .nil))) (.cons (.ret [] (.and (.bf (.isin "tuple") (.cons (.var 0) .nil)) (.and (.cmp .Eq (.bf .len (.cons (.var 0) .nil)) (.bf .len (.cons (.var 1) .nil))) (.call 10 (.cons (.bf .list (.cons (.var 0) .nil)) (.cons (.bf .list (.cons (.var 1) .nil)) .nil))))))
  .nil) .nil)
  (.cons (.ife (.val (.bf (.isin "list") (.cons (.var 1) .nil))) (.cons (.ret [] (.and (.bf (.isin "list") (.cons (.var 0) .nil)) (.and (.cmp .Eq (.bf .len (.cons (.var 0) .nil)) (.bf .len (.cons (.var 1) .nil))) (.call 10 (.cons (.var 0) (.cons (.var 1) .nil))))))
  .nil) .nil)
  (.cons (.ife (.val (.bf (.isin "str") (.cons (.var 1) .nil))) (.cons (.ret [] (.and (.bf (.isin "str") (.cons (.var 0) .nil)) (.cmp .Eq (.var 0) (.var 1))))
  .nil) .nil)
  (.cons (.ret [] (.and (.call 8 (.cons (.var 0) .nil)) (.cmp .Eq (.var 0) (.var 1))))
  .nil)))))⟩
noncomputable def d10:FD:=⟨4,2,
  (.cons (.forr [2,3] false [0,1] (.zip (.var 0) (.var 1)) (.cons (.ife (.not (.val (.call 9 (.cons (.var 2) (.cons (.var 3) .nil))))) (.cons (.ret [] (.con (.bl false)))
  .nil) .nil)
  .nil))
  (.cons (.ret [] (.con (.bl true)))
  .nil))⟩
noncomputable def CT:FD:=⟨5,3,
  (.cons (.asg 3 false [] (.bin .Sub (.ix (.var 2) (.con (.int 0))) (.ix (.var 1) (.con (.int 0)))))
  (.cons (.asg 4 false [] (.bin .Sub (.ix (.var 2) (.con (.int 1))) (.ix (.var 1) (.con (.int 1)))))
  (.cons (.ife (.and (.val (.cmp .NotEq (.var 0) (.con (.str "aslant")))) (.or (.val (.cmp .Eq (.var 3) (.con (.int 0)))) (.val (.cmp .Eq (.var 4) (.con (.int 0)))))) (.cons (.ret [] (.con (.bl true)))
  .nil) .nil)
  (.cons (.ret [] (.and (.cmp .NotEq (.var 0) (.con (.str "straight"))) (.or (.cmp .Eq (.var 3) (.var 4)) (.cmp .Eq (.var 3) (.bin .Sub (.con (.int 0)) (.var 4))))))
  .nil))))⟩
noncomputable def wO:FD:=⟨1,1,
  (.cons (.ret [] (.ix (.lst (.cons (.con (.str "straight")) (.cons (.con (.str "aslant")) (.cons (.con (.str "all")) .nil)))) (.bin .Mod (.var 0) (.con (.int 3)))))
  .nil)⟩
noncomputable def ym:FD:=⟨9,4,
  (.cons (.asg 4 false [] (.lst (.cons (.tup .nil) .nil)))
  (.cons (.forr [5] true [1] (.rvd (.var 1)) (.cons (.asg 6 true [5] (.lst (.cons (.tup (.cons (.var 5) .nil)) .nil)))
  (.cons (.forr [7] true [] (.seq (.sl (.var 4) (.yes (.con (.int 1))) .no)) (.cons (.asg 8 false [] (.lc (.var 0) (.seq (.var 7)) (.yes (.val (.call 186 (.cons (.var 1) (.cons (.var 2) (.cons (.var 0) .nil)))))) [0,5]))
  (.cons (.ife (.and (.val (.cmp .Lt (.bf .len (.cons (.var 7) .nil)) (.var 2))) (.val (.cmp .Eq (.var 8) (.lst .nil)))) (.cons (.app 6 [] (.bin .Add (.tup (.cons (.var 5) .nil)) (.var 7)))
  .nil) .nil)
  .nil)))
  (.cons (.ife (.val (.cmp .Gt (.var 2) (.con (.int 0)))) (.cons (.asg 4 false [4] (.bin .Add (.var 4) (.var 6)))
  .nil) .nil)
  (.cons (.ife (.val (.cmp .Gt (.bf .len (.cons (.var 4) .nil)) (.var 3))) (.cons (.ret [] (.con .non))
  .nil) .nil)
  .nil)))))
  (.cons (.ret [4] (.var 4))
  .nil)))⟩
noncomputable def yk:FD:=⟨6,3,
  (.cons (.drop (.call 20008 (.cons (.con .non) .nil))) (.cons (.hand 3 uv) .nil))⟩
noncomputable def CS:FD:=⟨6,3,
  (.cons (.asg 3 false [] (.call 188 (.cons (.var 0) (.cons (.call 7 (.cons (.var 1) .nil)) (.cons (.var 2) (.cons (.con (.int 1000)) .nil))))))
  (.cons (.ife (.val (.cmp .Is (.var 3) (.con .non))) (.cons (.ret [] (.call 189 (.cons (.var 0) (.cons (.var 1) (.cons (.var 2) .nil)))))
  .nil) .nil)
  (.cons (.asg 4 false [] (.bf .sorted (.cons (.lc (.var 0) (.seq (.var 3)) (.yes (.val (.cmp .Eq (.bf .len (.cons (.var 0) .nil)) (.var 1)))) [2]) .nil)))
  (.cons (.asg 5 true [] (.call 184 (.cons (.var 0) (.cons (.var 1) (.cons (.var 2) .nil)))))
  (.cons (.ife (.not (.val (.call 9 (.cons (.var 5) (.cons (.var 4) .nil))))) (.cons (.ret [] (.con (.bl false)))
  .nil) .nil)
  (.cons (.app 5 [] (.tup .nil))
  (.cons (.ret [] (.call 9 (.cons (.call 184 (.cons (.var 0) (.cons (.var 1) (.cons (.var 2) .nil)))) (.cons (.var 4) .nil))))
  .nil)))))))⟩
noncomputable def CQ:FD:=⟨4,1,
  (.cons (.forr [1] true [] (.rng (.cons (.con (.int 0)) (.cons (.bf .min (.cons (.bf .max (.cons (.bf .len (.cons (.var 0) .nil)) (.cons (.con (.int 1)) .nil))) (.cons (.con (.int 6)) .nil))) (.cons (.con (.int 3)) .nil)))) (.cons (.asg 2 false [] (.call 6 (.cons (.call 4 (.cons (.var 0) (.cons (.var 1) .nil))) (.cons (.call 4 (.cons (.var 0) (.cons (.bin .Add (.var 1) (.con (.int 1))) .nil))) (.cons (.con (.int 6)) .nil)))))
  (.cons (.asg 3 false [] (.call 4 (.cons (.var 0) (.cons (.bin .Add (.var 1) (.con (.int 2))) .nil))))
  (.cons (.ife (.not (.val (.call 193 (.cons (.call 187 (.cons (.var 3) .nil)) (.cons (.var 2) (.cons (.bin .Mod (.bin .FloorDiv (.var 3) (.con (.int 3))) (.con (.int 9))) .nil)))))) (.cons (.ret [] (.con (.bl false)))
  .nil) .nil)
  .nil))))
  (.cons (.ret [] (.call 9 (.cons (.call 184 (.cons (.con (.str "all")) (.cons (.tup (.cons (.con (.str "xx")) (.cons (.con (.str "xx")) .nil))) (.cons (.con (.int 2)) .nil)))) (.cons (.lst .nil) .nil))))
  .nil))⟩
noncomputable def P:Nat->Option FD:=fun n=>match n with
 | 3=>some d3
 | 4=>some d4
 | 5=>some d5
 | 6=>some d6
 | 7=>some d7
 | 8=>some d8
 | 9=>some d9
 | 10=>some d10
 | 129=>some CY
 | 130=>some CW
 | 131=>some CV
 | 182=>some CU
 | 183=>some wQ
 | 184=>some wP
 | 186=>some CT
 | 187=>some wO
 | 188=>some ym
 | 189=>some yk
 | 193=>some CS
 | 194=>some CQ
 | 20000=>some ⟨1,1,.cons (.ret [] (.con .non)) .nil⟩
 | 20001=>some ⟨1,1,.cons (.ret [] (.call 20000 (.cons (.con .non) .nil))) .nil⟩
 | 20002=>some ⟨1,1,.cons (.ret [] (.call 20001 (.cons (.con .non) .nil))) .nil⟩
 | 20003=>some ⟨1,1,.cons (.ret [] (.call 20002 (.cons (.con .non) .nil))) .nil⟩
 | 20004=>some ⟨1,1,.cons (.ret [] (.call 20003 (.cons (.con .non) .nil))) .nil⟩
 | 20005=>some ⟨1,1,.cons (.ret [] (.call 20004 (.cons (.con .non) .nil))) .nil⟩
 | 20006=>some ⟨1,1,.cons (.ret [] (.call 20005 (.cons (.con .non) .nil))) .nil⟩
 | 20007=>some ⟨1,1,.cons (.ret [] (.call 20006 (.cons (.con .non) .nil))) .nil⟩
 | 20008=>some ⟨1,1,.cons (.ret [] (.call 20007 (.cons (.con .non) .nil))) .nil⟩
 | _=>none
end Law
namespace Law
open PySem IR L2
local macro_rules | `(tactic| walk_at "ev") => do
  let ids <- ("sc Option.bind_some Option.map_some Option.bind_none List.length_cons List.length_nil if_true if_false Nat.reduceAdd Nat.reduceSub List.map_cons List.map_nil List.replicate List.append_nil List.cons_append List.nil_append imm imms bn wD CJ CG CH CK CI CM List.getD_cons_zero List.getD_cons_succ at_0 at_1 xL dH cx dN dJ dP dB dC dM dO dD cy dG cz dF dE AL AM z0z z16 uD uF uG uE AN w6 xA w5 xB w9 cE xI xH vp vo yS yQ yg B7 B9 B8 gX eG jT lO ya rT v4 zB yy y7 y9 y8 yz zA Cc Cd yt yq yp List.set_cons_zero List.set_cons_succ Ep A3 A4 lj xM uR wd xT xS Co zD zC wm wn tw B1 Bz Cm Cn Cp wk Ee Ao ix_L ix_T ix_O ix_S eA cJ Ac AZ Ad Ae Aa Ab p7 p9 p6 p8 p5 eq_self decide_true decide_false oD mR oC oB mQ mO mP kP kN kO kM reduceCtorEq bne_self_eq_false beq_self_eq_true Bool.true_bne Bool.bne_true Bool.false_bne Bool.bne_false LN Nat.reduceLeDiff Nat.reduceLT Nat.reducePow Int.reduceLT Int.reduceLE Int.reducePow Int.reduceNeg Int.natAbs_one and_self true_and and_true or_true true_or reduceIte Bool.not_true Bool.not_false Bool.and_true Bool.or_true Bool.or_false Bool.true_or Bool.false_or Bool.true_and Bool.and_false Bool.false_and Bool.false_eq_true keeps kK iY List.getElem?_cons_zero List.getElem?_cons_succ".splitOn " ").toArray.mapM fun s => do
   let i := Lean.mkIdent s.toName
   `(Lean.Parser.Tactic.simpLemma| $i:ident)
  `(tactic| (try simp -implicitDefEqProofs only [$ids,*]))
local macro_rules | `(tactic| walk_at "go") => `(tactic| (walk_at "ev"; repeat (rw [Gu (by first | omega | assumption | decide)]; walk_at "ev")))
theorem c4(k:Nat)(ns:List Int)(j:Nat):aG P (k+1) 4 [.lst (ns.map .int),.int j]=some (.int (ns.getD j 0)):=by
 refine run rfl rfl ?_;simp only[d4,entry];walk_at "ev"
 by_cases h:j<ns.length
 ·have h1:(j:Int)<((ns.map PV.int).length:Nat):=by rw[Go];omega
  have h2:ed (ns.map PV.int) (j:Int)=some (.int ns[j]):=eZ (by rw[HG,HA h];rfl);simp only[h1,decide_true,JY,h2];walk_at "ev";simp[h]
 ·have h1:¬(j:Int)<((ns.map PV.int).length:Nat):=by rw[Go];omega
  simp only[h1,decide_false];walk_at "ev";simp[h]
theorem c5(k:Nat)(c j:Int)(h0:0<=j)(h1:j<=1000000):∃r:Int,0<=r/\r<2147483587/\aG P (k+1) 5 [.int c,.int j]=some (.int r):=by
 obtain⟨v,h,r,h2,h3,rfl⟩:∃v,aG P (k+1) 5 [.int c,.int j]=some v/\∃r:Int,0<=r/\r<2147483587/\v=.int r:=by
  refine zZ rfl rfl ?_;simp only[d5,entry];walk_at "go";exact⟨_,rfl,_,Int.emod_nonneg _ (by decide),Int.emod_lt_of_pos _ (by decide),rfl⟩
 exact⟨r,h2,h3,h⟩
noncomputable def ol(z:Str)(n:Nat):Prop:=z.length=n/\∀c∈z.cps.toList,c=120\/c=46
theorem ol.more{z:Str}{n:Nat}(h:ol z n){y:Str}(hy:y=("x":Str)\/y=(".":Str)):ol (z++y) (n+1):=by
 refine⟨?_,fun c hc=> ?_⟩
 ·rw[PySem.Str.length_append,h.1]
  rcases hy with rfl|rfl<;>rfl
 ·rw[PySem.Str.cps_append,Hm,Hr]at hc
  rcases hc with hc|hc
  ·exact h.2 c hc
  ·rcases hy with rfl|rfl
   ·have:c∈[120]:=hc
    simp at this;exact .inl this
   ·have:c∈[46]:=hc
    simp at this;exact .inr this
noncomputable def pick(b:Bool):Str:=if b then "x" else "."
theorem xu(b:Bool):ed [PV.str ".",PV.str "x"] (if b then 1 else 0)=some (.str (pick b)):=by cases b<;>rfl
theorem vD(b:Bool):(pick b).length=1:=by cases b<;>rfl
theorem sf(b:Bool):pick b=("x":Str)\/pick b=(".":Str):=by cases b;exact .inr rfl;exact .inl rfl
theorem A9{j:Int}(h0:0<=j)(h1:j<=100):(0:Int)<1*2^j.toNat/\(1:Int)*2^j.toNat<2^200:=by
 have hp:(0:Int)<2^j.toNat:=Int.pow_pos (by decide);refine⟨by omega,?_⟩;have h2:(2:Nat)^j.toNat<2^200:=Nat.pow_lt_pow_right (by decide) (by omega);rw[Int.one_mul]
 exact_mod_cast h2
noncomputable abbrev bI1(x c R C TH:Int)(m i:Nat)(τ:En):Prop:=∃(rs:List Str)(a b d e g:TV),τ=[.frz (.int x) true,.frz (.int c) true,.frz (.int m) true,.frz (.int R) true,.frz (.int C) true,.frz (.int TH) true,.own (rs.map .str) true,a,b,d,e,g]/\rs.length=i/\∀r∈rs,ol r C.toNat
noncomputable abbrev bI2(x c R C TH:Int)(m:Nat)(rs:List Str)(i:Int)(j:Nat)(τ:En):Prop:=∃(z:Str)(d e g:TV),τ=[.frz (.int x) true,.frz (.int c) true,.frz (.int m) true,.frz (.int R) true,.frz (.int C) true,.frz (.int TH) true,.own (rs.map .str) true,.frz (.int i) true,.frz (.str z) true,d,e,g]/\ol z j
theorem c6(k:Nat)(x c:Int)(m:Nat)(m1:1<=m)(m8:m<=8):∃v,aG P (k+2) 6 [.int x,.int c,.int m]=some v/\∃rows:List Str,UM.Gj m rows/\v=.tup (rows.map .str):=by
 have r1:0<=x%(m:Int):=Int.emod_nonneg _ (by omega);have r2:x%(m:Int)<m:=Int.emod_lt_of_pos _ (by omega);have q1:0<=x/8%(m:Int):=Int.emod_nonneg _ (by omega);have q2:x/8%(m:Int)<m:=Int.emod_lt_of_pos _ (by omega);have hm:(0:Int)<m:=by omega
 refine zZ rfl rfl ?_;simp only[d6,entry];walk_at "go";obtain⟨R,hR⟩:∃R,R=1+x%(m:Int):=⟨_,rfl⟩;obtain⟨C,hC⟩:∃C,C=1+x/8%(m:Int):=⟨_,rfl⟩;obtain⟨TH,hT⟩:∃TH,TH=1+x/64%8:=⟨_,rfl⟩;rw[<- hR,<-hC,<-hT];refine cH (xs:=(List.range R.toNat).map fun i=>.int (0+(i:Nat))) (n:=true) ?_ (bI1 x c R C TH m) ?_ ?_ ?_
 ·walk_at "ev"
  simp only[iW,cE];rw[Gu ⟨by omega,by omega⟩];rfl
 ·exact⟨[],.un,.un,.un,.un,.un,rfl,rfl,fun r hr=>by cases hr⟩
 ·rintro i y τ hy ⟨rs,a,b,d,e,g,rfl,hl,hsg⟩
  obtain⟨hi,rfl⟩:=ff hy;refine⟨_,rfl,?_⟩;walk_at "ev";refine cH (xs:=(List.range C.toNat).map fun i=>.int (0+(i:Nat))) (n:=true) ?_ (bI2 x c R C TH m rs i) ?_ ?_ ?_
  ·walk_at "ev"
   simp only[iW,cE];rw[Gu ⟨by omega,by omega⟩];rfl
  ·exact⟨_,d,e,g,rfl,rfl,fun c hc=>by cases hc⟩
  ·rintro j y τ hy ⟨z,d,e,g,rfl,hz⟩
   obtain⟨hj,rfl⟩:=ff hy;refine⟨_,rfl,?_⟩;have hp:0<=C*(i:Int)+(j:Int)/\C*(i:Int)+(j:Int)<=100:=by
    have e1:(0:Int)<=C*(i:Int):=Int.mul_nonneg (by omega) (by omega);have e2:C*(i:Int)<=8*8:=Int.mul_le_mul (by omega) (by omega) (by omega) (by omega);omega
   have hz1:=hz.1;have hzL:∀b,z.length+(pick b).length<=LN:=fun b=>by rw[vD];show z.length+1<=16777216;omega
   have hp2:=A9 hp.1 hp.2;walk_at "go"
   have fin:∀(b:Bool)(τ:En),τ=[.frz (.int x) true,.frz (.int c) true,.frz (.int m) true,.frz (.int R) true,.frz (.int C) true,.frz (.int TH) true,.own (rs.map .str) true,.frz (.int i) true,.frz (.str z) true,.frz (.int j) true,.frz (.int (C*(i:Int)+(j:Int))) true,.frz (.bl b) true] ->
     To (bD (aG P (k+1)) 1000000 (.cons (.asg 8 false [] (.bin .Add (.var 8) (.ix (.lst (.cons (.con (.str ".")) (.cons (.con (.str "x")) .nil))) (.bf .int (.cons (.var 11) .nil))))) .nil) τ) fun f=>match f with
      | .nx τ2=>bI2 x c R C TH m rs i (j+1) τ2
      | _=>False:=by
    rintro b τ rfl;have:=hzL b;walk_at "go";rw[xu];walk_at "go";exact⟨_,_,_,_,rfl,hz.more (sf b)⟩
   split
   ·obtain⟨q,b1,b2,e5⟩:=c5 k c (C*(i:Int)+(j:Int)) hp.1 (by omega)
    walk_at "ev";rw[e5];walk_at "go";refine(fin _ _ rfl).imp fun f h=> ?_;cases f<;>first|exact h|exact h.elim
   ·walk_at "ev"
    refine(fin _ _ rfl).imp fun f h=> ?_;cases f<;>first|exact h|exact h.elim
  ·rintro τ ⟨z,d,e,g,rfl,hz⟩
   rw[ik]at hz;walk_at "ev";rw[eC rfl (by rw[Go];show rs.length<16777216;omega)];walk_at "ev";refine⟨rs++[z],_,_,_,_,_,by rw[Hx];rfl,by rw[G6,hl];rfl,fun r hr=> ?_⟩
   rcases Hr.mp hr with h|h
   ·exact hsg r h
   ·have e' :r=z:=by simpa using h
    rw[e'];exact hz
 ·rintro τ ⟨rs,a,b,d,e,g,rfl,hl,hsg⟩
  rw[ik]at hl;walk_at "ev";refine⟨_,rfl,rs,⟨?_,by omega,⟨C.toNat,by omega,by omega,fun r hr=>(hsg r hr).1⟩,fun r hr=>(hsg r hr).2⟩,rfl⟩;intro z;rw[z]at hl;simp at hl;omega
theorem c8(k:Nat)(i:Int):aG P (k+1) 8 [.int i]=some (.bl true):=by
 refine run rfl rfl ?_;simp only[d8,entry];walk_at "ev"
noncomputable def plain:PV->Bool
 | .non=>true| .int _=>true| .str _=>true
 | .lst xs=>plains xs
 | .tup xs=>plains xs
 | _=>false
where plains:List PV->Bool
 | []=>true
 | x::xs=>plain x&&plains xs
noncomputable def depth:PV->Nat
 | .lst xs=>depths xs+1
 | .tup xs=>depths xs+1
 | _=>1
where depths:List PV->Nat
 | []=>0
 | x::xs=>max (depth x) (depths xs)
theorem jH:∀{xs:List PV}{x:PV},plain.plains xs=true->x∈xs->plain x=true
 | [],_,_,h=>by cases h
 | y::ys,x,h,hx=>by
  rw[plain.plains,Gv]at h
  rcases HE.mp hx with rfl|hx
  ·exact h.1
  ·exact jH h.2 hx
theorem jb:∀{xs:List PV}{x:PV},x∈xs->depth x<=depth.depths xs
 | [],_,h=>by cases h
 | y::ys,x,hx=>by
  rw[depth.depths]
  rcases HE.mp hx with rfl|hx
  ·exact Nat.le_max_left _ _
  ·exact HP (jb hx) (Nat.le_max_right _ _)
theorem c10(k:Nat)(xs:List PV)(h:∀x∈xs,aG P k 9 [x,x]=some (.bl true)):aG P (k+1) 10 [.lst xs,.lst xs]=some (.bl true):=by
 refine br rfl rfl ?_;simp only[d10,entry];walk_at "ev";refine cH (xs:=List.zipWith qx xs xs) (n:=false) ?_ (fun i τ=>∃a b,τ=[.frz (.lst xs) false,.frz (.lst xs) false,a,b]) ⟨_,_,rfl⟩ ?_ ?_
 ·walk_at "ev"
  simp only[uC,nr,JY,Iz];rfl
 ·rintro i y τ hy ⟨a,b,rfl⟩
  rw[Ir]at hy;cases e:xs[i]? with
  | none=>rw[e]at hy;cases hy
  | some x =>
   rw[e]at hy;cases hy;refine⟨_,rfl,?_⟩;walk_at "ev";rw[h x (IN e)];walk_at "ev";exact⟨_,_,rfl⟩
 ·rintro τ ⟨a,b,rfl⟩
  walk_at "ev"
theorem c9(n k:Nat)(v:PV)(hd:depth v<=n)(hp:plain v=true):aG P (2*n+k) 9 [v,v]=some (.bl true):=by
 induction n generalizing v with
 | zero =>
  cases v with
  | non=>(simp[depth]at hd)
  | bl b=>cases hp
  | int i=>(simp[depth]at hd)
  | str z=>(simp[depth]at hd)
  | lst xs=>(simp[depth]at hd)
  | tup xs=>(simp[depth]at hd)
  | dK _ _=>cases hp
  | dT _ _=>cases hp
 | succ n ih =>
  have e:2*(n+1)+k=(2*n+k+1)+1:=by omega
  rw[e];have inner:∀xs:List PV,depth.depths xs<=n->plain.plains xs=true->aG P (2*n+k+1) 10 [.lst xs,.lst xs]=some (.bl true):=fun xs h1 h2=>c10 _ xs fun x hx=>ih x (HP (jb hx) h1) (jH h2 hx);refine run rfl rfl ?_;cases v with
  | non =>
   simp only[d9,entry];walk_at "ev"
  | bl b=>cases hp
  | int i =>
   simp only[d9,entry];walk_at "ev";rw[c8];walk_at "ev"
  | str z =>
   simp only[d9,entry];walk_at "ev"
  | lst xs =>
   simp only[d9,entry];walk_at "ev";rw[inner xs (by simpa [depth]using hd) (by simpa [plain]using hp)];walk_at "ev"
  | tup xs =>
   simp only[d9,entry];walk_at "ev";rw[inner xs (by simpa [depth]using hd) (by simpa [plain]using hp)];walk_at "ev"
  | dK _ _=>cases hp
  | dT _ _=>cases hp
noncomputable def aV(i j:Nat):PV:=.tup [.int (i:Nat),.int (j:Nat)]
noncomputable def fH(rows:List Str)(i j:Nat):List PV:=((List.range j).filter fun c=>cd rows i c==120).map fun c=>aV i c
noncomputable def fQ(rows:List Str)(w i:Nat):List PV:=(List.range i).flatMap fun r=>fH rows r w
theorem lC(rows:List Str)(i j:Nat):fH rows i (j+1)=fH rows i j++(if cd rows i j==120 then[aV i j]else[]):=by
 unfold fH;rw[List.range_succ,List.filter_append,Hx];cases h:cd rows i j==120<;>simp[h]
theorem gj(rows:List Str)(w i:Nat):fQ rows w (i+1)=fQ rows w i++fH rows i w:=by
 unfold fQ;rw[List.range_succ,List.flatMap_append];simp
theorem jG(rows:List Str)(i j:Nat):(fH rows i j).length<=j:=by
 unfold fH;rw[Go];exact HP (JI _ _) (by rw[Ht];exact Gr _)
theorem jh(rows:List Str)(w:Nat):∀i,(fQ rows w i).length<=i*w
 | 0=>by simp[fQ]
 | i+1=>by
  rw[gj,G6,Nat.succ_mul];have:=jh rows w i;have:=jG rows i w;omega
theorem uP{rows:List Str}{i:Nat}{z:Str}(h:rows[i]? =some z):ed (rows.map PV.str) (i:Int)=some (.str z):=eZ (by rw[HG,h];rfl)
theorem c7(k:Nat)(rows:List Str)(w:Nat)(hw:Wd rows w)(h0:rows≠[])(h8:rows.length<=8)(w8:w<=8):aG P (k+1) 7 [.tup (rows.map .str)]=some (.lst (fQ rows w rows.length)):=by
 refine br rfl rfl ?_;have im:=vx rows;have ims:=bt rows;simp only[d7,entry];walk_at "go";obtain⟨z0,hz0⟩:∃z,rows[0]? =some z:=by
  cases rows with
  | nil=>exact absurd rfl h0
  | cons z r=>exact⟨z,rfl⟩
 have l0:z0.length=w:=hw z0 (IN hz0);have a0:ed (rows.map PV.str) 0=some (.str z0):=uP (i:=0) hz0;rw[ims];refine cH (xs:=(List.range rows.length).map fun i=>.int (0+(i:Nat))) (n:=true) ?_ (fun i τ=>∃a b,τ=[.frz (.tup (rows.map .str)) true,.own (fQ rows w i) true,a,b]) ⟨_,_,rfl⟩ ?_ ?_
 ·walk_at "ev"
  simp only[iW,cE,Go];rw[Gu ⟨by omega,by omega⟩];rfl
 ·rintro i y τ hy ⟨a,b,rfl⟩
  obtain⟨hi,rfl⟩:=ff hy;refine⟨_,rfl,?_⟩;walk_at "ev";refine cH (xs:=(List.range w).map fun i=>.int (0+(i:Nat))) (n:=true) ?_ (fun j τ=>∃b,τ=[.frz (.tup (rows.map .str)) true,.own (fQ rows w i++fH rows i j) true,.frz (.int i) true,b]) ⟨b,by simp[fH,jT]⟩ ?_ ?_
  ·walk_at "ev"
   rw[a0];walk_at "ev";rw[len_str,Gu (by rw[l0];show w<=16777216;omega)];walk_at "ev";simp only[iW,cE,l0];rw[Gu ⟨by omega,by omega⟩];rfl
  ·rintro j y τ hy ⟨b,rfl⟩
   obtain⟨hj,rfl⟩:=ff hy;refine⟨_,rfl,?_⟩;obtain⟨z,g1,g2,g3⟩:=AD hw hi hj;walk_at "ev";rw[uP g1];walk_at "ev";rw[Gu (by rw[g3];show w<=16777216;omega),eZ g2];walk_at "ev";rw[wY];have hlen:(fQ rows w i++fH rows i j).length<LN:=by
    rw[G6];have e1:=jh rows w i;have e2:=jG rows i j;have e3:i*w<=8*8:=Nat.mul_le_mul (by omega) w8;show _<16777216;omega
   have rs:=lC rows i j;cases hc:cd rows i j==120 with
   | true =>
    rw[hc]at rs;walk_at "go";rw[eC rfl hlen];walk_at "ev";exact⟨.frz (.int j) true,by rw[rs];simp[aV]⟩
   | false =>
    rw[hc]at rs;walk_at "ev";exact⟨.frz (.int j) true,by rw[rs];simp⟩
  ·rintro τ ⟨b,rfl⟩
   rw[ik];walk_at "ev";exact⟨_,_,by rw[gj]⟩
 ·rintro τ ⟨a,b,rfl⟩
  rw[ik];walk_at "ev"
theorem fP(rows:List Str)(w:Nat)(hw:Wd rows w):fQ rows w rows.length=(aC rows).map fun c=>aV c.1 c.2:=by
 have key:∀(l:List Str)(i:Nat)(pre:List Str),pre.length=i->rows=pre++l->((List.range l.length).map (i+·)).flatMap (fun r=>fH rows r w)=(bX i (l.map oW)).map fun c=>aV c.1 c.2:=by
  intro l
  induction l with
  | nil=>intro i pre _ _;rfl
  | cons z l ih =>
   intro i pre hp hr;have hz:rows[i]? =some z:=by rw[hr,JG (by omega),hp,Nat.sub_self];rfl
   have hzl:z.length=w:=hw z (IN hz);rw[HC,List.range_succ_eq_map,HW,List.flatMap_cons,Iu,HW,bX,Hx]
   congr 1
   ·unfold fH qk oW
    rw[Iu,Nat.add_zero,hzl];have e:∀c,cd rows i c=z.cps.toList.getD c 0:=fun c=>by
     have g:rows.getD i ⟨#[]⟩=z:=by rw[Hb,hz];rfl
     unfold cd;rw[g]
    have e2:(fun c=>cd rows i c==120)=fun c=>z.cps.toList.getD c 0==120:=by funext c;rw[e]
    rw[e2];rfl
   ·have:=ih (i+1) (pre++[z]) (by simp[hp]) (by rw[hr];simp)
    rw[<- this]
    congr 1
    refine Hw fun x _=> ?_;show i+(x+1)=i+1+x;omega
 have:=key rows 0 [] rfl rfl;unfold aC;rw[<- this];unfold fQ;simp
theorem Aw{rows:List Str}{i:Nat}{x:PV}(hx:(rows.map PV.str)[i]? =some x):∃z,rows[i]? =some z/\z∈rows/\x=.str z:=by
 rw[HG]at hx;cases e:rows[i]? with
 | none=>rw[e]at hx;cases hx
 | some z =>
  rw[e]at hx;exact⟨z,rfl,IN e,(HM hx).symm⟩
theorem c3(k:Nat)(rows:List Str)(w:Nat)(hw:Wd rows w)(h8:rows.length<=8)(w8:w<=8):aG P (k+1) 3 [.tup (rows.map .str)]=some (.lst (fQ rows w rows.length)):=by
 refine br rfl rfl ?_;have ims:=bt rows;simp only[d3,entry];walk_at "go";rw[ims];refine cH (xs:=List.zipWith dk (List.range (rows.map PV.str).length) (rows.map PV.str)) (n:=true) ?_ (fun i τ=>∃a b c d,τ=[.frz (.tup (rows.map .str)) true,.own (fQ rows w i) true,a,b,c,d]) ⟨_,_,_,_,rfl⟩ ?_ ?_
 ·walk_at "ev"
  rfl
 ·rintro i y τ hy ⟨a,b,c,d,rfl⟩
  obtain⟨y,hy2,rfl⟩:=rg hy;obtain⟨z,hz,hm,rfl⟩:=Aw hy2;refine⟨_,rfl,?_⟩;have hi:i<rows.length:=(G9.mp hz).1;have hzl:z.length=w:=hw z hm;walk_at "ev";have hsl:(signs z).length=w:=by rw[eT];exact hzl
  refine cH (xs:=List.zipWith dk (List.range (signs z).length) (signs z)) (n:=true) ?_ (fun j τ=>∃c d,τ=[.frz (.tup (rows.map .str)) true,.own (fQ rows w i++fH rows i j) true,.frz (.int i) true,.frz (.str z) true,c,d]) ⟨c,d,by simp[fH,jT,lO,v4,rT]⟩ ?_ ?_
  ·walk_at "ev"
   simp only[lP,Iz];rw[hsl,hzl]
  ·rintro j y τ hy ⟨c,d,rfl⟩
   obtain⟨y,hy1,rfl⟩:=rg hy;have hj:j<w:=by
    have:=(G9.mp hy1).1;omega
   obtain⟨z',g1,g2,g3⟩:=AD hw hi hj;rw[hz]at g1;cases g1;have hy2:(signs z)[j]? =some (.str ⟨#[cd rows i j]⟩):=by
    unfold signs;rw[HG,g2];rfl
   rw[hy2]at hy1;cases hy1;refine⟨_,rfl,?_⟩;walk_at "ev";rw[wY];have hlen:(fQ rows w i++fH rows i j).length<LN:=by
    rw[G6];have e1:=jh rows w i;have e2:=jG rows i j;have e3:i*w<=8*8:=Nat.mul_le_mul (by omega) w8;show _<16777216;omega
   have rs:=lC rows i j;cases hc:cd rows i j==120 with
   | true =>
    rw[hc]at rs;walk_at "go";rw[eC rfl hlen];walk_at "ev";exact⟨.frz (.int j) true,.frz (.str ⟨#[cd rows i j]⟩) true,by rw[rs];simp[aV]⟩
   | false =>
    rw[hc]at rs;walk_at "ev";exact⟨.frz (.int j) true,.frz (.str ⟨#[cd rows i j]⟩) true,by rw[rs];simp⟩
  ·rintro τ ⟨c,d,rfl⟩
   rw[oQ,hsl];walk_at "ev";exact⟨_,_,_,_,by rw[gj]⟩
 ·rintro τ ⟨a,b,c,d,rfl⟩
  rw[oQ,Go];walk_at "ev"
noncomputable def xg(a b:Int):PV:=.tup [.int a,.int b]
theorem GG(k:Nat)(a b c d:Int):aG P (k+1) 129 [xg a b,xg c d]=some (.bl (decide (a=c)||decide (b=d))):=by
 refine br rfl rfl ?_;simp only[CY,entry,xg];walk_at "ev"
 by_cases h:a=c
 ·rw[Hy h]
  walk_at "ev"
 ·rw[HS h]
  walk_at "ev"
theorem GF(k:Nat)(a b c d:Int):aG P (k+1) 130 [xg a b,xg c d]=some (.bl (aslt a b c d)):=by
 refine br rfl rfl ?_;simp only[CW,entry,xg];walk_at "ev";rfl
theorem c131(k j:Nat)(a b c d:Int):aG P (k+2) 131 [.str (aI j),xg a b,xg c d]=some (.bl (stk j a b c d)):=by
 refine br rfl rfl ?_;simp only[CV,entry];unfold aI stk
 by_cases h0:j=0
 ·subst h0
  simp only[JY];walk_at "ev";rw[GG];walk_at "ev"
 ·rw[Gq h0,Gq h0]
  by_cases h1:j=1
  ·subst h1
   simp only[JY];walk_at "ev";rw[show decide ((Str.ofString "aslant")=(Str.ofString "straight"))=false from by decide];walk_at "ev";rw[GF];walk_at "ev"
  ·rw[Gq h1,Gq h1]
   walk_at "ev";rw[show decide ((Str.ofString "all")=(Str.ofString "straight"))=false from by decide];walk_at "ev";rw[show decide ((Str.ofString "all")=(Str.ofString "aslant"))=false from by decide];walk_at "ev";rw[GG];walk_at "ev";cases h:(decide (a=c)||decide (b=d))
   ·walk_at "ev"
    rw[GF];walk_at "ev"
   ·walk_at "ev"
noncomputable def aE(l:List aF):List PV:=l.map fun c=>aV c.1 c.2
theorem bi(l:List aF):imms (aE l)=true:=oI (fun _=>rfl) l
theorem c182(k j:Nat)(c:aF)(l:List aF)(hl:l.length<=1000):aG P (k+3) 182 [.str (aI j),aV c.1 c.2,.lst (aE l)]=some (.lst (aE (l.filter fun x=> !SK j c x))):=by
 refine br rfl rfl ?_;simp only[CU,entry];walk_at "ev";unfold aE;rw[Gu (by rw[Go];omega)];rw[cq (p:=fun y=> !SK j c y) (g:=fun c:aF=>aV c.1 c.2) (fun y hy=>by
  have e:=c131 k j (c.1:Nat) (c.2:Nat) (y.1:Nat) (y.2:Nat);unfold xg at e;unfold aV;walk_at "ev";rw[e];walk_at "ev";unfold SK;cases stk j (c.1:Nat) (c.2:Nat) (y.1:Nat) (y.2:Nat)
  ·walk_at "ev"
  ·walk_at "ev")]
 walk_at "ev"
noncomputable def fh(p:List aF):PV:=.tup (aE p)
noncomputable def dQ(x:List aF×List aF):PV:=.tup [fh x.1,.lst (aE x.2)]
noncomputable def rD(lev:List (List aF×List aF)):PV:=.lst (lev.map dQ)
theorem iz(j:Nat)(p:List aF):∀l:List aF,(ext (SK j) p l).length=l.length
 | []=>rfl
 | c::l=>by
  show(ext (SK j) p l).length+1=_;rw[iz j p l];rfl
theorem wC(j:Nat)(p:List aF):∀(l:List aF)(m:Nat)(c:aF),l[m]? =some c->(ext (SK j) p l)[m]? =some (p++[c],(l.drop (m+1)).filter fun x=> !SK j c x)
 | a::l,0,c,h=>by
  have h:some a=some c:=by simpa using h
  cases h;rfl
 | a::l,m+1,c,h=>by
  have h:l[m]? =some c:=by simpa using h
  show(ext (SK j) p l)[m]? =_;rw[wC j p l m c h];rfl
theorem ii{α:Type}{l:List α}{m:Nat}{x:α}(h:l[m]? =some x):l.take (m+1)=l.take m++[x]:=by
 rw[List.take_add_one,h];rfl
theorem qb(j:Nat)(lev:List (List aF×List aF))(i:Nat)(x:List aF×List aF)(h:lev[i]? =some x):up (SK j) (lev.take (i+1))=up (SK j) (lev.take i)++ext (SK j) x.1 x.2:=by
 rw[ii h];unfold up;rw[List.flatMap_append];simp
theorem vb{lev:List (List aF×List aF)}{i:Nat}{y:PV}(h:(lev.map dQ)[i]? =some y):∃x,lev[i]? =some x/\y=dQ x:=by
 rw[HG]at h;obtain⟨x,hx,rfl⟩:=map_some h;exact⟨x,hx,rfl⟩
theorem yG{l:List aF}{m:Nat}{y:PV}(h:(List.zipWith dk (List.range (aE l).length) (aE l))[m]? =some y):∃c,l[m]? =some c/\y=.tup [.int (m:Nat),aV c.1 c.2]:=by
 rw[Ir]at h;cases hm:l[m]? with
 | none =>
  have:(aE l)[m]? =none:=by unfold aE;rw[HG,hm];rfl
  rw[this]at h
  generalize (List.range (aE l).length)[m]? =o at h
  cases o<;>cases h
 | some c =>
  have e:(aE l)[m]? =some (aV c.1 c.2):=by unfold aE;rw[HG,hm];rfl
  have hl:m<(aE l).length:=(G9.mp e).1;rw[e,II hl]at h;exact⟨c,rfl,(HM h).symm⟩
theorem zj{o:Option Fl}{τ:En}(h:To (o.bind fun f=>eh f fun τ=>some (.nx τ)) (fun f=>f=.nx τ)):o=some (.nx τ):=by
 obtain⟨f,h1,h2⟩:=h;subst h2;cases o with
 | none=>cases h1
 | some g =>
  cases g with
  | nx τ2=>exact h1
  | bk τ2=>cases h1
  | ct τ2=>cases h1
  | rt v=>cases h1
theorem oU{α:Type}(xs:List α)(m:Nat):cut xs (some ((m:Nat):Int)) none=xs.drop m:=by
 unfold cut;rw[HT.ur,HT.xU]
 by_cases h:m<=xs.length
 ·rw[Ic h,IQ (by rw[JE];omega)]
 ·rw[Nat.min_eq_right (by omega),Ij (Gr _),Ij (by omega),List.take_nil]
theorem xt(p:List aF)(c:aF):aE p++[aV c.1 c.2]=aE (p++[c]):=by
 unfold aE;rw[Hx];rfl
theorem Cj(p:List aF)(c:aF)(hp:p.length<=1000):cW .Add (.frz (fh p) true) (.frz (.tup [aV c.1 c.2]) true)=some (.frz (fh (p++[c])) true):=by
 show iY (aE p++[aV c.1 c.2]) (true&&true)=_;rw[xt];unfold iY;rw[Gu (by unfold aE;rw[Go,G6];show _+1<=16777216;omega)];rfl
theorem oH(k j:Nat)(fu:Nat)(p l:List aF)(base:List PV)(lev rm:PV)(a6 a7:TV)(hl:l.length<=64)(hp:p.length<=1000)(hb:base.length<=100000) :
  ∃a b,bz (aG P (k+3)) fu (.forr [6,7] false [5] (.enum (.var 5)) (.cons (.app 3 [] (.tup (.cons (.bin .Add (.var 4) (.tup (.cons (.var 7) .nil))) (.cons (.call 182 (.cons (.var 0) (.cons (.var 7) (.cons (.sl (.var 5) (.yes (.bin .Add (.var 6) (.con (.int 1)))) .no) .nil)))) .nil)))) .nil))
   [.frz (.str (aI j)) true,.frz lev false,.frz rm true,.own base true,.frz (fh p) true,.frz (.lst (aE l)) false,a6,a7] =
   some (.nx [.frz (.str (aI j)) true,.frz lev false,.frz rm true,.own (base++(ext (SK j) p l).map dQ) true,.frz (fh p) true,.frz (.lst (aE l)) false,a,b]):=by
 have key:To ((bz (aG P (k+3)) fu (.forr [6,7] false [5] (.enum (.var 5)) (.cons (.app 3 [] (.tup (.cons (.bin .Add (.var 4) (.tup (.cons (.var 7) .nil))) (.cons (.call 182 (.cons (.var 0) (.cons (.var 7) (.cons (.sl (.var 5) (.yes (.bin .Add (.var 6) (.con (.int 1)))) .no) .nil)))) .nil)))) .nil))
   [.frz (.str (aI j)) true,.frz lev false,.frz rm true,.own base true,.frz (fh p) true,.frz (.lst (aE l)) false,a6,a7]).bind fun f=>eh f fun τ=>some (.nx τ))
   (fun f=>∃a b,f=.nx [.frz (.str (aI j)) true,.frz lev false,.frz rm true,.own (base++(ext (SK j) p l).map dQ) true,.frz (fh p) true,.frz (.lst (aE l)) false,a,b]):=by
  have len:(List.zipWith dk (List.range (aE l).length) (aE l)).length=l.length:=by
   rw[JT,Ht,JZ];unfold aE;rw[Go]
  refine cH (xs:=List.zipWith dk (List.range (aE l).length) (aE l)) (n:=false) ?_
   (fun m τ=>∃a b,τ=[.frz (.str (aI j)) true,.frz lev false,.frz rm true,.own (base++((ext (SK j) p l).take m).map dQ) true,.frz (fh p) true,.frz (.lst (aE l)) false,a,b]) ⟨a6,a7,?_⟩ ?_ ?_
  ·walk_at "ev"
  ·walk_at "ev"
   simp
  ·rintro m y τ hy ⟨a,b,rfl⟩
   obtain⟨c,hc,rfl⟩:=yG hy;have hm:m<l.length:=(G9.mp hc).1;have e182:=c182 k j c (l.drop (m+1)) (by rw[JE];omega);refine⟨_,rfl,?_⟩;have ic:imm (aV c.1 c.2)=true:=rfl;have im:imms (aE l)=true:=bi l;walk_at "ev";rw[ic,Cj p c hp,jD,show((m:Nat):Int)+1=((m+1:Nat):Int)from rfl,oU,im];walk_at "ev";rw[show(aE l).drop (m+1)=aE (l.drop (m+1))by unfold aE;rw[List.map_drop],e182];walk_at "go"
   rw[eC (xs:=base++((ext (SK j) p l).take m).map dQ) (n:=true) rfl (by
    have z:((ext (SK j) p l).take m).length<=64:=by rw[Hq,iz];omega
    rw[G6,Go];show _<16777216;omega)]
   walk_at "ev";refine⟨.frz (.int (m:Nat)) true,.frz (aV c.1 c.2) true,?_⟩;rw[ii (wC j p l m c hc),Hx,HZ];rfl
  ·rintro τ ⟨a,b,rfl⟩
   rw[len,<-iz j p l,KF];exact⟨_,rfl,a,b,rfl⟩
 obtain⟨f,h1,a,b,h2⟩:=key;exact⟨a,b,zj ⟨f,h1,h2⟩⟩
theorem uJ(j:Nat)(lev:List (List aF×List aF))(h:∀x∈lev,x.2.length<=64):(up (SK j) lev).length<=lev.length*64:=by
 induction lev with
 | nil=>exact Hu _
 | cons x lev ih =>
  have e:up (SK j) (x::lev)=ext (SK j) x.1 x.2++up (SK j) lev:=rfl;have:=ih fun y hy=>h y (Gs _ hy);have:=h x Gw;rw[e,G6,iz,HC];omega
structure DO(lev:List (List aF×List aF)):Prop where
 fr:∀x∈lev,x.2.length<=64
 pl:∀x∈lev,x.1.length<=100
 few:lev.length<=1000
theorem xJ(j:Nat)(lev:List (List aF×List aF))(i:Nat):(up (SK j) (lev.take i)).length<=(up (SK j) lev).length:=by
 have e:up (SK j) lev=up (SK j) (lev.take i)++up (SK j) (lev.drop i):=by
  unfold up;rw[<- List.flatMap_append,Ha]
 rw[e,G6];omega
theorem GE(k j:Nat)(lev:List (List aF×List aF))(room:Nat)(ok:DO lev)(h:(up (SK j) lev).length<=room):aG P (k+4) 183 [.str (aI j),rD lev,.int (room:Nat)]=some (rD (up (SK j) lev)):=by
 refine br rfl rfl ?_;simp only[wQ,entry,rD];have iml:imm (PV.lst (lev.map dQ))=false:=rfl;walk_at "ev";refine cH (xs:=lev.map dQ) (n:=false) ?_ (fun i τ=>∃a b c d,τ=[.frz (.str (aI j)) true,.frz (.lst (lev.map dQ)) false,.frz (.int (room:Nat)) true,.own ((up (SK j) (lev.take i)).map dQ) true,a,b,c,d]) ⟨_,_,_,_,rfl⟩ ?_ ?_
 ·walk_at "ev"
 ·rintro i y τ hy ⟨a,b,c,d,rfl⟩
  obtain⟨x,hx,rfl⟩:=vb hy;have hm:=IN hx;refine⟨_,rfl,?_⟩
  obtain⟨a6,a7,e⟩:=oH k j 1000000 x.1 x.2 ((up (SK j) (lev.take i)).map dQ) (.lst (lev.map dQ)) (.int (room:Nat)) c d (ok.fr x hm) (HP (ok.pl x hm) (by decide)) (by
   have:=uJ j (lev.take i) fun y hy=>ok.fr y (Ix hy);have:=ok.few;have:(lev.take i).length<=1000:=by rw[Hq];omega
   rw[Go];omega)
  have ip:imm (fh x.1)=true:=bi x.1;show To (bD _ _ _ [.frz (.str (aI j)) true,.frz (.lst (lev.map dQ)) false,.frz (.int (room:Nat)) true,.own ((up (SK j) (lev.take i)).map dQ) true,.frz (fh x.1) (false||imm (fh x.1)),.frz (.lst (aE x.2)) false,c,d]) _;rw[ip,Bool.false_or,bn,e,<-Hx,<-qb j lev i x hx];walk_at "ev";have:=xJ j lev (i+1);rw[Go,HS (show¬(room:Int)<((up (SK j) (lev.take (i+1))).length:Nat)by omega)];walk_at "ev";exact⟨_,_,_,_,rfl⟩
 ·rintro τ ⟨a,b,c,d,rfl⟩
  rw[Go,KF];walk_at "ev"
theorem jX(f:Nat->Nat)(r:Nat)(h0:f 0<=r):∀n:Nat,(∀i,i<=n->f i<=r)\/∃j,j<n/\(∀i,i<=j->f i<=r)/\r<f (j+1)
 | 0=>.inl fun i hi=>by rw[show i=0 by omega];exact h0
 | n+1=>by
  rcases jX f r h0 n with a|⟨j,h1,h2,h3⟩
  ·by_cases q:f (n+1)<=r
   ·exact .inl fun i hi=>by
     by_cases e:i=n+1
     ·rw[e];exact q
     ·exact a i (by omega)
   ·exact .inr ⟨n,by omega,a,by omega⟩
  ·exact .inr ⟨j,by omega,h2,h3⟩
theorem mW{set:PV->En->Option En}{bx:En->Bool}{bd:En->Option Fl}(I:Nat->En->Prop):∀(n:Nat)(xs:List PV)(τ:En),n<xs.length->I 0 τ ->
  (∀i y τ,i<n->xs[i]? =some y->I i τ->∃τ1 τ2,set y τ=some τ1/\bd τ1=some (.nx τ2)/\I (i+1) τ2)->(∀y τ,xs[n]? =some y->I n τ->∃τ1,set y τ=some τ1/\bx τ1=true)->forX set bx bd xs τ=true
 | n,[],τ,h,_,_,_=>absurd h (Nat.not_lt_zero _)
 | 0,x::xs,τ,h,i0,_,last=>by
  obtain⟨τ1,h1,h2⟩:=last x τ rfl i0;unfold forX;rw[h1];show(bx τ1||_)=true;rw[h2];rfl
 | n+1,x::xs,τ,h,i0,st,last=>by
  obtain⟨τ1,τ2,h1,h2,h3⟩:=st 0 x τ (by omega) rfl i0;unfold forX;rw[h1];show(bx τ1||_)=true;rw[h2];show(bx τ1||forX set bx bd xs τ2)=true;rw[mW (fun i τ=>I (i+1) τ) n xs τ2 (by simpa using h) h3 (fun i y τ hi hy hI=>st (i+1) y τ (by omega) (by simpa using hy) hI) (fun y τ hy hI=>last y τ (by simpa using hy) hI),Bool.or_true]
theorem zN{cd:Nat->List PV->Option PV}{xd:Nat->List PV->Bool}{fu:Nat}{cn:Str}{τ:En}{is cap:List Nat}{one n:Bool}{src:IT}{body:om}{xs:List PV}(ht:kQ cd src (ai cap τ)=some (xs,n,false))
  (h:forX (eA is one n) (fun τ=>evXs cd xd fu cn body τ) (fun τ=>bD cd fu body τ) xs (ai cap τ)=true):ie cd xd fu cn (.forr is one cap src body) τ=true:=by
 rw[ie,ht];exact h
theorem x183(k j:Nat)(lev:List (List aF×List aF))(room:Nat)(ok:DO lev)(h:room<(up (SK j) lev).length):xD P "TooGreat" (k+4) 183 [.str (aI j),rD lev,.int (room:Nat)]=true:=by
 refine zO (d:=wQ) rfl rfl ?_;simp only[wQ,entry,rD];obtain⟨m,m1,m2,m3⟩:∃m,m<lev.length/\(∀i,i<=m->(up (SK j) (lev.take i)).length<=room)/\room<(up (SK j) (lev.take (m+1))).length:=by
  rcases jX (fun i=>(up (SK j) (lev.take i)).length) room (by simp[up]) lev.length with a|b
  ·have:=a lev.length (Gr _)
   simp only[KF]at this;omega
  ·exact b
 have inn:∀(i:Nat)(x:List aF×List aF)(c d:TV),lev[i]? =some x->∃a b,bz (aG P (k+3)) 1000000 (.forr [6,7] false [5] (.enum (.var 5)) (.cons (.app 3 [] (.tup (.cons (.bin .Add (.var 4) (.tup (.cons (.var 7) .nil))) (.cons (.call 182 (.cons (.var 0) (.cons (.var 7) (.cons (.sl (.var 5) (.yes (.bin .Add (.var 6) (.con (.int 1)))) .no) .nil)))) .nil)))) .nil))
   [.frz (.str (aI j)) true,.frz (.lst (lev.map dQ)) false,.frz (.int (room:Nat)) true,.own ((up (SK j) (lev.take i)).map dQ) true,.frz (fh x.1) true,.frz (.lst (aE x.2)) false,c,d] =
   some (.nx [.frz (.str (aI j)) true,.frz (.lst (lev.map dQ)) false,.frz (.int (room:Nat)) true,.own ((up (SK j) (lev.take (i+1))).map dQ) true,.frz (fh x.1) true,.frz (.lst (aE x.2)) false,a,b]):=fun i x c d hx=>by
  have hm:=IN hx
  obtain⟨a6,a7,e⟩:=oH k j 1000000 x.1 x.2 ((up (SK j) (lev.take i)).map dQ) (.lst (lev.map dQ)) (.int (room:Nat)) c d (ok.fr x hm) (HP (ok.pl x hm) (by decide)) (by
   have:=uJ j (lev.take i) fun y hy=>ok.fr y (Ix hy);have:=ok.few;have:(lev.take i).length<=1000:=by rw[Hq];omega
   rw[Go];omega)
  rw[<- Hx,<-qb j lev i x hx]at e;exact⟨a6,a7,e⟩
 refine ig (τ1:=[.frz (.str (aI j)) true,.frz (.lst (lev.map dQ)) false,.frz (.int (room:Nat)) true,.own [] true,.un,.un,.un,.un]) rfl (by walk_at "ev") ?_;refine fS rfl (zN (xs:=lev.map dQ) (n:=false) (by walk_at "ev") ?_);refine mW (fun i τ=>∃a b c d,τ=[.frz (.str (aI j)) true,.frz (.lst (lev.map dQ)) false,.frz (.int (room:Nat)) true,.own ((up (SK j) (lev.take i)).map dQ) true,a,b,c,d]) m _ _ (by rw[Go];exact m1) ⟨_,_,_,_,rfl⟩ ?_ ?_
 ·rintro i y τ hi hy ⟨a,b,c,d,rfl⟩
  obtain⟨x,hx,rfl⟩:=vb hy;have ip:imm (fh x.1)=true:=bi x.1;obtain⟨a6,a7,e⟩:=inn i x c d hx
  refine⟨[.frz (.str (aI j)) true,.frz (.lst (lev.map dQ)) false,.frz (.int (room:Nat)) true,.own ((up (SK j) (lev.take i)).map dQ) true,.frz (fh x.1) true,.frz (.lst (aE x.2)) false,c,d],
   [.frz (.str (aI j)) true,.frz (.lst (lev.map dQ)) false,.frz (.int (room:Nat)) true,.own ((up (SK j) (lev.take (i+1))).map dQ) true,.frz (fh x.1) true,.frz (.lst (aE x.2)) false,a6,a7],?_,?_,⟨_,_,_,_,rfl⟩⟩
  ·show some [.frz (.str (aI j)) true,.frz (.lst (lev.map dQ)) false,.frz (.int (room:Nat)) true,.own ((up (SK j) (lev.take i)).map dQ) true,.frz (fh x.1) (false||imm (fh x.1)),.frz (.lst (aE x.2)) false,c,d]=_
   rw[ip];rfl
  ·rw[bn,e]
   walk_at "ev";have:=m2 (i+1) (by omega);rw[Go,HS (show¬(room:Int)<((up (SK j) (lev.take (i+1))).length:Nat)by omega)];walk_at "ev"
 ·rintro y τ hy ⟨a,b,c,d,rfl⟩
  obtain⟨x,hx,rfl⟩:=vb hy;have ip:imm (fh x.1)=true:=bi x.1;obtain⟨a6,a7,e⟩:=inn m x c d hx;refine⟨[.frz (.str (aI j)) true,.frz (.lst (lev.map dQ)) false,.frz (.int (room:Nat)) true,.own ((up (SK j) (lev.take m)).map dQ) true,.frz (fh x.1) true,.frz (.lst (aE x.2)) false,c,d],?_,?_⟩
  ·show some [.frz (.str (aI j)) true,.frz (.lst (lev.map dQ)) false,.frz (.int (room:Nat)) true,.own ((up (SK j) (lev.take m)).map dQ) true,.frz (fh x.1) (false||imm (fh x.1)),.frz (.lst (aE x.2)) false,c,d]=_
   rw[ip];rfl
  ·refine ig rfl e (fS rfl (Dk (t:=true) ?_ (fS rfl AO)))
   walk_at "ev";rw[Go,Hy (show(room:Int)<((up (SK j) (lev.take (m+1))).length:Nat)by omega)]
theorem cN(j s:Nat)(l:List aF):bI (SK j) (s+1) l=bI (SK j) s l+nI (SK j) (s+1) l:=by
 unfold bI;rw[List.range_succ (n:=s+1),Hx,KI];simp
theorem gL(j:Nat)(l:List aF):bI (SK j) 0 l=1:=by
 unfold bI;simp[cf]
theorem gM(j:Nat)(l:List aF)(a:Nat):∀b,a<=b->bI (SK j) a l<=bI (SK j) b l
 | 0,h=>by rw[show a=0 by omega];exact Gr _
 | b+1,h=>by
  by_cases e:a=b+1
  ·rw[e];exact Gr _
  ·have:=gM j l a b (by omega)
   rw[cN];omega
theorem wB(j:Nat)(p:List aF):∀(l:List aF)(x:List aF×List aF),x∈ext (SK j) p l->x.2.length<=l.length
 | [],x,h=>by cases h
 | c::l,x,h=>by
  unfold ext at h
  rcases HE.mp h with r|r
  ·rw[r]
   have:=JI (fun x=> !SK j c x) l;simp only[HC];omega
  ·have:=wB j p l x r
   rw[HC];omega
theorem zm(j:Nat)(l:List aF):∀(k:Nat)(x:List aF×List aF),x∈lv (SK j) l k->x.2.length<=l.length
 | 0,x,h=>by
  have h:x∈[([],l)]:=h;rw[HF.mp h];exact Gr _
 | k+1,x,h=>by
  have h:x∈(lv (SK j) l k).flatMap fun x=>ext (SK j) x.1 x.2:=h;obtain⟨y,hy,hx⟩:=List.mem_flatMap.mp h;exact HP (wB j _ _ _ hx) (zm j l k y hy)
theorem rC(j:Nat)(l:List aF)(hl:l.length<=64)(k:Nat)(hk:k<=8)(h:bI (SK j) k l<=1000):DO (lv (SK j) l k):=by
 refine⟨fun x hx=>HP (zm j l k x hx) hl,fun x hx=>by rw[eV (SK j) hx];omega,?_⟩;rw[gT];cases k with
 | zero=>rw[cf];decide
 | succ k=>rw[cN]at h;omega
theorem nG(j i:Nat)(l:List aF)(h:bI (SK j) (i+1) l<=1000):((1000-bI (SK j) i l:Nat):Int)-((lv (SK j) l (i+1)).length:Nat)=((1000-bI (SK j) (i+1) l:Nat):Int):=by
 rw[gT];rw[cN]at h ⊢;omega
theorem rB(j i:Nat)(l:List aF)(h:bI (SK j) (i+1) l<=1000):(up (SK j) (lv (SK j) l i)).length<=1000-bI (SK j) i l:=by
 have e:up (SK j) (lv (SK j) l i)=lv (SK j) l (i+1):=rfl;rw[e,gT];rw[cN]at h;omega
theorem pI{n i:Nat}{y:PV}(h:((List.range n).map fun i=>PV.int (0+(i:Nat)))[i]? =some y):y=.int (i:Nat)/\i<n:=by
 rw[HG]at h
 by_cases hi:i<n
 ·rw[II hi]at h
  refine⟨?_,hi⟩;rw[<- HM h];show PV.int (0+(i:Int))=_;rw[Int.zero_add]
 ·rw[Jd (by simpa using hi)]at h
  cases h
theorem nH(n:Nat)(hn:n<=100):iW [sc (.int (n:Nat))]=some ((List.range n).map fun i=>.int (0+(i:Nat))):=by
 simp only[iW,sc,cE];rw[Gu ⟨by omega,by omega⟩,J9]
theorem GD(k j size:Nat)(rows:List Str)(w:Nat)(hw:Wd rows w)(h8:rows.length<=8)(w8:w<=8)(h64:(aC rows).length<=64)(s8:size<=8)(few:bI (SK j) size (aC rows)<=1000) :
  aG P (k+5) 184 [.str (aI j),.tup (rows.map .str),.int (size:Nat)]=some (.lst ((lv (SK j) (aC rows) size).map fun x=>fh x.1)):=by
 refine br rfl rfl ?_;have im:=bt rows;have e3:=c3 (k+3) rows w hw h8 w8;rw[fP rows w hw]at e3;simp only[wP,entry];walk_at "ev";rw[e3];walk_at "go";refine cH (xs:=(List.range size).map fun i=>.int (0+(i:Nat))) (n:=true) ?_ (fun i τ=>∃a,τ=[.frz (.str (aI j)) true,.frz (.tup (rows.map .str)) true,.frz (.int (size:Nat)) true,.frz (rD (lv (SK j) (aC rows) i)) true,.frz (.int ((1000-bI (SK j) i (aC rows):Nat):Int)) true,a]) ⟨.un,?_⟩ ?_ ?_
 ·walk_at "ev"
  rw[nH size (by omega)];walk_at "ev"
 ·walk_at "ev"
  rw[im,gL];rfl
 ·rintro i y τ hy ⟨a,rfl⟩
  obtain⟨rfl,hi⟩:=pI hy;have t1:=gM j (aC rows) (i+1) size (by omega);have t0:=gM j (aC rows) i size (by omega);have e183:=GE k j (lv (SK j) (aC rows) i) (1000-bI (SK j) i (aC rows)) (rC j _ h64 i (by omega) (by omega)) (rB j i _ (by omega));refine⟨_,rfl,?_⟩;walk_at "ev";rw[e183,show up (SK j) (lv (SK j) (aC rows) i)=lv (SK j) (aC rows) (i+1)from rfl,Iz,show iV (rD (lv (SK j) (aC rows) (i+1)))=.own ((lv (SK j) (aC rows) (i+1)).map dQ) true from rfl];walk_at "ev";rw[Go,r6 (x:=((1000-bI (SK j) i (aC rows):Nat):Int)) (n:=true) rfl,nG j i _ (by omega)];walk_at "ev";exact⟨_,rfl⟩
 ·rintro τ ⟨a,rfl⟩
  walk_at "ev";rw[Go,Ht,show rD (lv (SK j) (aC rows) size)=.lst ((lv (SK j) (aC rows) size).map dQ)from rfl];walk_at "ev";have lf:=(rC j _ h64 size s8 few).few;rw[Gu (by rw[Go];omega)];rw[jc (g:=fun x:List aF×List aF=>fh x.1) fun x hx=> ?_]
  ·walk_at "ev"
  ·have hs:=eV (SK j) hx
   show((((eE (fh x.1)).map fun n=>RV.frz (PV.int (n:Nat)) true).bind fun y=>(bN .Eq y.val (.int (size:Nat))).map fun r=>RV.frz (.bl r) true).bind fun y=>kq y.val).bind (fun t=>if t=true then some (some (fh x.1,true||imm (fh x.1)))else some none)=_;rw[show eE (fh x.1)=some (aE x.1).length from rfl,show(aE x.1).length=size by unfold aE;rw[Go];exact hs];walk_at "ev"
theorem Dl{cd:Nat->List PV->Option PV}{xd:Nat->List PV->Bool}{fu:Nat}{cn:Str}{τ:En}{i f:Nat}{o:Bool}{cap:List Nat}{es:qT}{rs:List RV}(h:bU cd es (ai cap τ)=some rs)(hx:xd f (rs.map RV.val)=true):ie cd xd fu cn (.asg i o cap (.call f es)) τ=true:=by
 rw[ie]
 show(match bU cd es (ai cap τ)with
  | some rs=>xd f (rs.map RV.val)
  | none=>false)=true
 rw[h];exact hx
theorem x184(k j size:Nat)(rows:List Str)(w:Nat)(hw:Wd rows w)(h8:rows.length<=8)(w8:w<=8)(h64:(aC rows).length<=64)(s8:size<=8)(many:¬bI (SK j) size (aC rows)<=1000) :
  xD P "TooGreat" (k+5) 184 [.str (aI j),.tup (rows.map .str),.int (size:Nat)]=true:=by
 refine zO (d:=wP) rfl rfl ?_;have im:=bt rows;have e3:=c3 (k+3) rows w hw h8 w8;rw[fP rows w hw]at e3;simp only[wP,entry];obtain⟨m,m1,m2,m3⟩:∃m,m<size/\(∀i,i<=m->bI (SK j) i (aC rows)<=1000)/\1000<bI (SK j) (m+1) (aC rows):=by
  rcases jX (fun i=>bI (SK j) i (aC rows)) 1000 (by rw[gL];decide) size with a|b
  ·exact absurd (a size (Gr _)) many
  ·exact b
 refine ig (τ1:=[.frz (.str (aI j)) true,.frz (.tup (rows.map .str)) true,.frz (.int (size:Nat)) true,.frz (rD (lv (SK j) (aC rows) 0)) true,.un,.un]) rfl ?_ ?_
 ·walk_at "ev"
  rw[e3];walk_at "go";rw[im];rfl
 refine ig (τ1:=[.frz (.str (aI j)) true,.frz (.tup (rows.map .str)) true,.frz (.int (size:Nat)) true,.frz (rD (lv (SK j) (aC rows) 0)) true,.frz (.int ((1000-bI (SK j) 0 (aC rows):Nat):Int)) true,.un]) rfl ?_ ?_
 ·walk_at "ev"
  rw[gL];rfl
 refine fS rfl (zN (xs:=(List.range size).map fun i=>.int (0+(i:Nat))) (n:=true) (by walk_at "ev";rw[nH size (by omega)];walk_at "ev") ?_);refine mW (fun i τ=>∃a,τ=[.frz (.str (aI j)) true,.frz (.tup (rows.map .str)) true,.frz (.int (size:Nat)) true,.frz (rD (lv (SK j) (aC rows) i)) true,.frz (.int ((1000-bI (SK j) i (aC rows):Nat):Int)) true,a]) m _ _ (by rw[Go,Ht];exact m1) ⟨.un,rfl⟩ ?_ ?_
 ·rintro i y τ hi hy ⟨a,rfl⟩
  obtain⟨rfl,_⟩:=pI hy;have t1:=m2 (i+1) (by omega);have t0:=m2 i (by omega);have e183:=GE k j (lv (SK j) (aC rows) i) (1000-bI (SK j) i (aC rows)) (rC j _ h64 i (by omega) t0) (rB j i _ t1);refine⟨_,_,rfl,?_,⟨.frz (.int (i:Nat)) true,rfl⟩⟩;show bD _ _ _ [.frz (.str (aI j)) true,.frz (.tup (rows.map .str)) true,.frz (.int (size:Nat)) true,.frz (rD (lv (SK j) (aC rows) i)) true,.frz (.int ((1000-bI (SK j) i (aC rows):Nat):Int)) true,.frz (.int (i:Nat)) true]=_;walk_at "ev";rw[e183,show up (SK j) (lv (SK j) (aC rows) i)=lv (SK j) (aC rows) (i+1)from rfl,Iz,show iV (rD (lv (SK j) (aC rows) (i+1)))=.own ((lv (SK j) (aC rows) (i+1)).map dQ) true from rfl];walk_at "ev";rw[Go,r6 (x:=((1000-bI (SK j) i (aC rows):Nat):Int)) (n:=true) rfl,nG j i _ t1];walk_at "ev";rfl
 ·rintro y τ hy ⟨a,rfl⟩
  obtain⟨rfl,_⟩:=pI hy;have t0:=m2 m (Gr _)
  have x183' :=x183 k j (lv (SK j) (aC rows) m) (1000-bI (SK j) m (aC rows)) (rC j _ h64 m (by omega) t0) (by
   rw[show up (SK j) (lv (SK j) (aC rows) m)=lv (SK j) (aC rows) (m+1)from rfl,gT];rw[cN]at m3;omega)
  refine⟨_,rfl,fS rfl (Dl (rs:=[.frz (.str (aI j)) true,.frz (rD (lv (SK j) (aC rows) m)) true,.frz (.int ((1000-bI (SK j) m (aC rows):Nat):Int)) true]) ?_ x183')⟩;rfl
theorem c186(k j:Nat)(hj:j<3)(c x:aF):aG P (k+1) 186 [.str (aI j),aV c.1 c.2,aV x.1 x.2]=some (.bl (SK j c x)):=by
 refine br rfl rfl ?_;simp only[CT,entry,aV];have a1:decide ((Str.ofString "straight")=(Str.ofString "aslant"))=false:=by decide
 have a2:decide ((Str.ofString "all")=(Str.ofString "aslant"))=false:=by decide
 have a3:decide ((Str.ofString "all")=(Str.ofString "straight"))=false:=by decide
 have a4:decide ((Str.ofString "aslant")=(Str.ofString "straight"))=false:=by decide
 have hj:j=0\/j=1\/j=2:=by omega
 rcases hj with rfl|rfl|rfl
 ·rw[show aI 0=Str.ofString "straight" from rfl]
  walk_at "ev";rw[a1];walk_at "ev";have e:SK 0 c x=(decide (((x.1:Nat):Int)-((c.1:Nat):Int)=0)||decide (((x.2:Nat):Int)-((c.2:Nat):Int)=0)):=by
   show(decide (((c.1:Nat):Int)=((x.1:Nat):Int))||decide (((c.2:Nat):Int)=((x.2:Nat):Int)))=_;rw[JM];simp only[IF,Hd];omega
  rw[e];cases decide (((x.1:Nat):Int)-((c.1:Nat):Int)=0)<;>walk_at "ev"<;>cases decide (((x.2:Nat):Int)-((c.2:Nat):Int)=0)<;>walk_at "ev"
 ·rw[show aI 1=Str.ofString "aslant" from rfl]
  walk_at "ev";have e:SK 1 c x=(decide (((x.1:Nat):Int)-((c.1:Nat):Int)=((x.2:Nat):Int)-((c.2:Nat):Int))||decide (((x.1:Nat):Int)-((c.1:Nat):Int)=0-(((x.2:Nat):Int)-((c.2:Nat):Int)))):=by
   show aslt _ _ _ _=_;unfold aslt;rw[JM];simp only[IF,Hd]
   split<;>split<;>omega
  rw[e];walk_at "ev";rw[a4];walk_at "ev"
  generalize decide (((x.1:Nat):Int)-((c.1:Nat):Int)=((x.2:Nat):Int)-((c.2:Nat):Int))=q3
  generalize decide (((x.1:Nat):Int)-((c.1:Nat):Int)=0-(((x.2:Nat):Int)-((c.2:Nat):Int)))=q4
  cases q3<;>walk_at "ev"
  all_goals simp
 ·rw[show aI 2=Str.ofString "all" from rfl]
  walk_at "ev";rw[a2];walk_at "ev";have e:SK 2 c x=((decide (((x.1:Nat):Int)-((c.1:Nat):Int)=0)||decide (((x.2:Nat):Int)-((c.2:Nat):Int)=0))||(decide (((x.1:Nat):Int)-((c.1:Nat):Int)=((x.2:Nat):Int)-((c.2:Nat):Int))||decide (((x.1:Nat):Int)-((c.1:Nat):Int)=0-(((x.2:Nat):Int)-((c.2:Nat):Int))))):=by
   show((decide (((c.1:Nat):Int)=((x.1:Nat):Int))||decide (((c.2:Nat):Int)=((x.2:Nat):Int)))||aslt _ _ _ _)=_;unfold aslt;rw[JM];simp only[IF,Hd]
   split<;>split<;>omega
  rw[e]
  generalize decide (((x.1:Nat):Int)-((c.1:Nat):Int)=0)=q1
  generalize decide (((x.2:Nat):Int)-((c.2:Nat):Int)=0)=q2
  cases q1<;>walk_at "ev"
  ·cases q2<;>walk_at "ev"
   ·rw[a3]
    walk_at "ev";cases h3:decide (((x.1:Nat):Int)-((c.1:Nat):Int)=((x.2:Nat):Int)-((c.2:Nat):Int))<;>walk_at "ev"
theorem tT(l:List aF):cX 12 (.lst (aE l))=true:=by
 show(aE l).all (cX 11)=true;rw[HK];intro y hy;obtain⟨c,_,rfl⟩:=HY.mp hy;rfl
theorem eq_nil(l:List aF):bN .Eq (.lst (aE l)) (.lst [])=some l.isEmpty:=by
 rw[yr,tT,show cX 12 (.lst [])=true from rfl];cases l<;>rfl
noncomputable def pV(p:List aF):PV:=.tup (aE p)
theorem eJ(j:Nat)(c:aF):∀p:List aF,(p.filter fun x=>SK j c x).isEmpty=p.all fun x=> !SK j c x
 | []=>rfl
 | x::p=>by
  rw[IU,JC,<-eJ j c p];cases SK j c x<;>rfl
theorem Eo{L:List (List aF)}{i:Nat}{y:PV}(h:(L.map pV)[i]? =some y):∃p,L[i]? =some p/\y=pV p:=by
 rw[HG]at h;obtain⟨x,hx,rfl⟩:=map_some h;exact⟨x,hx,rfl⟩
theorem y6(p:List aF)(c:aF)(hp:p.length<=1000):cW .Add (.frz (.tup [aV c.1 c.2]) true) (.frz (pV p) true)=some (.frz (pV (c::p)) true):=by
 show iY ([aV c.1 c.2]++aE p) (true&&true)=_;unfold iY;rw[Gu (by unfold aE;rw[G6,Go];show 1+_<=16777216;omega)];rfl
noncomputable def cZ(j s:Nat)(c:aF)(L:List (List aF)):List (List aF):=(L.filter fun p=>decide (p.length<s)&&p.all fun x=> !SK j c x).map (c::·)
theorem vY(j s:Nat)(c:aF)(L:List (List aF))(i:Nat)(p:List aF)(h:L[i]? =some p):cZ j s c (L.take (i+1))=cZ j s c (L.take i)++if(decide (p.length<s)&&p.all fun x=> !SK j c x)=true then[c::p]else[]:=by
 rw[ii h];unfold cZ;rw[List.filter_append,Hx];have e:(([p].filter fun p=>decide (p.length<s)&&p.all fun x=> !SK j c x).map (c::·))=if(decide (p.length<s)&&p.all fun x=> !SK j c x)=true then[c::p]else[]:=by
  rw[IU]
  split<;>rfl
 rw[e]
theorem oG(k j s:Nat)(most:Int)(hj:j<3)(c:aF)(L:List (List aF))(cs:PV)(fnd:PV)(a7 a8:TV)(hL:L.length<=1000)(hp:∀p∈L,p.length<=64) :
  ∃a b,bz (aG P (k+1)) 1000000 (.forr [7] true [] (.seq (.sl (.var 4) (.yes (.con (.int 1))) .no)) (.cons (.asg 8 false [] (.lc (.var 0) (.seq (.var 7)) (.yes (.val (.call 186 (.cons (.var 1) (.cons (.var 2) (.cons (.var 0) .nil)))))) [0,5]))
    (.cons (.ife (.and (.val (.cmp .Lt (.bf .len (.cons (.var 7) .nil)) (.var 2))) (.val (.cmp .Eq (.var 8) (.lst .nil)))) (.cons (.app 6 [] (.bin .Add (.tup (.cons (.var 5) .nil)) (.var 7))) .nil) .nil) .nil)))
   [.frz (.str (aI j)) true,.frz cs false,.frz (.int (s:Nat)) true,.frz (.int most) true,.frz (.lst (([]::L).map pV)) true,.frz (aV c.1 c.2) true,.own [pV [c]] true,a7,a8] =
   some (.nx [.frz (.str (aI j)) true,.frz cs false,.frz (.int (s:Nat)) true,.frz (.int most) true,.frz (.lst (([]::L).map pV)) true,.frz (aV c.1 c.2) true,.own (([c]::cZ j s c L).map pV) true,a,b]):=by
 have key:To ((bz (aG P (k+1)) 1000000 (.forr [7] true [] (.seq (.sl (.var 4) (.yes (.con (.int 1))) .no)) (.cons (.asg 8 false [] (.lc (.var 0) (.seq (.var 7)) (.yes (.val (.call 186 (.cons (.var 1) (.cons (.var 2) (.cons (.var 0) .nil)))))) [0,5]))
    (.cons (.ife (.and (.val (.cmp .Lt (.bf .len (.cons (.var 7) .nil)) (.var 2))) (.val (.cmp .Eq (.var 8) (.lst .nil)))) (.cons (.app 6 [] (.bin .Add (.tup (.cons (.var 5) .nil)) (.var 7))) .nil) .nil) .nil)))
   [.frz (.str (aI j)) true,.frz cs false,.frz (.int (s:Nat)) true,.frz (.int most) true,.frz (.lst (([]::L).map pV)) true,.frz (aV c.1 c.2) true,.own [pV [c]] true,a7,a8]).bind fun f=>eh f fun τ=>some (.nx τ))
   (fun f=>∃a b,f=.nx [.frz (.str (aI j)) true,.frz cs false,.frz (.int (s:Nat)) true,.frz (.int most) true,.frz (.lst (([]::L).map pV)) true,.frz (aV c.1 c.2) true,.own (([c]::cZ j s c L).map pV) true,a,b]):=by
  refine cH (xs:=L.map pV) (n:=true) ?_
   (fun m τ=>∃a b,τ=[.frz (.str (aI j)) true,.frz cs false,.frz (.int (s:Nat)) true,.frz (.int most) true,.frz (.lst (([]::L).map pV)) true,.frz (aV c.1 c.2) true,.own (([c]::cZ j s c (L.take m)).map pV) true,a,b]) ⟨a7,a8,rfl⟩ ?_ ?_
  ·walk_at "ev"
   rw[jD,show(1:Int)=((1:Nat):Int)from rfl,oU];walk_at "ev";rfl
  ·rintro m y τ hy ⟨a,b,rfl⟩
   obtain⟨p,hpm,rfl⟩:=Eo hy;have hm:=IN hpm;have hl:=hp p hm;refine⟨_,rfl,?_⟩;have ip:imm (pV p)=true:=bi p;show To (bD _ _ _ [.frz (.str (aI j)) true,.frz cs false,.frz (.int (s:Nat)) true,.frz (.int most) true,.frz (.lst (([]::L).map pV)) true,.frz (aV c.1 c.2) true,.own (([c]::cZ j s c (L.take m)).map pV) true,.frz (pV p) true,b]) _;walk_at "ev";rw[show lB (.frz (pV p) true)=some (aE p,true,false)from rfl];walk_at "ev";rw[Gu (by unfold aE;rw[Go];omega)];unfold aE;rw[cq (p:=fun y=>SK j c y) (g:=fun c:aF=>aV c.1 c.2) (fun y hy=>by
    have e:=c186 k j hj c y;rw[e];walk_at "ev";cases SK j c y
    ·walk_at "ev"
    ·walk_at "ev")]
   walk_at "ev";rw[show eE (pV p)=some p.length by show some (aE p).length=_;unfold aE;rw[Go]];walk_at "ev";have en:=eq_nil (p.filter fun x=>SK j c x);unfold aE at en;rw[vY j s c L m p hpm]
   by_cases h1:p.length<s
   ·rw[Hy (show((p.length:Nat):Int)<(s:Nat)by omega),Hy h1]
    walk_at "ev";rw[en,eJ];cases p.all fun x=> !SK j c x
    ·walk_at "ev"
     exact⟨.frz (pV p) true,.frz (PV.lst (List.map (fun c:aF=>aV c.1 c.2) (List.filter (fun y=>SK j c y) p))) true,by simp⟩
    ·walk_at "ev"
     rw[y6 p c (by omega)];walk_at "ev"
     rw[eC (xs:=pV [c]::List.map pV (cZ j s c (List.take m L))) (n:=true) rfl (by
      have z:(cZ j s c (List.take m L)).length<=1000:=by
       unfold cZ;rw[Go];exact HP (JI _ _) (by rw[Hq];omega)
      rw[HC,Go];show _<16777216;omega)]
     walk_at "ev";exact⟨.frz (pV p) true,.frz (PV.lst (List.map (fun c:aF=>aV c.1 c.2) (List.filter (fun y=>SK j c y) p))) true,by simp⟩
   ·rw[HS (show¬((p.length:Nat):Int)<(s:Nat)by omega),HS h1]
    walk_at "ev";exact⟨.frz (pV p) true,.frz (PV.lst (List.map (fun c:aF=>aV c.1 c.2) (List.filter (fun y=>SK j c y) p))) true,by simp⟩
  ·rintro τ ⟨a,b,rfl⟩
   rw[Go,KF];exact⟨_,rfl,a,b,rfl⟩
 obtain⟨f,h1,a,b,h2⟩:=key;exact⟨a,b,zj ⟨f,h1,h2⟩⟩
theorem rX(j s:Nat):∀l:List aF,∃L,fd (SK j) s l=[]::L
 | []=>⟨[],rfl⟩
 | c::l=>by
  obtain⟨L,h⟩:=rX j s l;refine⟨L++((fd (SK j) s l).filter fun p=>decide (p.length<s)&&p.all fun x=> !SK j c x).map (c::·),?_⟩;show fd (SK j) s l++_=_;rw[h];rfl
theorem yd(j s:Nat)(hs:1<=s)(c:aF)(l:List aF)(L:List (List aF))(h:fd (SK j) s l=[]::L):fd (SK j) s (c::l)=([]::L)++([c]::cZ j s c L):=by
 show fd (SK j) s l++((fd (SK j) s l).filter fun p=>decide (p.length<s)&&p.all fun x=> !SK j c x).map (c::·)=_;rw[h,IU,Gu (by simp;omega)];rfl
theorem rL:∀L:List (List aF),imms (L.map pV)=true
 | []=>rfl
 | p::L=>by
  rw[HW,imms,rL L,show imm (pV p)=true from bi p];rfl
theorem Ce{xs ys:List PV}(hz:xs.length+ys.length<=16777216)(hy:imms ys=true):cW .Add (.frz (.lst xs) true) (.bor (.lst ys))=some (.own (xs++ys) true):=by
 show(match RV.its (.frz (.lst xs) true),RV.its (.bor (.lst ys))with
  | some (xs,n),some (ys,m)=>kK (xs++ys) (n&&m)
  | _,_=>none)=_
 have e:RV.its (.bor (.lst ys))=some (ys,true):=by
  show(if imms ys then some (ys,true)else none)=_;rw[hy];rfl
 rw[e];show kK (xs++ys) (true&&true)=_;unfold kK;rw[Gu (by rw[G6];exact hz)];rfl
theorem sufx(cells:List aF)(i:Nat)(c:aF)(h:cells.reverse[i]? =some c):(cells.reverse.take (i+1)).reverse=c::(cells.reverse.take i).reverse:=by
 rw[ii h,Ip];rfl
theorem uU(j s:Nat)(cells:List aF):∀i,(fd (SK j) s (cells.reverse.take i).reverse).length<=(fd (SK j) s cells).length:=by
 have key:∀(p l:List aF),(fd (SK j) s l).length<=(fd (SK j) s (p++l)).length:=by
  intro p
  induction p with
  | nil=>intro l;exact Gr _
  | cons c p ih=>intro l;exact HP (ih l) (ye (SK j) s c (p++l))
 intro i;have e:cells=(cells.reverse.drop i).reverse++(cells.reverse.take i).reverse:=by
  rw[<- Ip,Ha,KH]
 rw[e];have e2:((cells.reverse.drop i).reverse++(cells.reverse.take i).reverse).reverse.take i=cells.reverse.take i:=by rw[<- e]
 rw[e2];exact key _ _
theorem c188(k j s:Nat)(hj:j<3)(hs:1<=s)(s8:s<=8)(cells:List aF)(h64:cells.length<=64):aG P (k+2) 188 [.str (aI j),.lst (aE cells),.int (s:Nat),.int 1000] =
  some (if(fd (SK j) s cells).length<=1000 then .lst ((fd (SK j) s cells).map pV)else .non):=by
 refine br rfl rfl ?_;simp only[ym,entry];have icl:imm (PV.lst (aE cells))=false:=rfl;walk_at "ev";have rl:(aE cells).reverse=cells.reverse.map fun c=>aV c.1 c.2:=by unfold aE;rw[List.map_reverse]
 refine cH (xs:=cells.reverse.map fun c=>aV c.1 c.2) (n:=false) ?_ (fun i τ=>(∃a b c d,τ=[.frz (.str (aI j)) true,.frz (.lst (aE cells)) false,.frz (.int (s:Nat)) true,.frz (.int 1000) true,.frz (.lst ((fd (SK j) s (cells.reverse.take i).reverse).map pV)) true,a,b,c,d])/\(fd (SK j) s (cells.reverse.take i).reverse).length<=1000) ⟨⟨_,_,_,_,rfl⟩,by show 1<=1000;decide⟩ ?_ ?_
 ·walk_at "ev"
  rw[rl]
 ·rintro i y τ hy ⟨⟨a,b,c,d,rfl⟩,hlen⟩
  rw[HG]at hy;obtain⟨x,hx,rfl⟩:=map_some hy;obtain⟨L,hL⟩:=rX j s (cells.reverse.take i).reverse;have nx:=yd j s hs x _ L hL;rw[<- sufx cells i x hx]at nx;rw[hL]at hlen ⊢;rw[HC]at hlen;have hp:∀p∈L,p.length<=64:=fun p hp=>HP (jY (SK j) s _ p (by rw[hL];exact Gs _ hp)) (by omega);have nf:(cZ j s x L).length<=1000:=by
   unfold cZ;rw[Go];exact HP (JI _ _) (by omega)
  refine⟨_,rfl,?_⟩;obtain⟨a7,a8,e⟩:=oG k j s 1000 hj x L (.lst (aE cells)) .non c d (by omega) hp;show To (bD _ _ _ [.frz (.str (aI j)) true,.frz (.lst (aE cells)) false,.frz (.int (s:Nat)) true,.frz (.int 1000) true,.frz (.lst (([]::L).map pV)) true,.frz (aV x.1 x.2) true,b,c,d]) _;rw[bn]
  have e6:bz (aG P (k+1)) 1000000 (.asg 6 true [5] (.lst (.cons (.tup (.cons (.var 5) .nil)) .nil))) [.frz (.str (aI j)) true,.frz (.lst (aE cells)) false,.frz (.int (s:Nat)) true,.frz (.int 1000) true,.frz (.lst (([]::L).map pV)) true,.frz (aV x.1 x.2) true,b,c,d] =
   some (.nx [.frz (.str (aI j)) true,.frz (.lst (aE cells)) false,.frz (.int (s:Nat)) true,.frz (.int 1000) true,.frz (.lst (([]::L).map pV)) true,.frz (aV x.1 x.2) true,.own [pV [x]] true,c,d]):=rfl
  rw[e6,Hf];show To (bD _ _ _ _) _;rw[bn,e,Hf];show To (bD _ _ _ _) _;walk_at "ev";rw[Hy (show(0:Int)<(s:Nat)by omega)];walk_at "ev";rw[Ce (by simp only[HC,Go];omega) (show imms (pV [x]::List.map pV (cZ j s x L))=true from rL ([x]::cZ j s x L))];walk_at "ev";have en:pV []::(List.map pV L++pV [x]::List.map pV (cZ j s x L))=(fd (SK j) s (cells.reverse.take (i+1)).reverse).map pV:=by
   rw[nx];simp
  have ln:(fd (SK j) s (cells.reverse.take (i+1)).reverse).length=(List.map pV L++pV [x]::List.map pV (cZ j s x L)).length+1:=by
   rw[nx];simp
  have mono:=uU j s cells (i+1)
  by_cases few:(fd (SK j) s (cells.reverse.take (i+1)).reverse).length<=1000
  ·rw[HS (show¬(1000:Int)<(((List.map pV L++pV [x]::List.map pV (cZ j s x L)).length+1:Nat):Int)by omega),en]
   walk_at "ev";exact⟨⟨_,_,_,_,rfl⟩,few⟩
  ·rw[Hy (show(1000:Int)<(((List.map pV L++pV [x]::List.map pV (cZ j s x L)).length+1:Nat):Int)by omega)]
   walk_at "ev";rw[Gq (by omega)]
 ·rintro τ ⟨⟨a,b,c,d,rfl⟩,hlen⟩
  rw[Go,I0]at hlen ⊢;have e:(cells.reverse.take cells.length).reverse=cells:=by rw[IQ (by simp),KH]
  rw[e]at hlen ⊢;walk_at "ev";rw[Gu hlen]
section
open PySem.Spec PyProof.Rows L2.XN XE
theorem nD:∀{ls:List PV}{rows:List Str},fY ls=some rows->ls=rows.map .str
 | [],_,h=>by cases h;rfl
 | x::ls,rows,h=>by
  cases x with
  | str z =>
   have h:(fY ls).map (z::·)=some rows:=h;obtain⟨r,hr,h⟩:=map_some h;subst h;rw[nD hr];rfl
  | _=>cases h
structure oq(K:W.Frag)(mg:Str->Option Value)(C D c1 c2 c3:Addr):Prop where
 kC:ww K mg "TooGreat" C
 kD:ww K mg "BoardError" D
 k1:ww K mg "NoBoard" c1
 k2:ww K mg "NoPlacing" c2
 k3:ww K mg "NoStair" c3
 q:W.excIn K C [.type "ValueError",.type "Exception",.type "BaseException",.type "object"] "ValueError.__new__"=true
 xc:XC K C
 sC:W.subIn K (.ref C) (.ref C)=some true
 sD:W.subIn K (.ref C) (.ref D)=some true
 sB:W.subIn K (.ref D) (.type "BaseException")=some true
 sV:W.subIn K (.ref C) (.type "ValueError")=some true
 s1:W.subIn K (.ref C) (.ref c1)=some false
 s2:W.subIn K (.ref C) (.ref c2)=some false
 s3:W.subIn K (.ref C) (.ref c3)=some false
 n1:C≠c1
 n2:C≠c2
 n3:C≠c3
theorem oq.xcls{K:W.Frag}{mg:Str->Option Value}{C D c1 c2 c3:Addr}{base:Heap}(c:oq K mg C D c1 c2 c3)(md:Mod K mg base):zH mg base "TooGreat" C :=
 ⟨⟨_,_,_,_,_,_,_,_,BI md.kin c.kC.nm c.q,PySem.F.excBase_ValueError,rfl,PySem.F.excBase_ValueError⟩,by decide⟩
noncomputable def nB:List Stmt->List Stmt
 | .Try _ [.ExceptHandler _ _ s _] _ _ _::_=>s
 | _::r=>nB r
 | []=>[]
end
section
open PySem.Spec PyProof.Rows L2.XN XE
theorem pH:aX Gd ["_law_kind_here","_law_board_here","_law_size"] (aA j7):=⟨rfl,rfl,rfl,by decide +kernel,rfl,by decide +kernel,by decide +kernel⟩
theorem lv8{k:Nat}{v:PV}(h:aG P k 20008 [.non]=some v):9<=k:=by
 by_cases hk:9<=k
 ·exact hk
 ·have z:∀j,j<9->(aG P j 20008 [.non]).isNone=true:=by decide +kernel
  have:=z k (by omega);rw[h]at this;cases this
theorem tL{z:Str}{j:Nat}(h:jP z=some j):j<3/\z=aI j:=by
 unfold jP at h
 split at h
 ·cases h;rename_i e;exact⟨by decide,e⟩
 ·split at h
  ·cases h;rename_i e;exact⟨by decide,e⟩
  ·split at h
   ·cases h;rename_i e;exact⟨by decide,e⟩
   ·cases h
theorem qo{k:Nat}{vs:List PV}{r:PV}(h:aG P (k+1) 189 vs=some r):9<=k/\∃(j:Nat)(z:Str)(rs:List Str)(n:Nat),j<3/\vs=[.str (aI j),.tup ((z::rs).map .str),.int (n:Nat)]/\(z::rs).length<=8/\z.length<=8/\(∀y∈z::rs,y.length=z.length)/\n<=8 /\
  (aC (z::rs)).length<=64/\¬bI (SK j) n (aC (z::rs))<=1000/\r=.bl true:=by
 rw[qJ]at h;have hP:P 189=some yk:=rfl;rw[hP,Hf]at h
 split at h
 case isFalse=>cases h
 rename_i hl;have hl:vs.length=3:=hl
 match vs,hl with
 | [u,v,w],_ =>
  simp only[yk,AJ,AK,iL,gr,gz,gw,iA,iD,gq,hV,iI,iG,iN,hZ,hU,hJ,iH,gv,gu,gt,iF,iE,iM,iK,iJ,iC,iB,g9,hX,dH,cx,dN,dU,dJ,dj,dP,dB,dC,df,dM,dO,dW,dD,cy,dh,di,dg,de,dG,cz,dR,dF,dE,dc,dZ,dS,AL,AM,entry,Hf,Iz,HW,List.map_nil,cE]at h;cases h9:aG P k 20008 [.non]with
  | none=>rw[h9]at h;cases h
  | some x =>
   rw[h9]at h;refine⟨lv8 h9,?_⟩;simp only[Iz,Hf,lj]at h;have e:(([TV.frz u (imm u),TV.frz v (imm v),TV.frz w (imm w)]++List.replicate (6-[u,v,w].length) TV.un).take 3).map TV.valD=[u,v,w]:=rfl;rw[e]at h;cases hg:uv [u,v,w]with
   | none=>rw[hg]at h;cases h
   | some r' =>
    rw[hg]at h;have h:some r' =some r:=h;cases h;unfold uv at hg
    split at hg
    case h_2=>cases hg
    rename_i kd zs size heq;cases heq;cases ek:jP kd with
    | none=>rw[ek]at hg;cases hg
    | some j =>
     rw[ek,Hf]at hg;cases et:fY zs with
     | none=>rw[et]at hg;cases hg
     | some rows =>
      rw[et]at hg;cases rows with
      | nil=>cases hg
      | cons z rs =>
       simp only[Hf]at hg
       split at hg
       ·rename_i hc
        obtain⟨g1,g2,g3,g4,g5,g6,g7⟩:=hc;obtain⟨k1,k2⟩:=tL ek;obtain⟨n,rfl⟩:∃n:Nat,size=(n:Nat):=⟨size.toNat,by omega⟩;refine⟨j,z,rs,n,k1,?_,g1,g2,fun y hy=>by simpa using HK.mp g3 y hy,by omega,g6,?_,(HM hg).symm⟩
        ·rw[nD et,k2]
        ·have:((n:Nat):Int).toNat=n:=rfl
         rw[this]at g7;omega
       ·cases hg
theorem tm{X:Cx}{K:W.Frag}{e C c1 c2 c3:Addr}{dd:Option Addr}{oe:Obj}(hK:X.K=K)(hp:(e,oe)∈X.pn)(hx:Dd C e dd oe)(xc:XC K C)(k1:W.kitOne K (.ref C) (.ref c1)=some false)(k2:W.kitOne K (.ref C) (.ref c2)=some false)(k3:W.kitOne K (.ref C) (.ref c3)=some false) :
  bL X (.builtin "isinstance") (fun xs H Q=>∃tp,xs=[.ref e,.ref tp]/\H tp=some (.tup [.ref c1,.ref c2,.ref c3])/\dd=none/\Q (.bl false) H):=by
 subst hK;intro pins s σ H xs us Q I r h;obtain⟨tp,rfl,ht,hd,q⟩:=h;obtain⟨u1,u2,rfl,r1,r2⟩:=vals2 r;cases r1;cases r2;obtain⟨p1,-,-,-,-⟩:=I.pin (e,oe) (JO _ hp);obtain⟨x1,x2,vs,x3⟩:=hx;have ia:W.InstAt s.heap e oe C none:=⟨p1,x1,by unfold W.notCls;rw[x3],by rw[x2,hd];trivial⟩;obtain⟨its,rt,tt,_⟩:=I.tuple (ba.of ht);cases rt with
 | cons a1 rt=>cases rt with
  | cons a2 rt=>cases rt with
   | cons a3 rt =>
    cases rt;cases a1;cases a2;cases a3;obtain⟨⟨cls,dct,data,sl⟩,ho,hc,n,hdt⟩:=id tt;simp only at hc hdt;subst hc hdt;have ka:W.kitAny X.K (.ref C) [.ref c1,.ref c2,.ref c3]=some false:=by
     unfold W.kitAny;rw[k1];unfold W.kitAny;dsimp only;rw[k2];unfold W.kitAny;dsimp only;rw[k3];rfl
    exact W.kia_tup (FV xc) I.kIn ⟨oe,_,ia⟩ ho ka (fun z=>by cases z) fun tk=>⟨.bl false,H,I.tok _,rfl,q⟩
theorem uT{K:W.Frag}{mg:Str->Option Value}{f C D c1 c2 c3:Addr}{p:Program}{w:World}{base:Heap}{cdv:Value}{A:Around}{outer:List Env}{s:Shared}{H0:Hp}{E:XK}(hi:mg "isinstance"=none)(hv:mg "ValueError"=none)(cl:oq K mg C D c1 c2 c3) :
  ∃ts:Addr->Option Addr->TS,(∀(e:Addr)(dd:Option Addr)(oe:Obj)(pn:List (Addr×Obj)),Dd C e dd oe->my (zr (fw oz p w K mg base Gd "_law_refused" (aA j7) f cdv A outer s H0 E).nox e ((e,oe)::pn)) (nB (aD j7)) (ts e dd)) /\
   ∀(e:Addr)(D:cw)(σ:L2.St)(H:Hp),σ.length=6->σ[4]? =some (some (.ref e))->(∀p H',aB H H' ->H' p=some (.lst [.bl true,.bl false,.bl true])->D.nx ((σ.set 5 (some (.bl false))).set 3 (some (.ref p))) H')->ts e none D σ H:=by
 have nd:=pH.nd
 have isR:∀{X:Cx}{e:Addr}{dd:Option Addr}{oe:Obj}{bb:Bool}(c:Addr),X.K=K->(e,oe)∈X.pn->Dd C e dd oe->W.kitOne K (.ref C) (.ref c)=some bb->bL X (.builtin "isinstance") (fun xs H Q=>xs=[.ref e,.ref c]/\dd=none/\Q (.bl bb) H) :=
  fun c h1 h3 h4 h6=>oa h3 h4 (by rw[h1];exact cl.xc) (fun v z=>z) (by rw[h1];exact h6)
 have isT:∀{X:Cx}{e:Addr}{dd:Option Addr}{oe:Obj}{bb:Bool}(c:String),X.K=K->(e,oe)∈X.pn->Dd C e dd oe->W.kitOne K (.ref C) (.type c)=some bb->bL X (.builtin "isinstance") (fun xs H Q=>xs=[.ref e,.ty c]/\dd=none/\Q (.bl bb) H) :=
  fun c h1 h3 h4 h6=>oa h3 h4 (by rw[h1];exact cl.xc) (fun v z=>z) (by rw[h1];exact h6)
 refine⟨_,fun e dd oe pn hx=>eD (gQ (i:=5) nd rfl (Or.inl rfl) (cR (tm (K:=K) (c1:=c1) (c2:=c2) (c3:=c3) rfl (Gw ..) hx cl.xc (cl.k1.kit cl.s1 fun z=>absurd z cl.n1) (cl.k2.kit cl.s2 fun z=>absurd z cl.n2) (cl.k3.kit cl.s3 fun z=>absurd z cl.n3)) rfl hi boot_isinstance
    (aN (pv 4) (aN (vL (aN (fj (v:=.ref c1) rfl cl.k1.nm rfl) (aN (fj (v:=.ref c2) rfl cl.k2.nm rfl) (aN (fj (v:=.ref c3) rfl cl.k3.nm rfl) az)))) az))))
   (mG (gQ (i:=3) nd rfl (Or.inl rfl) (pP (aN (cR (isR C rfl (Gw ..) hx (cl.kC.kit cl.sC fun _=>rfl)) rfl hi boot_isinstance (aN (pv 4) (aN (fj (v:=.ref C) rfl cl.kC.nm rfl) az)))
    (aN (pv 5) (aN (cR (isT "ValueError" rfl (Gw ..) hx (Bp cl.sV (by decide +kernel))) rfl hi boot_isinstance (aN (pv 4) (aN (ze (n:="ValueError") rfl hv rfl) az))) az)))))),?_⟩
 intro e D σ H hl he q;refine⟨_,he,(by show 3<=sizeLine;decide),fun t ht=>⟨t,rfl,am,rfl,?_⟩⟩;have h5:(σ.set 5 (some (.bl false)))[5]? =some (some (.bl false)):=by rw[IB (by omega)]
 have h4:(σ.set 5 (some (.bl false)))[4]? =some (some (.ref e)):=by rw[Hg (by decide)];exact he
 refine⟨_,h4,rfl,rfl,_,h5,_,h4,rfl,rfl,(by show 3<=sizeLine;decide),fun l hl=> ?_⟩;have s1:aB H (upd H t (.tup [.ref c1,.ref c2,.ref c3])):=(aB.refl H).upd ht;exact q l _ (s1.upd (s1.free hl)) am
theorem yZ{K:PySem.W.Frag}{mg:Str->Option Value}{f C D c1 c2 c3:Addr}{fd:FuncData}(hi:mg "isinstance"=none)(hv:mg "ValueError"=none)(cl:oq K mg C D c1 c2 c3)(Df:i7 K mg "_law_refused" j7 ["_law_kind_here","_law_board_here","_law_size"] f fd)(p:Program)(w:World)(base:Heap)(k:Nat)
  (IH:jk K mg P F p w base k):bu p w K mg base oz (k+1) f fd ["_law_kind_here","_law_board_here","_law_size"] (zY K (aG P (k+1) 189)):=by
 have len:∀vs H Q E,zY K (aG P (k+1) 189) vs H Q E->vs.length=["_law_kind_here","_law_board_here","_law_size"].length:=fun vs H Q E h=>by
  obtain⟨pvs,r,h1,h2,_⟩:=h;obtain⟨_,j,z,rs,n,_,e,_⟩:=qo h2;rw[<- h1.len,e];rfl
 refine CB len fun md=> ?_;refine Df.fn.ok pH len fun cdv A outer s H vs Q E hr h=> ?_;obtain⟨pvs,r,h1,h2,q⟩:=h;obtain⟨hk,j,z,rs,n,hj,rfl,g1,g2,g3,g4,g5,g6,er⟩:=qo h2;subst er;obtain⟨b,gd,qs,m1,m2,m3,F0,FX⟩:=IH "all_placings" 184 rfl;have FX:=FX "TooGreat" C (cl.xcls md);have hw:Wd (z::rs) z.length:=g3;have nd:=pH.nd;obtain⟨u1,u2,u3,rfl⟩:∃u1 u2 u3,vs=[u1,u2,u3]:=by
  unfold aJ at h1;obtain⟨u1,us,rfl,_,h1⟩:=h1;unfold aJ at h1;obtain⟨u2,us,rfl,_,h1⟩:=h1;unfold aJ at h1;obtain⟨u3,us,rfl,_,h1⟩:=h1;unfold aJ at h1;exact⟨u1,u2,u3,by rw[h1]⟩
 obtain⟨ts,hS,rS⟩:=uT (p:=p) (w:=w) (base:=base) (f:=f) (cdv:=cdv) (A:=A) (outer:=outer) (s:=s) (H0:=H) (E:=E) hi hv cl;have hc:=x184 (k-5) j n (z::rs) z.length hw g1 g2 g5 g4 g6;rw[show k-5+5=k by omega]at hc
 refine⟨_,eD (gQ (i:=3) nd rfl (Or.inl rfl) vN) (eD (A7 (C:=C) (D:=D) (i:=4) rfl rfl rfl nd rfl rfl rfl cl.kD.nm (cl.kD.exm cl.sD cl.sB)
   (fun E pn W hp=>mG (mH (vP FX hr rfl m1 m2 m3 .nil hp (aN (pv 0) (aN (pv 1) (aN (pv 2) az)))))) hS)
   (mG (pN (qu (vV (Hi:=H) hr.units) (pv 3) (pP (aN qw (aN qw (aN qw az)))) (Ba _))))),?_⟩
 show EA C 4 _ ts _ [some u1,some u2,some u3,some .non,none,none] H;refine⟨fun σ' cls dd H' =>σ' =[some u1,some u2,some u3,some .non,none,none]/\dd=none/\aB H H',?_,fun σ' H' dd _ z e he=> ?_⟩
 ·exact⟨u1,rfl,u2,rfl,u3,rfl,_,h1,hc,fun H' s' =>⟨rfl,rfl,s'⟩⟩
 ·obtain⟨rfl,rfl,s'⟩:=z
  refine rS e _ _ H' rfl rfl fun p H2 s2 hp=> ?_;refine⟨_,rfl,(by show 3<=sizeLine;decide),fun l hl=> ?_⟩;have pl:p≠l:=fun z=>by rw[<- z,hp]at hl;cases hl
  have s3:aB H H2:=s'.trans s2;have b3:∀G:Hp,aJ K H false [.bl true,.bl false,.bl true] G [.bl true,.bl false,.bl true]:=fun G=>.cons (Rp.bl.mpr rfl) (.cons (Rp.bl.mpr rfl) (.cons (Rp.bl.mpr rfl) .nil));refine⟨.lst [.bl true,.bl false,.bl true],.lst [.bl true,.bl false,.bl true],rfl,rfl,Rp.lst.mpr ⟨p,_,rfl,(fun z=>by cases z),bP.of (by rw[aR pl];exact hp),b3 _⟩,Rp.lst.mpr ⟨l,_,rfl,(fun z=>by cases z),bP.of am,b3 _⟩,?_⟩;exact q _ _ (s3.upd (s3.free hl)) (Rp.bl.mpr rfl)
end
theorem at_2{α:Type}{x y z:α}{xs:List α}:L2.ed (x::y::z::xs) 2=some z:=by
 have:=eZ (xs:=x::y::z::xs) (j:=2) (v:=z) (by simp);exact this
theorem c187(k:Nat)(x:Int):∃j,j<3/\aG P (k+1) 187 [.int x]=some (.str (aI j)):=by
 have h:x%3=0\/x%3=1\/x%3=2:=by omega
 rcases h with h|h|h
 ·refine⟨0,by decide,br rfl rfl ?_⟩
  simp only[wO,entry];walk_at "go";rw[h];walk_at "ev";rfl
 ·refine⟨1,by decide,br rfl rfl ?_⟩
  simp only[wO,entry];walk_at "go";rw[h];walk_at "ev";rfl
 ·refine⟨2,by decide,br rfl rfl ?_⟩
  simp only[wO,entry];walk_at "go";rw[h,at_2];walk_at "ev";rfl
theorem vk(j:Nat)(hj:j<3):jP (aI j)=some j:=by
 have:j=0\/j=1\/j=2:=by omega
 rcases this with rfl|rfl|rfl
 ·rfl
 ·unfold jP
  rw[Gq (by decide),Gu rfl]
 ·unfold jP
  rw[Gq (by decide),Gq (by decide),Gu rfl]
theorem c189(j n:Nat)(hj:j<3)(z:Str)(rs:List Str)(h1:(z::rs).length<=8)(h2:z.length<=8)(h3:∀y∈z::rs,y.length=z.length)(n8:n<=8)(h64:(aC (z::rs)).length<=64)(many:¬bI (SK j) n (aC (z::rs))<=1000) :
  aG P 38 189 [.str (aI j),.tup ((z::rs).map .str),.int (n:Nat)]=some (.bl true):=by
 refine run rfl rfl ?_;have e9:aG P 37 20008 [.non]=some .non:=rfl;have et:∀l:List Str,fY (l.map .str)=some l:=by
  intro l
  induction l with
  | nil=>rfl
  | cons x l ih=>rw[HW,fY,ih];rfl
 have eg:uv [.str (aI j),.tup ((z::rs).map .str),.int (n:Nat)]=some (.bl true):=by
  unfold uv;dsimp only;rw[vk j hj,Hf,et];simp only[Hf];rw[Gu ⟨h1,h2,by rw[HK];intro y hy;rw[h3 y hy];simp,by omega,by omega,h64,by show 1000<bI (SK j) n _;omega⟩]
 simp only[yk,AJ,AK,iL,gr,gz,gw,iA,iD,gq,hV,iI,iG,iN,hZ,hU,hJ,iH,gv,gu,gt,iF,iE,iM,iK,iJ,iC,iB,g9,hX,dH,cx,dN,dU,dJ,dj,dP,dB,dC,df,dM,dO,dW,dD,cy,dh,di,dg,de,dG,cz,dR,dF,dE,dc,dZ,dS,AL,AM,entry,Hf,Iz,HW,List.map_nil,cE,sc];rw[e9];simp only[Iz,Hf,lj];have e:(([TV.frz (PV.str (aI j)) (imm (PV.str (aI j))),TV.frz (PV.tup (.str z::rs.map .str)) (imm (PV.tup (.str z::rs.map .str))),TV.frz (PV.int (n:Nat)) (imm (PV.int (n:Nat)))]++List.replicate (6-[PV.str (aI j),PV.tup (.str z::rs.map .str),PV.int (n:Nat)].length) TV.un).take 3).map TV.valD=[.str (aI j),.tup ((z::rs).map .str),.int (n:Nat)]:=rfl;rw[e,eg];rfl
theorem nP{α:Type}[DecidableEq α]:∀{a b:List α},a.Nodup->(∀x∈a,x∈b)->b.length<=a.length->a.Perm b
 | [],b,_,_,h=>by
  have:b=[]:=List.eq_nil_of_length_eq_zero (by simpa using h);rw[this]
 | x::a,b,hn,hs,h=>by
  obtain⟨n1,n2⟩:=IP.mp hn;have hx:=hs x Gw;have l1:=List.length_erase_of_mem hx;rw[HC]at h;have:=nP (a:=a) (b:=b.erase x) n2 (fun y hy=>(List.mem_erase_of_ne (fun e=>n1 (by rw[<- e];exact hy))).mpr (hs y (Gs _ hy))) (by omega);exact(this.cons x).trans (List.perm_cons_erase hx).symm
theorem py{α:Type}{S:α->α->Bool}{s:Nat}:∀{l p:List α},p.Sublist l->p.Pairwise (fun u v=>S u v=false)->p.length<=s->p∈fd S s l
 | [],p,h,_,_=>by
  rw[List.sublist_nil.mp h];exact HF.mpr rfl
 | c::l,p,h,a,z=>by
  show p∈fd S s l++_;rw[Hr]
  rcases List.sublist_cons_iff.mp h with i|⟨r,rfl,i⟩
  ·exact .inl (py i a z)
  ·obtain⟨a1,a2⟩:=List.pairwise_cons.mp a
   rw[HC]at z;refine .inr (HY.mpr ⟨r,Iq.mpr ⟨py i a2 (by omega),?_⟩,rfl⟩);rw[Gv,Hd,HK];exact⟨by omega,fun x hx=>by rw[a1 x hx];rfl⟩
theorem mX{α:Type}{S:α->α->Bool}{s:Nat}:∀{l p:List α},p∈fd S s l->p.Sublist l
 | [],p,h=>by rw[HF.mp h];exact .slnil
 | c::l,p,h=>by
  rcases Hr.mp (show p∈fd S s l++_ from h)with h|h
  ·exact(mX h).cons _
  ·obtain⟨r,hr,rfl⟩:=HY.mp h
   exact(mX (Iq.mp hr).1).cons_cons _
noncomputable def ef(c:aF):Int×Int:=(((c.1:Nat):Int),((c.2:Nat):Int))
theorem lT(l:List aF):aE l=(l.map ef).map bZ:=by
 unfold aE;rw[Iu];rfl
noncomputable def ltN(a c:aF):Bool:=FM (ef a) (ef c)
theorem lS:∀(rs:List (List Nat))(i:Nat),(∀r∈rs,r.Pairwise (·<·))->(bX i rs).Pairwise fun a c=>ltN a c=true/\ltN c a=false
 | [],i,_=>.nil
 | r::rs,i,h=>by
  rw[bX,Hz];refine⟨?_,lS rs (i+1) fun y hy=>h y (Gs _ hy),fun a ha c hc=> ?_⟩
  ·unfold qk
   rw[Ih];refine(h r Gw).imp fun{x y} z=> ?_;unfold ltN FM ef;simp only[JY];exact⟨Hy (by omega),HS (by omega)⟩
  ·obtain⟨x,_,rfl⟩:=HY.mp ha
   have:=(fN (i+1) rs c hc).1;unfold ltN FM ef;simp only;rw[Gq (by omega),Gq (by omega)];exact⟨Hy (by omega),HS (by omega)⟩
theorem tZ(rows:List Str):(aC rows).Pairwise fun a c=>ltN a c=true/\ltN c a=false:=lS _ 0 fun r hr=>by
 obtain⟨z,_,rfl⟩:=HY.mp hr;exact List.Pairwise.filter _ List.pairwise_lt_range
theorem cr:∀(rs:List (List Nat))(i:Nat)(c:aF),c∈bX i rs->∃r∈rs,c.2∈r
 | [],i,c,h=>by cases h
 | r::rs,i,c,h=>by
  rw[bX]at h
  rcases Hr.mp h with z|z
  ·obtain⟨x,hx,rfl⟩:=HY.mp z
   exact⟨r,Gw,hx⟩
  ·obtain⟨y,hy,h2⟩:=cr rs (i+1) c z
   exact⟨y,Gs _ hy,h2⟩
theorem qF{rows:List Str}{w:Nat}(hw:Wd rows w):∀c∈aC rows,c.2<w:=fun c hc=>by
 obtain⟨r,hr,h⟩:=cr _ _ _ hc;obtain⟨z,hz,rfl⟩:=HY.mp hr;have:=Ib.mp (Iq.mp h).1;rw[hw z hz]at this;exact this
theorem rH:∀p:List aF,OD.t9 ltN p p=false
 | []=>rfl
 | x::p=>by
  show(if x=x then OD.t9 ltN p p else _)=false;rw[Gu rfl];exact rH p
theorem yM{x y:Int×Int}(hx:0<=x.2/\x.2<1000)(hy:0<=y.2/\y.2<1000)(h:FM x y=true):SW.ak x<SW.ak y:=by
 unfold FM at h;unfold SW.ak
 split at h<;>rw[Hd]at h<;>omega
theorem rG:∀{p q:List aF}{k:Int},p.length=q.length->qW (p.map ef)->qW (q.map ef)->OD.t9 ltN p q=true->bT k (p.map ef)<bT k (q.map ef)
 | [],[],_,_,_,_,h=>by cases h
 | [],_::_,_,h,_,_,_=>by cases h
 | _::_,[],_,h,_,_,_=>by cases h
 | x::p,y::q,k,hl,hp,hq,h=>by
  have g:(if x=y then OD.t9 ltN p q else ltN x y)=true:=h;have hl' :p.length=q.length:=KL hl;have hp' :qW (p.map ef):=fun z hz=>hp z (Gs _ hz);have hq' :qW (q.map ef):=fun z hz=>hq z (Gs _ hz);show bT (k*1000000+SW.ak (ef x)) (p.map ef)<bT (k*1000000+SW.ak (ef y)) (q.map ef)
  split at g
  ·rename_i e
   subst e;exact rG hl' hp' hq' g
  ·have:=yM (hp _ Gw).2 (hq _ Gw).2 g
   exact ir (by rw[Go,Go];exact hl') hp' hq' (by omega)
theorem xP(j s:Nat)(l:List aF)(hl:l.Pairwise fun a c=>ltN a c=true/\a≠c)(hb:∀c∈l,c.1<8/\c.2<8) :
  cA (((fd (SK j) s l).filter fun p=>decide (p.length=s)).map fun p=>p.map ef)=((lv (SK j) l s).map (·.1)).map fun p=>p.map ef:=by
 have bd:∀p:List aF,p.Sublist l->qW (p.map ef):=fun p hp q hq=>by
  obtain⟨c,hc,rfl⟩:=HY.mp hq;have:=hb c (hp.subset hc);unfold ef;dsimp only;omega
 have lvp:∀p∈(lv (SK j) l s).map (·.1),p.Sublist l/\p.length=s/\p.Pairwise fun u v=>SK j u v=false:=fun p hp=>by
  obtain⟨x,hx,rfl⟩:=HY.mp hp;obtain⟨a,b,i⟩:=lvI hx;exact⟨by rw[i.cut];exact i.sub.trans (List.sublist_append_left _ _),eV _ hx,i.apart⟩
 symm
 refine eo (n:=s) (fun q hq=> ?_) (List.Perm.map _ (nP ?_ (fun p hp=> ?_) ?_)) ?_
 ·obtain⟨p,hp,rfl⟩:=HY.mp hq
  obtain⟨h1,h2⟩:=Iq.mp hp;exact⟨by rw[Go];simpa using h2,bd p (mX h1)⟩
 ·exact(pX hl s).imp fun{p q} h e=>by rw[e,rH]at h;cases h
 ·obtain⟨h1,h2,h3⟩:=lvp p hp
  exact Iq.mpr ⟨py h1 h3 (by omega),by simpa using h2⟩
 ·rw[mY _ s s (Gr s),Go,gT]
  exact Gr _
 ·rw[Ih]
  refine(pX hl s).imp_of_mem fun{p q} hp hq h=> ?_;obtain⟨h1,h2,_⟩:=lvp p hp;obtain⟨h3,h4,_⟩:=lvp q hq;exact Il (rG (by omega) (bd p h1) (bd q h3) h)
theorem lE:∀ps:List (Int×Int),cG (ps.map bZ)=some ps
 | []=>rfl
 | p::ps=>by
  show((vA (bZ p)).bind fun q=>(cG (ps.map bZ)).map (q::·))=_;rw[lE ps];rfl
theorem qf:∀L:List (List aF),lh (L.map pV)=some (L.map fun p=>p.map ef)
 | []=>rfl
 | p::L=>by
  show((cG (aE p)).bind fun q=>(lh (L.map pV)).map (q::·))=_;rw[qf L,lT,lE];rfl
theorem zW(L:List (List aF)):(L.map fun p=>p.map ef).map tV=L.map pV:=by
 rw[Iu];refine Hw fun p _=> ?_;show PV.tup ((p.map ef).map bZ)=.tup (aE p);rw[lT]
theorem ue(p:List aF)(xs:List PV):lA (pV p::xs)=none:=by
 cases p with
 | nil=>rfl
 | cons c p=>rfl
theorem sO{qs:List (List (Int×Int))}(h:qs.length<2):cA qs=qs:=by
 have:=dw qs
 match qs,h,this with
 | [],_,p=>exact List.Perm.eq_nil p
 | [q],_,p=>exact List.perm_singleton.mp p
 | _::_::_,h,_=>exact absurd h (by simp)
theorem sN(j s:Nat)(l:List aF)(a:RV)(hl:l.Pairwise fun a c=>ltN a c=true/\a≠c)(hb:∀c∈l,c.1<8/\c.2<8)(few:nI (SK j) s l<4096) :
  jA (((fd (SK j) s l).filter fun p=>decide (p.length=s)).map pV) a=some (.own (((lv (SK j) l s).map (·.1)).map pV) true):=by
 have e:=xP j s l hl hb;have len:=mY (SK j) s s (Gr s) l;have mem:∀p∈(fd (SK j) s l).filter fun p=>decide (p.length=s),p.Sublist l/\p.length=s:=fun p hp=>by
  obtain⟨h1,h2⟩:=Iq.mp hp;exact⟨mX h1,by simpa using h2⟩
 rw[<- zW ((lv (SK j) l s).map (·.1)),<-e]
 generalize (fd (SK j) s l).filter (fun p=>decide (p.length=s))=F at len mem e ⊢
 match F,len,mem with
 | [],_,_=>simp[jA,lA,bE,L2.sortI,cA]
 | p::F,len,mem =>
 unfold jA;rw[show lA ((p::F).map pV)=none from ue p _];dsimp only;unfold nE;rw[qf,Hf];have s1:(if((p::F).map fun p=>p.map ef).length<2 then some (RV.own ((p::F).map pV) true)else if((p::F).map fun p=>p.map ef).length<4096/\1<=(((p::F).map fun p=>p.map ef).headD []).length/\((p::F).map fun p=>p.map ef).all (DZ (((p::F).map fun p=>p.map ef).headD []).length)=true then some (.own ((cA ((p::F).map fun p=>p.map ef)).map tV) true)else none)=some (.own ((cA ((p::F).map fun p=>p.map ef)).map tV) true):=by
  split
  ·rename_i h
   rw[sO h,zW]
  ·rename_i h
   rw[Go]at h;have hp:=mem p Gw;have h0:(((p::F).map fun p=>p.map ef).headD []).length=s:=by
    show(p.map ef).length=s;rw[Go,hp.2]
   have s0:1<=s:=by
    cases s with
    | zero=>rw[cf]at len;exact absurd (by omega) h
    | succ s=>exact Nat.succ_le_succ (Hu _)
   have all:((p::F).map fun p=>p.map ef).all (DZ s)=true:=by
    rw[HK];intro q hq;obtain⟨r,hr,rfl⟩:=HY.mp hq;obtain⟨r1,r2⟩:=mem r hr;unfold DZ;rw[Go,r2,Gv,HK];refine⟨Hy rfl,fun x hx=> ?_⟩;obtain⟨c,hc,rfl⟩:=HY.mp hx;have:=hb c (r1.subset hc);unfold ef;simp only[Gv,Hd];omega
   rw[h0];exact Gu ⟨by rw[Go];omega,s0,all⟩
 rw[s1]
theorem rW(j:Nat):∀l:List aF,fd (SK j) 0 l=[[]]
 | []=>rfl
 | c::l=>by
  show fd (SK j) 0 l++((fd (SK j) 0 l).filter fun p=>decide (p.length<0)&&p.all fun x=> !SK j c x).map (c::·)=_;rw[rW j l];rfl
theorem GB(k j:Nat)(hj:j<3)(cells:List aF):aG P (k+2) 188 [.str (aI j),.lst (aE cells),.int (0:Nat),.int 1000]=some (.lst [pV []]):=by
 refine br rfl rfl ?_;simp only[ym,entry];walk_at "ev";have rl:(aE cells).reverse=cells.reverse.map fun c=>aV c.1 c.2:=by unfold aE;rw[List.map_reverse]
 refine cH (xs:=cells.reverse.map fun c=>aV c.1 c.2) (n:=false) ?_ (fun i τ=>∃a b c d,τ=[.frz (.str (aI j)) true,.frz (.lst (aE cells)) false,.frz (.int (0:Nat)) true,.frz (.int 1000) true,.frz (.lst (([]::([]:List (List aF))).map pV)) true,a,b,c,d]) ⟨_,_,_,_,rfl⟩ ?_ ?_
 ·walk_at "ev"
  rw[rl]
 ·rintro i y τ hy ⟨a,b,c,d,rfl⟩
  rw[HG]at hy;obtain⟨x,hx,rfl⟩:=map_some hy;refine⟨_,rfl,?_⟩;obtain⟨a7,a8,e⟩:=oG k j 0 1000 hj x [] (.lst (aE cells)) .non c d (by simp) (fun p hp=>by cases hp);show To (bD _ _ _ [.frz (.str (aI j)) true,.frz (.lst (aE cells)) false,.frz (.int (0:Nat)) true,.frz (.int 1000) true,.frz (.lst (([]::([]:List (List aF))).map pV)) true,.frz (aV x.1 x.2) true,b,c,d]) _;rw[bn]
  have e6:bz (aG P (k+1)) 1000000 (.asg 6 true [5] (.lst (.cons (.tup (.cons (.var 5) .nil)) .nil))) [.frz (.str (aI j)) true,.frz (.lst (aE cells)) false,.frz (.int (0:Nat)) true,.frz (.int 1000) true,.frz (.lst (([]::([]:List (List aF))).map pV)) true,.frz (aV x.1 x.2) true,b,c,d] =
   some (.nx [.frz (.str (aI j)) true,.frz (.lst (aE cells)) false,.frz (.int (0:Nat)) true,.frz (.int 1000) true,.frz (.lst (([]::([]:List (List aF))).map pV)) true,.frz (aV x.1 x.2) true,.own [pV [x]] true,c,d]):=rfl
  rw[e6,Hf];show To (bD _ _ _ _) _;rw[bn,e,Hf];exact⟨_,rfl,_,_,_,_,rfl⟩
 ·rintro τ ⟨a,b,c,d,rfl⟩
  walk_at "ev"
theorem GC(k j s:Nat)(hj:j<3)(s8:s<=8)(cells:List aF)(h64:cells.length<=64):aG P (k+2) 188 [.str (aI j),.lst (aE cells),.int (s:Nat),.int 1000] =
  some (if(fd (SK j) s cells).length<=1000 then .lst ((fd (SK j) s cells).map pV)else .non):=by
 cases s with
 | zero =>
  rw[GB k j hj cells,rW];rfl
 | succ s=>exact c188 k j (s+1) hj (by omega) s8 cells h64
theorem lF:∀L:List (List aF),plain.plains (L.map pV)=true
 | []=>rfl
 | p::L=>by
  have h:∀l:List aF,plain.plains (aE l)=true:=fun l=>by
   induction l with
   | nil=>rfl
   | cons c l ih=>exact ih
  show(plain.plains (aE p)&&plain.plains (L.map pV))=true;rw[h p,lF L];rfl
theorem wM:∀l:List aF,depth.depths (aE l)<=2
 | []=>by show 0<=2;omega
 | c::l=>by
  have:=wM l;show max (depth (aV c.1 c.2)) (depth.depths (aE l))<=2;have e:depth (aV c.1 c.2)<=2:=by simp[aV,depth,depth.depths]
  omega
theorem yj(L:List (List aF)):depth (.lst (L.map pV))<=4:=by
 have h:depth.depths (L.map pV)<=3:=by
  induction L with
  | nil=>show 0<=3;omega
  | cons p L ih =>
   have:=wM p;show max (depth.depths (aE p)+1) (depth.depths (L.map pV))<=3;omega
 show depth.depths (L.map pV)+1<=4;omega
theorem c193(j n:Nat)(hj:j<3)(n8:n<=8)(z:Str)(rs:List Str)(h1:(z::rs).length<=8)(h2:z.length<=8)(h3:∀y∈z::rs,y.length=z.length)(h64:(aC (z::rs)).length<=64) :
  aG P 39 193 [.str (aI j),.tup ((z::rs).map .str),.int (n:Nat)]=some (.bl true):=by
 refine br rfl rfl ?_;have im:=bt (z::rs);have e7:aG P 38 7 [.tup ((z::rs).map .str)]=_:=c7 37 (z::rs) z.length h3 (by simp) h1 h2;rw[fP (z::rs) z.length h3]at e7;have e188:=GC 36 j n hj n8 (aC (z::rs)) h64;unfold aE at e188;have fl:=wA (SK j) n (aC (z::rs));simp only[CS,entry];walk_at "ev";rw[show PV.tup (PV.str z::rs.map PV.str)=.tup ((z::rs).map .str)from rfl,e7];walk_at "ev";rw[e188]
 by_cases few:bI (SK j) n (aC (z::rs))<=1000
 ·have e184:aG P 38 184 [.str (aI j),.tup ((z::rs).map .str),.int (n:Nat)]=_:=GD 33 j n (z::rs) z.length h3 h1 h2 h64 n8 few
  rw[Gu (by omega)];walk_at "ev";have sz:=mY (SK j) n n (Gr _) (aC (z::rs));rw[Gu (by rw[Go];omega),cq (p:=fun p:List aF=>decide (p.length=n)) (g:=pV) (fun p hp=>by
   unfold pV;walk_at "ev";have e:(aE p).length=p.length:=by unfold aE;rw[Go]
   rw[e]
   by_cases q:p.length=n
   ·rw[Gu (by simp only[q,decide_true]),Gu (by simp only[q,decide_true])]
   ·rw[Gq (by simp only[Hd];omega),Gq (by simp only[Hd];omega)])]
  walk_at "ev";have hlt2:(aC (z::rs)).Pairwise fun a c=>ltN a c=true/\a≠c:=(tZ (z::rs)).imp fun{a c} h=>⟨h.1,fun e=>by rw[e]at h;rw[h.1]at h;cases h.2⟩;have hb:∀c∈aC (z::rs),c.1<8/\c.2<8:=fun c hc=>by
   have a1:=qF (rows:=z::rs) (w:=z.length) h3 c hc;have a2:=(fN 0 _ c hc).2;rw[Go]at a2;omega
  have lf:=JI (fun p:List aF=>decide (p.length=n)) (fd (SK j) n (aC (z::rs)));rw[sN j n (aC (z::rs)) _ hlt2 hb (by omega)];walk_at "ev";rw[show PV.tup (PV.str z::rs.map PV.str)=.tup ((z::rs).map .str)from rfl,e184];have em:(lv (SK j) (aC (z::rs)) n).map (fun x=>fh x.1)=((lv (SK j) (aC (z::rs)) n).map (·.1)).map pV:=by rw[Iu];rfl
  rw[em];have e9:aG P 38 9 [.lst (((lv (SK j) (aC (z::rs)) n).map (·.1)).map pV),.lst (((lv (SK j) (aC (z::rs)) n).map (·.1)).map pV)]=some (.bl true):=c9 4 30 _ (yj _) (lF _);have ll:((lv (SK j) (aC (z::rs)) n).map (·.1)).length<=1000:=by rw[Go,gT];omega
  walk_at "ev";rw[e9];walk_at "ev";rw[show∀xs:List PV,xs.length<=1000->qq 5 (PV.tup []) true [TV.frz (PV.str (aI j)) true,TV.frz (PV.tup (PV.str z::List.map PV.str rs)) (imms (List.map PV.str rs)),TV.frz (PV.int n) true,TV.frz (PV.lst (List.map pV (fd (SK j) n (aC (z::rs))))) true,TV.frz (PV.lst (List.map pV (List.map (fun x=>x.fst) (lv (SK j) (aC (z::rs)) n)))) true,TV.own xs true]=some (.nx [TV.frz (PV.str (aI j)) true,TV.frz (PV.tup (PV.str z::List.map PV.str rs)) (imms (List.map PV.str rs)),TV.frz (PV.int n) true,TV.frz (PV.lst (List.map pV (fd (SK j) n (aC (z::rs))))) true,TV.frz (PV.lst (List.map pV (List.map (fun x=>x.fst) (lv (SK j) (aC (z::rs)) n)))) true,TV.own (xs++[PV.tup []]) true])from fun xs hx=>Gu (show xs.length<16777216 by omega)]
  rotate_left
  ·rw[Go]
   exact ll
  walk_at "ev";rw[show PV.tup (PV.str z::rs.map PV.str)=.tup ((z::rs).map .str)from rfl,e184,em];walk_at "ev";rw[e9];walk_at "ev"
 ·have e189:=c189 j n hj z rs h1 h2 h3 n8 h64 few
  rw[Gq (by omega)];walk_at "ev";rw[show PV.tup (PV.str z::rs.map PV.str)=.tup ((z::rs).map .str)from rfl,e189];walk_at "ev"
theorem uu(c hi:Nat)(hc:0<c)(hc2:c<1000)(h:Builtin.Range.small 0 (hi:Int) (c:Int)=true/\(Builtin.Range.rangeSize 0 (hi:Int) (c:Int)).toNat=(hi+(c-1))/c):iW [sc (.int 0),sc (.int (hi:Nat)),sc (.int (c:Nat))]=some ((List.range ((hi+(c-1))/c)).map fun m=>.int (0+(m:Nat)*(c:Nat))):=by
 show(if(c:Int)≠0/\(c:Int).natAbs<1073741824/\Builtin.Range.small 0 (hi:Int) (c:Int)=true then some ((List.range (Builtin.Range.rangeSize 0 (hi:Int) (c:Int)).toNat).map fun m=>PV.int (0+(m:Nat)*(c:Int)))else none)=_;rw[Gu ⟨by omega,by omega,h.1⟩,h.2]
theorem step_at{c n i:Nat}{y:PV}(h:((List.range n).map fun m=>PV.int (0+(m:Nat)*(c:Nat)))[i]? =some y):y=.int ((c*i:Nat):Int):=by
 rw[HG]at h
 by_cases hi:i<n
 ·rw[II hi]at h
  rw[<- HM h];show PV.int (0+(i:Int)*(c:Int))=_
  congr 1
  rw[Int.zero_add,Int.mul_comm];rfl
 ·rw[Jd (by simpa using hi)]at h
  cases h
theorem sm3:∀hi:Nat,hi<64->(Builtin.Range.small 0 (hi:Int) ((3:Nat):Int)=true/\(Builtin.Range.rangeSize 0 (hi:Int) ((3:Nat):Int)).toNat=(hi+(3-1))/3):=by decide
theorem vi:∀ns:List Int,ns.length<=63->aG P 40 194 [.lst (ns.map PV.int)]=some (.bl true):=by
 intro ns h63;refine br rfl rfl ?_;simp only[CQ,entry];walk_at "ev";obtain⟨hi,hhi⟩:∃hi:Nat,hi=min (max ns.length 1) 6:=⟨_,rfl⟩;refine cH (xs:=(List.range ((hi+(3-1))/3)).map fun m=>.int (0+(m:Nat)*(3:Nat))) (n:=true) ?_ (fun i τ=>∃a b c,τ=[.frz (.lst (ns.map PV.int)) false,a,b,c]) ⟨_,_,_,rfl⟩ ?_ ?_
 ·walk_at "ev"
  simp only[Go];have q:(if(6:Int)<(if(1:Int)>(ns.length:Int)then 1 else(ns.length:Int))then(6:Int)else(if(1:Int)>(ns.length:Int)then 1 else(ns.length:Int)))=(hi:Int):=by
   split<;>split at* <;> omega
  rw[q];have:=uu 3 hi (by decide) (by decide) (sm3 hi (by omega));have:iW [RV.frz (PV.int 0) true,RV.frz (PV.int (hi:Int)) true,RV.frz (PV.int 3) true]=_:=this;rw[this];rfl
 ·rintro i y τ hy ⟨a,b,c,rfl⟩
  have ey:=step_at hy;subst ey;refine⟨_,rfl,?_⟩;obtain⟨hd,hhd⟩:∃hd,hd=ns.getD (3*i) 0:=⟨_,rfl⟩;obtain⟨ce,hce⟩:∃ce,ce=ns.getD (3*i+1) 0:=⟨_,rfl⟩;obtain⟨x,hx⟩:∃x,x=ns.getD (3*i+2) 0:=⟨_,rfl⟩;obtain⟨v6,e6,rows,bd,rfl⟩:=c6 37 hd ce 6 (by decide) (by decide);obtain⟨w,w1,w2,hw⟩:=bd.wide;have few:=bd.few;have e6:aG P 39 6 [.int hd,.int ce,.int 6]=some (.tup (rows.map PV.str)):=e6;have a0:aG P 39 4 [.lst (ns.map PV.int),.int ((3*i:Nat):Int)]=some (.int hd):=by rw[hhd];exact c4 38 ns (3*i)
  have a1:aG P 39 4 [.lst (ns.map PV.int),.int (((3*i:Nat):Int)+1)]=some (.int ce):=by rw[hce];exact c4 38 ns (3*i+1)
  have a2:aG P 39 4 [.lst (ns.map PV.int),.int (((3*i:Nat):Int)+2)]=some (.int x):=by rw[hx];exact c4 38 ns (3*i+2)
  obtain⟨j,hj,e187⟩:∃j,j<3/\aG P 39 187 [.int x]=some (.str (aI j)):=c187 38 x;obtain⟨n,hn⟩:∃n:Nat,x/3%9=(n:Nat):=⟨(x/3%9).toNat,by omega⟩;have e193:aG P 39 193 [.str (aI j),.tup (rows.map PV.str),.int (n:Nat)]=some (.bl true):=by
   match rows,bd.some,few,hw with
   | z::rs,_,few,hw =>
    have hz:z.length=w:=hw z Gw;exact c193 j n hj (by omega) z rs (by omega) (by omega) (fun y hy=>by rw[hw y hy,hz]) (qE _ (by omega) fun y hy=>by rw[hw y hy];omega)
  have im:=bt rows;walk_at "ev";rw[a0];walk_at "go";rw[a1];walk_at "ev";rw[e6];walk_at "go";rw[a2];walk_at "ev";rw[e187];walk_at "go";rw[hn,e193];walk_at "ev";exact⟨_,_,_,rfl⟩
 ·rintro τ ⟨a,b,c,rfl⟩
  have few:bI (SK 2) 2 (aC ["xx","xx"])<=1000:=by rw[<- wA];decide
  have hw:Wd [("xx":Str),("xx":Str)] 2:=fun y hy=>by
   rcases HE.mp hy with rfl|hy
   ·rfl
   ·rw[HF.mp hy];rfl
  have e184:aG P 39 184 [.str (aI 2),.tup (([("xx":Str),("xx":Str)]:List Str).map .str),.int (2:Nat)]=_:=GD 34 2 2 [("xx":Str),("xx":Str)] 2 hw (by decide) (by decide) (by decide) (by decide) few;have el:lv (SK 2) (aC ["xx","xx"]) 2=[]:=by decide
  rw[el]at e184;have e184:aG P 39 184 [.str "all",.tup [.str "xx",.str "xx"],.int 2]=some (.lst []):=e184;walk_at "ev";rw[e184];walk_at "ev";rw[show aG P 39 9 [.lst [],.lst []]=some (.bl true)from c9 4 31 _ (by decide) (by decide)];walk_at "ev"
end Law
namespace Law
open PySem PySem.Spec PyProof.Rows L2 IR
noncomputable abbrev lb(nm:Str)(ps:List Str)(st:Stmt):Prop:=∀(kV doc pm:Value)(an:Option Addr)(cdv ct:Value)(us:List Value),us.length=ps.length->bindArgs (W.fnOf nm nm (aW st) (aD st) (aA st) .none kV doc pm an cdv ct) ⟨us,[]⟩=pure (ps.zip us)
theorem sc3:aX N3 ["board"] (aA s3):=⟨rfl,rfl,rfl,by decide +kernel,rfl,by decide +kernel,by decide +kernel⟩
theorem bd3:lb "cells_of" ["board"] s3 :=
 fun _ _ _ _ _ _ us hl=>by
  obtain⟨_,rfl⟩:=tG hl;rfl
theorem tr3:bG 80 ⟨N3,(aA s3).names,F,G,B,[1]⟩ (aD s3)=d3.body:=by kernel_rfl
theorem Ec:aX DN ["one","other"] (aA kI):=⟨rfl,rfl,rfl,by decide +kernel,rfl,by decide +kernel,by decide +kernel⟩
theorem GV:lb "is_straight" ["one","other"] kI :=
 fun _ _ _ _ _ _ us hl=>by
  obtain⟨_,_,rfl⟩:=pc hl;rfl
theorem Dx:bG 80 ⟨DN,(aA kI).names,F,G,B,[]⟩ (aD kI)=CY.body:=by kernel_rfl
theorem Eb:aX DM ["one","other"] (aA kH):=⟨rfl,rfl,rfl,by decide +kernel,rfl,by decide +kernel,by decide +kernel⟩
theorem GU:lb "is_aslant" ["one","other"] kH :=
 fun _ _ _ _ _ _ us hl=>by
  obtain⟨_,_,rfl⟩:=pc hl;rfl
theorem Dv:bG 80 ⟨DM,(aA kH).names,F,G,B,[]⟩ (aD kH)=CW.body:=by kernel_rfl
theorem Ea:aX DL ["kind","one","other"] (aA kG):=⟨rfl,rfl,rfl,by decide +kernel,rfl,by decide +kernel,by decide +kernel⟩
theorem GT:lb "struck" ["kind","one","other"] kG :=
 fun _ _ _ _ _ _ us hl=>by
  obtain⟨_,_,_,rfl⟩:=mL hl;rfl
theorem Du:bG 80 ⟨DL,(aA kG).names,F,G,B,[]⟩ (aD kG)=CV.body:=by kernel_rfl
theorem EZ:aX DK ["kind","cell","cells"] (aA kF):=⟨rfl,rfl,rfl,by decide +kernel,rfl,by decide +kernel,by decide +kernel⟩
theorem GS:lb "not_struck" ["kind","cell","cells"] kF :=
 fun _ _ _ _ _ _ us hl=>by
  obtain⟨_,_,_,rfl⟩:=mL hl;rfl
theorem Dt:bG 80 ⟨DK,(aA kF).names,F,G,B,[]⟩ (aD kF)=CU.body:=by kernel_rfl
theorem EY:aX DJ ["kind","level","room"] (aA kE):=⟨rfl,rfl,rfl,by decide +kernel,rfl,by decide +kernel,by decide +kernel⟩
theorem GR:lb "with_one_more" ["kind","level","room"] kE :=
 fun _ _ _ _ _ _ us hl=>by
  obtain⟨_,_,_,rfl⟩:=mL hl;rfl
theorem Ds:bG 80 ⟨DJ,(aA kE).names,F,G,B,[3]⟩ (aD kE)=wQ.body:=by kernel_rfl
theorem EX:aX DI ["kind","board","size"] (aA kB):=⟨rfl,rfl,rfl,by decide +kernel,rfl,by decide +kernel,by decide +kernel⟩
theorem GQ:lb "all_placings" ["kind","board","size"] kB :=
 fun _ _ _ _ _ _ us hl=>by
  obtain⟨_,_,_,rfl⟩:=mL hl;rfl
theorem Dr:bG 80 ⟨DI,(aA kB).names,F,G,B,[]⟩ (aD kB)=wP.body:=by kernel_rfl
theorem sc4:aX N4 ["_law_script","_law_k"] (aA s4):=⟨rfl,rfl,rfl,by decide +kernel,rfl,by decide +kernel,by decide +kernel⟩
theorem bd4:lb "_law_cell" ["_law_script","_law_k"] s4 :=
 fun _ _ _ _ _ _ us hl=>by
  obtain⟨_,_,rfl⟩:=pc hl;rfl
theorem tr4:bG 80 ⟨N4,(aA s4).names,F,G,B,[]⟩ (aD s4)=d4.body:=by kernel_rfl
theorem sc5:aX N5 ["_law_cell_here","_law_k"] (aA s5):=⟨rfl,rfl,rfl,by decide +kernel,rfl,by decide +kernel,by decide +kernel⟩
theorem bd5:lb "_law_mixed" ["_law_cell_here","_law_k"] s5 :=
 fun _ _ _ _ _ _ us hl=>by
  obtain⟨_,_,rfl⟩:=pc hl;rfl
theorem tr5:bG 80 ⟨N5,(aA s5).names,F,G,B,[]⟩ (aD s5)=d5.body:=by kernel_rfl
theorem sc6:aX N6 ["_law_head","_law_cell_here","_law_most"] (aA s6):=⟨rfl,rfl,rfl,by decide +kernel,rfl,by decide +kernel,by decide +kernel⟩
theorem bd6:lb "_law_board" ["_law_head","_law_cell_here","_law_most"] s6 :=
 fun _ _ _ _ _ _ us hl=>by
  obtain⟨_,_,_,rfl⟩:=mL hl;rfl
theorem tr6:bG 80 ⟨N6,(aA s6).names,F,G,B,[6]⟩ (aD s6)=d6.body:=by kernel_rfl
theorem sc7:aX N7 ["_law_board_here"] (aA s7):=⟨rfl,rfl,rfl,by decide +kernel,rfl,by decide +kernel,by decide +kernel⟩
theorem bd7:lb "_law_cells" ["_law_board_here"] s7 :=
 fun _ _ _ _ _ _ us hl=>by
  obtain⟨_,rfl⟩:=tG hl;rfl
theorem tr7:bG 80 ⟨N7,(aA s7).names,F,G,B,[1]⟩ (aD s7)=d7.body:=by kernel_rfl
theorem sc8:aX N8 ["_law_found"] (aA s8):=⟨rfl,rfl,rfl,by decide +kernel,rfl,by decide +kernel,by decide +kernel⟩
theorem bd8:lb "_law_whole" ["_law_found"] s8 :=
 fun _ _ _ _ _ _ us hl=>by
  obtain⟨_,rfl⟩:=tG hl;rfl
theorem tr8:bG 80 ⟨N8,(aA s8).names,F,G,B,[]⟩ (aD s8)=d8.body:=by kernel_rfl
theorem sc9:aX N9 ["_law_found","_law_due"] (aA s9):=⟨rfl,rfl,rfl,by decide +kernel,rfl,by decide +kernel,by decide +kernel⟩
theorem bd9:lb "_law_same" ["_law_found","_law_due"] s9 :=
 fun _ _ _ _ _ _ us hl=>by
  obtain⟨_,_,rfl⟩:=pc hl;rfl
theorem tr9:bG 80 ⟨N9,(aA s9).names,F,G,B,[]⟩ (aD s9)=d9.body:=by kernel_rfl
theorem sc10:aX N10 ["_law_found","_law_due"] (aA wz):=⟨rfl,rfl,rfl,by decide +kernel,rfl,by decide +kernel,by decide +kernel⟩
theorem bd10:lb "_law_all_same" ["_law_found","_law_due"] wz :=
 fun _ _ _ _ _ _ us hl=>by
  obtain⟨_,_,rfl⟩:=pc hl;rfl
theorem tr10:bG 80 ⟨N10,(aA wz).names,F,G,B,[]⟩ (aD wz)=d10.body:=by kernel_rfl
theorem EW:aX DH ["_law_kind_here","_law_one","_law_other"] (aA kA):=⟨rfl,rfl,rfl,by decide +kernel,rfl,by decide +kernel,by decide +kernel⟩
theorem GP:lb "_law_strikes" ["_law_kind_here","_law_one","_law_other"] kA :=
 fun _ _ _ _ _ _ us hl=>by
  obtain⟨_,_,_,rfl⟩:=mL hl;rfl
theorem Dq:bG 80 ⟨DH,(aA kA).names,F,G,B,[]⟩ (aD kA)=CT.body:=by kernel_rfl
theorem EV:aX DG ["_law_number"] (aA j9):=⟨rfl,rfl,rfl,by decide +kernel,rfl,by decide +kernel,by decide +kernel⟩
theorem GO:lb "_law_kind" ["_law_number"] j9 :=
 fun _ _ _ _ _ _ us hl=>by
  obtain⟨_,rfl⟩:=tG hl;rfl
theorem Dp:bG 80 ⟨DG,(aA j9).names,F,G,B,[]⟩ (aD j9)=wO.body:=by kernel_rfl
theorem EU:aX DF ["_law_kind_here","_law_cells_here","_law_size","_law_most"] (aA j8):=⟨rfl,rfl,rfl,by decide +kernel,rfl,by decide +kernel,by decide +kernel⟩
theorem GN:lb "_law_listed" ["_law_kind_here","_law_cells_here","_law_size","_law_most"] j8 :=
 fun _ _ _ _ _ _ us hl=>by
  obtain⟨_,_,_,_,rfl⟩:=len4 hl;rfl
theorem Do:bG 80 ⟨DF,(aA j8).names,F,G,B,[6]⟩ (aD j8)=ym.body:=by kernel_rfl
theorem GM:lb "_law_refused" ["_law_kind_here","_law_board_here","_law_size"] j7 :=
 fun _ _ _ _ _ _ us hl=>by
  obtain⟨_,_,_,rfl⟩:=mL hl;rfl
theorem ET:aX DE ["_law_kind_here","_law_board_here","_law_size"] (aA j6):=⟨rfl,rfl,rfl,by decide +kernel,rfl,by decide +kernel,by decide +kernel⟩
theorem GL:lb "_law_good" ["_law_kind_here","_law_board_here","_law_size"] j6 :=
 fun _ _ _ _ _ _ us hl=>by
  obtain⟨_,_,_,rfl⟩:=mL hl;rfl
theorem Dn:bG 80 ⟨DE,(aA j6).names,F,G,B,[5]⟩ (aD j6)=CS.body:=by kernel_rfl
theorem ES:aX DD ["_law_script"] (aA gO):=⟨rfl,rfl,rfl,by decide +kernel,rfl,by decide +kernel,by decide +kernel⟩
theorem GK:lb "law" ["_law_script"] gO :=
 fun _ _ _ _ _ _ us hl=>by
  obtain⟨_,rfl⟩:=tG hl;rfl
theorem Dm:bG 80 ⟨DD,(aA gO).names,F,G,B,[]⟩ (aD gO)=CQ.body:=by kernel_rfl
theorem Cz{l:W.OpenLaw}{w:World}{K:W.Frag}{h:Heap}{mg:Str->Option Value}{fa f0 f1 f2 f3 f4 f5 f6 f7 f8 f9 f10 f11 f12 f13 f14 f15 f16 f17 f18 f19:Addr}(X:K.In h)(Gh:h.Ns mainGlobals mg)(hfa:mg "law"=some (.ref fa))
  {od0 an0 od1 an1 od2 an2 od3 an3 od4 an4 od5 an5 od6 an6 od7 an7 od8 an8 od9 an9 od10 an10 od11 an11 od12 an12 od13 an13 od14 an14 od15 an15 od16 an16 od17 an17 od18 an18 od19 an19:Option Addr} {sl0 sl1 sl2 sl3 sl4 sl5 sl6 sl7 sl8 sl9 sl10 sl11 sl12 sl13 sl14 sl15 sl16 sl17 sl18 sl19:Array (Option Value)} {oc0 kV0 dc0 pm0 cd0 ct0 oc1 kV1 dc1 pm1 cd1 ct1 oc2 kV2 dc2 pm2 cd2 ct2 oc3 kV3 dc3 pm3 cd3 ct3 oc4 kV4 dc4 pm4 cd4 ct4 oc5 kV5 dc5 pm5 cd5 ct5 oc6 kV6 dc6 pm6 cd6 ct6 oc7 kV7 dc7 pm7 cd7 ct7 oc8 kV8 dc8 pm8 cd8 ct8 oc9 kV9 dc9 pm9 cd9 ct9 oc10 kV10 dc10 pm10 cd10 ct10 oc11 kV11 dc11 pm11 cd11 ct11 oc12 kV12 dc12 pm12 cd12 ct12 oc13 kV13 dc13 pm13 cd13 ct13 oc14 kV14 dc14 pm14 cd14 ct14 oc15 kV15 dc15 pm15 cd15 ct15 oc16 kV16 dc16 pm16 cd16 ct16 oc17 kV17 dc17 pm17 cd17 ct17 oc18 kV18 dc18 pm18 cd18 ct18 oc19 kV19 dc19 pm19 cd19 ct19:Value}
  {tk0 tk1 tk2 tk3:Tok}
  (a0:W.nsIn K mainGlobals "cells_of"=some (some (.ref f0))) (l0:K.lookup f0=some ⟨oc0,od0,.func (W.fnOf "cells_of" "cells_of" (aW s3) (aD s3) (aA s3) .none kV0 dc0 pm0 an0 cd0 ct0),sl0⟩) (c0:W.codeIn K cd0 "cells_of"=true) (k0:W.keepIn K (.ref f0)=true)
  (a1:W.nsIn K mainGlobals "is_straight"=some (some (.ref f1))) (l1:K.lookup f1=some ⟨oc1,od1,.func (W.fnOf "is_straight" "is_straight" (aW kI) (aD kI) (aA kI) .none kV1 dc1 pm1 an1 cd1 ct1),sl1⟩) (c1:W.codeIn K cd1 "is_straight"=true) (k1:W.keepIn K (.ref f1)=true)
  (a2:W.nsIn K mainGlobals "is_aslant"=some (some (.ref f2))) (l2:K.lookup f2=some ⟨oc2,od2,.func (W.fnOf "is_aslant" "is_aslant" (aW kH) (aD kH) (aA kH) .none kV2 dc2 pm2 an2 cd2 ct2),sl2⟩) (c2:W.codeIn K cd2 "is_aslant"=true) (k2:W.keepIn K (.ref f2)=true)
  (a3:W.nsIn K mainGlobals "struck"=some (some (.ref f3))) (l3:K.lookup f3=some ⟨oc3,od3,.func (W.fnOf "struck" "struck" (aW kG) (aD kG) (aA kG) .none kV3 dc3 pm3 an3 cd3 ct3),sl3⟩) (c3:W.codeIn K cd3 "struck"=true) (k3:W.keepIn K (.ref f3)=true)
  (a4:W.nsIn K mainGlobals "not_struck"=some (some (.ref f4))) (l4:K.lookup f4=some ⟨oc4,od4,.func (W.fnOf "not_struck" "not_struck" (aW kF) (aD kF) (aA kF) .none kV4 dc4 pm4 an4 cd4 ct4),sl4⟩) (c4:W.codeIn K cd4 "not_struck"=true) (k4:W.keepIn K (.ref f4)=true)
  (a5:W.nsIn K mainGlobals "with_one_more"=some (some (.ref f5))) (l5:K.lookup f5=some ⟨oc5,od5,.func (W.fnOf "with_one_more" "with_one_more" (aW kE) (aD kE) (aA kE) .none kV5 dc5 pm5 an5 cd5 ct5),sl5⟩) (c5:W.codeIn K cd5 "with_one_more"=true) (k5:W.keepIn K (.ref f5)=true)
  (a6:W.nsIn K mainGlobals "all_placings"=some (some (.ref f6))) (l6:K.lookup f6=some ⟨oc6,od6,.func (W.fnOf "all_placings" "all_placings" (aW kB) (aD kB) (aA kB) .none kV6 dc6 pm6 an6 cd6 ct6),sl6⟩) (c6:W.codeIn K cd6 "all_placings"=true) (k6:W.keepIn K (.ref f6)=true)
  (a7:W.nsIn K mainGlobals "_law_cell"=some (some (.ref f7))) (l7:K.lookup f7=some ⟨oc7,od7,.func (W.fnOf "_law_cell" "_law_cell" (aW s4) (aD s4) (aA s4) .none kV7 dc7 pm7 an7 cd7 ct7),sl7⟩) (c7:W.codeIn K cd7 "_law_cell"=true) (k7:W.keepIn K (.ref f7)=true)
  (a8:W.nsIn K mainGlobals "_law_mixed"=some (some (.ref f8))) (l8:K.lookup f8=some ⟨oc8,od8,.func (W.fnOf "_law_mixed" "_law_mixed" (aW s5) (aD s5) (aA s5) .none kV8 dc8 pm8 an8 cd8 ct8),sl8⟩) (c8:W.codeIn K cd8 "_law_mixed"=true) (k8:W.keepIn K (.ref f8)=true)
  (a9:W.nsIn K mainGlobals "_law_board"=some (some (.ref f9))) (l9:K.lookup f9=some ⟨oc9,od9,.func (W.fnOf "_law_board" "_law_board" (aW s6) (aD s6) (aA s6) .none kV9 dc9 pm9 an9 cd9 ct9),sl9⟩) (c9:W.codeIn K cd9 "_law_board"=true) (k9:W.keepIn K (.ref f9)=true)
  (a10:W.nsIn K mainGlobals "_law_cells"=some (some (.ref f10))) (l10:K.lookup f10=some ⟨oc10,od10,.func (W.fnOf "_law_cells" "_law_cells" (aW s7) (aD s7) (aA s7) .none kV10 dc10 pm10 an10 cd10 ct10),sl10⟩) (c10:W.codeIn K cd10 "_law_cells"=true) (k10:W.keepIn K (.ref f10)=true)
  (a11:W.nsIn K mainGlobals "_law_whole"=some (some (.ref f11))) (l11:K.lookup f11=some ⟨oc11,od11,.func (W.fnOf "_law_whole" "_law_whole" (aW s8) (aD s8) (aA s8) .none kV11 dc11 pm11 an11 cd11 ct11),sl11⟩) (c11:W.codeIn K cd11 "_law_whole"=true) (k11:W.keepIn K (.ref f11)=true)
  (a12:W.nsIn K mainGlobals "_law_same"=some (some (.ref f12))) (l12:K.lookup f12=some ⟨oc12,od12,.func (W.fnOf "_law_same" "_law_same" (aW s9) (aD s9) (aA s9) .none kV12 dc12 pm12 an12 cd12 ct12),sl12⟩) (c12:W.codeIn K cd12 "_law_same"=true) (k12:W.keepIn K (.ref f12)=true)
  (a13:W.nsIn K mainGlobals "_law_all_same"=some (some (.ref f13))) (l13:K.lookup f13=some ⟨oc13,od13,.func (W.fnOf "_law_all_same" "_law_all_same" (aW wz) (aD wz) (aA wz) .none kV13 dc13 pm13 an13 cd13 ct13),sl13⟩) (c13:W.codeIn K cd13 "_law_all_same"=true) (k13:W.keepIn K (.ref f13)=true)
  (a14:W.nsIn K mainGlobals "_law_strikes"=some (some (.ref f14))) (l14:K.lookup f14=some ⟨oc14,od14,.func (W.fnOf "_law_strikes" "_law_strikes" (aW kA) (aD kA) (aA kA) .none kV14 dc14 pm14 an14 cd14 ct14),sl14⟩) (c14:W.codeIn K cd14 "_law_strikes"=true) (k14:W.keepIn K (.ref f14)=true)
  (a15:W.nsIn K mainGlobals "_law_kind"=some (some (.ref f15))) (l15:K.lookup f15=some ⟨oc15,od15,.func (W.fnOf "_law_kind" "_law_kind" (aW j9) (aD j9) (aA j9) .none kV15 dc15 pm15 an15 cd15 ct15),sl15⟩) (c15:W.codeIn K cd15 "_law_kind"=true) (k15:W.keepIn K (.ref f15)=true)
  (a16:W.nsIn K mainGlobals "_law_listed"=some (some (.ref f16))) (l16:K.lookup f16=some ⟨oc16,od16,.func (W.fnOf "_law_listed" "_law_listed" (aW j8) (aD j8) (aA j8) .none kV16 dc16 pm16 an16 cd16 ct16),sl16⟩) (c16:W.codeIn K cd16 "_law_listed"=true) (k16:W.keepIn K (.ref f16)=true)
  (a17:W.nsIn K mainGlobals "_law_refused"=some (some (.ref f17))) (l17:K.lookup f17=some ⟨oc17,od17,.func (W.fnOf "_law_refused" "_law_refused" (aW j7) (aD j7) (aA j7) .none kV17 dc17 pm17 an17 cd17 ct17),sl17⟩) (c17:W.codeIn K cd17 "_law_refused"=true) (k17:W.keepIn K (.ref f17)=true)
  (a18:W.nsIn K mainGlobals "_law_good"=some (some (.ref f18))) (l18:K.lookup f18=some ⟨oc18,od18,.func (W.fnOf "_law_good" "_law_good" (aW j6) (aD j6) (aA j6) .none kV18 dc18 pm18 an18 cd18 ct18),sl18⟩) (c18:W.codeIn K cd18 "_law_good"=true) (k18:W.keepIn K (.ref f18)=true)
  (a19:W.nsIn K mainGlobals "law"=some (some (.ref f19))) (l19:K.lookup f19=some ⟨oc19,od19,.func (W.fnOf "law" "law" (aW gO) (aD gO) (aA gO) .none kV19 dc19 pm19 an19 cd19 ct19),sl19⟩) (c19:W.codeIn K cd19 "law"=true) (k19:W.keepIn K (.ref f19)=true)
  (z0:W.nsIn K mainGlobals "len"=some none)
  (z1:W.nsIn K mainGlobals "int"=some none)
  (z2:W.nsIn K mainGlobals "list"=some none)
  (z3:W.nsIn K mainGlobals "tuple"=some none)
  (z4:W.nsIn K mainGlobals "min"=some none)
  (z5:W.nsIn K mainGlobals "max"=some none)
  (z6:W.nsIn K mainGlobals "abs"=some none)
  (z7:W.nsIn K mainGlobals "isinstance"=some none)
  (z8:W.nsIn K mainGlobals "str"=some none)
  (z9:W.nsIn K mainGlobals "bool"=some none)
  (z10:W.nsIn K mainGlobals "range"=some none)
  (z11:W.nsIn K mainGlobals "zip"=some none)
  (z12:W.nsIn K mainGlobals "enumerate"=some none)
  (z13:W.nsIn K mainGlobals "sorted"=some none)
  (z14:W.nsIn K mainGlobals "reversed"=some none)
  (z15:W.nsIn K mainGlobals "ValueError"=some none)
  (v0:W.nsIn K mainGlobals "CELL"=some (some (.str "x" tk0)))
  (v1:W.nsIn K mainGlobals "STRAIGHT"=some (some (.str "straight" tk1)))
  (v2:W.nsIn K mainGlobals "ASLANT"=some (some (.str "aslant" tk2)))
  (v3:W.nsIn K mainGlobals "MOST_PLACINGS"=some (some (.int 1000 tk3)))
  {g0 g1 g2 g3 g4:Addr} {cd0_ cd1_ cd2_ cd3_ cd4_:ClassData}
  (y0:W.nsIn K mainGlobals "TooGreat"=some (some (.ref g0))) (yc0:W.clsIn K g0=some cd0_) (yt0:W.typeIn K (.ref g0)=some (.type "type"))
  (y1:W.nsIn K mainGlobals "BoardError"=some (some (.ref g1))) (yc1:W.clsIn K g1=some cd1_) (yt1:W.typeIn K (.ref g1)=some (.type "type"))
  (y2:W.nsIn K mainGlobals "NoBoard"=some (some (.ref g2))) (yc2:W.clsIn K g2=some cd2_) (yt2:W.typeIn K (.ref g2)=some (.type "type"))
  (y3:W.nsIn K mainGlobals "NoPlacing"=some (some (.ref g3))) (yc3:W.clsIn K g3=some cd3_) (yt3:W.typeIn K (.ref g3)=some (.type "type"))
  (y4:W.nsIn K mainGlobals "NoStair"=some (some (.ref g4))) (yc4:W.clsIn K g4=some cd4_) (yt4:W.typeIn K (.ref g4)=some (.type "type"))
  (q0:W.excIn K g0 [.type "ValueError",.type "Exception",.type "BaseException",.type "object"] "ValueError.__new__"=true)
  (x0:W.findIn K (.ref g0) "__getattribute__"=some (some (.builtin "BaseException.__getattribute__"))) (x1:W.findIn K (.ref g0) "__getattr__"=some none) (x2:W.findIn K (.ref g0) "__class__"=some (some (.builtin "object.__class__")))
  (x3:W.specialIn K (.builtin "object.__class__") "__get__"=some (some (.builtin "getset_descriptor.__get__"))) (x4:W.takesIn K (.builtin "object.__class__")=some true) (x5:W.mroIn K g0 (.type "object")=some true) (x6:W.mroIn K g0 (.type "BaseException")=some true)
  (u0:W.subIn K (.ref g0) (.ref g0)=some true) (u1:W.subIn K (.ref g0) (.ref g1)=some true) (u2:W.subIn K (.ref g1) (.type "BaseException")=some true) (u3:W.subIn K (.ref g0) (.type "ValueError")=some true)
  (u4:W.subIn K (.ref g0) (.ref g2)=some false) (u5:W.subIn K (.ref g0) (.ref g3)=some false) (u6:W.subIn K (.ref g0) (.ref g4)=some false) (w0:g0≠g2) (w1:g0≠g3) (w2:g0≠g4)
  :
  ∃fd:FuncData,(∀(s:Shared)(v:Value),BindsTo s fd ⟨[v],[]⟩ [("_law_script",v)])/\∀base:Heap,K.In base->base.Ns mainGlobals mg->bu l.prog w K mg base oz 40 fa fd ["_law_script"] (qj K):=by
 have hB:∀x,B.contains x=true->mg x=none:=b5 (IM X Gh z0) (b5 (IM X Gh z1) (b5 (IM X Gh z2) (b5 (IM X Gh z3) (b5 (IM X Gh z4) (b5 (IM X Gh z5) (b5 (IM X Gh z6) (b5 (IM X Gh z7) (b5 (IM X Gh z8) (b5 (IM X Gh z9) (b5 (IM X Gh z10) (b5 (IM X Gh z11) (b5 (IM X Gh z12) (b5 (IM X Gh z13) (b5 (IM X Gh z14) (b5 (IM X Gh z15) (bnil))))))))))))))));have e:=hfa.symm.trans (IV X Gh a19);cases e;have cls:oq K mg g0 g1 g2 g3 g4:=⟨⟨IV X Gh y0,by rw[yc0];rfl,yt0⟩,⟨IV X Gh y1,by rw[yc1];rfl,yt1⟩,⟨IV X Gh y2,by rw[yc2];rfl,yt2⟩,⟨IV X Gh y3,by rw[yc3];rfl,yt3⟩,⟨IV X Gh y4,by rw[yc4];rfl,yt4⟩,q0,⟨x0,x1,x2,x3,x4,x5,x6,by rw[yc0];rfl⟩,u0,u1,u2,u3,u4,u5,u6,w0,w1,w2⟩;have F0:=bA (st:=s3) l0 c0 k0;have D0:i7 K mg "cells_of" s3 ["board"] f0 _:=⟨F0,IV X Gh a0,F0.binds bd3⟩;have E0:bY K mg P F G B "cells_of" 3 f0 _ ["board"]:=⟨.inr ⟨s3,N3,[1],80,_,D0,sc3,rfl,tr3⟩⟩;have F1:=bA (st:=kI) l1 c1 k1;have D1:i7 K mg "is_straight" kI ["one","other"] f1 _:=⟨F1,IV X Gh a1,F1.binds GV⟩;have E1:bY K mg P F G B "is_straight" 129 f1 _ ["one","other"]:=⟨.inr ⟨kI,DN,[],80,_,D1,Ec,rfl,Dx⟩⟩;have F2:=bA (st:=kH) l2 c2 k2;have D2:i7 K mg "is_aslant" kH ["one","other"] f2 _:=⟨F2,IV X Gh a2,F2.binds GU⟩;have E2:bY K mg P F G B "is_aslant" 130 f2 _ ["one","other"]:=⟨.inr ⟨kH,DM,[],80,_,D2,Eb,rfl,Dv⟩⟩;have F3:=bA (st:=kG) l3 c3 k3;have D3:i7 K mg "struck" kG ["kind","one","other"] f3 _:=⟨F3,IV X Gh a3,F3.binds GT⟩;have E3:bY K mg P F G B "struck" 131 f3 _ ["kind","one","other"]:=⟨.inr ⟨kG,DL,[],80,_,D3,Ea,rfl,Du⟩⟩;have F4:=bA (st:=kF) l4 c4 k4;have D4:i7 K mg "not_struck" kF ["kind","cell","cells"] f4 _:=⟨F4,IV X Gh a4,F4.binds GS⟩;have E4:bY K mg P F G B "not_struck" 182 f4 _ ["kind","cell","cells"]:=⟨.inr ⟨kF,DK,[],80,_,D4,EZ,rfl,Dt⟩⟩;have F5:=bA (st:=kE) l5 c5 k5;have D5:i7 K mg "with_one_more" kE ["kind","level","room"] f5 _:=⟨F5,IV X Gh a5,F5.binds GR⟩;have E5:bY K mg P F G B "with_one_more" 183 f5 _ ["kind","level","room"]:=⟨.inr ⟨kE,DJ,[3],80,_,D5,EY,rfl,Ds⟩⟩;have F6:=bA (st:=kB) l6 c6 k6;have D6:i7 K mg "all_placings" kB ["kind","board","size"] f6 _:=⟨F6,IV X Gh a6,F6.binds GQ⟩;have E6:bY K mg P F G B "all_placings" 184 f6 _ ["kind","board","size"]:=⟨.inr ⟨kB,DI,[],80,_,D6,EX,rfl,Dr⟩⟩;have F7:=bA (st:=s4) l7 c7 k7;have D7:i7 K mg "_law_cell" s4 ["_law_script","_law_k"] f7 _:=⟨F7,IV X Gh a7,F7.binds bd4⟩;have E7:bY K mg P F G B "_law_cell" 4 f7 _ ["_law_script","_law_k"]:=⟨.inr ⟨s4,N4,[],80,_,D7,sc4,rfl,tr4⟩⟩;have F8:=bA (st:=s5) l8 c8 k8;have D8:i7 K mg "_law_mixed" s5 ["_law_cell_here","_law_k"] f8 _:=⟨F8,IV X Gh a8,F8.binds bd5⟩;have E8:bY K mg P F G B "_law_mixed" 5 f8 _ ["_law_cell_here","_law_k"]:=⟨.inr ⟨s5,N5,[],80,_,D8,sc5,rfl,tr5⟩⟩;have F9:=bA (st:=s6) l9 c9 k9;have D9:i7 K mg "_law_board" s6 ["_law_head","_law_cell_here","_law_most"] f9 _:=⟨F9,IV X Gh a9,F9.binds bd6⟩;have E9:bY K mg P F G B "_law_board" 6 f9 _ ["_law_head","_law_cell_here","_law_most"]:=⟨.inr ⟨s6,N6,[6],80,_,D9,sc6,rfl,tr6⟩⟩;have F10:=bA (st:=s7) l10 c10 k10;have D10:i7 K mg "_law_cells" s7 ["_law_board_here"] f10 _:=⟨F10,IV X Gh a10,F10.binds bd7⟩;have E10:bY K mg P F G B "_law_cells" 7 f10 _ ["_law_board_here"]:=⟨.inr ⟨s7,N7,[1],80,_,D10,sc7,rfl,tr7⟩⟩;have F11:=bA (st:=s8) l11 c11 k11;have D11:i7 K mg "_law_whole" s8 ["_law_found"] f11 _:=⟨F11,IV X Gh a11,F11.binds bd8⟩;have E11:bY K mg P F G B "_law_whole" 8 f11 _ ["_law_found"]:=⟨.inr ⟨s8,N8,[],80,_,D11,sc8,rfl,tr8⟩⟩;have F12:=bA (st:=s9) l12 c12 k12;have D12:i7 K mg "_law_same" s9 ["_law_found","_law_due"] f12 _:=⟨F12,IV X Gh a12,F12.binds bd9⟩;have E12:bY K mg P F G B "_law_same" 9 f12 _ ["_law_found","_law_due"]:=⟨.inr ⟨s9,N9,[],80,_,D12,sc9,rfl,tr9⟩⟩;have F13:=bA (st:=wz) l13 c13 k13;have D13:i7 K mg "_law_all_same" wz ["_law_found","_law_due"] f13 _:=⟨F13,IV X Gh a13,F13.binds bd10⟩;have E13:bY K mg P F G B "_law_all_same" 10 f13 _ ["_law_found","_law_due"]:=⟨.inr ⟨wz,N10,[],80,_,D13,sc10,rfl,tr10⟩⟩;have F14:=bA (st:=kA) l14 c14 k14;have D14:i7 K mg "_law_strikes" kA ["_law_kind_here","_law_one","_law_other"] f14 _:=⟨F14,IV X Gh a14,F14.binds GP⟩;have E14:bY K mg P F G B "_law_strikes" 186 f14 _ ["_law_kind_here","_law_one","_law_other"]:=⟨.inr ⟨kA,DH,[],80,_,D14,EW,rfl,Dq⟩⟩;have F15:=bA (st:=j9) l15 c15 k15;have D15:i7 K mg "_law_kind" j9 ["_law_number"] f15 _:=⟨F15,IV X Gh a15,F15.binds GO⟩;have E15:bY K mg P F G B "_law_kind" 187 f15 _ ["_law_number"]:=⟨.inr ⟨j9,DG,[],80,_,D15,EV,rfl,Dp⟩⟩;have F16:=bA (st:=j8) l16 c16 k16;have D16:i7 K mg "_law_listed" j8 ["_law_kind_here","_law_cells_here","_law_size","_law_most"] f16 _:=⟨F16,IV X Gh a16,F16.binds GN⟩;have E16:bY K mg P F G B "_law_listed" 188 f16 _ ["_law_kind_here","_law_cells_here","_law_size","_law_most"]:=⟨.inr ⟨j8,DF,[6],80,_,D16,EU,rfl,Do⟩⟩;have F17:=bA (st:=j7) l17 c17 k17;have D17:i7 K mg "_law_refused" j7 ["_law_kind_here","_law_board_here","_law_size"] f17 _:=⟨F17,IV X Gh a17,F17.binds GM⟩;have E17:bY K mg P F G B "_law_refused" 189 f17 _ ["_law_kind_here","_law_board_here","_law_size"]:=⟨.inl ⟨D17.nm,D17.fn.kp,D17.bd,yY rfl,yZ (hB "isinstance" rfl) (hB "ValueError" rfl) cls D17⟩⟩;have F18:=bA (st:=j6) l18 c18 k18;have D18:i7 K mg "_law_good" j6 ["_law_kind_here","_law_board_here","_law_size"] f18 _:=⟨F18,IV X Gh a18,F18.binds GL⟩;have E18:bY K mg P F G B "_law_good" 193 f18 _ ["_law_kind_here","_law_board_here","_law_size"]:=⟨.inr ⟨j6,DE,[5],80,_,D18,ET,rfl,Dn⟩⟩;have F19:=bA (st:=gO) l19 c19 k19;have D19:i7 K mg "law" gO ["_law_script"] fa _:=⟨F19,IV X Gh a19,F19.binds GK⟩;have E19:bY K mg P F G B "law" 194 fa _ ["_law_script"]:=⟨.inr ⟨gO,DD,[],80,_,D19,ES,rfl,Dm⟩⟩;have hF:∀x f,F.lookup x=some f->∃a fd ps,bY K mg P F G B x f a fd ps:=bB ⟨_,_,_,E0⟩ (bB ⟨_,_,_,E1⟩ (bB ⟨_,_,_,E2⟩ (bB ⟨_,_,_,E3⟩ (bB ⟨_,_,_,E4⟩ (bB ⟨_,_,_,E5⟩ (bB ⟨_,_,_,E6⟩ (bB ⟨_,_,_,E7⟩ (bB ⟨_,_,_,E8⟩ (bB ⟨_,_,_,E9⟩ (bB ⟨_,_,_,E10⟩ (bB ⟨_,_,_,E11⟩ (bB ⟨_,_,_,E12⟩ (bB ⟨_,_,_,E13⟩ (bB ⟨_,_,_,E14⟩ (bB ⟨_,_,_,E15⟩ (bB ⟨_,_,_,E16⟩ (bB ⟨_,_,_,E17⟩ (bB ⟨_,_,_,E18⟩ (bB ⟨_,_,_,E19⟩ (Fo))))))))))))))))))));have hG:∀x v,G.lookup x=some v->∃u w,mg x=some u/\RelV w u/\∀Hi n H,Rp K Hi n v H w:=rP ⟨_,(.str "x"),IV X Gh v0,⟨_,rfl⟩,fun _ _ _=>Rp.str.mpr rfl⟩ (rP ⟨_,(.str "straight"),IV X Gh v1,⟨_,rfl⟩,fun _ _ _=>Rp.str.mpr rfl⟩ (rP ⟨_,(.str "aslant"),IV X Gh v2,⟨_,rfl⟩,fun _ _ _=>Rp.str.mpr rfl⟩ (rP ⟨_,(.int 1000),IV X Gh v3,⟨_,rfl⟩,fun _ _ _=>Rp.int.mpr rfl⟩ (gnil))));exact⟨W.fnOf "law" "law" (aW gO) (aD gO) (aA gO) .none kV19 dc19 pm19 an19 cd19 ct19,fun s v=>.of_eq rfl,fun base _ _=>Bo (rV hG hB hF 40 "law" 194 fa _ _ E19).1 vi⟩
theorem walk{l:W.OpenLaw}{q:Program}{loose:List Str}{XP:(Str->Option Value)->Heap->Prop}{YP:World->Heap->Prop}{d:DefRec}{K:Params->W.Frag}(hn:l.most=some 63)(hdf:d.params.defaults=[])
  (hY:∀(w:World)(h:Heap),YP w h->(K w.params).In h)
  (F:∀(w:World)(mg:Str->Option Value)(fa:Addr)(h:Heap),(K w.params).In h->h.Ns mainGlobals mg->mg d.name=some (.ref fa) ->
   ∃fd:FuncData,(∀(s:Shared)(u:Value),BindsTo s fd ⟨[u],[]⟩ [("_law_script",u)])/\∀base:Heap,(K w.params).In base->base.Ns mainGlobals mg->bu l.prog w (K w.params) mg base oz 40 fa fd ["_law_script"] (qj (K w.params))) :
  W.WalkO q loose XP YP l.row.toRowW d [] (fun f vs=>PySem.call f vs) :=
 L2.xF (n:=63) (k:=40) (x:="_law_script") (CX:=fun _=>oz) (sp:=fun w=>qj (K w.params)) hn (by decide) hdf ⟨rfl,by decide,by decide⟩ hY F (fun _ _ a ns hl _ hS=>⟨a,ns,rfl,hS,hl,fun _=>rfl⟩) fun _ _ _ _ _ z=>z
end Law
open PySem PySem.W PyProof.Rows
noncomputable def LH.vw:Program:={PySem.Challenge.pw_unstruck_k72_all_placings_small with main:={PySem.Challenge.pw_unstruck_k72_all_placings_small.main with body:=((PySem.Challenge.pw_unstruck_k72_all_placings_small.main.body.drop 1).take 2) ++ ((PySem.Challenge.pw_unstruck_k72_all_placings_small.main.body.drop 4).take 5) ++ ((PySem.Challenge.pw_unstruck_k72_all_placings_small.main.body.drop 10).take 9) ++ ((PySem.Challenge.pw_unstruck_k72_all_placings_small.main.body.drop 20).take 13)}}
theorem LH.two {A B C:Type} {o:Option A} {f:A→B} {g:A→C} {a:B} {b:C} (h:o.map f=some a) (k:o.map g=some b):o.map (fun s=>(f s,g s))=some (a,b):=by
 cases o with
 |none=>cases h
 |some x=>cases h;cases k;rfl
noncomputable abbrev LH.xt (s:Shared):Bool:=xlAt LH.vw [] s&&recOk [] s
theorem LH.h1 (w:World):(openEnds treeTable PySem.Challenge.pw_unstruck_k72_all_placings_small w 3646).map (fun s=>openSeen LH.vw ["NoStair"] (importedModules PySem.Challenge.pw_unstruck_k72_all_placings_small.main.body) LH.xt true s)=some (openGood LH.vw ["NoStair"]):=by kernel_rfl
local macro_rules|`(tactic|o_head $H)=>do
 let hw:=Lean.mkIdent `hw
 let hc:=Lean.mkIdent `hc
 `(tactic|(refine holds_open (q:=LH.vw) (loose:=["NoStair"]) (Xt:=LH.xt) (XP:=XL LH.vw []) (Yf:=Hook.obs $H) (Ya:=Hook.val $H) (YP:=Hook.says $H) (N:=3646) (fun w=>LH.two (LH.h1 w) (by kernel_rfl)) (Hook.of $H) (Hook.keeps $H) (fun s e=>xl_of s (Bool.and_eq_true_iff.mp e).1) XL.keeps rfl rfl rfl (fun s e=>recFacts_of (Bool.and_eq_true_iff.mp e).2) rfl (by first|assumption|decide +kernel) (by decide +kernel) ⟨rfl,rfl,rfl,rfl,rfl,by decide +kernel⟩ ?$hw ?$hc))
set_option maxRecDepth 100000 in
set_option maxHeartbeats 0 in
theorem PySem.Challenge.cw_unstruck_k72_all_placings_small_holds : PySem.Challenge.rw_unstruck_k72_all_placings_small.Holds := by
 w_on;o_law
 k_head;(case hw=>w_witness2)
 k_fill
 refine Law.walk (l:=PySem.Challenge.rw_unstruck_k72_all_placings_small) rfl rfl (fun w h Y=>PySem.W.kIn_of Y) ?F
 case F =>
  intro w mg fa h KX G hmg;refine' Law.Cz KX G hmg ?a0 ?l0 ?c0 ?k0 ?a1 ?l1 ?c1 ?k1 ?a2 ?l2 ?c2 ?k2 ?a3 ?l3 ?c3 ?k3 ?a4 ?l4 ?c4 ?k4 ?a5 ?l5 ?c5 ?k5 ?a6 ?l6 ?c6 ?k6 ?a7 ?l7 ?c7 ?k7 ?a8 ?l8 ?c8 ?k8 ?a9 ?l9 ?c9 ?k9 ?a10 ?l10 ?c10 ?k10 ?a11 ?l11 ?c11 ?k11 ?a12 ?l12 ?c12 ?k12 ?a13 ?l13 ?c13 ?k13 ?a14 ?l14 ?c14 ?k14 ?a15 ?l15 ?c15 ?k15 ?a16 ?l16 ?c16 ?k16 ?a17 ?l17 ?c17 ?k17 ?a18 ?l18 ?c18 ?k18 ?a19 ?l19 ?c19 ?k19 ?z0 ?z1 ?z2 ?z3 ?z4 ?z5 ?z6 ?z7 ?z8 ?z9 ?z10 ?z11 ?z12 ?z13 ?z14 ?z15 ?v0 ?v1 ?v2 ?v3 ?y0 ?yc0 ?yt0 ?y1 ?yc1 ?yt1 ?y2 ?yc2 ?yt2 ?y3 ?yc3 ?yt3 ?y4 ?yc4 ?yt4 ?q0 ?x0 ?x1 ?x2 ?x3 ?x4 ?x5 ?x6 ?u0 ?u1 ?u2 ?u3 ?u4 ?u5 ?u6 ?w0 ?w1 ?w2
  (case a0=>k_is)
  (case l0=>k_is)
  (case c0=>k_is)
  (case k0=>k_is)
  (case a1=>k_is)
  (case l1=>k_is)
  (case c1=>k_is)
  (case k1=>k_is)
  (case a2=>k_is)
  (case l2=>k_is)
  (case c2=>k_is)
  (case k2=>k_is)
  (case a3=>k_is)
  (case l3=>k_is)
  (case c3=>k_is)
  (case k3=>k_is)
  (case a4=>k_is)
  (case l4=>k_is)
  (case c4=>k_is)
  (case k4=>k_is)
  (case a5=>k_is)
  (case l5=>k_is)
  (case c5=>k_is)
  (case k5=>k_is)
  (case a6=>k_is)
  (case l6=>k_is)
  (case c6=>k_is)
  (case k6=>k_is)
  (case a7=>k_is)
  (case l7=>k_is)
  (case c7=>k_is)
  (case k7=>k_is)
  (case a8=>k_is)
  (case l8=>k_is)
  (case c8=>k_is)
  (case k8=>k_is)
  (case a9=>k_is)
  (case l9=>k_is)
  (case c9=>k_is)
  (case k9=>k_is)
  (case a10=>k_is)
  (case l10=>k_is)
  (case c10=>k_is)
  (case k10=>k_is)
  (case a11=>k_is)
  (case l11=>k_is)
  (case c11=>k_is)
  (case k11=>k_is)
  (case a12=>k_is)
  (case l12=>k_is)
  (case c12=>k_is)
  (case k12=>k_is)
  (case a13=>k_is)
  (case l13=>k_is)
  (case c13=>k_is)
  (case k13=>k_is)
  (case a14=>k_is)
  (case l14=>k_is)
  (case c14=>k_is)
  (case k14=>k_is)
  (case a15=>k_is)
  (case l15=>k_is)
  (case c15=>k_is)
  (case k15=>k_is)
  (case a16=>k_is)
  (case l16=>k_is)
  (case c16=>k_is)
  (case k16=>k_is)
  (case a17=>k_is)
  (case l17=>k_is)
  (case c17=>k_is)
  (case k17=>k_is)
  (case a18=>k_is)
  (case l18=>k_is)
  (case c18=>k_is)
  (case k18=>k_is)
  (case a19=>k_is)
  (case l19=>k_is)
  (case c19=>k_is)
  (case k19=>k_is)
  (case z0=>k_is)
  (case z1=>k_is)
  (case z2=>k_is)
  (case z3=>k_is)
  (case z4=>k_is)
  (case z5=>k_is)
  (case z6=>k_is)
  (case z7=>k_is)
  (case z8=>k_is)
  (case z9=>k_is)
  (case z10=>k_is)
  (case z11=>k_is)
  (case z12=>k_is)
  (case z13=>k_is)
  (case z14=>k_is)
  (case z15=>k_is)
  (case v0=>k_is)
  (case v1=>k_is)
  (case v2=>k_is)
  (case v3=>k_is)
  (case y0=>k_is)
  (case yc0=>k_is)
  (case yt0=>k_is)
  (case y1=>k_is)
  (case yc1=>k_is)
  (case yt1=>k_is)
  (case y2=>k_is)
  (case yc2=>k_is)
  (case yt2=>k_is)
  (case y3=>k_is)
  (case yc3=>k_is)
  (case yt3=>k_is)
  (case y4=>k_is)
  (case yc4=>k_is)
  (case yt4=>k_is)
  (case q0=>k_exc)
  (case x0=>k_is)
  (case x1=>k_is)
  (case x2=>k_is)
  (case x3=>k_is)
  (case x4=>k_is)
  (case x5=>k_is)
  (case x6=>k_is)
  (case u0=>k_is)
  (case u1=>k_is)
  (case u2=>k_is)
  (case u3=>k_is)
  (case u4=>k_is)
  (case u5=>k_is)
  (case u6=>k_is)
  (case w0=>decide)
  (case w1=>decide)
  (case w2=>decide)
#print axioms PySem.Challenge.cw_unstruck_k72_all_placings_small_holds
