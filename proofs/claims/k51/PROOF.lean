import PyProof.Rows.All
import Wide.All
import OpenK.AllK
import Wide.FinOn
import Lean
import PyProof.EqAt
import PyProof.EqKinds
import PyProof.TupleCall
import PyProof.StrLawsTight
import PyProof.StrLawsChain
import PyProof.StrLawsOcc
import PyProof.Cells
import OpenK.KLine
import PyProof.SumAny
import PyProof.Rows.SortShell
import PyProof.DictItems
import PyProof.DictWalks
import KE.KRevIter
import PyProof.JoinWalk
import PyProof.CollectIter
import PyProof.StrLawsIn
import PyProof.Rows.SetFrom
import PyProof.CollectWalk
import PyProof.Rows.SortWalk
import KE.KSortTup
import KE.KxPercent
import PyProof.TupleOfGen
import KE.KDictList
import PyProof.P3In
import PyProof.NeData
import PyProof.FactsAll.tuple_2
import KE.KTryMore
import PyProof.ExcArgsOwn
import PyProof.ExcAttrAll.ValueError
import PyProof.ExcBaseAll.ValueError
import PySem.Challenge.RW_unstruck_k51_there_and_back
set_option genSizeOf false
set_option genSizeOfSpec false
local macro_rules | `(tactic| omega) => `(tactic| first | lia | omega (config := {}))
set_option Elab.async false
set_option linter.all false
set_option maxRecDepth 100000
def JL:=@PySem.wpAny_bind
def JM:=@List.length_map
def JN:=@PySem.Heap.get?_push_of_some
def JO:=@List.mem_cons_of_mem
def JP:=@List.mem_cons_self
def JQ:=@PySem.wpAny_pure
def JR:=@if_neg
def JS:=@if_pos
def JT:=@Bool.false_ne_true
def JU:=@Bool.and_eq_true
def JV:=@Nat.le_refl
def JW:=@List.mem_map
def JX:=@List.getD_eq_getElem?_getD
def JY:=@List.getElem?_eq_some_iff
def JZ:=@List.map_cons
def Ja:=@List.getElem?_eq_getElem
def Jb:=@List.size_toArray
def Jc:=@List.getElem?_map
def Jd:=@PySem.Heap.get?_push_size
def Je:=@PySem.Heap.lt_size
def Jf:=@List.all_eq_true
def Jg:=@List.mem_cons
def Jh:=@List.length_cons
def Ji:=@List.map_append
def Jj:=@List.length_append
def Jk:=@decide_eq_false
def Jl:=@Option.some.inj
def Jm:=@Nat.ne_of_lt
def Jn:=@List.mem_of_getElem?
def Jo:=@decide_eq_true
def Jp:=@LawfulBEq.eq_of_beq
def Jq:=@List.map_map
def Jr:=@of_decide_eq_true
def Js:=@Nat.zero_le
def Jt:=@List.nodup_cons
def Ju:=@List.mem_range
def Jv:=@Array.length_toList
def Jw:=@congrArg
def Jx:=@PySem.Heap.get?_update_other
def Jy:=@Nat.lt_of_lt_of_le
def Jz:=@PySem.mem_of_lookup
def J0:=@List.mem_append
def J1:=@PySem.wpAny_call_entry
def J2:=@Nat.le_trans
def J3:=@List.length_filter_le
def J4:=@decide_eq_true_eq
def J5:=@List.mem_singleton
def J6:=@PySem.Heap.get?_update_self
def J7:=@List.mem_filter
def J8:=@Bool.eq_iff_iff
def J9:=@List.not_mem_nil
def KA:=@List.lookup_cons
def KB:=@List.getElem?_range
def KC:=@PySem.sizeLine_eq
def KD:=@PyProof.Rows.callWith_type1
def KF:=@List.getElem?_set_ne
def KG:=@List.mem_append_right
def KH:=@List.contains_iff_mem
def KI:=@List.map_congr_left
def KJ:=@PySem.Obj.data_mapFields
def KL:=@List.append_nil
def KM:=@PySem.wpAny_newObj_type
def KN:=@List.getElem?_eq_none
def KO:=@List.length_range
def KP:=@Nat.lt_succ_of_lt
def KQ:=@Array.getD_eq_getD_getElem?
def KR:=@PySem.wpAny_callSpecial?_slot
def KS:=@PySem.wpAny_holding
def KU:=@List.nodup_append
def KW:=@List.append_assoc
def KY:=@Array.getElem?_toList
def KZ:=@Nat.ne_of_gt
def Ka:=@List.find?_cons
def Kb:=@List.filter_cons
def Kc:=@Ne.symm
def Kd:=@PySem.PassesOwn.never
def Ke:=@PySem.wpAny_mono
def Kf:=@List.getElem?_set_self
def Kg:=@List.length_set
def Kh:=@Bool.or_eq_true
def Ki:=@Classical.byContradiction
def Kj:=@PySem.wpAny_truthy_bool
def Kk:=@PySem.Heap.SameBut.update
def Kl:=@List.take_length
def Km:=@PySem.wpAny_loadPart'
def Kn:=@PySem.Obj.isFreed_of_fields
def Ko:=@List.pairwise_append
def Kp:=@List.mem_append_left
def Kq:=@List.getElem?_cons_succ
def Kr:=@List.foldl_cons
def Ks:=@beq_eq_false_iff_ne
def Kt:=@PySem.wpAny_setField
def Ku:=@PySem.Heap.size_push
def Kv:=@List.replicate_succ
def Kw:=@List.map_nil
def Kx:=@PySem.codeAny_builtin
def Ky:=@List.getElem_mem
def Kz:=@List.pairwise_cons
def K0:=@List.lookup_append
def K1:=@List.filter_append
def K2:=@Bool.false_eq_true
def K3:=@List.getElem?_zipWith
def K4:=@PySem.wpAny_of_eq
def K5:=@List.getElem?_append_left
def K6:=@List.drop_eq_getElem_cons
def K7:=@List.range_succ
def K8:=@List.length_nil
def K9:=@or_false
def LA:=@List.take_add_one
def LB:=@List.pairwise_map
def LC:=@Int.toNat_natCast
def LD:=@Bool.not_eq_true'
def LF:=@Bool.eq_false_iff
def LG:=@PySem.builtinLookup_eq_fast
def LH:=@beq_iff_eq
def LI:=@Nat.lt_irrefl
def LJ:=@PySem.boot_len
def LK:=@PySem.Around.under_plainId
def LL:=@Nat.lt_trans
def LM:=@Nat.le_of_lt
def LO:=@List.contains_cons
def LP:=@PySem.W.kia_one
def LQ:=@PySem.wpAny_typeNameOfWhole_keyiter
def LR:=@List.getElem?_set
def LS:=@List.foldl_append
def LU:=@List.flatten_cons
def LV:=@PySem.wpAny_specialOf
def LW:=@PySem.wpAny_passesOwn
def LX:=@Nat.le_succ
def LY:=@List.getElem?_append_right
def LZ:=@Option.bind_some
def La:=@Nat.zero_add
def Lb:=@Nat.lt_or_ge
def Lc:=@Int.zero_add
def Ld:=@Bool.not_eq_true
def Le:=@PySem.wpAny_pyIter_slot
def Lf:=@PySem.wpAny_dictEntries
def Lh:=@Array.getElem?_eq_getElem
def Li:=@PyProof.Rows.F.plain_set_update_loop
def Lj:=@List.length_zipWith
def Lk:=@List.length_reverse
def Ll:=@PySem.wpAny_field
def Lm:=@List.all_cons
def Ln:=@PySem.wpAny_isInstance
def Lo:=@PySem.wpAny_askSetting
def Lp:=@PySem.wpAny_typeNameOf_keyiter
def Lq:=@PySem.wpAny_attempt
def Lr:=@List.ext_getElem?
def Lu:=@PySem.typeLookup_type
def Lw:=@PyProof.Rows.mirror_perm
def Lx:=@Bool.beq_eq_decide_eq
def Ly:=@decide_eq_decide
def Lz:=@List.length_take
def L3:=@List.any_cons
def L4:=@if_false
def L5:=@PySem.wpAny_setState_of
def L6:=@PySem.isSubtype_type
def L7:=@PySem.Obj.cls_mapFields
def L8:=@PySem.Calls.callWith_builtin
def L9:=@List.mem_of_mem_drop
def MA:=@not_or
def MB:=@Array.Perm.refl
def MC:=@Nat.min_self
def MD:=@PySem.wpAny_newList
def ME:=@PySem.Paired.length
def MF:=@Nat.lt_of_le_of_lt
def MG:=@List.zip_cons_cons
def MH:=@List.map_singleton
def MI:=@Int.emod_lt_of_pos
def MJ:=@Bool.false_and
def MK:=@List.filter_congr
def ML:=@PySem.F.args_tuple_add_2
def MM:=@List.Perm.eq_of_pairwise
def MN:=@PySem.wpAny_pyIter_tuple
def MO:=@PySem.Calls.call_function_entry
def MP:=@PySem.wpAny_pyIter_list
def MQ:=@PySem.wpAny_pyIter_enum
def MR:=@PySem.plainId_quiet
namespace L2
open PySem PySem.Spec PyProof.Rows
noncomputable abbrev ae:=Sum Int Str
noncomputable def mL:ae->Value->Bool
 | .inl k,v=>Value.isInt k v
 | .inr x,v=>Value.isStrOf x v
noncomputable def keyH(w:World):ae->Int
 | .inl k=>hashInt k
 | .inr x=>hashStr w x
theorem ar:∀{k:ae}{v:Value},mL k v=true->(∃i t,k=Sum.inl i/\v=Value.int i t)\/(∃x t,k=Sum.inr x/\v=Value.str x t)
 | .inl i,v,h=>by
  obtain⟨t,e⟩:=Value.isInt_shape (k:=i) (v:=v) h;exact .inl ⟨i,t,rfl,e⟩
 | .inr x,v,h=>by
  obtain⟨t,e⟩:=Value.isStrOf_shape (x:=x) (v:=v) h;exact .inr ⟨x,t,rfl,e⟩
theorem wM(i:Int)(t:Tok):mL (.inl i) (.int i t)=true:=by simp[mL,Value.isInt]
theorem wL(x:Str)(t:Tok):mL (.inr x) (.str x t)=true:=by simp[mL,Value.isStrOf]
theorem Et(a b:Int):decide ((Sum.inl a:ae)=Sum.inl b)=(a==b):=by
 by_cases e:a=b
 ·subst e;simp
 ·have h:¬(Sum.inl a:ae)=Sum.inl b:=fun q=>e (Sum.inl.inj q)
  rw[Jk h];exact(Ks.mpr e).symm
theorem Ep(a b:Str):decide ((Sum.inr a:ae)=Sum.inr b)=decide (a=b):=by
 by_cases e:a=b
 ·subst e;simp
 ·have h:¬(Sum.inr a:ae)=Sum.inr b:=fun q=>e (Sum.inr.inj q)
  rw[Jk h,Jk e]
theorem Es(a:Int)(b:Str):decide ((Sum.inl a:ae)=Sum.inr b)=false:=Jk (fun q=>nomatch q)
theorem Er(a:Str)(b:Int):decide ((Sum.inr a:ae)=Sum.inl b)=false:=Jk (fun q=>nomatch q)
noncomputable def aU(prog:Program)(w:World):PySem.KeyKind prog w ae where
 is:=mL
 hash:=keyH w
 inj:=fun v a b ha hb=>by
  rcases ar ha with⟨i,t,rfl,rfl⟩|⟨x,t,rfl,rfl⟩
  ·rcases ar hb with⟨j,u,rfl,e⟩|⟨y,u,rfl,e⟩
   ·injection e with e1 _;rw[e1]
   ·exact nomatch e
  ·rcases ar hb with⟨j,u,rfl,e⟩|⟨y,u,rfl,e⟩
   ·exact nomatch e
   ·injection e with e1 _;rw[e1]
 byValue:=fun k v h=>by
  rcases ar h with⟨i,t,rfl,rfl⟩|⟨x,t,rfl,rfl⟩<;>rfl
 pyHash:=fun hv h=>by
  rcases ar hv with⟨i,t,rfl,rfl⟩|⟨x,t,rfl,rfl⟩
  ·exact wpAny_pyHash_int h
  ·exact wpAny_pyHash_str h
 eqBool:=fun hu hv h=>by
  rcases ar hu with⟨i,t,rfl,rfl⟩|⟨x,t,rfl,rfl⟩
  ·rcases ar hv with⟨j,u,rfl,rfl⟩|⟨y,u,rfl,rfl⟩
   ·rw[Et]at h;exact wpAny_eqBool_int h
   ·rw[Es]at h;exact SeqAt.EqAt.int_str i t y u _ _ _ _ h
  ·rcases ar hv with⟨j,u,rfl,rfl⟩|⟨y,u,rfl,rfl⟩
   ·rw[Er]at h;exact SeqAt.EqAt.str_int x t j u _ _ _ _ h
   ·rw[Ep]at h;exact wpAny_eqBool_str h
 «strs»:=fun k x t v h=>by
  rcases ar h with⟨i,u,rfl,e⟩|⟨y,u,rfl,e⟩
  ·exact nomatch e
  ·injection e with e1 _
   subst e1;cases v<;>rfl
theorem py(prog:Program)(w:World)(i:Int)(t:Tok):(aU prog w).is (.inl i) (.int i t)=true:=wM i t
theorem px(prog:Program)(w:World)(x:Str)(t:Tok):(aU prog w).is (.inr x) (.str x t)=true:=wL x t
inductive V where
 | non|bl (b:Bool)|int (i:Int)|str (x:Str)|byt (b:Array UInt8)|flt (b:UInt64)|ref (a:Addr)|ty (n:String)
 deriving DecidableEq
noncomputable def RelV:V->Value->Prop
 | .non,u=>u=Value.none
 | .bl b,u=>u=Value.bool b
 | .int i,u=>∃t,u=Value.int i t
 | .str x,u=>∃t,u=Value.str x t
 | .byt b,u=>∃t,u=Value.bytes b t
 | .flt b,u=>∃t,u=Value.float b t
 | .ref a,u=>u=Value.ref a
 | .ty n,u=>u=Value.type n
noncomputable abbrev aL:List V->List Value->Prop:=Paired RelV
theorem aL.length{xs:List V}{us:List Value}(r:aL xs us):xs.length=us.length:=ME r
theorem aL.get:∀{xs:List V}{us:List Value}{i:Nat}{x:V},aL xs us->xs[i]? =some x->∃u,us[i]? =some u/\RelV x u
 | _,_,_,_,.nil,e=>by simp at e
 | _,_,0,_,.cons r _,e=>by simp at e;subst e;exact⟨_,rfl,r⟩
 | _,_,i+1,x,.cons _ t,e=>by
  obtain⟨u,h1,h2⟩:=aL.get (i:=i) (x:=x) t (by simpa using e);exact⟨u,by simpa using h1,h2⟩
theorem aL.set{x:V}{u:Value}(r:RelV x u):∀{xs:List V}{us:List Value}(i:Nat),aL xs us->aL (xs.set i x) (us.set i u)
 | _,_,_,.nil=>.nil
 | _,_,0,.cons _ t=>.cons r t
 | _,_,i+1,.cons q t=>.cons q (aL.set r i t)
theorem aL.append{xs ys:List V}{us ws:List Value}(h:aL xs us)(k:aL ys ws):aL (xs++ys) (us++ws):=by
 induction h with
 | nil=>exact k
 | cons r t ih=>exact .cons r ih
theorem aL.take:∀{xs:List V}{us:List Value}(n:Nat),aL xs us->aL (xs.take n) (us.take n)
 | _,_,0,_=>.nil
 | _,_,_+1,.nil=>.nil
 | _,_,n+1,.cons r t=>.cons r (aL.take n t)
theorem aL.drop:∀{xs:List V}{us:List Value}(n:Nat),aL xs us->aL (xs.drop n) (us.drop n)
 | _,_,0,r=>r
 | _,_,_+1,.nil=>.nil
 | _,_,n+1,.cons _ t=>aL.drop n t
noncomputable def iP:Option V->Option Value->Prop
 | some v,some u=>RelV v u
 | none,none=>True
 | _,_=>False
noncomputable def KV{κ:Type}:List (κ×V)->List (κ×Value)->Prop:=Paired fun(p:κ×V)(q:κ×Value)=>p.1=q.1/\RelV p.2 q.2
noncomputable def kV:ae->V
 | .inl i=>.int i
 | .inr x=>.str x
inductive HO where
 | lst (xs:List V)
 | tup (xs:List V)
 | dK (kvs:List (ae×V))|dT (kvs:List (List ae×V))
 | set (S:Int->Bool) (n:Nat)
 | ins (C dx:Addr) (fs:List (Str×V))
 | own (x:Addr)
 | xd (fs:List (Str×V))
 | met (f x:Addr)
 | rng (lo hi:Int)
 | frz (o:Obj) (u:HO)
 | tbl (ps:Array Value)
 | ext (φ:Heap->Prop)
noncomputable abbrev Hp:=Addr->Option HO
noncomputable def upd(H:Hp)(a:Addr)(o:HO):Hp:=fun b=>if b=a then some o else H b
theorem aC{H:Hp}{a:Addr}{o:HO}:upd H a o a=some o:=by unfold upd;rw[JS rfl]
theorem aB{H:Hp}{a b:Addr}{o:HO}(h:b≠a):upd H a o b=H b:=by unfold upd;rw[JR h]
theorem Ag{H:Hp}{a:Addr}{o u:HO}:upd (upd H a o) a u=upd H a u:=by
 funext b;unfold upd;split<;>rfl
theorem yY{H:Hp}{a b:Addr}{o u:HO}(h:H a=some o)(h' :H b=some u)(d:o≠u):a≠b:=by
 intro e;subst e;rw[h]at h';exact d (Jl h')
theorem aE{H:Hp}{a b:Addr}{o:HO}(h:H a=some o)(h' :H b=none):a≠b:=by
 intro e;subst e;rw[h]at h';cases h'
noncomputable def fz(h:Heap)(a:Addr)(its:Array Value):Prop:=∃o,h.get? a=some o/\o.cls=.type "tuple"/\∃n,o.data=.seq its n/\o.dict=none
theorem fz.tup{h:Heap}{a:Addr}{its:Array Value}(x:fz h a its):IsTup h a its:=let⟨o,e,c,n,d,_⟩:=x;⟨o,e,c,n,d⟩
theorem fz.new(h:Heap)(its:Array Value):fz (h.push {cls:=.type "tuple",data:=.seq its}) h.objs.size its:=⟨_,Jd _ rfl,rfl,_,rfl,rfl⟩
section
variable(P:Program)(w:World)
noncomputable def aj(H:Hp)(h:Heap)(a:Addr):HO->Prop
 | .lst xs=>xs.length<=sizeLine/\∃(its:List Value)(n:Nat),aL xs its/\h.get? a=some {cls:=.type "list",data:=.seq its.toArray n}
 | .tup xs=>xs.length<=sizeLine/\∃its:List Value,aL xs its/\fz h a its.toArray
 | .dK kvs=>kvs.length<=sizeLine/\(a==sysModules)=false/\∃vs,KV kvs vs/\h.DictOf (aU P w) a vs
 | .dT kvs=>kvs.length<=sizeLine/\(a==sysModules)=false/\∃xs:List (List ae×Addr×Value),
   Paired (fun(p:List ae×V) (q:List ae×Addr×Value)=>p.1=q.1/\H q.2.1=some (.tup (p.1.map kV))/\RelV p.2 q.2.2) kvs xs /\
   ∃o es ep,h.get? a=some o/\o.ExactDict/\o.data=.dict es ep/\es.toList=xs.map (entryOfKey (tupleKind (aU P w)))/\(xs.map (·.1)).Nodup
 | .set S n=>h.SetOf (intKind P w) a S n
 | .ins C dx fs=>H dx=some (.own a)/\fs.length<=1000/\dx≠a/\h.get? a=some (W.instObj C dx) /\
   ∃mA,h.Ns1 dx mA/\(∀f,iP (fs.lookup f) (mA f))/\PySem.Within mA (fs.map (·.1))
 | .own _=>∃o,h.get? a=some o
 | .xd fs=>∃mA,h.Ns1 a mA/\∀f,iP (fs.lookup f) (mA f)
 | .rng lo hi=>∃t u v,h.get? a=some {cls:=.type "range",data:=.fields #[.int lo t,.int hi u,.int 1 v]}
 | .frz o u=>h.get? a=some o/\aj H h a u
 | .tbl ps=>h.get? a=some {cls:=.none,data:=.fields ps}
 | .met f x=>h.get? a=some (W.methodObj (.ref f) (.ref x))
 | .ext φ=>φ h/\(∃o,h.get? a=some o)/\∀h1 h2:Heap,φ h1->(∀o,h1.get? a=some o->h2.get? a=some o)->φ h2
noncomputable def eh(H:Hp)(h:Heap):Prop:=∀a o,H a=some o->aj P w H h a o
end
section
variable{P:Program}{w:World}{H H' :Hp}{h h' :Heap}{a:Addr}{o:HO}
theorem aj.lt(x:aj P w H h a o):a<h.objs.size:=by
 cases o with
 | lst xs=>obtain⟨_,_,_,_,e⟩:=x;exact Je e
 | tup xs=>obtain⟨_,_,_,p⟩:=x;exact p.tup.lt
 | dK kvs=>obtain⟨_,_,_,_,o,_,_,e,_⟩:=x;exact Je e
 | dT kvs=>obtain⟨_,_,_,_,o,_,_,e,_⟩:=x;exact Je e
 | set S n=>obtain⟨o,_,_,_,e,_⟩:=x;exact Je e
 | ins C dx fs=>obtain⟨_,_,_,e,_⟩:=x;exact Je e
 | own y=>obtain⟨_,e⟩:=x;exact Je e
 | xd fs=>obtain⟨_,⟨_,_,_,e,_⟩,_⟩:=x;exact Je e
 | rng lo hi=>obtain⟨_,_,_,e⟩:=x;exact Je e
 | frz ob u=>obtain⟨e,_⟩:=x;exact Je e
 | tbl ps=>exact Je (show h.get? a=some _ from x)
 | met f y=>exact Je (show h.get? a=some _ from x)
 | ext φ=>obtain⟨_,⟨_,e⟩,_⟩:=x;exact Je e
theorem Paired.mapP{α β:Type}{F G:α->β->Prop}{l₁:List α}{l₂:List β}(h:Paired F l₁ l₂)(f:∀a b,F a b->G a b):Paired G l₁ l₂:=by
 induction h with
 | nil=>exact .nil
 | cons r t ih=>exact .cons (f _ _ r) ih
theorem Paired.imp'{α β:Type}{F G:α->β->Prop}(f:∀a b,F a b->G a b){l₁:List α}{l₂:List β}(r:Paired F l₁ l₂):Paired G l₁ l₂:=Paired.mapP r f
theorem aj.stay(x:aj P w H h a o)(k:∀b u,(b=a\/H b=some (.own a))->h.get? b=some u->h'.get? b=some u)
  (ho:∀b,H b=some (.own a)->H' b=some (.own a)) (ht:∀b xs,H b=some (.tup xs)->H' b=some (.tup xs)):aj P w H' h' a o:=by
 induction o with
 | lst xs=>obtain⟨z,its,n,r,e⟩:=x;exact⟨z,its,n,r,k _ _ (.inl rfl) e⟩
 | tup xs=>obtain⟨z,its,r,ob,e,c⟩:=x;exact⟨z,its,r,ob,k _ _ (.inl rfl) e,c⟩
 | dK kvs=>obtain⟨z,y,vs,r,ob,es,ep,e,c⟩:=x;exact⟨z,y,vs,r,ob,es,ep,k _ _ (.inl rfl) e,c⟩
 | dT kvs =>
  obtain⟨z,y,xs,r,ob,es,ep,e,c⟩:=x;exact⟨z,y,xs,Paired.mapP r fun p q z=>⟨z.1,ht _ _ z.2.1,z.2.2⟩,ob,es,ep,k _ _ (.inl rfl) e,c⟩
 | set S n=>obtain⟨ob,es,ep,t,e,c⟩:=x;exact⟨ob,es,ep,t,k _ _ (.inl rfl) e,c⟩
 | ins C dx fs =>
  obtain⟨d,z,ne,e,mA,⟨od,es,ep,e2,c⟩,r⟩:=x;exact⟨ho _ d,z,ne,k _ _ (.inl rfl) e,mA,⟨od,es,ep,k _ _ (.inr d) e2,c⟩,r⟩
 | own y=>obtain⟨ob,e⟩:=x;exact⟨ob,k _ _ (.inl rfl) e⟩
 | xd fs=>obtain⟨mA,⟨od,es,ep,e,c⟩,r⟩:=x;exact⟨mA,⟨od,es,ep,k _ _ (.inl rfl) e,c⟩,r⟩
 | rng lo hi=>obtain⟨t,u,v,e⟩:=x;exact⟨t,u,v,k _ _ (.inl rfl) e⟩
 | frz ob u ih=>obtain⟨e,q⟩:=x;exact⟨k _ _ (.inl rfl) e,ih q⟩
 | tbl ps =>
  have e:h.get? a=some {cls:=.none,data:=.fields ps}:=x;show h'.get? a=some {cls:=.none,data:=.fields ps};exact k a _ (.inl rfl) e
 | met f y =>
  have e:h.get? a=some (W.methodObj (.ref f) (.ref y)):=x;show h'.get? a=some (W.methodObj (.ref f) (.ref y));exact k a _ (.inl rfl) e
 | ext φ=>obtain⟨p,⟨o,e⟩,st⟩:=x;exact⟨st _ _ p fun o q=>k _ _ (.inl rfl) q,⟨o,k _ _ (.inl rfl) e⟩,st⟩
theorem eh.lt(x:eh P w H h)(e:H a=some o):a<h.objs.size:=(x a o e).lt
theorem eh.fresh(x:eh P w H h)(e:h.objs.size<=a):H a=none:=by
 cases q:H a with
 | none=>rfl
 | some u=>exact absurd (Jy (x.lt q) e) (LI _)
theorem eh.kept(x:eh P w H h)(k:∀b u,h.get? b=some u->h'.get? b=some u):eh P w H h' :=fun a o e =>
 (x a o e).stay (fun b u _ q=>k b u q) (fun _ q=>q) fun _ _ q=>q
theorem eh.laid(x:eh P w H h)(k:∀b u,h.get? b=some u->h'.get? b=some u)(hp:h.objs.size<=a)(new:aj P w (upd H a o) h' a o):eh P w (upd H a o) h' :=fun b u e=>by
 have hn:=x.fresh hp
 by_cases hb:b=a
 ·subst hb;rw[aC]at e;cases e;exact new
 ·rw[aB hb]at e
  exact(x b u e).stay (fun c v _ q=>k c v q) (fun c q=>by rw[aB (aE q hn)];exact q) fun c xs q=>by rw[aB (aE q hn)];exact q
end
noncomputable def Rd(H:Hp)(a:Addr)(u:HO):Prop:=H a=some u\/∃o,H a=some (.frz o u)
theorem Rd.ok{P:Program}{w:World}{H:Hp}{h:Heap}{a:Addr}{u:HO}(r:Rd H a u)(x:eh P w H h):aj P w H h a u:=by
 rcases r with r|⟨o,r⟩
 ·exact x a u r
 ·obtain⟨_,q⟩:=x a _ r
  exact q
noncomputable def JA:Option HO->Prop
 | some (.lst _)=>True
 | some (.dK _)=>True
 | some (.dT _)=>True
 | some (.set _ _)=>True
 | some (.ins _ _ _)=>True
 | some (.ext _)=>True
 | _=>False
section
variable{P:Program}{w:World}{H:Hp}{h h' :Heap}{x e:Addr}{o' :HO}
theorem eh.write(ok:eh P w H h)(mu:JA (H x))(he:e=x\/H e=some (.own x))(k:∀b u,b≠e->h.get? b=some u->h'.get? b=some u)(heo:∃u,h'.get? e=some u)
  (new:aj P w (upd H x o') h' x o'):eh P w (upd H x o') h' :=fun b u q=>by
 have nown:∀c y,H c=some (.own y)->c≠x:=fun c y r z=>by subst z;rw[r]at mu;exact mu
 have ntup:∀c xs,H c=some (.tup xs)->c≠x:=fun c xs r z=>by subst z;rw[r]at mu;exact mu
 by_cases hb:b=x
 ·subst hb;rw[aC]at q;cases q;exact new
 ·rw[aB hb]at q
  by_cases hbe:b=e
  ·have q' :H b=some (.own x):=by
    rcases he with z|z
    ·exact absurd (hbe.trans z) hb
    ·rw[hbe];exact z
   rw[q]at q';cases q';obtain⟨v,hv⟩:=heo;exact⟨v,by rw[hbe];exact hv⟩
  ·refine(ok b u q).stay (fun c v hc r=>k c v ?_ r) (fun c r=>by rw[aB (nown c b r)];exact r) fun c xs r=>by rw[aB (ntup c xs r)];exact r
   rcases hc with rfl|hc
   ·exact hbe
   ·rintro rfl
    rcases he with z|z
    ·exact nown c b hc z
    ·rw[hc]at z;cases z;exact hb rfl
end
structure Un(fs ex:List Addr)(H H' :Hp)(h h' :Heap):Prop where
 keep:∀b o,h.get? b=some o->H b=none->b∉fs->b∉ex->h'.get? b=some o
 slot:∀b o,h.get? b=some o->H b=none->b∈fs->b∉ex->∃sl,h'.get? b=some {o with slots:=sl}
 free:∀b o,h.get? b=some o->H b=none->b∉ex->H' b=none
 there:∀b o,h.get? b=some o->b∉ex->∃o',h'.get? b=some o'
 tups:∀b xs,H b=some (.tup xs)->H' b=some (.tup xs)
 frzs:∀b o u,H b=some (.frz o u)->H' b=some (.frz o u)
 tbls:∀b ps,H b=some (.tbl ps)->∃more,H' b=some (.tbl (ps++more))
section
variable{fs fs' ex ex' :List Addr}{H H1 H2:Hp}{h h1 h2 h' :Heap}{a x e:Addr}{o:HO}
theorem Un.any(u:Un fs ex H H1 h h1){b:Addr}{ob:Obj}(q:h.get? b=some ob)(n:H b=none)(hx:b∉ex):∃sl,h1.get? b=some {ob with slots:=sl}:=by
 by_cases hb:b∈fs
 ·exact u.slot b ob q n hb hx
 ·exact⟨ob.slots,u.keep b ob q n hb hx⟩
theorem Un.kept(k:∀b u,h.get? b=some u->h'.get? b=some u):Un fs ex H H h h' :=
 ⟨fun b ob q _ _ _=>k b ob q,fun b ob q _ _ _=>⟨ob.slots,k b ob q⟩,fun _ _ _ n _=>n,fun b ob q _=>⟨ob,k b ob q⟩,fun _ _ q=>q,fun _ _ _ q=>q,fun _ ps q=>⟨#[],by rw[q];simp⟩⟩
theorem Un.refl:Un fs ex H H h h:=Un.kept fun _ _ q=>q
theorem Un.laid(k:∀b u,h.get? b=some u->h'.get? b=some u)(hp:h.objs.size<=a)(hn:H a=none):Un fs ex H (upd H a o) h h' where
 keep:=fun b u q _ _ _=>k b u q
 slot:=fun b u q _ _ _=>⟨u.slots,k b u q⟩
 free:=fun b u q n _=>by rw[aB (Jm (Jy (Je q) hp))];exact n
 there:=fun b u q _=>⟨u,k b u q⟩
 tups:=fun b xs q=>by rw[aB (aE q hn)];exact q
 frzs:=fun b u xs q=>by rw[aB (aE q hn)];exact q
 tbls:=fun b ps q=>⟨#[],by rw[aB (aE q hn),q];simp⟩
theorem Un.write(mu:JA (H x))(he:e=x\/H e=some (.own x))(k:∀b u,b≠e->h.get? b=some u->h'.get? b=some u)(heo:∃u,h'.get? e=some u):Un fs ex H (upd H x o) h h' :=by
 have hx:∀b,H b=none->b≠x:=fun b n z=>by subst z;rw[n]at mu;exact mu
 have hb:∀b,H b=none->b≠e:=fun b n z=>by
  subst z
  rcases he with r|r
  ·exact hx b n r
  ·rw[n]at r;cases r
 have hm:∀b u,H b=some u->¬JA (some u)->b≠x:=fun b u q nm z=>by subst z;rw[q]at mu;exact nm mu
 refine⟨fun b u q n _ _=>k b u (hb b n) q,fun b u q n _ _=>⟨u.slots,k b u (hb b n) q⟩,fun b u q n _=>by rw[aB (hx b n)];exact n,fun b u q _=> ?_,
  fun b xs q=>by rw[aB (hm b _ q fun z=>z)];exact q,fun b u xs q=>by rw[aB (hm b _ q fun z=>z)];exact q,fun b ps q=>⟨#[],by rw[aB (hm b _ q fun z=>z),q];simp⟩⟩
 by_cases hbe:b=e
 ·subst hbe;exact heo
 ·exact⟨u,k b u hbe q⟩
end
noncomputable def trk(h:Heap)(H:Hp):List Addr:=(List.range h.objs.size).filter fun a=>(H a).isSome
noncomputable def nw(h:Heap)(H:Hp):Heap:=W.hideAll h (trk h H)
theorem wT(h:Heap)(H:Hp):(nw h H).objs.size=h.objs.size:=W.hideAll_size _ _
theorem zC{h:Heap}{H:Hp}{b:Addr}{o:Obj}(e:h.get? b=some o)(n:H b=none):(nw h H).get? b=some o :=
 W.hideAll_get _ e fun hm=>by
  have q:(H b).isSome=true:=(J7.mp hm).2;rw[n]at q;simp at q
theorem BU{h:Heap}{H:Hp}{b:Addr}{o:Obj}(e:(nw h H).get? b=some o):h.get? b=some o/\H b=none:=by
 have e' :h.get? b=some o:=W.of_hideAll (trk h H) e;refine⟨e',?_⟩;cases q:H b with
 | none=>rfl
 | some x =>
  have hm:b∈trk h H:=J7.mpr ⟨Ju.mpr (Je e'),by simp[q]⟩;have z:(nw h H).get? b=none:=W.hideAll_none (trk h H) hm;rw[z]at e;cases e
noncomputable def Cj(g h:Heap)(L:Addr):List (Addr×Obj):=(List.range h.objs.size).filterMap fun a=>if a=L\/(g.get? a).isSome=true then none else(h.get? a).map fun o=>(a,o)
noncomputable def aN(g h:Heap)(L d:Addr):List (Addr×Obj):=(Cj g h L).filter fun p=>decide (p.1≠d)
structure Mod(K:W.Frag)(mg:Str->Option Value)(base:Heap):Prop where
 kin:K.In base
 glob:base.Ns mainGlobals mg
 blt:∃mb,base.Ns builtinsNs mb/\∀x:Str,x≠"__name__"->mb x=bootBuiltins x
 nolimit:base.NoLimit
structure Cx where
 prog:Program
 w:World
 K:W.Frag
 mg:Str->Option Value
 base:Heap
 A:Around
 N:List Str
 s₀:Shared
 H₀:Hp
 env:Env
 outer:List Env
 stack:List Env
 ex:List Addr
 fn:Str->Bool
 calm:Bool
 pn:List (Addr×Obj)
 xe:Value->Shared->Prop
noncomputable def sr(l:List Env):List Addr:=l.filterMap (·.frame)
noncomputable abbrev Cx.fs(X:Cx):List Addr:=sr X.outer
noncomputable def GO(sc:Scope)(x:Str):Prop:=sc.names.lookup x=some .local\/sc.names.lookup x=some .cell\/sc.names.lookup x=some .free
noncomputable def Loc(sc:Scope)(x:Str):Prop:=sc.names.lookup x=some .local\/sc.names.lookup x=some .cell
noncomputable def Look(env:Env)(h:Heap)(m:Str->Option Value)(x:Str)(u:Value):Prop :=
 (env.kindOf x=some .local/\m x=some u)\/((env.kindOf x=some .cell\/env.kindOf x=some .free)/\∃c,env.cells.lookup x=some c/\h.IsCell c (some u))
structure Cx.Ok(X:Cx):Prop where
 mod:Mod X.K X.mg X.base
 kind:X.env.scope.kind=.function
 glob:X.env.globals=mainGlobals
 blt:X.env.builtins=builtinsNs
 above:X.s₀.heap.objs.size<=X.env.locals
 inj:∀x y c,X.env.cells.lookup x=some c->X.env.cells.lookup y=some c->x=y
 has:∀x,(X.env.kindOf x=some .cell\/X.env.kindOf x=some .free)->∃c,X.env.cells.lookup x=some c
 cab:∀x c,X.fn x=true->X.env.cells.lookup x=some c->X.s₀.heap.objs.size<=c
 hd:X.calm=true->X.A.handled=none
 frames:X.A.frames=some X.stack
 stk:X.stack=X.outer\/(X.stack=X.env::X.outer/\X.env.frame=some X.env.locals)
 exf:∀b∈X.ex,b≠X.env.locals/\∀x c,X.env.cells.lookup x=some c->c≠b
 bs:∀b o,X.base.get? b=some o->X.s₀.heap.get? b=some o/\X.H₀ b=none
 bsz:X.base.objs.size<=X.s₀.heap.objs.size
 noex:∀b o,X.base.get? b=some o->b∉X.ex
 exfs:∀b∈X.ex,b∉X.fs
 funs:X.s₀.heap.FunFrames X.base X.outer
 frf:∀b∈X.fs,X.H₀ b=none
structure Inv(X:Cx)(pins:List (Addr×Obj))(σ:List (Option V))(H:Hp)(s:Shared):Prop where
 ok:X.Ok
 os:s.os=X.s₀.os
 bare:AllBare s.gens
 base:Un X.fs X.ex X.H₀ H X.s₀.heap s.heap
 loc:∃m,s.heap.Ns X.env.locals m/\∀(i:Nat)(x:Str)(v:V),X.N[i]? =some x->σ[i]? =some (some v)->GO X.env.scope x->∃u,RelV v u/\Look X.env s.heap m x u
 cell:∀x c,X.env.cells.lookup x=some c->∃v,s.heap.IsCell c v
 free:H X.env.locals=none
 freeC:∀x c,X.env.cells.lookup x=some c->H c=none
 pin:∀p∈X.pn++pins,s.heap.get? p.1=some p.2/\H p.1=none/\p.1≠X.env.locals/\p.1∉X.fs/\∀v,p.2.data≠.cell v
 hok:eh X.prog X.w H s.heap
 len:σ.length=X.N.length
section
variable{X:Cx}{pins:List (Addr×Obj)}{σ:List (Option V)}{H H' :Hp}{s:Shared}{h' :Heap}
theorem Cx.Ok.nofr(ok:X.Ok){b:Addr}{o:Obj}(e:X.base.get? b=some o):b∉X.fs:=fun hb=>by
 have:=(ok.funs.mem hb).1;rw[e]at this;cases this
theorem Inv.bs(I:Inv X pins σ H s):∀b o,X.base.get? b=some o->s.heap.get? b=some o/\H b=none:=fun b o e =>
 ⟨I.base.keep b o (I.ok.bs b o e).1 (I.ok.bs b o e).2 (I.ok.nofr e) (I.ok.noex b o e),I.base.free b o (I.ok.bs b o e).1 (I.ok.bs b o e).2 (I.ok.noex b o e)⟩
theorem Inv.bk(I:Inv X pins σ H s):∀b o,X.base.get? b=some o->s.heap.get? b=some o:=fun b o e=>(I.bs b o e).1
theorem Inv.mod(I:Inv X pins σ H s):Mod X.K X.mg X.base:=I.ok.mod
theorem Inv.kIn(I:Inv X pins σ H s):X.K.In s.heap:=I.ok.mod.kin.keeps I.bk
theorem Inv.lt(I:Inv X pins σ H s):X.env.locals<s.heap.objs.size:=let⟨_,hn,_⟩:=I.loc;hn.lt
theorem Inv.sz(I:Inv X pins σ H s):X.s₀.heap.objs.size<=s.heap.objs.size:=J2 I.ok.above (LM I.lt)
theorem Inv.nofs(I:Inv X pins σ H s){a:Addr}(h:s.heap.objs.size<=a):a∉X.fs:=fun hb=>by
 obtain⟨_,o,ho,_⟩:=I.ok.funs.mem hb;exact absurd (Jy (Je ho) (J2 I.sz h)) (LI _)
theorem Inv.cne(I:Inv X pins σ H s):∀x c,X.env.cells.lookup x=some c->c≠X.env.locals:=fun x c e z=>by
 obtain⟨v,o,ho,hd⟩:=I.cell x c e;obtain⟨m,⟨o',es,ep,ho',hd',_⟩,_⟩:=I.loc;rw[z,ho']at ho;cases ho;rw[hd']at hd;cases hd
theorem Inv.funs(I:Inv X pins σ H s):s.heap.FunFrames X.base X.outer:=by
 have all:∀(l:List Env),(∀b∈sr l,b∈X.fs)->X.s₀.heap.FunFrames X.base l->s.heap.FunFrames X.base l:=by
  intro l
  induction l with
  | nil=>intro _ _;trivial
  | cons env r ih =>
   intro hs hl;obtain⟨hk,⟨L,o,hf,hn,ho,hd⟩,hr⟩:=hl;have hL:L∈X.fs:=hs L (by unfold sr;rw[List.filterMap_cons,hf];exact JP);obtain⟨sl,e⟩:=I.base.slot L o ho (I.ok.frf L hL) hL fun z=>I.ok.exfs L z hL;exact⟨hk,⟨L,_,hf,hn,e,hd⟩,ih (fun b hb=>hs b (by unfold sr;rw[List.filterMap_cons,hf];exact JO _ hb)) hr⟩
 exact all X.outer (fun _ hb=>hb) I.ok.funs
theorem Inv.stack(I:Inv X pins σ H s):s.heap.FunFrames X.base X.stack:=by
 rcases I.ok.stk with e|⟨e,hf⟩
 ·rw[e];exact I.funs
 ·rw[e]
  obtain⟨m,hn,_⟩:=I.loc;refine .cons (by rw[I.ok.kind];decide) hf hn ?_ I.funs;exact Heap.get?_none_of_le (J2 I.ok.bsz I.ok.above)
theorem Inv.stkSub(I:Inv X pins σ H s):∀b∈sr X.stack,b∈X.env.locals::X.fs:=fun b hb=>by
 rcases I.ok.stk with e|⟨e,hf⟩
 ·rw[e]at hb;exact JO _ hb
 ·rw[e]at hb
  unfold sr at hb;rw[List.filterMap_cons,hf]at hb;exact hb
theorem Inv.stkFree(I:Inv X pins σ H s):∀b∈sr X.stack,H b=none:=fun b hb=>by
 rcases Jg.mp (I.stkSub b hb)with e|hb
 ·rw[e];exact I.free
 ·obtain⟨_,o,ho,_⟩:=I.ok.funs.mem hb
  exact I.base.free b o ho (I.ok.frf b hb) fun z=>I.ok.exfs b z hb
theorem Inv.step{g' :Array GenState}{t' :Nat}{d' :Drawn}{ch:List Addr}(I:Inv X pins σ H s)
  (hch:∀b∈ch,(b∈X.ex\/X.s₀.heap.objs.size<=b)/\b≠X.env.locals/\(∀x c,X.env.cells.lookup x=some c->c≠b)/\∀p∈X.pn++pins,p.1≠b)
  (keep:∀b o,b≠X.env.locals->b∉X.fs->b∉ch->s.heap.get? b=some o->H b=none->h'.get? b=some o)
  (slot:∀b o,b≠X.env.locals->b∈X.fs->b∉ch->s.heap.get? b=some o->H b=none->∃sl,h'.get? b=some {o with slots:=sl}) (free:∀b o,b∉ch->s.heap.get? b=some o->H b=none->H' b=none)
  (there:∀b o,b∉ch->s.heap.get? b=some o->∃o',h'.get? b=some o')
  (tups:∀b xs,H b=some (.tup xs)->H' b=some (.tup xs)) (frzs:∀b o u,H b=some (.frz o u)->H' b=some (.frz o u)) (tbls:∀b ps,H b=some (.tbl ps)->∃more,H' b=some (.tbl (ps++more)))
  (ns:∀m,s.heap.Ns X.env.locals m->h'.Ns X.env.locals m) (hok:eh X.prog X.w H' h') (hg:AllBare g') :
  Inv X pins σ H' {s with heap:=h',gens:=g',drawn:=d',toks:=t'}:=by
 have neL:∀b o,X.s₀.heap.get? b=some o->b≠X.env.locals:=fun b o e=>Jm (Jy (Je e) I.ok.above);have neC:∀b o,X.s₀.heap.get? b=some o->b∉X.ex->b∉ch:=fun b o e hx hb=>by
  rcases(hch b hb).1 with z|z
  ·exact hx z
  ·exact absurd (Jy (Je e) z) (LI _)
 have cellK:∀x c,X.env.cells.lookup x=some c->∀v,s.heap.IsCell c v->h'.IsCell c v:=fun x c e v ⟨o,ho,hd⟩=>by
  have nch:c∉ch:=fun z=>(hch c z).2.2.1 x c e rfl
  by_cases hc:c∈X.fs
  ·obtain⟨sl,q⟩:=slot c o (I.cne x c e) hc nch ho (I.freeC x c e)
   exact⟨_,q,hd⟩
  ·exact⟨o,keep c o (I.cne x c e) hc nch ho (I.freeC x c e),hd⟩
 refine⟨I.ok,I.os,hg,⟨fun b o e n hb hx=> ?_,fun b o e n hb hx=> ?_,fun b o e n hx=> ?_,fun b o e hx=> ?_,fun b xs e=>tups b xs (I.base.tups b xs e),fun b o xs e=>frzs b o xs (I.base.frzs b o xs e),fun b ps e=> ?_⟩,?_,fun x c e=> ?_,?_,fun x c e=> ?_,fun p hp=> ?_,hok,I.len⟩
 ·exact keep b o (neL b o e) hb (neC b o e hx) (I.base.keep b o e n hb hx) (I.base.free b o e n hx)
 ·obtain⟨sl,e1⟩:=I.base.slot b o e n hb hx
  obtain⟨sl',e2⟩:=slot b _ (neL b o e) hb (neC b o e hx) e1 (I.base.free b o e n hx);exact⟨sl',e2⟩
 ·obtain⟨o',e1⟩:=I.base.there b o e hx
  exact free b o' (neC b o e hx) e1 (I.base.free b o e n hx)
 ·obtain⟨o',e1⟩:=I.base.there b o e hx
  exact there b o' (neC b o e hx) e1
 ·obtain⟨m1,e1⟩:=I.base.tbls b ps e
  obtain⟨m2,e2⟩:=tbls b _ e1;exact⟨m1++m2,by rw[e2,Array.append_assoc]⟩
 ·obtain⟨m,hn,hl⟩:=I.loc
  refine⟨m,ns m hn,fun i x v e1 e2 e3=> ?_⟩;obtain⟨u,r,l⟩:=hl i x v e1 e2 e3;refine⟨u,r,?_⟩
  rcases l with l|⟨k,c,e,z⟩
  ·exact .inl l
  ·exact .inr ⟨k,c,e,cellK x c e _ z⟩
 ·obtain⟨v,z⟩:=I.cell x c e
  exact⟨v,cellK x c e v z⟩
 ·obtain⟨m,⟨o,_,_,ho,_⟩,_⟩:=I.loc
  exact free _ o (fun z=>(hch _ z).2.1 rfl) ho I.free
 ·obtain⟨v,o,ho,hd⟩:=I.cell x c e
  exact free c o (fun z=>(hch c z).2.2.1 x c e rfl) ho (I.freeC x c e)
 ·obtain⟨e,n,ne,nf,d⟩:=I.pin p hp
  have nch:p.1∉ch:=fun z=>(hch p.1 z).2.2.2 p hp rfl;exact⟨keep p.1 p.2 ne nf nch e n,free p.1 p.2 nch e n,ne,nf,d⟩
theorem Inv.un{t' :Nat}(I:Inv X pins σ H s)(u:Un X.fs [] H H' s.heap h')(hok:eh X.prog X.w H' h'):Inv X pins σ H' {s with heap:=h',toks:=t'}:=by
 obtain⟨m,⟨o,es,ep,ho,r⟩,_⟩:=id I.loc;obtain⟨sl,hL⟩:=u.any ho I.free (by simp);exact I.step (g' :=s.gens) (d' :=s.drawn) (ch:=[]) (fun _ z=>nomatch z) (fun b o _ hb _ e n=>u.keep b o e n hb (by simp)) (fun b o _ hb _ e n=>u.slot b o e n hb (by simp)) (fun b o _ e n=>u.free b o e n (by simp)) (fun b o _ e=>u.there b o e (by simp)) u.tups u.frzs u.tbls (fun m' hm=>by
  obtain⟨o',es',ep',ho',r'⟩:=hm;rw[ho]at ho';cases ho';exact⟨_,es',ep',hL,r'⟩) hok I.bare
theorem Inv.call{g' :Array GenState}{t' :Nat}{d' :Drawn}{ch:List Addr}(I:Inv X pins σ H s)(u:Un (sr X.stack) ch H H' s.heap h')(hok:eh X.prog X.w H' h')(hg:AllBare g')
  (hch:∀b∈ch,(b∈X.ex\/X.s₀.heap.objs.size<=b)/\b≠X.env.locals/\(∀x c,X.env.cells.lookup x=some c->c≠b)/\∀p∈X.pn++pins,p.1≠b) :
  Inv X pins σ H' {s with heap:=h',gens:=g',drawn:=d',toks:=t'}:=by
 obtain⟨m,⟨o,es,ep,ho,r⟩,_⟩:=id I.loc;obtain⟨sl,hL⟩:=u.any ho I.free fun z=>(hch _ z).2.1 rfl;exact I.step (ch:=ch) hch (fun b o hL hb hc e n=>u.keep b o e n (fun z=>(Jg.mp (I.stkSub b z)).elim hL hb) hc) (fun b o _ _ hc e n=>u.any e n hc) (fun b o hc e n=>u.free b o e n hc) (fun b o hc e=>u.there b o e hc) u.tups u.frzs u.tbls (fun m' hm=>by
  obtain⟨o',es',ep',ho',r'⟩:=hm;rw[ho]at ho';cases ho';exact⟨_,es',ep',hL,r'⟩) hok hg
theorem Inv.turned{t' :Nat}{it:Addr}(I:Inv X pins σ H s)(k:∀b o,b≠it->s.heap.get? b=some o->h'.get? b=some o)(hn:H it=none)(hL:it≠X.env.locals)
  (h1:it∈X.ex\/X.s₀.heap.objs.size<=it) (h2:∀x c,X.env.cells.lookup x=some c->c≠it) (h3:∀p∈X.pn++pins,p.1≠it):Inv X pins σ H {s with heap:=h',toks:=t'}:=by
 have nit:∀b u,H b=some u->b≠it:=fun b u e z=>by rw[z,hn]at e;cases e
 refine I.step (g' :=s.gens) (d' :=s.drawn) (ch:=[it]) (fun b hb=> ?_) (fun b o _ _ hc e _=>k b o (fun z=>hc (by simp[z])) e) (fun b o _ _ hc e _=>⟨o.slots,k b o (fun z=>hc (by simp[z])) e⟩) (fun _ _ _ _ n=>n)
  (fun b o hc e=>⟨o,k b o (fun z=>hc (by simp[z])) e⟩) (fun _ _ e=>e) (fun _ _ _ e=>e) (fun b ps e=>⟨#[],by rw[e];simp⟩) (fun m hm=> ?_) (fun b u e=> ?_) I.bare
 ·have e:b=it:=by simpa using hb
  subst e;exact⟨h1,hL,h2,h3⟩
 ·obtain⟨o,es,ep,ho,r⟩:=hm
  exact⟨o,es,ep,k _ o (Kc hL) ho,r⟩
 ·refine(I.hok b u e).stay (fun c v hc q=>k c v ?_ q) (fun _ q=>q) fun _ _ q=>q
  rcases hc with z|z
  ·rw[z];exact nit b u e
  ·exact nit c _ z
theorem Inv.tok(I:Inv X pins σ H s)(t:Nat):Inv X pins σ H {s with toks:=t}:=I.un (h' :=s.heap) (t' :=t) Un.refl I.hok
theorem Inv.kept{t' :Nat}(I:Inv X pins σ H s)(k:∀b u,s.heap.get? b=some u->h'.get? b=some u):Inv X pins σ H {s with heap:=h',toks:=t'}:=I.un (Un.kept k) (I.hok.kept k)
theorem Inv.laid{a:Addr}{o:HO}{t' :Nat}(I:Inv X pins σ H s)(k:∀b u,s.heap.get? b=some u->h'.get? b=some u)(hp:s.heap.objs.size<=a)(new:aj X.prog X.w (upd H a o) h' a o) :
  Inv X pins σ (upd H a o) {s with heap:=h',toks:=t'}:=I.un (Un.laid k hp (I.hok.fresh hp)) (I.hok.laid k hp new)
theorem Inv.write{x e:Addr}{o:HO}{t' :Nat}(I:Inv X pins σ H s)(mu:JA (H x))(he:e=x\/H e=some (.own x))(k:∀b u,b≠e->s.heap.get? b=some u->h'.get? b=some u)(heo:∃u,h'.get? e=some u)
  (new:aj X.prog X.w (upd H x o) h' x o):Inv X pins σ (upd H x o) {s with heap:=h',toks:=t'}:=I.un (Un.write mu he k heo) (I.hok.write mu he k heo new)
theorem Inv.weak{σ' :List (Option V)}(I:Inv X pins σ H s)(hl:σ'.length=σ.length)(w:∀(i:Nat) v,σ'[i]? =some (some v)->σ[i]? =some (some v)):Inv X pins σ' H s :=
 ⟨I.ok,I.os,I.bare,I.base,let⟨m,hn,hl'⟩:=I.loc;⟨m,hn,fun i x v e1 e2 e3=>hl' i x v e1 (w i v e2) e3⟩,I.cell,I.free,I.freeC,I.pin,I.hok,hl.trans I.len⟩
theorem Inv.pins_of{pins' :List (Addr×Obj)}(I:Inv X pins σ H s)(h:∀p∈pins',s.heap.get? p.1=some p.2/\H p.1=none/\p.1≠X.env.locals/\p.1∉X.fs/\∀v,p.2.data≠.cell v):Inv X pins' σ H s :=
 ⟨I.ok,I.os,I.bare,I.base,I.loc,I.cell,I.free,I.freeC,fun p hp=>(J0.mp hp).elim (fun z=>I.pin p (Kp _ z)) (h p),I.hok,I.len⟩
theorem jx{N:List Str}(hN:N.Nodup){i j:Nat}{x:Str}(a:N[i]? =some x)(b:N[j]? =some x):i=j:=by
 obtain⟨h1,e1⟩:=JY.mp a;obtain⟨h2,e2⟩:=JY.mp b;exact(List.getElem_inj hN).mp (e1.trans e2.symm)
theorem lj{M:Model}{A:Around}{E:Value->Shared->Prop}{i:Nat}{x:Str}{v:V}{u:Value}{Q:Unit->Shared->Prop}(I:Inv X pins σ H s)(hN:X.N.Nodup)(hi:X.N[i]? =some x)(hx:Loc X.env.scope x)(r:RelV v u)
  (h:∀s',Inv X pins (σ.set i (some v)) H s' ->(∃a,Heap.SameBut a s.heap s'.heap/\(a=X.env.locals\/X.env.cells.lookup x=some a))->Q () s') (hf:X.fn x=true\/X.env.scope.names.lookup x=some .local:=by first|exact .inl rfl|exact .inr rfl|assumption):wpAny M A (storeName X.env x u) Q E s:=by
 obtain⟨m,hn,hl⟩:=id I.loc;have hcls:(X.env.scope.kind== .class||(X.env.scope.kind== .module&&X.env.locals !=X.env.globals))=false:=by rw[I.ok.kind];rfl
 have hiσ:i<σ.length:=by rw[I.len];exact(JY.mp hi).1
 have cne:=I.cne;have tracked:∀{a:Addr}{h' :Heap},(∃o,s.heap.get? a=some o/\H a=none)->Heap.SameBut a s.heap h' ->eh X.prog X.w H h' :=fun{a h'} ha hs b ob e=>by
  obtain⟨_,_,hfree⟩:=ha;refine(I.hok b ob e).stay (fun c w' hc q=>(hs.2 c ?_).trans q) (fun _ q=>q) fun _ _ q=>q;rintro rfl
  rcases hc with rfl|hc
  ·rw[hfree]at e;cases e
  ·rw[hfree]at hc;cases hc
 rcases hx with hk|hk
 ·refine wpAny_storeName_local hk hn (fun h' hn' hs=> ?_) hcls
  obtain⟨oL,_,_,hoL,_⟩:=id hn;refine h _ ⟨I.ok,I.os,I.bare,⟨fun b o e n hb hx=> ?_,fun b o e n hb hx=> ?_,I.base.free,fun b o e hx=> ?_,I.base.tups,I.base.frzs,I.base.tbls⟩,⟨_,hn',fun j y v' e1 e2 e3=> ?_⟩,fun y c e=> ?_,I.free,I.freeC,fun p hp=> ?_,tracked ⟨oL,hoL,I.free⟩ hs,by simpa using I.len⟩ ⟨_,hs,.inl rfl⟩
  ·exact(hs.2 b (Jm (Jy (Je e) I.ok.above))).trans (I.base.keep b o e n hb hx)
  ·obtain⟨sl,e1⟩:=I.base.slot b o e n hb hx
   exact⟨sl,(hs.2 b (Jm (Jy (Je e) I.ok.above))).trans e1⟩
  ·obtain⟨o',e1⟩:=I.base.there b o e hx
   exact⟨o',(hs.2 b (Jm (Jy (Je e) I.ok.above))).trans e1⟩
  ·by_cases hj:j=i
   ·subst hj
    rw[hi]at e1;cases e1;rw[Kf hiσ]at e2;cases e2;exact⟨u,r,.inl ⟨hk,by simp⟩⟩
   ·rw[KF (Kc hj)]at e2
    obtain⟨u',r',q⟩:=hl j y v' e1 e2 e3;refine⟨u',r',?_⟩
    rcases q with⟨k,e⟩|⟨k,c,e,z⟩
    ·refine .inl ⟨k,?_⟩
     have:y≠x:=fun e=>hj (jx hN e1 (e▸hi));simp[this,e]
    ·exact .inr ⟨k,c,e,z.sameBut hs (cne y c e)⟩
  ·obtain⟨w',z⟩:=I.cell y c e
   exact⟨w',z.sameBut hs (cne y c e)⟩
  ·obtain⟨e,n,ne,nf,d⟩:=I.pin p hp
   exact⟨(hs.2 p.1 ne).trans e,n,ne,nf,d⟩
 ·have hfn:X.fn x=true:=by
   rcases hf with z|z
   ·exact z
   ·rw[z]at hk;cases hk
  obtain⟨c,hc⟩:=I.ok.has x (.inl hk);obtain⟨w',z⟩:=I.cell x c hc;refine wpAny_storeName_cell I.ok.kind hk hc z (fun h' hc' hs=> ?_);obtain⟨oc,hoc,hocd⟩:=id z;refine h {s with heap:=h'} ⟨I.ok,I.os,I.bare,⟨fun b o e n hb hx=> ?_,fun b o e n hb hx=> ?_,I.base.free,fun b o e hx=> ?_,I.base.tups,I.base.frzs,I.base.tbls⟩,⟨m,hn.sameBut hs (Kc (cne x c hc)),fun j y v' e1 e2 e3=> ?_⟩,fun y c' e=> ?_,I.free,I.freeC,fun p hp=> ?_,tracked ⟨oc,hoc,I.freeC x c hc⟩ hs,by simpa using I.len⟩ ⟨c,hs,.inr hc⟩
  ·exact(hs.2 b (Jm (Jy (Je e) (I.ok.cab x c hfn hc)))).trans (I.base.keep b o e n hb hx)
  ·obtain⟨sl,e1⟩:=I.base.slot b o e n hb hx
   exact⟨sl,(hs.2 b (Jm (Jy (Je e) (I.ok.cab x c hfn hc)))).trans e1⟩
  ·obtain⟨o',e1⟩:=I.base.there b o e hx
   exact⟨o',(hs.2 b (Jm (Jy (Je e) (I.ok.cab x c hfn hc)))).trans e1⟩
  ·by_cases hj:j=i
   ·subst hj
    rw[hi]at e1;cases e1;rw[Kf hiσ]at e2;cases e2;exact⟨u,r,.inr ⟨.inl hk,c,hc,hc'⟩⟩
   ·rw[KF (Kc hj)]at e2
    obtain⟨u',r',q⟩:=hl j y v' e1 e2 e3;refine⟨u',r',?_⟩
    rcases q with q|⟨k,c',e,z'⟩
    ·exact .inl q
    ·refine .inr ⟨k,c',e,z'.sameBut hs ?_⟩
     rintro rfl;exact hj (jx hN e1 (I.ok.inj _ _ _ e hc▸hi))
  ·by_cases hcc:c' =c
   ·subst hcc;exact⟨_,hc'⟩
   ·obtain⟨w2,z2⟩:=I.cell y c' e
    exact⟨w2,z2.sameBut hs hcc⟩
  ·obtain⟨e,n,ne,nf,d⟩:=I.pin p hp
   refine⟨(hs.2 p.1 ?_).trans e,n,ne,nf,d⟩;intro q;rw[q,hoc]at e;have q' :oc=p.2:=Jl e;exact d w' (by rw[<- q'];exact hocd)
theorem jh{M:Model}{A:Around}{E:Value->Shared->Prop}{i:Nat}{x:Str}{v:V}{u:Value}{Q:Unit->Shared->Prop}(I:Inv X pins σ H s)(hN:X.N.Nodup)(hi:X.N[i]? =some x)(hx:Loc X.env.scope x)(r:RelV v u)
  (h:∀s',Inv X pins (σ.set i (some v)) H s' ->Q () s') (hf:X.fn x=true\/X.env.scope.names.lookup x=some .local:=by first|exact .inl rfl|exact .inr rfl|assumption):wpAny M A (storeName X.env x u) Q E s :=
 lj I hN hi hx r (fun s' I' _=>h s' I') hf
theorem Inv.call'{s' :Shared}{ch:List Addr}(I:Inv X pins σ H s)(ho:s'.os=s.os)(u:Un (sr X.stack) ch H H' s.heap s'.heap)(hok:eh X.prog X.w H' s'.heap)(hg:AllBare s'.gens)
  (hch:∀b∈ch,(b∈X.ex\/X.s₀.heap.objs.size<=b)/\b≠X.env.locals/\(∀x c,X.env.cells.lookup x=some c->c≠b)/\∀p∈X.pn++pins,p.1≠b):Inv X pins σ H' s' :=by
 obtain⟨h',g',d',t',o'⟩:=s';have e:o' =s.os:=ho;subst e;exact I.call (g' :=g') (t' :=t') (d' :=d') u hok hg hch
end
noncomputable abbrev XK:=Value->Option Addr->Hp->Prop
noncomputable abbrev St:=List (Option V)
noncomputable abbrev VK:=V->Hp->Prop
noncomputable abbrev TE:=St->Hp->VK->Prop
noncomputable abbrev TT:=St->Hp->(Bool->Hp->Prop)->Prop
noncomputable abbrev TA:=St->Hp->(List V->Hp->Prop)->Prop
structure cG where
 nx:St->Hp->Prop
 rt:VK
 bk:St->Hp->Prop:=fun _ _=>False
 ct:St->Hp->Prop:=fun _ _=>False
noncomputable abbrev TS:=cG->St->Hp->Prop
noncomputable def EP(X:Cx)(pins:List (Addr×Obj))(σ:St)(Q:VK)(u:Value)(s' :Shared):Prop:=∃v H',Inv X pins σ H' s' /\RelV v u/\Q v H'
noncomputable def TP(X:Cx)(pins:List (Addr×Obj))(σ:St)(Q:Bool->Hp->Prop)(b:Bool)(s' :Shared):Prop:=∃H',Inv X pins σ H' s' /\Q b H'
noncomputable def AP(X:Cx)(pins:List (Addr×Obj))(σ:St)(Q:List V->Hp->Prop)(us:List Value)(s' :Shared):Prop:=∃vs H',Inv X pins σ H' s' /\aL vs us/\Q vs H'
noncomputable def SP(X:Cx)(pins:List (Addr×Obj))(D:cG)(f:Flow)(s' :Shared):Prop :=
 match f with
 | .next=>∃σ' H',Inv X pins σ' H' s' /\D.nx σ' H'
 | .brk=>∃σ' H',Inv X pins σ' H' s' /\D.bk σ' H'
 | .cont=>∃σ' H',Inv X pins σ' H' s' /\D.ct σ' H'
 | .ret u=>∃v σ' H',Inv X pins σ' H' s' /\RelV v u/\D.rt v H'
noncomputable def PE(X:Cx)(e:Expr)(t:TE):Prop :=
 ∀(pins:List (Addr×Obj))(s:Shared)(σ:St)(H:Hp)(Q:VK),Inv X pins σ H s->t σ H Q->wpAny (model X.prog X.w) X.A (eval e X.env) (EP X pins σ Q) X.xe s
noncomputable def PT(X:Cx)(e:Expr)(t:TT):Prop :=
 ∀(pins:List (Addr×Obj))(s:Shared)(σ:St)(H:Hp)(Q:Bool->Hp->Prop),Inv X pins σ H s->t σ H Q->wpAny (model X.prog X.w) X.A (isTrue e X.env (eval e X.env)) (TP X pins σ Q) X.xe s
noncomputable def PW(X:Cx)(e:Expr)(t:TT):Prop :=
 ∀(whole:Sem Value)(pins:List (Addr×Obj))(s:Shared)(σ:St)(H:Hp)(Q:Bool->Hp->Prop),Inv X pins σ H s->t σ H Q->wpAny (model X.prog X.w) X.A (isTrue e X.env whole) (TP X pins σ Q) X.xe s
theorem PW.pt{X:Cx}{e:Expr}{t:TT}(h:PW X e t):PT X e t:=h _
noncomputable def PA(X:Cx)(es:List Expr)(t:TA):Prop :=
 ∀(pos:Pos)(pins:List (Addr×Obj))(s:Shared)(σ:St)(H:Hp)(Q:List V->Hp->Prop),Inv X pins σ H s->t σ H Q->wpAny (model X.prog X.w) X.A (spliced (backTo pos (starEach es X.env))) (AP X pins σ Q) X.xe s
noncomputable def PS(X:Cx)(st:Stmt)(t:TS):Prop :=
 ∀(pins:List (Addr×Obj))(s:Shared)(σ:St)(H:Hp)(D:cG),Inv X pins σ H s->t D σ H->wpAny (model X.prog X.w) X.A (exec st X.env) (SP X pins D) X.xe s
noncomputable def tq(X:Cx)(st:List Stmt)(t:TS):Prop :=
 ∀(pins:List (Addr×Obj))(s:Shared)(σ:St)(H:Hp)(D:cG),Inv X pins σ H s->t D σ H->wpAny (model X.prog X.w) X.A (execs st X.env) (SP X pins D) X.xe s
theorem al{α:Type}{t:Sem α}{Q Q' :α->Shared->Prop}{M:Model}{A:Around}{E:Value->Shared->Prop}{s:Shared}(h:wpAny M A t Q E s)(hQ:∀a s,Q a s->Q' a s):wpAny M A t Q' E s:=Ke h hQ fun _ _ x=>x
section
variable{X:Cx}
theorem bin{a b:Expr}{ta tb:TE}(ha:PE X a ta)(hb:PE X b tb){pins:List (Addr×Obj)}{s:Shared}{σ:St}{H:Hp}{R:V->V->Hp->Prop}(I:Inv X pins σ H s)(h:ta σ H fun x H1=>tb σ H1 fun y H2=>R x y H2)
  {α:Type} {Q:α->Shared->Prop} {f:Value->Value->Sem α}
  (hf:∀v u s2 x y H2,Inv X pins σ H2 s2->RelV x v->RelV y u->R x y H2->wpAny (model X.prog X.w) X.A (f v u) Q X.xe s2) :
  wpAny (model X.prog X.w) X.A (eval a X.env) (fun v s₁=>wpAny (model X.prog X.w) X.A (eval b X.env) (fun u s₂=>wpAny (model X.prog X.w) X.A (f v u) Q X.xe s₂) X.xe s₁) X.xe s:=by
 refine al (ha pins s σ H _ I h) fun v s1 hpq=> ?_;obtain⟨x,H1,I1,r1,q1⟩:=hpq;refine al (hb pins s1 σ H1 _ I1 q1) fun u s2 hpq=> ?_;obtain⟨y,H2,I2,r2,q2⟩:=hpq;exact hf v u s2 x y H2 I2 r1 r2 q2
noncomputable def Gi(i:Nat):TE:=fun σ H Q=>∃v,σ[i]? =some (some v)/\Q v H
noncomputable def tC(v:V):TE:=fun _ H Q=>Q v H
theorem sO{i:Nat}{x:Str}{pos:Pos}(hN:X.N[i]? =some x)(hv:GO X.env.scope x)(hd:(x==("__debug__":Str))=false:=by decide)(hcd:(x==("__classdict__":Str))=false:=by decide):PE X (.Name x pos) (Gi i):=by
 intro pins s σ H Q I h;obtain⟨v,e,h⟩:=h;obtain⟨m,hn,hl⟩:=I.loc;obtain⟨u,r,l⟩:=hl i x v hN e hv;have fin:EP X pins σ Q u s:=⟨v,H,I,r,h⟩
 rcases l with⟨hk,hm⟩|⟨hk,c,hc,hcell⟩
 ·exact wpAny_Name (wpAny_loadName_local I.ok.kind hk hn hm fin) hd
 ·rcases hk with hk|hk
  ·exact wpAny_Name (wpAny_loadName_cell I.ok.kind hk hc hcell fin) hd
  ·exact wpAny_Name (wpAny_loadName_free I.ok.kind hk hc hcell fin hcd) hd
theorem cR{i j pos}:PE X (.Constant (.int i) j pos) (tC (.int i)):=fun _ _ _ H _ I h=>wpAny_Constant_int ⟨.int i,H,I.tok _,⟨_,rfl⟩,h⟩
theorem HU{b j pos}:PE X (.Constant (.bool b) j pos) (tC (.bl b)):=fun _ _ _ H _ I h=>Constant_bool ⟨.bl b,H,I,rfl,h⟩
theorem EH{j pos}:PE X (.Constant .none j pos) (tC .non):=fun _ _ _ H _ I h=>Constant_none ⟨.non,H,I,rfl,h⟩
theorem sR{x j pos}:PE X (.Constant (.str x) j pos) (tC (.str x)):=fun _ _ _ H _ I h=>Calls.Constant_str ⟨.str x,H,I.tok _,⟨_,rfl⟩,h⟩
noncomputable def Gl(X:Cx)(x:Str):Prop:=X.env.kindOf x=some .globalImplicit
theorem ut{E:Value->Shared->Prop}{pins:List (Addr×Obj)}{s:Shared}{σ:St}{H:Hp}{x:Str}{u:Value}{pos:Pos}{Q:Value->Shared->Prop}(I:Inv X pins σ H s)(hg:Gl X x)(hm:X.mg x=some u)(h:Q u s)
  (hd:(x==("__debug__":Str))=false:=by decide):wpAny (model X.prog X.w) X.A (eval (.Name x pos) X.env) Q E s :=
 Calls.Name_function_global I.ok.kind hg (Calls.loadGlobal_global (by rw[I.ok.glob];exact I.mod.glob.keeps I.bk) hm h) hd
theorem cT{E:Value->Shared->Prop}{pins:List (Addr×Obj)}{s:Shared}{σ:St}{H:Hp}{x:Str}{u:Value}{pos:Pos}{Q:Value->Shared->Prop}(I:Inv X pins σ H s)(hg:Gl X x)(hm:X.mg x=none)(hv:bootBuiltins x=some u)(h:Q u s)
  (hn:x≠"__name__":=by decide) (hd:(x==("__debug__":Str))=false:=by decide):wpAny (model X.prog X.w) X.A (eval (.Name x pos) X.env) Q E s:=by
 obtain⟨mb,h1,h2⟩:=I.mod.blt;exact Calls.Name_function_global I.ok.kind hg (Calls.loadGlobal_builtin (by rw[I.ok.glob];exact I.mod.glob.keeps I.bk) hm (by rw[I.ok.blt];exact h1.keeps I.bk) ((h2 x hn).trans hv) h) hd
theorem BD{x:Str}{v:V}{u:Value}{pos:Pos}(hg:Gl X x)(hm:X.mg x=some u)(r:RelV v u)(hd:(x==("__debug__":Str))=false:=by decide):PE X (.Name x pos) (tC v) :=
 fun _ _ _ H _ I h=>ut I hg hm ⟨v,H,I,r,h⟩ hd
theorem BH{x:Str}{v:V}{u:Value}{pos:Pos}(hg:Gl X x)(hm:X.mg x=none)(hv:bootBuiltins x=some u)(r:RelV v u)(hn:x≠"__name__":=by decide)(hd:(x==("__debug__":Str))=false:=by decide):PE X (.Name x pos) (tC v) :=
 fun _ _ _ H _ I h=>cT I hg hm hv ⟨v,H,I,r,h⟩ hn hd
variable{a b:Expr}{ta tb:TE}{pos:Pos}
variable{tA tB' :TT}{aN:List Expr}
noncomputable def tAnd(t u:TT):TT:=fun σ H Q=>t σ H fun c H1=>if c=true then u σ H1 Q else Q false H1
noncomputable def tOr(t u:TT):TT:=fun σ H Q=>t σ H fun c H1=>if c=true then Q true H1 else u σ H1 Q
noncomputable def tNot(t:TT):TT:=fun σ H Q=>t σ H fun c H1=>Q (!c) H1
theorem uQ(ha:PT X a tA):PW X (.BoolOp .And [a] pos) tA:=by
 intro wh pins s σ H Q I h;refine isTrue_and (al (ha pins s σ H Q I h) fun c s1 e=> ?_);cases c with
 | true=>exact isTrue_and_nil e
 | false=>exact e
theorem Dx(ha:PT X a tA):PW X (.BoolOp .Or [a] pos) tA:=by
 intro wh pins s σ H Q I h;refine isTrue_or (al (ha pins s σ H Q I h) fun c s1 e=> ?_);cases c with
 | false=>exact isTrue_or_nil e
 | true=>exact e
theorem xt(ha:PT X a tA)(hb:PW X (.BoolOp .And (b::aN) pos) tB'):PW X (.BoolOp .And (a::b::aN) pos) (tAnd tA tB'):=by
 intro wh pins s σ H Q I h;refine isTrue_and (al (ha pins s σ H _ I h) fun c s1 hpq=> ?_);obtain⟨H1,I1,q1⟩:=hpq;cases c with
 | true=>exact hb wh pins s1 σ H1 Q I1 q1
 | false=>exact⟨H1,I1,q1⟩
theorem HM(ha:PT X a tA)(hb:PW X (.BoolOp .Or (b::aN) pos) tB'):PW X (.BoolOp .Or (a::b::aN) pos) (tOr tA tB'):=by
 intro wh pins s σ H Q I h;refine isTrue_or (al (ha pins s σ H _ I h) fun c s1 hpq=> ?_);obtain⟨H1,I1,q1⟩:=hpq;cases c with
 | true=>exact⟨H1,I1,q1⟩
 | false=>exact hb wh pins s1 σ H1 Q I1 q1
theorem D2(ha:PT X a tA):PT X (.UnaryOp .Not a pos) (tNot tA):=by
 intro pins s σ H Q I h;exact isTrue_not (ha pins s σ H (fun c H1=>Q (!c) H1) I h)
noncomputable def Gu(ta tb:TE):TE:=fun σ H Q=>ta σ H fun x H1=>∃c,x=.bl c/\if c=true then tb σ H1 Q else Q (.bl false) H1
noncomputable def tOrV(ta tb:TE):TE:=fun σ H Q=>ta σ H fun x H1=>∃c,x=.bl c/\if c=true then Q (.bl true) H1 else tb σ H1 Q
noncomputable def Gk(ta:TE):TE:=fun σ H Q=>ta σ H fun x H1=>∃c,x=.bl c/\Q (.bl (!c)) H1
theorem EF{op}{t:TE}(h:PE X a t):PE X (.BoolOp op [a] pos) t:=fun pins s σ H Q I hw=>BoolOp_one (h pins s σ H Q I hw)
theorem yL(ha:PE X a ta)(hb:PE X (.BoolOp .And (b::aN) pos) tb):PE X (.BoolOp .And (a::b::aN) pos) (Gu ta tb):=by
 intro pins s σ H Q I h;refine BoolOp_and (al (ha pins s σ H _ I h) fun v s1 hpq=> ?_);obtain⟨x,H1,I1,r1,q1⟩:=hpq;obtain⟨c,rfl,q1⟩:=q1;cases r1;refine Kj ?_;cases c with
 | true=>exact hb pins s1 σ H1 Q I1 q1
 | false=>exact⟨.bl false,H1,I1,rfl,q1⟩
theorem C3(ha:PE X a ta)(hb:PE X (.BoolOp .Or (b::aN) pos) tb):PE X (.BoolOp .Or (a::b::aN) pos) (tOrV ta tb):=by
 intro pins s σ H Q I h;refine BoolOp_or (al (ha pins s σ H _ I h) fun v s1 hpq=> ?_);obtain⟨x,H1,I1,r1,q1⟩:=hpq;obtain⟨c,rfl,q1⟩:=q1;cases r1;refine Kj ?_;cases c with
 | false=>exact hb pins s1 σ H1 Q I1 q1
 | true=>exact⟨.bl true,H1,I1,rfl,q1⟩
theorem EG(ha:PE X a ta):PE X (.UnaryOp .Not a pos) (Gk ta):=by
 intro pins s σ H Q I h;refine UnaryOp_ (al (ha pins s σ H _ I h) fun v s1 hpq=> ?_);obtain⟨x,H1,I1,r1,q1⟩:=hpq;obtain⟨c,rfl,q1⟩:=q1;cases r1;exact not_of (Kj ⟨.bl (!c),H1,I1,rfl,q1⟩)
noncomputable def tIf(t:TT)(ta tb:TE):TE:=fun σ H Q=>t σ H fun c H1=>if c=true then ta σ H1 Q else tb σ H1 Q
theorem yK{c:Expr}(hc:PT X c tA)(ha:PE X a ta)(hb:PE X b tb):PE X (.IfExp c a b pos) (tIf tA ta tb):=by
 intro pins s σ H Q I h;refine wpAny_IfExp (al (hc pins s σ H _ I h) fun d s1 hpq=> ?_);obtain⟨H1,I1,q1⟩:=hpq;cases d with
 | true=>exact ha pins s1 σ H1 Q I1 q1
 | false=>exact hb pins s1 σ H1 Q I1 q1
end
noncomputable def bG(K:W.Frag)(H:Hp)(a:Addr)(xs:List V):Prop :=
 Rd H a (.lst xs) \/
  ∃(o:Obj)(its:Array Value)(n:Nat),K.lookup a=some o/\o.cls=.type "list"/\o.dict=none/\o.data=.seq its n/\its.size<=sizeLine/\aL xs its.toList
noncomputable def bX(K:W.Frag)(H:Hp)(a:Addr)(xs:List V):Prop :=
 Rd H a (.tup xs) \/
  ∃(o:Obj)(its:Array Value)(n:Nat),K.lookup a=some o/\o.cls=.type "tuple"/\o.dict=none/\o.data=.seq its n/\its.size<=sizeLine/\aL xs its.toList
noncomputable def absV:Value->Option V
 | .none=>some .non
 | .bool b=>some (.bl b)
 | .int i _=>some (.int i)
 | .str x _=>some (.str x)
 | .bytes b _=>some (.byt b)
 | .float b _=>some (.flt b)
 | .ref a=>some (.ref a)
 | .type n=>some (.ty n)
 | _=>none
theorem RelV.abs{x:V}{u:Value}(r:RelV x u):absV u=some x:=by
 cases x with
 | non=>cases r;rfl
 | bl _=>cases r;rfl
 | int _=>obtain⟨t,rfl⟩:=r;rfl
 | str _=>obtain⟨t,rfl⟩:=r;rfl
 | byt _=>obtain⟨t,rfl⟩:=r;rfl
 | flt _=>obtain⟨t,rfl⟩:=r;rfl
 | ref _=>cases r;rfl
 | ty _=>cases r;rfl
theorem RelV.inj{x y:V}{u:Value}(r:RelV x u)(q:RelV y u):x=y:=Jl (r.abs.symm.trans q.abs)
theorem aL.inj{xs ys:List V}{us:List Value}(h:aL xs us)(k:aL ys us):xs=ys:=by
 induction h generalizing ys with
 | nil=>cases k;rfl
 | cons r t ih =>
  cases k with
  | cons r' t' =>rw[r.inj r',ih t']
section
variable{X:Cx}{pins:List (Addr×Obj)}{σ:St}{H:Hp}{s:Shared}{a:Addr}{xs ys:List V}
theorem bG.of{K:W.Frag}(h:H a=some (.lst xs)):bG K H a xs:=.inl (.inl h)
theorem bX.of{K:W.Frag}(h:H a=some (.tup xs)):bX K H a xs:=.inl (.inl h)
theorem Inv.list(I:Inv X pins σ H s)(h:bG X.K H a xs):∃its:List Value,aL xs its/\PlainL s.heap a its.toArray/\xs.length<=sizeLine:=by
 rcases h with h|⟨o,its,n,hk,hc,hd,hs,hz,r⟩
 ·obtain⟨z,its,n,r,e⟩:=h.ok I.hok
  exact⟨its,r,⟨_,n,e,rfl,rfl,rfl⟩,z⟩
 ·refine⟨its.toList,r,⟨o,n,I.kIn a o hk,hc,hd,by simpa using hs⟩,?_⟩
  have e:=r.length;simp only[Jv]at e;omega
theorem Inv.tuple(I:Inv X pins σ H s)(h:bX X.K H a xs):∃its:List Value,aL xs its/\IsTup s.heap a its.toArray/\xs.length<=sizeLine:=by
 rcases h with h|⟨o,its,n,hk,hc,_,hs,hz,r⟩
 ·obtain⟨z,its,r,p⟩:=h.ok I.hok
  exact⟨its,r,p.tup,z⟩
 ·refine⟨its.toList,r,⟨o,I.kIn a o hk,hc,n,by simpa using hs⟩,?_⟩
  have e:=r.length;simp only[Jv]at e;omega
theorem Inv.tupleD(I:Inv X pins σ H s)(h:bX X.K H a xs):∃o,s.heap.get? a=some o/\o.cls=.type "tuple"/\o.dict=none:=by
 rcases h with h|⟨o,its,n,hk,hc,hd,_⟩
 ·obtain⟨z,its,r,o,e,c,n,_,d⟩:=h.ok I.hok
  exact⟨o,e,c,d⟩
 ·exact⟨o,I.kIn a o hk,hc,hd⟩
theorem Inv.list_inj(I:Inv X pins σ H s)(h:bG X.K H a xs)(h' :bG X.K H a ys):xs=ys:=by
 obtain⟨its,r,⟨o,n,e,_,_,d⟩,_⟩:=I.list h;obtain⟨its',r',⟨o',n',e',_,_,d'⟩,_⟩:=I.list h';rw[e]at e';cases e';rw[d]at d'
 injection d' with d1 _
 have:its=its' :=by simpa using Jw Array.toList d1
 subst this;exact r.inj r'
theorem Inv.tuple_inj(I:Inv X pins σ H s)(h:bX X.K H a xs)(h' :bX X.K H a ys):xs=ys:=by
 obtain⟨its,r,⟨o,e,_,n,d⟩,_⟩:=I.tuple h;obtain⟨its',r',⟨o',e',_,n',d'⟩,_⟩:=I.tuple h';rw[e]at e';cases e';rw[d]at d'
 injection d' with d1 _
 have:its=its' :=by simpa using Jw Array.toList d1
 subst this;exact r.inj r'
end
noncomputable abbrev Cx.wish(X:Cx)(E:Value->Shared->Prop):Cx:={X with xe:=E}
noncomputable abbrev Cx.nox(X:Cx):Cx:=X.wish fun _ _=>False
theorem Cx.Ok.wish{X:Cx}(ok:X.Ok)(E:Value->Shared->Prop):(X.wish E).Ok :=
 ⟨ok.mod,ok.kind,ok.glob,ok.blt,ok.above,ok.inj,ok.has,ok.cab,ok.hd,ok.frames,ok.stk,ok.exf,ok.bs,ok.bsz,ok.noex,ok.exfs,ok.funs,ok.frf⟩
theorem Cx.Ok.unwish{X:Cx}{E:Value->Shared->Prop}(ok:(X.wish E).Ok):X.Ok :=
 ⟨ok.mod,ok.kind,ok.glob,ok.blt,ok.above,ok.inj,ok.has,ok.cab,ok.hd,ok.frames,ok.stk,ok.exf,ok.bs,ok.bsz,ok.noex,ok.exfs,ok.funs,ok.frf⟩
section
variable{X:Cx}{pins:List (Addr×Obj)}{σ:St}{H:Hp}{s:Shared}{E:Value->Shared->Prop}
theorem Inv.wish(I:Inv X pins σ H s)(E:Value->Shared->Prop):Inv (X.wish E) pins σ H s:=⟨I.ok.wish E,I.os,I.bare,I.base,I.loc,I.cell,I.free,I.freeC,I.pin,I.hok,I.len⟩
theorem Inv.unwish(I:Inv (X.wish E) pins σ H s):Inv X pins σ H s:=⟨I.ok.unwish,I.os,I.bare,I.base,I.loc,I.cell,I.free,I.freeC,I.pin,I.hok,I.len⟩
theorem SP.unwish{D:cG}{f:Flow}{s' :Shared}(h:SP (X.wish E) pins D f s'):SP X pins D f s' :=by
 cases f with
 | next=>obtain⟨σ',H',I,q⟩:=h;exact⟨σ',H',I.unwish,q⟩
 | brk=>obtain⟨σ',H',I,q⟩:=h;exact⟨σ',H',I.unwish,q⟩
 | cont=>obtain⟨σ',H',I,q⟩:=h;exact⟨σ',H',I.unwish,q⟩
 | ret u=>obtain⟨v,σ',H',I,r,q⟩:=h;exact⟨v,σ',H',I.unwish,r,q⟩
theorem tq.nox{st:List Stmt}{t:TS}(h:tq X.nox st t):tq X st t:=fun pins s σ H D I hw =>
 Ke (h pins s σ H D (I.wish _) hw) (fun _ _ q=>q.unwish) fun _ _ z=>False.elim z
end
section
variable{X:Cx}{st:Stmt}{aN:List Stmt}{t u:TS}{e:Expr}{te:TE}{pos:Pos}
noncomputable def Cw:TS:=fun D σ H=>D.nx σ H
noncomputable def tSeq(t u:TS):TS:=fun D σ H=>t {D with nx:=u D} σ H
theorem nJ:tq X [] Cw:=fun _ _ σ H _ I h=>wpAny_execs_nil ⟨σ,H,I,h⟩
theorem az(h1:PS X st t)(h2:tq X aN u):tq X (st::aN) (tSeq t u):=by
 intro pins s σ H D I h;refine wpAny_execs_cons (al (h1 pins s σ H {D with nx:=u D} I h) fun f s1 q=> ?_);cases f with
 | next =>
  obtain⟨σ',H',I',q⟩:=q;exact h2 pins s1 σ' H' D I' q
 | ret v=>exact q
 | brk=>exact q
 | cont=>exact q
theorem bS(h1:PS X st t):tq X [st] t:=by
 intro pins s σ H D I h;refine wpAny_execs_cons (al (h1 pins s σ H D I h) fun f s1 q=> ?_);cases f with
 | next=>exact wpAny_execs_nil q
 | ret v=>exact q
 | brk=>exact q
 | cont=>exact q
noncomputable def Db:TS:=fun D σ H=>D.bk σ H
noncomputable def Gq:TS:=fun D σ H=>D.ct σ H
theorem A8:PS X (.Pass pos) Cw:=fun _ _ σ H _ I h=>wpAny_Pass ⟨σ,H,I,h⟩
theorem yC:PS X (.Break pos) Db:=fun _ _ σ H _ I h=>wpAny_Break ⟨σ,H,I,h⟩
theorem pQ:PS X (.Continue pos) Gq:=fun _ _ σ H _ I h=>wpAny_Continue ⟨σ,H,I,h⟩
theorem Inv.quiet{pins:List (Addr×Obj)}{σ:St}{H:Hp}{s:Shared}(I:Inv X pins σ H s):interactive X.env=false:=by simp[interactive,I.ok.kind]
noncomputable def Gn(te:TE):TS:=fun D σ H=>te σ H fun _ H1=>D.nx σ H1
theorem uS(he:PE X e te)(hs:swapsWith e none pos.line X.env=pure false:=by rfl):PS X (.Expr e pos) (Gn te):=by
 intro pins s σ H D I h;exact wpAny_Expr_any (al (he pins s σ H _ I h) fun v s1 ⟨x,H1,I1,r1,q1⟩=>⟨σ,H1,I1,q1⟩) I.quiet hs
noncomputable def tRet(te:TE):TS:=fun D σ H=>te σ H D.rt
theorem sM(he:PE X e te):PS X (.Return (some e) pos) (tRet te):=by
 intro pins s σ H D I h;exact wpAny_Return_some (al (he pins s σ H _ I h) fun v s1 ⟨x,H1,I1,r1,q1⟩=>⟨x,σ,H1,I1,r1,q1⟩)
noncomputable def Gj:TS:=fun D _ H=>D.rt .non H
theorem A7:PS X (.Return none pos) Gj:=fun _ _ σ H _ I h=>wpAny_Return_none ⟨.non,σ,H,I,rfl,h⟩
noncomputable def tIfS(c:TT)(t u:TS):TS:=fun D σ H=>c σ H fun b H1=>if b=true then t D σ H1 else u D σ H1
theorem yB{c:Expr}{a b:List Stmt}{tc:TT}(hc:PT X c tc)(ha:tq X a t)(hb:tq X b u):PS X (.If c a b pos) (tIfS tc t u):=by
 intro pins s σ H D I h;refine wpAny_If (al (hc pins s σ H _ I h) fun d s1 hpq=> ?_);obtain⟨H1,I1,q1⟩:=hpq;cases d with
 | true=>exact ha pins s1 σ H1 D I1 q1
 | false=>exact hb pins s1 σ H1 D I1 q1
end
noncomputable abbrev TG:=V->St->Hp->(St->Hp->Prop)->Prop
noncomputable abbrev F8:=List V->St->Hp->(St->Hp->Prop)->Prop
noncomputable def PG(X:Cx)(target:Expr)(t:TG):Prop :=
 ∀(pins:List (Addr×Obj))(s:Shared)(σ:St)(H:Hp)(v:V)(u:Value)(Q:St->Hp->Prop),Inv X pins σ H s->RelV v u->t v σ H Q ->
  wpAny (model X.prog X.w) X.A (assign target X.env u) (fun _ s' =>∃σ' H',Inv X pins σ' H' s' /\Q σ' H') X.xe s
noncomputable def Il(X:Cx)(ts:List Expr)(t:F8):Prop :=
 ∀(pins:List (Addr×Obj))(s:Shared)(σ:St)(H:Hp)(vs:List V)(us:List Value)(Q:St->Hp->Prop),Inv X pins σ H s->aL vs us->t vs σ H Q ->
  wpAny (model X.prog X.w) X.A (assignInOrder ((assignEach ts X.env).map (·.2)) us) (fun _ s' =>∃σ' H',Inv X pins σ' H' s' /\Q σ' H') X.xe s
noncomputable abbrev F7:=V->V->V->Hp->(Hp->Prop)->Prop
noncomputable def Ik(X:Cx)(t:F7):Prop :=
 ∀(pins:List (Addr×Obj))(s:Shared)(σ:St)(H:Hp)(o i v:V)(ov iv u:Value)(Q:Hp->Prop),Inv X pins σ H s->RelV o ov->RelV i iv->RelV v u->t o i v H Q ->
  wpAny (model X.prog X.w) X.A (setItem ov iv u) (fun _ s' =>∃H',Inv X pins σ H' s' /\Q H') X.xe s
noncomputable abbrev TIp:=V->V->Hp->VK->Prop
noncomputable def PIp(X:Cx)(op:Operator)(t:TIp):Prop :=
 ∀(pins:List (Addr×Obj))(s:Shared)(σ:St)(H:Hp)(x y:V)(v u:Value)(Q:VK),Inv X pins σ H s->RelV x v->RelV y u->t x y H Q ->
  wpAny (model X.prog X.w) X.A (inplaceOp op v u) (EP X pins σ Q) X.xe s
section
variable{X:Cx}{pos:Pos}
noncomputable def qR(i:Nat):TG:=fun v σ H Q=>Q (σ.set i (some v)) H
theorem ay{i:Nat}{x:Str}(hN:X.N.Nodup)(hi:X.N[i]? =some x)(hx:Loc X.env.scope x)(hf:X.fn x=true\/X.env.scope.names.lookup x=some .local:=by first|exact .inl rfl|exact .inr rfl|assumption):PG X (.Name x pos) (qR i):=by
 intro pins s σ H v u Q I r h;exact wpAny_assign_Name (jh I hN hi hx r (fun s' I' =>⟨_,H,I',h⟩) hf)
noncomputable def gNil:F8:=fun vs σ H Q=>vs=[]/\Q σ H
noncomputable def Hv(t:TG)(u:F8):F8:=fun vs σ H Q=>∃v r,vs=v::r/\t v σ H fun σ' H' =>u r σ' H' Q
theorem jR:Il X [] gNil:=by
 intro pins s σ H vs us Q I r h;obtain⟨e,h⟩:=h;subst e;cases r;exact assignInOrder_nil ⟨σ,H,I,h⟩
theorem cQ{e:Expr}{es:List Expr}{t:TG}{u:F8}(h1:PG X e t)(h2:Il X es u)
  (hs:(assignEach (e::es) X.env).map (·.2)=assign e X.env::(assignEach es X.env).map (·.2):=by rfl):Il X (e::es) (Hv t u):=by
 intro pins s σ H vs us Q I r h;obtain⟨v,vr,e1,h⟩:=h;subst e1;cases r with
 | cons r rr =>
  rw[hs];refine assignInOrder_cons (al (h1 pins s σ H _ _ _ I r h) fun _ s1 hpq=> ?_);obtain⟨σ1,H1,I1,q1⟩:=hpq;exact h2 pins s1 σ1 H1 _ _ Q I1 rr q1
noncomputable def gTup(K:W.Frag)(n:Nat)(t:F8):TG:=fun v σ H Q=>∃a xs,v=.ref a/\bX K H a xs/\xs.length=n/\t xs σ H Q
theorem nM{es:List Expr}{k:Nat}{t:F8}{n:Nat}(hc:X.calm=true)(h:Il X es t)
  (hn:(assignEach es X.env).length=n:=by rfl) (hst:(assignEach es X.env).findIdx? (·.1)=none:=by rfl):PG X (.Tuple es k pos) (gTup X.K n t):=by
 intro pins s σ H v u Q I r hw;obtain⟨a,xs,e1,hq,hl,hw⟩:=hw;subst e1;cases r;obtain⟨its,rv,ht,hz⟩:=I.tuple hq;refine assign_Tuple_tuple (I.ok.hd hc) ht (by simp[hn,<-hl,rv.length]) hst fun h' hx=> ?_;have I1:Inv X pins σ H {s with heap:=h'}:=I.kept (t' :=s.toks) fun b o e=>hx b o (Jm (Je e)) e;exact h pins _ σ H xs _ Q I1 (by simpa using rv) hw
noncomputable def gSub(to ti:TE)(t:F7):TG:=fun v σ H Q=>to σ H fun o H1=>ti σ H1 fun i H2=>t o i v H2 fun H3=>Q σ H3
theorem EE{o i:Expr}{to ti:TE}{t:F7}(ho:PE X o to)(hi:PE X i ti)(hs:Ik X t)
  (ha:∀v,assign (.Subscript o i pos) X.env v=(do
   let ov<-holding [v] (eval o X.env)
   let iv<-holding [v,ov] (eval i X.env)
   standAt pos
   holding [v,ov,iv] (setItem ov iv v)
   release [v,ov,iv] []):=by intro _;rfl):PG X (.Subscript o i pos) (gSub to ti t):=by
 intro pins s σ H v u Q I r h;rw[ha];refine JL (KS (al (ho pins s σ H _ I h) fun ov s1 hpq=> ?_));obtain⟨x,H1,I1,r1,q1⟩:=hpq;refine JL (KS (al (hi pins s1 σ H1 _ I1 q1) fun iv s2 hpq=> ?_));obtain⟨y,H2,I2,r2,q2⟩:=hpq;refine JL (wpAny_standAt (JL (KS (al (hs pins s2 σ H2 x y v ov iv u _ I2 r1 r2 r q2) fun _ s3 hpq=> ?_))));obtain⟨H3,I3,q3⟩:=hpq;exact wpAny_release ⟨σ,H3,I3,q3⟩
noncomputable def Dc(te:TE)(g:TG):TS:=fun D σ H=>te σ H fun x H1=>g x σ H1 D.nx
theorem D4{tg e:Expr}{te:TE}{g:TG}(he:PE X e te)(hg:PG X tg g)(hs:swapsWithSole [tg] e pos.line X.env=pure false:=by rfl)(hw:swappedStores [tg] e X.env=pure none:=by rfl)
  (h1:(assignEach [tg] X.env).map (·.2)=[assign tg X.env]:=by rfl):PS X (.Assign [tg] e pos) (Dc te g):=by
 intro pins s σ H D I h;refine wpAny_Assign_stores (al (he pins s σ H _ I h) fun v s1 ⟨x,H1,I1,r1,q1⟩=> ?_) hs hw;rw[h1];exact al (hg pins s1 σ H1 x v _ I1 r1 q1) fun _ s2 q=>q
theorem dq{i:Nat}{x:Str}{e:Expr}{te:TE}{pos' :Pos}(hN:X.N.Nodup)(hi:X.N[i]? =some x)(hx:Loc X.env.scope x)(he:PE X e te)(hs:swapsWith e (some (.Name x pos')) pos.line X.env=pure false:=by rfl)(hf:X.fn x=true\/X.env.scope.names.lookup x=some .local:=by first|exact .inl rfl|exact .inr rfl|assumption) :
  PS X (.Assign [.Name x pos'] e pos) (Dc te (qR i)):=by
 intro pins s σ H D I h;refine wpAny_Assign_Name (al (he pins s σ H _ I h) fun v s1 ⟨y,H1,I1,r1,q1⟩=> ?_) hs;exact jh I1 hN hi hx r1 (fun s2 I2=>⟨_,H1,I2,q1⟩) hf
noncomputable def tAug(i:Nat)(te:TE)(ti:TIp):TS:=fun D σ H=>∃x,σ[i]? =some (some x)/\te σ H fun y H1=>ti x y H1 fun z H2=>D.nx (σ.set i (some z)) H2
theorem D3{i:Nat}{x:Str}{e:Expr}{te:TE}{op:Operator}{ti:TIp}{pos' :Pos}(hN:X.N.Nodup)(hi:X.N[i]? =some x)(hx:Loc X.env.scope x)(he:PE X e te)(ho:PIp X op ti)(hf:X.fn x=true\/X.env.scope.names.lookup x=some .local:=by first|exact .inl rfl|exact .inr rfl|assumption) :
  PS X (.AugAssign (.Name x pos') op e pos) (tAug i te ti):=by
 intro pins s σ H D I h;obtain⟨v,e1,h⟩:=h;obtain⟨m,hn,hl⟩:=I.loc;have DO:GO X.env.scope x:=by rcases hx with k|k;exact .inl k;exact .inr (.inl k)
 obtain⟨u,r,l⟩:=hl i x v hi e1 DO;refine wpAny_AugAssign_Name ?_;have go:wpAny (model X.prog X.w) X.A (eval e X.env) (fun w s₂=>wpAny (model X.prog X.w) X.A (inplaceOp op u w) (fun r s₃=>wpAny (model X.prog X.w) X.A (storeName X.env x r) (fun _=>SP X pins D .next) X.xe s₃) X.xe s₂) X.xe s:=by
  refine al (he pins s σ H _ I h) fun w s1 hpq=> ?_;obtain⟨y,H1,I1,r1,q1⟩:=hpq;refine al (ho pins s1 σ H1 v y u w _ I1 r r1 q1) fun z s2 hpq=> ?_;obtain⟨zv,H2,I2,r2,q2⟩:=hpq;exact jh I2 hN hi hx r2 (fun s3 I3=>⟨_,H2,I3,q2⟩) hf
 rcases l with⟨hk,hm⟩|⟨hk,c,hc,hcell⟩
 ·exact wpAny_loadName_local I.ok.kind hk hn hm go
 ·rcases hk with hk|hk
  ·exact wpAny_loadName_cell I.ok.kind hk hc hcell go
  ·rcases hx with k|k
   ·have:X.env.scope.names.lookup x=some .free:=hk
    rw[k]at this;cases this
   ·have:X.env.scope.names.lookup x=some .free:=hk
    rw[k]at this;cases this
noncomputable def ipI(f:Int->Int->Int):TIp:=fun x y H Q=>∃i j,x=.int i/\y=.int j/\Q (.int (f i j)) H
theorem FA:PIp X .Add (ipI fun i j=>i+j):=by
 intro pins s σ H x y v u Q I r1 r2 h;obtain⟨i,j,e1,e2,q⟩:=h;subst e1;subst e2;obtain⟨t,rfl⟩:=r1;obtain⟨t',rfl⟩:=r2;exact iadd_int ⟨.int _,H,I.tok _,⟨_,rfl⟩,q⟩
theorem Ez:PIp X .Sub (ipI fun i j=>i-j):=by
 intro pins s σ H x y v u Q I r1 r2 h;obtain⟨i,j,e1,e2,q⟩:=h;subst e1;subst e2;obtain⟨t,rfl⟩:=r1;obtain⟨t',rfl⟩:=r2;exact isub_int ⟨.int _,H,I.tok _,⟨_,rfl⟩,q⟩
noncomputable def DY(c:TT)(tb:TS):TS:=fun D σ H=>∃W:Nat->St->Hp->Prop,(∃m,W m σ H)/\∀m σ H,W m σ H ->
 c σ H fun b H1=>if b=true then∃N:St->Hp->Prop,(∀σ' H',N σ' H' ->∃m',m' <m/\W m' σ' H')/\tb {D with nx:=N,ct:=N,bk:=D.nx} σ H1 else D.nx σ H1
theorem pO{c:Expr}{body:List Stmt}{tc:TT}{tb:TS}(hp:PassesOwn (model X.prog X.w) X.A X.env X.xe)(hc:PT X c tc)(hb:tq X body tb):PS X (.While c body [] pos) (DY tc tb):=by
 intro pins s σ H D I h;obtain⟨W,⟨m0,w0⟩,turn⟩:=h;refine wpAny_While (codeAny_whileLoop (fun n s' =>∃σ' H',Inv X pins σ' H' s' /\W n σ' H') ?_ m0 ⟨σ,H,I,w0⟩);rintro n s1 ⟨σ1,H1,I1,w1⟩;refine LW hp (al (hc pins s1 σ1 H1 _ I1 (turn n σ1 H1 w1)) fun b s2 hpq=> ?_);obtain⟨H2,I2,q2⟩:=hpq;cases b with
 | true =>
  obtain⟨N,hN,q2⟩:=q2;rw[JS rfl];refine LW hp (al (hb pins s2 σ1 H2 _ I2 q2) fun f s3 q3=> ?_);cases f with
  | next =>
   obtain⟨σ3,H3,I3,n3⟩:=q3;obtain⟨m',hm,w3⟩:=hN σ3 H3 n3;exact⟨m',hm,σ3,H3,I3,w3⟩
  | cont =>
   obtain⟨σ3,H3,I3,n3⟩:=q3;obtain⟨m',hm,w3⟩:=hN σ3 H3 n3;exact⟨m',hm,σ3,H3,I3,w3⟩
  | brk=>exact q3
  | ret v=>exact q3
 | false =>
  rw[JR JT];exact wpAny_execs_nil ⟨σ1,H2,I2,q2⟩
end
structure It where
 go:Nat->Hp->Prop
 yld:Nat->Hp->V->Hp->Prop
 stop:Nat->Hp->Prop
noncomputable def iQ(X:Cx)(pins:List (Addr×Obj))(H:Hp)(b:Addr):Prop :=
 H b=none/\b≠X.env.locals/\b∉X.fs/\(b∈X.ex\/X.s₀.heap.objs.size<=b)/\(∀x c,X.env.cells.lookup x=some c->c≠b)/\∀p∈X.pn++pins,p.1≠b
theorem Inv.fpOk{X:Cx}{pins:List (Addr×Obj)}{σ:St}{H H' :Hp}{s:Shared}{b:Addr}(I:Inv X pins σ H s)(hb:s.heap.objs.size<=b)(hn:H' b=none):iQ X pins H' b:=by
 refine⟨hn,KZ (Jy I.lt hb),I.nofs hb,.inr (J2 I.sz hb),fun x c e z=> ?_,fun p hp z=> ?_⟩
 ·obtain⟨v,q⟩:=I.cell x c e
  exact absurd (Jy q.lt (by rw[z];exact hb)) (LI _)
 ·exact absurd (Jy (Je (I.pin p hp).1) (by rw[z];exact hb)) (LI _)
structure lZ(P:Program)(w:World)(K:W.Frag)(tg:Expr)(J:It)(fp:List Addr)(it:Addr)(tn:Nat->Heap->Prop):Prop where
 mem:it∈fp
 obj:∀i h,tn i h->∀b∈fp,∃o,h.get? b=some o/\∀v,o.data≠.cell v
 keep:∀i h h',tn i h->(∀b∈fp,∀o,h.get? b=some o->h'.get? b=some o)->tn i h'
 item:∀(X:Cx),X.prog=P->X.w=w->X.K=K->X.calm=true->∀(i:Nat)(pins:List (Addr×Obj))(s:Shared)(σ:St)(H:Hp)(E:Value->Shared->Prop),Inv X pins σ H s->(∀b∈fp,iQ X pins H b)->tn i s.heap->J.go i H ->
  wpAny (model P w) X.A (pyNext (.ref it)) (fun r s1=>∃u,r=some u /\
   wpAny (model P w) X.A (letOwnedTupleGo tg (.ref it) u) (fun _ s2=>∃x H',Inv X pins σ H' s2/\RelV x u/\J.yld i H x H' /\tn (i+1) s2.heap/\∀b∈fp,H' b=none) E s1) E s
 done:∀(X:Cx),X.prog=P->X.w=w->X.K=K->X.calm=true->∀(i:Nat)(pins:List (Addr×Obj))(s:Shared)(σ:St)(H:Hp)(E:Value->Shared->Prop),Inv X pins σ H s->(∀b∈fp,iQ X pins H b)->tn i s.heap->J.stop i H ->
  wpAny (model P w) X.A (pyNext (.ref it)) (fun r s1=>r=none/\Inv X pins σ H s1) E s
 self:∀(A:Around)(i:Nat)(s:Shared)(Q:Value->Shared->Prop)(E:Value->Shared->Prop),tn i s.heap->Q (.ref it) s->wpAny (model P w) A (pyIter (.ref it)) Q E s
noncomputable abbrev TI:=St->Hp->(It->Hp->Prop)->Prop
noncomputable def PIE(X:Cx)(pins:List (Addr×Obj))(σ:St)(tg:Expr)(R:It->Hp->Prop)(itv:Value)(s2:Shared):Prop :=
 ∃(it:Addr)(fp:List Addr)(tn:Nat->Heap->Prop)(J:It)(H' :Hp),itv=.ref it/\Inv X pins σ H' s2/\lZ X.prog X.w X.K tg J fp it tn/\tn 0 s2.heap/\(∀b∈fp,iQ X pins H' b)/\R J H'
noncomputable def PI(X:Cx)(tg iter:Expr)(wi:TI):Prop :=
 ∀(pins:List (Addr×Obj))(s:Shared)(σ:St)(H:Hp)(R:It->Hp->Prop),Inv X pins σ H s->wi σ H R ->
  wpAny (model X.prog X.w) X.A (eval iter X.env) (fun v s1=>wpAny (model X.prog X.w) X.A (pyIter v) (PIE X pins σ tg R) X.xe s1) X.xe s
theorem mN{M:Model}{A:Around}{E:Value->Shared->Prop}{s:Shared}{tg:Expr}{it:Addr}{u:Value}{o:Obj}{n:String}{vs:Array Value}{Q:Unit->Shared->Prop}(ho:s.heap.get? it=some o)(hc:o.cls=.type n)(hd:o.data=.fields vs)
    (hn:["enumerate","zip","dict_itemiterator","dict_reverseitemiterator","odict_iterator","itertools.zip_longest","itertools.pairwise"].contains n=false) (hQ:Q () s):wpAny M A (letOwnedTupleGo tg (.ref it) u) Q E s:=by
  unfold letOwnedTupleGo
  cases tg<;>first
    | exact JQ hQ
    | (cases u<;>first
        | exact JQ hQ
        | (refine JL (wpAny_load ho ?_)
           rw[hc,hd];show wpAny M A (if(["enumerate","zip","dict_itemiterator","dict_reverseitemiterator","odict_iterator","itertools.zip_longest","itertools.pairwise"].contains n&&vs[0]? ==some (rawInt _))=true then _ else _) Q E s;rw[JR (by intro h;rw[hn,MJ]at h;cases h)];exact JQ hQ))
noncomputable def GG(K:W.Frag)(a:Addr):It :=
 ⟨fun i H=>∃xs x,bG K H a xs/\xs[i]? =some x,fun i H x H' =>H' =H/\∀xs,bG K H a xs->xs[i]? =some x,fun i H=>∃xs,bG K H a xs/\xs.length<=i⟩
noncomputable def GF(K:W.Frag)(a:Addr):It :=
 ⟨fun i H=>∃xs x,bX K H a xs/\xs[i]? =some x,fun i H x H' =>H' =H/\∀xs,bX K H a xs->xs[i]? =some x,fun i H=>∃xs,bX K H a xs/\xs.length<=i⟩
noncomputable def DH(lo:Int)(n:Nat):It:=⟨fun i _=>i<n,fun i H x H' =>H' =H/\x=.int (lo+i),fun i _=>n<=i⟩
theorem vk{P:Program}{w:World}{K:W.Frag}{tg:Expr}(a it:Addr):lZ P w K tg (GG K a) [it] it (fun i h=>h.IsListIter it a i) where
 mem:=by simp
 obj:=fun i h st b hb=>by
  have e:b=it:=by simpa using hb
  subst e;obtain⟨o,e,c,d⟩:=st;exact⟨o,e,fun v z=>by rw[d]at z;cases z⟩
 keep:=fun i h h' st k=>st.at fun o e=>k it (by simp) o e
 item:=by
  intro X hP hw hK hc i pins s σ H E I hf st hg;subst hP hw hK;obtain⟨xs,x,hq,hx⟩:=hg;obtain⟨its,rv,p,hz⟩:=I.list hq;obtain⟨u,hu,ru⟩:=rv.get hx;obtain⟨f0,f1,f2,f3,f4,f5⟩:=hf it (by simp);refine wpAny_pyNext_list_item st p.isList (x:=u) (by simpa using hu) fun h' st' sb=> ?_;have I1:Inv X pins σ H {s with heap:=h'}:=I.turned (t' :=s.toks) (fun b o hb e=>(sb.2 b hb).trans e) f0 f1 f3 f4 f5;obtain⟨o,e,c,d⟩:=id st';exact⟨u,rfl,mN (s:={s with heap:=h'}) e c d (by decide) ⟨x,H,I1,ru,⟨rfl,fun ys hy=>by rw[I.list_inj hy hq];exact hx⟩,st',fun b hb=>(hf b hb).1⟩⟩
 done:=by
  intro X hP hw hK hc i pins s σ H E I hf st hg;subst hP hw hK;obtain⟨xs,hq,hx⟩:=hg;obtain⟨its,rv,p,hz⟩:=I.list hq;obtain⟨f0,f1,f2,f3,f4,f5⟩:=hf it (by simp);have hl:=rv.length;exact wpAny_pyNext_list_end (I.ok.hd hc) st p.isList (by simp;omega) fun h' eb=>⟨rfl,I.turned (t' :=s.toks) (fun b o hb e=>eb b o hb e) f0 f1 f3 f4 f5⟩
 self:=fun _ _ _ _ _ st h=>wpAny_pyIter_listiter st h
theorem rT{P:Program}{w:World}{K:W.Frag}{tg:Expr}(a it:Addr):lZ P w K tg (GF K a) [it] it (fun i h=>h.IsTupleIter it a i) where
 mem:=by simp
 obj:=fun i h st b hb=>by
  have e:b=it:=by simpa using hb
  subst e;obtain⟨o,e,c,d⟩:=st;exact⟨o,e,fun v z=>by rw[d]at z;cases z⟩
 keep:=fun i h h' st k=>st.at fun o e=>k it (by simp) o e
 item:=by
  intro X hP hw hK hc i pins s σ H E I hf st hg;subst hP hw hK;obtain⟨xs,x,hq,hx⟩:=hg;obtain⟨its,rv,p,hz⟩:=I.tuple hq;obtain⟨u,hu,ru⟩:=rv.get hx;obtain⟨f0,f1,f2,f3,f4,f5⟩:=hf it (by simp);refine wpAny_pyNext_tuple_item st (show s.heap.IsTuple a its.toArray from p) (x:=u) (by simpa using hu) fun h' st' sb=> ?_;have I1:Inv X pins σ H {s with heap:=h'}:=I.turned (t' :=s.toks) (fun b o hb e=>(sb.2 b hb).trans e) f0 f1 f3 f4 f5;obtain⟨o,e,c,d⟩:=id st';exact⟨u,rfl,mN (s:={s with heap:=h'}) e c d (by decide) ⟨x,H,I1,ru,⟨rfl,fun ys hy=>by rw[I.tuple_inj hy hq];exact hx⟩,st',fun b hb=>(hf b hb).1⟩⟩
 done:=by
  intro X hP hw hK hc i pins s σ H E I hf st hg;subst hP hw hK;obtain⟨xs,hq,hx⟩:=hg;obtain⟨its,rv,p,hz⟩:=I.tuple hq;obtain⟨f0,f1,f2,f3,f4,f5⟩:=hf it (by simp);have hl:=rv.length;exact wpAny_pyNext_tuple_end (I.ok.hd hc) st (show s.heap.IsTuple a its.toArray from p) (by simp;omega) fun h' eb=>⟨rfl,I.turned (t' :=s.toks) (fun b o hb e=>eb b o hb e) f0 f1 f3 f4 f5⟩
 self:=fun _ _ _ _ _ st h=>wpAny_pyIter_tupleiter st h
theorem rV{P:Program}{w:World}{K:PySem.W.Frag}{tg:Expr}(it:Addr)(lo:Int)(n:Nat):lZ P w K tg (DH lo n) [it] it (fun i h=>IsRangeIter h it (lo+(i:Nat)*1) ((n:Int)-(i:Nat)) 1) where
 mem:=by simp
 obj:=fun i h st b hb=>by
  have e:b=it:=by simpa using hb
  subst e;exact⟨_,st,fun v z=>by
   have z' :Data.fields _=Data.cell v:=z;cases z'⟩
 keep:=fun i h h' st k=>k it (by simp) _ st
 item:=by
  intro X hP hw hK hc i pins s σ H E I hf st hg;subst hP hw hK;obtain⟨f0,f1,f2,f3,f4,f5⟩:=hf it (by simp);have W:=Walks.range (prog:=X.prog) (w:=X.w) (I.ok.hd hc) it lo 1 n;refine W.item i s _ _ hg st fun v h' tk hv st' kk=> ?_;obtain⟨t,rfl⟩:=hv;have I1:Inv X pins σ H {s with heap:=h',toks:=tk}:=I.turned (fun b o hb e=>kk b o (by simpa using hb) e) f0 f1 f3 f4 f5;refine⟨_,rfl,mN (s:={s with heap:=h',toks:=tk}) (n:="range_iterator") st' rfl rfl (by decide) ⟨.int (lo+i),H,I1,⟨t,?_⟩,⟨rfl,rfl⟩,st',fun b hb=>(hf b hb).1⟩⟩;rw[Int.mul_one]
 done:=by
  intro X hP hw hK hc i pins s σ H E I hf st hg;subst hP hw hK;obtain⟨f0,f1,f2,f3,f4,f5⟩:=hf it (by simp);exact wpAny_pyNext_range_end (I.ok.hd hc) st (by have:n<=i:=hg;omega) fun h' eb=>⟨rfl,I.turned (t' :=s.toks) (fun b o hb e=>eb b o hb e) f0 f1 f3 f4 f5⟩
 self:=fun _ _ _ _ _ st h=>wpAny_pyIter_rangeiter st h
section
variable{X:Cx}{tg:Expr}
noncomputable def Hs(K:W.Frag)(tl:TE):TI:=fun σ H R=>tl σ H fun x H1=>∃a,x=.ref a/\(∃xs,bG K H1 a xs)/\R (GG K a) H1
noncomputable def iTup(K:W.Frag)(tl:TE):TI:=fun σ H R=>tl σ H fun x H1=>∃a,x=.ref a/\(∃xs,bX K H1 a xs)/\R (GF K a) H1
theorem gP{l:Expr}{tl:TE}(hl:PE X l tl):PI X tg l (Hs X.K tl):=by
 intro pins s σ H R I h;refine al (hl pins s σ H _ I h) fun v s1 hpq=> ?_;obtain⟨x,H1,I1,r1,q1⟩:=hpq;obtain⟨a,e,⟨xs,hq⟩,q⟩:=q1;subst e;cases r1;obtain⟨its,rv,p,hz⟩:=I1.list hq;refine MP p.isList ?_;refine⟨s1.heap.objs.size,[s1.heap.objs.size],_,_,H1,rfl,I1.kept (t' :=s1.toks) fun b o e=>JN _ e,vk a _,⟨_,Jd _ rfl,rfl,rfl⟩,fun b hb=> ?_,q⟩;have e:b=s1.heap.objs.size:=by simpa using hb
 subst e;exact I1.fpOk (JV _) (I1.hok.fresh (JV _))
theorem sN{l:Expr}{tl:TE}(hl:PE X l tl):PI X tg l (iTup X.K tl):=by
 intro pins s σ H R I h;refine al (hl pins s σ H _ I h) fun v s1 hpq=> ?_;obtain⟨x,H1,I1,r1,q1⟩:=hpq;obtain⟨a,e,⟨xs,hq⟩,q⟩:=q1;subst e;cases r1;obtain⟨its,rv,p,hz⟩:=I1.tuple hq;refine MN (show s1.heap.IsTuple a its.toArray from p) ?_;refine⟨s1.heap.objs.size,[s1.heap.objs.size],_,_,H1,rfl,I1.kept (t' :=s1.toks) fun b o e=>JN _ e,rT a _,⟨_,Jd _ rfl,rfl,rfl⟩,fun b hb=> ?_,q⟩;have e:b=s1.heap.objs.size:=by simpa using hb
 subst e;exact I1.fpOk (JV _) (I1.hok.fresh (JV _))
theorem pL{pins:List (Addr×Obj)}{σ:St}{H:Hp}{s:Shared}{R:It->Hp->Prop}{E:Value->Shared->Prop}{lo hi:Int}{t u v:Tok}{tk:Nat}(I:Inv X pins σ H s)(h1: -(2^62)<=lo)(h2:lo<2^62)(h3: -(2^62)<=hi)(h4:hi<2^62)
  (q:R (DH lo (hi-lo).toNat) H):wpAny (model X.prog X.w) X.A (pyIter (.ref s.heap.objs.size)) (PIE X pins σ tg R) E {s with heap:=s.heap.push {cls:=.type "range",data:=.fields #[.int lo t,.int hi u,.int 1 v]},toks:=tk}:=by
 refine wpAny_pyIter_range (IsRange.new ..) (small_one h1 h2 h3 h4) ?_;have I1:Inv X pins σ H {s with heap:=s.heap.push {cls:=.type "range",data:=.fields #[.int lo t,.int hi u,.int 1 v]},toks:=tk}:=I.kept fun b o e=>JN _ e
 refine⟨(s.heap.push {cls:=.type "range",data:=.fields #[.int lo t,.int hi u,.int 1 v]}).objs.size,[(s.heap.push {cls:=.type "range",data:=.fields #[.int lo t,.int hi u,.int 1 v]}).objs.size],_,_,H,rfl,
  I1.kept (t' :=tk) fun b o e=>JN _ e,rV _ lo (hi-lo).toNat,?_,fun b hb=> ?_,q⟩
 ·have e1:lo+((0:Nat):Int)*1=lo:=by simp
  have e2:(((hi-lo).toNat:Nat):Int)-((0:Nat):Int)=Builtin.Range.rangeSize lo hi 1:=by rw[rangeSize_one];split<;>omega
  show IsRangeIter _ _ (lo+((0:Nat):Int)*1) ((((hi-lo).toNat:Nat):Int)-((0:Nat):Int)) 1;rw[e1,e2];exact Jd _ rfl
 ·have e:b=(s.heap.push {cls:=.type "range",data:=.fields #[.int lo t,.int hi u,.int 1 v]}).objs.size:=by simpa using hb
  subst e;exact I1.fpOk (JV _) (I1.hok.fresh (JV _))
noncomputable def Hn(ta:TA):TI:=fun σ H R=>ta σ H fun vs H1=>∃j:Int,vs=[.int j]/\ -(2^62)<=j/\j<2^62/\R (DH 0 j.toNat) H1
noncomputable def Hm(ta:TA):TI:=fun σ H R=>ta σ H fun vs H1=>∃i j:Int,vs=[.int i,.int j]/\(-(2^62)<=i/\i<2^62/\ -(2^62)<=j/\j<2^62)/\R (DH i (j-i).toNat) H1
theorem mD{a:Expr}{ta:TA}{p pos:Pos}(hg:Gl X "range")(hm:X.mg "range"=none)(ha:PA X [a] ta)(hs:starEach [a] X.env=[(false,eval a X.env)]:=by rfl):PI X tg (.Call (.Name "range" p) [a] [] pos) (Hn ta):=by
 intro pins s σ H R I h;refine Call_ (cT I hg hm boot_range (KD (al (ha pos pins s σ H _ I h) fun us s1 ⟨vs,H1,I1,r1,q1⟩=> ?_) hs rfl));obtain⟨j,e,q1,q2,q⟩:=q1;subst e;cases r1 with
 | cons r rr =>
  cases rr;obtain⟨t,rfl⟩:=r;exact call_range_1 (pL I1 (by omega) (by omega) q1 q2 (by simpa using q))
theorem v9{a b:Expr}{ta:TA}{p pos:Pos}(hg:Gl X "range")(hm:X.mg "range"=none)(ha:PA X [a,b] ta)(hs:starEach [a,b] X.env=[(false,eval a X.env),(false,eval b X.env)]:=by rfl)(hs2:starEach [b] X.env=[(false,eval b X.env)]:=by rfl) :
  PI X tg (.Call (.Name "range" p) [a,b] [] pos) (Hm ta):=by
 intro pins s σ H R I h;refine Call_ (cT I hg hm boot_range (KD (al (ha pos pins s σ H _ I h) fun us s1 ⟨vs,H1,I1,r1,q1⟩=> ?_) (by rw[hs,hs2]) (by rw[hs2];rfl)));obtain⟨i,j,e,⟨q1,q2,q3,q4⟩,q⟩:=q1;subst e;cases r1 with
 | cons r rr =>
  cases rr with
  | cons r' rr =>
   cases rr;obtain⟨t,rfl⟩:=r;obtain⟨t',rfl⟩:=r';exact call_range_2 (pL I1 q1 q2 q3 q4 q)
noncomputable def tFor(wi:TI)(g:TG)(tb:TS):TS:=fun D σ H=>wi σ H fun J H1=>∃W:Nat->Nat->St->Hp->Prop,(∃m,W 0 m σ H1)/\∀i m σ H,W i m σ H ->
 (J.stop i H/\D.nx σ H)\/(J.go i H/\∃N:St->Hp->Prop,(∀σ' H',N σ' H' ->∃m',m' <m/\W (i+1) m' σ' H')/\∀x H',J.yld i H x H' ->g x σ H' fun σ2 H2=>tb {D with nx:=N,ct:=N,bk:=D.nx} σ2 H2)
noncomputable def ju(fp:List Addr)(h:Heap):List (Addr×Obj):=fp.filterMap fun b=>(h.get? b).map fun o=>(b,o)
theorem du{fp:List Addr}{h:Heap}{b:Addr}{o:Obj}(hb:b∈fp)(e:h.get? b=some o):(b,o)∈ju fp h:=List.mem_filterMap.mpr ⟨b,hb,by rw[e];rfl⟩
theorem wB{fp:List Addr}{h:Heap}{p:Addr×Obj}(hp:p∈ju fp h):p.1∈fp/\h.get? p.1=some p.2:=by
 obtain⟨b,hb,e⟩:=List.mem_filterMap.mp hp;cases q:h.get? b with
 | none=>rw[q]at e;cases e
 | some o =>
  rw[q]at e;have e' :(b,o)=p:=Jl e;subst e';exact⟨hb,q⟩
theorem Inv.pinned{pins:List (Addr×Obj)}{σ:St}{H:Hp}{s:Shared}{fp:List Addr}(I:Inv X pins σ H s)(hf:∀b∈fp,iQ X pins H b)(ho:∀b∈fp,∃o,s.heap.get? b=some o/\∀v,o.data≠.cell v):Inv X (pins++ju fp s.heap) σ H s :=
 I.pins_of fun p hp=>(J0.mp hp).elim (fun z=>I.pin p (KG _ z)) fun z=>by
  obtain⟨hb,e⟩:=wB z;obtain⟨f0,f1,f2,_⟩:=hf p.1 hb;obtain⟨o,e',d⟩:=ho p.1 hb;rw[e]at e';cases e';exact⟨e,f0,f1,f2,d⟩
theorem Inv.unpinned{pins pl:List (Addr×Obj)}{σ:St}{H:Hp}{s:Shared}(I:Inv X (pins++pl) σ H s):Inv X pins σ H s:=I.pins_of fun p hp=>I.pin p (KG _ (Kp _ hp))
theorem eN{iter:Expr}{body:List Stmt}{wi:TI}{g:TG}{tb:TS}{pos:Pos}(hp:PassesOwn (model X.prog X.w) X.A X.env X.xe)(hc:X.calm=true)(hi:PI X tg iter wi)(hg:PG X tg g)(hb:tq X body tb)
  (hs:∀x,foldedSetIterable iter X.env x=pure x:=by intro _;rfl):PS X (.For tg iter body [] pos) (tFor wi g tb):=by
 intro pins s σ H D I h;refine wpAny_For (al (hi pins s σ H _ I h) fun v s1 h1=>al h1 fun itv s2 h2=> ?_) hs;obtain⟨it,fp,tn,J,H2,e,I2,T,st2,f2,W,⟨m0,w0⟩,turn⟩:=h2;subst e;have stat:∀{H' :Hp},(∀b∈fp,H' b=none)->∀b∈fp,iQ X pins H' b:=fun hn b hb=>⟨hn b hb,(f2 b hb).2⟩;refine codeAny_forLoop_any (fun n s' =>∃i σ' H',Inv X pins σ' H' s' /\tn i s'.heap/\(∀b∈fp,H' b=none)/\W i n σ' H') ?_ m0 ⟨0,σ,H2,I2,st2,fun b hb=>(f2 b hb).1,w0⟩;rintro n s3 ⟨i,σ3,H3,I3,st3,fr3,w3⟩
 rcases turn i n σ3 H3 w3 with⟨stop,qn⟩|⟨go,N,hN,step⟩
 ·refine LW hp (al (T.done X rfl rfl rfl hc i pins s3 σ3 H3 X.xe I3 (stat fr3) st3 stop) fun r s4 hpq=> ?_)
  obtain⟨hr,I4⟩:=hpq;subst hr;exact wpAny_execs_nil ⟨σ3,H3,I4,qn⟩
 ·refine LW hp (al (T.item X rfl rfl rfl hc i pins s3 σ3 H3 X.xe I3 (stat fr3) st3 go) fun r s4 hpq=> ?_)
  obtain⟨u,hr,h4⟩:=hpq;subst hr;refine LW hp (al h4 fun _ s5 hpq=> ?_);obtain⟨x,H5,I5,r5,y5,st5,fr5⟩:=hpq;have I5' :=I5.pinned (stat fr5) (T.obj _ _ st5);refine LW hp (al (hg _ s5 σ3 H5 x u _ I5' r5 (step x H5 y5)) fun _ s6 hpq=> ?_);obtain⟨σ6,H6,I6,q6⟩:=hpq;refine LW hp (al (hb _ s6 σ6 H6 _ I6 q6) fun f s7 q7=> ?_);have again:∀{σ7:St}{H7:Hp},Inv X (pins++ju fp s5.heap) σ7 H7 s7->N σ7 H7->∃m,m<n/\∃i σ' H',Inv X pins σ' H' s7/\tn i s7.heap/\(∀b∈fp,H' b=none)/\W i m σ' H' :=fun{σ7 H7} I7 n7=>by
   obtain⟨m',hm,w7⟩:=hN σ7 H7 n7;refine⟨m',hm,i+1,σ7,H7,I7.unpinned,T.keep _ _ _ st5 fun b hb o e=>(I7.pin (b,o) (KG _ (KG _ (du hb e)))).1,fun b hb=> ?_,w7⟩;obtain⟨o,e,d⟩:=T.obj _ _ st5 b hb;exact(I7.pin (b,o) (KG _ (KG _ (du hb e)))).2.1
  cases f with
  | next=>obtain⟨σ7,H7,I7,n7⟩:=q7;exact again I7 n7
  | cont=>obtain⟨σ7,H7,I7,n7⟩:=q7;exact again I7 n7
  | brk=>obtain⟨σ7,H7,I7,q7⟩:=q7;exact⟨σ7,H7,I7.unpinned,q7⟩
  | ret v=>obtain⟨x7,σ7,H7,I7,r7,q7⟩:=q7;exact⟨x7,σ7,H7,I7.unpinned,r7,q7⟩
end
theorem zI{K:PySem.W.Frag}{a:Addr}{xs:List V}{g:TG}{tb:TS}{D:cG}{σ:St}{H:Hp}(Pv:Nat->St->Hp->Prop)(h0:Pv 0 σ H)(hl:∀i σ H,i<=xs.length->Pv i σ H->bG K H a xs)
  (hs:∀i x σ H,xs[i]? =some x->Pv i σ H->g x σ H fun σ2 H2=>tb {D with nx:=Pv (i+1),ct:=Pv (i+1),bk:=D.nx} σ2 H2) (hd:∀σ H,Pv xs.length σ H->D.nx σ H) :
  ∃W:Nat->Nat->St->Hp->Prop,(∃m,W 0 m σ H)/\∀i m σ H,W i m σ H ->
   ((GG K a).stop i H/\D.nx σ H)\/((GG K a).go i H/\∃N:St->Hp->Prop,(∀σ' H',N σ' H' ->∃m',m' <m/\W (i+1) m' σ' H')/\∀x H',(GG K a).yld i H x H' ->g x σ H' fun σ2 H2=>tb {D with nx:=N,ct:=N,bk:=D.nx} σ2 H2):=by
 refine⟨fun i m σ H=>m=xs.length-i/\i<=xs.length/\Pv i σ H,⟨xs.length,by simp,Js _,h0⟩,?_⟩;rintro i m σ H ⟨rfl,hi,p⟩;have q:=hl i σ H hi p
 by_cases hlt:i<xs.length
 ·refine .inr ⟨⟨xs,xs[i],q,by simp[hlt]⟩,Pv (i+1),fun σ' H' p' =>⟨xs.length-(i+1),by omega,rfl,hlt,p'⟩,fun x H' y=> ?_⟩
  obtain⟨e,y⟩:=y;subst e;exact hs i x σ _ (y xs q) p
 ·have e:i=xs.length:=by omega
  subst e;exact .inl ⟨⟨xs,q,JV _⟩,hd σ H p⟩
theorem Bx{K:PySem.W.Frag}{a:Addr}{xs:List V}{g:TG}{tb:TS}{D:cG}{σ:St}{H:Hp}(Pv:Nat->St->Hp->Prop)(h0:Pv 0 σ H)(hl:∀i σ H,i<=xs.length->Pv i σ H->bX K H a xs)
  (hs:∀i x σ H,xs[i]? =some x->Pv i σ H->g x σ H fun σ2 H2=>tb {D with nx:=Pv (i+1),ct:=Pv (i+1),bk:=D.nx} σ2 H2) (hd:∀σ H,Pv xs.length σ H->D.nx σ H) :
  ∃W:Nat->Nat->St->Hp->Prop,(∃m,W 0 m σ H)/\∀i m σ H,W i m σ H ->
   ((GF K a).stop i H/\D.nx σ H)\/((GF K a).go i H/\∃N:St->Hp->Prop,(∀σ' H',N σ' H' ->∃m',m' <m/\W (i+1) m' σ' H')/\∀x H',(GF K a).yld i H x H' ->g x σ H' fun σ2 H2=>tb {D with nx:=N,ct:=N,bk:=D.nx} σ2 H2):=by
 refine⟨fun i m σ H=>m=xs.length-i/\i<=xs.length/\Pv i σ H,⟨xs.length,by simp,Js _,h0⟩,?_⟩;rintro i m σ H ⟨rfl,hi,p⟩;have q:=hl i σ H hi p
 by_cases hlt:i<xs.length
 ·refine .inr ⟨⟨xs,xs[i],q,by simp[hlt]⟩,Pv (i+1),fun σ' H' p' =>⟨xs.length-(i+1),by omega,rfl,hlt,p'⟩,fun x H' y=> ?_⟩
  obtain⟨e,y⟩:=y;subst e;exact hs i x σ _ (y xs q) p
 ·have e:i=xs.length:=by omega
  subst e;exact .inl ⟨⟨xs,q,JV _⟩,hd σ H p⟩
theorem wU{lo:Int}{n:Nat}{g:TG}{tb:TS}{D:cG}{σ:St}{H:Hp}(Pv:Nat->St->Hp->Prop)(h0:Pv 0 σ H)
  (hs:∀i σ H,i<n->Pv i σ H->g (.int (lo+i)) σ H fun σ2 H2=>tb {D with nx:=Pv (i+1),ct:=Pv (i+1),bk:=D.nx} σ2 H2) (hd:∀σ H,Pv n σ H->D.nx σ H) :
  ∃W:Nat->Nat->St->Hp->Prop,(∃m,W 0 m σ H)/\∀i m σ H,W i m σ H ->
   ((DH lo n).stop i H/\D.nx σ H)\/((DH lo n).go i H/\∃N:St->Hp->Prop,(∀σ' H',N σ' H' ->∃m',m' <m/\W (i+1) m' σ' H')/\∀x H',(DH lo n).yld i H x H' ->g x σ H' fun σ2 H2=>tb {D with nx:=N,ct:=N,bk:=D.nx} σ2 H2):=by
 refine⟨fun i m σ H=>m=n-i/\i<=n/\Pv i σ H,⟨n,by simp,Js _,h0⟩,?_⟩;rintro i m σ H ⟨rfl,hi,p⟩
 by_cases hlt:i<n
 ·refine .inr ⟨hlt,Pv (i+1),fun σ' H' p' =>⟨n-(i+1),by omega,rfl,hlt,p'⟩,fun x H' y=> ?_⟩
  obtain⟨e,y⟩:=y;subst e y;exact hs i σ _ hlt p
 ·have e:i=n:=by omega
  subst e;exact .inl ⟨JV _,hd σ H p⟩
noncomputable abbrev R2:=V->V->Hp->VK->Prop
noncomputable def cv(X:Cx)(f:Value->Value->Sem Value)(r:R2):Prop :=
 ∀(pins:List (Addr×Obj))(s:Shared)(σ:St)(H:Hp)(x y:V)(v u:Value)(Q:VK),Inv X pins σ H s->RelV x v->RelV y u->r x y H Q ->
  wpAny (model X.prog X.w) X.A (f v u) (EP X pins σ Q) X.xe s
noncomputable def UnR(X:Cx)(f:Value->Sem Value)(r:V->Hp->VK->Prop):Prop :=
 ∀(pins:List (Addr×Obj))(s:Shared)(σ:St)(H:Hp)(x:V)(v:Value)(Q:VK),Inv X pins σ H s->RelV x v->r x H Q ->
  wpAny (model X.prog X.w) X.A (f v) (EP X pins σ Q) X.xe s
noncomputable def bF(X:Cx)(f:Value)(r:List V->Hp->VK->Prop):Prop :=
 ∀(pins:List (Addr×Obj))(s:Shared)(σ:St)(H:Hp)(xs:List V)(us:List Value)(Q:VK),Inv X pins σ H s->aL xs us->r xs H Q ->
  wpAny (model X.prog X.w) X.A (call f us) (EP X pins σ Q) X.xe s
noncomputable def TruR(X:Cx)(r:V->Hp->(Bool->Hp->Prop)->Prop):Prop :=
 ∀(pins:List (Addr×Obj))(s:Shared)(σ:St)(H:Hp)(x:V)(v:Value)(Q:Bool->Hp->Prop),Inv X pins σ H s->RelV x v->r x H Q ->
  wpAny (model X.prog X.w) X.A (truthy v) (TP X pins σ Q) X.xe s
noncomputable def tOp(r:R2)(ta tb:TE):TE:=fun σ H Q=>ta σ H fun x H1=>tb σ H1 fun y H2=>r x y H2 Q
noncomputable def tUn(r:V->Hp->VK->Prop)(ta:TE):TE:=fun σ H Q=>ta σ H fun x H1=>r x H1 Q
noncomputable def rI(C:Int->Int->Prop)(g:Int->Int->V):R2:=fun x y H Q=>∃i j,x=.int i/\y=.int j/\C i j/\Q (g i j) H
noncomputable def xr(g:Int->Int->V):R2:=fun x y H Q=>∃i j,x=.int i/\y=.int j/\Q (g i j) H
noncomputable def rU(g:Int->V):V->Hp->VK->Prop:=fun x H Q=>∃i,x=.int i/\Q (g i) H
section
variable{X:Cx}{a b c:Expr}{ta tb tc:TE}{pos:Pos}
theorem Fq(ha:PE X a ta)(hb:PE X b tb){pins:List (Addr×Obj)}{s:Shared}{σ:St}{H:Hp}{R:V->V->Hp->Prop}(I:Inv X pins σ H s)
  (h:ta σ H fun x H1=>tb σ H1 fun y H2=>R x y H2) {Q:Value->Shared->Prop} {f:Value->Value->Sem Value}
  (hf:∀v u s2 x y H2,Inv X pins σ H2 s2->RelV x v->RelV y u->R x y H2->wpAny (model X.prog X.w) X.A (f v u) Q X.xe s2) :
  wpAny (model X.prog X.w) X.A (eval a X.env) (fun v s₁=>wpAny (model X.prog X.w) X.A (eval b X.env) (fun u s₂=>wpAny (model X.prog X.w) X.A (f v u) Q X.xe s₂) X.xe s₁) X.xe s:=by
 refine al (ha pins s σ H _ I h) fun v s1 hpq=> ?_;obtain⟨x,H1,I1,r1,q1⟩:=hpq;refine al (hb pins s1 σ H1 _ I1 q1) fun u s2 hpq=> ?_;obtain⟨y,H2,I2,r2,q2⟩:=hpq;exact hf v u s2 x y H2 I2 r1 r2 q2
theorem eP{op:Operator}{r:R2}(ho:cv X (binaryOp op) r)(ha:PE X a ta)(hb:PE X b tb):PE X (.BinOp a op b pos) (tOp r ta tb):=by
 intro pins s σ H Q I h;exact wpAny_BinOp (Fq ha hb I h fun v u s2 x y H2 I2 rx ry q=>ho pins s2 σ H2 x y v u Q I2 rx ry q)
theorem C2{op:UnaryOp}{r:V->Hp->VK->Prop}(ho:UnR X (unaryOp op) r)(ha:PE X a ta):PE X (.UnaryOp op a pos) (tUn r ta):=by
 intro pins s σ H Q I h;exact UnaryOp_ (al (ha pins s σ H _ I h) fun v s1 ⟨x,H1,I1,r1,q1⟩=>ho pins s1 σ H1 x v Q I1 r1 q1)
theorem Hd{f:Value->Value->Sem Value}{C:Int->Int->Prop}{g:Int->Int->Int}
  (rule:∀(i j:Int)(t u:Tok)(s:Shared)(Q:Value->Shared->Prop)(E:Value->Shared->Prop),C i j->Q (.int (g i j) s.toks) {s with toks:=s.toks+1}->wpAny (model X.prog X.w) X.A (f (.int i t) (.int j u)) Q E s) :
  cv X f (rI C fun i j=>.int (g i j)):=by
 intro pins s σ H x y v u Q I rx ry h;obtain⟨i,j,rfl,rfl,hc,q⟩:=h;obtain⟨t,rfl⟩:=rx;obtain⟨t',rfl⟩:=ry;exact rule i j t t' s _ _ hc ⟨.int (g i j),H,I.tok _,⟨_,rfl⟩,q⟩
theorem BM{f:Value->Value->Sem Value}{g:Int->Int->Int}
  (rule:∀(i j:Int)(t u:Tok)(s:Shared)(Q:Value->Shared->Prop)(E:Value->Shared->Prop),Q (.int (g i j) s.toks) {s with toks:=s.toks+1}->wpAny (model X.prog X.w) X.A (f (.int i t) (.int j u)) Q E s) :
  cv X f (xr fun i j=>.int (g i j)):=by
 intro pins s σ H x y v u Q I rx ry h;obtain⟨i,j,rfl,rfl,q⟩:=h;obtain⟨t,rfl⟩:=rx;obtain⟨t',rfl⟩:=ry;exact rule i j t t' s _ _ ⟨.int (g i j),H,I.tok _,⟨_,rfl⟩,q⟩
theorem BN{f:Value->Value->Sem Value}{g:Int->Int->Bool}
  (rule:∀(i j:Int)(t u:Tok)(s:Shared)(Q:Value->Shared->Prop)(E:Value->Shared->Prop),Q (.bool (g i j)) s->wpAny (model X.prog X.w) X.A (f (.int i t) (.int j u)) Q E s) :
  cv X f (xr fun i j=>.bl (g i j)):=by
 intro pins s σ H x y v u Q I rx ry h;obtain⟨i,j,rfl,rfl,q⟩:=h;obtain⟨t,rfl⟩:=rx;obtain⟨t',rfl⟩:=ry;exact rule i j t t' s _ _ ⟨.bl (g i j),H,I,rfl,q⟩
noncomputable def CPow(i j:Int):Prop:=0<=j/\j<=1000000/\i.natAbs<2^64
noncomputable def GI(i j:Int):Prop:=(-(2^64)<i/\i<2^64)\/(-(2^64)<j/\j<2^64)
theorem GI.ok{i j:Int}(h:GI i j):IntMulOk i j:=by
 rcases h with⟨h1,h2⟩|⟨h1,h2⟩
 ·exact .of_left (intBits_le_64 h1 h2)
 ·exact .of_right (intBits_le_64 h1 h2)
theorem jv:cv X (binaryOp .Add) (xr fun i j=>.int (i+j)):=BM fun _ _ _ _ _ _ _ q=>add_int q
theorem EK:cv X (binaryOp .Sub) (xr fun i j=>.int (i-j)):=BM fun _ _ _ _ _ _ _ q=>sub_int q
theorem EO:cv X (binaryOp .Mult) (rI GI fun i j=>.int (i*j)):=Hd fun _ _ _ _ _ _ _ hc q=>mul_int q hc.ok
theorem EQ:cv X (binaryOp .Mod) (rI (fun _ j=>0<j) fun i j=>.int (i%j)):=Hd fun i j _ _ _ _ _ hc q=>by
 have h1:(0:Int)<j:=hc;exact mod_int' (by omega) (by rw[Int.fmod_eq_emod_of_nonneg i (by omega)];exact q)
theorem EL:cv X (binaryOp .LShift) (rI CPow fun i j=>.int (i*2^j.toNat)):=Hd fun _ _ _ _ _ _ _ hc q=>lshift_int_small hc.1 hc.2.1 hc.2.2 q
theorem yP:cv X (binaryOp .BitAnd) (xr fun i j=>.int (Builtin.bitAnd i j)):=BM fun _ _ _ _ _ _ _ q=>and_int q
theorem C5:cv X (binaryOp .BitOr) (xr fun i j=>.int (Builtin.bitOr i j)):=BM fun _ _ _ _ _ _ _ q=>or_int q
theorem unI{f:Value->Sem Value}{g:Int->Int}
  (rule:∀(i:Int)(t:Tok)(s:Shared)(Q:Value->Shared->Prop)(E:Value->Shared->Prop),Q (.int (g i) s.toks) {s with toks:=s.toks+1}->wpAny (model X.prog X.w) X.A (f (.int i t)) Q E s) :
  UnR X f (rU fun i=>.int (g i)):=by
 intro pins s σ H x v Q I rx h;obtain⟨i,rfl,q⟩:=h;obtain⟨t,rfl⟩:=rx;exact rule i t s _ _ ⟨.int (g i),H,I.tok _,⟨_,rfl⟩,q⟩
theorem xM:UnR X (unaryOp .USub) (rU fun i=>.int (-i)):=unI fun _ _ _ _ _ q=>neg_int q
end
noncomputable def De:V->V->Bool
 | .non,.non=>true| .non,.int _=>true| .int _,.non=>true| .non,.bl _=>true| .bl _,.non=>true| .non,.str _=>true| .str _,.non=>true
 | .int _,.int _=>true| .bl _,.bl _=>true| .str _,.str _=>true| .byt _,.byt _=>true
 | .int _,.str _=>true| .str _,.int _=>true| .bl _,.str _=>true| .str _,.bl _=>true
 | _,_=>false
noncomputable def rEq:R2:=fun x y H Q=>De x y=true/\Q (.bl (decide (x=y))) H
noncomputable def rNe:R2:=fun x y H Q=>De x y=true/\Q (.bl (!decide (x=y))) H
theorem vP{i j:Int}:decide (V.int i=V.int j)=(i==j):=by
 rw[J8];simp
theorem zW{i j:Bool}:decide (V.bl i=V.bl j)=(i==j):=by
 rw[J8];simp
theorem vO{i j:Str}:decide (V.str i=V.str j)=(i==j):=by
 rw[J8];simp
theorem vQ{i j:Array UInt8}:decide (V.byt i=V.byt j)=(i.toList==j.toList):=by
 rw[J8];cases i;cases j;simp
section
variable{X:Cx}{a b c:Expr}{ta tb tc:TE}{pos:Pos}
theorem aa{pins:List (Addr×Obj)}{σ:St}{H:Hp}{s:Shared}{Q:VK}{k k' :Bool}(I:Inv X pins σ H s)(q:Q (.bl k) H)(e:k=k'):EP X pins σ Q (.bool k') s:=by
 subst e;exact⟨.bl k,H,I,rfl,q⟩
theorem ud:cv X (compareOp .Eq) rEq:=by
 intro pins s σ H x y v u Q I rx ry h;obtain⟨hs,q⟩:=h;cases x with
 | non =>
  cases rx;cases y with
  | non=>cases ry;exact PySem.EqNone.eq_none_none (aa I q (by simp))
  | bl j=>cases ry;exact PySem.EqNone.eq_none_bool (aa I q (by simp))
  | int j=>obtain⟨t',rfl⟩:=ry;exact PySem.EqNone.eq_none_int (aa I q (by simp))
  | str j=>obtain⟨t',rfl⟩:=ry;exact PySem.EqNone.eq_none_str (aa I q (by simp))
  | _=>exact absurd (show false=true from hs) JT
 | bl i =>
  cases rx;cases y with
  | non=>cases ry;exact PySem.EqNone.eq_bool_none (aa I q (by simp))
  | bl j=>cases ry;exact eq_bool (aa I q zW)
  | str j=>obtain⟨t',rfl⟩:=ry;exact PySem.EqMixed.eq_bool_str (aa I q (by simp))
  | _=>exact absurd (show false=true from hs) JT
 | int i =>
  obtain⟨t,rfl⟩:=rx;cases y with
  | non=>cases ry;exact PySem.EqNone.eq_int_none (aa I q (by simp))
  | int j=>obtain⟨t',rfl⟩:=ry;exact eq_int (aa I q vP)
  | str j=>obtain⟨t',rfl⟩:=ry;exact PySem.EqMixed.eq_int_str (aa I q (by simp))
  | _=>exact absurd (show false=true from hs) JT
 | str i =>
  obtain⟨t,rfl⟩:=rx;cases y with
  | non=>cases ry;exact PySem.EqNone.eq_str_none (aa I q (by simp))
  | bl j=>cases ry;exact PySem.EqMixed.eq_str_bool (aa I q (by simp))
  | int j=>obtain⟨t',rfl⟩:=ry;exact PySem.EqMixed.eq_str_int (aa I q (by simp))
  | str j=>obtain⟨t',rfl⟩:=ry;exact eq_str (aa I q vO)
  | _=>exact absurd (show false=true from hs) JT
 | byt i =>
  obtain⟨t,rfl⟩:=rx;cases y with
  | byt j=>obtain⟨t',rfl⟩:=ry;exact W.eq_bytes (aa I q vQ)
  | _=>exact absurd (show false=true from hs) JT
 | _=>cases y<;>exact absurd (show false=true from hs) JT
theorem HY:cv X (compareOp .NotEq) rNe:=by
 intro pins s σ H x y v u Q I rx ry h;obtain⟨hs,q⟩:=h;cases x with
 | non =>
  cases rx;cases y with
  | non=>cases ry;exact PySem.EqNone.ne_none_none (aa I q (by simp))
  | bl j=>cases ry;exact PySem.EqNone.ne_none_bool (aa I q (by simp))
  | int j=>obtain⟨t',rfl⟩:=ry;exact PySem.EqNone.ne_none_int (aa I q (by simp))
  | str j=>obtain⟨t',rfl⟩:=ry;exact PySem.EqNone.ne_none_str (aa I q (by simp))
  | _=>exact absurd (show false=true from hs) JT
 | bl i =>
  cases rx;cases y with
  | non=>cases ry;exact PySem.EqNone.ne_bool_none (aa I q (by simp))
  | bl j=>cases ry;exact ne_bool (aa I q (Jw not zW))
  | str j=>obtain⟨t',rfl⟩:=ry;exact PySem.EqMixed.ne_bool_str (aa I q (by simp))
  | _=>exact absurd (show false=true from hs) JT
 | int i =>
  obtain⟨t,rfl⟩:=rx;cases y with
  | non=>cases ry;exact PySem.EqNone.ne_int_none (aa I q (by simp))
  | int j=>obtain⟨t',rfl⟩:=ry;exact ne_int (aa I q (Jw not vP))
  | str j=>obtain⟨t',rfl⟩:=ry;exact PySem.EqMixed.ne_int_str (aa I q (by simp))
  | _=>exact absurd (show false=true from hs) JT
 | str i =>
  obtain⟨t,rfl⟩:=rx;cases y with
  | non=>cases ry;exact PySem.EqNone.ne_str_none (aa I q (by simp))
  | bl j=>cases ry;exact PySem.EqMixed.ne_str_bool (aa I q (by simp))
  | int j=>obtain⟨t',rfl⟩:=ry;exact PySem.EqMixed.ne_str_int (aa I q (by simp))
  | str j=>obtain⟨t',rfl⟩:=ry;exact ne_str (aa I q (Jw not vO))
  | _=>exact absurd (show false=true from hs) JT
 | byt i =>
  obtain⟨t,rfl⟩:=rx;cases y with
  | byt j=>obtain⟨t',rfl⟩:=ry;exact W.ne_bytes (aa I q (Jw not vQ))
  | _=>exact absurd (show false=true from hs) JT
 | _=>cases y<;>exact absurd (show false=true from hs) JT
theorem HZ:cv X (compareOp .Lt) (xr fun i j=>.bl (decide (i<j))):=BN fun _ _ _ _ _ _ _ q=>lt_int q
theorem Ha:cv X (compareOp .LtE) (xr fun i j=>.bl (decide (i<=j))):=BN fun _ _ _ _ _ _ _ q=>le_int q
theorem Hb:cv X (compareOp .Gt) (xr fun i j=>.bl (decide (j<i))):=BN fun _ _ _ _ _ _ _ q=>gt_int q
theorem Hc:cv X (compareOp .GtE) (xr fun i j=>.bl (decide (j<=i))):=BN fun _ _ _ _ _ _ _ q=>ge_int q
theorem yN:cv X (compareOp .Is) (fun x y H Q=>y=.non/\Q (.bl (decide (x=.non))) H):=by
 intro pins s σ H x y v u Q I rx ry h;obtain⟨rfl,q⟩:=h;cases ry;refine is_none_gen (aa I q ?_)
 cases x<;>first
  | (cases rx;rfl)
  | (obtain⟨t,rfl⟩:=rx;rfl)
theorem sd(b:Expr){op:CmpOp}(h:op≠.In:=by decide)(h2:op≠.NotIn:=by decide):behindInMarks op b=false:=by
 have e1:(op==CmpOp.In)=false:=by cases op<;>first|rfl|exact absurd rfl h
 have e2:(op==CmpOp.NotIn)=false:=by cases op<;>first|rfl|exact absurd rfl h2
 cases b<;>simp[behindInMarks,e1,e2]
theorem BF{op:CmpOp}{r:R2}(ho:cv X (compareOp op) r)(ha:PE X a ta)(hb:PE X b tb)(hm:behindInMarks op b=false):PE X (.Compare a [op] [b] pos) (tOp r ta tb):=by
 intro pins s σ H Q I h;exact wpAny_Compare1 (Fq ha hb I h fun v u s2 x y H2 I2 rx ry q=>ho pins s2 σ H2 x y v u Q I2 rx ry q) hm
noncomputable def Cv(t:TE):TT:=fun σ H Q=>t σ H fun x H' =>∃k,x=.bl k/\Q k H'
theorem gM{op:CmpOp}{r:R2}(ho:cv X (compareOp op) r)(ha:PE X a ta)(hb:PE X b tb)(hm:behindInMarks op b=false):PT X (.Compare a [op] [b] pos) (Cv (tOp r ta tb)):=by
 intro pins s σ H Q I h
 refine wpAny_isTrue_Compare1 (al (ha pins s σ H _ I h) fun v s1 ⟨x,H1,I1,r1,q1⟩=>al (hb pins s1 σ H1 _ I1 q1) fun u s2 ⟨y,H2,I2,r2,q2⟩ =>
  al (ho pins s2 σ H2 x y v u _ I2 r1 r2 q2) fun c s3 ⟨z,H3,I3,r3,k,e,q3⟩=> ?_) hm
 subst e;cases r3;exact Kj ⟨H3,I3,q3⟩
noncomputable def xU(r r' :R2)(ta tb tc:TE):TE:=fun σ H Q=>ta σ H fun x H1=>tb σ H1 fun y H2=>r x y H2 fun z H3=>∃k,z=.bl k /\
 (if k=true then tc σ H3 fun w' H4=>r' y w' H4 Q else Q (.bl false) H3)
theorem pd{op op' :CmpOp}{r r' :R2}(ho:cv X (compareOp op) r)(ho' :cv X (compareOp op') r')(ha:PE X a ta)(hb:PE X b tb)(hc:PE X c tc)
  (hm:lastMarks [op,op'] [b,c]=false:=by with_unfolding_all rfl):PE X (.Compare a [op,op'] [b,c] pos) (xU r r' ta tb tc):=by
 intro pins s σ H Q I h
 refine Compare_chain (al (ha pins s σ H _ I h) fun v s1 ⟨x,H1,I1,r1,q1⟩=>chain_link (al (hb pins s1 σ H1 _ I1 q1) fun u s2 ⟨y,H2,I2,r2,q2⟩ =>
  al (ho pins s2 σ H2 x y v u _ I2 r1 r2 q2) fun d s3 ⟨z,H3,I3,r3,k,e,q3⟩=> ?_)) hm
 subst e;cases r3;refine Kj ?_;cases k with
 | false=>exact ite_ff ⟨.bl false,H3,I3,rfl,q3⟩
 | true=>exact ite_tt (chain_last (al (hc pins s3 σ H3 _ I3 q3) fun w' s4 ⟨z',H4,I4,r4,q4⟩=>ho' pins s4 σ H4 y z' u w' Q I4 r2 r4 q4))
theorem pN{op op' :CmpOp}{r r' :R2}(ho:cv X (compareOp op) r)(ho' :cv X (compareOp op') r')(ha:PE X a ta)(hb:PE X b tb)(hc:PE X c tc)
  (hm:lastMarks [op,op'] [b,c]=false:=by with_unfolding_all rfl):PT X (.Compare a [op,op'] [b,c] pos) (Cv (xU r r' ta tb tc)):=by
 intro pins s σ H Q I h
 refine isTrue_chain (al (ha pins s σ H _ I h) fun v s1 ⟨x,H1,I1,r1,q1⟩=>test_link (al (hb pins s1 σ H1 _ I1 q1) fun u s2 ⟨y,H2,I2,r2,q2⟩ =>
  al (ho pins s2 σ H2 x y v u _ I2 r1 r2 q2) fun d s3 ⟨z,H3,I3,r3,k,e,q3⟩=> ?_)) hm
 subst e;cases r3;refine Kj ?_;cases k with
 | false =>
  obtain⟨k',e',q'⟩:=q3;cases e';exact ite_ff ⟨H3,I3,q'⟩
 | true =>
  refine ite_tt (test_last (al (hc pins s3 σ H3 _ I3 q3) fun w' s4 ⟨z',H4,I4,r4,q4⟩=>al (ho' pins s4 σ H4 y z' u w' _ I4 r2 r4 q4) fun d' s5 ⟨z2,H5,I5,r5,k2,e2,q5⟩=> ?_));subst e2;cases r5;exact Kj ⟨H5,I5,q5⟩
noncomputable def F6(K:W.Frag)(x:V)(H:Hp)(k:Bool):Prop :=
 match x with
 | .non=>k=false
 | .bl b=>k=b
 | .int i=>k=(i !=0)
 | .str y=>y.length<=sizeLine/\k=((y.length:Int) !=0)
 | .byt y=>y.size<=sizeLine/\k=((y.size:Int) !=0)
 | .ref p=>(∃xs,bG K H p xs/\k= !xs.isEmpty)\/(∃xs,bX K H p xs/\k= !xs.isEmpty)\/∃kvs,H p=some (.dK kvs)/\k= !kvs.isEmpty
 | _=>False
theorem sq{κ:Type}{kvs:List (κ×V)}{vs:List (κ×Value)}(r:KV kvs vs):(!vs.isEmpty)= !kvs.isEmpty:=by
 cases r<;>rfl
theorem kJ{xs:List V}{its:List Value}(r:aL xs its):(!its.toArray.isEmpty)= !xs.isEmpty:=by
 cases r<;>simp
theorem fi:(sizeLine:Nat)<2^63:=by rw[KC];decide
theorem DT:TruR X (fun x H Q=>∃k,F6 X.K x H k/\Q k H):=by
 intro pins s σ H x v Q I rx h;obtain⟨k,e,q⟩:=h;have hl:=fi;have hs:sizeLine=16777216:=KC;cases x with
 | non =>
  cases rx;have e' :k=false:=e;subst e';exact truthy_none ⟨H,I,q⟩
 | bl b =>
  cases rx;have e' :k=b:=e;subst e';exact Kj ⟨H,I,q⟩
 | int i =>
  obtain⟨t,rfl⟩:=rx;have e' :k=(i !=0):=e;subst e';exact PySem.P.truthy_int ⟨H,I,q⟩
 | str y =>
  obtain⟨t,rfl⟩:=rx;obtain⟨hy,e'⟩:y.length<=sizeLine/\k=((y.length:Int) !=0):=e;subst e';exact PySem.P.truthy_str (by omega) ⟨H,I.tok _,q⟩
 | byt y =>
  obtain⟨t,rfl⟩:=rx;obtain⟨hy,e'⟩:y.size<=sizeLine/\k=((y.size:Int) !=0):=e;subst e';exact W.truthy_bytes (by omega) ⟨H,I.tok _,q⟩
 | ref p =>
  cases rx;have e' :(∃xs,bG X.K H p xs/\k= !xs.isEmpty)\/(∃xs,bX X.K H p xs/\k= !xs.isEmpty)\/∃kvs,H p=some (.dK kvs)/\k= !kvs.isEmpty:=e
  rcases e' with⟨xs,hx,e'⟩|⟨xs,hx,e'⟩|⟨kvs,hx,e'⟩
  ·subst e'
   obtain⟨its,r,pl,hz⟩:=I.list hx;have hlen:=r.length;exact wpAny_truthy_list pl.isList (by simp only[Jb];omega) ⟨H,I.tok _,by rw[kJ r];exact q⟩
  ·subst e'
   obtain⟨its,r,pl,hz⟩:=I.tuple hx;have hlen:=r.length;exact truthy_tuple pl (by simp only[Jb];omega) ⟨H,I.tok _,by rw[kJ r];exact q⟩
  ·subst e'
   obtain⟨hz,hS,vs,r,m⟩:kvs.length<=sizeLine/\(p==sysModules)=false/\∃vs,KV kvs vs/\s.heap.DictOf (aU X.prog X.w) p vs:=I.hok p _ hx;have hlen:kvs.length=vs.length:=ME r;exact wpAny_truthy_dict hS m (by omega) ⟨H,I.tok _,by rw[sq r];exact q⟩
 | _=>exact(show False from e).elim
theorem xz(ha:PE X a ta)(he:∀whole,isTrue a X.env whole=(do let v<-whole;standAt a.pos;holding [v] (truthy v))) :
  PT X a (fun σ H Q=>ta σ H fun x H' =>∃k,F6 X.K x H' k/\Q k H'):=by
 intro pins s σ H Q I h;exact isTrue_plain (al (ha pins s σ H _ I h) fun v s1 ⟨x,H1,I1,r1,q1⟩=>DT pins s1 σ H1 x v Q I1 r1 q1) (he _)
theorem sV:cv X (binaryOp .Add) (fun x y H Q=>∃i j,x=.str i/\y=.str j/\i.length+j.length<=sizeLine/\Q (.str (i++j)) H):=by
 intro pins s σ H x y v u Q I rx ry h;obtain⟨i,j,rfl,rfl,hz,q⟩:=h;obtain⟨t,rfl⟩:=rx;obtain⟨t',rfl⟩:=ry;exact add_str (fun t' tk=>⟨.str (i++j),H,I.tok _,⟨_,rfl⟩,q⟩) hz
theorem vals1{x:V}{us:List Value}(r:aL [x] us):∃u,us=[u]/\RelV x u:=by
 cases r with
 | cons r1 r2=>cases r2;exact⟨_,rfl,r1⟩
theorem vals2{x y:V}{us:List Value}(r:aL [x,y] us):∃u w',us=[u,w']/\RelV x u/\RelV y w' :=by
 cases r with
 | cons r1 r2 =>
  cases r2 with
  | cons r3 r4=>cases r4;exact⟨_,_,rfl,r1,r3⟩
theorem wg(hc:X.calm=true):bF X (.builtin "max") (fun xs H Q=>∃i j,xs=[.int i,.int j]/\Q (.int (if j>i then j else i)) H):=by
 intro pins s σ H xs us Q I r h;obtain⟨i,j,rfl,q⟩:=h;obtain⟨u,w',rfl,⟨t,rfl⟩,⟨t',rfl⟩⟩:=vals2 r;refine max_two_ints (I.ok.hd hc) fun h' tk k=>⟨_,H,I.kept k,?_,q⟩
 by_cases hj:j>i
 ·rw[JS hj,JS hj];exact⟨_,rfl⟩
 ·rw[JR hj,JR hj];exact⟨_,rfl⟩
theorem wf(hc:X.calm=true):bF X (.builtin "min") (fun xs H Q=>∃i j,xs=[.int i,.int j]/\Q (.int (if j<i then j else i)) H):=by
 intro pins s σ H xs us Q I r h;obtain⟨i,j,rfl,q⟩:=h;obtain⟨u,w',rfl,⟨t,rfl⟩,⟨t',rfl⟩⟩:=vals2 r;refine min_two_ints (I.ok.hd hc) fun h' tk k=>⟨_,H,I.kept k,?_,q⟩
 by_cases hj:j<i
 ·rw[JS hj,JS hj];exact⟨_,rfl⟩
 ·rw[JR hj,JR hj];exact⟨_,rfl⟩
theorem mX:bF X (.type "int") (fun xs H Q=>(∃i,xs=[.int i]/\Q (.int i) H)\/∃k,xs=[.bl k]/\Q (.int (if k then 1 else 0)) H):=by
 intro pins s σ H xs us Q I r h
 rcases h with⟨i,rfl,q⟩|⟨k,rfl,q⟩
 ·obtain⟨u,rfl,t,rfl⟩:=vals1 r
  exact call_int_int ⟨.int i,H,I,⟨_,rfl⟩,q⟩
 ·obtain⟨u,rfl,r1⟩:=vals1 r
  cases r1;exact call_int_bool ⟨.int (if k then 1 else 0),H,I.tok _,⟨_,rfl⟩,q⟩
end
structure GC(h:Heap)(x dx C:Addr)(mA:Str->Option Value):Prop where
 obj:h.get? x=some (W.instObj C dx)
 ns:h.Ns1 dx mA
 ne:dx≠x
theorem wI{h:Heap}{dx:Addr}{mA:Str->Option Value}(n:h.Ns1 dx mA):∃od,h.get? dx=some od/\∀name,W.lookIn name od=some (mA name):=by
 obtain⟨o,es,ep,ho,hd,hk,_,hm⟩:=n;refine⟨o,ho,fun name=> ?_⟩;have e:=hm name;unfold nsFind findBy at e;rw[<- Array.find?_toList]at e;unfold W.lookIn;rw[hd];dsimp only
 split
 ·rename_i y q
  rw[q]at e;exact Jw some e
 ·rename_i q
  rw[q]at e;have a:es.toList.any (·.refKey)=false:=by
   rw[List.any_eq_false];intro y hy;obtain⟨z,t,hkey⟩:=hk y (Array.mem_toList_iff.mp hy);simp[DictEntry.refKey,hkey]
  have a' :¬es.toList.any (·.refKey)=true:=by rw[a];exact JT
  rw[JR a'];exact Jw some e
theorem GC.look{h:Heap}{x dx C:Addr}{mA:Str->Option Value}(I:GC h x dx C mA):∃od,W.InstAt h x (W.instObj C dx) C (some od)/\∀name,W.lookIn name od=some (mA name) :=
 let⟨od,ho,hl⟩:=wI I.ns
 ⟨od,⟨I.obj,rfl,rfl,ho⟩,hl⟩
section
variable{prog:Program}{w:World}{A:Around}{E:Value->Shared->Prop}{s:Shared}{K:W.Frag}{x dx C f:Addr}{mA:Str->Option Value}{name:Str}{v:Value}
end
theorem iP.some_of{v:V}{o:Option Value}(r:iP (some v) o):∃u,o=some u/\RelV v u:=by
 cases o with
 | none=>exact(show False from r).elim
 | some u=>exact⟨u,rfl,r⟩
section
variable{P:Program}{w:World}{H H' :Hp}{h h' :Heap}{a C dx:Addr}{fs fs' :List (Str×V)}
theorem Bp(hok:eh P w H h)(e:H a=some (.ins C dx fs)):∃mA,GC h a dx C mA/\(∀f,iP (fs.lookup f) (mA f))/\PySem.Within mA (fs.map (·.1))/\fs.length<=1000/\H dx=some (.own a):=by
 obtain⟨d,z,ne,ob,mA,n,r,q⟩:=(show aj P w H h a (.ins C dx fs)from hok a _ e);exact⟨mA,⟨ob,n,ne⟩,r,q,z,d⟩
end
structure Cls(K:W.Frag)(C:Addr):Prop where
 pg:W.plainGet K C Str.empty=true
 hd:W.hasDictIn K C=true
 po:W.plainOver K C=true
 sa:W.findIn K (.ref C) "__setattr__"=some (some (.builtin "object.__setattr__"))
theorem Cls.get{K:W.Frag}{C:Addr}(c:Cls K C)(f:Str):W.plainGet K C f=true:=c.pg
section
variable{X:Cx}{pins:List (Addr×Obj)}{σ:St}{H:Hp}{s:Shared}{a C dx:Addr}{fs:List (Str×V)}{f:Str}{v:V}{A:Around}{E:Value->Shared->Prop}
end
section
variable{X:Cx}{o e value:Expr}{f:Str}{pos pos' tpos:Pos}{ta tv:TE}
end
section
variable{X:Cx}{pins:List (Addr×Obj)}{σ:St}{H:Hp}{s:Shared}{A:Around}{E:Value->Shared->Prop}{Q:Value->Shared->Prop}{c:Value}{b:Bool}
inductive iO(K:W.Frag)(H:Hp):V->Value->Prop where
 | non:iO K H .non (.type "NoneType")
 | bl (x:Bool):iO K H (.bl x) (.type "bool")
 | int (i:Int):iO K H (.int i) (.type "int")
 | str (x:Str):iO K H (.str x) (.type "str")
 | flt (x:UInt64):iO K H (.flt x) (.type "float")
 | lst {a:Addr} {xs:List V} (e:H a=some (.lst xs)):iO K H (.ref a) (.type "list")
 | frz {a:Addr} {o:Obj} {xs:List V} (e:H a=some (.frz o (.lst xs))):iO K H (.ref a) (.type "list")
 | tup {a:Addr} {xs:List V} (e:H a=some (.tup xs)):iO K H (.ref a) (.type "tuple")
 | dK {a:Addr} {kvs:List (ae×V)} (e:H a=some (.dK kvs)):iO K H (.ref a) (.type "dict")
 | dT {a:Addr} {kvs:List (List ae×V)} (e:H a=some (.dT kvs)):iO K H (.ref a) (.type "dict")
 | ins {a C dx:Addr} {fs:List (Str×V)} (e:H a=some (.ins C dx fs)) (cl:Cls K C) (ha:W.findIn K (.ref C) "__class__"=some (some (.builtin "object.__class__")))
   (hn:W.specialIn K (.builtin "object.__class__") "__get__"=some (some (.builtin "getset_descriptor.__get__"))) (htk:W.takesIn K (.builtin "object.__class__")=some true)
   (hm:W.mroIn K C (.type "object")=some true):iO K H (.ref a) (.ref C)
theorem wR{x:V}{u t:Value}(I:Inv X pins σ H s)(rx:RelV x u)(ty:iO X.K H x t)(e:W.kitOne X.K t c=some b)(h:∀tk,Q (.bool b) {s with toks:=tk}) :
  wpAny (model X.prog X.w) A (call (.builtin "isinstance") [u,c]) Q E s:=by
 cases ty with
 | non=>cases(show u=Value.none from rx);exact LP W.kitx_none I.kIn True.intro e (fun z=>nomatch z) h
 | bl y=>cases(show u=Value.bool y from rx);exact LP W.kitx_bool I.kIn True.intro e (fun z=>nomatch z) h
 | int i=>obtain⟨t,q⟩:=(show∃t,u=Value.int i t from rx);cases q;exact LP W.kitx_int I.kIn True.intro e (fun z=>nomatch z) h
 | str y=>obtain⟨t,q⟩:=(show∃t,u=Value.str y t from rx);cases q;exact LP W.kitx_str I.kIn True.intro e (fun z=>nomatch z) h
 | flt y=>obtain⟨t,q⟩:=(show∃t,u=Value.float y t from rx);cases q;exact LP W.kitx_float I.kIn True.intro e (fun z=>nomatch z) h
 | @lst a xs ea =>
  cases(show u=Value.ref a from rx);obtain⟨_,_,n,_,h1⟩:=(show aj X.prog X.w H s.heap a (.lst xs)from I.hok a _ ea);exact LP W.kitx_list I.kIn ⟨_,h1,rfl⟩ e (fun z=>nomatch z) h
 | @frz a ob xs ea =>
  cases(show u=Value.ref a from rx);obtain⟨_,_,_,n,_,h1⟩:=(show aj X.prog X.w H s.heap a (.frz ob (.lst xs))from I.hok a _ ea);exact LP W.kitx_list I.kIn ⟨_,h1,rfl⟩ e (fun z=>nomatch z) h
 | @tup a xs ea =>
  cases(show u=Value.ref a from rx);obtain⟨_,_,_,p⟩:=(show aj X.prog X.w H s.heap a (.tup xs)from I.hok a _ ea);obtain⟨o,h1,h2,_⟩:=p;exact LP W.kitx_tuple I.kIn ⟨o,h1,h2⟩ e (fun z=>nomatch z) h
 | @dK a kvs ea =>
  cases(show u=Value.ref a from rx);obtain⟨_,_,vs,_,p⟩:=(show aj X.prog X.w H s.heap a (.dK kvs)from I.hok a _ ea);obtain⟨o,es,ep,h1,h2,_⟩:=p;exact LP W.kitx_dict I.kIn ⟨o,h1,h2.1⟩ e (fun z=>nomatch z) h
 | @dT a kvs ea =>
  cases(show u=Value.ref a from rx);obtain⟨_,_,xs,_,o,es,ep,h1,h2,_⟩:=(show aj X.prog X.w H s.heap a (.dT kvs)from I.hok a _ ea);exact LP W.kitx_dict I.kIn ⟨o,h1,h2.1⟩ e (fun z=>nomatch z) h
 | @ins a C dx fs ea cl ha hn htk hm =>
  cases(show u=Value.ref a from rx);obtain⟨mA,O,_⟩:=Bp I.hok ea;obtain⟨od,J,_⟩:=O.look;exact LP (W.kitx_own (cl.get _) cl.hd ha hn htk hm) I.kIn J e (fun z=>nomatch z) h
end
structure fJ(k:Nat)(A:Around):Prop where
 hd:A.handled=none
 dp:A.depth+3*k+5<recursionLimit
 un:A.units+16*k+200<cLine
theorem fJ.deeper{k:Nat}{A:Around}(r:fJ (k+1) A)(env:Env):fJ k (A.deeper env) :=
 ⟨r.hd,by have:=r.dp;show A.depth+1+3*k+5<_;omega,by have:=r.un;show A.units+3+16*k+200<_;omega⟩
theorem fJ.depth{k:Nat}{A:Around}(r:fJ k A):A.depth<recursionLimit:=by have:=r.dp;omega
theorem fJ.units{k:Nat}{A:Around}(r:fJ k A):A.units+64<cLine:=by have:=r.un;omega
noncomputable def tNil:TA:=fun _ H Q=>Q [] H
noncomputable def Gr(ta:TE)(tr:TA):TA:=fun σ H Q=>ta σ H fun x H1=>tr σ H1 fun xs H2=>Q (x::xs) H2
section
variable{X:Cx}{e:Expr}{es:List Expr}{te:TE}{t:TA}{pos:Pos}
theorem af:PA X [] tNil:=fun _ _ _ _ H Q I h=>Calls.spliced_nil ⟨[],H,I,.nil,h⟩
theorem aR(ha:PE X e te)(hr:PA X es t)(hs:starEach (e::es) X.env=(false,eval e X.env)::starEach es X.env:=by rfl):PA X (e::es) (Gr te t):=by
 intro pos pins s σ H Q I h;rw[hs];show wpAny _ _ (spliced ((false,eval e X.env)::backTo pos (starEach es X.env))) _ _ s;refine Calls.spliced_cons (al (ha pins s σ H _ I h) fun u s1 hpq=> ?_);obtain⟨x,H1,I1,r1,q1⟩:=hpq;exact al (hr pos pins s1 σ H1 _ I1 q1) fun us s2 ⟨xs,H2,I2,r2,q2⟩=>⟨x::xs,H2,I2,.cons r1 r2,q2⟩
noncomputable def tTup(t:TA):TE:=fun σ H Q=>t σ H fun xs H1=>xs.length<=sizeLine/\∀p,H1 p=none->Q (.ref p) (upd H1 p (.tup xs))
noncomputable def tLst(t:TA):TE:=fun σ H Q=>t σ H fun xs H1=>xs.length<=sizeLine/\∀p,H1 p=none->Q (.ref p) (upd H1 p (.lst xs))
theorem sQ{x1}(h:PA X es t):PE X (.Tuple es x1 pos) (tTup t):=by
 intro pins s σ H Q I hq;refine wpAny_Tuple_spliced (al (h pos pins s σ H _ I hq) fun us s1 ⟨xs,H1,I1,r,z,q⟩=>⟨by rw[<- r.length];exact z,?_⟩);have hf:H1 s1.heap.objs.size=none:=I1.hok.fresh (JV _);refine⟨.ref s1.heap.objs.size,upd H1 s1.heap.objs.size (.tup xs),I1.laid (t' :=s1.toks) (fun b u e=>JN _ e) (JV _) ?_,rfl,q _ hf⟩;exact⟨z,us,r,⟨_,Jd _ rfl,rfl,_,rfl,rfl⟩⟩
theorem sS(h:PA X es t):PE X (.List es pos) (tLst t):=by
 intro pins s σ H Q I hq;refine wpAny_List_spliced (al (h pos pins s σ H _ I hq) fun us s1 ⟨xs,H1,I1,r,z,q⟩=>⟨by rw[<- r.length];exact z,?_⟩);have hf:H1 s1.heap.objs.size=none:=I1.hok.fresh (JV _);refine⟨.ref s1.heap.objs.size,upd H1 s1.heap.objs.size (.lst xs),I1.laid (t' :=s1.toks) (fun b u e=>JN _ e) (JV _) ?_,rfl,q _ hf⟩;exact⟨z,us,0,r,Jd _ rfl⟩
end
noncomputable abbrev Sp:=List V->Hp->VK->XK->Prop
noncomputable abbrev xD:=List Env->Hp->Shared->XK->Value->Shared->Prop
structure Cq(P:Program)(w:World)(K:W.Frag)(mg:Str->Option Value)(base:Heap)(A:Around)(outer:List Env)(s:Shared)(H:Hp):Prop where
 frames:A.frames=some outer
 mod:Mod K mg base
 bs:∀b o,base.get? b=some o->s.heap.get? b=some o/\H b=none
 bsz:base.objs.size<=s.heap.objs.size
 funs:s.heap.FunFrames base outer
 frf:∀b∈sr outer,H b=none
 hok:eh P w H s.heap
 bare:AllBare s.gens
noncomputable def CE(outer:List Env)(P:Program)(w:World)(H:Hp)(s:Shared)(Q:VK)(u:Value)(s' :Shared):Prop :=
 ∃v H',s'.os=s.os/\AllBare s'.gens/\Un (sr outer) [] H H' s.heap s'.heap/\eh P w H' s'.heap/\RelV v u/\Q v H'
noncomputable def CR(CX:xD)(outer:List Env)(P:Program)(w:World)(H:Hp)(s:Shared)(Q:VK)(E:XK)(r:Result)(s' :Shared):Prop :=
 match r with
 | .ok (.ret u)=>CE outer P w H s Q u s'
 | .ok _=>False
 | .error e=>CX outer H s E e s'
structure cY(P:Program)(w:World)(K:W.Frag)(mg:Str->Option Value)(base:Heap)(CX:xD)(k:Nat)(f:Addr)(fd:FuncData)(ps:List Str)(sp:Sp):Prop where
 len:∀vs H Q E,sp vs H Q E->vs.length=ps.length
 run:∀(A:Around)(outer:List Env)(s:Shared)(H:Hp)(args:Args)(us:List Value)(vs:List V)(Q:VK)(E:XK),fJ k A->Cq P w K mg base A outer s H->BindsTo s fd args (ps.zip us)->aL vs us->sp vs H Q E ->
  codeAny (model P w) A (.call (.ref f) args) (CR CX outer P w H s Q E) s
theorem cY.imp{P:Program}{w:World}{K:W.Frag}{mg:Str->Option Value}{base:Heap}{CX:xD}{k:Nat}{f:Addr}{fd:FuncData}{ps:List Str}{sp sp' :Sp}(F:cY P w K mg base CX k f fd ps sp)
  (h:∀vs H Q E,sp' vs H Q E->sp vs H Q E):cY P w K mg base CX k f fd ps sp' :=
 ⟨fun vs H Q E q=>F.len vs H Q E (h _ _ _ _ q),fun A outer s H args us vs Q E hr he hb hv hs=>F.run A outer s H args us vs Q E hr he hb hv (h _ _ _ _ hs)⟩
section
variable{X:Cx}{pins:List (Addr×Obj)}{σ:St}{H:Hp}{s s' :Shared}
theorem Inv.env0(I:Inv X pins σ H s):Cq X.prog X.w X.K X.mg X.base X.A X.stack s H :=
 ⟨I.ok.frames,I.ok.mod,I.bs,J2 I.ok.bsz I.sz,I.stack,I.stkFree,I.hok,I.bare⟩
theorem Inv.after{Q:VK}{u:Value}(I:Inv X pins σ H s)(h:CE X.stack X.prog X.w H s Q u s'):EP X pins σ Q u s' :=by
 obtain⟨v,H',os,bare,un,hok,r,q⟩:=h;obtain⟨hh,g,d,t,os'⟩:=s';obtain rfl:os' =s.os:=os;exact⟨v,H',I.call (h' :=hh) (g' :=g) (d' :=d) (t' :=t) (ch:=[]) un hok bare (fun b z=>absurd z (by simp)),r,q⟩
end
noncomputable def Gs(sp:Sp)(dvs:List V)(E:XK)(t:TA):TE:=fun σ H Q=>t σ H fun vs H1=>sp (vs++dvs) H1 Q E
noncomputable def Binds(K:W.Frag)(fd:FuncData)(ps:List Str)(ds:List Value):Prop :=
 ∀(s:Shared)(us:List Value),K.In s.heap->(us++ds).length=ps.length->BindsTo s fd ⟨us,[]⟩ (ps.zip (us++ds))
theorem Binds.all{K:W.Frag}{fd:FuncData}{ps:List Str}(h:∀us:List Value,us.length=ps.length->bindArgs fd ⟨us,[]⟩=pure (ps.zip us)):Binds K fd ps []:=fun s us _ hl=>by
 rw[KL]at hl ⊢;exact .of_eq (h us hl)
noncomputable def tm(CX:xD)(X:Cx)(E:XK):Prop:=∀(pins:List (Addr×Obj))(σ:St)(H:Hp)(s:Shared)(e:Value)(s' :Shared),Inv X pins σ H s->CX X.stack H s E e s' ->X.xe e s'
section
variable{X:Cx}{CX:xD}{k:Nat}{f C:Addr}{fd:FuncData}{ps:List Str}{sp:Sp}{dvs:List V}{ds:List Value}{E:XK}{x m:Str}{p pos apos:Pos}{e o:Expr}{es:List Expr}{ta:TE}{t:TA}
theorem Dq{pins:List (Addr×Obj)}{σ:St}{H:Hp}{s:Shared}{Q:VK}{us:List Value}{vs:List V}(F:cY X.prog X.w X.K X.mg X.base CX k f fd ps sp)(hr:fJ k X.A)(hb:Binds X.K fd ps ds)(hd:aL dvs ds)(hx:tm CX X E)
  (I:Inv X pins σ H s) (r:aL vs us) (h:sp (vs++dvs) H Q E):wpAny (model X.prog X.w) X.A (call (.ref f) us) (EP X pins σ Q) X.xe s:=by
 have r2:aL (vs++dvs) (us++ds):=r.append hd;have hl:(us++ds).length=ps.length:=by rw[<- r2.length];exact F.len _ _ _ _ h
 refine wpAny_call (codeAny_mono (F.run X.A X.stack s H ⟨us,[]⟩ (us++ds) (vs++dvs) Q E hr I.env0 (hb s us I.kIn hl) r2 h) fun r s' hq=> ?_);cases r with
 | error e=>exact hx pins σ H s e s' I hq
 | ok fl =>
  cases fl with
  | ret u=>exact I.after hq
  | next=>exact False.elim hq
  | brk=>exact False.elim hq
  | cont=>exact False.elim hq
theorem BG(F:cY X.prog X.w X.K X.mg X.base CX k f fd ps sp)(hr:fJ k X.A)(hg:Gl X x)(hm:X.mg x=some (.ref f))(hk:W.keepIn X.K (.ref f)=true)(hb:Binds X.K fd ps ds)(hd:aL dvs ds)(hx:tm CX X E)
  (ha:PA X (e::es) t) (hdb:(x==("__debug__":Str))=false:=by decide) (he:starEach (e::es) X.env=(false,eval e X.env)::starEach es X.env:=by rfl) (hpl:(backTo pos (starEach es X.env)).any (·.1)=false:=by rfl) :
  PE X (.Call (.Name x p) (e::es) [] pos) (Gs sp dvs E t):=by
 intro pins s σ H Q I h;refine wpAny_Call_Name_kw (ut I hg hm ?_ hdb);refine W.callWith_K (h₀:=X.base) I.ok.mod.kin hk (al (ha pos pins s σ H _ I h) fun us s1 ⟨vs,H1,I1,r,q⟩=>⟨I1.kIn,?_⟩) he hpl;exact Dq F hr hb hd hx I1 r q
end
section
variable{X:Cx}{CX:xD}{k:Nat}{f C:Addr}{fd:FuncData}{ps ks:List Str}{sp:Sp}{E:XK}{x m:Str}{p pos apos kpos:Pos}{e o:Expr}{es:List Expr}{kws:List Keyword}{te ta:TE}{t tk:TA}{nm:Option Str}
variable{g:List Value->List Value->List Value}{gV:List V->List V->List V}
end
structure aS(N P:List Str)(sc:Scope):Prop where
 kind:sc.kind=.function
 co:sc.isCoroutine=false
 gen:sc.isGenerator=false
 nd:N.Nodup
 pre:N.take P.length=P
 par:∀x∈P,sc.names.lookup x=some .local\/sc.names.lookup x=some .cell
 nofree:∀y∈sc.names,y.2≠.free
theorem ma{kindOf:Str->Option NameKind}{x:Str}:∀{binds:List (Str×Value)}{m:Str->Option Value},(∀v,(x,v)∉binds)->bindL kindOf binds m x=m x
 | [],_,_=>rfl
 | (n,v)::r,m,h=>by
  unfold bindL;rw[ma fun w hw=>h w (JO _ hw)]
  split
  ·have:x≠n:=by rintro rfl;exact h v JP
   simp[this]
  ·rfl
theorem me{kindOf:Str->Option NameKind}{x:Str}:∀{binds:List (Str×Value)}{m:Str->Option Value},(∀v,(x,v)∉binds)->bindC kindOf binds m x=m x
 | [],_,_=>rfl
 | (n,v)::r,m,h=>by
  unfold bindC;rw[me fun w hw=>h w (JO _ hw)]
  split
  ·rfl
  ·have:x≠n:=by rintro rfl;exact h v JP
   simp[this]
theorem md{kindOf:Str->Option NameKind}{x:Str}{v:Value}:∀{P:List Str}{vs:List Value}{i:Nat}{m:Str->Option Value},P.Nodup->P[i]? =some x->vs[i]? =some v->kindOf x=some .local ->
  bindL kindOf (P.zip vs) m x=some v
 | [],_,_,_,_,h,_,_=>by simp at h
 | _::_,[],_,_,_,_,h,_=>by simp at h
 | p::P,w::vs,0,m,nd,h1,h2,hk=>by
  simp at h1 h2;subst h1;subst h2;show bindL kindOf ((p,w)::P.zip vs) m p=_;unfold bindL;rw[ma fun v hv=>(Jt.mp nd).1 (List.of_mem_zip hv).1,JS hk];simp
 | p::P,w::vs,i+1,m,nd,h1,h2,hk=>by
  show bindL kindOf ((p,w)::P.zip vs) m x=_;unfold bindL;exact md (i:=i) (Jt.mp nd).2 (by simpa using h1) (by simpa using h2) hk
theorem mf{kindOf:Str->Option NameKind}{x:Str}{v:Value}:∀{P:List Str}{vs:List Value}{i:Nat}{m:Str->Option Value},P.Nodup->P[i]? =some x->vs[i]? =some v->kindOf x≠some .local ->
  bindC kindOf (P.zip vs) m x=some v
 | [],_,_,_,_,h,_,_=>by simp at h
 | _::_,[],_,_,_,_,h,_=>by simp at h
 | p::P,w::vs,0,m,nd,h1,h2,hk=>by
  simp at h1 h2;subst h1;subst h2;show bindC kindOf ((p,w)::P.zip vs) m p=_;unfold bindC;rw[me fun v hv=>(Jt.mp nd).1 (List.of_mem_zip hv).1,JR hk];simp
 | p::P,w::vs,i+1,m,nd,h1,h2,hk=>by
  show bindC kindOf ((p,w)::P.zip vs) m x=_;unfold bindC;exact mf (i:=i) (Jt.mp nd).2 (by simpa using h1) (by simpa using h2) hk
noncomputable def start(N:List Str)(vs:List V):St:=vs.map some++List.replicate (N.length-vs.length) none
noncomputable def ql(CX:xD)(P:Program)(w:World)(K:W.Frag)(mg:Str->Option Value)(base:Heap)(N:List Str)(qual:Str)(scope:Scope)(f:Addr)(cd:Value)(A:Around)(outer:List Env)(s:Shared)(H:Hp)(E:XK):Cx where
 prog:=P
 w:=w
 K:=K
 mg:=mg
 base:=base
 A:=A.deeper (envOfC qual scope s.heap.objs.size f cd)
 N:=N
 s₀:=s
 H₀:=H
 env:=envOfC qual scope s.heap.objs.size f cd
 outer:=outer
 stack:=envOfC qual scope s.heap.objs.size f cd::outer
 ex:=[]
 calm:=true
 fn:=fun _=>true
 pn:=[]
 xe:=fun e s' =>wpAny (model P w) (A.deeper (envOfC qual scope s.heap.objs.size f cd)) (leaving (envOfC qual scope s.heap.objs.size f cd) e) (fun _ s'' =>CX outer H s E e s'') (fun e' s'' =>CX outer H s E e' s'') s'
theorem qu{sc:Scope}{n:Nat}{x:Str}(h:sc.names.lookup x=some .cell):∃c,(cellsFrom n sc.names []).lookup x=some c:=by
 have q:=W.cellsFrom_some sc.names n [] (.inl h);exact Option.isSome_iff_exists.mp q
theorem wS{CX:xD}{P:Program}{w:World}{K:W.Frag}{mg:Str->Option Value}{base:Heap}{N ps:List Str}{qual:Str}{scope:Scope}{f:Addr}{cd:Value}{A:Around}{outer:List Env}{s s1:Shared}{H:Hp}{E:XK}{us:List Value}{vs:List V}
  (S:aS N ps scope) (hd:A.handled=none) (e0:Cq P w K mg base A outer s H) (hl:vs.length=ps.length) (r:aL vs us)
  (x:InCallC s s.heap.objs.size (bindL (envOfC qual scope s.heap.objs.size f cd).kindOf (ps.zip us) fun _=>none) (cellsFrom (s.heap.objs.size+1) scope.names []) (bindC (envOfC qual scope s.heap.objs.size f cd).kindOf (ps.zip us) fun _=>none) s1) :
  Inv (ql CX P w K mg base N qual scope f cd A outer s H E) [] (start N vs) H s1:=by
 have hpl:ps.length<=N.length:=by have:=Jw List.length S.pre;rw[Lz]at this;omega
 obtain⟨h1,tk,rfl,hk⟩:=x.done;have noA:∀b:Addr,b∉(ql CX P w K mg base N qual scope f cd A outer s H E).ex:=fun b z=>absurd (show b∈([]:List Addr)from z) (by simp)
 refine⟨⟨e0.mod,S.kind,rfl,rfl,JV _,fun y z c h1 h2=> ?_,fun y hy=> ?_,fun y c _ h=> ?_,fun _=>hd,Around.frames_deeper e0.frames,.inr ⟨rfl,rfl⟩,fun b z=>absurd z (noA b),e0.bs,e0.bsz,fun b _ _=>noA b,fun b z=>absurd z (noA b),e0.funs,e0.frf⟩,
  rfl,e0.bare,Un.kept hk,⟨_,x.toInCall.ns,fun i y v h1 h2 h3=> ?_⟩,fun y c h=>⟨_,x.cell y c h⟩,e0.hok.fresh (JV _),fun y c h=> ?_,fun p hp=>absurd (show p∈([]:List (Addr×Obj))from hp) (by simp),e0.hok.kept hk,?_⟩
 ·exact name_of_addr x.apart (Jz h1) (Jz h2)
 ·have hy:scope.names.lookup y=some .cell\/scope.names.lookup y=some .free:=hy
  rcases hy with hy|hy
  ·exact qu hy
  ·exact absurd rfl (S.nofree _ (Jz hy))
 ·exact LM (x.above y c (Jz h))
 ·have hi:i<vs.length:=by
   unfold start at h2
   by_cases hi:i<vs.length
   ·exact hi
   ·rw[LY (by simpa using hi)]at h2
    rw[List.getElem?_replicate]at h2
    split at h2<;>cases h2
  have ha:vs[i]? =some v:=by
   unfold start at h2;rw[K5 (by simpa using hi),Jc]at h2;cases e:vs[i]? with
   | none=>rw[e]at h2;cases h2
   | some a=>rw[e]at h2;cases h2;rfl
  obtain⟨u,hu,rv⟩:=r.get ha;have hp:ps[i]? =some y:=by
   rw[<- S.pre,List.getElem?_take_of_lt (by omega)];exact h1
  have ndP:ps.Nodup:=by rw[<- S.pre];exact S.nd.sublist (List.take_sublist _ _)
  refine⟨u,rv,?_⟩
  rcases S.par y (Jn hp)with k|k
  ·exact .inl ⟨k,md ndP hp hu k⟩
  ·obtain⟨c,e⟩:=qu (n:=s.heap.objs.size+1) k
   refine .inr ⟨.inl k,c,e,?_⟩;have q:=x.cell y c e;rw[mf ndP hp hu (by show scope.names.lookup y≠_;rw[k];decide)]at q;exact q
 ·exact e0.hok.fresh (LM (x.above y c (Jz h)))
 ·unfold start
  show _=N.length;rw[Jj,JM,List.length_replicate];omega
theorem Hw{CX:xD}{P:Program}{w:World}{K:W.Frag}{mg:Str->Option Value}{base:Heap}{k:Nat}{f:Addr}{name qual:Str}{params:Arguments}{body:List Stmt}{scope:Scope}{dV kV doc pm cdv ct oc:Value}{an od:Option Addr}
  {osl:Array (Option Value)} {N ps:List Str} {sp:Sp} (lk:K.lookup f=some ⟨oc,od,.func (W.fnOf name qual params body scope dV kV doc pm an cdv ct),osl⟩) (hcd:W.codeIn K cdv qual=true) (S:aS N ps scope)
  (len:∀vs H Q E,sp vs H Q E->vs.length=ps.length)
  (hbody:∀(A:Around)(outer:List Env)(s:Shared)(H:Hp)(vs:List V)(Q:VK)(E:XK),fJ k (A.deeper (envOfC qual scope s.heap.objs.size f cdv))->sp vs H Q E ->
   ∃t,tq (ql CX P w K mg base N qual scope f cdv A outer s H E) body t/\t {nx:=fun _ H' =>Q .non H',rt:=Q} (start N vs) H) :
  cY P w K mg base CX (k+1) f (W.fnOf name qual params body scope dV kV doc pm an cdv ct) ps sp:=by
 refine⟨len,fun A outer s H args us vs Q E hr e0 hb r hsp=> ?_⟩;have hl:=len _ _ _ _ hsp;have KX:K.In s.heap:=e0.mod.kin.keeps fun b o e=>(e0.bs b o e).1;have lim:s.heap.NoLimit:=e0.mod.nolimit.keeps fun b o e=>(e0.bs b o e).1;have hkind:∀y∈ps.zip us,scope.names.lookup y.1=some .local\/(scope.names.lookup y.1=some .cell/\((cellsFrom (s.heap.objs.size+1) scope.names []).lookup y.1).isSome=true):=fun⟨n,v⟩ hy=>by
  rcases S.par n (List.of_mem_zip hy).1 with q|q
  ·exact .inl q
  ·exact .inr ⟨q,W.cellsFrom_some _ _ _ (.inl q)⟩
 refine codeAny_call_function hr.depth (KX _ _ lk) rfl S.co S.gen rfl (W.codeRec_of KX hcd) (hb _ _ _ _ ?_);refine wpAny_newFunctionEnv_cells S.kind hkind fun env he s1 x=> ?_;subst he;refine⟨lim.keeps x.toInCall.keep,codeAny_func ?_⟩;obtain⟨t,ht,hq⟩:=hbody A outer s H vs Q E (hr.deeper _) hsp;have I:Inv (ql CX P w K mg base N qual scope f cdv A outer s H E) [] (start N vs) H s1:=wS S hr.hd e0 hl r x;refine Ke (ht [] s1 (start N vs) H _ I hq) (fun fl s' hs=> ?_) fun e s' hs=>hs
 have fin:∀{σ' :St}{H' :Hp}{v:V}{u:Value},Inv (ql CX P w K mg base N qual scope f cdv A outer s H E) [] σ' H' s' ->RelV v u->Q v H' ->CE outer P w H s Q u s' :=
  fun{σ' H' v u} J rv q=>⟨v,H',J.os,J.bare,J.base,J.hok,rv,q⟩
 cases fl with
 | ret u =>
  obtain⟨v,σ',H',J,rv,q⟩:=hs;exact fin J rv q
 | next =>
  obtain⟨σ',H',J,q⟩:=hs;exact fin (v:=V.non) (u:=Value.none) J rfl q
 | brk =>
  obtain⟨_,_,_,q⟩:=hs;exact False.elim q
 | cont =>
  obtain⟨_,_,_,q⟩:=hs;exact False.elim q
section
variable{X:Cx}{x:Str}{p pos:Pos}{e:Expr}{es:List Expr}{t:TA}{id T:String}{r:List V->Hp->VK->Prop}
noncomputable def tCB(r:List V->Hp->VK->Prop)(t:TA):TE:=fun σ H Q=>t σ H fun vs H1=>r vs H1 Q
theorem bi(hc:bF X (.builtin id) r)(hg:Gl X x)(hm:X.mg x=none)(hv:bootBuiltins x=some (.builtin id))(ha:PA X (e::es) t)(hn:x≠"__name__":=by decide)(hdb:(x==("__debug__":Str))=false:=by decide)
  (he:starEach (e::es) X.env=(false,eval e X.env)::starEach es X.env:=by rfl) (hpl:(backTo pos (starEach es X.env)).any (·.1)=false:=by rfl):PE X (.Call (.Name x p) (e::es) [] pos) (tCB r t):=by
 intro pins s σ H Q I h;refine wpAny_Call_Name_kw (cT I hg hm hv ?_ hn hdb);exact PyProof.Rows.callWith_builtin1 (al (ha pos pins s σ H _ I h) fun us s1 ⟨vs,H1,I1,r1,q1⟩=>hc pins s1 σ H1 vs us Q I1 r1 q1) he hpl
theorem cK(hc:bF X (.type T) r)(hg:Gl X x)(hm:X.mg x=none)(hv:bootBuiltins x=some (.type T))(ha:PA X (e::es) t)(hn:x≠"__name__":=by decide)(hdb:(x==("__debug__":Str))=false:=by decide)
  (he:starEach (e::es) X.env=(false,eval e X.env)::starEach es X.env:=by rfl) (hpl:(backTo pos (starEach es X.env)).any (·.1)=false:=by rfl):PE X (.Call (.Name x p) (e::es) [] pos) (tCB r t):=by
 intro pins s σ H Q I h;refine wpAny_Call_Name_kw (cT I hg hm hv ?_ hn hdb);exact KD (al (ha pos pins s σ H _ I h) fun us s1 ⟨vs,H1,I1,r1,q1⟩=>hc pins s1 σ H1 vs us Q I1 r1 q1) he hpl
end
end L2
namespace HT
open PySem PyProof.Rows
noncomputable def lexLt:List Int->List Int->Bool
 | [],[]=>false
 | [],_::_=>true
 | _::_,[]=>false
 | x::xs,y::ys=>if x=y then lexLt xs ys else decide (x<y)
theorem sg(x y:Int)(xs ys:List Int):lexLt (x::xs) (y::ys)=if x=y then lexLt xs ys else decide (x<y):=rfl
theorem lL:lexLt [] []=false:=rfl
theorem kB(y:Int)(ys:List Int):lexLt [] (y::ys)=true:=rfl
theorem kC(x:Int)(xs:List Int):lexLt (x::xs) []=false:=rfl
theorem zQ(A:Around)(s:Shared)(a:Int)(t:Tok)(c:Int)(u:Tok):∃e,SeqAt.EqAt A s (.int a t) (.int c u) e/\(e=true↔a=c) :=
 ⟨(a==c),SeqAt.EqAt.int_int a t c u,by simp⟩
theorem xl(A:Around)(s:Shared)(a:Int)(t:Tok)(c:Int)(u:Tok)(prog:Program)(w:World)(E:Value->Shared->Prop)(Q:Value->Shared->Prop)(h:Q (.bool (decide (a<c))) s) :
  wpAny (model prog w) A (richCompare .Lt (.int a t) (.int c u)) Q E s :=
 (PyProof.Rows.lt_int h:wpAny (model prog w) A (compareOp .Lt (.int a t) (.int c u)) Q E s)
section
open PySem.SeqAt
open PySem.AutoSeq1 (wpAny_loadPart')
open PySem.MeetsSeq PySem.MeetsSeq2 PySem.MeetsSeq3
theorem lH(l b:Addr)(items items2:Array Value)(n n2:Nat)(dd dd2:Option Addr)(sl sl2:Array (Option Value))(ns ms:List Int)(hi:IntsAre items.toList ns)(hj:IntsAre items2.toList ms) :
  Meets (Builtin.«tuple.__lt__» ⟨[.ref l,.ref b],[]⟩)
   (fun _ R s=>s.heap.get? l=some {cls:=.type "tuple",dict:=dd,data:=.seq items n,slots:=sl}/\s.heap.get? b=some {cls:=.type "tuple",dict:=dd2,data:=.seq items2 n2,slots:=sl2} /\
    R (.ok (.ret (.bool (lexLt ns ms)))) s) :=
 .of_wp fun prog w A R s h=>by
  obtain⟨hp,g,d,tk,os⟩:=s;obtain⟨hl,hb,h⟩:=h;have f2:=AutoSeq1.sub_tuple_tuple;have z1:items.size=ns.length:=by rw[<- hi.length];simp
  have z2:items2.size=ms.length:=by rw[<- hj.length];simp
  wp_walk using Km hl,Km hb,wpAny_forIn_list _ (fun aN b s' =>b.1=none/\s' =⟨hp,g,d,tk,os⟩/\∃(vs ws:List Value)(ns' ms' :List Int),aN=vs.zip ws /\
   IntsAre vs ns' /\IntsAre ws ms' /\ns'.length+items2.size=ms'.length+items.size/\R (.ok (.ret (.bool (lexLt ns' ms')))) ⟨hp,g,d,tk,os⟩) _
  case turn =>
   rintro⟨y,x⟩ aN b s' ⟨hb',rfl,vs,ws,ns',ms',hz,hvi,hwi,hlen,hR⟩;cases hvi with
   | nil=>rw[List.zip_nil_left]at hz;cases hz
   | cons a t hvi' =>
    cases hwi with
    | nil=>rw[List.zip_nil_right]at hz;cases hz
    | cons c u hwi' =>
     rw[MG]at hz
     injection hz with hyx hrest
     injection hyx with hy hx
     subst hy hx;rw[sg]at hR;simp only[Jh]at hlen;obtain⟨e,he,hiff⟩:=zQ A.in1 ⟨hp,g,d,tk,os⟩ a t c u;refine JL (he prog w _ _ ?_);cases e with
     | true =>
      rw[JS (hiff.mp rfl)]at hR
      wp_walk
      exact⟨rfl,rfl,_,_,_,_,hrest,hvi',hwi',by omega,hR⟩
     | false =>
      rw[JR (fun q=>absurd (hiff.mpr q) JT)]at hR;have hri:=xl A.in1 ⟨hp,g,d,tk,os⟩ a t c u prog w
      wp_walk using hri
      exact⟨_,rfl,by simpa using hR⟩
  case fin =>
   rintro⟨b1,b2⟩ s' ⟨hb',rfl,vs,ws,ns',ms',hz,hvi,hwi,hlen,hR⟩;simp only at hb';subst hb';have hv:lexLt ns' ms' =decide (items.size<items2.size):=by
    cases hvi with
    | nil =>
     cases hwi with
     | nil =>
      simp only[K8]at hlen;rw[lL];exact(Jk (by omega)).symm
     | cons c u hw =>
      simp only[K8,Jh]at hlen;rw[kB];exact(Jo (by omega)).symm
    | cons a t hv =>
     cases hwi with
     | nil =>
      simp only[K8,Jh]at hlen;rw[kC];exact(Jk (by omega)).symm
     | cons c u hw =>
      rw[MG]at hz;cases hz
   rw[hv]at hR
   wp_walk
   exact⟨_,rfl,by simpa [Builtin.Tuple.tupleCompareSizes]using hR⟩
  case h =>
   exact⟨rfl,rfl,items.toList,items2.toList,ns,ms,rfl,hi,hj,by omega,h⟩
end
section
variable{prog:Program}{w:World}{A:Around}{E:Value->Shared->Prop}{s:Shared}
theorem sf{l b:Addr}{items items2:Array Value}{ns ms:List Int}{Q:Value->Shared->Prop}(hl:IsTup s.heap l items)(hb:IsTup s.heap b items2)(hi:IntsAre items.toList ns)(hj:IntsAre items2.toList ms)
  (hu:A.units<cLine) (h:Q (.bool (lexLt ns ms)) s):wpAny (model prog w) A (compareOp .Lt (.ref l) (.ref b)) Q E s:=by
 obtain⟨⟨cls,dd,data,sl⟩,ho,hc,n,hd⟩:=id hl;obtain⟨⟨cls2,dd2,data2,sl2⟩,ho2,hc2,n2,hd2⟩:=id hb;simp only at hc hd hc2 hd2;subst hc hd hc2 hd2
 exact richCompare_meets_room (op:=.Lt) ⟨_,ho,rfl⟩ ⟨_,ho2,rfl⟩ PySem.F.slot_tuple_lt PySem.F.entry_tuple_lt (PySem.F.args_tuple_lt_2 _ _) (lH l b items items2 n n2 dd dd2 sl sl2 ns ms hi hj)
  ⟨ho,ho2,show Value.bool (lexLt ns ms)≠Value.notImplemented/\Q (.bool (lexLt ns ms)) s from⟨(fun x=>nomatch x),h⟩⟩ hu
theorem CJ{t b:Addr}{vs ws:List Value}{Q:Value->Shared->Prop}(ht:IsTup s.heap t vs.toArray)(hb:IsTup s.heap b ws.toArray)(hv:vs≠[])
  (h1:ws=[]->Q (.ref t) s) (h2:ws≠[]->Q (.ref s.heap.objs.size) {s with heap:=s.heap.push {cls:=.type "tuple",data:=.seq (vs++ws).toArray}})
  (hsz:vs.length+ws.length<=sizeLine):wpAny (model prog w) A (binaryOp .Add (.ref t) (.ref b)) Q E s:=by
 obtain⟨⟨cls,dd,data,sl⟩,ho,hc,n,hd⟩:=id ht;obtain⟨⟨cls2,dd2,data2,sl2⟩,ho2,hc2,n2,hd2⟩:=id hb;simp only at hc hd hc2 hd2;subst hc hd hc2 hd2;have e:vs.toArray++ws.toArray=(vs++ws).toArray:=by simp
 by_cases hw:ws=[]
 ·exact concat_meets ⟨_,ho,rfl⟩ ⟨_,ho2,rfl⟩ noFill_tuple_add seq_tuple_add PySem.F.slot_tuple_add PySem.F.entry_tuple_add (ML _ _)
   (tuple_addW1 t b vs.toArray ws.toArray n n2 dd dd2 sl sl2 (by simpa using hv) (by simp[hw])) ⟨ho,ho2,h1 hw⟩
 ·refine concat_meets ⟨_,ho,rfl⟩ ⟨_,ho2,rfl⟩ noFill_tuple_add seq_tuple_add PySem.F.slot_tuple_add PySem.F.entry_tuple_add (ML _ _)
   (tuple_addW2 t b vs.toArray ws.toArray n n2 dd dd2 sl sl2 (by simpa using hv) (by simpa using hw) (by rw[Jb,Jb];exact hsz)) ⟨ho,ho2,?_⟩
  rw[e];exact h2 hw
noncomputable def Cz(n d:Nat):Option Int->Nat
 | none=>d
 | some v=>if v<0 then(v+(n:Int)).toNat else min v.toNat n
end
end HT
namespace L2
open PySem PySem.Spec PyProof.Rows
noncomputable abbrev TO:=St->Hp->(Option Int->Hp->Prop)->Prop
theorem intsAre_of{ns:List Int}:∀{us:List Value},aL (ns.map V.int) us->IntsAre us ns:=by
 induction ns with
 | nil=>intro us r;rw[Kw]at r;cases r;exact .nil
 | cons n ns ih =>
  intro us r;rw[JZ]at r;cases r with
  | cons r1 r2 =>
   obtain⟨t,e⟩:=r1;subst e;exact .cons n t (ih r2)
section
variable{X:Cx}{e:Expr}{te:TE}{lo hi:Option Expr}{tl th:TO}{pos p2:Pos}
noncomputable def IB(xs:List V)(lo hi:Option Int):List V:=(xs.drop (HT.Cz xs.length 0 lo)).take (HT.Cz xs.length xs.length hi-HT.Cz xs.length 0 lo)
noncomputable def Dw(K:W.Frag):R2:=fun x y H Q=>∃a b ns ms,x=.ref a/\y=.ref b/\bX K H a (ns.map V.int)/\bX K H b (ms.map V.int)/\Q (.bl (HT.lexLt ns ms)) H
theorem yM(hu:X.A.units<cLine):cv X (compareOp .Lt) (Dw X.K):=by
 intro pins s σ H x y v u Q I rx ry h;obtain⟨a,b,ns,ms,rfl,rfl,ha,hb,q⟩:=h;cases rx;cases ry;obtain⟨its,r1,p1,_⟩:=I.tuple ha;obtain⟨its2,r2,p2,_⟩:=I.tuple hb;have i1:IntsAre its.toArray.toList ns:=intsAre_of r1;have i2:IntsAre its2.toArray.toList ms:=intsAre_of r2;exact HT.sf p1 p2 i1 i2 hu ⟨.bl (HT.lexLt ns ms),H,I,rfl,q⟩
noncomputable def HK(K:W.Frag):R2:=fun x y H Q=>∃a b xs ys,x=.ref a/\y=.ref b/\bX K H a xs/\bX K H b ys/\xs≠[]/\xs.length+ys.length<=sizeLine /\
 (ys=[]->Q (.ref a) H)/\(ys≠[]->∀p,H p=none->Q (.ref p) (upd H p (.tup (xs++ys))))
theorem aL.nil_iff{xs:List V}{us:List Value}(r:aL xs us):us=[]↔xs=[]:=by
 cases r with
 | nil=>simp
 | cons _ _=>simp
theorem BK:cv X (binaryOp .Add) (HK X.K):=by
 intro pins s σ H x y v u Q I rx ry h;obtain⟨a,b,xs,ys,rfl,rfl,ha,hb,hx,hz,q1,q2⟩:=h;cases rx;cases ry;obtain⟨its,r1,p1,_⟩:=I.tuple ha;obtain⟨its2,r2,p2,_⟩:=I.tuple hb;refine HT.CJ p1 p2 (fun z=>hx (r1.nil_iff.mp z)) (fun z=>⟨.ref a,H,I,rfl,q1 (r2.nil_iff.mp z)⟩) (fun z=> ?_) (by rw[<- r1.length,<-r2.length];exact hz);refine⟨.ref s.heap.objs.size,_,I.laid (t' :=s.toks) (o:=.tup (xs++ys)) (fun b ob q=>JN _ q) (JV _) ?_,rfl,q2 (fun w=>z (r2.nil_iff.mpr w)) _ (I.hok.fresh (JV _))⟩;exact⟨by rw[Jj];exact hz,_,r1.append r2,fz.new _ _⟩
end
noncomputable def rN(n:Nat)(i:Int):Option Nat:=if 0<=i then(if i<n then some i.toNat else none)else if -(n:Int)<=i then some (i+n).toNat else none
noncomputable def cX{α:Type}(xs:List α)(i:Int):Option α:=(rN xs.length i).bind fun j=>xs[j]?
theorem uv{n:Nat}{i:Int}{j:Nat}(h:rN n i=some j):seqIndex? i n=some j/\j<n/\ -(n:Int)<=i/\i<n:=by
 unfold rN at h
 by_cases h0:0<=i
 ·rw[JS h0]at h
  by_cases h1:i<n
  ·rw[JS h1]at h
   have e:i.toNat=j:=Jl h;exact⟨by rw[seqIndex_of h0 h1,e],by omega,by omega,h1⟩
  ·rw[JR h1]at h;cases h
 ·rw[JR h0]at h
  by_cases h1: -(n:Int)<=i
  ·rw[JS h1]at h
   have e:(i+n).toNat=j:=Jl h;exact⟨by rw[seqIndex_neg (by omega) h1,e],by omega,h1,by omega⟩
  ·rw[JR h1]at h;cases h
theorem oC{α:Type}{xs:List α}{i:Int}{v:α}(h:cX xs i=some v):∃j,seqIndex? i xs.length=some j/\xs[j]? =some v/\j<xs.length/\ -(xs.length:Int)<=i/\i<xs.length:=by
 unfold cX at h;cases e:rN xs.length i with
 | none=>rw[e]at h;cases h
 | some j =>
  rw[e]at h;obtain⟨h1,h2,h3,h4⟩:=uv e;exact⟨j,h1,h,h2,h3,h4⟩
theorem bK{α:Type}{xs:List α}{j:Nat}{v:α}(h:xs[j]? =some v):cX xs (j:Int)=some v:=by
 have hj:j<xs.length:=(JY.mp h).1;have e:rN xs.length (j:Int)=some j:=by
  unfold rN;rw[JS (by omega),JS (by omega)];simp
 unfold cX;rw[e];exact h
theorem zy{α:Type}(xs:List α)(v:α):cX (xs++[v]) (-1)=some v:=by
 have hl:(xs++[v]).length=xs.length+1:=by simp
 have e:rN (xs++[v]).length (-1)=some xs.length:=by
  unfold rN;rw[hl,JR (by decide),JS (by omega)]
  congr 1
  omega
 unfold cX;rw[e];show(xs++[v])[xs.length]? =some v;simp
noncomputable def vU(b:Expr):Prop:=∀o i,subscripted b false o i=operate [o,i] (getItem o i)
noncomputable def JC(X:Cx)(r:R2):Prop :=
 ∀(value eI:Expr)(pins:List (Addr×Obj))(s:Shared)(σ:St)(H:Hp)(x y:V)(v u:Value)(Q:VK),Inv X pins σ H s->RelV x v->RelV y u->r x y H Q ->
  subscripted eI false v u=operate [v,u] (getItem v u)->wpAny (model X.prog X.w) X.A (subscriptTail value eI v u) (EP X pins σ Q) X.xe s
noncomputable def MtR(X:Cx)(id:String)(r:V->List V->Hp->VK->Prop):Prop :=
 ∀(pins:List (Addr×Obj))(s:Shared)(σ:St)(H:Hp)(x:V)(xs:List V)(v:Value)(us:List Value)(Q:VK),Inv X pins σ H s->RelV x v->aL xs us->r x xs H Q ->
  wpAny (model X.prog X.w) X.A (call (.builtin id) (v::us)) (EP X pins σ Q) X.xe s
section
variable{X:Cx}{a b:Expr}{ta tb:TE}{pos:Pos}
theorem pY{r:R2}(hr:JC X r)(ha:PE X a ta)(hb:PE X b tb)(hs:vU b):PE X (.Subscript a b pos) (tOp r ta tb):=by
 intro pins s σ H Q I h;exact Subscript_ (Fq ha hb I h fun v u s2 x y H2 I2 rx ry q=>hr a b pins s2 σ H2 x y v u Q I2 rx ry q (hs _ _))
noncomputable def rIxL(K:W.Frag):R2:=fun x y H Q=>∃p xs i v,x=.ref p/\y=.int i/\bG K H p xs/\cX xs i=some v/\Q v H
noncomputable def rIxT(K:W.Frag):R2:=fun x y H Q=>∃p xs i v,x=.ref p/\y=.int i/\bX K H p xs/\cX xs i=some v/\Q v H
noncomputable def rIxS:R2:=fun x y H Q=>∃z i c,x=.str z/\y=.int i/\z.length<=sizeLine/\cX z.cps.toList i=some c/\Q (.str ⟨#[c]⟩) H
theorem fD:JC X (rIxL X.K):=by
 intro value eI pins s σ H x y v u Q I rx ry h hs;obtain⟨p,xs,i,z,rfl,rfl,hq,he,q⟩:=h;cases rx;obtain⟨t,rfl⟩:=ry;obtain⟨its,r,pl,hz⟩:=I.list hq;obtain⟨j,h1,h2,h3,h4,h5⟩:=oC he;obtain⟨w,ew,rw'⟩:=r.get h2;have hl:=r.length;have hn:=fi;have fin:EP X pins σ Q w s:=⟨z,H,I,rw',q⟩
 by_cases h0:0<=i
 ·have hj:i.toNat=j:=by
   rw[seqIndex_of h0 h5]at h1;exact Jl h1
  exact item_listR pl.isList h0 (by omega) (by rw[hj];simpa using ew) fin hs
 ·have hj:(i+(its.toArray.size:Int)).toNat=j:=by
   rw[seqIndex_neg (by omega) h4]at h1;rw[Jb,<-hl];exact Jl h1
  exact subscriptTail_builtinR (x:=w) pl.isList.typeIs slot_list_getitem.lookup
   (wpAny_getItem_list_neg (Q:=fun r s' =>r=w/\EP X pins σ Q r s') pl.isList (by omega) (by rw[Jb]<;>omega) (by omega) (by rw[hj];simpa using ew) ⟨rfl,fin⟩) hs
theorem yu:JC X (rIxT X.K):=by
 intro value eI pins s σ H x y v u Q I rx ry h hs;obtain⟨p,xs,i,z,rfl,rfl,hq,he,q⟩:=h;cases rx;obtain⟨t,rfl⟩:=ry;obtain⟨its,r,pl,hz⟩:=I.tuple hq;obtain⟨j,h1,h2,h3,h4,h5⟩:=oC he;obtain⟨w,ew,rw'⟩:=r.get h2;have hl:=r.length;have hn:=fi;have fin:EP X pins σ Q w s:=⟨z,H,I,rw',q⟩
 exact subscriptTail_builtinR (x:=w) pl.typeIs slot_tuple_getitem.lookup
  (getItem_tuple (j:=j) (Q:=fun r s' =>r=w/\EP X pins σ Q r s') pl (by omega) (by omega) (by rw[Jb,<-hl];exact h1) (by simpa using ew) ⟨rfl,fin⟩) hs
theorem yv:JC X rIxS:=by
 intro value eI pins s σ H x y v u Q I rx ry h hs;obtain⟨z,i,c,rfl,rfl,hz,he,q⟩:=h;obtain⟨t,rfl⟩:=rx;obtain⟨t',rfl⟩:=ry;obtain⟨j,h1,h2,h3,h4,h5⟩:=oC he;have hl:z.cps.toList.length=z.length:=by simp[Str.length]
 rw[hl]at h1 h4 h5;have hn:=fi
 exact tail_any (typeIs_str s z t) slot_str_getitem.lookup (getItem_str (c:=c) (by
  have e1:decide (i< -(2^63:Int))=false:=Jk (by omega);have e2:decide (i ≥ 2^63)=false:=Jk (by omega);rw[e1,e2,Bool.or_false]) (by rw[h1];simpa using h2) ⟨.str ⟨#[c]⟩,H,I.tok _,⟨_,rfl⟩,q⟩) hs
theorem se(its:List Value)(n j:Nat)(u:Value):Obj.mapSeq (·.setIfInBounds j u) {cls:=.type "list",data:=.seq its.toArray n}={cls:=.type "list",data:=.seq (its.set j u).toArray n}:=by
 simp[Obj.mapSeq]
theorem Inv.lst{pins:List (Addr×Obj)}{σ:St}{H:Hp}{s:Shared}{p:Addr}{xs:List V}(I:Inv X pins σ H s)(h:H p=some (.lst xs)) :
  ∃(its:List Value)(n:Nat),aL xs its/\s.heap.get? p=some {cls:=.type "list",data:=.seq its.toArray n}/\xs.length<=sizeLine:=by
 obtain⟨z,its,n,r,e⟩:=I.hok p _ h;exact⟨its,n,r,e,z⟩
theorem Inv.lstUpd{pins:List (Addr×Obj)}{σ:St}{H:Hp}{s:Shared}{p:Addr}{xs ys:List V}{its its' :List Value}{n n' :Nat}{f:Obj->Obj}(I:Inv X pins σ H s)(h:H p=some (.lst xs))
  (ho:s.heap.get? p=some {cls:=.type "list",data:=.seq its.toArray n}) (hf:f {cls:=.type "list",data:=.seq its.toArray n}={cls:=.type "list",data:=.seq its'.toArray n'}) (r:aL ys its') (hz:ys.length<=sizeLine) (t:Nat) :
  Inv X pins σ (upd H p (.lst ys)) {s with heap:=s.heap.update p f,toks:=t}:=by
 have e:(s.heap.update p f).get? p=some {cls:=.type "list",data:=.seq its'.toArray n'}:=by
  rw[J6 f ho (by rw[hf]<;>rfl),hf]
 refine I.write (x:=p) (e:=p) (by rw[h];trivial) (.inl rfl) (fun b u hb q=>(Jx _ _ (Kc hb)).trans q) ⟨_,e⟩ ?_;exact⟨hz,its',n',r,e⟩
noncomputable def HI:V->V->V->Hp->(Hp->Prop)->Prop:=fun o i v H Q=>∃p xs k j,o=.ref p/\i=.int k/\H p=some (.lst xs)/\rN xs.length k=some j/\Q (upd H p (.lst (xs.set j v)))
theorem xc:Ik X HI:=by
 intro pins s σ H o i v ov iv u Q I ro ri rv h;obtain⟨p,xs,k,j,rfl,rfl,hp,hj,q⟩:=h;cases ro;obtain⟨t,rfl⟩:=ri;obtain⟨its,n,r,ho,hz⟩:=I.lst hp;obtain⟨h1,h2,h3,h4⟩:=uv hj;have hl:=r.length;have hn:=fi
 have I' :Inv X pins σ (upd H p (.lst (xs.set j v))) {s with heap:=s.heap.update p (Obj.mapSeq (·.setIfInBounds j u))} :=
  I.lstUpd hp ho (se its n j u) (r.set rv j) (by rw[Kg];exact hz) s.toks
 by_cases h0:0<=k
 ·have hk:k.toNat=j:=by
   rw[seqIndex_of h0 h4]at h1;exact Jl h1
  exact W.ki_setAt ho h0 (by omega) (by rw[Jb,<-hl];exact h4) (by rw[hk];exact⟨_,I',q⟩)
 ·have hk:(k+(its.toArray.size:Int)).toNat=j:=by
   rw[seqIndex_neg (by omega) h3]at h1;rw[Jb,<-hl];exact Jl h1
  exact W.ki_setBack ho (by omega) (by rw[Jb,<-hl];exact h3) (by omega) (by rw[hk];exact⟨_,I',q⟩)
noncomputable def fN:V->Bool
 | .non=>true
 | .bl _=>true
 | .int _=>true
 | .str _=>true
 | _=>false
noncomputable def xB:V->V->Bool
 | .non,.non=>true
 | .bl a,.bl b=>a==b
 | .bl a,.int b=>(if a then 1 else 0)==b
 | .int a,.bl b=>a==(if b then 1 else 0)
 | .int a,.int b=>a==b
 | .str a,.str b=>a==b
 | _,_=>false
theorem FU{A:Around}{s:Shared}{y x:V}{u v:Value}(ry:RelV y u)(rx:RelV x v)(fy:fN y=true)(fx:fN x=true):SeqAt.EqAt A s u v (xB y x):=by
 cases y with
 | non =>
  cases ry;cases x with
  | non=>cases rx;exact SeqAt.EqAt.same _
  | bl b=>cases rx;exact SeqAt.EqAt.none_bool b
  | int b=>obtain⟨t,rfl⟩:=rx;exact SeqAt.EqAt.none_int b t
  | str b=>obtain⟨t,rfl⟩:=rx;exact SeqAt.EqAt.none_str b t
  | _=>exact absurd (show false=true from fx) JT
 | bl a =>
  cases ry;cases x with
  | non=>cases rx;exact SeqAt.EqAt.bool_none a
  | bl b=>cases rx;exact SeqAt.EqAt.bool_bool a b
  | int b=>obtain⟨t,rfl⟩:=rx;exact SeqAt.EqAt.bool_int a b t
  | str b=>obtain⟨t,rfl⟩:=rx;exact SeqAt.EqAt.bool_str a b t
  | _=>exact absurd (show false=true from fx) JT
 | int a =>
  obtain⟨t',rfl⟩:=ry;cases x with
  | non=>cases rx;exact SeqAt.EqAt.int_none a t'
  | bl b=>cases rx;exact SeqAt.EqAt.int_bool a t' b
  | int b=>obtain⟨t,rfl⟩:=rx;exact SeqAt.EqAt.int_int a t' b t
  | str b=>obtain⟨t,rfl⟩:=rx;exact SeqAt.EqAt.int_str a t' b t
  | _=>exact absurd (show false=true from fx) JT
 | str a =>
  obtain⟨t',rfl⟩:=ry;cases x with
  | non=>cases rx;exact SeqAt.EqAt.str_none a t'
  | bl b=>cases rx;exact SeqAt.EqAt.str_bool a t' b
  | int b=>obtain⟨t,rfl⟩:=rx;exact SeqAt.EqAt.str_int a t' b t
  | str b=>obtain⟨t,rfl⟩:=rx;exact SeqAt.EqAt.str_str a t' b t
  | _=>exact absurd (show false=true from fx) JT
 | _=>exact absurd (show false=true from fy) JT
noncomputable def B1(x:V)(u:Value):Bool:=match u with
 | .none=>xB .non x
 | .bool b=>xB (.bl b) x
 | .int i _=>xB (.int i) x
 | .str z _=>xB (.str z) x
 | _=>false
theorem zP{x y:V}{u:Value}(r:RelV y u)(f:fN y=true):B1 x u=xB y x:=by
 cases y with
 | non=>cases r;rfl
 | bl b=>cases r;rfl
 | int i=>obtain⟨t,rfl⟩:=r;rfl
 | str z=>obtain⟨t,rfl⟩:=r;rfl
 | _=>exact absurd (show false=true from f) JT
theorem oD{x:V}:∀{xs:List V}{us:List Value},aL xs us->xs.all fN=true->us.any (B1 x)=xs.any fun y=>xB y x
 | _,_,.nil,_=>rfl
 | y::xs,u::us,.cons r t,f=>by
  rw[Lm,JU]at f;rw[L3,L3,zP r f.1,oD t f.2]
theorem j8{A:Around}{s:Shared}{x:V}{v:Value}(rx:RelV x v)(fx:fN x=true):∀{xs:List V}{us:List Value},aL xs us->xs.all fN=true->∀u∈us,SeqAt.EqAt A s u v (B1 x u)
 | _,_,.nil,_=>fun u hu=>by cases hu
 | y::xs,u::us,.cons r t,f=>fun u' hu=>by
  rw[Lm,JU]at f
  rcases Jg.mp hu with rfl|hu
  ·rw[zP r f.1];exact FU r rx f.1 fx
  ·exact j8 rx fx t f.2 u' hu
noncomputable def inV(x:V)(xs:List V):Bool:=xs.any fun y=>xB y x
noncomputable def rIn(K:W.Frag)(neg:Bool):R2:=fun x y H Q=>∃p xs,y=.ref p/\(bG K H p xs\/bX K H p xs)/\fN x=true/\xs.all fN=true/\Q (.bl (if neg then !inV x xs else inV x xs)) H
theorem nN:cv X (compareOp .NotIn) (rIn X.K true):=by
 intro pins s σ H x y v u Q I rx ry h;obtain⟨p,xs,rfl,hq,fx,fs,q⟩:=h;cases ry
 rcases hq with hq|hq
 ·obtain⟨its,r,pl,hz⟩:=I.list hq
  refine SeqAt.notIn_listAt (B1 x) pl.isList (fun w hw=>j8 rx fx r fs w (by simpa using hw)) ⟨.bl _,H,I,rfl,?_⟩;rw[show its.toArray.any (B1 x)=its.any (B1 x)by simp,oD r fs];exact q
 ·obtain⟨its,r,pl,hz⟩:=I.tuple hq
  refine SeqAt.notIn_tupleAt (B1 x) pl (fun w hw=>j8 rx fx r fs w (by simpa using hw)) ⟨.bl _,H,I,rfl,?_⟩;rw[show its.toArray.any (B1 x)=its.any (B1 x)by simp,oD r fs];exact q
theorem cF:bF X (.builtin "len") (fun xs H Q=>∃p ys,xs=[.ref p]/\(bG X.K H p ys\/bX X.K H p ys)/\Q (.int ys.length) H):=by
 intro pins s σ H xs us Q I r h;obtain⟨p,ys,rfl,hq,q⟩:=h;obtain⟨u,rfl,rx⟩:=vals1 r;cases rx;have hn:=fi
 rcases hq with hq|hq
 ·obtain⟨its,r',pl,hz⟩:=I.list hq
  have hlen:=r'.length;exact Calls.call_len_list pl.isList (by simp only[Jb]<;>omega) ⟨.int ys.length,H,I.tok _,⟨s.toks+1,by rw[Jb,hlen]⟩,q⟩
 ·obtain⟨its,r',pl,hz⟩:=I.tuple hq
  have hlen:=r'.length;exact len_tuple pl (by simp only[Jb]<;>omega) ⟨.int ys.length,H,I.tok _,⟨s.toks+1,by rw[Jb,hlen]⟩,q⟩
theorem gh:bF X (.builtin "len") (fun xs H Q=>∃z,xs=[.str z]/\z.length<=sizeLine/\Q (.int z.length) H):=by
 intro pins s σ H xs us Q I r h;obtain⟨z,rfl,hz,q⟩:=h;obtain⟨u,rfl,t,rfl⟩:=vals1 r;have hn:=fi;exact len_str (by omega) ⟨.int z.length,H,I.tok _,⟨_,rfl⟩,q⟩
theorem oA:bF X (.type "list") (fun xs H Q=>∃p ys,xs=[.ref p]/\(bG X.K H p ys\/bX X.K H p ys)/\∀l,H l=none->Q (.ref l) (upd H l (.lst ys))):=by
 intro pins s σ H xs us Q I r h;obtain⟨p,ys,rfl,hq,q⟩:=h;obtain⟨u,rfl,rx⟩:=vals1 r;cases rx
 have fin:∀(its:List Value),aL ys its->ys.length<=sizeLine->∀(h' :Heap)(c' :Nat),(∀b o',s.heap.get? b=some o' ->h'.get? b=some o') ->
   h'.get? s.heap.objs.size=some {cls:=.type "list",dict:=none,data:=.seq its.toArray c',slots:= #[]}->EP X pins σ Q (.ref s.heap.objs.size) {s with heap:=h'}:=fun its r' hz h' c' kp e =>
  ⟨.ref s.heap.objs.size,_,I.laid (t' :=s.toks) kp (JV _) (show aj X.prog X.w _ h' _ (.lst ys)from⟨hz,its,c',r',e⟩),rfl,q _ (I.hok.fresh (JV _))⟩
 rcases hq with hq|hq
 ·obtain⟨its,r',pl,hz⟩:=I.list hq
  have hlen:=r'.length;obtain⟨o,ho,hc,n,hd⟩:=pl.isList;exact call_list_seq p (.inl rfl) ho hc hd (fun h' c' kp e=>fin its r' hz h' c' kp e) (by simp only[Jb]<;>omega)
 ·obtain⟨its,r',pl,hz⟩:=I.tuple hq
  have hlen:=r'.length;obtain⟨o,ho,hc,n,hd⟩:=pl;exact call_list_seq p (.inr rfl) ho hc hd (fun h' c' kp e=>fin its r' hz h' c' kp e) (by simp only[Jb]<;>omega)
theorem fQ:bF X (.type "tuple") (fun xs H Q=>∃p ys,xs=[.ref p]/\((bG X.K H p ys/\∀l,H l=none->Q (.ref l) (upd H l (.tup ys)))\/(bX X.K H p ys/\Q (.ref p) H))):=by
 intro pins s σ H xs us Q I r h;obtain⟨p,ys,rfl,h⟩:=h;obtain⟨u,rfl,rx⟩:=vals1 r;cases rx
 rcases h with⟨hq,q⟩|⟨hq,q⟩
 ·obtain⟨its,r',pl,hz⟩:=I.list hq
  have hlen:=r'.length;refine call_tuple_list pl.isList (fun h' kp=> ?_) (by simp only[Jb]<;>omega);have I1:Inv X pins σ H {s with heap:=h'}:=I.kept (t' :=s.toks) kp
  have I2:Inv X pins σ (upd H h'.objs.size (.tup ys)) {s with heap:=h'.push {cls:=.type "tuple",data:=.seq its.toArray}} :=
   I1.laid (t' :=s.toks) (fun b o e=>JN _ e) (JV _) (show aj X.prog X.w _ _ _ (.tup ys)from⟨hz,its,r',fz.new _ _⟩)
  exact⟨.ref h'.objs.size,_,I2,rfl,q _ (I1.hok.fresh (JV _))⟩
 ·obtain⟨its,r',pl,hz⟩:=I.tuple hq
  exact call_tuple_same pl ⟨.ref p,H,I,rfl,q⟩
noncomputable def tyV(K:W.Frag)(T:String)(x:V)(H:Hp):Prop:=match x with
 | .str _=>T="str"
 | .int _=>T="int"
 | .ref p=>(T="list"/\∃xs,bG K H p xs)\/(T="tuple"/\∃xs,bX K H p xs) \/
   (T="dict"/\((∃kvs,H p=some (.dK kvs))\/∃kvs,H p=some (.dT kvs)))\/(T="set"/\∃S n,H p=some (.set S n))
 | _=>False
theorem xN{pins:List (Addr×Obj)}{σ:St}{H:Hp}{s:Shared}{T:String}{x:V}{v:Value}(I:Inv X pins σ H s)(r:RelV x v)(ty:tyV X.K T x H) :
  s.TypeIs v T/\∀a,v=.ref a->∃ob,s.heap.get? a=some ob/\ob.dict=none:=by
 cases x with
 | str z =>
  obtain⟨t,rfl⟩:=r;cases(show T="str" from ty);exact⟨typeIs_str s z t,fun _ e=>nomatch e⟩
 | int i =>
  obtain⟨t,rfl⟩:=r;cases(show T="int" from ty);exact⟨typeIs_int s i t,fun _ e=>nomatch e⟩
 | ref p =>
  cases r
  rcases ty with⟨rfl,xs,hq⟩|⟨rfl,xs,hq⟩|⟨rfl,hk⟩|⟨rfl,S,n,hk⟩
  ·obtain⟨its,_,pl,_⟩:=I.list hq
   refine⟨pl.isList.typeIs,fun a e=> ?_⟩;cases e;obtain⟨o,n,e,c,hd,_⟩:=pl;exact⟨o,e,hd⟩
  ·obtain⟨o,e1,e2,e3⟩:=I.tupleD hq
   refine⟨⟨o,e1,e2⟩,fun a e=> ?_⟩;cases e;exact⟨o,e1,e3⟩
  ·have z:∃o,s.heap.get? p=some o/\o.ExactDict:=by
    rcases hk with⟨kvs,hk⟩|⟨kvs,hk⟩
    ·obtain⟨_,_,_,_,o,_,_,e,ex,_⟩:=I.hok p _ hk
     exact⟨o,e,ex⟩
    ·obtain⟨_,_,_,_,o,_,_,e,ex,_⟩:=I.hok p _ hk
     exact⟨o,e,ex⟩
   obtain⟨o,e,ex⟩:=z;refine⟨⟨o,e,ex.1⟩,fun a e2=> ?_⟩;cases e2;exact⟨o,e,ex.2.1⟩
  ·obtain⟨o,_,_,_,e,ex,_⟩:=I.hok p _ hk
   refine⟨⟨o,e,ex.1⟩,fun a e2=> ?_⟩;cases e2;exact⟨o,e,ex.2.1⟩
 | _=>exact False.elim ty
noncomputable def tBM0(K:W.Frag)(T:String)(r:V->List V->Hp->VK->Prop)(to:TE):TE:=fun σ H Q=>to σ H fun x H1=>tyV K T x H1/\r x [] H1 Q
noncomputable def tBM(K:W.Frag)(T:String)(r:V->List V->Hp->VK->Prop)(to:TE)(t:TA):TE:=fun σ H Q=>to σ H fun x H1=>tyV K T x H1/\t σ H1 fun xs H2=>r x xs H2 Q
variable{o e:Expr}{es:List Expr}{to:TE}{t:TA}{name:Str}{apos cpos:Pos}{T id:String}{r:V->List V->Hp->VK->Prop}
theorem EI(pa:PlainAttrs T)(slot:Slot T name id)(hty:typeOf (.builtin id)=pure (.type "method_descriptor"))(hm:MtR X id r)(ho:PE X o to)
  (hbase:attributeBase o name X.env (eval o X.env)=eval o X.env:=by rfl) (hline:(apos.endLine==cpos.line)=true:=by rfl):PE X (.Call (.Attribute o name apos) [] [] cpos) (tBM0 X.K T r to):=by
 intro pins s σ H Q I h;refine wpAny_Call_method0_late hbase hline (al (ho pins s σ H _ I h) fun v s1 hpq=> ?_);obtain⟨x,H1,I1,r1,ty,q1⟩:=hpq;obtain⟨h1,h2⟩:=xN I1 r1 ty;exact⟨T,id,pa,slot,hty,h1,h2,L8 rfl (PySem.evalArgs_none (hm pins s1 σ H1 x [] v [] Q I1 r1 .nil q1))⟩
theorem HS(pa:PlainAttrs T)(slot:Slot T name id)(hty:typeOf (.builtin id)=pure (.type "method_descriptor"))(hm:MtR X id r)(ho:PE X o to)(ha:PA X (e::es) t)
  (hbase:attributeBase o name X.env (eval o X.env)=eval o X.env:=by rfl)
  (hfew:((backTo cpos (starEach (e::es) X.env)).all (fun x=> !x.1)&&(backToKw cpos (keywordEach [] X.env)).all (fun x=>x.1.isSome)
   && decide ((e::es).length+([]:List Keyword).length+(if([]:List Keyword).isEmpty then 0 else 1)<30))=true:=by rfl)
  (hline:(apos.endLine==cpos.line)=true:=by rfl) (hs:starEach (e::es) X.env=(false,eval e X.env)::starEach es X.env:=by rfl) (hplain:(backTo cpos (starEach es X.env)).any (·.1)=false:=by rfl) :
  PE X (.Call (.Attribute o name apos) (e::es) [] cpos) (tBM X.K T r to t):=by
 intro pins s σ H Q I h;refine wpAny_Call_method_late hbase hfew hline rfl (al (ho pins s σ H _ I h) fun v s1 hpq=> ?_);obtain⟨x,H1,I1,r1,ty,q1⟩:=hpq;obtain⟨h1,h2⟩:=xN I1 r1 ty;refine⟨T,id,pa,slot,hty,h1,h2,?_⟩;have hA:=ha cpos pins s1 σ H1 _ I1 q1;rw[hs]at hA ⊢;refine L8 (by show(false||(backTo cpos (starEach es X.env)).any (·.1))=false;rw[hplain]<;>rfl) (Calls.evalArgs_plain ?_);exact al hA fun us s2 ⟨vs,H2,I2,r2,q2⟩=>hm pins s2 σ H2 x vs v us Q I2 r1 r2 q2
end
noncomputable def MtM(X:Cx)(id:String)(r:V->List V->Hp->VK->Prop):Prop :=
 ∀(pins:List (Addr×Obj))(s:Shared)(σ:St)(H:Hp)(x:V)(xs:List V)(v:Value)(us:List Value)(Q:VK),Inv X pins σ H s->RelV x v->aL xs us->r x xs H Q ->
  wpAny (model X.prog X.w) X.A (call (.builtin id) (v::us)) (EP X pins σ Q) X.xe s
theorem aL.one{x:V}{us:List Value}(h:aL [x] us):∃u,us=[u]/\RelV x u:=vals1 h
theorem aL.two{x y:V}{us:List Value}(h:aL [x,y] us):∃u v,us=[u,v]/\RelV x u/\RelV y v:=vals2 h
theorem aL.zero:∀{us:List Value},aL [] us->us=[]
 | _,.nil=>rfl
theorem aL.dropLast{xs:List V}{us:List Value}(h:aL xs us):aL xs.dropLast us.dropLast:=by
 induction h with
 | nil=>exact .nil
 | cons r t ih =>
  cases t with
  | nil=>exact .nil
  | cons q t' =>exact .cons r ih
theorem aL.reverse{xs:List V}{us:List Value}(h:aL xs us):aL xs.reverse us.reverse:=by
 induction h with
 | nil=>exact .nil
 | cons r t ih=>rw[List.reverse_cons,List.reverse_cons];exact aL.append ih (.cons r .nil)
theorem aL.rep{xs:List V}{us:List Value}(h:aL xs us):∀k:Nat,aL (List.replicate k xs).flatten (List.replicate k us).flatten
 | 0=>.nil
 | k+1=>by
  rw[Kv,Kv,LU,LU];exact aL.append h (aL.rep h k)
theorem sv{α:Type}(l:List α):l.eraseIdx (l.length-1)=l.dropLast:=by
 induction l with
 | nil=>rfl
 | cons a r ih =>
  cases r with
  | nil=>rfl
  | cons b r =>
   have e:(a::b::r).length-1=((b::r).length-1)+1:=by
    have h1:(a::b::r).length=r.length+2:=rfl;have h2:(b::r).length=r.length+1:=rfl;omega
   rw[e,List.eraseIdx_cons_succ,ih]
   all_goals rfl
theorem foldl_rep(its:List Value):∀(k:Nat)(acc:List Value),
  List.foldl (fun x1 x2=>x1++x2) acc.toArray (List.replicate k its.toArray)=(acc++(List.replicate k its).flatten).toArray
 | 0,acc=>by simp
 | k+1,acc=>by
  have e:acc.toArray++its.toArray=(acc++its).toArray:=by simp
  have e2:(acc++its)++(List.replicate k its).flatten=acc++(List.replicate (k+1) its).flatten:=by
   rw[Kv,LU,KW]
  rw[<- e2,<-foldl_rep its k (acc++its),<-e,Kv,Kr]
section
variable{X:Cx}{pins:List (Addr×Obj)}{σ:St}{H:Hp}{s:Shared}{l b:Addr}{xs ys zs:List V}
theorem Inv.lset{its its' :List Value}{n:Nat}{f:Array Value->Array Value}{t' :Nat}(I:Inv X pins σ H s)(hH:H l=some (.lst xs))
  (e:s.heap.get? l=some {cls:=.type "list",data:=.seq its.toArray n}) (hf:f its.toArray=its'.toArray) (hv:aL ys its') (hz:ys.length<=sizeLine) :
  Inv X pins σ (upd H l (.lst ys)) {s with heap:=s.heap.update l (Obj.mapSeq f),toks:=t'}:=by
 have q:=PySem.IsL.update e f;rw[hf]at q;refine I.write (x:=l) (e:=l) (by rw[hH];exact trivial) (.inl rfl) (fun b' u hb hu=>(Jx s.heap (Obj.mapSeq f) (Kc hb)).trans hu) ⟨_,q⟩ ?_;exact⟨hz,its',_,hv,q⟩
theorem Inv.lnew{its:List Value}{t' :Nat}(I:Inv X pins σ H s)(hv:aL ys its)(hz:ys.length<=sizeLine) :
  Inv X pins σ (upd H s.heap.objs.size (.lst ys)) {s with heap:=s.heap.push {cls:=.type "list",data:=.seq its.toArray},toks:=t'} :=
 I.laid (fun _ _ q=>JN _ q) (JV _) ⟨hz,its,0,hv,Jd _ rfl⟩
theorem Inv.fresh(I:Inv X pins σ H s):H s.heap.objs.size=none:=I.hok.fresh (JV _)
theorem Inv.lstM(I:Inv X pins σ H s)(hH:H l=some (.lst xs)):xs.length<=sizeLine/\∃(its:List Value)(n:Nat),aL xs its/\xs.length=its.length/\s.heap.get? l=some {cls:=.type "list",data:=.seq its.toArray n}:=by
 obtain⟨z,its,n,r,e⟩:=I.hok l _ hH;exact⟨z,its,n,r,r.length,e⟩
theorem yV{n:Nat}(h:n<=sizeLine):Builtin.List.listTooLong n=false:=by
 unfold Builtin.List.listTooLong;exact Jk (by omega)
end
section
variable{X:Cx}
noncomputable def A5:V->List V->Hp->VK->Prop:=fun x vs H Q=>∃l xs y,x=.ref l/\vs=[y]/\H l=some (.lst xs)/\xs.length<sizeLine/\Q .non (upd H l (.lst (xs++[y])))
theorem mG:MtM X "list.append" A5:=by
 intro pins s σ H x vs v us Q I rx rv h;obtain⟨l,xs,y,rfl,rfl,hH,hz,q⟩:=h;cases rx;obtain⟨u,rfl,ru⟩:=rv.one;obtain⟨z,its,n,r,hl,e⟩:=I.lstM hH;refine call_meets F.slot_list_append ⟨_,e,rfl⟩ F.entry_list_append (F.args_list_append_2 _ _) (PySem.list_append l its.toArray n u (by rw[Jb];omega)) ⟨e,?_⟩;refine⟨.non,_,I.lset (its' :=its++[u]) hH e (by simp) (r.append (.cons ru .nil)) ?_,rfl,q⟩;rw[Jj,List.length_singleton];omega
noncomputable def rPop:V->List V->Hp->VK->Prop:=fun x vs H Q=>∃l xs y,x=.ref l/\vs=[]/\H l=some (.lst xs)/\xs[xs.length-1]? =some y/\Q y (upd H l (.lst xs.dropLast))
theorem Ed:MtM X "list.pop" rPop:=by
 intro pins s σ H x vs v us Q I rx rv h;obtain⟨l,xs,y,rfl,rfl,hH,hy,q⟩:=h;cases rx;have hus:=rv.zero;subst hus;obtain⟨z,its,n,r,hl,e⟩:=I.lstM hH;obtain⟨u,hu,ru⟩:=r.get hy;have hy' :its.toArray[its.toArray.size-1]? =some u:=by
  show its.toArray[its.length-1]? =some u;rw[<- KY,<-hl];exact hu
 refine call_meets F.slot_list_pop ⟨_,e,rfl⟩ F.entry_list_pop (F.args_list_pop_1 _) (MeetsSeq.list_pop_last l its.toArray n u hy' (by rw[Jb];omega)) ⟨e,?_⟩;refine⟨y,_,I.lset (its' :=its.dropLast) hH e ?_ r.dropLast ?_,ru,q⟩
 ·show its.toArray.eraseIdxIfInBounds (its.toArray.size-1)=its.dropLast.toArray
  rw[Jb,List.eraseIdxIfInBounds_toArray,sv]
 ·rw[List.length_dropLast]
  omega
noncomputable def rCat:R2:=fun x y H Q=>∃l b xs zs,x=.ref l/\y=.ref b/\H l=some (.lst xs)/\H b=some (.lst zs)/\xs.length+zs.length<=sizeLine/\∀p,H p=none->Q (.ref p) (upd H p (.lst (xs++zs)))
theorem ES:cv X (binaryOp .Add) rCat:=by
 intro pins s σ H x y v u Q I rx ry h;obtain⟨l,b,xs,zs,rfl,rfl,hH,hB,hz,q⟩:=h;cases rx;cases ry;obtain⟨z,its,n,r,hl,e⟩:=I.lstM hH;obtain⟨z2,its2,n2,r2,hl2,e2⟩:=I.lstM hB;refine PySem.P.add_list e e2 ?_ (by rw[Jb,Jb];omega);have ea:its.toArray++its2.toArray=(its++its2).toArray:=by simp
 rw[ea];exact⟨.ref _,_,I.lnew (t' :=s.toks) (r.append r2) (by rw[Jj];omega),rfl,q _ I.fresh⟩
noncomputable def rRep:R2:=fun x y H Q=>∃l k xs,x=.ref l/\y=.int k/\H l=some (.lst xs)/\ -(2^63)<=k/\k<2^63/\xs.length*k.toNat<=sizeLine /\
 ∀p,H p=none->Q (.ref p) (upd H p (.lst (List.replicate k.toNat xs).flatten))
theorem Bh{α:Type}(xs:List α)(k:Nat):(List.replicate k xs).flatten.length=k*xs.length:=by
 induction k with
 | zero=>simp
 | succ k ih=>rw[Kv,LU,Jj,ih,Nat.succ_mul,Nat.add_comm]
theorem EM:cv X (binaryOp .Mult) rRep:=by
 intro pins s σ H x y v u Q I rx ry h;obtain⟨l,k,xs,rfl,rfl,hH,h1,h2,hz,q⟩:=h;cases rx;obtain⟨t,rfl⟩:=ry;obtain⟨z,its,n,r,hl,e⟩:=I.lstM hH;have hlen:its.toArray.size*k.toNat<=sizeLine:=by rw[Jb,<-hl];exact hz
 have hcap:¬its.toArray.size*k.toNat>(2^63-1)/8:=by
  have:(sizeLine:Nat)<=(2^63-1)/8:=by decide
  omega
 have hfit:¬(!Builtin.List.listFitsIndex k)=true:=by
  rw[fitsIndex_both h1 h2];exact JT
 have hlong:¬Builtin.List.listTooLong (its.toArray.size*k.toNat)=true:=by
  rw[yV hlen];exact JT
 have hnew:List.foldl (fun x1 x2=>x1++x2) #[] (List.replicate (if its.toArray.isEmpty=true then 0 else k.toNat) its.toArray)=(List.replicate k.toNat its).flatten.toArray:=by
  have f0:∀m:Nat,List.foldl (fun x1 x2=>x1++x2) #[] (List.replicate m its.toArray)=(List.replicate m its).flatten.toArray:=fun m=>by
   have:=foldl_rep its m [];rw[List.nil_append]at this;exact this
  rw[f0];cases its with
  | nil=>simp
  | cons a r' =>rw[JR (by simp)]
 refine wpAny_binaryOp_repeat_ref (T:="list") (U:="int") (by decide) ⟨_,e,rfl⟩ (fun s' =>typeIs_int s' k t) noFill_list_mul F.fills_int_mul F.slot_int_rmul repeat_list F.slot_int_index.lookup
  (call_meets F.slot_int_rmul (typeIs_int s k t) F.entry_int_rmul (F.args_int_rmul_2 _ _) (int___rmul___int_list k t l its.toArray n)
   ⟨e,rfl,⟨_,e,rfl⟩,call_meets F.slot_list_mul ⟨_,e,rfl⟩ F.entry_list_mul (F.args_list_mul_2 _ _) (AutoListH.list___mul___list_int_3 l its.toArray n k t hfit hcap hlong) ⟨e,?_⟩⟩)
 rw[hnew];exact⟨.ref _,_,I.lnew (t' :=s.toks) (r.rep k.toNat) (by rw[Bh,Nat.mul_comm];exact hz),rfl,q _ I.fresh⟩
end
section
variable{prog:Program}{w:World}{A:Around}{E:Value->Shared->Prop}{s:Shared}
end
section
variable{X:Cx}
end
end L2
namespace Att
open PySem PySem.W PySem.Calls PyProof.Rows
theorem jJ{P:Params}{h:Heap}:∀(ns:List Int)(vs:List Value),WellAll P h vs (ns.map WData.int)->IntsAre vs ns:=by
 intro ns
 induction ns with
 | nil =>
  intro vs w;rw[Kw]at w;cases w;exact .nil
 | cons n ns ih =>
  intro vs w;rw[JZ]at w;cases w with
  | cons a b =>
   cases a;exact .cons _ _ (ih _ b)
theorem vw{l:OpenLaw}{n:Nat}(hn:l.most=some n){P:Params}{h:Heap}{args:List WData}{vals:List Value}
  (hpre:l.row.toRowW.claim.pre args=true) (hwl:WellAll P h vals args) :
  ∃a vs ns,vals=[Value.ref a]/\args=[WData.list (ns.map WData.int)]/\h.get? a=some {cls:=.type "list",data:=.seq vs.toArray}/\IntsAre vs ns/\ns.length<=n:=by
 have hsh:WShape.hasAll [] args [.list .int]=true:=(pre_splitW hpre).1;have hc:l.pre.holds [] {args:=args}=true:=(pre_splitW hpre).2;obtain⟨d,r,rfl,h1,h2⟩:=hasAllW_cons hsh;obtain rfl:=hasAllW_nil h2;obtain⟨xs,rfl,h3⟩:=hasW_list h1;obtain⟨ns,rfl⟩:=items_int h3;have hlen:ns.length<=n:=by
  unfold OpenLaw.pre at hc;have h4:(WTm.not (.lt (.lit (.int (n:Int))) (.len (.arg 0)))).holds [] {args:=[.list (ns.map .int)]}=true:=by
   have h4:=(holds_andW hc).1;rw[hn]at h4;exact h4
  have h5:=condW_of h4 (w_not (w_lt w_lit (w_len_list (w_arg rfl))));rw[JM]at h5;refine Nat.le_of_not_lt fun q=> ?_;have q' :(n:Int)<((ns.length:Nat):Int):=by omega
  first
   | (rw[Jo q']at h5;exact absurd h5 (by decide))
   | (simp at h5;omega)
 cases hwl with
 | cons w1 w2 =>
  cases w2;cases w1 with
  | list ho hall=>exact⟨_,_,ns,rfl,rfl,ho,jJ ns _ hall,hlen⟩
theorem v4(l:OpenLaw)(args:List WData):l.row.toRowW.claim.post args (.bool true) args=true :=
 postW_of (r:=l.row.toRowW) (X:=(true==true))
  (show WShape.has [] (.bool true) .bool=true by first|rfl|decide|simp[WShape.has,WShape.arms,WShape.armsAll])
  (show(WTm.eq .res (.lit (.bool true))).value [] {args:=args,res:=some (.bool true),after:=args}=some (.bool (true==true))from w_eq_bool (w_res rfl) w_lit) rfl
theorem rH{l:OpenLaw}{n:Nat}{q:Program}{loose:List Str}{XP:(Str->Option Value)->Heap->Prop}{YP:World->Heap->Prop}{d:DefRec}
  (hn:l.most=some n) (hdf:d.params.defaults=[])
  (call:∀(w:World)(s₀ s₁:Shared)(mg mb:Str->Option Value)(fa:Addr)(o:Obj)(pm cd doc:Value)(a:Addr)(vs:List Value)(ns:List Int),
   Ground q loose [] XP w s₀ mg mb s₁.heap->YP w s₁.heap ->
   s₁.heap.get? fa=some o->o.data=.func (docDef d.name d.params d.body d.scope pm cd doc)->s₁.heap.CodeRec cd d.name->mg d.name=some (.ref fa) ->
   s₁.heap.get? a=some {cls:=.type "list",data:=.seq vs.toArray}->IntsAre vs ns->ns.length<=n->s₁.gens= #[] ->
   codeAny (model l.prog w) callerA (.call (.ref fa) ⟨[.ref a],[]⟩) (fun r s' =>r=.ok (.ret (.bool true))/\OldK s₁.heap s'.heap/\s'.os=s₁.os/\AllBare s'.gens) s₁) :
  WalkO q loose XP YP l.row.toRowW d [] (fun f vs=>PySem.call f vs):=by
 intro w s₀ s₁ mg mb G Y fa o pm cd doc dV kV ho hd hcd hD hmg hg args vals as hpre hlay hrd hwl hlo;obtain rfl:dV=.none:=Dflts.none hD hdf;obtain rfl:kV=.none:=Dflts.noKw hD;obtain⟨a,vs,ns,rfl,rfl,hobj,hints,hlen⟩:=vw hn hpre hwl;refine enter_call (codeAny_mono (call w s₀ s₁ mg mb fa o pm cd doc a vs ns G Y ho (fd_plain hd) hcd hmg hobj hints hlen hg) fun r s' hq=> ?_);obtain⟨rfl,h2,h3,h4⟩:=hq;exact⟨.inl ⟨.bool true,.bool true,[],rfl,fun _=>rfl,.bool true,v4 l _,fun _=>⟨List.Pairwise.nil,fun _ hm=>(nomatch hm)⟩⟩,h2,h3,h4⟩
section
variable{prog:Program}{w:World}{A:Around}{E:Value->Shared->Prop}{s:Shared}{K:Frag}
end
end Att
namespace L2
open PySem PySem.Spec PyProof.Rows
theorem vj{vs:List Value}{ns:List Int}(h:IntsAre vs ns):aL (ns.map V.int) vs:=by
 induction h with
 | nil=>exact .nil
 | cons n t h ih=>exact .cons ⟨t,rfl⟩ ih
noncomputable def GB(H:Hp):Prop:=∀b,H b=none\/∃o xs,H b=some (.frz o (.lst xs))
theorem yk{P:Program}{w:World}{K:W.Frag}{mg mb:Str->Option Value}{CX:xD}{k:Nat}{fa a:Addr}{fd:FuncData}{x:Str}{sp:Sp}{s₁:Shared}{vs:List Value}{ns:List Int}
  (KX:K.In s₁.heap) (hns:s₁.heap.Ns mainGlobals mg) (hb:s₁.heap.Ns builtinsNs mb) (hbb:∀x:Str,x≠"__name__"->mb x=bootBuiltins x) (hlim:s₁.heap.NoLimit) (hg:s₁.gens= #[])
  (ha:s₁.heap.get? a=some {cls:=.type "list",data:=.seq vs.toArray}) (hi:IntsAre vs ns) (hl:ns.length<=sizeLine) (hr:fJ k callerA)
  (F:∀base:Heap,K.In base->base.Ns mainGlobals mg->cY P w K mg base CX k fa fd [x] sp) (hbind:∀(s:Shared)(u:Value),BindsTo s fd ⟨[u],[]⟩ [(x,u)])
  (hsp:∀H:Hp,GB H->bG K H a (ns.map V.int)->sp [.ref a] H (fun v _=>v=.bl true) fun _ _ _=>False)
  (hCX:∀H e s',CX [] H s₁ (fun _ _ _=>False) e s' ->False) :
  codeAny (model P w) callerA (.call (.ref fa) ⟨[.ref a],[]⟩) (fun r s' =>r=.ok (.ret (.bool true))/\OldK s₁.heap s'.heap/\s'.os=s₁.os/\AllBare s'.gens) s₁:=by
 have rv:=vj hi;have Hg:=hi.length
 have core:∀H:Hp,GB H->bG K H a (ns.map V.int)->eh P w H s₁.heap->(∀b,H b≠none->b=a)->(H a≠none->K.lookup a=none) ->
   codeAny (model P w) callerA (.call (.ref fa) ⟨[.ref a],[]⟩) (fun r s' =>r=.ok (.ret (.bool true))/\OldK s₁.heap s'.heap/\s'.os=s₁.os/\AllBare s'.gens) s₁:=by
  intro H hO hS hok hA hK;have base_of:∀{b:Addr}{o:Obj},s₁.heap.get? b=some o->H b=none->(nw s₁.heap H).get? b=some o:=fun e n=>zC e n;have noA:∀{b:Addr}{o:Obj}{es:Array DictEntry}{ep:Nat},s₁.heap.get? b=some o->o.data=.dict es ep->H b=none:=fun{b o es ep} e d=>by
   cases q:H b with
   | none=>rfl
   | some u =>
    have e' :b=a:=hA b (by rw[q];simp);subst e';rw[ha]at e;cases e;have d' :Data.seq vs.toArray _=Data.dict es ep:=d;cases d'
  have nsK:∀{b:Addr}{m:Str->Option Value},s₁.heap.Ns b m->(nw s₁.heap H).Ns b m:=fun{b m} ⟨o,es,ep,e,d,r⟩=>⟨o,es,ep,base_of e (noA e d),d,r⟩
  have hKb:K.In (nw s₁.heap H):=fun b o e=>base_of (KX b o e) (by
   cases q:H b with
   | none=>rfl
   | some u =>
    have e' :b=a:=hA b (by rw[q];simp);subst e';rw[hK (by rw[q];simp)]at e;cases e)
  have hM:Mod K mg (nw s₁.heap H):=⟨hKb,nsK hns,⟨mb,nsK hb,hbb⟩,let⟨mc,h1,h2⟩:=hlim;⟨mc,nsK h1,h2⟩⟩;have e0:Cq P w K mg (nw s₁.heap H) callerA [] s₁ H:=⟨rfl,hM,fun b o e=>BU e,Nat.le_of_eq (wT _ _),trivial,fun b hb=>absurd (show b∈([]:List Addr)from hb) (by simp),hok,.of_eq hg⟩;refine codeAny_mono ((F _ hKb (nsK hns)).run callerA [] s₁ H ⟨[.ref a],[]⟩ [.ref a] [.ref a] _ _ hr e0 (hbind s₁ (.ref a)) (.cons rfl .nil) (hsp H hO hS)) fun r s' h=> ?_;cases r with
  | error e=>exact(hCX H e s' h).elim
  | ok fl =>
   cases fl with
   | next=>exact False.elim h
   | brk=>exact False.elim h
   | cont=>exact False.elim h
   | ret u =>
    obtain⟨v,H',os,bare,un,hok',r',q⟩:=h;have q' :v=.bl true:=q;subst q';obtain rfl:u=Value.bool true:=r';refine⟨rfl,OldK.of_keep fun b o e=> ?_,os,bare⟩;cases q:H b with
    | none=>exact un.keep b o e q (by intro z;exact absurd (show b∈([]:List Addr)from z) (by simp)) (by simp)
    | some u =>
     rcases hO b with z|⟨ob,xs,z⟩
     ·rw[q]at z;cases z
     ·have z2:=un.frzs b ob _ z
      obtain⟨e1,_⟩:=hok b _ z;obtain⟨e2,_⟩:=hok' b _ z2;rw[e]at e1;cases e1;exact e2
 cases hk:K.lookup a with
 | some o =>
  have e:=KX a o hk;rw[ha]at e;cases e;refine core (fun _=>none) (fun _=>.inl rfl) (.inr ⟨_,vs.toArray,_,hk,rfl,rfl,rfl,by rw[Jb,Hg];exact hl,by simpa using rv⟩) (fun b u z=>by have z' :(none:Option HO)=some u:=z;cases z') (fun b z=>absurd rfl z) fun z=>absurd rfl z
 | none =>
  refine core (fun b=>if b=a then some (.frz {cls:=.type "list",data:=.seq vs.toArray} (.lst (ns.map V.int)))else none) (fun b=> ?_) (.inl (.inr ⟨{cls:=.type "list",data:=.seq vs.toArray},JS rfl⟩)) (fun b u z=> ?_) (fun b z=> ?_) fun _=>hk
  ·by_cases hb:b=a
   ·exact .inr ⟨_,_,JS hb⟩
   ·exact .inl (JR hb)
  ·by_cases hb:b=a
   ·have z' :=(JS hb).symm.trans z
    cases z';subst hb;exact⟨ha,by rw[JM];exact hl,vs,_,rv,ha⟩
   ·have z' :=(JR hb).symm.trans z
    cases z'
  ·by_cases hb:b=a
   ·exact hb
   ·exact absurd (JR hb) z
theorem Ad{l:W.OpenLaw}{n k:Nat}{q:Program}{loose:List Str}{XP:(Str->Option Value)->Heap->Prop}{YP:World->Heap->Prop}{d:DefRec}{K:Params->W.Frag}{CX:World->xD}{sp:World->Sp}{x:Str}
  (hn:l.most=some n) (hn2:n<=sizeLine) (hdf:d.params.defaults=[]) (hr:fJ k callerA)
  (hY:∀(w:World)(h:Heap),YP w h->(K w.params).In h)
  (F:∀(w:World)(mg:Str->Option Value)(fa:Addr)(h:Heap),(K w.params).In h->h.Ns mainGlobals mg->mg d.name=some (.ref fa) ->
   ∃fd:FuncData,(∀(s:Shared)(u:Value),BindsTo s fd ⟨[u],[]⟩ [(x,u)]) /\
    ∀base:Heap,(K w.params).In base->base.Ns mainGlobals mg->cY l.prog w (K w.params) mg base (CX w) k fa fd [x] (sp w))
  (hsp:∀(w:World)(H:Hp)(a:Addr)(ns:List Int),ns.length<=n->GB H->bG (K w.params) H a (ns.map V.int)->sp w [.ref a] H (fun v _=>v=.bl true) fun _ _ _=>False)
  (hCX:∀(w:World)(H:Hp)(s:Shared)(e:Value)(s' :Shared),CX w [] H s (fun _ _ _=>False) e s' ->False) :
  W.WalkO q loose XP YP l.row.toRowW d [] (fun f vs=>PySem.call f vs):=by
 refine Att.rH hn hdf fun w s₀ s₁ mg mb fa o pm cd doc a vs ns G Y ho hd hcd hmg hobj hints hlen hg=> ?_;have KX:=hY w _ Y;obtain⟨fd,hb,hF⟩:=F w mg fa _ KX G.T.g hmg;exact yk KX G.T.g G.T.b G.T.builtins G.T.nolimit hg hobj hints (J2 hlen hn2) hr hF hb (fun H hO hS=>hsp w H a ns hlen hO hS) fun H e s' =>hCX w H s₁ e s'
noncomputable def aK(s:Stmt):Arguments:=match s with
 | .FunctionDef _ a _ _ _ _ _ _ _ _=>a
 | _=>{posonlyargs:=[],args:=[],vararg:=none,kwonlyargs:=[],kw_defaults:=[],kwarg:=none,defaults:=[]}
noncomputable def aF(s:Stmt):List Stmt:=match s with
 | .FunctionDef _ _ b _ _ _ _ _ _ _=>b
 | _=>[]
noncomputable def aA(s:Stmt):Scope:=match s with
 | .FunctionDef _ _ _ _ _ _ sc _ _ _=>sc
 | _=>{kind:=.function,names:=[],isGenerator:=false,isCoroutine:=false}
noncomputable abbrev oE:xD:=fun _ _ _ _ _ _=>False
noncomputable abbrev E0:XK:=fun _ _ _=>False
theorem HV{X:Cx}:tm oE X E0:=fun _ _ _ _ _ _ _ h=>h.elim
structure GP(K:W.Frag)(x qual:Str)(st:Stmt)(f:Addr)(fd:FuncData):Prop where
 ex:∃(oc:Value)(od:Option Addr)(kV doc pm:Value)(an:Option Addr)(cdv ct:Value)(osl:Array (Option Value)),
  fd=W.fnOf x qual (aK st) (aF st) (aA st) .none kV doc pm an cdv ct/\K.lookup f=some ⟨oc,od,.func fd,osl⟩/\W.codeIn K cdv qual=true
 kp:W.keepIn K (.ref f)=true
section
variable{P:Program}{w:World}{K:W.Frag}{mg:Str->Option Value}{base:Heap}
theorem GP.ok{x qual:Str}{st:Stmt}{f:Addr}{fd:FuncData}{N ps:List Str}{k:Nat}{sp:Sp}(F:GP K x qual st f fd)(S:aS N ps (aA st))(len:∀vs H Q E,sp vs H Q E->vs.length=ps.length)
  (hbody:∀(cdv:Value)(A:Around)(outer:List Env)(s:Shared)(H:Hp)(vs:List V)(Q:VK)(E:XK),fJ k (A.deeper (envOfC qual (aA st) s.heap.objs.size f cdv))->sp vs H Q E ->
   ∃t,tq (ql oE P w K mg base N qual (aA st) f cdv A outer s H E).nox (aF st) t/\t {nx:=fun _ H' =>Q .non H',rt:=Q} (start N vs) H):cY P w K mg base oE (k+1) f fd ps sp:=by
 obtain⟨oc,od,kV,doc,pm,an,cdv,ct,osl,rfl,lk,hcd⟩:=F.ex;refine Hw lk hcd S len fun A outer s H vs Q E hr hsp=> ?_;obtain⟨t,h,q⟩:=hbody cdv A outer s H vs Q E hr hsp;exact⟨t,h.nox,q⟩
theorem GP.binds{x qual:Str}{st:Stmt}{f:Addr}{fd:FuncData}{ps:List Str}(F:GP K x qual st f fd)
  (h:∀(kV doc pm:Value)(an:Option Addr)(cdv ct:Value)(us:List Value),us.length=ps.length->bindArgs (W.fnOf x qual (aK st) (aF st) (aA st) .none kV doc pm an cdv ct) ⟨us,[]⟩=pure (ps.zip us)):Binds K fd ps []:=by
 obtain⟨oc,od,kV,doc,pm,an,cdv,ct,osl,rfl,lk,hcd⟩:=F.ex;exact .all (h kV doc pm an cdv ct)
theorem zE{x qual:Str}{st:Stmt}{f:Addr}{oc:Value}{od an:Option Addr}{osl:Array (Option Value)}{kV doc pm cdv ct:Value}(l:K.lookup f=some ⟨oc,od,.func (W.fnOf x qual (aK st) (aF st) (aA st) .none kV doc pm an cdv ct),osl⟩)
  (c:W.codeIn K cdv qual=true) (k:W.keepIn K (.ref f)=true):GP K x qual st f (W.fnOf x qual (aK st) (aF st) (aA st) .none kV doc pm an cdv ct):=⟨⟨oc,od,kV,doc,pm,an,cdv,ct,osl,rfl,l,c⟩,k⟩
end
theorem DA{A:Around}{k:Nat}(hr:fJ k A):A.units+1<cLine:=MF (Nat.add_le_add_left (by decide:1<=64) _) hr.units
section
variable{X:Cx}
theorem pv(i:Nat){x:Str}{pos:Pos}(hN:X.N[i]? =some x:=by rfl)(hv:GO X.env.scope x:=by first|exact Or.inl rfl|exact Or.inr (Or.inl rfl)|exact Or.inr (Or.inr rfl))(hd:(x==("__debug__":Str))=false:=by decide)
  (hcd:(x==("__classdict__":Str))=false:=by decide):PE X (.Name x pos) (Gi i):=sO hN hv hd hcd
end
theorem wQ{A B:Prop}(h:B):if false=true then A else B:=by
 rw[JR JT];exact h
theorem wP{A B:Prop}(h:A):if true=true then A else B:=by
 rw[JS rfl];exact h
theorem Bn{c A B:Prop}[Decidable c](h1:c->A)(h2:¬c->B):if c then A else B:=by
 by_cases h:c
 ·rw[JS h]
  exact h1 h
 ·rw[JR h]
  exact h2 h
noncomputable def aD(H H' :Hp):Prop:=∀b o,H b=some o->H' b=some o
theorem aD.refl(H:Hp):aD H H:=fun _ _ h=>h
theorem aD.trans{H H1 H2:Hp}(a:aD H H1)(b:aD H1 H2):aD H H2:=fun c o h=>b c o (a c o h)
theorem aD.free{H H' :Hp}(e:aD H H'){l:Addr}(h:H' l=Option.none):H l=Option.none:=by
 cases q:H l with
 | none=>rfl
 | some o =>
  rw[e l o q]at h;cases h
theorem aD.seq{K:W.Frag}{H H' :Hp}{a:Addr}{xs:List V}(e:aD H H')(h:bG K H a xs):bG K H' a xs:=by
 rcases h with(h|⟨o,h⟩)|h
 ·exact .inl (.inl (e _ _ h))
 ·exact .inl (.inr ⟨o,e _ _ h⟩)
 ·exact .inr h
end L2
set_option maxHeartbeats 4000000
namespace UM
open PySem PySem.Builtin PySem.Builtin.Str
structure JJ(m:Nat)(rows:List Str):Prop where
 some:rows≠[]
 few:rows.length<=m
 wide:∃k,1<=k/\k<=m/\∀r∈rows,r.length=k
 signs:∀r∈rows,∀c∈r.cps.toList,c=120\/c=46
end UM
namespace L2
open PySem PySem.Spec PyProof.Rows
noncomputable def gc(env:Env):List (Str×NameKind)->List (Str×Addr)->List (Str×Addr)
 | [],acc=>acc
 | (n,k)::r,acc=>if(k==NameKind.free)=true then gc env r ((n,(env.cells.lookup n).getD 0)::acc)else gc env r acc
theorem iD{env:Env}{n:Str}{k:NameKind}{r:List (Str×NameKind)}{acc:List (Str×Addr)}(h:(k==NameKind.free)=true) :
  gc env ((n,k)::r) acc=gc env r ((n,(env.cells.lookup n).getD 0)::acc):=by
 show(if(k==NameKind.free)=true then _ else _)=_;rw[JS h]
theorem ft{env:Env}{n:Str}{k:NameKind}{r:List (Str×NameKind)}{acc:List (Str×Addr)}(h:¬(k==NameKind.free)=true) :
  gc env ((n,k)::r) acc=gc env r acc:=by
 show(if(k==NameKind.free)=true then _ else _)=_;rw[JR h]
theorem qv{env:Env}{n:Str}{c:Addr}(h:env.cells.lookup n=some c):cellOf env n=pure c:=by
 unfold cellOf;rw[h]
theorem tP{scope:Scope}{env:Env}(h:∀x∈scope.names,x.2=.free->∃c,env.cells.lookup x.1=some c):closureFor scope env=pure (gc env scope.names []):=by
 unfold closureFor
 suffices q:∀(l:List (Str×NameKind))(acc:List (Str×Addr)),(∀x∈l,x.2=.free->∃c,env.cells.lookup x.1=some c) ->
   (forIn l acc (fun(x:Str×NameKind) (r:List (Str×Addr))=>if(x.2==NameKind.free)=true then(do let a<-cellOf env x.1;pure (ForInStep.yield ((x.1,a)::r)))else pure (ForInStep.yield r)):Sem (List (Str×Addr)))=pure (gc env l acc)by
  exact(Jw (fun m=>m >>= pure) (q scope.names [] h)).trans (by rfl)
 intro l
 induction l with
 | nil=>intro acc _;rfl
 | cons x l ih =>
  intro acc hl;obtain⟨n,k⟩:=x;rw[List.forIn_cons]
  by_cases hk:(k==NameKind.free)=true
  ·obtain⟨c,hc⟩:=hl (n,k) JP (by simpa using hk)
   rw[iD hk];simp only[hk,if_true];rw[qv hc];have e:(env.cells.lookup n).getD 0=c:=by rw[show env.cells.lookup n=some c from hc];rfl
   rw[e];exact ih _ fun y hy=>hl y (JO _ hy)
  ·rw[ft hk]
   simp only[hk,L4];exact ih _ fun y hy=>hl y (JO _ hy)
theorem dN{env:Env}:∀{l:List (Str×NameKind)}{acc:List (Str×Addr)}{x:Str}{c:Addr},(∀y∈l,y.2=.free->∃c,env.cells.lookup y.1=some c) ->
  (gc env l acc).lookup x=some c->acc.lookup x=some c\/env.cells.lookup x=some c
 | [],acc,x,c,_,h=>.inl h
 | (n,k)::l,acc,x,c,hl,h=>by
  have hl' :∀y∈l,y.2=.free->∃c,env.cells.lookup y.1=some c:=fun y hy=>hl y (JO _ hy)
  by_cases hk:(k==NameKind.free)=true
  ·rw[iD hk]at h
   rcases dN hl' h with q|q
   ·rw[KA]at q
    cases hx:(x==n)with
    | true =>
     rw[hx]at q;have hxn:x=n:=by simpa using hx
     subst hxn;obtain⟨c',hc'⟩:=hl (x,k) JP (by simpa using hk);have hc2:env.cells.lookup x=some c' :=hc';rw[hc2]at q
     right
     rw[hc2]
     simpa using q
    | false =>
     rw[hx]at q;exact .inl q
   ·exact .inr q
  ·rw[ft hk]at h
   exact dN hl' h
theorem gb{env:Env}:∀{l:List (Str×NameKind)}{acc:List (Str×Addr)}{x:Str},((x,NameKind.free)∈l\/∃c,acc.lookup x=some c)->∃c,(gc env l acc).lookup x=some c
 | [],acc,x,h=>by
  rcases h with h|h
  ·cases h
  ·exact h
 | (n,k)::l,acc,x,h=>by
  by_cases hk:(k==NameKind.free)=true
  ·rw[iD hk]
   refine gb ?_
   rcases h with h|⟨c,h⟩
   ·rcases Jg.mp h with e|e
    ·right
     injection e with e1 e2
     subst e1;exact⟨(env.cells.lookup x).getD 0,by rw[KA];simp⟩
    ·exact .inl e
   ·right
    rw[KA];cases hx:(x==n)with
    | true=>exact⟨_,rfl⟩
    | false=>exact⟨c,h⟩
  ·rw[ft hk]
   refine gb ?_
   rcases h with h|h
   ·rcases Jg.mp h with e|e
    ·injection e with e1 e2
     subst e2;exact absurd rfl hk
    ·exact .inl e
   ·exact .inr h
section
variable{prog:Program}{w:World}{A:Around}{R:Result->Shared->Prop}{s:Shared}
theorem n9{elt target iter:Expr}{ifs:List Expr}{scope:Scope}{pos:Pos}{it acc:Value}{env:Env}(I:Nat->Shared->Prop)
  (turn:∀n s,I n s->wpAny (model prog w) A (pyNext it) (fun r s₁=>match r with
   | none=>R (.ok .next) s₁
   | some v=>wpAny (model prog w) A (letOwnedTupleGo target it v) (fun _ s₁' =>wpAny (model prog w) A (assign target env v) (fun _ s₂ =>
     wpAny (model prog w) A (forIn ifs true fun c r=>if r=true then do let ok<-isTrue c env (eval c env);pure (ForInStep.yield ok)else pure (ForInStep.yield r)) (fun ok s₃ =>
      if ok=true then wpAny (model prog w) A (eval elt env) (fun x s₄ =>
       wpAny (model prog w) A (call (.builtin "list.append") [acc,x]) (fun _ s₅=>∃m,m<n/\I m s₅) (notedBy (model prog w) A env fun e s' =>R (.error e) s') s₄) (notedBy (model prog w) A env fun e s' =>R (.error e) s') s₃
      else∃m,m<n/\I m s₃) (notedBy (model prog w) A env fun e s' =>R (.error e) s') s₂) (notedBy (model prog w) A env fun e s' =>R (.error e) s') s₁')
       (notedBy (model prog w) A env fun e s' =>R (.error e) s') s₁) (notedBy (model prog w) A env fun e s' =>R (.error e) s') s)
  (n:Nat) (h:I n s) :
  codeAny (model prog w) A (.compLoop (.ListComp elt [⟨target,iter,ifs,0⟩] scope pos) 0 it acc env) R s:=by
 refine codeAny_loop rfl I (fun n s hI=> ?_) n h;show wpAny _ A ((compTurn (.ListComp elt [⟨target,iter,ifs,0⟩] scope pos) 0 it acc env).onRaise (fun x=>do noteFrame x env;theTreesLotGoes x)) _ _ s;refine wpAny_noted ?_;rw[compTurn_list];refine JL (wpAny_standAt (JL (Ke (turn n s hI) (fun r s₁ h₁=> ?_) fun _ _ h' =>h')));cases r with
 | none=>exact JQ h₁
 | some v =>
  refine JL (Ke h₁ (fun _ s₁' h₁' => ?_) fun _ _ h' =>h');refine JL (Ke h₁' (fun _ s₂ h₂=>JL (Ke h₂ (fun ok s₃ h₃=> ?_) fun _ _ h' =>h')) fun _ _ h' =>h');cases ok with
  | false=>exact JQ ⟨rfl,h₃⟩
  | true =>
   exact JL (JL (Ke h₃ (fun x s₄ h₄=>JL (Ke h₄ (fun _ s₅ h₅=>JQ (JQ ⟨rfl,h₅⟩)) fun _ _ h' =>h')) fun _ _ h' =>h'))
end
noncomputable abbrev bD(X:Cx)(N' :List Str)(scope:Scope)(C:Addr)(s2:Shared)(H2:Hp)(fp:List Addr)(cl:List (Str×Addr)):Cx where
 prog:=X.prog
 w:=X.w
 K:=X.K
 mg:=X.mg
 base:=X.base
 A:=X.A
 N:=N'
 s₀:=s2
 H₀:=H2
 env:=compEnvC scope cl C X.env
 outer:=X.stack
 stack:=X.stack
 ex:=fp
 fn:=fun x=>scope.names.lookup x==some .cell
 calm:=X.calm
 pn:=[]
 xe:=fun _ _=>False
noncomputable def ba(X:Cx)(scope:Scope):List Str->List (Option Nat)->Prop
 | [],[]=>True
 | _::ns,none::r=>ba X scope ns r
 | x::ns,some i::r=>(X.N[i]? =some x/\scope.names.lookup x=some .free/\(X.env.scope.names.lookup x=some .cell\/X.env.scope.names.lookup x=some .free))/\ba X scope ns r
 | _,_=>False
noncomputable def bP(src:List (Option Nat))(σ:St):St:=src.map fun o=>match o with
 | none=>none
 | some i=>(σ[i]?).join
theorem ba.len{X:Cx}{scope:Scope}:∀{N' :List Str}{src:List (Option Nat)},ba X scope N' src->src.length=N'.length
 | [],[],_=>rfl
 | _::_,none::_,h=>Jw (·+1) (ba.len (show ba X scope _ _ from h))
 | _::_,some _::_,h=>Jw (·+1) (ba.len h.2)
 | [],_::_,h=>by cases h
 | _::_,[],h=>by cases h
theorem ba.at{X:Cx}{scope:Scope}{σ:St}:∀{N' :List Str}{src:List (Option Nat)}{j:Nat}{x:Str}{v:V},ba X scope N' src->N'[j]? =some x->(bP src σ)[j]? =some (some v) ->
  ∃i:Nat,X.N[i]? =some x/\σ[i]? =some (some v)/\scope.names.lookup x=some .free/\(X.env.scope.names.lookup x=some .cell\/X.env.scope.names.lookup x=some .free)
 | [],[],j,x,v,_,h,_=>by simp at h
 | y::ns,none::r,0,x,v,_,_,h=>by simp[bP]at h
 | y::ns,none::r,j+1,x,v,s,h,h' =>ba.at (N' :=ns) (src:=r) (j:=j) s (by simpa using h) (by simpa [bP]using h')
 | y::ns,some i::r,0,x,v,s,h,h' =>by
  have e:y=x:=by simpa using h
  subst e;have q:(σ[i]?).join=some v:=by simpa [bP]using h'
  refine⟨i,s.1.1,?_,s.1.2.1,s.1.2.2⟩;cases z:σ[i]? with
  | none=>rw[z]at q;cases q
  | some o=>rw[z]at q;exact Jw some q
 | y::ns,some i::r,j+1,x,v,s,h,h' =>ba.at (N' :=ns) (src:=r) (j:=j) s.2 (by simpa using h) (by simpa [bP]using h')
 | [],_::_,_,_,_,s,_,_=>by cases s
 | _::_,[],_,_,_,s,_,_=>by cases s
noncomputable def Cn(X:Cx)(ifs:List Expr)(t:TT):Prop :=
 ∀(pins:List (Addr×Obj))(s:Shared)(σ:St)(H:Hp)(Q:Bool->Hp->Prop),Inv X pins σ H s->t σ H Q ->
  wpAny (model X.prog X.w) X.A (forIn ifs true fun c r=>if r=true then do let ok<-isTrue c X.env (eval c X.env);pure (ForInStep.yield ok)else pure (ForInStep.yield r)) (TP X pins σ Q) X.xe s
noncomputable def Cu:TT:=fun _ H Q=>Q true H
theorem pW{X:Cx}:Cn X [] Cu:=fun _ _ _ H _ I h=>wpAny_tests_nil ⟨H,I,h⟩
theorem pV{X:Cx}{c:Expr}{t:TT}(h:PT X c t):Cn X [c] t:=fun pins s σ H Q I hw=>wpAny_tests_one (h pins s σ H Q I hw)
noncomputable def GE(X:Cx)(N' :List Str)(src:List (Option Nat))(scope:Scope)(target:Expr)(ifs:List Expr)(elt:Expr)(D:Addr)(σ:St)(x:V)(ys:List V)(H' :Hp)(N:List V->Hp->Prop):Prop :=
 ∀(C:Addr)(s2:Shared)(H2:Hp)(fp:List Addr)(cl:List (Str×Addr)),∃(g:TG)(tt:TT)(te:TE),PG (bD X N' scope C s2 H2 fp cl) target g/\Cn (bD X N' scope C s2 H2 fp cl) ifs tt/\PE (bD X N' scope C s2 H2 fp cl) elt te /\
  g x (bP src σ) H' fun σ2 H3=>(σ2.length=N'.length/\∀(j:Nat)(v:V),(bP src σ)[j]? =some (some v)->σ2[j]? =some (some v)) /\
   tt σ2 H3 fun b H4=>if b=true then te σ2 H4 fun v H5=>H5 D=some (.lst ys)/\ys.length<sizeLine/\N (ys++[v]) (upd H5 D (.lst (ys++[v])))else N ys H4
noncomputable def Gm(X:Cx)(N' :List Str)(src:List (Option Nat))(scope:Scope)(target:Expr)(ifs:List Expr)(elt:Expr)(wi:TI):TE:=fun σ H Q=>wi σ H fun J H1=>∀D,H1 D=none ->
 ∃W:Nat->Nat->List V->Hp->Prop,(∃m,W 0 m [] (upd H1 D (.lst [])))/\∀i m ys H,W i m ys H ->
  (J.stop i H/\Q (.ref D) H)\/(J.go i H/\∀x H',J.yld i H x H' ->GE X N' src scope target ifs elt D σ x ys H' fun ys' H'' =>∃m',m' <m/\W (i+1) m' ys' H'')
section
variable{X:Cx}{pins:List (Addr×Obj)}{σ:St}{H:Hp}{s:Shared}
structure xA(X:Cx)(scope:Scope)(C:Addr)(cl:List (Str×Addr)):Prop where
 ex:∃own,cl=own++gc X.env scope.names []/\(∀n c,(n,c)∈own->C<c/\scope.names.lookup n=some .cell)/\(∀x,(x,NameKind.cell)∈scope.names->∃c,own.lookup x=some c)/\own.Pairwise fun x y=>x.2≠y.2
theorem xA.sub{scope:Scope}{C:Addr}{cl:List (Str×Addr)}(k:xA X scope C cl)(hfree:∀y∈scope.names,y.2=.free->∃c,X.env.cells.lookup y.1=some c){x:Str}{c:Addr}(e:cl.lookup x=some c) :
  (C<c/\scope.names.lookup x=some .cell)\/(scope.names.lookup x≠some .cell\/True)/\X.env.cells.lookup x=some c:=by
 obtain⟨own,rfl,h1,h2,h3⟩:=k.ex;rw[K0]at e;cases z:own.lookup x with
 | some c' =>
  rw[z]at e;cases e;exact .inl (h1 x c (Jz z))
 | none =>
  rw[z]at e
  rcases dN hfree e with q|q
  ·cases q
  ·exact .inr ⟨.inr trivial,q⟩
theorem CA{N' :List Str}{scope:Scope}{C:Addr}{fp:List Addr}{cl:List (Str×Addr)}(I:Inv X pins σ H s)(hkind:scope.kind=.function)(k:xA X scope C cl)
  (hfree:∀y∈scope.names,y.2=.free->∃c,X.env.cells.lookup y.1=some c) (hC:s.heap.objs.size<=C) (hf:∀b∈fp,iQ X pins H b) (hlt:∀b∈fp,b<s.heap.objs.size):(bD X N' scope C s H fp cl).Ok:=by
 have old:∀x c,X.env.cells.lookup x=some c->c<s.heap.objs.size:=fun x c e=>let⟨_,q⟩:=I.cell x c e;q.lt
 obtain⟨own,hcl,h1,h2,h3⟩:=k.ex;have look:∀x c,cl.lookup x=some c->(x,c)∈own\/X.env.cells.lookup x=some c:=fun x c e=>by
  rw[hcl,K0]at e;cases z:own.lookup x with
  | some c' =>rw[z]at e;cases e;exact .inl (Jz z)
  | none =>
   rw[z]at e
   rcases dN hfree e with q|q
   ·cases q
   ·exact .inr q
 refine⟨I.ok.mod,hkind,I.ok.glob,I.ok.blt,hC,fun x y c e1 e2=> ?_,fun x hx=> ?_,fun x c h e=> ?_,I.ok.hd,I.ok.frames,.inl rfl,fun b hb=>⟨?_,fun x c e=> ?_⟩,
  I.bs,J2 I.ok.bsz I.sz,fun b o e hb=> ?_,fun b hb hs=> ?_,I.stack,I.stkFree⟩
 ·rcases look x c e1 with q1|q1<;>rcases look y c e2 with q2|q2
  ·exact PySem.name_of_addr h3 q1 q2
  ·exact absurd (LL (old y c q2) (MF hC (h1 x c q1).1)) (LI _)
  ·exact absurd (LL (old x c q1) (MF hC (h1 y c q2).1)) (LI _)
  ·exact I.ok.inj x y c q1 q2
 ·-- a name of the block's that is no local of it is one that it closes over,or has a cell of its own
  have hx' :(relabel scope X.env).names.lookup x=some .cell\/(relabel scope X.env).names.lookup x=some .free:=hx;have go:∀k,(k=NameKind.cell\/k=NameKind.free)->(relabel scope X.env).names.lookup x=some k->(x,NameKind.free)∈scope.names\/(x,NameKind.cell)∈scope.names:=fun k hk e=>by
   have m:=Jz e;obtain⟨⟨n,k'⟩,hm,e'⟩:=JW.mp m
   by_cases hfr:k' =NameKind.free
   ·subst hfr
    have e'' :(if(NameKind.free==NameKind.free&&X.env.scope.kind== .function&&X.env.kindOf n==some .cell)=true then(n,NameKind.cell)else(n,NameKind.free))=(x,k):=e';have hn:n=x:=by split at e'' <;>exact(Prod.mk.inj e'').1
    rw[<- hn];exact .inl hm
   ·have e'' :(if(k' ==NameKind.free&&X.env.scope.kind== .function&&X.env.kindOf n==some .cell)=true then(n,NameKind.cell)else(n,k'))=(x,k):=e'
    have hkf:(k' ==NameKind.free)=false:=by simpa using hfr
    rw[hkf,MJ,MJ,JR JT]at e'';obtain⟨g1,g2⟩:=Prod.mk.inj e'';subst g1 g2
    rcases hk with rfl|rfl
    ·exact .inr hm
    ·exact .inl hm
  have fin:(x,NameKind.free)∈scope.names\/(x,NameKind.cell)∈scope.names->∃c,cl.lookup x=some c:=by
   intro z;rw[hcl]
   rcases z with z|z
   ·obtain⟨c,hc⟩:=gb (env:=X.env) (l:=scope.names) (acc:=[]) (x:=x) (.inl z)
    rw[K0];cases own.lookup x with
    | some c' =>exact⟨c',rfl⟩
    | none=>exact⟨c,hc⟩
   ·obtain⟨c,hc⟩:=h2 x z
    exact⟨c,by rw[K0,hc];rfl⟩
  rcases hx' with e|e
  ·exact fin (go _ (.inl rfl) e)
  ·exact fin (go _ (.inr rfl) e)
 ·have h:scope.names.lookup x=some .cell:=by simpa using h
  obtain⟨c',hc'⟩:=h2 x (Jz h);have e:cl.lookup x=some c:=e;rw[hcl,K0,hc']at e;cases e;exact J2 hC (LM (h1 x c (Jz hc')).1)
 ·exact fun e=>absurd (hlt b hb) (by show¬b<_;rw[e];exact Nat.not_lt.mpr hC)
 ·rcases look x c e with q|q
  ·exact fun z=>absurd (LL (hlt b hb) (MF hC (h1 x c q).1)) (by rw[z];exact LI _)
  ·exact(hf b hb).2.2.2.2.1 x c q
 ·rcases(hf b hb).2.2.2.1 with q|q
  ·exact I.ok.noex b o e q
  ·exact absurd (Je e) (Nat.not_lt.mpr (J2 I.ok.bsz q))
 ·rcases Jg.mp (I.stkSub b hs)with q|q
  ·exact(hf b hb).2.1 q
  ·exact(hf b hb).2.2.1 q
theorem bw:∀(names:List (Str×NameKind))(n:Nat)(a b:List (Str×Addr)),cellsFrom n names (a++b)=cellsFrom n names a++b
 | [],_,_,_=>rfl
 | (x,k)::r,n,a,b=>by
  unfold cellsFrom
  split
  ·exact bw r (n+1) ((x,n)::a) b
  ·exact bw r n a b
theorem cr:∀(names:List (Str×NameKind))(n:Nat)(acc:List (Str×Addr))(x:Str)(c:Addr),(x,c)∈cellsFrom n names acc->(x,c)∈acc\/(x,NameKind.cell)∈names
 | [],_,_,_,_,h=>.inl h
 | (y,k)::r,n,acc,x,c,h=>by
  unfold cellsFrom at h
  split at h
  ·rename_i hk
   have hk:k=.cell:=by simpa using hk
   rcases cr r (n+1) ((y,n)::acc) x c h with q|q
   ·rcases Jg.mp q with e|e
    ·cases e
     rw[hk];exact .inr JP
    ·exact .inl e
   ·exact .inr (JO _ q)
  ·rcases cr r n acc x c h with q|q
   ·exact .inl q
   ·exact .inr (JO _ q)
theorem CH{scope:Scope}{C:Addr}(hcn:∀y∈scope.names,y.2=.cell->scope.names.lookup y.1=some .cell)(h:Heap)(hC:h.objs.size=C+1):xA X scope C (cellsFrom (C+1) scope.names (gc X.env scope.names [])):=by
 have ok:=cellsFrom_ok scope.names h (C+1) [] ⟨fun _ _ hm=>(nomatch hm),List.Pairwise.nil⟩ (by rw[hC];exact JV _);rw[hC]at ok;refine⟨cellsFrom (C+1) scope.names [],by rw[<- bw];rfl,fun n c hm=>⟨(ok.empty n c hm).2,?_⟩,fun x hx=> ?_,ok.apart⟩
 ·rcases cr _ _ _ _ _ hm with q|q
  ·cases q
  ·exact hcn _ q rfl
 ·have:=W.cellsFrom_some (x:=x) scope.names (C+1) [] (.inl (hcn _ hx rfl))
  exact Option.isSome_iff_exists.mp this
theorem zR{M:Model}{A:Around}{E:Value->Shared->Prop}{s:Shared}{scope:Scope}{globals:Addr}{cl:List (Str×Addr)}{qual:Str}{env:Env}{Q:Env->Shared->Prop}
  (h:Q {scope:=scope,locals:=s.heap.objs.size,globals:=globals,cells:=cellsFrom (s.heap.objs.size+1) scope.names cl,qual:=qual,func:=none,code:=env.code,frame:=env.frame,builtins:=env.builtins} {s with heap:=pushCells (s.heap.push {cls:=.type "dict",data:=.dict #[]}) scope.names}) :
  wpAny M A (newFunctionEnv scope globals cl [] qual none .none (some env)) Q E s:=by
 simp only[newFunctionEnv,Option.isSome_some,if_true];refine JL (wpAny_alloc ?_);refine JL (wpAny_layCells _ (fun name kind cells=>by cases hkc:kind==NameKind.cell<;>simp[hkc]) _ _ _ _ ?_);rw[show({s with heap:=s.heap.push {cls:=.type "dict",data:=.dict #[]}}:Shared).heap.objs.size=s.heap.objs.size+1 from Ku ..];rw[List.forIn_nil];exact JL (JQ (JQ h))
end
theorem gK{env:Env}:∀{names:List (Str×NameKind)}{x:Str},names.lookup x=some .free ->
  (names.map fun(n,k)=>if(k==NameKind.free&&env.scope.kind== .function&&env.kindOf n==some .cell)then(n,NameKind.cell)else(n,k)).lookup x=some .cell \/
  (names.map fun(n,k)=>if(k==NameKind.free&&env.scope.kind== .function&&env.kindOf n==some .cell)then(n,NameKind.cell)else(n,k)).lookup x=some .free
 | [],_,h=>by simp at h
 | (n,k)::r,x,h=>by
  have ih:= @gK env r x;show List.lookup x ((if(k==NameKind.free&&env.scope.kind== .function&&env.kindOf n==some .cell)=true then(n,NameKind.cell)else(n,k))::_)=_\/List.lookup x ((if(k==NameKind.free&&env.scope.kind== .function&&env.kindOf n==some .cell)=true then(n,NameKind.cell)else(n,k))::_)=_;cases hx:x==n with
  | true =>
   simp only[KA,hx]at h;cases h
   by_cases hc:(NameKind.free==NameKind.free&&env.scope.kind== .function&&env.kindOf n==some .cell)=true
   ·left;rw[JS hc];simp only[KA,hx]
   ·right;rw[JR hc];simp only[KA,hx]
  | false =>
   simp only[KA,hx]at h
   by_cases hc:(k==NameKind.free&&env.scope.kind== .function&&env.kindOf n==some .cell)=true
   ·rw[JS hc];simp only[KA,hx];exact ih h
   ·rw[JR hc];simp only[KA,hx];exact ih h
section
variable{X:Cx}{pins:List (Addr×Obj)}{σ:St}{H:Hp}{s:Shared}
theorem tE{N' :List Str}{src:List (Option Nat)}{scope:Scope}{D C:Addr}{fp:List Addr}{cl:List (Str×Addr)}{h₁:Heap}{m:Str->Option Value}{tk:Nat}(I:Inv X pins σ H s)(hkind:scope.kind=.function)(k:xA X scope C cl)
  (hfree:∀y∈scope.names,y.2=.free->∃c,X.env.cells.lookup y.1=some c) (hsrc:ba X scope N' src) (hf:∀b∈fp,iQ X pins H b) (hlt:∀b∈fp,b<s.heap.objs.size)
  (hD:D=s.heap.objs.size) (hC:s.heap.objs.size<C) (hns:h₁.Ns C m) (old:∀b o,s.heap.get? b=some o->h₁.get? b=some o) (hacc:h₁.get? D=some {cls:=.type "list",data:=.seq #[]})
  (hce:∀x c,cl.lookup x=some c->C<c->∃v,h₁.IsCell c v) :
  Inv (bD X N' scope C s H fp cl) [] (bP src σ) (upd H D (.lst [])) {s with heap:=h₁,toks:=tk}:=by
 have hn:H D=none:=by rw[hD];exact I.hok.fresh (JV _)
 have ok:=CA (N' :=N') I hkind k hfree (LM hC) hf hlt;have hDC:D≠C:=by rw[hD];exact Jm hC
 refine⟨ok,rfl,I.bare,Un.laid old (by rw[hD];exact JV _) hn,⟨m,hns,fun j x v h1 h2 h3=> ?_⟩,fun x c e=> ?_,?_,fun x c e=> ?_,fun p hp=>(by cases hp),I.hok.laid old (by rw[hD];exact JV _) ?_,?_⟩
 ·obtain⟨i,e1,e2,e3,e4⟩:=hsrc.at h1 h2
  obtain⟨m0,_,hl⟩:=I.loc;obtain⟨u,r,l⟩:=hl i x v e1 e2 (.inr e4);refine⟨u,r,?_⟩;obtain⟨own,hcl,o1,o2,o3⟩:=k.ex;have hown:own.lookup x=none:=by
   cases z:own.lookup x with
   | none=>rfl
   | some c =>
    have:=(o1 x c (Jz z)).2;rw[e3]at this;cases this
  obtain⟨c',hc'⟩:=gb (env:=X.env) (l:=scope.names) (acc:=[]) (x:=x) (.inl (Jz e3));have hcX:X.env.cells.lookup x=some c' :=by
   rcases dN hfree hc' with q|q
   ·cases q
   ·exact q
  have hcl' :cl.lookup x=some c' :=by rw[hcl,K0,hown];exact hc'
  rcases l with⟨hk,_⟩|⟨hk,c,hc,hcl2⟩
  ·have hk' :X.env.scope.names.lookup x=some .local:=hk
   rcases e4 with e4|e4
   ·rw[hk']at e4;cases e4
   ·rw[hk']at e4;cases e4
  ·have ec:c' =c:=Jl (hcX.symm.trans hc)
   subst ec
   right
   exact⟨gK e3,c',hcl',hcl2.keeps old⟩
 ·rcases k.sub hfree (show cl.lookup x=some c from e)with q|q
  ·exact hce x c e q.1
  ·obtain⟨v,z⟩:=I.cell x c q.2
   exact⟨v,z.keeps old⟩
 ·show upd H D (.lst []) C=none
  rw[aB (Kc hDC)];exact I.hok.fresh (LM hC)
 ·show upd H D (.lst []) c=none
  rcases k.sub hfree (show cl.lookup x=some c from e)with q|q
  ·have:s.heap.objs.size<c:=LL hC q.1
   rw[aB (by rw[hD];exact KZ this)];exact I.hok.fresh (LM this)
  ·obtain⟨v,z⟩:=I.cell x c q.2
   rw[aB (by rw[hD];exact Jm z.lt)];exact I.freeC x c q.2
 ·exact⟨Js _,[],0,.nil,hacc⟩
 ·show(src.map _).length=N'.length
  rw[JM];exact hsrc.len
theorem eh.but{P:Program}{w:World}{H:Hp}{h h' :Heap}(x:eh P w H h)(k:∀b u,H b≠none->h.get? b=some u->h'.get? b=some u):eh P w H h' :=fun a o e =>
 (x a o e).stay (fun b u hb q=>k b u (by rcases hb with rfl|hb;(rw[e];simp);(rw[hb];simp)) q) (fun _ q=>q) fun _ _ q=>q
noncomputable def fM(sc scope:Scope):Bool:=scope.names.all fun y=> !(y.2==NameKind.free)||(sc.names.lookup y.1==some .cell||sc.names.lookup y.1==some .free)
theorem zH{sc scope:Scope}(h:fM sc scope=true):∀y∈scope.names,y.2=.free->(sc.names.lookup y.1=some .cell\/sc.names.lookup y.1=some .free):=fun y hy hf=>by
 have z:=Jf.mp h y hy;rw[hf]at z
 simpa using z
theorem uu{use:Option (Value->Sem Unit)}{P:Value->Shared->Prop}{Q:VK}{elt target iter:Expr}{ifs:List Expr}{scope:Scope}{pos:Pos}{N' :List Str}{src:List (Option Nat)}{wi:TI}(hc:X.calm=true)(hi:PI X target iter wi)(hsrc:ba X scope N' src)
  (hkind:scope.kind=.function) (hcell:∀y∈scope.names,y.2=.cell->scope.names.lookup y.1=some .cell) (hnames:∀y∈scope.names,y.2=.local->scope.names.lookup y.1=some .local)
  (hfr:fM X.env.scope scope=true)
  (hs:∀x,foldedSetIterable iter X.env x=pure x) (I:Inv X pins σ H s) (h:Gm X N' src scope target ifs elt wi σ H Q)
  (fin:∀(C a:Addr)(s2 s4:Shared)(H2 H3:Hp)(fp:List Addr)(cl:List (Str×Addr))(m:Str->Option Value),Inv X pins σ H2 s2->(∀b∈fp,iQ X pins H2 b)->(∀b,b<s2.heap.objs.size->b≠C)->s2.heap.objs.size<=C->Inv (bD X N' scope C s2 H2 fp cl) [] (bP src σ) H3 s4->s4.heap.Ns C m->Q (.ref a) H3->∀v,compPost (model X.prog X.w) X.A X.xe use P (.ref a) C (.ok v) s4) :
  wpAny (model X.prog X.w) X.A (comprehension (.ListComp elt [⟨target,iter,ifs,0⟩] scope pos) scope X.env (firstIterPos [⟨target,iter,ifs,0⟩] pos) (newList []) (firstAsync [⟨target,iter,ifs,0⟩]) (firstIter [⟨target,iter,ifs,0⟩] X.env) use) P X.xe s:=by
 have hfree:∀y∈scope.names,y.2=.free->∃c,X.env.cells.lookup y.1=some c:=fun y hy hf=>I.ok.has y.1 (zH hfr y hy hf);refine wpAny_comprehension_free (use:=use) rfl hs (tP hfree) hkind hnames ?_;refine al (hi pins s σ H _ I h) fun xv s1 h1=>al h1 fun itv s2 h2=> ?_;obtain⟨it,fp,tn,J,H2,e,I2,T,st2,f2,q⟩:=h2;subst e;have hlt:∀b∈fp,b<s2.heap.objs.size:=fun b hb=>by
  obtain⟨o,e,_⟩:=T.obj _ _ st2 b hb;exact Je e
 refine KM (zR ?_);dsimp only
 generalize hH2:s2.heap.push {cls:=.type "list",dict:=none,data:=.seq ([]:List Value).toArray}=G2
 have hC:G2.objs.size=s2.heap.objs.size+1:=by rw[<- hH2,Ku]
 have hCle:s2.heap.objs.size<=G2.objs.size:=by rw[hC];exact LX _
 have hClt:s2.heap.objs.size<G2.objs.size:=by rw[hC];exact Nat.lt_succ_self _
 have below:∀b,b<s2.heap.objs.size->b≠G2.objs.size:=fun b hb=>by rw[hC];exact Jm (KP hb)
 obtain⟨cl,hcl0⟩:∃cl,cl=cellsFrom (G2.objs.size+1) scope.names (gc X.env scope.names []):=⟨_,rfl⟩;obtain⟨h₁,hh₁⟩:∃h₁,h₁=pushCells (G2.push {cls:=.type "dict",data:=.dict #[]}) scope.names:=⟨_,rfl⟩;rw[<- hcl0,<-hh₁];have hfr2:(G2.push {cls:=.type "dict",data:=.dict #[]}).objs.size=G2.objs.size+1:=Ku ..;have kcl:xA X scope G2.objs.size cl:=by rw[hcl0];exact CH hcell _ hfr2
 have hns₁:h₁.Ns G2.objs.size (fun _=>none):=by rw[hh₁];exact(Heap.Ns.new G2 (.type "dict")).keeps (pushCells_keeps _ _)
 have old:∀b o,s2.heap.get? b=some o->h₁.get? b=some o:=fun b o e=>by rw[hh₁];exact pushCells_keeps _ _ b o (JN _ (hH2▸JN _ e))
 have hacc:h₁.get? s2.heap.objs.size=some {cls:=.type "list",data:=.seq #[]}:=by rw[hh₁];exact pushCells_keeps _ _ _ _ (JN _ (hH2▸Jd _ rfl))
 have hce:∀x c,cl.lookup x=some c->G2.objs.size<c->∃v,h₁.IsCell c v:=fun x c e hlt' =>by
  have okc:=cellsFrom_ok scope.names (G2.push {cls:=.type "dict",data:=.dict #[]}) (G2.objs.size+1) [] ⟨fun _ _ hm=>(nomatch hm),List.Pairwise.nil⟩ (by rw[hfr2];exact JV _);rw[hfr2]at okc;have e1:cl=cellsFrom (G2.objs.size+1) scope.names []++gc X.env scope.names []:=by rw[hcl0,<-bw];rfl
  rw[e1,K0]at e;cases z:(cellsFrom (G2.objs.size+1) scope.names []).lookup x with
  | some c' =>
   rw[z]at e;cases e;exact⟨none,by rw[hh₁];exact(okc.empty x c (Jz z)).1⟩
  | none =>
   rw[z]at e
   rcases dN hfree e with q|q
   ·cases q
   ·obtain⟨v,zc⟩:=I2.cell x c q
    exact absurd (LL zc.lt hClt) (Nat.not_lt.mpr (LM hlt'))
 have hDn:H2 s2.heap.objs.size=none:=I2.hok.fresh (JV _);obtain⟨W,⟨m0,w0⟩,turn⟩:=q s2.heap.objs.size hDn;have st1:tn 0 h₁:=T.keep _ _ _ st2 fun b hb o e=>old b o e;have hsub:∀b∈fp,b∉sr X.stack:=fun b hb hz=>by
  rcases Jg.mp (I2.stkSub b hz)with z|z
  ·exact(f2 b hb).2.1 z
  ·exact(f2 b hb).2.2.1 z
 have hcl:∀x c,cl.lookup x=some c->G2.objs.size<c\/X.env.cells.lookup x=some c:=fun x c e=>by
  rcases kcl.sub hfree e with q|q
  ·exact .inl q.1
  ·exact .inr q.2
 have stat:∀{H' :Hp},(∀b∈fp,H' b=none)->∀b∈fp,iQ (bD X N' scope G2.objs.size s2 H2 fp cl) [] H' b:=fun hn b hb =>
  ⟨hn b hb,below b (hlt b hb),hsub b hb,.inl hb,fun x c e=>(by rcases hcl x c e with q|q;(exact fun z=>absurd (LL (hlt b hb) (LL hClt q)) (by rw[z];exact LI _));exact(f2 b hb).2.2.2.2.1 x c q),fun p hp=>by cases hp⟩
 have loop:∀s3:Shared,s3={s2 with heap:=h₁} ->
   codeAny (model X.prog X.w) X.A (.compLoop (.ListComp elt [⟨target,iter,ifs,0⟩] scope pos) 0 (.ref it) (.ref s2.heap.objs.size) (compEnvC scope cl G2.objs.size X.env))
    (compPost (model X.prog X.w) X.A X.xe use P (.ref s2.heap.objs.size) G2.objs.size) s3:=by
  rintro s3 rfl
  refine n9 (fun n s' =>∃i ys H',Inv (bD X N' scope G2.objs.size s2 H2 fp cl) [] (bP src σ) H' s' /\tn i s'.heap/\(∀b∈fp,H' b=none)/\W i n ys H') ?_ m0
   ⟨0,[],_,tE I2 hkind kcl hfree hsrc f2 hlt rfl hClt hns₁ old hacc hce,st1,fun b hb=>by rw[aB (Jm (hlt b hb))];exact(f2 b hb).1,w0⟩
  rintro n s' ⟨i,ys,H3,I3,st3,fr3,w3⟩
  rcases turn i n ys H3 w3 with⟨stop,qn⟩|⟨go,step⟩
  ·refine al (T.done (bD X N' scope G2.objs.size s2 H2 fp cl) rfl rfl rfl hc i [] s' _ H3 _ I3 (stat fr3) st3 stop) fun r s4 hpq=> ?_
   obtain⟨hr,I4⟩:=hpq;subst hr;obtain⟨m,hn,_⟩:=I4.loc;exact fin _ _ s2 s4 H2 H3 fp cl m I2 f2 below hCle I4 hn qn _
  ·refine al (T.item (bD X N' scope G2.objs.size s2 H2 fp cl) rfl rfl rfl hc i [] s' _ H3 _ I3 (stat fr3) st3 go) fun r s4 hpq=> ?_
   obtain⟨u,hr,h4⟩:=hpq;subst hr;refine al h4 fun _ s5 hpq=> ?_;obtain⟨x,H5,I5,r5,y5,st5,fr5⟩:=hpq;obtain⟨g,tt,te,hg,ht,he,rd⟩:=step x H5 y5 G2.objs.size s2 H2 fp cl;have I5' :=I5.pinned (stat fr5) (T.obj _ _ st5);have noE:∀{α:Type}{t:Sem α}{Q' :α->Shared->Prop}{s' :Shared}{E:Value->Shared->Prop},wpAny (model X.prog X.w) X.A t Q' (fun _ _=>False) s' ->wpAny (model X.prog X.w) X.A t Q' E s' :=fun z=>Ke z (fun _ _ y=>y) fun _ _ y=>y.elim
   have again:∀{σ7:St}{H7:Hp}{s7:Shared}{ys' :List V},Inv (bD X N' scope G2.objs.size s2 H2 fp cl) ([]++ju fp s5.heap) σ7 H7 s7->(σ7.length=N'.length/\∀(j:Nat)(v:V),(bP src σ)[j]? =some (some v)->σ7[j]? =some (some v)) ->
     (∃m',m' <n/\W (i+1) m' ys' H7)->∃m,m<n/\∃i ys H',Inv (bD X N' scope G2.objs.size s2 H2 fp cl) [] (bP src σ) H' s7/\tn i s7.heap/\(∀b∈fp,H' b=none)/\W i m ys H' :=fun{σ7 H7 s7 ys'} I7 hσ ⟨m',hm,w7⟩=>by
    refine⟨m',hm,i+1,ys',H7,(I7.unpinned).weak (by rw[show(bP src σ).length=N'.length by(show(src.map _).length=_;rw[JM];exact hsrc.len)];exact hσ.1.symm) hσ.2,T.keep _ _ _ st5 fun b hb o e=>(I7.pin (b,o) (KG _ (KG _ (du hb e)))).1,fun b hb=> ?_,w7⟩;obtain⟨o,e,d⟩:=T.obj _ _ st5 b hb;exact(I7.pin (b,o) (KG _ (KG _ (du hb e)))).2.1
   refine noE (al (hg _ s5 _ H5 x u _ I5' r5 rd) fun _ s6 hpq=> ?_);obtain⟨σ6,H6,I6,hσ,q6⟩:=hpq;refine noE (al (ht _ s6 σ6 H6 _ I6 q6) fun b s7 hpq=> ?_);obtain⟨H7,I7,q7⟩:=hpq;cases b with
   | false=>exact again I7 hσ q7
   | true =>
    rw[JS rfl]at q7 ⊢;refine noE (al (he _ s7 σ6 H7 _ I7 q7) fun y s8 hpq=> ?_);obtain⟨v,H8,I8,r8,hl8,hz8,q8⟩:=hpq;refine noE (al (mG _ s8 σ6 H8 (.ref s2.heap.objs.size) [v] (.ref s2.heap.objs.size) [y] (fun _ H9=>∃m',m' <n/\W (i+1) m' (ys++[v]) H9) I8 rfl (.cons r8 .nil) ⟨_,_,_,rfl,rfl,hl8,hz8,q8⟩) fun _ s9 hpq=> ?_);obtain⟨_,H9,I9,_,q9⟩:=hpq;exact again I9 hσ q9
 exact codeAny_compStart_list (loop _ rfl) (T.self X.A 0 _ _ _ st1 (loop _ rfl))
theorem yJ{elt target iter:Expr}{ifs:List Expr}{scope:Scope}{pos:Pos}{N' :List Str}{src:List (Option Nat)}{wi:TI}(hc:X.calm=true)(hi:PI X target iter wi)(hsrc:ba X scope N' src)
  (hkind:scope.kind=.function) (hcell:∀y∈scope.names,y.2=.cell->scope.names.lookup y.1=some .cell) (hnames:∀y∈scope.names,y.2=.local->scope.names.lookup y.1=some .local)
  (hfr:fM X.env.scope scope=true)
  (hs:∀x,foldedSetIterable iter X.env x=pure x:=by intro _;rfl) :
  PE X (.ListComp elt [⟨target,iter,ifs,0⟩] scope pos) (Gm X N' src scope target ifs elt wi):=by
 intro pins s σ H Q I h;rw[eval_ListComp];refine uu hc hi hsrc hkind hcell hnames hfr hs I h fun C a s2 s4 H2 H3 fp cl m I2 f2 below hCle I4 hn qn _=> ?_;refine⟨m,hn,fun h' hs' => ?_⟩;have ne:∀b o,s2.heap.get? b=some o->b≠C:=fun b o e=>below b (Je e);have hfree4:H3 C=none:=I4.free;have u4:Un (sr X.stack) fp H2 H3 s2.heap s4.heap:=I4.base
 have u5:Un (sr X.stack) fp H2 H3 s2.heap h' :=⟨fun b o e n z1 z2=>(hs'.2 b (ne b o e)).trans (u4.keep b o e n z1 z2),fun b o e n z1 z2=>let⟨sl,z⟩:=u4.slot b o e n z1 z2;⟨sl,(hs'.2 b (ne b o e)).trans z⟩,u4.free,
  fun b o e z=>let⟨o',z'⟩:=u4.there b o e z;⟨o',(hs'.2 b (ne b o e)).trans z'⟩,u4.tups,u4.frzs,u4.tbls⟩
 have hok:eh X.prog X.w H3 h' :=eh.but (h:=s4.heap) I4.hok fun b u hb z=>(hs'.2 b (fun w=>hb (by rw[w];exact hfree4))).trans z;exact⟨.ref a,H3,I2.call' (s' :={s4 with heap:=h'}) (ch:=fp) I4.os u5 hok I4.bare fun b hb=>⟨(f2 b hb).2.2.2.1,(f2 b hb).2.1,(f2 b hb).2.2.2.2.1,(f2 b hb).2.2.2.2.2⟩,rfl,qn⟩
end
section
variable{X:Cx}
theorem all_range(bs:List Bool):(List.range bs.length).all (fun i=>bs.getD i true)=bs.all id:=by
 rw[J8,Jf,Jf]
 constructor
 ·intro h b hb
  obtain⟨i,hi,e⟩:=List.mem_iff_getElem.mp hb;have z:=h i (Ju.mpr hi);rw[JX,Ja hi,e]at z;exact z
 ·intro h i hi
  have hi' :=Ju.mp hi;rw[JX,Ja hi'];exact h _ (Ky hi')
theorem rR{bs:List Bool}{us:List Value}(r:aL (bs.map V.bl) us){i:Nat}{v:Value}(e:us[i]? =some v):v=.bool (bs.getD i true):=by
 have hl:=r.length;rw[JM]at hl;have hi:i<us.length:=(JY.mp e).1;have hb:(bs.map V.bl)[i]? =some (.bl (bs.getD i true)):=by
  rw[Jc,JX,Ja (by omega)];rfl
 obtain⟨u,e',ru⟩:=r.get hb;rw[e]at e';cases e';exact ru
theorem qy(hc:X.calm=true):bF X (.builtin "all") (fun xs H Q=>∃(p:Addr)(bs:List Bool),xs=[.ref p]/\bG X.K H p (bs.map V.bl)/\Q (.bl (bs.all id)) H):=by
 intro pins s σ H xs us Q I r h;obtain⟨p,bs,rfl,hq,q⟩:=h;obtain⟨u,rfl,rx⟩:=vals1 r;cases rx;obtain⟨its,r',pl,hz⟩:=I.list hq;have hlen:=r'.length;rw[JM]at hlen;have hp:p<s.heap.objs.size:=by
  obtain⟨o,e,_⟩:=pl.isList;exact Je e
 refine call_all_walk (MP pl.isList ?_);refine⟨s.heap.objs.size,_,_,its.toArray.size,_,_,(fun i=>bs.getD i true),rfl,Walks.list (A:=X.A.in1) (I.ok.hd hc) s.heap.objs.size p (Jm hp) its.toArray,⟨⟨_,Jd _ rfl,rfl,rfl⟩,pl.isList.push _⟩,?_,?_⟩
 ·intro i v s' Q' E' hv hQ
  have e:=rR r' (i:=i) (v:=v) (by simpa using hv);subst e;exact Kj hQ
 ·intro h' tk hk
  refine⟨.bl (bs.all id),H,I.kept (t' :=tk) (fun b o e=>hk b o (by simpa using Jm (Je e)) (JN _ e)),?_,q⟩;rw[Jb,<-hlen,all_range];rfl
noncomputable def JE(x:Str):It:=⟨fun i _=>i<x.cps.size,fun i H v H' =>H' =H/\∃c,x.cps[i]? =some c/\v=.str ⟨#[c]⟩,fun i _=>i=x.cps.size⟩
noncomputable def iStr(tl:TE):TI:=fun σ H R=>tl σ H fun x H1=>∃z,x=.str z/\R (JE z) H1
theorem fS{P:Program}{w:World}{K:W.Frag}{tg:Expr}{it:Addr}{n:Nat}{Pw:Nat->Value->Prop}{tn:Nat->Heap->Prop}{J:It}(hW:∀A:Around,A.handled=none->Walks P w A it [it] [it] n Pw tn)
  (hob:∀i h,tn i h->∃(o:Obj)(ty:String)(vs:Array Value),h.get? it=some o/\o.cls=.type ty/\o.data=.fields vs/\["enumerate","zip","dict_itemiterator","dict_reverseitemiterator","odict_iterator","itertools.zip_longest","itertools.pairwise"].contains ty=false)
  (hgo:∀i H,J.go i H->i<n) (hst:∀i H,J.stop i H->i=n) (hy:∀i H v,Pw i v->∃x,RelV x v/\J.yld i H x H)
  (hself:∀(A:Around)(i:Nat)(s:Shared)(Q:Value->Shared->Prop)(E:Value->Shared->Prop),tn i s.heap->Q (.ref it) s->wpAny (model P w) A (pyIter (.ref it)) Q E s):lZ P w K tg J [it] it tn where
 mem:=by simp
 obj:=fun i h st b hb=>by
  have e:b=it:=by simpa using hb
  subst e;obtain⟨o,ty,vs,e,_,d,_⟩:=hob i h st;exact⟨o,e,fun v z=>by rw[d]at z;cases z⟩
 keep:=fun i h h' st k=>(hW {callerA with handled:=none} rfl).frame i h h' st k
 item:=by
  intro X hP hw hK hc i pins s σ H E I hf st hg;subst hP hw hK;obtain⟨f0,f1,f2,f3,f4,f5⟩:=hf it (by simp);refine(hW X.A (I.ok.hd hc)).item i s _ _ (hgo i H hg) st fun v h' tk hv st' kk=> ?_;obtain⟨x,rx,y⟩:=hy i H v hv;have I1:Inv X pins σ H {s with heap:=h',toks:=tk}:=I.turned (fun b o hb e=>kk b o (by simpa using hb) e) f0 f1 f3 f4 f5;obtain⟨o,ty,vs,e,c,d,nc⟩:=hob (i+1) h' st';exact⟨_,rfl,mN (s:={s with heap:=h',toks:=tk}) e c d nc ⟨x,H,I1,rx,y,st',fun b hb=>(hf b hb).1⟩⟩
 done:=by
  intro X hP hw hK hc i pins s σ H E I hf st hg;subst hP hw hK;obtain⟨f0,f1,f2,f3,f4,f5⟩:=hf it (by simp);have e:=hst i H hg;subst e;exact(hW X.A (I.ok.hd hc)).done s _ _ st fun h' tk kk=>⟨rfl,I.turned (fun b o hb e=>kk b o (by simpa using hb) e) f0 f1 f3 f4 f5⟩
 self:=hself
theorem EC{tg:Expr}{l:Expr}{tl:TE}(hl:PE X l tl):PI X tg l (iStr tl):=by
 intro pins s σ H R I h;refine al (hl pins s σ H _ I h) fun v s1 hpq=> ?_;obtain⟨x,H1,I1,r1,q1⟩:=hpq;obtain⟨z,rfl,q⟩:=q1;obtain⟨t,rfl⟩:=r1;have fp:∀b∈[s1.heap.objs.size],iQ X pins H1 b:=fun b hb=>by
  have e:b=s1.heap.objs.size:=by simpa using hb
  subst e;exact I1.fpOk (JV _) (I1.hok.fresh (JV _))
 have yl:∀(i:Nat)(H:Hp)(v:Value),SignAt z i v->∃x,RelV x v/\(JE z).yld i H x H:=fun i H v hv=>by
  obtain⟨c,u,e,rfl⟩:=hv;exact⟨.str ⟨#[c]⟩,⟨_,rfl⟩,rfl,c,e,rfl⟩
 cases ha:z.cps.all (·<128)with
 | false =>
  refine wpAny_pyIter_wide ha ?_
  refine⟨s1.heap.objs.size,[s1.heap.objs.size],fun i h=>h.IsStrIter s1.heap.objs.size "str_iterator" z t i,JE z,H1,rfl,I1.kept (t' :=s1.toks) fun b o e=>JN _ e,
   fS (fun A hA=>Walks.strWide hA _ z t) (fun i h st=> ?_) (fun i H g=>g) (fun i H g=>g) yl (fun A i s Q E st h=>wpAny_pyIter_striter_wide st h),⟨_,Jd _ rfl,rfl,rfl⟩,fp,q⟩
  obtain⟨o,e,c,d⟩:=st;exact⟨o,_,_,e,c,d,by decide⟩
 | true =>
  refine wpAny_pyIter_ascii ha ?_
  refine⟨s1.heap.objs.size,[s1.heap.objs.size],fun i h=>h.IsStrIter s1.heap.objs.size "str_ascii_iterator" z t i,JE z,H1,rfl,I1.kept (t' :=s1.toks) fun b o e=>JN _ e,
   fS (fun A hA=>Walks.strAscii hA _ z t) (fun i h st=> ?_) (fun i H g=>g) (fun i H g=>g) yl (fun A i s Q E st h=>wpAny_pyIter_striter_ascii st h),⟨_,Jd _ rfl,rfl,rfl⟩,fp,q⟩
  obtain⟨o,e,c,d⟩:=st;exact⟨o,_,_,e,c,d,by decide⟩
noncomputable def Itc(lo c:Int)(n:Nat):It:=⟨fun i _=>i<n,fun i H x H' =>H' =H/\x=.int (lo+i*c),fun i _=>i=n⟩
noncomputable def Hl(ta:TA):TI:=fun σ H R=>ta σ H fun vs H1=>∃i j c:Int,vs=[.int i,.int j,.int c]/\c≠0/\c.natAbs<1073741824/\Builtin.Range.small i j c=true/\R (Itc i c (Builtin.Range.rangeSize i j c).toNat) H1
theorem nG(i j c:Int):0<=Builtin.Range.rangeSize i j c:=by
 unfold Builtin.Range.rangeSize
 split
 ·split
  ·have:=Int.ediv_nonneg (a:=j-i-1) (b:=c) (by omega) (by omega)
   omega
  ·exact Int.le_refl _
 ·split
  ·by_cases hc:c=0
   ·subst hc
    simp
   ·have:=Int.ediv_nonneg (a:=i-j-1) (b:= -c) (by omega) (by omega)
    omega
  ·exact Int.le_refl _
theorem v8{tg:Expr}{a b c:Expr}{ta:TA}{p pos:Pos}(hg:Gl X "range")(hm:X.mg "range"=none)(ha:PA X [a,b,c] ta)(hs:starEach [a,b,c] X.env=(false,eval a X.env)::starEach [b,c] X.env:=by rfl)
  (hs2:(backTo pos (starEach [b,c] X.env)).any (·.1)=false:=by rfl):PI X tg (.Call (.Name "range" p) [a,b,c] [] pos) (Hl ta):=by
 intro pins s σ H R I h;refine Call_ (cT I hg hm boot_range (KD (al (ha pos pins s σ H _ I h) fun us s1 ⟨vs,H1,I1,r1,q1⟩=> ?_) hs hs2));obtain⟨i,j,k,e,hk,hk2,hsm,q⟩:=q1;subst e;cases r1 with
 | cons r rr =>
  cases rr with
  | cons r' rr =>
   cases rr with
   | cons r'' rr =>
    cases rr;obtain⟨t,rfl⟩:=r;obtain⟨t',rfl⟩:=r';obtain⟨t'',rfl⟩:=r'';refine call_range_3 hk ?_ (.inl (PyProof.noPylong_small hk2));refine wpAny_pyIter_range (IsRange.new ..) hsm ?_;have I2:Inv X pins σ H1 {s1 with heap:=s1.heap.push {cls:=.type "range",data:=.fields #[.int i t,.int j t',.int k t'']}}:=I1.kept (t' :=s1.toks) fun b o e=>JN _ e
    refine⟨_,[_],_,_,H1,rfl,I2.kept (t' :=s1.toks) fun b o e=>JN _ e,
     fS (fun A hA=>Walks.range hA _ i k (Builtin.Range.rangeSize i j k).toNat) (fun m h st=>⟨_,_,_,st,rfl,rfl,by decide⟩) (fun m H g=>g) (fun m H g=>g) (fun m H v hv=> ?_) (fun A m s Q E st h=>wpAny_pyIter_rangeiter st h),?_,fun b hb=> ?_,q⟩
    ·obtain⟨u,rfl⟩:=hv
     exact⟨.int (i+m*k),⟨_,rfl⟩,rfl,rfl⟩
    ·have e1:i+((0:Nat):Int)*k=i:=by simp
     have e2:(((Builtin.Range.rangeSize i j k).toNat:Nat):Int)-((0:Nat):Int)=Builtin.Range.rangeSize i j k:=by
      have:=nG i j k;omega
     show IsRangeIter _ _ (i+((0:Nat):Int)*k) ((((Builtin.Range.rangeSize i j k).toNat:Nat):Int)-((0:Nat):Int)) k;rw[e1,e2];exact Jd _ rfl
    ·have e:b=(s1.heap.push {cls:=.type "range",data:=.fields #[.int i t,.int j t',.int k t'']}).objs.size:=by simpa using hb
     subst e;exact I2.fpOk (JV _) (I2.hok.fresh (JV _))
theorem Inv.drew{pins:List (Addr×Obj)}{σ:St}{H:Hp}{s:Shared}{h' :Heap}{fp:List Addr}{p:Addr}{o:HO}{t' :Nat}(I:Inv X pins σ H s)(hf:∀b∈fp,iQ X pins H b)(k:∀b ob,b∉fp->s.heap.get? b=some ob->h'.get? b=some ob)
  (hp:s.heap.objs.size<=p) (new:aj X.prog X.w (upd H p o) h' p o):Inv X pins σ (upd H p o) {s with heap:=h',toks:=t'}:=by
 have ne:∀b u,H b=some u->b≠p:=fun b u e=>Jm (Jy (I.hok.lt e) hp);have nf:∀b u,H b=some u->b∉fp:=fun b u e hb=>by rw[(hf b hb).1]at e;cases e
 refine I.step (g' :=s.gens) (d' :=s.drawn) (ch:=fp) (fun b hb=>⟨(hf b hb).2.2.2.1,(hf b hb).2.1,(hf b hb).2.2.2.2.1,(hf b hb).2.2.2.2.2⟩) (fun b ob _ _ hc e _=>k b ob hc e) (fun b ob _ _ hc e _=>⟨ob.slots,k b ob hc e⟩)
  (fun b ob hc e n=>by rw[aB (Jm (Jy (Je e) hp))];exact n) (fun b ob hc e=>⟨ob,k b ob hc e⟩) (fun b xs e=>by rw[aB (ne b _ e)];exact e) (fun b ob u e=>by rw[aB (ne b _ e)];exact e)
  (fun b ps e=>⟨#[],by rw[aB (ne b _ e),e];simp⟩) (fun m hm=> ?_) (fun b u e=> ?_) I.bare
 ·obtain⟨ob,es,ep,ho,r⟩:=hm
  exact⟨ob,es,ep,k _ _ (fun hb=>(hf _ hb).2.1 rfl) ho,r⟩
 ·by_cases hb:b=p
  ·subst hb
   rw[aC]at e;cases e;exact new
  ·rw[aB hb]at e
   refine(I.hok b u e).stay (fun c v hc q=>k c v ?_ q) (fun c q=>by rw[aB (ne c _ q)];exact q) (fun c xs q=>by rw[aB (ne c _ q)];exact q)
   rcases hc with rfl|hc
   ·exact nf _ _ e
   ·exact nf _ _ hc
theorem Inv.drew0{pins:List (Addr×Obj)}{σ:St}{H:Hp}{s:Shared}{h' :Heap}{fp:List Addr}{t' :Nat}(I:Inv X pins σ H s)(hf:∀b∈fp,iQ X pins H b)(k:∀b ob,b∉fp->s.heap.get? b=some ob->h'.get? b=some ob) :
  Inv X pins σ H {s with heap:=h',toks:=t'}:=by
 have nf:∀b u,H b=some u->b∉fp:=fun b u e hb=>by rw[(hf b hb).1]at e;cases e
 refine I.step (g' :=s.gens) (d' :=s.drawn) (ch:=fp) (fun b hb=>⟨(hf b hb).2.2.2.1,(hf b hb).2.1,(hf b hb).2.2.2.2.1,(hf b hb).2.2.2.2.2⟩) (fun b ob _ _ hc e _=>k b ob hc e) (fun b ob _ _ hc e _=>⟨ob.slots,k b ob hc e⟩)
  (fun b ob hc e n=>n) (fun b ob hc e=>⟨ob,k b ob hc e⟩) (fun b xs e=>e) (fun b ob u e=>e) (fun b ps e=>⟨#[],by rw[e];simp⟩) (fun m hm=> ?_) (fun b u e=> ?_) I.bare
 ·obtain⟨ob,es,ep,ho,r⟩:=hm
  exact⟨ob,es,ep,k _ _ (fun hb=>(hf _ hb).2.1 rfl) ho,r⟩
 ·refine(I.hok b u e).stay (fun c v hc q=>k c v ?_ q) (fun c q=>q) (fun c xs q=>q)
  rcases hc with rfl|hc
  ·exact nf _ _ e
  ·exact nf _ _ hc
noncomputable def Itz(K:W.Frag)(a b:Addr):It :=
  ⟨fun i H=>∃xs ys x y,bG K H a xs/\bG K H b ys/\xs[i]? =some x/\ys[i]? =some y,
   fun i H v H' =>∃p,H p=none/\v=.ref p/\∀xs ys x y,bG K H a xs->bG K H b ys->xs[i]? =some x->ys[i]? =some y->H' =upd H p (.tup [x,y]),
   fun i H=>∃xs ys,bG K H a xs/\bG K H b ys/\(xs.length<=i\/ys.length<=i)⟩
noncomputable def Ii(z TI TO i1 i2 a b:Addr)(i:Nat)(h:Heap):Prop:=IsZip h z TI TO .none/\IsPair h TI (.ref i1) (.ref i2)/\(∃u v,IsPair h TO u v)/\h.IsListIter i1 a i/\h.IsListIter i2 b i
theorem xP{P:Program}{w:World}{K:W.Frag}{es:List Expr}{kt:Nat}{tpos:Pos}{z TI TO i1 i2 a b:Addr}(D:ZipApart z TI TO i1 i2 a b) :
  lZ P w K (.Tuple es kt tpos) (Itz K a b) [z,TI,TO,i1,i2] z (Ii z TI TO i1 i2 a b) where
 mem:=by simp
 obj:=fun i h st c hc=>by
  obtain⟨hz,hTI,⟨u,v,hTO⟩,⟨o1,e1,_,d1⟩,⟨o2,e2,_,d2⟩⟩:=st;simp only[Jg,J9,K9]at hc
  rcases hc with rfl|rfl|rfl|rfl|rfl
  ·exact⟨_,hz,fun v z=>by cases z⟩
  ·exact⟨_,hTI,fun v z=>by cases z⟩
  ·exact⟨_,hTO,fun v z=>by cases z⟩
  ·exact⟨_,e1,fun v z=>by rw[d1]at z;cases z⟩
  ·exact⟨_,e2,fun v z=>by rw[d2]at z;cases z⟩
 keep:=fun i h h' st k=>by
  obtain⟨hz,hTI,⟨u,v,hTO⟩,h1,h2⟩:=st;exact⟨k z (by simp) _ hz,k TI (by simp) _ hTI,⟨u,v,k TO (by simp) _ hTO⟩,h1.at fun o e=>k i1 (by simp) o e,h2.at fun o e=>k i2 (by simp) o e⟩
 item:=by
  intro X hP hw hK hc i pins s σ H E I hf st hg;subst hP hw hK;obtain⟨xs,ys,x,y,sa,sb,ex,ey⟩:=hg;obtain⟨its,ra,pa,_⟩:=I.list sa;obtain⟨its',rb,pb,_⟩:=I.list sb;obtain⟨u,eu,ru⟩:=ra.get ex;obtain⟨v,ev,rv⟩:=rb.get ey;obtain⟨hz,hTI,⟨u0,v0,hTO⟩,h1,h2⟩:=st;refine wpAny_pyNext_zip_item D hz hTI hTO h1 h2 pa.isList pb.isList (x:=u) (y:=v) (by simpa using eu) (by simpa using ev) fun h' a1 a2 a3 a4 a5 a6 hk=> ?_;refine⟨_,rfl,wpAny_letOwnedTupleGo_zip a1 fun h'' hz' hs' => ?_⟩;have zlt:z<s.heap.objs.size:=Je hz;have kk:∀c o,c∉[z,TI,TO,i1,i2]->s.heap.get? c=some o->h''.get? c=some o:=fun c o hc e=>by
   simp only[Jg,J9,K9,MA]at hc;obtain⟨c1,c2,c3,c4,c5⟩:=hc;exact(hs'.2 c c1).trans (hk c o c1 c3 c4 c5 e)
  have tI:h''.get? TI=some _:=(hs'.2 TI D.TIz).trans (hk TI _ D.TIz D.TITO D.TIi1 D.TIi2 hTI);have new:h''.get? s.heap.objs.size=some {cls:=.type "tuple",data:=.seq #[u,v]}:=(hs'.2 _ (KZ zlt)).trans a5;have I1:Inv X pins σ (upd H s.heap.objs.size (.tup [x,y])) {s with heap:=h''}:=I.drew (t' :=s.toks) hf kk (JV _) ⟨by show 2<=sizeLine;decide,[u,v],.cons ru (.cons rv .nil),⟨_,new,rfl,_,rfl,rfl⟩⟩;refine⟨.ref s.heap.objs.size,upd H s.heap.objs.size (.tup [x,y]),I1,rfl,⟨s.heap.objs.size,I.hok.fresh (JV _),rfl,fun xs' ys' x' y' sa' sb' ex' ey' => ?_⟩,⟨hz',tI,⟨_,_,(hs'.2 TO D.TOz).trans a2⟩,a3.at fun o e=>(hs'.2 i1 D.i1z).trans e,a4.at fun o e=>(hs'.2 i2 D.i2z).trans e⟩,fun c hc=> ?_⟩
  ·have q1:=I.list_inj sa sa'
   have q2:=I.list_inj sb sb';subst q1 q2;rw[ex]at ex';rw[ey]at ey';cases ex';cases ey';rfl
  ·rw[aB ?_]
   ·exact(hf c hc).1
   ·intro e
    have lt:c<s.heap.objs.size:=by
     simp only[Jg,J9,K9]at hc;obtain⟨o1,e1,_⟩:=id h1;obtain⟨o2,e2,_⟩:=id h2
     rcases hc with rfl|rfl|rfl|rfl|rfl
     ·exact zlt
     ·exact Je hTI
     ·exact Je hTO
     ·exact Je e1
     ·exact Je e2
    exact absurd e (Jm lt)
 done:=by
  intro X hP hw hK hc i pins s σ H E I hf st hg;subst hP hw hK;obtain⟨xs,ys,sa,sb,hend⟩:=hg;obtain⟨its,ra,pa,_⟩:=I.list sa;obtain⟨its',rb,pb,_⟩:=I.list sb;obtain⟨hz,hTI,⟨u0,v0,hTO⟩,h1,h2⟩:=st;have l1:=ra.length;have l2:=rb.length;refine wpAny_pyNext_zip_end (I.ok.hd hc) D hz hTI hTO h1 h2 pa.isList pb.isList ?_ fun h' hk=>⟨rfl,I.drew0 (t' :=s.toks) hf fun c o hc e=> ?_⟩
  ·rcases hend with q|q
   ·exact .inl (by simp;omega)
   ·exact .inr (by simp;omega)
  ·simp only[Jg,J9,K9,MA]at hc
   exact hk c o hc.1 hc.2.2.1 hc.2.2.2.1 hc.2.2.2.2 e
 self:=fun _ _ _ _ _ st h=>wpAny_pyIter_zip st.1 h
noncomputable def iZip(K:W.Frag)(ta:TA):TI:=fun σ H R=>ta σ H fun vs H1=>∃a b xs ys,vs=[.ref a,.ref b]/\bG K H1 a xs/\bG K H1 b ys/\R (Itz K a b) H1
theorem EA{es:List Expr}{kt:Nat}{tpos:Pos}{a b:Expr}{ta:TA}{p pos:Pos}(hg:Gl X "zip")(hm:X.mg "zip"=none)(ha:PA X [a,b] ta)(hs:starEach [a,b] X.env=(false,eval a X.env)::starEach [b] X.env:=by rfl)
  (hs2:(backTo pos (starEach [b] X.env)).any (·.1)=false:=by rfl):PI X (.Tuple es kt tpos) (.Call (.Name "zip" p) [a,b] [] pos) (iZip X.K ta):=by
 intro pins s σ H R I h;refine Call_ (cT I hg hm boot_zip (KD (al (ha pos pins s σ H _ I h) fun us s1 ⟨vs,H1,I1,r1,q1⟩=> ?_) hs hs2));obtain⟨l1,l2,xs,ys,e,sa,sb,q⟩:=q1;subst e;obtain⟨u,v,rfl,ru,rv⟩:=vals2 r1;cases ru;cases rv;obtain⟨its,ra,pa,_⟩:=I1.list sa;obtain⟨its',rb,pb,_⟩:=I1.list sb;have lt1:l1<s1.heap.objs.size:=by obtain⟨o,e,_⟩:=pa.isList;exact Je e
 have lt2:l2<s1.heap.objs.size:=by obtain⟨o,e,_⟩:=pb.isList;exact Je e
 refine call_zip_2 pa.isList pb.isList fun h' hz hTI hTO hit1 hit2 hsz hk=> ?_;refine wpAny_pyIter_zip hz ?_;have I2:Inv X pins σ H1 {s1 with heap:=h'}:=I1.kept (t' :=s1.toks) hk;refine⟨s1.heap.objs.size+4,[s1.heap.objs.size+4,s1.heap.objs.size+2,s1.heap.objs.size+3,s1.heap.objs.size,s1.heap.objs.size+1],_,_,H1,rfl,I2,xP (zipApart_new lt1 lt2),⟨hz,hTI,⟨_,_,hTO⟩,hit1,hit2⟩,fun c hc=> ?_,q⟩;have le:s1.heap.objs.size<=c:=by
  simp only[Jg,J9,K9]at hc
  rcases hc with rfl|rfl|rfl|rfl|rfl<;>omega
 exact I1.fpOk le (I1.hok.fresh le)
theorem yO:cv X (binaryOp .FloorDiv) (rI (fun _ j=>0<j/\j.natAbs.log2<9000) fun i j=>.int (i/j)):=Hd fun i j _ _ _ _ _ hc q=>by
 have h1:(0:Int)<j:=hc.1;exact floordiv_int (by omega) (by rw[Int.fdiv_eq_ediv_of_nonneg i (by omega)];exact q) (.inl (PyProof.noPylong_of_log2 hc.2))
end
theorem aD.tup{K:W.Frag}{H H' :Hp}{a:Addr}{xs:List V}(e:aD H H')(h:bX K H a xs):bX K H' a xs:=by
 rcases h with(h|⟨o,h⟩)|h
 ·exact .inl (.inl (e _ _ h))
 ·exact .inl (.inr ⟨o,e _ _ h⟩)
 ·exact .inr h
theorem aJ{H:Hp}{p:Addr}(h:H p=none)(o:HO):aD H (upd H p o):=fun b u q=>by rw[aB (aE q h)];exact q
theorem aD.upd{H H' :Hp}{D:Addr}{o:HO}(e:aD H H')(h:H D=none):aD H (upd H' D o):=fun b u q=>by rw[aB (aE q h)];exact e b u q
noncomputable def cO(z:Str):List V:=z.cps.toList.map fun c=>V.str ⟨#[c]⟩
theorem jm(z:Str):(cO z).length=z.length:=by
 unfold cO;rw[JM,Jv];rfl
noncomputable def C9(n:Nat):List V:=(List.range n).map fun i=>V.int (i:Nat)
section
variable{X:Cx}{N' :List Str}{scope:Scope}{elt:Expr}{σ:St}{H1:Hp}{J:It}{xs:List V}
theorem rC{r:List (Option Nat)}{σ:St}{x:V}(h:r.length+1=N'.length) :
  ((bP (none::r) σ).set 0 (some x)).length=N'.length/\∀(j:Nat)(v:V),(bP (none::r) σ)[j]? =some (some v)->((bP (none::r) σ).set 0 (some x))[j]? =some (some v):=by
 refine⟨by rw[Kg];simp[bP,h],fun j v e=> ?_⟩;cases j with
 | zero=>simp[bP]at e
 | succ j=>simpa [bP]using e
end
structure Def(K:W.Frag)(mg:Str->Option Value)(x:Str)(st:Stmt)(ps:List Str)(f:Addr)(fd:FuncData):Prop where
 fn:GP K x x st f fd
 nm:mg x=some (.ref f)
 bd:Binds K fd ps []
theorem HR{X:Cx}{x:Str}{n:String}{pos:Pos}(hg:Gl X x)(hm:X.mg x=none)(hv:bootBuiltins x=some (.type n))(hn:x≠"__name__":=by decide)(hd:(x==("__debug__":Str))=false:=by decide):PE X (.Name x pos) (tC (.ty n)) :=
 BH (v:=.ty n) hg hm hv rfl hn hd
section
variable{K:W.Frag}
theorem eS(n:String):W.kitOne K (.type n) (.type n)=some true:=by
 unfold W.kitOne;rw[JS (by simp)]
end
noncomputable def Hg:V->Nat
 | .str z=>z.length
 | _=>0
noncomputable def uH(K:W.Frag):Sp:=fun vs H Q _=>∃(a:Addr)(ns:List Int),vs=[.ref a]/\bG K H a (ns.map V.int)/\ns.length<=63/\∀H',Q (.bl true) H'
section
variable{X:Cx}{e st:Expr}{te ts:TE}{pos p2:Pos}
end
section
variable{κ:Type}[DecidableEq κ]
noncomputable def eA(kvs:List (κ×V))(k:κ):Option V:=(kvs.find? fun kv=>decide (kv.1=k)).map (·.2)
noncomputable def ci(kvs:List (κ×V))(k:κ)(v:V):List (κ×V) :=
 if(kvs.any fun kv=>decide (kv.1=k))=true then kvs.map (fun kv=>if kv.1=k then(kv.1,v)else kv)else kvs++[(k,v)]
theorem jZ{p:κ×V}{r:List (κ×V)}{k:κ}(e:p.1=k):eA (p::r) k=some p.2:=by simp[eA,Ka,e]
theorem ja{p:κ×V}{r:List (κ×V)}{k:κ}(e:¬p.1=k):eA (p::r) k=eA r k:=by simp[eA,Ka,e]
theorem oh(k:κ):∀kvs:List (κ×V),(kvs.any fun kv=>decide (kv.1=k))=(eA kvs k).isSome
 | []=>rfl
 | p::r=>by
  rw[L3]
  by_cases e:p.1=k
  ·simp only[jZ e,Jo e,Bool.true_or,Option.isSome_some]
  ·rw[ja e,Jk e,Bool.false_or];exact oh k r
theorem eQ(kvs:List (κ×V))(k:κ)(v:V):(ci kvs k v).length<=kvs.length+1:=by
 unfold ci
 split
 ·rw[JM];omega
 ·rw[Jj,Jh,K8];omega
theorem iP.isSome_eq{o:Option V}{u:Option Value}(r:iP o u):o.isSome=u.isSome:=by
 cases o with
 | none=>cases u with
  | none=>rfl
  | some _=>exact(show False from r).elim
 | some _=>cases u with
  | none=>exact(show False from r).elim
  | some _=>rfl
theorem iP.getD{o:Option V}{u:Option Value}{d:V}{d' :Value}(r:iP o u)(rd:RelV d d'):RelV (o.getD d) (u.getD d'):=by
 cases o with
 | none=>cases u with
  | none=>exact rd
  | some _=>exact(show False from r).elim
 | some _=>cases u with
  | none=>exact(show False from r).elim
  | some _=>exact r
theorem KV.val{kvs:List (κ×V)}{vs:List (κ×Value)}(r:KV kvs vs)(k:κ):iP (eA kvs k) (valueAt vs k):=by
 unfold KV at r
 induction r with
 | nil=>exact True.intro
 | @cons p q ps qs h t ih =>
  obtain⟨h1,h2⟩:=h
  by_cases e:p.1=k
  ·have e' :q.1=k:=h1.symm.trans e
   have b:valueAt (q::qs) k=some q.2:=by simp[valueAt,Ka,e']
   rw[jZ e,b];exact h2
  ·have e' :¬q.1=k:=fun z=>e (h1.trans z)
   have b:valueAt (q::qs) k=valueAt qs k:=by simp[valueAt,Ka,e']
   rw[ja e,b];exact ih
theorem KV.any{kvs:List (κ×V)}{vs:List (κ×Value)}(r:KV kvs vs)(k:κ):(kvs.any fun kv=>decide (kv.1=k))=vs.any fun kv=>decide (kv.1=k):=by
 unfold KV at r
 induction r with
 | nil=>rfl
 | cons h t ih=>rw[L3,L3,ih,h.1]
theorem KV.repl{kvs:List (κ×V)}{vs:List (κ×Value)}(r:KV kvs vs)(k:κ){y:V}{u:Value}(ry:RelV y u) :
  KV (kvs.map fun kv=>if kv.1=k then(kv.1,y)else kv) (vs.map fun kv=>if kv.1=k then(kv.1,u)else kv):=by
 unfold KV at r ⊢
 induction r with
 | nil=>exact .nil
 | @cons p q ps qs h t ih =>
  rw[JZ,JZ];refine .cons ?_ ih;obtain⟨h1,h2⟩:=h
  by_cases e:p.1=k
  ·rw[JS e,JS (h1.symm.trans e)];exact⟨h1,ry⟩
  ·rw[JR e,JR (fun z=>e (h1.trans z))];exact⟨h1,h2⟩
theorem KV.put{kvs:List (κ×V)}{vs:List (κ×Value)}(r:KV kvs vs)(k:κ){y:V}{u:Value}(ry:RelV y u):KV (ci kvs k y) (stored vs k u):=by
 unfold ci stored;rw[r.any k]
 by_cases e:(vs.any fun kv=>decide (kv.1=k))=true
 ·rw[JS e,JS e];exact r.repl k ry
 ·rw[JR e,JR e];exact Paired.snoc r ⟨rfl,ry⟩
theorem KV.length{kvs:List (κ×V)}{vs:List (κ×Value)}(r:KV kvs vs):kvs.length=vs.length:=ME r
end
theorem qC{P:Program}{w:World}{k:ae}{u:Value}(r:RelV (kV k) u):(aU P w).is k u=true:=by
 cases k with
 | inl i=>obtain⟨t,e⟩:=(show∃t,u=Value.int i t from r);subst e;exact py P w i t
 | inr x=>obtain⟨t,e⟩:=(show∃t,u=Value.str x t from r);subst e;exact px P w x t
theorem mM{P:Program}{w:World}:∀{ks:List ae}{us:List Value},aL (ks.map kV) us->ItemsAre (aU P w) ks us
 | [],_,r=>by rw[Kw]at r;cases r;exact .nil
 | k::ks,_,r=>by
  rw[JZ]at r;cases r with
  | cons h t=>exact .cons (qC h) (mM t)
noncomputable abbrev KT(H:Hp):List (List ae×V)->List (List ae×Addr×Value)->Prop:=Paired fun p q=>p.1=q.1/\H q.2.1=some (.tup (p.1.map kV))/\RelV p.2 q.2.2
theorem KT.val{H:Hp}{kvs:List (List ae×V)}{xs:List (List ae×Addr×Value)}(r:KT H kvs xs)(k:List ae):iP (eA kvs k) ((atKey xs k).map (·.2)):=by
 induction r with
 | nil=>exact True.intro
 | @cons p q ps qs h t ih =>
  obtain⟨h1,_,h2⟩:=h
  by_cases e:p.1=k
  ·have e' :q.1=k:=h1.symm.trans e
   have b:atKey (q::qs) k=some q.2:=by simp[atKey,Ka,e']
   rw[jZ e,b];exact h2
  ·have e' :¬q.1=k:=fun z=>e (h1.trans z)
   have b:atKey (q::qs) k=atKey qs k:=by simp[atKey,Ka,e']
   rw[ja e,b];exact ih
theorem KT.repl{H:Hp}{kvs:List (List ae×V)}{xs:List (List ae×Addr×Value)}(r:KT H kvs xs)(k:List ae){y:V}{u:Value}(ry:RelV y u) :
  KT H (kvs.map fun kv=>if kv.1=k then(kv.1,y)else kv) (xs.map (putAt k u)):=by
 induction r with
 | nil=>exact .nil
 | @cons p q ps qs h t ih =>
  rw[JZ,JZ];refine .cons ?_ ih;obtain⟨h1,h2,h3⟩:=h;unfold putAt
  by_cases e:p.1=k
  ·rw[JS e,JS (h1.symm.trans e)];exact⟨h1,h2,ry⟩
  ·rw[JR e,JR (fun z=>e (h1.trans z))];exact⟨h1,h2,h3⟩
theorem KT.put{H:Hp}{kvs:List (List ae×V)}{xs:List (List ae×Addr×Value)}(r:KT H kvs xs)(k:List ae){b:Addr}{y:V}{u:Value}(hb:H b=some (.tup (k.map kV)))(ry:RelV y u) :
  KT H (ci kvs k y) (storedH xs k b u):=by
 have e:(kvs.any fun kv=>decide (kv.1=k))=(atKey xs k).isSome:=by
  rw[oh,(r.val k).isSome_eq,Option.isSome_map]
 unfold ci storedH;rw[e]
 by_cases q:(atKey xs k).isSome=true
 ·rw[JS q,JS q];exact r.repl k ry
 ·rw[JR q,JR q];exact Paired.snoc r ⟨rfl,hb,ry⟩
theorem KT.keeps{H H' :Hp}{kvs:List (List ae×V)}{xs:List (List ae×Addr×Value)}(r:KT H kvs xs)(ht:∀b ys,H b=some (.tup ys)->H' b=some (.tup ys)):KT H' kvs xs :=
 Paired.mapP r fun _ _ z=>⟨z.1,ht _ _ z.2.1,z.2.2⟩
section
variable{P:Program}{w:World}{H:Hp}{h:Heap}{a:Addr}
theorem C1{u:HO}(ok:eh P w H h)(e:Rd H a u):aj P w H h a u:=e.ok ok
theorem kX{kvs:List (ae×V)}(ok:eh P w H h)(e:Rd H a (.dK kvs)):kvs.length<=sizeLine/\(a==sysModules)=false/\∃vs,KV kvs vs/\h.DictOf (aU P w) a vs :=
 show aj P w H h a (.dK kvs)from C1 ok e
theorem zV{kvs:List (ae×V)}(ok:eh P w H h)(e:H a=some (.dK kvs)):kvs.length<=sizeLine/\(a==sysModules)=false/\∃vs,KV kvs vs/\h.DictOf (aU P w) a vs:=kX ok (.inl e)
theorem kH{ks:List ae}(ok:eh P w H h)(e:H a=some (.tup (ks.map kV))):(tupleKind (aU P w)).is h ks a:=by
 obtain⟨_,its,r,o,h1,h2,n,h3,_⟩:=(show aj P w H h a (.tup (ks.map kV))from ok a _ e);exact⟨o,its.toArray,n,h1,h2,h3,by simpa using mM r⟩
theorem qi{kvs:List (List ae×V)}(ok:eh P w H h)(e:Rd H a (.dT kvs)):kvs.length<=sizeLine/\(a==sysModules)=false /\
  ∃xs,KT H kvs xs/\h.DictOfH (tupleKind (aU P w)) a xs:=by
 obtain⟨z,y,xs,r,o,es,ep,h1,h2,h3,h4,h5⟩:=(show aj P w H h a (.dT kvs)from C1 ok e);refine⟨z,y,xs,r,o,es,ep,h1,h2,h3,h4,fun x hx=> ?_,h5⟩;have all:∀{l:List (List ae×V)}{m:List (List ae×Addr×Value)},KT H l m->∀x∈m,(tupleKind (aU P w)).is h x.1 x.2.1:=by
  intro l m q
  induction q with
  | nil=>intro x hx;exact nomatch hx
  | @cons p q ps qs hq t ih =>
   intro x hx
   rcases Jg.mp hx with e|hx
   ·subst e
    exact kH ok (by rw[<- hq.1];exact hq.2.1)
   ·exact ih x hx
 exact all r x hx
theorem DE{kvs:List (List ae×V)}(ok:eh P w H h)(e:H a=some (.dT kvs)):kvs.length<=sizeLine/\(a==sysModules)=false /\
  ∃xs,KT H kvs xs/\h.DictOfH (tupleKind (aU P w)) a xs:=qi ok (.inl e)
end
noncomputable def iR(H:Hp)(a:Addr)(y:V)(r:Option V):Prop :=
 (∃kvs k,Rd H a (.dK kvs)/\y=kV k/\r=eA kvs k)\/∃kvs k b,Rd H a (.dT kvs)/\y=.ref b/\H b=some (.tup (k.map kV))/\r=eA kvs k
noncomputable def rK(H:Hp)(a:Addr)(y v:V)(H' :Hp):Prop :=
 (∃kvs k,H a=some (.dK kvs)/\y=kV k/\kvs.length<sizeLine/\H' =upd H a (.dK (ci kvs k v))) \/
 ∃kvs k b,H a=some (.dT kvs)/\y=.ref b/\H b=some (.tup (k.map kV))/\kvs.length<sizeLine/\H' =upd H a (.dT (ci kvs k v))
theorem iR.k{H:Hp}{a:Addr}{kvs:List (ae×V)}{k:ae}(e:H a=some (.dK kvs)):iR H a (kV k) (eA kvs k):=.inl ⟨kvs,k,.inl e,rfl,rfl⟩
theorem iR.t{H:Hp}{a b:Addr}{kvs:List (List ae×V)}{k:List ae}(e:H a=some (.dT kvs))(eb:H b=some (.tup (k.map kV))):iR H a (.ref b) (eA kvs k):=.inr ⟨kvs,k,b,.inl e,rfl,eb,rfl⟩
theorem rK.k{H:Hp}{a:Addr}{kvs:List (ae×V)}{k:ae}{v:V}(e:H a=some (.dK kvs))(hl:kvs.length<sizeLine):rK H a (kV k) v (upd H a (.dK (ci kvs k v))):=.inl ⟨kvs,k,e,rfl,hl,rfl⟩
theorem rK.t{H:Hp}{a b:Addr}{kvs:List (List ae×V)}{k:List ae}{v:V}(e:H a=some (.dT kvs))(eb:H b=some (.tup (k.map kV)))(hl:kvs.length<sizeLine) :
  rK H a (.ref b) v (upd H a (.dT (ci kvs k v))):=.inr ⟨kvs,k,b,e,rfl,eb,hl,rfl⟩
section
variable{X:Cx}{pins:List (Addr×Obj)}{σ:St}{H:Hp}{s:Shared}{a:Addr}{y v:V}{u r:Value}{o:Option V}{A:Around}{E:Value->Shared->Prop}
theorem Inv.big(I:Inv X pins σ H s):sysModules<s.heap.objs.size:=by
 have h:mainGlobals<s.heap.objs.size:=(I.mod.glob.keeps I.bk).lt;exact LL (by decide) h
theorem wc{Q:Value->Shared->Prop}(hu:A.units+1<cLine)(I:Inv X pins σ H s)(g:iR H a y (some v))(ry:RelV y u)(h:∀w' s',Inv X pins σ H s' ->RelV v w' ->Q w' s') :
  wpAny (model X.prog X.w) A (getItem (.ref a) u) Q E s:=by
 rcases g with⟨kvs,k,e,ey,l⟩|⟨kvs,k,b,e,ey,eb,l⟩
 ·subst ey
  obtain⟨z,hd,vs,rel,dd⟩:=kX I.hok e;obtain⟨w',hw,rw'⟩:=iP.some_of (v:=v) (o:=valueAt vs k) (by rw[l];exact rel.val k);exact wpAny_getItem_of (qC ry) dd.mapOf hw (h w' _ (I.tok _) rw')
 ·subst ey
  cases(show u=Value.ref b from ry);obtain⟨z,hd,xs,rel,dd⟩:=qi I.hok e;obtain⟨w',hw,rw'⟩:=iP.some_of (v:=v) (o:=(atKey xs k).map (·.2)) (by rw[l];exact rel.val k);obtain⟨p,hp,hp2⟩:=Option.map_eq_some_iff.mp hw;refine wpAny_getItem_heap (tupleKind_room_in1 hu) (kH I.hok eb) dd hp ?_;rw[hp2];exact h w' _ (I.tok _) rw'
theorem jX{h' :Heap}{t' :Nat}{ob:HO}(I:Inv X pins σ H s)(mu:JA (H a))(hs:Heap.SameBut a s.heap h')(he:∃q,h'.get? a=some q)(new:aj X.prog X.w (upd H a ob) h' a ob) :
  Inv X pins σ (upd H a ob) {s with heap:=h',toks:=t'} :=
 I.write (x:=a) (e:=a) mu (.inl rfl) (fun b q hb z=>(hs.2 b hb).trans z) he new
theorem tB{P:Program}{w:World}{H' :Hp}{h' :Heap}{kvs:List (ae×V)}{vs:List (ae×Value)}(z:kvs.length<=sizeLine)(hd:(a==sysModules)=false)(rel:KV kvs vs)(dd:h'.DictOf (aU P w) a vs) :
  aj P w H' h' a (.dK kvs):=⟨z,hd,vs,rel,dd⟩
theorem wb{H' :Hp}{Q:Unit->Shared->Prop}(hu:A.units+1<cLine)(I:Inv X pins σ H s)(g:rK H a y v H')(ry:RelV y u)(rv:RelV v r)(h:∀s',Inv X pins σ H' s' ->Q () s') :
  wpAny (model X.prog X.w) A (setItem (.ref a) u r) Q E s:=by
 rcases g with⟨kvs,k,e,ey,l,eH⟩|⟨kvs,k,b,e,ey,eb,l,eH⟩
 ·subst ey eH
  obtain⟨z,hd,vs,rel,dd⟩:=zV I.hok e;have hz:vs.length<=sizeLine:=by rw[<- rel.length];exact z
  have hl:(ci kvs k v).length<=sizeLine:=by have:=eQ kvs k v;omega
  refine wpAny_setItem_pairs (hsz:=hz) (qC ry) dd fun h' dd' hs=>h _ ?_;have he:∃q,h'.get? a=some q:=let⟨q,_,_,hq,_⟩:=dd';⟨q,hq⟩
  exact jX I (by rw[e];exact True.intro) hs he (tB hl hd (rel.put k rv) dd')
 ·subst ey eH
  cases(show u=Value.ref b from ry);obtain⟨z,hd,xs,rel,dd⟩:=DE I.hok e;have hz:xs.length<=sizeLine:=by rw[<- ME rel];exact z
  have hl:(ci kvs k v).length<=sizeLine:=by have:=eQ kvs k v;omega
  refine wpAny_setItem_heap (hsz:=hz) (tupleKind_room_in1 hu) (kH I.hok eb) dd fun h' dd' hs=>h _ ?_;obtain⟨q,es,ep,hq,h2,h3,h4,_,h5⟩:=dd';refine jX I (by rw[e];exact True.intro) hs ⟨q,hq⟩ ⟨hl,hd,_,(rel.put k eb rv).keeps fun c ys ec=> ?_,q,es,ep,hq,h2,h3,h4,h5⟩;rw[aB (yY ec e (fun z=>nomatch z))];exact ec
end
section
variable{X:Cx}{pins:List (Addr×Obj)}{σ:St}{H:Hp}{s:Shared}{a:Addr}{kvs:List (ae×V)}{k:ae}{u:Value}{A:Around}{E:Value->Shared->Prop}
theorem IA{Q:Value->Shared->Prop}(I:Inv X pins σ H s)(e:Rd H a (.dK kvs))(h:∀t s',Inv X pins σ H s' ->Q (.int kvs.length t) s'):wpAny (model X.prog X.w) A (call (.builtin "len") [.ref a]) Q E s:=by
 obtain⟨z,hd,vs,rel,dd⟩:=kX I.hok e;refine call_len_dict hd dd (by rw[<- rel.length];rw[KC]at z;omega) ?_;rw[<- rel.length];exact h _ _ (I.tok _)
end
noncomputable def Im(i:Expr):Prop:=∀ov iv,subscripted i false ov iv=operate [ov,iv] (getItem ov iv)
theorem Ap{prog:Program}{w:World}{A:Around}{E:Value->Shared->Prop}{s:Shared}{env:Env}{value eI:Expr}{pos:Pos}{T id:String}{Q:Value->Shared->Prop}
  (hl:typeLookup (.type T) "__getitem__"=pure (some (.builtin id))) (hs:Im eI)
  (h:wpAny (model prog w) A (eval value env) (fun o s₁=>wpAny (model prog w) A (eval eI env) (fun i s₂=>s₂.TypeIs o T/\wpAny (model prog w) A (getItem o i) Q E s₂) E s₁) E s) :
  wpAny (model prog w) A (eval (.Subscript value eI pos) env) Q E s:=by
 refine Subscript_ (Ke h (fun o s₁ h₁=>Ke h₁ (fun i s₂ h₂=> ?_) fun _ _ x=>x) fun _ _ x=>x);obtain⟨hT,h₂⟩:=h₂;unfold subscriptTail;refine JL ?_;rw[getitemInPython_of_ne hT.not_modules];refine JL (LV hT hl ?_);have fin:wpAny (model prog w) A (subscripted eI false o i) (fun r s₃=>wpAny (model prog w) A (letTemporaryGo value o r >>= fun _=>pure r) Q E s₃) E s₂:=by
  rw[hs o i];exact wpAny_operating (Ke h₂ (fun r s₃ h₃=>JL (wpAny_letTemporaryGo (JQ h₃))) fun _ _ x=>x)
 first
  | exact JQ (JL fin)
  | exact JL (JQ (JL fin))
  | exact JL fin
theorem qk{X:Cx}{pins:List (Addr×Obj)}{σ:St}{H:Hp}{s:Shared}{a:Addr}{y:V}{o:Option V}(I:Inv X pins σ H s)(g:iR H a y o):s.TypeIs (.ref a) "dict":=by
 rcases g with⟨kvs,k,e,_,_⟩|⟨kvs,k,b,e,_,_,_⟩
 ·obtain⟨_,_,vs,_,dd⟩:=kX I.hok e
  exact dd.typeIs
 ·obtain⟨_,_,xs,_,dd⟩:=qi I.hok e
  exact dd.typeIs
noncomputable def Gp(td ty:TE):TE:=fun σ H Q=>td σ H fun x H1=>ty σ H1 fun y H2=>∃a v,x=.ref a/\iR H2 a y (some v)/\Q v H2
noncomputable def HF(td ty tv:TE):TS:=fun D σ H=>tv σ H fun v H1=>td σ H1 fun x H2=>ty σ H2 fun y H3=>∃a H4,x=.ref a/\rK H3 a y v H4/\D.nx σ H4
section
variable{X:Cx}{o i e value:Expr}{pos pos' tpos:Pos}{td ty tv:TE}
theorem uW(hu:X.A.units+1<cLine)(ho:PE X o td)(hi:PE X i ty)(hs:Im i):PE X (.Subscript o i pos) (Gp td ty):=by
 intro pins s σ H Q I h;refine Ap PySem.F.slot_dict_getitem.lookup hs (al (ho pins s σ H _ I h) fun u s1 ⟨x,H1,I1,rx,q1⟩=>al (hi pins s1 σ H1 _ I1 q1) fun iv s2 hpq=> ?_);obtain⟨y,H2,I2,ry,a,v,ex,g,q2⟩:=hpq;subst ex;obtain rfl:u=Value.ref a:=rx;exact⟨qk I2 g,wc hu I2 g ry fun w' s3 I3 rw' =>⟨v,H2,I3,rw',q2⟩⟩
theorem uT(hu:X.A.units+1<cLine)(ho:PE X o td)(hi:PE X i ty)(hv:PE X value tv)(hs:swapsWith value (some (.Subscript o i pos')) pos.line X.env=pure false) :
  PS X (.Assign [.Subscript o i pos'] value pos) (HF td ty tv):=by
 intro pins s σ H D I h;refine wpAny_Assign_Subscript (al (hv pins s σ H _ I h) fun r s1 ⟨v,H1,I1,rv,q1⟩=>al (ho pins s1 σ H1 _ I1 q1) fun u s2 ⟨x,H2,I2,rx,q2⟩=>al (hi pins s2 σ H2 _ I2 q2) fun iv s3 ⟨y,H3,I3,ry,a,H4,ex,g,q3⟩=> ?_) hs;subst ex;obtain rfl:u=Value.ref a:=rx;exact wb hu I3 g ry rv fun s4 I4=>⟨σ,H4,I4,q3⟩
end
theorem qj{P:Program}{w:World}{H:Hp}(h:Heap)(hb:sysModules<h.objs.size):aj P w H (h.push {cls:=.type "dict",data:=.dict #[]}) h.objs.size (.dK []) :=
 ⟨Js _,Ks.mpr (Kc (Jm hb)),[],.nil,Heap.DictOf.new h⟩
theorem zU{P:Program}{w:World}{H:Hp}(h:Heap)(hb:sysModules<h.objs.size):aj P w H (h.push {cls:=.type "dict",data:=.dict #[]}) h.objs.size (.dT []) :=
 ⟨Js _,Ks.mpr (Kc (Jm hb)),[],.nil,_,#[],0,Jd _ rfl,⟨rfl,rfl,rfl⟩,rfl,rfl,List.nodup_nil⟩
noncomputable def DZ:TE:=fun _ H Q=>∀p,H p=none->Q (.ref p) (upd H p (.dK []))
section
variable{X:Cx}{pos:Pos}
theorem pZ:PE X (.Dict [] [] pos) DZ:=fun pins s σ H Q I h =>
 wpAny_Dict_empty ⟨.ref s.heap.objs.size,_,I.laid (a:=s.heap.objs.size) (o:=.dK []) (t' :=s.toks) (fun _ _ q=>JN _ q) (JV _) (qj s.heap I.big),rfl,h _ (I.hok.fresh (JV _))⟩
end
noncomputable def rZ:List (TE×TE)->St->Hp->(List (V×V)->Hp->Prop)->Prop
 | [],_,H,Q=>Q [] H
 | (tk,tv)::r,σ,H,Q=>tk σ H fun x H1=>tv σ H1 fun y H2=>rZ r σ H2 fun ps H3=>Q ((x,y)::ps) H3
noncomputable abbrev VV:List (V×V)->List (Value×Value)->Prop:=Paired fun p q=>RelV p.1 q.1/\RelV p.2 q.2
noncomputable def PPs(X:Cx)(pos:Pos)(keys:List (Option Expr))(values:List Expr)(trs:List (TE×TE)):Prop :=
 ∀(pins:List (Addr×Obj))(s:Shared)(σ:St)(H:Hp)(Q:List (V×V)->Hp->Prop),Inv X pins σ H s->rZ trs σ H Q ->
  wpAny (model X.prog X.w) X.A (evalPairs (pairTrees keys values X.env pos)) (fun vs s' =>∃ps H',Inv X pins σ H' s' /\VV ps vs/\Q ps H') X.xe s
theorem A9{X:Cx}{pos:Pos}:PPs X pos [] [] []:=fun pins s σ H Q I h=>pairTrees_nil_walk ⟨[],H,I,.nil,h⟩
theorem yE{X:Cx}{pos:Pos}{k v:Expr}{ks:List (Option Expr)}{vs:List Expr}{tk tv:TE}{trs:List (TE×TE)}(hk:PE X k tk)(hv:PE X v tv)(hr:PPs X pos ks vs trs) :
  PPs X pos (some k::ks) (v::vs) ((tk,tv)::trs):=fun pins s σ H Q I h =>
 pairTrees_cons_walk (al (hk pins s σ H _ I h) fun u s1 ⟨x,H1,I1,rx,q1⟩=>al (hv pins s1 σ H1 _ I1 q1) fun w2 s2 ⟨y,H2,I2,ry,q2⟩ =>
  al (hr pins s2 σ H2 _ I2 q2) fun ws s3 ⟨ps,H3,I3,rel,q3⟩=>⟨(x,y)::ps,H3,I3,.cons ⟨rx,ry⟩ rel,q3⟩)
noncomputable def fh(kvs more:List (ae×V)):List (ae×V):=more.foldl (fun acc kv=>ci acc kv.1 kv.2) kvs
theorem KV.merge:∀{more:List (ae×V)}{rs:List (ae×Value)}{kvs:List (ae×V)}{vs:List (ae×Value)},KV more rs->KV kvs vs->KV (fh kvs more) (merged vs rs):=by
 intro more rs kvs vs r;unfold KV at r
 induction r generalizing kvs vs with
 | nil=>intro q;exact q
 | @cons p q ps qs h t ih =>
  intro r0;have e:KV (ci kvs p.1 p.2) (stored vs q.1 q.2):=by
   have:=r0.put p.1 h.2;rw[<- h.1];exact this
  exact ih e
theorem fL:∀(more kvs:List (ae×V)),(fh kvs more).length<=kvs.length+more.length
 | [],kvs=>by show kvs.length<=kvs.length+0;omega
 | p::r,kvs=>by
  have h1:=fL r (ci kvs p.1 p.2);have h2:=eQ kvs p.1 p.2;show(fh (ci kvs p.1 p.2) r).length<=_;rw[Jh];omega
theorem kn{P:Program}{w:World}:∀{kvs:List (ae×V)}{ws:List (Value×Value)},VV (kvs.map fun kv=>(kV kv.1,kv.2)) ws->∃rs,Carries (aU P w) ws rs/\KV kvs rs
 | [],_,r=>by rw[Kw]at r;cases r;exact⟨[],True.intro,.nil⟩
 | p::kvs,_,r=>by
  rw[JZ]at r;cases r with
  | @cons a b as bs h t =>
   obtain⟨rs,c,q⟩:=kn (P:=P) (w:=w) t;obtain⟨b1,b2⟩:=b;exact⟨(p.1,b2)::rs,⟨qC h.1,rfl,c⟩,.cons ⟨rfl,h.2⟩ q⟩
noncomputable def Go(trs:List (TE×TE)):TE:=fun σ H Q=>∀p,H p=none->rZ trs σ (upd H p (.dK [])) fun ps H2=>H2 p=some (.dK [])/\∃kvs:List (ae×V),ps=kvs.map (fun kv=>(kV kv.1,kv.2))/\kvs.length<=15/\Q (.ref p) (upd H2 p (.dK (fh [] kvs)))
theorem BE{X:Cx}{pos:Pos}{keys:List (Option Expr)}{values:List Expr}{trs:List (TE×TE)}(h:PPs X pos keys values trs)(hall:keys.all (·.isSome)=true)(hl:keys.length=values.length)(h0:keys≠[])
  (h15:keys.length<=15):PE X (.Dict keys values pos) (Go trs):=by
 intro pins s σ H Q I q;have hn:=I.hok.fresh (JV s.heap.objs.size);have I1:=I.laid (a:=s.heap.objs.size) (o:=.dK []) (h' :=s.heap.push {cls:=.type "dict",data:=.dict #[]}) (t' :=s.toks) (fun _ _ q=>JN _ q) (JV _) (qj s.heap I.big);refine wpAny_Dict_walk (knd:=aU X.prog X.w) hall hl h0 h15 (al (h pins _ σ _ _ I1 (q _ hn)) fun ws s2 hpq=> ?_);obtain⟨ps,H2,I2,rel,e,kvs,ep,lk,q2⟩:=hpq;subst ep;obtain⟨rs,c,rk⟩:=kn (P:=X.prog) (w:=X.w) rel;obtain⟨z,hd,vs0,r0,dd⟩:=zV I2.hok e;cases r0;refine⟨rs,c,dd,fun h' dd' hs=>⟨.ref s.heap.objs.size,_,?_,rfl,q2⟩⟩;have hz:(fh [] kvs).length<=sizeLine:=by
  have h1:=fL kvs [];rw[K8]at h1;rw[KC];omega
 have he:∃q,h'.get? s.heap.objs.size=some q:=let⟨q,_,_,hq,_⟩:=dd';⟨q,hq⟩
 exact jX I2 (by rw[e];exact True.intro) hs he (tB hz hd (rk.merge .nil) dd')
structure M1(X:Cx)(o:Expr)(m:Str)(apos:Pos)(e:Expr)(cpos:Pos):Prop where
 base:attributeBase o m X.env (eval o X.env)=eval o X.env
 few:((backTo cpos (starEach [e] X.env)).all (fun x=> !x.1)&&(backToKw cpos (keywordEach [] X.env)).all (fun x=>x.1.isSome)
  && decide (([e]:List Expr).length+([]:List Keyword).length+(if([]:List Keyword).isEmpty then 0 else 1)<30))=true
 line:(apos.endLine==cpos.line)=true
 trees:backTo cpos (starEach [e] X.env)=[(false,eval e X.env)]
structure M2(X:Cx)(o:Expr)(m:Str)(apos:Pos)(e f:Expr)(cpos:Pos):Prop where
 base:attributeBase o m X.env (eval o X.env)=eval o X.env
 few:((backTo cpos (starEach [e,f] X.env)).all (fun x=> !x.1)&&(backToKw cpos (keywordEach [] X.env)).all (fun x=>x.1.isSome)
  && decide (([e,f]:List Expr).length+([]:List Keyword).length+(if([]:List Keyword).isEmpty then 0 else 1)<30))=true
 line:(apos.endLine==cpos.line)=true
 trees:backTo cpos (starEach [e,f] X.env)=[(false,eval e X.env),(false,eval f X.env)]
noncomputable def IsD(H:Hp)(a:Addr):Prop:=(∃kvs,Rd H a (.dK kvs))\/∃kvs,Rd H a (.dT kvs)
theorem Ey{X:Cx}{pins:List (Addr×Obj)}{σ:St}{H:Hp}{s:Shared}{a:Addr}(I:Inv X pins σ H s)(d:IsD H a) :
  s.TypeIs (.ref a) "dict"/\(∀b,Value.ref a=.ref b->∃ob,s.heap.get? b=some ob/\ob.dict=none)/\(a==sysModules)=false:=by
 rcases d with⟨kvs,e⟩|⟨kvs,e⟩
 ·obtain⟨_,hd,vs,_,dd⟩:=kX I.hok e
  refine⟨dd.typeIs,fun b q=> ?_,hd⟩;cases q;obtain⟨ob,_,_,h1,h2,_⟩:=dd;exact⟨ob,h1,h2.2.1⟩
 ·obtain⟨_,hd,xs,_,dd⟩:=qi I.hok e
  refine⟨dd.typeIs,fun b q=> ?_,hd⟩;cases q;obtain⟨ob,_,_,h1,h2,_⟩:=dd;exact⟨ob,h1,h2.2.1⟩
section
variable{X:Cx}{pins:List (Addr×Obj)}{σ:St}{H:Hp}{s:Shared}{a:Addr}{y d:V}{u r:Value}{o:Option V}{A:Around}{E:Value->Shared->Prop}
theorem FX{Q:Value->Shared->Prop}(hu:A.units+1<cLine)(I:Inv X pins σ H s)(g:iR H a y o)(ry:RelV y u)(rd:RelV d r)(h:∀w' s',Inv X pins σ H s' ->RelV (o.getD d) w' ->Q w' s') :
  wpAny (model X.prog X.w) A (call (.builtin "dict.get") [.ref a,u,r]) Q E s:=by
 rcases g with⟨kvs,k,e,ey,l⟩|⟨kvs,k,b,e,ey,eb,l⟩
 ·subst ey
  obtain⟨z,hd,vs,rel,dd⟩:=kX I.hok e;refine call_meetsIn PySem.F.slot_dict_get dd.typeIs PySem.F.entry_dict_get (PySem.F.args_dict_get_3 _ _ _) (meets_dict_get_default (aU X.prog X.w) a (qC ry) hd r) ⟨_,dd.mapOf,h _ _ (I.tok _) ?_⟩;rw[l];exact(rel.val k).getD rd
 ·subst ey
  cases(show u=Value.ref b from ry);obtain⟨z,hd,xs,rel,dd⟩:=qi I.hok e;refine call_meetsIn PySem.F.slot_dict_get dd.typeIs PySem.F.entry_dict_get (PySem.F.args_dict_get_3 _ _ _) (meetsH_dict_get_default (tupleKind (aU X.prog X.w)) a b hd r) ⟨tupleKind_room_in1 hu,k,xs,kH I.hok eb,dd,h _ _ (I.tok _) ?_⟩;rw[l];exact(rel.val k).getD rd
end
noncomputable def Da(td ty tx:TE):TE:=fun σ H Q=>td σ H fun x H1=>∃a,x=.ref a/\IsD H1 a/\ty σ H1 fun y H2=>tx σ H2 fun z H3=>∃o,iR H3 a y o/\Q (o.getD z) H3
section
variable{X:Cx}{o e f:Expr}{apos cpos:Pos}{td ty tx:TE}
theorem pc(hu:X.A.units+1<cLine)(ho:PE X o td)(he:PE X e ty)(hf:PE X f tx)(m:M2 X o "get" apos e f cpos):PE X (.Call (.Attribute o "get" apos) [e,f] [] cpos) (Da td ty tx):=by
 intro pins s σ H Q I h;refine wpAny_Call_method m.base m.few m.line PySem.F.plainAttrs_dict PySem.F.slot_dict_get PySem.F.type_dict_get (al (ho pins s σ H _ I h) fun u s1 hpq=> ?_);obtain⟨x,H1,I1,rx,a,ex,d,q1⟩:=hpq;subst ex;obtain rfl:u=Value.ref a:=rx;obtain⟨t1,t2,_⟩:=Ey I1 d;refine⟨t1,t2,?_⟩;rw[m.trees]
 refine L8 rfl (Calls.evalArgs_plain (Calls.spliced_cons (al (he pins s1 σ H1 _ I1 q1) fun iv s2 ⟨y,H2,I2,ry,q2⟩ =>
  Calls.spliced_cons (al (hf pins s2 σ H2 _ I2 q2) fun fv s3 ⟨z,H3,I3,rz,ov,g,q3⟩=>Calls.spliced_nil ?_))))
 exact FX hu I3 g ry rz fun w' s4 I4 rw' =>⟨_,H3,I4,rw',q3⟩
end
section
variable{X:Cx}{pins:List (Addr×Obj)}{σ:St}{H:Hp}{s:Shared}{a:Addr}{kvs:List (ae×V)}{A:Around}{E:Value->Shared->Prop}
theorem zX{Q:Value->Shared->Prop}(I:Inv X pins σ H s)(e:Rd H a (.dK kvs))(h:∀p s',H p=none->Inv X pins σ (upd H p (.dK kvs)) s' ->Q (.ref p) s'):wpAny (model X.prog X.w) A (call (.type "dict") [.ref a]) Q E s:=by
 obtain⟨z,hd,vs,rel,dd⟩:=kX I.hok e;refine kt_call_dict hd dd (by rw[<- rel.length];exact z) fun h' dd' hs=> ?_;refine h _ _ (I.hok.fresh (JV _)) (I.laid (a:=s.heap.objs.size) (o:=.dK kvs) (t' :=s.toks) (fun b q hq=> ?_) (JV _) (tB z (Ks.mpr (Kc (Jm I.big))) rel dd'));exact(hs.2 b (Jm (Je hq))).trans (JN _ hq)
end
section
variable{X:Cx}{pins:List (Addr×Obj)}{σ:St}{H:Hp}{s:Shared}{a:Addr}{y:V}{u:Value}{A:Around}{E:Value->Shared->Prop}
end
section
variable{κ:Type}[DecidableEq κ]
end
noncomputable def cd(rows:List Str)(i j:Nat):Nat:=((rows.getD i ⟨#[]⟩).cps.toList).getD j 0
noncomputable def fl(c:Nat):Nat:=if c=120 then 46 else 120
noncomputable def Wd(rows:List Str)(w:Nat):Prop:=∀r∈rows,r.length=w
theorem zk{rows:List Str}{w i j:Nat}(hw:Wd rows w)(hi:i<rows.length)(hj:j<w):∃z,rows[i]? =some z/\z.cps.toList[j]? =some (cd rows i j)/\z.length=w:=by
 have e:rows[i]? =some rows[i]:=Ja hi;have hl:=hw rows[i] (Ky hi);have hj' :j<rows[i].cps.toList.length:=by
  rw[Jv];show j<rows[i].length;omega
 refine⟨rows[i],e,?_,hl⟩;unfold cd;rw[JX,JX,e,Option.getD_some,Ja hj',Option.getD_some]
open AutoSeq1 (wpAny_loadPart')
section
variable{X:Cx}
end
open AutoSeq1 (wpAny_loadPart')
section
variable{X:Cx}
end
section
variable{P:Program}{w:World}{A:Around}{E:Value->Shared->Prop}{s:Shared}
theorem EV{it a:Addr}{i:Nat}{its:Array Value}{v:Value}{Q:Value->Shared->Prop}(ti:s.heap.IsTupleIter it a i)(ta:s.heap.IsTuple a its)(hv:its[i]? =some v)
  (k:∀h',h'.IsTupleIter it a (i+1)->Heap.SameBut it s.heap h' ->Q v {s with heap:=h'}):wpAny (model P w) A (Builtin.SmallTypes.nextOf (.ref it)) Q E s:=by
 obtain⟨r,hr,rc,rd⟩:=id ti;obtain⟨q,hq,_,nq,qd⟩:=ta;unfold Builtin.SmallTypes.nextOf;refine JL (KR (name:=Str.ofString "__next__") ti.typeIs F.slot_tuple_iterator_next (J1 F.slot_tuple_iterator_next ti.typeIs F.entry_tuple_iterator_next ?_ (F.args_tuple_iterator_next_1 _)));show wpAny _ _ (field (.ref it) 0 >>= fun _=>_) _ _ s;refine JL (Ll hr rd (x:=.ref a) rfl ?_);show wpAny _ _ (if(Value.ref a==Value.none)=true then _ else _) _ _ s;rw[JR (by exact JT)];show wpAny _ _ (field (.ref it) 1 >>= fun _=>_) _ _ s;refine JL (Ll hr rd (x:=.int i 0) rfl ?_);show wpAny _ _ (seqItems? (.ref a) >>= fun _=>_) _ _ s;refine JL (wpAny_seqItems hq qd ?_);simp only[LC,hv];refine JL (Kt hr rd (by simp) (JQ ⟨v,rfl,JQ (k _ ?_ (Kk ..))⟩));exact⟨_,J6 _ hr (Kn (KJ rd _)),(L7 ..).trans rc,by rw[KJ rd];simp[rawInt]⟩
theorem sY{it a:Addr}{i:Nat}{its:Array Value}{Q:Value->Shared->Prop}(hd:A.handled=none)(ti:s.heap.IsTupleIter it a i)(ta:s.heap.IsTuple a its)(hv:its[i]? =none)
  (k:∀h' e,Heap.ExtBut it s.heap h' ->(∃o,h'.get? e=some o/\o.cls=.type "StopIteration")->E (.ref e) {s with heap:=h'}):wpAny (model P w) A (Builtin.SmallTypes.nextOf (.ref it)) Q E s:=by
 obtain⟨r,hr,rc,rd⟩:=id ti;obtain⟨q,hq,_,nq,qd⟩:=ta;unfold Builtin.SmallTypes.nextOf;refine JL (KR (name:=Str.ofString "__next__") ti.typeIs F.slot_tuple_iterator_next (J1 F.slot_tuple_iterator_next ti.typeIs F.entry_tuple_iterator_next ?_ (F.args_tuple_iterator_next_1 _)));show wpAny _ _ (field (.ref it) 0 >>= fun _=>_) _ _ s;refine JL (Ll hr rd (x:=.ref a) rfl ?_);show wpAny _ _ (if(Value.ref a==Value.none)=true then _ else _) _ _ s;rw[JR (by exact JT)];show wpAny _ _ (field (.ref it) 1 >>= fun _=>_) _ _ s;refine JL (Ll hr rd (x:=.int i 0) rfl ?_);show wpAny _ _ (seqItems? (.ref a) >>= fun _=>_) _ _ s;refine JL (wpAny_seqItems hq qd ?_);simp only[LC,hv];refine JL (wpAny_rule (JL (Kt hr rd (by simp) ?_)));show wpAny _ _ (newExc (.type "StopIteration") [] >>= fun _=>_) _ _ _;refine JL ?_;simp only[newExc,newTuple];refine JL (KM ?_ (by size_fits));refine JL (m:=firstArgMember _ _) (K4 (a:=Value.none) (by first|(simp only[firstArgMember];rfl)|rfl) ?_);refine KM ?_ (by size_fits);simp only[raiseNew];refine JL (wpAny_handled ?_)
 first|rw[hd]|rw[show A.in1.handled=none by exact hd]
 refine JL (JQ (wpAny_throw ?_));exact k _ _ (((Kk ..).extBut.push _).push _) ⟨_,Jd _ rfl,rfl⟩
end
theorem wZ{P:Program}{w:World}{A:Around}(hd:A.handled=none)(it a:Addr)(ne:a≠it)(its:Array Value) :
  Draws P w A it [it,a] its.size (fun i v=>its[i]? =some v) (fun i h=>h.IsTupleIter it a i/\h.IsTuple a its) where
 live:=fun _ _ st=>by obtain⟨⟨r,hr,_⟩,_⟩:=st;exact⟨r,hr⟩
 frame:=fun _ _ _ st k=>⟨st.1.at fun o e=>k it (by simp) o e,st.2.at fun o e=>k a (by simp) o e⟩
 item:=fun i s Q E hi st q=>by
  refine EV st.1 st.2 (v:=its[i]) (by simp[hi]) fun h' t' sb=>q _ h' s.toks (by simp[hi]) ⟨t',st.2.extBut sb.extBut ne⟩ sb
 done:=fun s Q E st q=>sY hd st.1 st.2 (by simp) q
open AutoSeq1 (wpAny_loadPart')
theorem pz(a:Addr)(its:Array Value)(n:Nat)(dd:Option Addr)(sl:Array (Option Value)) :
  Meets (Builtin.«enumerate.__new__» ⟨[.type "enumerate",.ref a],[]⟩) (fun _ R s=>s.heap.get? a=some {cls:=.type "tuple",dict:=dd,data:=.seq its n,slots:=sl} /\
   R (.ok (.ret (.ref (s.heap.push {cls:=.type "tuple_iterator",data:=.fields #[.ref a,.int 0 0]}).objs.size)))
    {s with heap:=(s.heap.push {cls:=.type "tuple_iterator",data:=.fields #[.ref a,.int 0 0]}).push {cls:=.type "enumerate",data:=.fields #[.none,.bool false,.ref s.heap.objs.size,rawInt 0,.none,.none]}}) :=
 .of_wp fun prog w A R s h=>by
  obtain⟨hp,g,d,tk,os⟩:=s;obtain⟨ha,h⟩:=h;have hsub:=sub_enumerate;have hT:Heap.IsTuple (Shared.heap ⟨hp,g,d,tk,os⟩) a its:=⟨_,ha,rfl,n,rfl⟩
  wp_walk using Km ha
  refine wpAny_stack_any fun _=>JQ ?_
  split
  ·rename_i c _ _ _ _ _
   cases(c==Value.type "enumerate")
   ·wp_walk using Km ha,MN hT
    exact⟨_,rfl,h⟩
   ·wp_walk using Km ha,MN hT
    exact⟨_,rfl,h⟩
  ·wp_walk using Km ha,MN hT
   exact⟨_,rfl,h⟩
theorem tS{P:Program}{w:World}{A:Around}{E:Value->Shared->Prop}{s:Shared}{a:Addr}{its:Array Value}{Q:Value->Shared->Prop}(hT:s.heap.IsTuple a its)
  (k:∀h',IsEnum h' (s.heap.objs.size+1) s.heap.objs.size 0 .none->h'.IsTupleIter s.heap.objs.size a 0->(∀b o,s.heap.get? b=some o->h'.get? b=some o)->Q (.ref (s.heap.objs.size+1)) {s with heap:=h'}) :
  wpAny (model P w) A (call (.type "enumerate") [.ref a]) Q E s:=by
 obtain⟨⟨c,dd,dt,sl⟩,ha,hc,n,hd⟩:=hT;simp only at hc hd;subst hc hd;refine callType_new F.called_enumerate (by decide) (F.typeCall_enumerate_1 _) (F.newCall_enumerate_1 _) (fun ob=>F.args_object_init_2 ob _) F.entry_enumerate_new (pz a its n dd sl) ⟨ha,?_⟩;have hz:(s.heap.push {cls:=.type "tuple_iterator",data:=.fields #[.ref a,.int 0 0]}).objs.size=s.heap.objs.size+1:=Ku ..;show _/\_;rw[hz];have he:IsEnum ((s.heap.push {cls:=.type "tuple_iterator",data:=.fields #[.ref a,.int 0 0]}).push {cls:=.type "enumerate",data:=.fields #[.none,.bool false,.ref s.heap.objs.size,rawInt 0,.none,.none]}) (s.heap.objs.size+1) s.heap.objs.size 0 .none:=by
  have q:=Jd (s.heap.push {cls:=.type "tuple_iterator",data:=.fields #[.ref a,.int 0 0]}) (o:={cls:=.type "enumerate",data:=.fields #[.none,.bool false,.ref s.heap.objs.size,rawInt 0,.none,.none]}) rfl;rw[hz]at q;exact q
 exact⟨⟨_,he,rfl⟩,k _ he ⟨_,JN _ (Jd _ rfl),rfl,rfl⟩ fun b o y=>JN _ (JN _ y)⟩
noncomputable def GH(src:Hp->List V->Prop):It :=
 ⟨fun i H=>∃xs x,src H xs/\xs[i]? =some x,fun i H v H' =>∃p,H p=none/\v=.ref p/\∀xs x,src H xs->xs[i]? =some x->H' =upd H p (.tup [.int (i:Nat),x]),fun i H=>∃xs,src H xs/\xs.length=i⟩
structure vV(P:Program)(w:World)(K:W.Frag)(src:Hp->List V->Prop)(e it:Addr)(tn:Nat->Heap->Prop):Prop where
 ne:e≠it
 obj:∀i h,tn i h->∃o,h.get? it=some o/\∀v,o.data≠.cell v
 keep:∀i h h',tn i h->(∀o,h.get? it=some o->h'.get? it=some o)->tn i h'
 inj:∀(X:Cx) pins s σ H xs ys,X.K=K->Inv X pins σ H s->src H xs->src H ys->xs=ys
 draws:∀(X:Cx) pins s σ H xs (i:Nat),X.prog=P->X.w=w->X.K=K->X.calm=true->Inv X pins σ H s->src H xs->tn i s.heap->∃(fp:List Addr)(Pw:Nat->Value->Prop)(St:Nat->Heap->Prop),
  Draws P w X.A.in1 it fp xs.length Pw St/\e∉fp/\St i s.heap/\(∀j v x,Pw j v->xs[j]? =some x->RelV x v)/\∀j h,St j h->tn j h
theorem gv{P:Program}{w:World}{K:W.Frag}{es:List Expr}{kt:Nat}{tpos:Pos}{src:Hp->List V->Prop}{e it:Addr}{tn:Nat->Heap->Prop}(S:vV P w K src e it tn) :
  lZ P w K (.Tuple es kt tpos) (GH src) [e,it] e (fun i h=>(∃old,IsEnum h e it (i:Nat) old)/\tn i h) where
 mem:=by simp
 obj:=fun i h st c hc=>by
  obtain⟨⟨old,he⟩,ht⟩:=st;simp only[Jg,J9,K9]at hc
  rcases hc with rfl|rfl
  ·exact⟨_,he,fun v z=>by cases z⟩
  ·exact S.obj i h ht
 keep:=fun i h h' st k=>by
  obtain⟨⟨old,he⟩,ht⟩:=st;exact⟨⟨old,k e (by simp) _ he⟩,S.keep i h h' ht fun o q=>k it (by simp) o q⟩
 item:=by
  intro X hP hw hK hc i pins s σ H E I hf st hg;obtain⟨⟨old,he⟩,ht⟩:=st;obtain⟨xs,x,hs,hx⟩:=hg;obtain⟨fp,Pw,St,D,hef,hst,hrel,hback⟩:=S.draws X pins s σ H xs i hP hw hK hc I hs ht;subst hP hw hK;have hlt:i<xs.length:=(JY.mp hx).1;have elt:e<s.heap.objs.size:=Je he;have ilt:it<s.heap.objs.size:=by obtain⟨o,ho,_⟩:=S.obj i _ ht;exact Je ho
  refine wpAny_pyNext_enum_itemD D he hst hlt S.ne hef fun u h' tk hu ho hst' hT hsz hk=> ?_;refine⟨_,rfl,wpAny_letOwnedTupleGo_enum ho fun h'' he' hs' => ?_⟩;have kk:∀c o,c∉[e,it]->s.heap.get? c=some o->h''.get? c=some o:=fun c o hc' y=>by
   simp only[Jg,J9,K9,MA]at hc';exact(hs'.2 c hc'.1).trans (hk c o hc'.1 hc'.2 y)
  have new:h''.get? s.heap.objs.size=some {cls:=.type "tuple",data:=.seq #[.int i tk,u]}:=(hs'.2 _ (KZ elt)).trans hT
  have I1:Inv X pins σ (upd H s.heap.objs.size (.tup [.int (i:Nat),x])) {s with heap:=h'',toks:=tk+1} :=
   I.drew (t' :=tk+1) hf kk (JV _) ⟨by show 2<=sizeLine;decide,[.int i tk,u],.cons ⟨tk,rfl⟩ (.cons (hrel i u x hu hx) .nil),⟨_,new,rfl,_,rfl,rfl⟩⟩
  refine⟨.ref s.heap.objs.size,_,I1,rfl,⟨s.heap.objs.size,I.hok.fresh (JV _),rfl,fun xs' x' hs2 hx2=> ?_⟩,⟨⟨u,by simpa using he'⟩,S.keep _ _ _ (hback _ _ hst') fun o y=>(hs'.2 it S.ne.symm).trans y⟩,fun c hc' => ?_⟩
  ·have q:=S.inj X pins s σ H _ _ rfl I hs hs2
   subst q;rw[hx]at hx2;cases hx2;rfl
  ·rw[aB ?_]
   ·exact(hf c hc').1
   ·simp only[Jg,J9,K9]at hc'
    rcases hc' with rfl|rfl
    ·exact Jm elt
    ·exact Jm ilt
 done:=by
  intro X hP hw hK hc i pins s σ H E I hf st hg;obtain⟨⟨old,he⟩,ht⟩:=st;obtain⟨xs,hs,hx⟩:=hg;obtain⟨fp,Pw,St,D,hef,hst,hrel,hback⟩:=S.draws X pins s σ H xs i hP hw hK hc I hs ht;subst hP hw hK;subst hx;exact wpAny_pyNext_enum_endD D he hst fun h' hk=>⟨rfl,I.drew0 (t' :=s.toks) hf fun c o hc' y=>hk c o (by simp only[Jg,J9,K9,MA]at hc';exact hc'.2) y⟩
 self:=fun _ _ _ _ _ st h=>by
  obtain⟨⟨old,he⟩,_⟩:=st;exact MQ he h
theorem wX{P:Program}{w:World}{K:W.Frag}{a e it:Addr}(h1:e≠it)(h2:a≠it)(h3:a≠e):vV P w K (fun H xs=>bX K H a xs) e it (fun i h=>h.IsTupleIter it a i) where
 ne:=h1
 obj:=fun i h st=>by
  obtain⟨o,ho,_,d⟩:=st;exact⟨o,ho,fun v z=>by rw[d]at z;cases z⟩
 keep:=fun i h h' st k=>st.at k
 inj:=fun X pins s σ H xs ys hK I h1 h2=>by
  subst hK;exact I.tuple_inj h1 h2
 draws:=fun X pins s σ H xs i hP hw hK hc I hs ht=>by
  subst hP hw hK;obtain⟨its,r,p,_⟩:=I.tuple hs;have l:=r.length;have D:=wZ (P:=X.prog) (w:=X.w) (A:=X.A.in1) (I.ok.hd hc) it a h2 its.toArray;rw[Jb,<-l]at D;refine⟨_,_,_,D,by simp[h1,h3.symm],⟨ht,p⟩,fun j v x hv hx=> ?_,fun j h st=>st.1⟩;obtain⟨u,hu,ru⟩:=r.get hx;have e:its[j]? =some v:=by simpa using hv
  rw[hu]at e;cases e;exact ru
theorem wY{P:Program}{w:World}{K:W.Frag}{z:Str}{t:Tok}{e it:Addr}(h1:e≠it):vV P w K (fun _ xs=>xs=cO z) e it (fun i h=>h.IsStrIter it (strIterType z) z t i) where
 ne:=h1
 obj:=fun i h st=>by
  obtain⟨o,ho,_,d⟩:=st;exact⟨o,ho,fun v z=>by rw[d]at z;cases z⟩
 keep:=fun i h h' st k=>by
  obtain⟨o,ho,r⟩:=st;exact⟨o,k o ho,r⟩
 inj:=fun X pins s σ H xs ys hK I h1 h2=>by rw[h1,h2]
 draws:=fun X pins s σ H xs i hP hw hK hc I hs ht=>by
  subst hP hw hK hs;have l:(cO z).length=z.cps.size:=by rw[jm];rfl
  have rel:∀(j:Nat)(v:Value)(x:V),(∃c u,z.cps[j]? =some c/\v=.str ⟨#[c]⟩ u)->(cO z)[j]? =some x->RelV x v:=fun j v x hv hx=>by
   obtain⟨c,u,hc',rfl⟩:=hv;unfold cO at hx;rw[Jc,KY,hc']at hx;cases hx;exact⟨u,rfl⟩
  rw[l];cases ha:z.cps.all (·<128)with
  | true =>
   have e:strIterType z="str_ascii_iterator":=by unfold strIterType;rw[JS ha]
   rw[e]at ht ⊢;exact⟨_,_,_,Draws.strAscii (prog:=X.prog) (w:=X.w) (A:=X.A.in1) (I.ok.hd hc) it z t,by simp[h1],ht,rel,fun j h st=>st⟩
  | false =>
   have e:strIterType z="str_iterator":=by unfold strIterType;rw[JR (by rw[ha];exact JT)]
   rw[e]at ht ⊢;exact⟨_,_,_,Draws.strWide (prog:=X.prog) (w:=X.w) (A:=X.A.in1) (I.ok.hd hc) it z t,by simp[h1],ht,rel,fun j h st=>st⟩
section
variable{X:Cx}
noncomputable def FE(K:W.Frag)(ta:TA):TI:=fun σ H R=>ta σ H fun vs H1=>∃a xs,vs=[.ref a]/\bX K H1 a xs/\R (GH fun H xs=>bX K H a xs) H1
noncomputable def FF(ta:TA):TI:=fun σ H R=>ta σ H fun vs H1=>∃z,vs=[.str z]/\R (GH fun _ xs=>xs=cO z) H1
theorem yG{es:List Expr}{kt:Nat}{tpos:Pos}{a:Expr}{ta:TA}{p pos:Pos}(hg:Gl X "enumerate")(hm:X.mg "enumerate"=none)(ha:PA X [a] ta)(hs:starEach [a] X.env=[(false,eval a X.env)]:=by rfl) :
  PI X (.Tuple es kt tpos) (.Call (.Name "enumerate" p) [a] [] pos) (FE X.K ta):=by
 intro pins s σ H R I h;refine Call_ (cT I hg hm boot_enumerate (KD (al (ha pos pins s σ H _ I h) fun us s1 ⟨vs,H1,I1,r1,q1⟩=> ?_) hs rfl));obtain⟨l,xs,e,sa,q⟩:=q1;subst e;obtain⟨u,rfl,ru⟩:=vals1 r1;cases ru;obtain⟨its,r,pt,_⟩:=I1.tuple sa;have lt:l<s1.heap.objs.size:=by obtain⟨o,e,_⟩:=id pt;exact Je e
 refine tS pt fun h' he jK hk=> ?_;refine MQ he ?_;have I2:Inv X pins σ H1 {s1 with heap:=h'}:=I1.kept (t' :=s1.toks) hk;refine⟨s1.heap.objs.size+1,[s1.heap.objs.size+1,s1.heap.objs.size],_,_,H1,rfl,I2,gv (wX (Nat.succ_ne_self _) (Jm lt) (Jm (KP lt))),⟨⟨_,he⟩,jK⟩,fun c hc=> ?_,q⟩;have le:s1.heap.objs.size<=c:=by
  simp only[Jg,J9,K9]at hc
  rcases hc with rfl|rfl<;>omega
 exact I1.fpOk le (I1.hok.fresh le)
theorem yH{es:List Expr}{kt:Nat}{tpos:Pos}{a:Expr}{ta:TA}{p pos:Pos}(hg:Gl X "enumerate")(hm:X.mg "enumerate"=none)(ha:PA X [a] ta)(hs:starEach [a] X.env=[(false,eval a X.env)]:=by rfl) :
  PI X (.Tuple es kt tpos) (.Call (.Name "enumerate" p) [a] [] pos) (FF ta):=by
 intro pins s σ H R I h;refine Call_ (cT I hg hm boot_enumerate (KD (al (ha pos pins s σ H _ I h) fun us s1 ⟨vs,H1,I1,r1,q1⟩=> ?_) hs rfl));obtain⟨z,e,q⟩:=q1;subst e;obtain⟨u,rfl,t,rfl⟩:=vals1 r1;refine call_enumerate_str fun h' he jK _ hk=> ?_;refine MQ he ?_;have I2:Inv X pins σ H1 {s1 with heap:=h'}:=I1.kept (t' :=s1.toks) hk;refine⟨s1.heap.objs.size+1,[s1.heap.objs.size+1,s1.heap.objs.size],_,_,H1,rfl,I2,gv (wY (Nat.succ_ne_self _)),⟨⟨_,he⟩,jK⟩,fun c hc=> ?_,q⟩;have le:s1.heap.objs.size<=c:=by
  simp only[Jg,J9,K9]at hc
  rcases hc with rfl|rfl<;>omega
 exact I1.fpOk le (I1.hok.fresh le)
theorem zJ{src:Hp->List V->Prop}{xs:List V}{g:TG}{tb:TS}{D:cG}{σ:St}{H:Hp}(Pv:Nat->St->Hp->Prop)(h0:Pv 0 σ H)(ha:∀i σ H,i<=xs.length->Pv i σ H->src H xs)
  (hs:∀i x p σ H,xs[i]? =some x->H p=none->Pv i σ H->g (.ref p) σ (upd H p (.tup [.int (i:Nat),x])) fun σ2 H2=>tb {D with nx:=Pv (i+1),ct:=Pv (i+1),bk:=D.nx} σ2 H2) (hd:∀σ H,Pv xs.length σ H->D.nx σ H) :
  ∃W:Nat->Nat->St->Hp->Prop,(∃m,W 0 m σ H)/\∀i m σ H,W i m σ H ->
   ((GH src).stop i H/\D.nx σ H)\/((GH src).go i H/\∃N:St->Hp->Prop,(∀σ' H',N σ' H' ->∃m',m' <m/\W (i+1) m' σ' H')/\∀x H',(GH src).yld i H x H' ->g x σ H' fun σ2 H2=>tb {D with nx:=N,ct:=N,bk:=D.nx} σ2 H2):=by
 refine⟨fun i m σ H=>m=xs.length-i/\i<=xs.length/\Pv i σ H,⟨xs.length,by simp,Js _,h0⟩,?_⟩;rintro i m σ H ⟨rfl,hi,p⟩;have qa:=ha i σ H hi p
 by_cases hlt:i<xs.length
 ·have ex:xs[i]? =some xs[i]:=by simp[hlt]
  refine .inr ⟨⟨xs,_,qa,ex⟩,Pv (i+1),fun σ' H' p' =>⟨xs.length-(i+1),by omega,rfl,hlt,p'⟩,fun x H' y=> ?_⟩;obtain⟨pp,hn,rfl,y⟩:=y;have e:=y xs _ qa ex;subst e;exact hs i _ pp σ H ex hn p
 ·have e:i=xs.length:=by omega
  subst e;exact .inl ⟨⟨xs,qa,rfl⟩,hd σ H p⟩
theorem ip{ns:List Int}{us:List Value}{i:Nat}{v:Value}(r:aL (ns.map V.int) us)(h:us[i]? =some v):∃t,v=.int (ns.getD i 0) t:=by
 have hl:=r.length;rw[JM]at hl;have hi:i<us.length:=(JY.mp h).1;obtain⟨u,hu,ru⟩:=r.get (i:=i) (x:=.int (ns[i]'(by omega))) (by simp[show i<ns.length by omega]);rw[hu]at h;cases h;obtain⟨t,e⟩:=ru;refine⟨t,?_⟩;rw[e];simp[List.getD,show i<ns.length by omega]
theorem i5(ns:List Int):∀k,k<=ns.length->preSum (fun i=>ns.getD i 0) k=(ns.take k).sum
 | 0,_=>by simp[preSum]
 | k+1,h=>by
  have e:ns.take (k+1)=ns.take k++[ns[k]'(by omega)]:=by rw[LA];simp[show k<ns.length by omega]
  rw[preSum,i5 ns k (by omega),e,List.sum_append];simp[List.getD,show k<ns.length by omega]
theorem lW(hc:X.calm=true):bF X (.builtin "sum") (fun xs H Q=>∃(p:Addr)(ns:List Int),xs=[.ref p]/\bG X.K H p (ns.map V.int)/\Q (.int ns.sum) H):=by
 intro pins s σ H xs us Q I r h;obtain⟨p,ns,rfl,hq,q⟩:=h;obtain⟨u,rfl,rx⟩:=vals1 r;cases rx;obtain⟨its,r',pl,hz⟩:=I.list hq;have hlen:=r'.length;rw[JM]at hlen;have hp:p<s.heap.objs.size:=by
  obtain⟨o,e,_⟩:=pl.isList;exact Je e
 refine call_sum_walkAnyS (MP pl.isList ?_);refine⟨s.heap.objs.size,_,_,_,its.toArray.size,_,_,(fun i=>ns.getD i 0),rfl,(Walks.list (A:=X.A.in1) (I.ok.hd hc) s.heap.objs.size p (Jm hp) its.toArray).toS,⟨⟨_,Jd _ rfl,rfl,rfl⟩,pl.isList.push _⟩,?_,?_,?_⟩
 ·intro b hb
  simp at hb
  rcases hb with rfl|rfl
  ·rw[size_push'];exact Nat.lt_succ_self _
  ·rw[size_push'];exact KP hp
 ·intro i v hv
  exact ip r' (by simpa using hv)
 ·intro s' t' hm
  obtain⟨m1,m2,m3,m4,m5⟩:=hm;have e:s' ={s with heap:=s'.heap,toks:=s'.toks}:=by
   cases s';simp only at m2 m3 m4;subst m2 m3 m4;rfl
  rw[e];refine⟨.int ns.sum,H,I.kept (t' :=s'.toks) (fun b o z=>m1 b o (by simpa using Jm (Je z)) (JN _ z)),⟨t',?_⟩,q⟩;rw[Jb,<-hlen,i5 ns _ (JV _),Kl]
theorem cD:∀{us:List Value}{ns:List Int},IntsAre us ns->aL (ns.map V.int) us
 | _,_,.nil=>.nil
 | _,_,.cons n t r=>.cons ⟨t,rfl⟩ (cD r)
noncomputable def sortI(ns:List Int):List Int:=ns.mergeSort (fun a b=>decide (a<=b))
theorem sortI_perm(ns:List Int):(sortI ns).Perm ns:=List.mergeSort_perm _ _
theorem pB(ns:List Int):(sortI ns).Pairwise (·<=·):=by
 have:=List.pairwise_mergeSort (le:=fun a b:Int=>decide (a<=b)) (fun a b c h1 h2=>by simp at *;omega) (fun a b=>by simp;omega) ns;exact this.imp fun h=>by simpa using h
theorem gG{ns ms:List Int}(h:ms.Perm ns)(s:ms.Pairwise (·<=·)):ms=sortI ns :=
 MM (le:=(·<=·)) (fun a b _ _ h1 h2=>Int.le_antisymm h1 h2) s (pB ns) (h.trans (sortI_perm ns).symm)
theorem iH:bF X (.builtin "sorted") (fun xs H Q=>∃(p:Addr)(ns:List Int),xs=[.ref p]/\bG X.K H p (ns.map V.int)/\ns.length<64/\∀a,H a=none->Q (.ref a) (upd H a (.lst ((sortI ns).map V.int)))):=by
 intro pins s σ H xs us Q I r h;obtain⟨p,ns,rfl,hq,h64,q⟩:=h;obtain⟨u,rfl,rx⟩:=vals1 r;cases rx;obtain⟨its,r',pl,hz⟩:=I.list hq;have hlen:=r'.length;rw[JM]at hlen;refine sorted_ints pl.isList (intsAre_of r') (by omega) fun out ns' a1 a2 a3=> ?_;have e:=gG a2 a3;subst e;obtain⟨c,hc⟩:=sortedAll_at s.heap its out;refine⟨.ref (s.heap.objs.size+1),_,I.laid (t' :=s.toks) (o:=.lst ((sortI ns).map V.int)) (fun b o z=>sortedAll_old z) (LX _) ?_,rfl,q _ (I.hok.fresh (LX _))⟩;refine⟨?_,out.toList,c,cD a1,by simpa [seqObj]using hc⟩;rw[JM,(sortI_perm ns).length_eq];have:=KC;omega
theorem sy{P:Program}{w:World}{K:W.Frag}{a e it:Addr}(h1:e≠it)(h2:a≠it)(h3:a≠e):vV P w K (fun H xs=>bG K H a xs) e it (fun i h=>h.IsListIter it a i) where
 ne:=h1
 obj:=fun i h st=>by
  obtain⟨o,ho,_,d⟩:=st;exact⟨o,ho,fun v z=>by rw[d]at z;cases z⟩
 keep:=fun i h h' st k=>st.at k
 inj:=fun X pins s σ H xs ys hK I h1 h2=>by
  subst hK;exact I.list_inj h1 h2
 draws:=fun X pins s σ H xs i hP hw hK hc I hs ht=>by
  subst hP hw hK;obtain⟨its,r,p,_⟩:=I.list hs;have l:=r.length;have D:=Draws.list (prog:=X.prog) (w:=X.w) (A:=X.A.in1) (I.ok.hd hc) it a h2 its.toArray;rw[Jb,<-l]at D;refine⟨_,_,_,D,by simp[h1,h3.symm],⟨ht,p.isList⟩,fun j v x hv hx=> ?_,fun j h st=>st.1⟩;obtain⟨u,hu,ru⟩:=r.get hx;have e:its[j]? =some v:=by simpa using hv
  rw[hu]at e;cases e;exact ru
noncomputable def FG(K:W.Frag)(ta:TA):TI:=fun σ H R=>ta σ H fun vs H1=>∃a xs,vs=[.ref a]/\bG K H1 a xs/\R (GH fun H xs=>bG K H a xs) H1
theorem pX{es:List Expr}{kt:Nat}{tpos:Pos}{a:Expr}{ta:TA}{p pos:Pos}(hg:Gl X "enumerate")(hm:X.mg "enumerate"=none)(ha:PA X [a] ta)(hs:starEach [a] X.env=[(false,eval a X.env)]:=by rfl) :
  PI X (.Tuple es kt tpos) (.Call (.Name "enumerate" p) [a] [] pos) (FG X.K ta):=by
 intro pins s σ H R I h;refine Call_ (cT I hg hm boot_enumerate (KD (al (ha pos pins s σ H _ I h) fun us s1 ⟨vs,H1,I1,r1,q1⟩=> ?_) hs rfl));obtain⟨l,xs,e,sa,q⟩:=q1;subst e;obtain⟨u,rfl,ru⟩:=vals1 r1;cases ru;obtain⟨its,r,pt,_⟩:=I1.list sa;have lt:l<s1.heap.objs.size:=by obtain⟨o,e,_⟩:=pt.isList;exact Je e
 refine call_enumerate_list pt.isList fun h' he jK hl hk=> ?_;refine MQ he ?_;have I2:Inv X pins σ H1 {s1 with heap:=h'}:=I1.kept (t' :=s1.toks) hk;refine⟨s1.heap.objs.size+1,[s1.heap.objs.size+1,s1.heap.objs.size],_,_,H1,rfl,I2,gv (sy (Nat.succ_ne_self _) (Jm lt) (Jm (KP lt))),⟨⟨_,he⟩,jK⟩,fun c hc=> ?_,q⟩;have le:s1.heap.objs.size<=c:=by
  simp only[Jg,J9,K9]at hc
  rcases hc with rfl|rfl<;>omega
 exact I1.fpOk le (I1.hok.fresh le)
noncomputable def AG(i j:Int):Prop:=i.natAbs<2^2000/\j.natAbs<2^2000
theorem intBits_le{k:Int}(h:k.natAbs<2^2000):Builtin.Int.intBits k<=2000:=by
 unfold Builtin.Int.intBits
 split
 ·exact Js _
 ·have:k.natAbs.log2<2000:=by
   rcases Nat.eq_zero_or_pos k.natAbs with h0|hp
   ·rw[h0];decide
   ·exact(Nat.log2_lt (KZ hp)).mpr h
  omega
theorem AG.ok{i j:Int}(h:AG i j):IntMulOk i j:=by
 unfold IntMulOk;have h1:=intBits_le h.1;have h2:=intBits_le h.2;have h3:Builtin.Int.intTooBig (Builtin.Int.intBits i+Builtin.Int.intBits j)=false:=by
  unfold Builtin.Int.intTooBig;have:((4000:Nat):Int)<=(bitsLine:Nat):=by decide
  exact Jk (by omega)
 rw[h3];simp
theorem BJ:cv X (binaryOp .Mult) (rI AG fun i j=>.int (i*j)):=Hd fun _ _ _ _ _ _ _ hc q=>mul_int q hc.ok
theorem tQ:bF X (.builtin "len") (fun xs H Q=>∃a kvs,xs=[V.ref a]/\Rd H a (.dK kvs)/\Q (.int kvs.length) H):=by
 intro pins s σ H xs us Q I r h;obtain⟨a,kvs,rfl,ha,q⟩:=h;obtain⟨u,rfl,ru⟩:=vals1 r;cases ru;exact IA I ha fun t s' I' =>⟨.int kvs.length,H,I',⟨t,rfl⟩,q⟩
theorem qx:bF X (.type "dict") (fun xs H Q=>∃a kvs,xs=[V.ref a]/\Rd H a (.dK kvs)/\∀p,H p=none->Q (.ref p) (upd H p (.dK kvs))):=by
 intro pins s σ H xs us Q I r h;obtain⟨a,kvs,rfl,ha,q⟩:=h;obtain⟨u,rfl,ru⟩:=vals1 r;cases ru;exact zX I ha fun p s' hp I' =>⟨.ref p,_,I',rfl,q p hp⟩
theorem Inv.known{pins:List (Addr×Obj)}{σ:St}{H:Hp}{s:Shared}{a:Addr}{kvs:List (ae×V)}{o:Obj}(I:Inv X pins σ H s)(ha:H a=some (.dK kvs))(ho:s.heap.get? a=some o):Inv X pins σ (upd H a (.frz o (.dK kvs))) s:=by
 have nt:∀b xs,H b=some (.tup xs)->upd H a (.frz o (.dK kvs)) b=some (.tup xs):=fun b xs e=>by rw[aB (fun z=>by subst z;rw[ha]at e;cases e)];exact e
 refine⟨I.ok,I.os,I.bare,⟨I.base.keep,I.base.slot,fun b ob e n hx=> ?_,I.base.there,fun b xs e=>nt b xs (I.base.tups b xs e),fun b ob u e=> ?_,fun b ps e=> ?_⟩,I.loc,I.cell,?_,fun x c e=> ?_,fun p hp=> ?_,fun b u e=> ?_,I.len⟩
 ·have:=I.base.free b ob e n hx
  rw[aB (fun z=>by subst z;rw[ha]at this;cases this)];exact this
 ·have:=I.base.frzs b ob u e
  rw[aB (fun z=>by subst z;rw[ha]at this;cases this)];exact this
 ·obtain⟨m,e⟩:=I.base.tbls b ps e
  exact⟨m,by rw[aB (fun z=>by subst z;rw[ha]at e;cases e)];exact e⟩
 ·rw[aB (fun z=>by have:=I.free;rw[z,ha]at this;cases this)]
  exact I.free
 ·have:=I.freeC x c e
  rw[aB (fun z=>by rw[z,ha]at this;cases this)];exact this
 ·obtain⟨h1,h2,h3⟩:=I.pin p hp
  exact⟨h1,by rw[aB (fun z=>by rw[z,ha]at h2;cases h2)];exact h2,h3⟩
 ·by_cases hb:b=a
  ·subst hb
   rw[aC]at e;cases e;refine⟨ho,?_⟩;exact(I.hok b _ ha).stay (fun _ _ _ q=>q) (fun c q=>by rw[aB (fun z=>by subst z;rw[ha]at q;cases q)];exact q) nt
  ·rw[aB hb]at e
   exact(I.hok b u e).stay (fun _ _ _ q=>q) (fun c q=>by rw[aB (fun z=>by subst z;rw[ha]at q;cases q)];exact q) nt
noncomputable def NF(X:Cx)(a:Addr):Prop:=∀o u,X.H₀ a≠some (.frz o u)
theorem Inv.nf{pins:List (Addr×Obj)}{σ:St}{H:Hp}{s:Shared}{a:Addr}{kvs:List (ae×V)}(I:Inv X pins σ H s)(ha:H a=some (.dK kvs)):NF X a:=fun o u e=>by
 have:=I.base.frzs a o u e;rw[ha]at this;cases this
theorem Inv.unknown{pins:List (Addr×Obj)}{σ:St}{H:Hp}{s:Shared}{a:Addr}{kvs:List (ae×V)}{o:Obj}(I:Inv X pins σ H s)(nf:NF X a)(ha:H a=some (.frz o (.dK kvs))):Inv X pins σ (upd H a (.dK kvs)) s:=by
 have nt:∀b xs,H b=some (.tup xs)->upd H a (.dK kvs) b=some (.tup xs):=fun b xs e=>by rw[aB (fun z=>by subst z;rw[ha]at e;cases e)];exact e
 refine⟨I.ok,I.os,I.bare,⟨I.base.keep,I.base.slot,fun b ob e n hx=> ?_,I.base.there,fun b xs e=>nt b xs (I.base.tups b xs e),fun b ob u e=> ?_,fun b ps e=> ?_⟩,I.loc,I.cell,?_,fun x c e=> ?_,fun p hp=> ?_,fun b u e=> ?_,I.len⟩
 ·have:=I.base.free b ob e n hx
  rw[aB (fun z=>by subst z;rw[ha]at this;cases this)];exact this
 ·have:=I.base.frzs b ob u e
  rw[aB (fun z=>by subst z;exact nf _ _ e)];exact this
 ·obtain⟨m,e⟩:=I.base.tbls b ps e
  exact⟨m,by rw[aB (fun z=>by subst z;rw[ha]at e;cases e)];exact e⟩
 ·rw[aB (fun z=>by have:=I.free;rw[z,ha]at this;cases this)]
  exact I.free
 ·have:=I.freeC x c e
  rw[aB (fun z=>by rw[z,ha]at this;cases this)];exact this
 ·obtain⟨h1,h2,h3⟩:=I.pin p hp
  exact⟨h1,by rw[aB (fun z=>by rw[z,ha]at h2;cases h2)];exact h2,h3⟩
 ·by_cases hb:b=a
  ·subst hb
   rw[aC]at e;cases e;exact(I.hok b _ ha).2.stay (fun _ _ _ q=>q) (fun c q=>by rw[aB (fun z=>by subst z;rw[ha]at q;cases q)];exact q) nt
  ·rw[aB hb]at e
   exact(I.hok b u e).stay (fun _ _ _ q=>q) (fun c q=>by rw[aB (fun z=>by subst z;rw[ha]at q;cases q)];exact q) nt
noncomputable def JG(a:Addr)(o:Obj)(kvs:List (ae×V)):It :=
 ⟨fun i H=>H a=some (.frz o (.dK kvs))/\i<kvs.length,fun i H v H' =>∃p,H p=none/\v=.ref p/\∀k x,kvs[i]? =some (k,x)->H' =upd H p (.tup [kV k,x]),fun i H=>H a=some (.frz o (.dK kvs))/\i=kvs.length⟩
theorem Eu{k:ae}{v:Value}{P:Program}{w:World}(h:(aU P w).is k v=true):RelV (kV k) v:=by
 cases k with
 | inl i =>
  obtain⟨t,e⟩:=Value.isInt_shape h;exact⟨t,e⟩
 | inr z =>
  obtain⟨t,e⟩:=Value.isStrOf_shape h;exact⟨t,e⟩
theorem fI:entryFor table "dict_itemiterator.__iter__"=some Builtin.«dict_keyiterator.__iter__» :=
 entryFor_alias (id' :="dict_keyiterator.__iter__") (by kernel_rfl) rfl (by decide +kernel) (by kernel_rfl)
theorem rW{P:Program}{w:World}{K:W.Frag}{es:List Expr}{kt:Nat}{tpos:Pos}{a it:Addr}{o:Obj}{kvs:List (ae×V)}{vs:List (ae×Value)}{ep:Nat}{h0:Heap}(hne:a≠it)(rel:KV kvs vs)(hat:h0.DictAt (aU P w) a vs ep)(ho:h0.get? a=some o) :
  lZ P w K (.Tuple es kt tpos) (JG a o kvs) [it] it (fun i h=>∃ok ov,IsItemIter h it a i vs.length ep ok ov) where
 mem:=by simp
 obj:=fun i h st b hb=>by
  have e:b=it:=by simpa using hb
  subst e;obtain⟨ok,ov,e⟩:=st;exact⟨_,e,fun v z=>by cases z⟩
 keep:=fun i h h' st k=>by
  obtain⟨ok,ov,e⟩:=st;exact⟨ok,ov,k it (by simp) _ e⟩
 item:=by
  intro X hP hw hK hc i pins s σ H E I hf st hg;subst hP hw hK;obtain⟨hfr,hlt⟩:=hg;obtain⟨ok,ov,he⟩:=st;have so:s.heap.get? a=some o:=(I.hok a _ hfr).1;have hat' :s.heap.DictAt (aU X.prog X.w) a vs ep:=hat.at' fun o' e=>by rw[ho]at e;cases e;exact so
  have hl:kvs.length=vs.length:=rel.length;obtain⟨⟨k,x⟩,hx⟩:∃q,kvs[i]? =some q:=⟨kvs[i],by simp[hlt]⟩;have key:∀{kvs:List (ae×V)}{vs:List (ae×Value)}{i:Nat}{q:ae×V},KV kvs vs->kvs[i]? =some q->∃v,vs[i]? =some (q.1,v)/\RelV q.2 v:=by
   intro kvs vs i q r
   induction r generalizing i with
   | nil=>intro e;simp at e
   | cons a t ih =>
    intro e;cases i with
    | zero =>
     simp at e;subst e;rename_i c _ _;exact⟨c.2,by simp[a.1],a.2⟩
    | succ i=>simpa using ih (by simpa using e)
  obtain⟨v,hv,rv⟩:=key rel hx;have ilt:it<s.heap.objs.size:=Je he;refine wpAny_pyNext_items_item he hat' hv fun kv h' hkey hout hT hsz hk=> ?_;refine⟨_,rfl,wpAny_letOwnedTupleGo_items (s:={s with heap:=h'}) hout fun h'' he' hs' => ?_⟩;have kk:∀c o,c∉[it]->s.heap.get? c=some o->h''.get? c=some o:=fun c o hc' y=>by
   have hc2:c≠it:=by simpa using hc'
   exact(hs'.2 c hc2).trans (hk c o hc2 y)
  have new:h''.get? s.heap.objs.size=some {cls:=.type "tuple",data:=.seq #[kv,v]}:=(hs'.2 _ (KZ ilt)).trans hT
  have I1:Inv X pins σ (upd H s.heap.objs.size (.tup [kV k,x])) {s with heap:=h''} :=
   I.drew (t' :=s.toks) hf kk (JV _) ⟨by show 2<=sizeLine;decide,[kv,v],.cons (Eu hkey) (.cons rv .nil),⟨_,new,rfl,_,rfl,rfl⟩⟩
  refine⟨.ref s.heap.objs.size,_,I1,rfl,⟨s.heap.objs.size,I.hok.fresh (JV _),rfl,fun k' x' hx' => ?_⟩,⟨_,_,he'⟩,fun c hc' => ?_⟩
  ·rw[hx]at hx'
   cases hx';rfl
  ·have hc2:c=it:=by simpa using hc'
   subst hc2;rw[aB (Jm ilt)];exact(hf c (by simp)).1
 done:=by
  intro X hP hw hK hc i pins s σ H E I hf st hg;subst hP hw hK;obtain⟨hfr,rfl⟩:=hg;obtain⟨ok,ov,he⟩:=st;have so:s.heap.get? a=some o:=(I.hok a _ hfr).1;have hat' :s.heap.DictAt (aU X.prog X.w) a vs ep:=hat.at' fun o' e=>by rw[ho]at e;cases e;exact so
  have hl:kvs.length=vs.length:=rel.length;exact wpAny_pyNext_items_end (I.ok.hd hc) he hat' (by rw[hl];simp) fun h' hk=>⟨rfl,I.drew0 (t' :=s.toks) hf fun c o hc' y=>hk c o (by simpa using hc') y⟩
 self:=fun A i s Q E st h=>by
  obtain⟨ok,ov,he⟩:=st;refine Le ⟨_,he,rfl⟩ PySem.F.slot_dict_itemiterator_iter (J1 PySem.F.slot_dict_itemiterator_iter ⟨_,he,rfl⟩ fI ?_ (PySem.F.args_dict_itemiterator_iter_1 _));show wpAny _ _ (ret (.ref it)) _ _ s;exact JQ ⟨_,rfl,"dict_itemiterator",_,⟨_,he,rfl⟩,PySem.F.slot_dict_itemiterator_next.lookup,h⟩
noncomputable def FC(X:Cx)(td:TE):TI:=fun σ H R=>td σ H fun x H1=>∃a kvs,x=.ref a/\H1 a=some (.dK kvs)/\∀o,NF X a->R (JG a o kvs) (upd H1 a (.frz o (.dK kvs)))
theorem pq{es:List Expr}{kt:Nat}{tpos:Pos}{o:Expr}{to:TE}{apos cpos:Pos}(ho:PE X o to)(hbase:attributeBase o "items" X.env (eval o X.env)=eval o X.env:=by rfl)(hline:(apos.endLine==cpos.line)=true:=by rfl) :
  PI X (.Tuple es kt tpos) (.Call (.Attribute o "items" apos) [] [] cpos) (FC X to):=by
 intro pins s σ H R I h;refine wpAny_Call_method0_late hbase hline (al (ho pins s σ H _ I h) fun v s1 hpq=> ?_);obtain⟨x,H1,I1,r1,q1⟩:=hpq;obtain⟨a,kvs,rfl,ha,q⟩:=q1;cases r1;obtain⟨z,hd,vs,rel,dd⟩:=zV I1.hok ha;obtain⟨ep,da⟩:=dd.dictAt;obtain⟨o1,es1,hob,hex,_⟩:=id da;refine⟨"dict","dict.items",PySem.F.plainAttrs_dict,PySem.F.slot_dict_items,PySem.F.type_dict_items,dd.typeIs,fun b e=> ?_,L8 rfl (PySem.evalArgs_none ?_)⟩
 ·cases e
  exact⟨o1,hob,hex.2.1⟩
 refine call_meetsIn PySem.F.slot_dict_items dd.typeIs PySem.F.entry_dict_items (PySem.F.args_dict_items_1 _) (meets_dict_items (aU X.prog X.w) a hd) ⟨⟨vs,dd⟩,?_⟩;have I2:Inv X pins σ H1 {s1 with heap:=s1.heap.push {cls:=.type "dict_items",data:=.fields #[.ref a]}}:=I1.kept (t' :=s1.toks) fun b u e=>JN _ e;have da2:=da.push {cls:=.type "dict_items",data:=.fields #[.ref a]};refine wpAny_pyIter_items ⟨_,Jd _ rfl,rfl,rfl⟩ da2 ?_;have lt:a<s1.heap.objs.size:=Je hob;have I3:=I2.kept (t' :=s1.toks) (h' :=(s1.heap.push {cls:=.type "dict_items",data:=.fields #[.ref a]}).push {cls:=.type "dict_itemiterator",data:=.fields #[.none,.bool false,.ref a,.int 0 0,.int vs.length 0,.int ep 0,.none,.none]}) fun b u e=>JN _ e;have hob3:((s1.heap.push {cls:=.type "dict_items",data:=.fields #[.ref a]}).push {cls:=.type "dict_itemiterator",data:=.fields #[.none,.bool false,.ref a,.int 0 0,.int vs.length 0,.int ep 0,.none,.none]}).get? a=some o1:=JN _ (JN _ hob);have I4:=I3.known ha hob3;refine⟨(s1.heap.push {cls:=.type "dict_items",data:=.fields #[.ref a]}).objs.size,[(s1.heap.push {cls:=.type "dict_items",data:=.fields #[.ref a]}).objs.size],_,_,_,rfl,I4,rW (o:=o1) (h0:=s1.heap) (Jm (by rw[size_push'];exact KP lt)) rel da hob,⟨_,_,Jd _ rfl⟩,fun c hc=> ?_,q o1 (I1.nf ha)⟩;have e:c=(s1.heap.push {cls:=.type "dict_items",data:=.fields #[.ref a]}).objs.size:=by simpa using hc
 subst e;refine(I2.fpOk (JV _) ?_);rw[aB (KZ (by rw[size_push'];exact KP lt))];exact I2.hok.fresh (JV _)
noncomputable def thaw(X:Cx)(D:cG):cG where
 nx:=fun σ H=>∃a o kvs,H a=some (.frz o (.dK kvs))/\NF X a/\D.nx σ (upd H a (.dK kvs))
 bk:=fun σ H=>∃a o kvs,H a=some (.frz o (.dK kvs))/\NF X a/\D.bk σ (upd H a (.dK kvs))
 ct:=fun σ H=>∃a o kvs,H a=some (.frz o (.dK kvs))/\NF X a/\D.ct σ (upd H a (.dK kvs))
 rt:=fun v H=>∃a o kvs,H a=some (.frz o (.dK kvs))/\NF X a/\D.rt v (upd H a (.dK kvs))
theorem A6{st:Stmt}{t:TS}(h:PS X st t):PS X st (fun D σ H=>t (thaw X D) σ H):=by
 intro pins s σ H D I hr;refine al (h pins s σ H _ I hr) fun f s1 q=> ?_;cases f with
 | next =>
  obtain⟨σ',H',I',a,o,kvs,ha,nf,q⟩:=q;exact⟨σ',_,I'.unknown nf ha,q⟩
 | brk =>
  obtain⟨σ',H',I',a,o,kvs,ha,nf,q⟩:=q;exact⟨σ',_,I'.unknown nf ha,q⟩
 | cont =>
  obtain⟨σ',H',I',a,o,kvs,ha,nf,q⟩:=q;exact⟨σ',_,I'.unknown nf ha,q⟩
 | ret v =>
  obtain⟨σ',x,H',I',rx,a,o,kvs,ha,nf,q⟩:=q;exact⟨σ',x,_,I'.unknown nf ha,rx,q⟩
theorem wV{a:Addr}{o:Obj}{kvs:List (ae×V)}{g:TG}{tb:TS}{D:cG}{σ:St}{H:Hp}(Pv:Nat->St->Hp->Prop)(h0:Pv 0 σ H)(ha:∀i σ H,i<=kvs.length->Pv i σ H->H a=some (.frz o (.dK kvs)))
  (hs:∀i k x p σ H,kvs[i]? =some (k,x)->H p=none->Pv i σ H->g (.ref p) σ (upd H p (.tup [kV k,x])) fun σ2 H2=>tb {D with nx:=Pv (i+1),ct:=Pv (i+1),bk:=D.nx} σ2 H2) (hd:∀σ H,Pv kvs.length σ H->D.nx σ H) :
  ∃W:Nat->Nat->St->Hp->Prop,(∃m,W 0 m σ H)/\∀i m σ H,W i m σ H ->
   ((JG a o kvs).stop i H/\D.nx σ H)\/((JG a o kvs).go i H/\∃N:St->Hp->Prop,(∀σ' H',N σ' H' ->∃m',m' <m/\W (i+1) m' σ' H')/\∀x H',(JG a o kvs).yld i H x H' ->g x σ H' fun σ2 H2=>tb {D with nx:=N,ct:=N,bk:=D.nx} σ2 H2):=by
 refine⟨fun i m σ H=>m=kvs.length-i/\i<=kvs.length/\Pv i σ H,⟨kvs.length,by simp,Js _,h0⟩,?_⟩;rintro i m σ H ⟨rfl,hi,p⟩;have qa:=ha i σ H hi p
 by_cases hlt:i<kvs.length
 ·have ex:kvs[i]? =some kvs[i]:=by simp[hlt]
  refine .inr ⟨⟨qa,hlt⟩,Pv (i+1),fun σ' H' p' =>⟨kvs.length-(i+1),by omega,rfl,hlt,p'⟩,fun x H' y=> ?_⟩;obtain⟨pp,hn,rfl,y⟩:=y;have e:=y kvs[i].1 kvs[i].2 ex;subst e;exact hs i _ _ pp σ H ex hn p
 ·have e:i=kvs.length:=by omega
  subst e;exact .inl ⟨⟨qa,rfl⟩,hd σ H p⟩
end
namespace RV
section
variable{prog:Program}{w:World}{A:Around}{E:Value->Shared->Prop}{s:Shared}{x:Str}{t:Tok}
end
end RV
end L2
namespace L2
open PySem PySem.Spec PyProof.Rows
namespace RV
noncomputable def JH(h:Heap)(a:Addr)(x:Str)(t:Tok)(i:Int):Prop:=∃o,h.get? a=some o/\o.cls=.type "reversed"/\o.data=.fields #[.str x t,rawInt i]
section
variable{prog:Program}{w:World}{A:Around}{E:Value->Shared->Prop}{s:Shared}{x:Str}{t:Tok}{a:Addr}
theorem JH.ty{i:Int}(r:JH s.heap a x t i):s.TypeIs (.ref a) "reversed":=by
 obtain⟨o,e,c,_⟩:=r;exact⟨o,e,c⟩
end
end RV
end L2
namespace L2
open PySem PySem.Spec PyProof.Rows
namespace RV
section
variable{prog:Program}{w:World}{A:Around}{E:Value->Shared->Prop}{s:Shared}{x:Str}{t:Tok}{a:Addr}
end
end RV
end L2
namespace L2
open PySem PySem.Spec PyProof.Rows
namespace RV
open Builtin Builtin.Str Builtin.Int
section
variable{prog:Program}{w:World}{A:Around}{E:Value->Shared->Prop}{s:Shared}{x sep:Str}{t u:Tok}{a:Addr}
end
end RV
section
variable{X:Cx}
end
end L2
namespace L2
open PySem PySem.Spec PyProof.Rows
section
variable{X:Cx}
theorem Inv.knownT{pins:List (Addr×Obj)}{σ:St}{H:Hp}{s:Shared}{a:Addr}{kvs:List (List ae×V)}{o:Obj}(I:Inv X pins σ H s)(ha:H a=some (.dT kvs))(ho:s.heap.get? a=some o):Inv X pins σ (upd H a (.frz o (.dT kvs))) s:=by
 have nt:∀b xs,H b=some (.tup xs)->upd H a (.frz o (.dT kvs)) b=some (.tup xs):=fun b xs e=>by rw[aB (fun z=>by subst z;rw[ha]at e;cases e)];exact e
 refine⟨I.ok,I.os,I.bare,⟨I.base.keep,I.base.slot,fun b ob e n hx=> ?_,I.base.there,fun b xs e=>nt b xs (I.base.tups b xs e),fun b ob u e=> ?_,fun b ps e=> ?_⟩,I.loc,I.cell,?_,fun x c e=> ?_,fun p hp=> ?_,fun b u e=> ?_,I.len⟩
 ·have:=I.base.free b ob e n hx
  rw[aB (fun z=>by subst z;rw[ha]at this;cases this)];exact this
 ·have:=I.base.frzs b ob u e
  rw[aB (fun z=>by subst z;rw[ha]at this;cases this)];exact this
 ·obtain⟨m,e⟩:=I.base.tbls b ps e
  exact⟨m,by rw[aB (fun z=>by subst z;rw[ha]at e;cases e)];exact e⟩
 ·rw[aB (fun z=>by have:=I.free;rw[z,ha]at this;cases this)]
  exact I.free
 ·have:=I.freeC x c e
  rw[aB (fun z=>by rw[z,ha]at this;cases this)];exact this
 ·obtain⟨h1,h2,h3⟩:=I.pin p hp
  exact⟨h1,by rw[aB (fun z=>by rw[z,ha]at h2;cases h2)];exact h2,h3⟩
 ·by_cases hb:b=a
  ·subst hb
   rw[aC]at e;cases e;refine⟨ho,?_⟩;exact(I.hok b _ ha).stay (fun _ _ _ q=>q) (fun c q=>by rw[aB (fun z=>by subst z;rw[ha]at q;cases q)];exact q) nt
  ·rw[aB hb]at e
   exact(I.hok b u e).stay (fun _ _ _ q=>q) (fun c q=>by rw[aB (fun z=>by subst z;rw[ha]at q;cases q)];exact q) nt
theorem Inv.nfT{pins:List (Addr×Obj)}{σ:St}{H:Hp}{s:Shared}{a:Addr}{kvs:List (List ae×V)}(I:Inv X pins σ H s)(ha:H a=some (.dT kvs)):NF X a:=fun o u e=>by
 have:=I.base.frzs a o u e;rw[ha]at this;cases this
theorem Inv.unknownT{pins:List (Addr×Obj)}{σ:St}{H:Hp}{s:Shared}{a:Addr}{kvs:List (List ae×V)}{o:Obj}(I:Inv X pins σ H s)(nf:NF X a)(ha:H a=some (.frz o (.dT kvs))):Inv X pins σ (upd H a (.dT kvs)) s:=by
 have nt:∀b xs,H b=some (.tup xs)->upd H a (.dT kvs) b=some (.tup xs):=fun b xs e=>by rw[aB (fun z=>by subst z;rw[ha]at e;cases e)];exact e
 refine⟨I.ok,I.os,I.bare,⟨I.base.keep,I.base.slot,fun b ob e n hx=> ?_,I.base.there,fun b xs e=>nt b xs (I.base.tups b xs e),fun b ob u e=> ?_,fun b ps e=> ?_⟩,I.loc,I.cell,?_,fun x c e=> ?_,fun p hp=> ?_,fun b u e=> ?_,I.len⟩
 ·have:=I.base.free b ob e n hx
  rw[aB (fun z=>by subst z;rw[ha]at this;cases this)];exact this
 ·have:=I.base.frzs b ob u e
  rw[aB (fun z=>by subst z;exact nf _ _ e)];exact this
 ·obtain⟨m,e⟩:=I.base.tbls b ps e
  exact⟨m,by rw[aB (fun z=>by subst z;rw[ha]at e;cases e)];exact e⟩
 ·rw[aB (fun z=>by have:=I.free;rw[z,ha]at this;cases this)]
  exact I.free
 ·have:=I.freeC x c e
  rw[aB (fun z=>by rw[z,ha]at this;cases this)];exact this
 ·obtain⟨h1,h2,h3⟩:=I.pin p hp
  exact⟨h1,by rw[aB (fun z=>by rw[z,ha]at h2;cases h2)];exact h2,h3⟩
 ·by_cases hb:b=a
  ·subst hb
   rw[aC]at e;cases e;exact(I.hok b _ ha).2.stay (fun _ _ _ q=>q) (fun c q=>by rw[aB (fun z=>by subst z;rw[ha]at q;cases q)];exact q) nt
  ·rw[aB hb]at e
   exact(I.hok b u e).stay (fun _ _ _ q=>q) (fun c q=>by rw[aB (fun z=>by subst z;rw[ha]at q;cases q)];exact q) nt
section
variable{prog:Program}{w:World}{A:Around}{E:Value->Shared->Prop}{s:Shared}{d:Addr}{od:Obj}{es:Array DictEntry}{ep:Nat}
theorem yw{Q:Value->Shared->Prop}(hd:(d==sysModules)=false)(ho:s.heap.get? d=some od)(hc:od.ExactDict)(hdat:od.data=.dict es ep)
  (hQ:Q (.ref s.heap.objs.size) {s with heap:=s.heap.push ⟨.type "dict_keyiterator",none,.fields #[.ref d,.int 0 0,.int es.size 0,.int ep 0],#[]⟩}):wpAny (model prog w) A (pyIter (.ref d)) Q E s:=by
 have hT:s.TypeIs (.ref d) "dict":=⟨od,ho,hc.1⟩
 refine Le hT F.slot_dict_iter
  (J1 F.slot_dict_iter hT F.entry_dict_iter ?_ (F.args_dict_iter_1 _))
 unfold Builtin.«dict.__iter__» Builtin.Dict.dictSlotNone;refine JL (JL (wpAny_notOrdered_dict hT (JQ ?_)));show wpAny _ _ (Builtin.Dict.showsAll d >>= _) _ _ s;unfold Builtin.Dict.showsAll;rw[JR (by rw[hd];simp)];refine JL (JQ (JL (Lf ho hdat (JL (wpAny_dictEpoch ho hdat ?_)))))
 refine JL (KM (JQ ⟨_,rfl,"dict_keyiterator",_,
  ⟨_,Jd _ rfl,rfl⟩,F.slot_dict_keyiterator_next.lookup,?_⟩))
 simpa [rawInt]using hQ
theorem yX{it:Addr}{i:Nat}{e:DictEntry}{Q:Option Value->Shared->Prop}(jK:s.heap.IsKeyIter it d i es.size ep)(hod:s.heap.get? d=some od)(hdd:od.data=.dict es ep)(hx:es[i]? =some e)
  (hQ:∀h',h'.IsKeyIter it d (i+1) es.size ep->Heap.SameBut it s.heap h' ->Q (some e.key) {s with heap:=h'}):wpAny (model prog w) A (pyNext (.ref it)) Q E s:=by
 obtain⟨oi,hoi,hci,hdi⟩:=id jK;have ty:=jK.typeIs;unfold pyNext
 refine JL (Lq (KR (name:=Str.ofString "__next__") ty F.slot_dict_keyiterator_next
  (J1 F.slot_dict_keyiterator_next ty F.entry_dict_keyiterator_next ?_ (F.args_dict_keyiterator_next_1 _))))
 refine JL (JQ (JL (JL ?_)))
 first
  | refine JL (LQ ty (JQ ?_))
  | refine JL (Lp ty (JQ ?_))
 refine JL (wpAny_fieldsOf hoi hdi ?_);have own0:Builtin.Dict_items.ownsTuple "dict_keyiterator"=false:=by decide
 simp only[own0,K2,L4];show wpAny _ _ (ite ((Value.ref d==Value.none)=true) _ _) _ _ s;rw[JR (show¬((Value.ref d==Value.none)=true)by intro z;cases z)];refine JL (JQ (JL (Lf hod hdd ?_)));rw[JR (by simp)];refine JL (JQ (JL (wpAny_dictEpoch hod hdd ?_)));rw[JR (by simp)];refine JQ ?_;have lt:i<es.size:=by
  rcases Lb i es.size with z|z
  ·exact z
  ·rw[Array.getElem?_eq_none z]at hx
   cases hx
 have ee:es[i]=e:=by rw[Lh lt]at hx;exact Jl hx
 simp only[show¬((i:Int)<0)from by omega,L4,LC,Lh lt];refine JL ?_
 first
  | refine JL (LQ ty (JQ ?_))
  | refine JL (Lp ty (JQ ?_))
 refine JL (wpAny_isOneOf_keyiter ty ?_);show wpAny _ _ (setField (.ref it) 1 (rawInt ((i:Int)+1)) >>= _) _ _ s;refine JL (Kt hoi hdi (by simp) ?_)
 have hit2:(s.heap.update it (Obj.mapFields (·.setIfInBounds 1 (rawInt ((i:Int)+1))))).IsKeyIter it d (i+1) es.size ep :=
  ⟨_,J6 _ hoi (Kn (KJ hdi _)),(L7 ..).trans hci,
   by rw[KJ hdi];simp[rawInt]⟩
 refine JL (KS (JL (wpAny_isOneOf_keyiter (s:={s with heap:=s.heap.update it (Obj.mapFields (·.setIfInBounds 1 (rawInt ((i:Int)+1))))}) hit2.typeIs ?_)));show wpAny _ _ (pure es[i].key) _ _ _;rw[ee];exact JQ (JQ ⟨_,rfl,JQ (hQ _ hit2 (Kk ..))⟩)
theorem B4{it:Addr}{i:Nat}{Q:Option Value->Shared->Prop}(hh:A.handled=none)(jK:s.heap.IsKeyIter it d i es.size ep)(hod:s.heap.get? d=some od)(hdd:od.data=.dict es ep)(hx:es.size<=i)
  (hQ:∀h',Heap.ExtBut it s.heap h' ->Q none {s with heap:=h'}):wpAny (model prog w) A (pyNext (.ref it)) Q E s:=by
 obtain⟨oi,hoi,hci,hdi⟩:=id jK;have ty:=jK.typeIs;unfold pyNext
 refine JL (Lq (KR (name:=Str.ofString "__next__") ty F.slot_dict_keyiterator_next
  (J1 F.slot_dict_keyiterator_next ty F.entry_dict_keyiterator_next ?_ (F.args_dict_keyiterator_next_1 _))))
 refine JL (JQ (JL (JL ?_)))
 first
  | refine JL (LQ ty (JQ ?_))
  | refine JL (Lp ty (JQ ?_))
 refine JL (wpAny_fieldsOf hoi hdi ?_);have own0:Builtin.Dict_items.ownsTuple "dict_keyiterator"=false:=by decide
 simp only[own0,K2,L4];show wpAny _ _ (ite ((Value.ref d==Value.none)=true) _ _) _ _ s;rw[JR (show¬((Value.ref d==Value.none)=true)by intro z;cases z)];refine JL (JQ (JL (Lf hod hdd ?_)));rw[JR (by simp)];refine JL (JQ (JL (wpAny_dictEpoch hod hdd ?_)));rw[JR (by simp)];refine JQ ?_;simp only[show¬((i:Int)<0)from by omega,L4,LC,Array.getElem?_eq_none hx];refine JL ?_
 first
  | refine JL (LQ ty (JQ ?_))
  | refine JL (Lp ty (JQ ?_))
 show wpAny _ _ (setField (.ref it) 0 .none >>= _) _ _ s;refine JL (Kt hoi hdi (by simp) ?_);show wpAny _ _ (newExc (.type "StopIteration") [] >>= _) _ _ _;refine JL ?_;simp only[newExc,newTuple];refine JL (KM ?_ (by size_fits))
 refine JL (m:=firstArgMember _ _)
  (K4 (a:=Value.none) (by first|rfl|(simp only[firstArgMember];rfl)) ?_)
 refine KM ?_ (by size_fits);simp only[raiseNew];refine JL (wpAny_handled ?_);rw[show A.in1.handled=none from hh];refine JL (JQ (wpAny_throw ?_))
 refine JL
  (Ln (T:="StopIteration") (b:=true) ⟨_,Jd _ rfl,rfl⟩ isSubtype_stop ?_)
 exact JQ (hQ _ (((Kk ..).extBut.push _).push _))
theorem zM{l:List DictEntry}:∀(_:(l.map (·.hash)).Nodup)(x:_),(l.filter fun e=>e.hash==x).length<=1:=by
 induction l with
 | nil=>intro _ x;simp
 | cons a l ih =>
  intro hn x;rw[JZ,Jt]at hn;rw[Kb]
  by_cases h:a.hash=x
  ·have e:l.filter (fun e=>e.hash==x)=[]:=by
    rw[List.filter_eq_nil_iff];intro y hy z;exact hn.1 (JW.mpr ⟨y,hy,by rw[h];exact Jp z⟩)
   rw[e,JS (by rw[h];exact beq_self_eq_true _)];exact JV _
  ·rw[JR (fun z=>h (Jp z))]
   exact ih hn.2 x
theorem qg{id:String}{Q:Array DictEntry->Shared->Prop}(ho:s.heap.get? d=some od)(hd:od.data=.dict es ep)(ht:∀e∈es,∃b its,e.key=.ref b/\IsTup s.heap b its)(hn:(es.toList.map (·.hash)).Nodup)(h:Q es s) :
  wpAny (model prog w) A (Builtin.Dict.entriesForEmpty id d) Q E s:=by
 unfold Builtin.Dict.entriesForEmpty;refine JL (Lf ho hd ?_);refine JL (PySem.MeetsSeq2.wpAny_forIn_array _ (fun aN _ s' =>s' =s/\∀e∈aN,e∈es) _ ?_ ?_ es PUnit.unit ⟨rfl,fun e he=>Array.mem_toList_iff.mp he⟩)
 ·rintro e aN b s' ⟨rfl,hm⟩
  obtain⟨k,its,ek,it⟩:=ht e (hm e JP);rw[ek];unfold Builtin.Dict.quietEq;dsimp only;refine JL (JL (LV it.typeIs F.slot_tuple_eq.lookup (JQ ?_)));rw[JS (by decide)];have one:¬(Array.filter (fun x=>x.hash==e.hash) es).size>1:=by
   have:=zM hn e.hash;rw[<- Array.toList_filter]at this;have q:(Array.filter (fun x=>x.hash==e.hash) es).toList.length=(Array.filter (fun x=>x.hash==e.hash) es).size:=Jv;omega
  rw[JR one];exact JQ ⟨rfl,fun e' he' =>hm e' (JO _ he')⟩
 ·rintro b s' ⟨rfl,_⟩
  exact JQ h
theorem zY{Q:Value->Shared->Prop}(hoS:(d==sysModules)=false)(ho:s.heap.get? d=some od)(hc:od.ExactDict)(hd:od.data=.dict es ep)(h0:0<es.size)(hsz:es.size<=sizeLine)
  (ht:∀e∈es,∃b its,e.key=.ref b/\IsTup s.heap b its) (hn:(es.toList.map (·.hash)).Nodup)
  (h:∀h',h'.get? s.heap.objs.size=some ⟨.type "dict",none,.dict es 1,#[]⟩->(∀b q,s.heap.get? b=some q->h'.get? b=some q)->Q (.ref s.heap.objs.size) {s with heap:=h'}) :
  wpAny (model prog w) A (call (.type "dict") [.ref d]) Q E s:=by
 refine callType_codes (Q₁:=fun obj s₁=>obj=.ref s.heap.objs.size/\s₁={s with heap:=s.heap.push ⟨.type "dict",none,.dict #[] 0,#[]⟩})
  F.kt_called_dict (F.kt_typeCall_dict_1 _) F.entry_dict_init (kt_code_dict_new _ ⟨rfl,rfl⟩) ?_
 rintro obj s₁ ⟨rfl,rfl⟩;have lt:d<s.heap.objs.size:=Je ho;have new:(s.heap.push ⟨.type "dict",none,.dict #[] 0,#[]⟩).get? s.heap.objs.size=some ⟨.type "dict",none,.dict #[] 0,#[]⟩:=Jd _ rfl;have ho' :(s.heap.push ⟨.type "dict",none,.dict #[] 0,#[]⟩).get? d=some od:=JN _ ho;have tn:Shared.TypeIs {s with heap:=s.heap.push ⟨.type "dict",none,.dict #[] 0,#[]⟩} (.ref s.heap.objs.size) "dict":=⟨_,new,rfl⟩;have to:Shared.TypeIs {s with heap:=s.heap.push ⟨.type "dict",none,.dict #[] 0,#[]⟩} (.ref d) "dict":=⟨_,ho',hc.1⟩;refine⟨tn,F.args_dict_init_2 _ _,?_⟩;unfold Builtin.«dict.__init__»;refine JL ?_;unfold Builtin.Dict.selfAndRest;refine JL (wpAny_notOrdered_dict tn (JQ ?_));show wpAny _ _ (Builtin.Dict.updateFrom "dict.__init__" s.heap.objs.size (.ref d) [] .none) _ _ _;unfold Builtin.Dict.updateFrom;refine JL (wpAny_typeOf to ?_);rw[JR (by decide)];refine JL ?_;unfold Builtin.Dict.merge;refine JL ?_;unfold Builtin.Dict.readDirectly;refine JL (Ln to isSubtype_dict_dict ?_);simp only[Bool.not_true,K2,L4];refine JL (LV to F.slot_dict_iter.lookup (JQ ?_));simp only[beq_self_eq_true,if_true];refine JL (JQ ?_);unfold Builtin.Dict.mergeDict;rw[JR (fun z=>absurd (Jp z) (KZ lt))];unfold Builtin.Dict.showsAll;rw[JR (by rw[hoS];simp)];refine JL (JQ (JL (Lf ho' hd ?_)));have nf:(decide (es.size<=8)&&es.all fun e=>(keyPart e.key).isSome)=false:=by
  rw[Bool.and_eq_false_iff];refine .inr ?_;rw[Array.all_eq_false];obtain⟨b,its,e,_⟩:=ht es[0] (Array.getElem_mem h0);exact⟨0,h0,by rw[e];simp[keyPart]⟩
 dsimp only;rw[nf,JS (by decide)];refine JL (Lf new rfl ?_);rw[JS (by decide)];refine JL (qg ho' hd (fun e he=> ?_) hn ?_)
 ·obtain⟨b,its,e1,o1,e2,e3⟩:=ht e he
  exact⟨b,its,e1,o1,JN _ e2,e3⟩
 rw[JS (by simp only[LD,Array.isEmpty_eq_false_iff];intro z;rw[z]at h0;exact absurd h0 (by decide))];refine JL (wpAny_updateDictKeysTo new rfl (JQ ?_) (by omega));show wpAny _ _ (Builtin.Dict.addKeywords s.heap.objs.size [] >>= _) _ _ _;refine JL (JQ (JQ ⟨rfl,h _ ?_ fun b q e=> ?_⟩))
 ·exact J6 _ new rfl
 ·have ne:b≠s.heap.objs.size:=Jm (Je e)
  exact((Kk _ s.heap.objs.size _).2 b ne).trans (JN _ e)
end
noncomputable def Apart(P:Program)(w:World)(ks:List (List ae)):Prop:=(ks.map (tupleKeyHash (aU P w))).Nodup
theorem Paired.mem2{α β:Type}{F:α->β->Prop}:∀{l₁:List α}{l₂:List β},Paired F l₁ l₂->∀b∈l₂,∃a∈l₁,F a b:=by
 intro l₁ l₂ h b hb
 induction h with
 | nil=>cases hb
 | cons r t ih =>
  rcases Jg.mp hb with rfl|hb
  ·exact⟨_,JP,r⟩
  ·obtain⟨a,ha,h⟩:=ih hb
   exact⟨a,JO _ ha,h⟩
theorem Paired.keys{H:Hp}:∀{kvs:List (List ae×V)}{xs:List (List ae×Addr×Value)},KT H kvs xs->xs.map (·.1)=kvs.map (·.1):=by
 intro kvs xs h
 induction h with
 | nil=>rfl
 | cons r t ih=>rw[JZ,JZ,ih,r.1]
theorem Paired.at1{α β:Type}{F:α->β->Prop}:∀{l₁:List α}{l₂:List β}{i:Nat}{a:α},Paired F l₁ l₂->l₁[i]? =some a->∃b,l₂[i]? =some b/\F a b
 | _,_,_,_,.nil,h=>by simp at h
 | _,_,0,_,.cons r t,h=>by
  simp at h;subst h;exact⟨_,by simp,r⟩
 | _,_,i+1,_,.cons r t,h=>by simpa using Paired.at1 t (by simpa using h)
theorem qw:bF X (.type "dict") (fun xs H Q=>∃a kvs,xs=[V.ref a]/\H a=some (.dT kvs)/\kvs≠[]/\Apart X.prog X.w (kvs.map (·.1))/\∀p,H p=none->Q (.ref p) (upd H p (.dT kvs))):=by
 intro pins s σ H xs us Q I r h;obtain⟨a,kvs,rfl,ha,h0,hap,q⟩:=h;obtain⟨u,rfl,ru⟩:=vals1 r;cases ru;obtain⟨z,hd,ys,rel,o,es,ep,h1,h2,h3,h4,h5⟩:=(show aj X.prog X.w H s.heap a (.dT kvs)from I.hok a _ ha);have hl:kvs.length=ys.length:=ME rel;have he:es.size=ys.length:=by
  have:=Jw List.length h4;rw[Jv,JM]at this;exact this
 have tup:∀e∈es,∃b its,e.key=.ref b/\IsTup s.heap b its:=fun e hm=>by
  have hm:=Array.mem_toList_iff.mpr hm;rw[h4]at hm;obtain⟨y,hy,rfl⟩:=JW.mp hm;obtain⟨kv,_,f⟩:=Paired.mem2 rel y hy;obtain⟨_,its,_,it⟩:=(show aj X.prog X.w H s.heap y.2.1 (.tup _)from I.hok _ _ f.2.1);exact⟨y.2.1,_,rfl,it.tup⟩
 have nd:(es.toList.map (·.hash)).Nodup:=by
  rw[h4,Jq];have e:(ys.map ((fun x:DictEntry=>x.hash)∘entryOfKey (tupleKind (aU X.prog X.w))))=(ys.map (·.1)).map (tupleKeyHash (aU X.prog X.w)):=by rw[Jq];rfl
  rw[e,Paired.keys rel];exact hap
 have pos:0<es.size:=by
  rw[he,<-hl];exact List.length_pos_iff.mpr h0
 refine zY hd h1 h2 h3 pos (by rw[he,<-hl];exact z) tup nd fun h' hn hk=> ?_;have big:s.heap.objs.size≠sysModules:=KZ I.big;refine⟨.ref s.heap.objs.size,_,I.laid (a:=s.heap.objs.size) (o:=.dT kvs) (t' :=s.toks) hk (JV _) ⟨z,Ks.mpr big,ys,Paired.imp' (fun p y f=>⟨f.1,?_,f.2.2⟩) rel,_,es,1,hn,⟨rfl,rfl,rfl⟩,rfl,h4,h5⟩,rfl,q _ (I.hok.fresh (JV _))⟩;rw[aB (Jm (I.hok.lt f.2.1))];exact f.2.1
noncomputable def JF(a:Addr)(o:Obj)(kvs:List (List ae×V)):It :=
 ⟨fun i H=>H a=some (.frz o (.dT kvs))/\i<kvs.length,fun i H v H' =>H' =H/\∃b,v=.ref b/\∀k x,kvs[i]? =some (k,x)->H b=some (.tup (k.map kV)),fun i H=>H a=some (.frz o (.dT kvs))/\i=kvs.length⟩
theorem vl{P:Program}{w:World}{K:W.Frag}{tg:Expr}{a it:Addr}{o:Obj}{kvs:List (List ae×V)}{es:Array DictEntry}{ep:Nat}(hd:o.data=.dict es ep)(hz:es.size=kvs.length) :
  lZ P w K tg (JF a o kvs) [it] it (fun i h=>h.IsKeyIter it a i es.size ep) where
 mem:=by simp
 obj:=fun i h st b hb=>by
  have e:b=it:=by simpa using hb
  subst e;obtain⟨o',e,_,d⟩:=st;exact⟨o',e,fun v z=>by rw[d]at z;cases z⟩
 keep:=fun i h h' st k=>st.at fun o e=>k it (by simp) o e
 item:=by
  intro X hP hw hK hc i pins s σ H E I hf st hg;subst hP hw hK;obtain⟨hfr,hlt⟩:=hg;obtain⟨so,ok⟩:=(show aj X.prog X.w H s.heap a (.frz o (.dT kvs))from I.hok a _ hfr);obtain⟨z,_,ys,rel,o2,es2,ep2,h1,h2,h3,h4,h5⟩:=ok;have eo:o2=o:=Jl (h1.symm.trans so);subst eo;have ed:es2=es/\ep2=ep:=by rw[hd]at h3;cases h3;exact⟨rfl,rfl⟩
  obtain⟨rfl,rfl⟩:=ed;obtain⟨⟨k,x⟩,hx⟩:∃q,kvs[i]? =some q:=⟨kvs[i],by simp[hlt]⟩;obtain⟨y,hy,f⟩:=Paired.at1 rel hx;have he:es2[i]? =some (entryOfKey (tupleKind (aU X.prog X.w)) y):=by rw[<- KY,h4,Jc,hy];rfl
  obtain⟨f0,f1,f2,f3,f4,f5⟩:=hf it (by simp);refine yX st so hd he fun h' st' sb=> ?_;have I1:Inv X pins σ H {s with heap:=h'}:=I.turned (t' :=s.toks) (fun b o hb e=>(sb.2 b hb).trans e) f0 f1 f3 f4 f5;obtain⟨o',e',c',d'⟩:=id st';refine⟨_,rfl,mN (s:={s with heap:=h'}) e' c' d' (by decide) ⟨.ref y.2.1,H,I1,rfl,⟨rfl,y.2.1,rfl,fun k' x' hx' => ?_⟩,st',fun b hb=>(hf b hb).1⟩⟩;rw[hx]at hx';cases hx';exact f.2.1
 done:=by
  intro X hP hw hK hc i pins s σ H E I hf st hg;subst hP hw hK;obtain⟨hfr,rfl⟩:=hg;obtain⟨so,_⟩:=(show aj X.prog X.w H s.heap a (.frz o (.dT kvs))from I.hok a _ hfr);obtain⟨f0,f1,f2,f3,f4,f5⟩:=hf it (by simp);exact B4 (I.ok.hd hc) st so hd (by rw[hz];exact JV _) fun h' eb=>⟨rfl,I.turned (t' :=s.toks) (fun b o hb e=>eb b o hb e) f0 f1 f3 f4 f5⟩
 self:=fun _ _ _ _ _ st h=>wpAny_pyIter_keyiter st h
noncomputable def Ht(X:Cx)(td:TE):TI:=fun σ H R=>td σ H fun x H1=>∃a kvs,x=.ref a/\H1 a=some (.dT kvs)/\∀o,NF X a->R (JF a o kvs) (upd H1 a (.frz o (.dT kvs)))
theorem uV{tg l:Expr}{tl:TE}(hl:PE X l tl):PI X tg l (Ht X tl):=by
 intro pins s σ H R I h;refine al (hl pins s σ H _ I h) fun v s1 hpq=> ?_;obtain⟨x,H1,I1,r1,q1⟩:=hpq;obtain⟨a,kvs,rfl,ha,q⟩:=q1;cases r1;obtain⟨z,hd,ys,rel,o,es,ep,h1,h2,h3,h4,h5⟩:=(show aj X.prog X.w H1 s1.heap a (.dT kvs)from I1.hok a _ ha);have he:es.size=kvs.length:=by
  have:=Jw List.length h4;rw[Jv,JM]at this;rw[this];exact(ME rel).symm
 refine yw hd h1 h2 h3 ?_;have lt:a<s1.heap.objs.size:=Je h1;have I2:=I1.kept (t' :=s1.toks) (h' :=s1.heap.push ⟨.type "dict_keyiterator",none,.fields #[.ref a,.int 0 0,.int es.size 0,.int ep 0],#[]⟩) fun b o e=>JN _ e;have I3:=I2.knownT ha (JN _ h1);refine⟨s1.heap.objs.size,[s1.heap.objs.size],_,_,_,rfl,I3,vl h3 he,⟨_,Jd _ rfl,rfl,rfl⟩,fun b hb=> ?_,q o (I1.nfT ha)⟩;have e:b=s1.heap.objs.size:=by simpa using hb
 subst e;refine(I1.fpOk (JV _) ?_);rw[aB (KZ lt)];exact I1.hok.fresh (JV _)
theorem wA(hu:X.A.units+1<cLine){k v:Expr}{pos:Pos}{tk tv:TE}(hk:PE X k tk)(hv:PE X v tv):PE X (.Dict [some k] [v] pos) (fun σ H Q=>∀p,H p=none->tk σ (upd H p (.dT [])) fun y H1=>tv σ H1 fun x H2 =>
  ∃b kk,y=.ref b/\H2 b=some (.tup (kk.map kV))/\H2 p=some (.dT [])/\Q (.ref p) (upd H2 p (.dT [(kk,x)]))):=by
 intro pins s σ H Q I q;have hn:=I.hok.fresh (JV s.heap.objs.size);have I1:=I.laid (a:=s.heap.objs.size) (o:=.dT []) (h' :=s.heap.push {cls:=.type "dict",data:=.dict #[]}) (t' :=s.toks) (fun _ _ q=>JN _ q) (JV _) (zU s.heap I.big);refine wpAny_Dict_any rfl rfl (by simp) (by show 1<=15;decide) (pairTrees_cons_walk (al (hk pins _ σ _ _ I1 (q _ hn)) fun ky s2 ⟨y,H2,I2,ry,q2⟩=>al (hv pins _ σ _ _ I2 q2) fun vx s3 ⟨x,H3,I3,rx,q3⟩=>pairTrees_nil_walk ?_));obtain⟨b,kk,rfl,hb,hp,q3⟩:=q3;cases ry;obtain⟨z,hd,xs,rel,dd⟩:=DE I3.hok hp;cases rel;unfold storeAll;rw[List.forIn_cons];refine JL (JL (wpAny_dictSet_heap (hsz:=Js _) (show X.A.units<cLine by omega) (kH I3.hok hb) dd fun h' dd' hs=>JQ ?_));dsimp only;rw[List.forIn_nil];refine JQ ⟨.ref s.heap.objs.size,_,?_,rfl,q3⟩;obtain⟨q,es,ep,hq,h2,h3,h4,_,h5⟩:=dd';have nil:KT H3 ([]:List (List ae×V)) []:=.nil;refine jX I3 (by rw[hp];exact True.intro) hs ⟨q,hq⟩ ⟨by show 1<=sizeLine;decide,hd,_,(nil.put kk hb rx).keeps fun c ys ec=> ?_,q,es,ep,hq,h2,h3,h4,h5⟩;rw[aB (yY ec hp (fun z=>nomatch z))];exact ec
section
variable{prog:Program}{w:World}{A:Around}{E:Value->Shared->Prop}{s:Shared}
theorem qr{l:Addr}{vs:List Value}{Q:List Value->Shared->Prop}(hl:IsTup s.heap l vs.toArray)(hsz:vs.length<=sizeLine)
  (h:Q vs {s with heap:=(s.heap.push (seqObj "list" #[] 0)).update s.heap.objs.size (Obj.mapSeq (·++vs.toArray))}):wpAny (model prog w) A (collect (.ref l)) Q E s:=by
 obtain⟨o,ho,hc,n,hd⟩:=id hl;unfold collect;refine JL (wpAny_runValue (Kx entry_proto_collect' ?_));show wpAny _ _ (do again (.builtin "list.__iadd__" ⟨[<- newList [],.ref l],[]⟩)) _ _ s
 refine JL (MD (JQ ⟨Code.quiet_builtin _ (by decide +kernel),
  Kx entry_list_iadd' ?_⟩))
 show wpAny _ _ (Builtin.List.listExtendWith (.ref s.heap.objs.size) (.ref l) (.ref s.heap.objs.size))
  _ _ {s with heap:=s.heap.push (seqObj "list" #[] 0)}
 unfold Builtin.List.listExtendWith;have ho2:(s.heap.push (seqObj "list" #[] 0)).get? l=some o:=JN _ ho;have new2:(s.heap.push (seqObj "list" #[] 0)).get? s.heap.objs.size=some (seqObj "list" #[] 0):=Jd _ rfl;refine JL (wpAny_typeOf (T:="tuple") ⟨o,ho2,hc⟩ ?_);rw[JS (by rw[show(Value.type "tuple"==Value.type "tuple")=true from rfl];simp)];refine JL (listItems_at ho2 hd (JL (listItems_at (xs:= #[]) (n:=0) new2 rfl ?_)));rw[JR (by simp)]
 refine JL (listUpdate_at (xs:= #[]) (n:=0) new2 rfl (JQ ?_) (Js _)
  (by show(#[]++vs.toArray).size<=sizeLine+1;simp only[Array.size_append,Jb,K8];omega))
 show wpAny (model prog w) A (load s.heap.objs.size >>= _) Q E _;refine JL (wpAny_load (get?_update_seq new2 _) ?_);show wpAny _ _ (pure ((#[]:Array Value)++vs.toArray).toList) Q E _;rw[show((#[]:Array Value)++vs.toArray).toList=vs by simp];exact JQ h
theorem o8{l:Addr}{vs:List Value}{ns:List Int}{Q:Value->Shared->Prop}(hl:IsTup s.heap l vs.toArray)(hI:IntsAre vs ns)(h64:vs.length<64)
  (h:∀(out:Array Value)(ms:List Int),IntsAre out.toList ms->ms.Perm ns->ms.Pairwise (·<=·)->Q (.ref (s.heap.objs.size+1)) {s with heap:=sortedAll s.heap vs out}):wpAny (model prog w) A (call (.builtin "sorted") [.ref l]) Q E s:=by
 refine MO kind_sorted plain_sorted entry_sorted (args_sorted1 _) ?_;unfold Builtin.«sorted»;have hz:vs.length<=sizeLine:=by have:=KC;omega
 refine JL (m:=checkCount "sorted" 1 1 _) (JQ (JL (qr hl hz (JL (MD ?_)))));have sz:((s.heap.push (seqObj "list" #[] 0)).update s.heap.objs.size (Obj.mapSeq (·++vs.toArray))).objs.size=s.heap.objs.size+1:=by rw[Heap.size_update,size_push']
 have at1:(((s.heap.push (seqObj "list" #[] 0)).update s.heap.objs.size (Obj.mapSeq (·++vs.toArray))).push (seqObj "list" vs.toArray 0)).get? (s.heap.objs.size+1)=some (seqObj "list" vs.toArray 0):=by
  rw[<- sz];exact Jd _ rfl
 show wpAny _ _ _ _ _ {s with heap:=((s.heap.push (seqObj "list" #[] 0)).update s.heap.objs.size (Obj.mapSeq (·++vs.toArray))).push (seqObj "list" vs.toArray 0)};rw[sz]
 refine JL (KS (J1 slot_list_sort ⟨_,at1,rfl⟩ entry_list_sort
  (list_sort_tree at1 hI h64 fun out ms a1 a2 a3=>⟨_,rfl,JQ ⟨_,rfl,h out ms a1 a2 a3⟩⟩) (args_list_sort _)))
end
theorem jL:bF X (.builtin "sorted") (fun xs H Q=>∃(p:Addr)(ns:List Int),xs=[.ref p]/\bX X.K H p (ns.map V.int)/\ns.length<64/\∀a,H a=none->Q (.ref a) (upd H a (.lst ((sortI ns).map V.int)))):=by
 intro pins s σ H xs us Q I r h;obtain⟨p,ns,rfl,hq,h64,q⟩:=h;obtain⟨u,rfl,rx⟩:=vals1 r;cases rx;obtain⟨its,r',pl,hz⟩:=I.tuple hq;have hlen:=r'.length;rw[JM]at hlen;refine o8 pl (intsAre_of r') (by omega) fun out ms a1 a2 a3=> ?_;have e:=gG a2 a3;subst e;obtain⟨c,hc⟩:=sortedAll_at s.heap its out;refine⟨.ref (s.heap.objs.size+1),_,I.laid (t' :=s.toks) (o:=.lst ((sortI ns).map V.int)) (fun b o z=>sortedAll_old z) (LX _) ?_,rfl,q _ (I.hok.fresh (LX _))⟩;refine⟨?_,out.toList,c,cD a1,by simpa [seqObj]using hc⟩;rw[JM,(sortI_perm ns).length_eq];have:=KC;omega
noncomputable def Gf(X:Cx)(D:cG):cG where
 nx:=fun σ H=>∃a o kvs,H a=some (.frz o (.dT kvs))/\NF X a/\D.nx σ (upd H a (.dT kvs))
 bk:=fun σ H=>∃a o kvs,H a=some (.frz o (.dT kvs))/\NF X a/\D.bk σ (upd H a (.dT kvs))
 ct:=fun σ H=>∃a o kvs,H a=some (.frz o (.dT kvs))/\NF X a/\D.ct σ (upd H a (.dT kvs))
 rt:=fun v H=>∃a o kvs,H a=some (.frz o (.dT kvs))/\NF X a/\D.rt v (upd H a (.dT kvs))
theorem pP{st:Stmt}{t:TS}(h:PS X st t):PS X st (fun D σ H=>t (Gf X D) σ H):=by
 intro pins s σ H D I hr;refine al (h pins s σ H _ I hr) fun f s1 q=> ?_;cases f with
 | next =>
  obtain⟨σ',H',I',a,o,kvs,ha,nf,q⟩:=q;exact⟨σ',_,I'.unknownT nf ha,q⟩
 | brk =>
  obtain⟨σ',H',I',a,o,kvs,ha,nf,q⟩:=q;exact⟨σ',_,I'.unknownT nf ha,q⟩
 | cont =>
  obtain⟨σ',H',I',a,o,kvs,ha,nf,q⟩:=q;exact⟨σ',_,I'.unknownT nf ha,q⟩
 | ret v =>
  obtain⟨σ',x,H',I',rx,a,o,kvs,ha,nf,q⟩:=q;exact⟨σ',x,_,I'.unknownT nf ha,rx,q⟩
theorem qT{a:Addr}{o:Obj}{kvs:List (List ae×V)}{g:TG}{tb:TS}{D:cG}{σ:St}{H:Hp}(Pv:Nat->St->Hp->Prop)(h0:Pv 0 σ H)(ha:∀i σ H,i<=kvs.length->Pv i σ H->H a=some (.frz o (.dT kvs)))
  (hs:∀i k x b σ H,kvs[i]? =some (k,x)->H b=some (.tup (k.map kV))->Pv i σ H->g (.ref b) σ H fun σ2 H2=>tb {D with nx:=Pv (i+1),ct:=Pv (i+1),bk:=D.nx} σ2 H2) (hd:∀σ H,Pv kvs.length σ H->D.nx σ H) :
  ∃W:Nat->Nat->St->Hp->Prop,(∃m,W 0 m σ H)/\∀i m σ H,W i m σ H ->
   ((JF a o kvs).stop i H/\D.nx σ H)\/((JF a o kvs).go i H/\∃N:St->Hp->Prop,(∀σ' H',N σ' H' ->∃m',m' <m/\W (i+1) m' σ' H')/\∀x H',(JF a o kvs).yld i H x H' ->g x σ H' fun σ2 H2=>tb {D with nx:=N,ct:=N,bk:=D.nx} σ2 H2):=by
 refine⟨fun i m σ H=>m=kvs.length-i/\i<=kvs.length/\Pv i σ H,⟨kvs.length,by simp,Js _,h0⟩,?_⟩;rintro i m σ H ⟨rfl,hi,p⟩;have qa:=ha i σ H hi p
 by_cases hlt:i<kvs.length
 ·have ex:kvs[i]? =some kvs[i]:=by simp[hlt]
  refine .inr ⟨⟨qa,hlt⟩,Pv (i+1),fun σ' H' p' =>⟨kvs.length-(i+1),by omega,rfl,hlt,p'⟩,fun x H' y=> ?_⟩;obtain⟨rfl,b,rfl,y⟩:=y;exact hs i _ _ b σ _ ex (y kvs[i].1 kvs[i].2 ex) p
 ·have e:i=kvs.length:=by omega
  subst e;exact .inl ⟨⟨qa,rfl⟩,hd σ H p⟩
end
section
variable{prog:Program}{w:World}{A:Around}{E:Value->Shared->Prop}{s:Shared}
end
section
variable{X:Cx}
end
end L2
namespace SQ
open PySem
noncomputable def lst(m:Nat):List Nat:=(List.range 8).filter fun v=>m/2^v%2==1
noncomputable def put(m v:Nat):Nat:=if m/2^v%2=1 then m else m+2^v
noncomputable def fV(led:Bool)(m:Nat):SetTable:={mask:=if(lst m).length<5 then 7 else 31,place:=(lst m).toArray,dummies:= #[],finger:=0,led:=led,moves:=if(lst m).length<5 then 0 else 1,plain:=true}
noncomputable def jM(m v:Nat):Nat:=((lst m).filter (·<v)).length
noncomputable def cM(led:Bool)(m v:Nat):SetTable:={fV led m with place:=(lst (put m v)).toArray}
noncomputable def qB(a b:SetTable):Bool:=a.mask==b.mask&&a.place.toList==b.place.toList&&a.dummies.toList==b.dummies.toList&&a.finger==b.finger&&a.led==b.led&&a.moves==b.moves&&a.plain==b.plain
theorem gT{a b:SetTable}(h:qB a b=true):a=b:=by
 obtain⟨a1,⟨a2⟩,⟨a3⟩,a4,a5,a6,a7⟩:=a;obtain⟨b1,⟨b2⟩,⟨b3⟩,b4,b5,b6,b7⟩:=b;simp only[qB,JU,LH]at h;obtain⟨⟨⟨⟨⟨⟨h1,h2⟩,h3⟩,h4⟩,h5⟩,h6⟩,h7⟩:=h;subst h1 h2 h3 h4 h5 h6 h7;rfl
noncomputable def nV(led:Bool)(m v:Nat):Bool :=
 if m/2^v%2==1 then true else
 (match(fV led m).freeSlot (v:Int)with
  | some (j,d)=>j==v&& !d
  | none=>false) &&
 qB ((fV led m).put v).1 (cM led m v)&&((fV led m).put v).2==jM m v&&lst (put m v)==(lst m).take (jM m v)++v::(lst m).drop (jM m v)&&(cM led m v).fits (lst (put m v)).length &&
 (if(cM led m v).tooFull then(match(cM led m v).relaid ((lst (put m v)).map Int.ofNat).toArray (SetTable.grown (lst (put m v)).length)with
  | some (t,o)=>qB t (fV led (put m v))&&o.toList==List.range (lst (put m v)).length&&(fV led (put m v)).fits (lst (put m v)).length
  | none=>false)else qB (cM led m v) (fV led (put m v)))
theorem yi:(List.range 256).all (fun m=>(List.range 8).all fun v=>nV true m v&&nV false m v&&decide (put m v<256))=true:=by decide +kernel
noncomputable def DN(m:Nat):Bool:=(List.range (lst m).length).all fun i=>SetTable.below (lst m).toArray (if i=0 then 0 else(lst m).getD (i-1) 0+1)==i
theorem xI:(List.range 256).all (fun m=>DN m&&SetTable.below (lst m).toArray (if(lst m).length=0 then 0 else(lst m).getD ((lst m).length-1) 0+1)==(lst m).length)=true:=by decide +kernel
theorem zK:(List.range 256).all (fun m=>(fV true m).fits (lst m).length&&(fV false m).fits (lst m).length)=true:=by decide +kernel
theorem fits{m:Nat}(hm:m<256)(led:Bool):(fV led m).fits (lst m).length=true:=by
 have h:=Jf.mp zK m (Ju.mpr hm);rw[JU]at h;cases led
 ·exact h.2
 ·exact h.1
theorem Bk{m v:Nat}(hm:m<256)(hv:v<8)(led:Bool):nV led m v=true/\put m v<256:=by
 have h:=Jf.mp (Jf.mp yi m (Ju.mpr hm)) v (Ju.mpr hv);rw[JU,JU,J4]at h;refine⟨?_,h.2⟩;cases led
 ·exact h.1.2
 ·exact h.1.1
theorem nT{m v:Nat}:v∈lst m↔v<8/\m/2^v%2=1:=by
 unfold lst;rw[J7,Ju,LH]
theorem xu{m v:Nat}(h:v∈lst m):put m v=m:=by
 unfold put;rw[JS (nT.mp h).2]
theorem kF{m v:Nat}(hm:m<256)(hv:v<8)(hn:v∉lst m)(led:Bool) :
  (fV led m).freeSlot (v:Int)=some (v,false)/\(fV led m).put v=(cM led m v,jM m v)/\lst (put m v)=(lst m).take (jM m v)++v::(lst m).drop (jM m v)/\(cM led m v).fits (lst (put m v)).length=true /\
  (if(cM led m v).tooFull then(cM led m v).relaid ((lst (put m v)).map Int.ofNat).toArray (SetTable.grown (lst (put m v)).length)=some (fV led (put m v),(List.range (lst (put m v)).length).toArray)/\(fV led (put m v)).fits (lst (put m v)).length=true
   else cM led m v=fV led (put m v)):=by
 have h:=(Bk hm hv led).1;unfold nV at h;have n1:(m/2^v%2==1)=false:=by
  cases e:m/2^v%2==1
  ·rfl
  ·exact absurd (nT.mpr ⟨hv,by simpa using e⟩) hn
 rw[n1]at h;simp only[K2,L4,JU,LH]at h;obtain⟨⟨⟨⟨⟨h1,h2⟩,h3⟩,h4⟩,h5⟩,h6⟩:=h;refine⟨?_,Prod.ext (gT h2) h3,h4,h5,?_⟩
 ·cases e:(fV led m).freeSlot (v:Int)with
  | none=>rw[e]at h1;cases h1
  | some p =>
   obtain⟨j,d⟩:=p;rw[e]at h1;simp only[JU,LH,LD]at h1;rw[h1.1,h1.2]
 ·by_cases ht:(cM led m v).tooFull=true
  ·rw[JS ht]at h6 ⊢
   cases e:(cM led m v).relaid ((lst (put m v)).map Int.ofNat).toArray (SetTable.grown (lst (put m v)).length)with
   | none=>rw[e]at h6;cases h6
   | some p =>
    obtain⟨t,o⟩:=p;rw[e]at h6;simp only[JU,LH]at h6;obtain⟨⟨a,b⟩,c⟩:=h6;refine⟨?_,c⟩;obtain⟨o⟩:=o;rw[gT a];have b:o=_:=b;rw[b]
  ·rw[JR ht]at h6 ⊢
   exact gT h6
noncomputable def jH:Value->Option Int
 | .int i _=>some i
 | _=>none
theorem mF{x:Value}{i:Int}(h:jH x=some i):∃t,x=.int i t:=by
 cases x<;>simp[jH]at h;subst h;exact⟨_,rfl⟩
noncomputable def el(es:List (Int×Value))(m:Nat):Prop:=es.map (fun e=>(e.1,jH e.2))=(lst m).map fun v:Nat=>((v:Int),some (v:Int))
noncomputable def SX(w:World)(a:Addr)(m:Nat)(h:Heap):Prop:=∃o es ep,h.get? a=some o/\o.ExactSet/\o.data=.set es ep (fV (!w.params.followText "set-order") m)/\el es.toList m
theorem kL:∀v,v<8->hashInt (v:Nat)=(v:Nat):=by decide +kernel
theorem el.len{es:List (Int×Value)}{m:Nat}(h:el es m):es.length=(lst m).length:=by
 have:=Jw List.length h
 simpa using this
theorem Eg{m v:Nat}(h:v∈lst m):v<8:=(nT.mp h).1
theorem el.at{es:List (Int×Value)}{m:Nat}(h:el es m){e:Int×Value}(he:e∈es):∃v t,v∈lst m/\e=((v:Int),.int (v:Int) t):=by
 have:(e.1,jH e.2)∈es.map (fun e=>(e.1,jH e.2)):=JW.mpr ⟨e,he,rfl⟩;rw[h]at this;obtain⟨v,hv,q⟩:=JW.mp this;obtain⟨e1,e2⟩:=e;simp only[Prod.mk.injEq]at q;obtain⟨t,z⟩:=mF q.2.symm;exact⟨v,t,hv,by rw[z,<-q.1]⟩
theorem el.has{es:List (Int×Value)}{m:Nat}(h:el es m){v:Nat}(hv:v∈lst m):∃t,((v:Int),Value.int (v:Int) t)∈es:=by
 have:((v:Int),some (v:Int))∈(lst m).map fun v:Nat=>((v:Int),some (v:Int)):=JW.mpr ⟨v,hv,rfl⟩;rw[<- h]at this;obtain⟨e,he,q⟩:=JW.mp this;obtain⟨u,t,-,rfl⟩:=h.at he;simp only[jH,Prod.mk.injEq]at q;have:u=v:=by omega
 subst this;exact⟨t,he⟩
section
variable{prog:Program}{w:World}{A:Around}{E:Value->Shared->Prop}{s:Shared}
theorem el.elems{es:List (Int×Value)}{m:Nat}(h:el es m):ElemsOf (intKind prog w) es:=by
 intro e he;obtain⟨v,t,hv,rfl⟩:=h.at he;exact⟨⟨v,by simp[intKind,Value.isInt],(kL v (Eg hv)).symm⟩,rfl⟩
theorem el.insert{es:Array (Int×Value)}{m v t:Nat}(h:el es.toList m)(hm:m<256)(hv:v<8)(hn:v∉lst m):el (SetTable.insertAt es (jM m v) ((v:Int),.int (v:Int) t)).toList (put m v):=by
 obtain⟨-,-,h3,-,-⟩:=kF hm hv hn true;unfold el at h ⊢;rw[h3,SetTable.toList_insertAt];rw[Ji,JZ,List.map_take,List.map_drop,h,Ji,JZ,List.map_take,List.map_drop];rfl
theorem Ih{a:Addr}{m v:Nat}{tk:Tok}{Q:Bool->Shared->Prop}(hm:m<256)(hv:v<8)(hS:SX w a m s.heap)(h:∀h' b,Heap.SameBut a s.heap h' ->SX w a (put m v) h' ->Q b {s with heap:=h'}) :
  wpAny (model prog w) A (setAddHashed a (.int (v:Int) tk) (hashInt (v:Nat))) Q E s:=by
 obtain⟨o,es,ep,ho,hex,hd,he⟩:=hS
 generalize hled:(!w.params.followText "set-order")=led at hd
 have hsz:es.size=(lst m).length:=he.len;have hf:(fV led m).fits es.size=true:=by rw[hsz];exact fits hm led
 have hel:ElemsOf (intKind prog w) es.toList:=he.elems;have h8:(lst m).length<=8:=by
  unfold lst;exact J2 (J3 _ _) (by simp)
 have hb:es.size<scanBound:=by rw[hsz];unfold scanBound;omega
 have hkey:(intKind prog w).is (v:Int) (.int (v:Int) tk)=true:=by simp[intKind,Value.isInt]
 unfold setAddHashed setAddHashedIn;refine KS (JL (L5 ho hd hf ?_));dsimp only;rw[byScan_of (knd:=intKind prog w) rfl hb hel,JS rfl];unfold setAddByScan;refine JL (JL (wpAny_rule (JL (wpAny_setScan_of (knd:=intKind prog w) hkey ho hd hf hel ?_))));cases hr:List.findIdx? (fun e=>(intKind prog w).is (v:Int) e.2) es.toList with
 | some j =>
  refine JQ (JQ ?_);have hin:v∈lst m:=by
   obtain⟨hj,hp,-⟩:=List.findIdx?_eq_some_iff_getElem.mp hr;obtain⟨u,t,hu,z⟩:=he.at (Ky hj);rw[z]at hp;have hp:Value.isInt (v:Int) (.int (u:Int) t)=true:=hp;obtain⟨t',e⟩:=Value.isInt_shape hp;have e2:u=v:=by
    injection e with e1 e2
    omega
   rw[<- e2];exact hu
  have:=h s.heap false (Heap.SameBut.refl a s.heap) (by rw[xu hin];exact⟨o,es,ep,ho,hex,by rw[hled];exact hd,he⟩);exact this
 | none =>
  have hn:v∉lst m:=fun hin=>by
   obtain⟨t,z⟩:=he.has hin;have:=List.findIdx?_eq_none_iff.mp hr _ z;simp[intKind,Value.isInt]at this
  obtain⟨k1,k2,k3,k4,k5⟩:=kF hm hv hn led;have hE:=he.insert (t:=tk) hm hv hn;have hl:=hE.len;have hl2:(lst (put m v)).length<=8:=by
   unfold lst;exact J2 (J3 _ _) (by simp)
  have eL:layNew (fV led m) es (hashInt (v:Nat)) (.int (v:Int) tk)=(SetTable.insertAt es (jM m v) ((v:Int),.int (v:Int) tk),cM led m v,false,false):=by
   unfold layNew;rw[kL v hv,k1];dsimp only;rw[k2];dsimp only;have z:(cM led m v).fits (SetTable.insertAt es (jM m v) ((v:Int),.int (v:Int) tk)).size=true:=by rw[<- Jv,hl];exact k4
   unfold SetTable.orStandIn;rw[z];rfl
  dsimp only;rw[eL];dsimp only;refine JL ((JQ ?_:wpAny (model prog w) A (pure ()) _ E _));have hplain:(cM led m v).plain=true:=rfl;rw[hplain,JS rfl,hashByValue_scannable 8 rfl];refine JL (JQ ?_);have hpk:plainKind (.int (v:Int) tk)=true:=rfl;simp only[hpk,if_true];have hz1:(SetTable.insertAt es (jM m v) ((v:Int),.int (v:Int) tk)).size<=sizeLine:=by
   rw[<- Jv,hl,KC];omega
  refine JL (wpAny_storeSet_of ho hd ?_ hz1);have ho1:(s.heap.update a (Obj.putSet (SetTable.insertAt es (jM m v) ((v:Int),.int (v:Int) tk)) (cM led m v))).get? a=some {o with data:=.set (SetTable.insertAt es (jM m v) ((v:Int),.int (v:Int) tk)) (ep+1) (cM led m v)}:=by
   have z:=J6 (Obj.putSet (SetTable.insertAt es (jM m v) ((v:Int),.int (v:Int) tk)) (cM led m v)) ho (by rw[putSet_of _ _ hd];rfl);rw[putSet_of _ _ hd]at z;exact z
  have sb1:=Kk s.heap a (Obj.putSet (SetTable.insertAt es (jM m v) ((v:Int),.int (v:Int) tk)) (cM led m v));have nd:(!false&&(cM led m v).tooFull)=(cM led m v).tooFull:=rfl;rw[nd]
  by_cases ht:(cM led m v).tooFull=true
  ·rw[JS ht]at k5 ⊢
   have er:relayAll (cM led m v) (SetTable.insertAt es (jM m v) ((v:Int),.int (v:Int) tk)) (SetTable.grown (SetTable.insertAt es (jM m v) ((v:Int),.int (v:Int) tk)).size)=(SetTable.insertAt es (jM m v) ((v:Int),.int (v:Int) tk),fV led (put m v),false):=by
    generalize hg:SetTable.insertAt es (jM m v) ((v:Int),.int (v:Int) tk)=es1 at hE hl ⊢
    have hm1:es1.map (·.1)=((lst (put m v)).map Int.ofNat).toArray:=by
     apply Array.toList_inj.mp
     rw[Array.toList_map];have:=Jw (List.map Prod.fst) hE;rw[Jq,Jq]at this;exact this
    have hz:es1.size=(lst (put m v)).length:=by rw[<- Jv,hl]
    unfold relayAll;rw[hm1,hz,k5.1];dsimp only;have hf2:(List.range (lst (put m v)).length).toArray.filterMap (es1[·]?)=es1:=by
     apply Array.toList_inj.mp
     rw[Array.toList_filterMap,<-hz];exact filterMap_getElem?_range es1
    rw[hf2,hz,k5.2];have:coversAll (List.range (lst (put m v)).length).toArray (lst (put m v)).length=true:=by
     unfold coversAll;exact List.isPerm_iff.mpr (List.Perm.refl _)
    rw[this];rfl
   rw[er];dsimp only;refine JL ((JQ ?_:wpAny (model prog w) A (pure ()) _ E _));refine JL (wpAny_storeSet_of ho1 rfl ?_ hz1);refine JQ (JQ ?_);have z:=J6 (Obj.putSet (SetTable.insertAt es (jM m v) ((v:Int),.int (v:Int) tk)) (fV led (put m v))) ho1 (by rw[putSet_of _ _ rfl];rfl);rw[putSet_of _ _ rfl]at z;exact h _ _ (sb1.trans (Kk _ a _)) ⟨_,_,_,z,hex,by rw[hled],hE⟩
  ·rw[JR ht]at k5 ⊢
   refine JQ (JQ ?_);exact h _ _ sb1 ⟨_,_,_,ho1,hex,by rw[hled,<-k5],hE⟩
end
noncomputable def mz(f:Nat->Nat):Nat->Nat->Nat->Nat
 | 0,_,m=>m
 | k+1,i,m=>mz f k (i+1) (put m (f i))
theorem SX.at{w:World}{a:Addr}{m:Nat}{h h' :Heap}(x:SX w a m h)(k:∀o,h.get? a=some o->h'.get? a=some o):SX w a m h' :=
 let⟨o,es,ep,ho,r⟩:=x
 ⟨o,es,ep,k o ho,r⟩
section
variable{prog:Program}{w:World}{A:Around}{E:Value->Shared->Prop}
theorem Ei{R:Result->Shared->Prop}{I:Addr}{fp wr:List Addr}{G:Array GenState->Array GenState->Prop}{n:Nat}{P:Nat->Value->Prop}{St:Nat->Shared->Prop}(W:WalksS prog w A.in1 I fp wr G n P St){D:Addr}(hD:D∉fp)(f:Nat->Nat)(hf:∀i v,P i v->f i<8/\∃t,v=.int (f i:Nat) t) :
  ∀(k i:Nat)(s:Shared)(m:Nat),n-i=k->i<=n->St i s->m<256->SX w D m s.heap->(∀s',Moved (D::wr) G s s' ->SX w D (mz f k i m) s'.heap->R (.ok (.ret .none)) s') ->
   codeAny (model prog w) A (.builtin "set.update.loop" ⟨[.ref D,.ref I],[]⟩) R s:=by
 have hDw:D∉wr:=fun z=>hD (W.sub _ z);have sub:∀b∈wr,b∈D::wr:=fun b z=>JO _ z;intro k
 induction k with
 | zero =>
  intro i s m hk hi st hm hS hR;have e:i=n:=by omega
  subst e;refine Kx PyProof.Rows.F.entry_set_update_loop ?_;rw[LK Li _];show wpAny _ A.in1 (pyNext (.ref I) >>= _) _ _ s;refine JL (W.done s _ _ st fun s' mv=> ?_);show wpAny _ A.in1 (ret Value.none) _ _ s';exact JQ (hR s' (mv.mono sub) (hS.at fun o z=>mv.heap D o hDw z))
 | succ k ih =>
  intro i s m hk hi st hm hS hR;have lt:i<n:=by omega
  refine Kx PyProof.Rows.F.entry_set_update_loop ?_;rw[LK Li _];show wpAny _ A.in1 (pyNext (.ref I) >>= _) _ _ s;refine JL (W.item i s _ _ lt st fun v s' hP st' mv=> ?_);obtain⟨h8,t,rfl⟩:=hf i v hP;have hS1:SX w D m s'.heap:=hS.at fun o z=>mv.heap D o hDw z;show wpAny _ A.in1 (holding [Value.int (f i:Nat) t] (setAdd D (.int (f i:Nat) t)) >>= _) _ _ s';refine JL (KS ?_);unfold setAdd;refine KS (JL ((intKind prog w).pyHash (k:=(f i:Nat)) (by simp[intKind,Value.isInt]) ?_));refine Ih (s:={s' with toks:=s'.toks+1}) hm h8 hS1 fun h' b sb hS2=> ?_;refine JQ ⟨MR Li _,ih (i+1) _ _ (by omega) lt (W.frame _ s' h' _ st' (LX _) fun c hc o z=> ?_) (Bk hm h8 true).2 hS2 fun s2 mv2 hS3=> ?_⟩
  ·rw[sb.2 c fun(q:c=D)=>hD (by rw[<- q];exact hc)]
   exact z
  ·refine hR s2 (Moved.trans W.gtrans ((mv.mono sub).then_heap (LX _) fun c o hc z=> ?_) mv2) hS3
   rw[sb.2 c fun(q:c=D)=>hc (by rw[q];exact JP)];exact z
variable{s:Shared}
noncomputable def bare(led:Bool):Obj:={cls:=.type "set",dict:=none,data:=.set #[] 0 (.fresh 0 0 led)}
theorem Ca{a:Addr}{h:Heap}(e:h.get? a=some (bare (!w.params.followText "set-order"))):SX w a 0 h:=by
 refine⟨_,#[],0,e,⟨rfl,rfl,rfl⟩,?_,by unfold el;rfl⟩;unfold bare;have:fV (!w.params.followText "set-order") 0=.fresh 0 0 (!w.params.followText "set-order"):=by
  cases w.params.followText "set-order"<;>exact gT (by decide +kernel)
 rw[this]
theorem He(v:Value){Q:Value->Shared->Prop}(h:Q (.ref s.heap.objs.size) {s with heap:=s.heap.push (bare (!w.params.followText "set-order"))}) :
  codeAny (model prog w) A (.call (.builtin "set.__new__") ⟨[.type "set",v],[]⟩) (wants Q E) s:=by
 refine codeAny_of_tree ?_;show wpAny _ A.in1 (do checkBuiltinCall "set.__new__" ⟨[.type "set",v],[]⟩;again (.builtin "set.__new__" ⟨[.type "set",v],[]⟩)) _ _ s;refine JL (K4 (F.newCall_set_1 v) (JQ ⟨MR F.plain_set_new _,Kx F.entry_set_new ?_⟩));rw[LK F.plain_set_new _];unfold Builtin.«set.__new__» Builtin.Frozenset.newClass;have own:=sub_set_self;obtain⟨hp,g,d,tk,os⟩:=s;dsimp only
 wp_walk
 refine Lo (JQ ?_);dsimp only;simp only[newObj];refine JL (wpAny_alloc (JQ ?_));exact JQ h
set_option maxHeartbeats 3200000 in
theorem Gw{l:Addr}{its:Array Value}{f:Nat->Nat}{Q:Value->Shared->Prop}(hh:A.handled=none)(hl:s.heap.IsList l its)(hi:∀i v,its[i]? =some v->f i<8/\∃t,v=.int (f i:Nat) t)
  (h:∀(h' :Heap)(tk:Nat),SX w s.heap.objs.size (mz f its.size 0 0) h' ->(∀b o,b<s.heap.objs.size->s.heap.get? b=some o->h'.get? b=some o)->Q (.ref s.heap.objs.size) {s with heap:=h',toks:=tk}) :
  wpAny (model prog w) A (call (.type "set") [.ref l]) Q E s:=by
 obtain⟨c,tl,mro⟩:=F.called_set.mro;have made:=F.called_set.made;have sub:=F.called_set.sub;refine wpAny_call (codeAny_of_tree ?_);show wpAny _ _ (callAny (.type "set") _) _ _ _;refine JQ ⟨Code.quiet_builtin _ (by decide +kernel),Kx F.entry_type_call ?_⟩;rw[Around.under_plain (weight_type_call_type "set" [.ref l] []) rfl];have n1:=F.called_set.notType;have n2:=F.called_set.canCreate;have n3:=F.typeCall_set_1 (.ref l)
 repeat(any_goals (first|assumption|wp_step))
 refine codeAny_mono (He (.ref l) (E:=E) (Q:=fun ob s₁=>ob=.ref s.heap.objs.size/\s₁={s with heap:=s.heap.push (bare (!w.params.followText "set-order"))}) ⟨rfl,rfl⟩) fun r s₁ hr=> ?_;cases r with
 | error e=>exact hr
 | ok fl =>
  cases fl with
  | ret ob =>
   obtain⟨rfl,rfl⟩:=hr;have hS:(s.heap.push (bare (!w.params.followText "set-order"))).get? s.heap.objs.size=some (bare (!w.params.followText "set-order")):=Jd _ rfl;have hT:Shared.TypeIs {s with heap:=s.heap.push (bare (!w.params.followText "set-order"))} (.ref s.heap.objs.size) "set":=⟨_,hS,rfl⟩;have m1:=F.called_set.init.lookup;have m2:=F.called_set.init.bind (.ref s.heap.objs.size)
   repeat(any_goals (first|assumption|wp_step))
   refine codeAny_mono (codeAny_call_builtin (R:=wants (fun r s₂=>r=.none/\∃h' tk,s₂={s with heap:=h',toks:=tk}/\SX w s.heap.objs.size (mz f its.size 0 0) h' /\(∀b o,b<s.heap.objs.size->s.heap.get? b=some o->h'.get? b=some o)) E) F.called_set.init.plain F.entry_set_init (check_set_init_1 hT ?_)) fun r₂ s₂ hr₂=> ?_
   ·obtain⟨ol,hol,cl,nl,dl⟩:=hl
    obtain⟨oc,od,ot,os⟩:=ol;simp only at cl dl;subst cl dl;have hol' :(s.heap.push (bare (!w.params.followText "set-order"))).get? l=some {cls:=.type "list",dict:=od,data:=.seq its nl,slots:=os}:=JN _ hol;have q1:=F.sub_list_set;have q2:=F.sub_list_frozenset;have q3:(Value.type "list"==Value.type "dict")=false:=by decide
    have hl1:(s.heap.push (bare (!w.params.followText "set-order"))).IsList l its:=⟨_,hol',rfl,nl,rfl⟩;unfold Builtin.«set.__init__» noKeywords Builtin.Frozenset.updateFrom
    generalize hPI:pyIter=PI
    wp_walk
    subst hPI;refine MP hl1 (JL (wpAny_runValue ?_));have lS:l<s.heap.objs.size:=Je hol;have h3:A.in1.in1.in1.handled=none:=by simp[hh]
    have nI:l≠(s.heap.push (bare (!w.params.followText "set-order"))).objs.size:=by
     rw[Ku];exact Jm (KP lS)
    have nf:s.heap.objs.size∉[(s.heap.push (bare (!w.params.followText "set-order"))).objs.size,l]:=by
     rw[Ku];simp only[Jg,J5,J9,K9,MA];exact⟨Jm (Nat.lt_succ_self _),KZ lS⟩
    refine Ei ((Walks.list h3 _ l nI its).toS) nf f hi its.size 0 _ 0 (by omega) (Js _) ⟨⟨_,Jd _ rfl,rfl,rfl⟩,hl1.push _⟩ (by omega) (Ca (JN _ hS)) ?_;intro s' mv hS';obtain⟨h',g',d',tk',os'⟩:=s';have e1:g' =s.gens:=mv.gens;have e2:d' =s.drawn:=mv.drawn;have e3:os' =s.os:=mv.os;subst e1 e2 e3;show wpAny _ _ _ _ _ _;refine JQ ?_;show wpAny _ _ (ret Value.none) _ _ _;refine JQ ⟨rfl,h',tk',rfl,hS',fun b o hb e=> ?_⟩;refine mv.heap b o ?_ (JN _ (JN _ e));have z1:b≠s.heap.objs.size:=Jm hb;have z2:b≠(s.heap.push (bare (!w.params.followText "set-order"))).objs.size:=by
     rw[Ku];exact Jm (KP hb)
    simp only[Jg,J5,J9,K9,MA];exact⟨z1,z2⟩
   ·cases r₂ with
    | error e=>exact hr₂
    | ok fl₂ =>
     cases fl₂ with
     | ret r =>
      obtain⟨rfl,h',tk,rfl,hS',hk'⟩:=hr₂
      repeat(any_goals (first|assumption|wp_step))
      exact h _ _ hS' hk'
     | _=>exact hr₂.elim
  | _=>exact hr.elim
end
theorem sx:entryFor table "set.__iter__"=some Builtin.«frozenset.__iter__» :=
 entryFor_alias (id' :="frozenset.__iter__") (by kernel_rfl) rfl (by decide +kernel) (by kernel_rfl)
theorem cH:Slot "set_iterator" "__next__" "set_iterator.__next__" :=
 .of (owner:="set_iterator") (n:="__next__") (by rw[Lu,LG];kernel_rfl) (by decide +kernel) (by decide +kernel) (by decide +kernel)
  (by first|exact .inl (by decide +kernel)|exact .inr (by decide +kernel)) (by rw[L6];kernel_rfl)
theorem kU:entryFor table "set_iterator.__next__"=some Builtin.«set_iterator.__next__»:=entryFor_of_tree (by kernel_rfl)
theorem mh(a:Value):argsOk "set_iterator.__next__" ⟨[a],[]⟩:=by
 unfold argsOk
 kernel_rfl
theorem uU{α:Type}(f:Nat->Nat):∀(k i:Nat)(l:List α)(o:Array α),l.length=k->(pickOrder.go f k i l o).toList.Perm (o.toList++l)
 | 0,i,l,o,h=>by
  have:l=[]:=List.eq_nil_of_length_eq_zero h;subst this;unfold pickOrder.go;simp
 | k+1,i,l,o,h=>by
  unfold pickOrder.go;have lt:f i%l.length<l.length:=Nat.mod_lt _ (by omega);rw[Ja lt];dsimp only;refine(uU f k (i+1) _ _ (by rw[List.length_eraseIdx,JS lt];omega)).trans ?_;rw[Array.toList_push,KW];refine List.Perm.append_left _ ?_;have e:l=l.take (f i%l.length)++l[f i%l.length]::l.drop (f i%l.length+1):=by
   rw[<- K6 lt,List.take_append_drop]
  rw[List.eraseIdx_eq_take_drop_succ];refine List.Perm.trans ?_ (List.Perm.of_eq e.symm);rw[List.singleton_append];exact List.perm_middle.symm
theorem mC{α:Type}(f:Nat->Nat)(xs:Array α):(pickOrder f xs).toList.Perm xs.toList:=by
 have:=uU f xs.size 0 xs.toList #[] rfl
 simpa [pickOrder]using this
section
variable{prog:Program}{w:World}{A:Around}{E:Value->Shared->Prop}{s:Shared}
structure Ord(w:World)(a m ep:Nat)(es:Array (Int×Value))(vs:List Value)(sl:Nat->Nat):Prop where
 len:vs.length=es.size
 perm:vs.Perm (es.toList.map (·.2))
 go:∀{prog:Program}{A:Around}{E:Value->Shared->Prop}{s:Shared}{o:Obj}(i:Nat)(Q:Option (Value×Nat)->Shared->Prop),s.heap.get? a=some o->o.data=.set es ep (fV (!w.params.followText "set-order") m) ->
  Q ((vs[i]?).map fun v=>(v,sl (i+1))) s->i<=es.size->wpAny (model prog w) A (setNext a (sl i) i ep) Q E s
theorem GU{m:Nat}(hm:m<256):(∀i,i<(lst m).length->SetTable.below (lst m).toArray (if i=0 then 0 else(lst m).getD (i-1) 0+1)=i)/\SetTable.below (lst m).toArray (if(lst m).length=0 then 0 else(lst m).getD ((lst m).length-1) 0+1)=(lst m).length:=by
 have h:=Jf.mp xI m (Ju.mpr hm);rw[JU,LH]at h;refine⟨fun i hi=> ?_,h.2⟩;have:=Jf.mp h.1 i (Ju.mpr hi)
 simpa using this
theorem HW{a m ep:Nat}{es:Array (Int×Value)}(hm:m<256)(he:el es.toList m):∃vs sl,Ord w a m ep es vs sl/\sl 0=0:=by
 have hz:es.size=(lst m).length:=he.len;cases hb:w.params.followText "set-order" with
 | true =>
  refine⟨(pickOrder (w.params.setOrder a ep) es).toList.map (·.2),fun _=>0,⟨?_,(mC _ _).map _,fun{prog A E s o} i Q ho hd q hi=> ?_⟩,rfl⟩
  ·rw[JM,(mC _ _).length_eq,Jv]
  ·have hf:(fV (!w.params.followText "set-order") m).fits es.size=true:=by rw[hz];exact fits hm _
   unfold setNext;refine JL (L5 ho hd hf ?_);dsimp only;unfold setsByText;refine JL (JL (Lo (JQ ?_)));rw[show(model prog w).w.params.followText "set-order"=true from hb,JS rfl,JR (by simp)];unfold setWalk;refine JL (JL (L5 ho hd hf ?_));dsimp only;unfold setsByText;refine JL (JL (Lo (JQ ?_)));rw[show(model prog w).w.params.followText "set-order"=true from hb,JS rfl];refine JL (Lo (JQ (JQ ?_)));have:((pickOrder (w.params.setOrder a ep) es)[i]?).map (fun e=>(e.2,0))=(((pickOrder (w.params.setOrder a ep) es).toList.map (·.2))[i]?).map fun v=>(v,0):=by
    rw[Jc,KY];cases(pickOrder (w.params.setOrder a ep) es)[i]? <;>rfl
   rw[<- this]at q;exact q
 | false =>
  refine⟨es.toList.map (·.2),fun i=>if i=0 then 0 else(lst m).getD (i-1) 0+1,⟨by simp,List.Perm.refl _,fun{prog A E s o} i Q ho hd q hi=> ?_⟩,rfl⟩;have hf:(fV (!w.params.followText "set-order") m).fits es.size=true:=by rw[hz];exact fits hm _
  unfold setNext;refine JL (L5 ho hd hf ?_);dsimp only;unfold setsByText;refine JL (JL (Lo (JQ ?_)));rw[show(model prog w).w.params.followText "set-order"=false from hb,JR JT];rw[hb]
  split
  ·rename_i z
   exact absurd (show(false:Bool)=true from z) JT
  refine JL ((JQ ?_:wpAny (model prog w) A (pure ()) _ E _));have hw:=GU hm;have hp:(fV (!false) m).place=(lst m).toArray:=rfl;rw[hp];have hbel:SetTable.below (lst m).toArray (if i=0 then 0 else(lst m).getD (i-1) 0+1)=i:=by
   rcases Lb i (lst m).length with h|h
   ·exact hw.1 i h
   ·have e:i=(lst m).length:=by omega
    rw[e];exact hw.2
  rw[hbel]
  have:(match es[i]?,(lst m).toArray[i]? with
   | some (_,x),some j=>some (x,j+1)
   | _,_=>none)=((es.toList.map (·.2))[i]?).map fun v=>(v,if i+1=0 then 0 else(lst m).getD (i+1-1) 0+1):=by
   rw[Jc,KY]
   rcases Lb i es.size with h|h
   ·have h2:i<(lst m).length:=by omega
    rw[Lh h,List.getElem?_toArray,Ja h2];simp[h2]
   ·rw[Array.getElem?_eq_none h,List.getElem?_toArray,KN (by omega)]
    rfl
  rw[<- this]at q;exact JQ q
end
theorem lq:Slot "set_iterator" "__iter__" "set_iterator.__iter__" :=
 .of (owner:="set_iterator") (n:="__iter__") (by rw[Lu,LG];kernel_rfl) (by decide +kernel) (by decide +kernel) (by decide +kernel)
  (by first|exact .inl (by decide +kernel)|exact .inr (by decide +kernel)) (by rw[L6];kernel_rfl)
theorem sw:entryFor table "set_iterator.__iter__"=some Builtin.«dict_keyiterator.__iter__» :=
 entryFor_alias (id' :="dict_keyiterator.__iter__") (by kernel_rfl) rfl (by decide +kernel) (by kernel_rfl)
theorem wo(a:Value):argsOk "set_iterator.__iter__" ⟨[a],[]⟩:=by
 unfold argsOk
 kernel_rfl
noncomputable def wx(I a i n ep j:Nat)(h:Heap):Prop:=∃o,h.get? I=some o/\o.cls=.type "set_iterator"/\o.data=.fields #[.int (j:Nat) 0,.int (i:Nat) 0,.ref a,.int (n:Nat) 0,.int (ep:Nat) 0]
theorem wx.typeIs{I a i n ep j:Nat}{s:Shared}(x:wx I a i n ep j s.heap):s.TypeIs (.ref I) "set_iterator":=let⟨o,ho,hc,_⟩:=x;⟨o,ho,hc⟩
theorem wx.keep{I a i n ep j:Nat}{h h' :Heap}(x:wx I a i n ep j h)(k:∀o,h.get? I=some o->h'.get? I=some o):wx I a i n ep j h' :=let⟨o,ho,r⟩:=x;⟨o,k o ho,r⟩
section
variable{prog:Program}{w:World}{A:Around}
set_option maxHeartbeats 3200000 in
theorem DM(hh:A.handled=none){I a m ep:Nat}{es:Array (Int×Value)}{vs:List Value}{sl:Nat->Nat}{so:Obj}(hne:a≠I)(hm:m<256)(he:el es.toList m)(hd:so.data=.set es ep (fV (!w.params.followText "set-order") m))(O:Ord w a m ep es vs sl) :
  Walks prog w A I [I,a] [I] vs.length (fun i v=>vs[i]? =some v) (fun i h=>wx I a i es.size ep (sl i) h/\h.get? a=some so) where
 sub:=fun b hb=>by simp at hb;simp[hb]
 frame:=fun _ _ _ st hk=>⟨st.1.keep fun o e=>hk I (by simp) o e,hk a (by simp) so st.2⟩
 item:=fun i s Q E hi st hQ=>by
  obtain⟨it,ha⟩:=st;obtain⟨o,ho,hc,hdt⟩:=id it;have hf:(fV (!w.params.followText "set-order") m).fits es.size=true:=by rw[show es.size=(lst m).length from he.len];exact fits hm _
  have hx:vs[i]? =some vs[i]:=Ja hi;unfold pyNext;refine JL (Lq (KR (name:=Str.ofString "__next__") it.typeIs cH (J1 cH it.typeIs kU ?_ (mh _))));unfold Builtin.«set_iterator.__next__»;refine JL (m:=slotArgs _ _ _) (JQ ?_);refine JL (wpAny_fieldsOf ho hdt ?_);dsimp only;refine JL (wpAny_setEntries_of ha hd hf ?_);rw[JR (by simp)];refine JL (O.go i _ ha hd ?_ (by have:=O.len;omega));rw[hx];dsimp only[Option.map];refine JL (Kt ho hdt (by simp) ?_);have e1:=J6 (Obj.mapFields (·.setIfInBounds 0 (rawInt (sl (i+1):Nat)))) ho (Kn (KJ hdt _));have d1:=KJ hdt (·.setIfInBounds 0 (rawInt (sl (i+1):Nat)));refine JL (Kt e1 d1 (by simp) (JQ ⟨_,rfl,JQ ?_⟩));have e2:=J6 (Obj.mapFields (·.setIfInBounds 1 (rawInt ((i:Nat)+1)))) e1 (Kn (KJ d1 _));refine hQ _ _ s.toks hx ⟨⟨_,e2,((L7 ..).trans (L7 ..)).trans hc,?_⟩,?_⟩ fun b ob hb e=> ?_
  ·rw[KJ d1]
   simp[rawInt]
  ·rw[Jx _ _ (Kc hne),Jx _ _ (Kc hne)]
   exact ha
  ·have nb:I≠b:=fun z=>hb (by simp[z])
   rw[Jx _ _ nb,Jx _ _ nb];exact e
 done:=fun s Q E st hQ=>by
  obtain⟨it,ha⟩:=st;obtain⟨o,ho,hc,hdt⟩:=id it;have hf:(fV (!w.params.followText "set-order") m).fits es.size=true:=by rw[show es.size=(lst m).length from he.len];exact fits hm _
  unfold pyNext;refine JL (Lq (KR (name:=Str.ofString "__next__") it.typeIs cH (J1 cH it.typeIs kU ?_ (mh _))));unfold Builtin.«set_iterator.__next__»;refine JL (m:=slotArgs _ _ _) (JQ ?_);refine JL (wpAny_fieldsOf ho hdt ?_);dsimp only;refine JL (wpAny_setEntries_of ha hd hf ?_);rw[JR (by simp)];refine JL (O.go vs.length _ ha hd ?_ (by have:=O.len;omega));rw[KN (JV _)];dsimp only[Option.map];refine JL (Kt ho hdt (by simp) ?_);refine JL ?_;simp only[newExc,newTuple];refine JL (KM ?_ (by size_fits));refine JL (m:=firstArgMember _ _) (K4 (a:=Value.none) (by first|rfl|(simp only[firstArgMember];rfl)) ?_);refine KM ?_ (by size_fits);simp only[raiseNew];refine JL (wpAny_handled ?_);rw[show A.in1.handled=none from hh];refine JL (JQ (wpAny_throw ?_));refine JL (Ln (T:="StopIteration") (b:=true) ⟨_,Jd _ rfl,rfl⟩ isSubtype_stop ?_);refine JQ (hQ _ s.toks fun b ob hb e=> ?_);have nb:b≠I:=fun z=>hb (by simp[z]);exact(((Kk ..).extBut.push _).push _) b ob nb e
 self:=fun i s Q E st hQ=>by
  refine Le st.1.typeIs lq (J1 lq st.1.typeIs sw ?_ (wo _));exact JQ ⟨_,rfl,"set_iterator",_,st.1.typeIs,cH.lookup,hQ⟩
end
section
variable{prog:Program}{w:World}{A:Around}{E:Value->Shared->Prop}{s:Shared}
theorem Ev{a m ep:Nat}{es:Array (Int×Value)}{o:Obj}{Q:Value->Shared->Prop}(hm:m<256)(he:el es.toList m)(ho:s.heap.get? a=some o)(hex:o.ExactSet)(hd:o.data=.set es ep (fV (!w.params.followText "set-order") m))
  (h:Q (.ref s.heap.objs.size) {s with heap:=s.heap.push {cls:=.type "set_iterator",data:=.fields #[.int (0:Nat) 0,.int (0:Nat) 0,.ref a,.int (es.size:Nat) 0,.int (ep:Nat) 0]}}):wpAny (model prog w) A (pyIter (.ref a)) Q E s:=by
 have hT:s.TypeIs (.ref a) "set":=⟨o,ho,hex.1⟩;have hf:(fV (!w.params.followText "set-order") m).fits es.size=true:=by rw[show es.size=(lst m).length from he.len];exact fits hm _
 refine Le hT F.slot_set_iter (J1 F.slot_set_iter hT sx ?_ (F.args_set_iter_1 _));unfold Builtin.«frozenset.__iter__»;refine JL (m:=Builtin.Frozenset.slot0 _ _) (JQ ?_);unfold Builtin.Frozenset.sizeOf;refine JL (JL (wpAny_setEntries_of ho hd hf (JQ ?_)));have hdr:wpAny (model prog w) A.in1 (setDrawn a) (fun b s1=>b=false/\s1=s) E s:=by
  unfold setDrawn;refine JL (L5 ho hd hf ?_);dsimp only;unfold setsByText;refine JL (JL (Lo (JQ (JQ ⟨?_,rfl⟩))));cases(model prog w).w.params.followText "set-order"
  ·rfl
  ·rfl
 refine JL (Ke hdr (fun b s1 hb=> ?_) fun _ _ x=>x);obtain⟨rfl,rfl⟩:=hb;rw[JR JT];refine JL (JQ (JL (wpAny_setEpoch_of ho hd hf ?_)));refine JL (KM (JQ ⟨_,rfl,"set_iterator",_,⟨_,Jd _ rfl,rfl⟩,cH.lookup,h⟩))
set_option maxHeartbeats 3200000 in
theorem wd{a m:Nat}{Q:List Value->Shared->Prop}(hh:A.handled=none)(hm:m<256)(hS:SX w a m s.heap)
  (h:∀(s' :Shared)(vs:List Value),vs.map jH=vs.map jH->(vs.map jH).Perm ((lst m).map fun v:Nat=>some (v:Int))->(∀b o,s.heap.get? b=some o->s'.heap.get? b=some o)->s.heap.objs.size<s'.heap.objs.size->s'.gens=s.gens->s'.drawn=s.drawn->s'.os=s.os->Q vs s') :
  wpAny (model prog w) A (collect (.ref a)) Q E s:=by
 obtain⟨o,es,ep,ho,hex,hd,he⟩:=hS;obtain⟨vs,sl,O,hs0⟩:=HW (w:=w) (a:=a) (ep:=ep) hm he;have ha:a<s.heap.objs.size:=Je ho;have hz:es.size=(lst m).length:=he.len;have h8:(lst m).length<=8:=by
  unfold lst;exact J2 (J3 _ _) (by simp)
 have hvl:vs.length<=8:=by rw[O.len,hz];exact h8
 unfold collect;refine JL (wpAny_runValue (Kx F.entry_proto_collect ?_));rw[LK F.plain_proto_collect _];show wpAny _ A.in1 (newList [] >>= fun l=>again (.builtin "list.__iadd__" ⟨[l,.ref a],[]⟩)) _ _ s;refine JL (KM (JQ ⟨MR F.plain_list_iadd _,Kx F.entry_list_iadd ?_⟩));rw[LK F.plain_list_iadd _]
 generalize hL:({cls:=.type "list",data:=.seq ([]:List Value).toArray}:Obj)=L0
 have k1:(s.heap.push L0).get? a=some o:=JN _ ho;have k2:(s.heap.push L0).get? s.heap.objs.size=some L0:=Jd _ (by rw[<- hL];rfl);have hT:Shared.TypeIs {s with heap:=s.heap.push L0} (.ref a) "set":=⟨o,k1,hex.1⟩;show wpAny _ A.in1 (Builtin.List.listExtendWith (.ref s.heap.objs.size) (.ref a) (.ref s.heap.objs.size)) _ _ _;unfold Builtin.List.listExtendWith;refine JL (wpAny_typeOf hT ?_);have n1:Builtin.List.listSameRef (.ref s.heap.objs.size) (.ref a)=false:=by
  simp only[Builtin.List.listSameRef,Ks];exact KZ ha
 rw[JR (by rw[n1];decide)];refine JL (Ev (s:={s with heap:=s.heap.push L0}) hm he k1 hex hd ?_);dsimp only;rw[show(s.heap.push L0).objs.size=s.heap.objs.size+1 from Ku _ _]
 generalize hI:({cls:=.type "set_iterator",data:=.fields #[.int (0:Nat) 0,.int (0:Nat) 0,.ref a,.int (es.size:Nat) 0,.int (ep:Nat) 0]}:Obj)=I0
 have sz:(s.heap.push L0).objs.size=s.heap.objs.size+1:=Ku _ _;have j0:((s.heap.push L0).push I0).get? (s.heap.objs.size+1)=some I0:=by rw[<- sz];exact Jd _ (by rw[<- hI];rfl)
 have j1:((s.heap.push L0).push I0).get? a=some o:=JN _ k1;have j2:((s.heap.push L0).push I0).get? s.heap.objs.size=some L0:=JN _ k2;have hT2:Shared.TypeIs {s with heap:=(s.heap.push L0).push I0} (.ref a) "set":=⟨o,j1,hex.1⟩;have hhint:wpAny (model prog w) A.in1 (Builtin.List.listLengthHint (.ref a)) (fun b s1=>s1={s with heap:=(s.heap.push L0).push I0}) E {s with heap:=(s.heap.push L0).push I0}:=by
  unfold Builtin.List.listLengthHint;refine JL (LV hT2 F.slot_set_len.lookup ?_)
  (generalize aW:("set.__len__":String)=id0;(fail_if_success (clear aW id0));wp_delta;rw[show splitId id0=some ("set","__len__")from by subst aW;decide +kernel];subst aW)
  refine JL (Ln (b:=true) hT2 (by rw[L6];kernel_rfl) ?_);rw[JR (show¬((!true)=true)from JT)];dsimp only;rw[JS (by decide)];refine JL (wpAny_typeOf hT2 ?_);exact JQ rfl
 refine JL (KS (Ke hhint (fun b s1 hb=> ?_) fun _ _ x=>x));subst hb
 split
 case isFalse z =>
  refine absurd ?_ z;rw[Kh];exact .inr (by decide)
 refine JL (wpAny_rule ?_);have hW:=DM (prog:=prog) (w:=w) (A:=A.in1) hh (I:=s.heap.objs.size+1) (a:=a) (so:=o) (by omega) hm he hd O;have u1:=J6 (Obj.mapSeq (·.push Value.none)) j2 (by rw[<- hL];rfl);refine JL ?_;show wpAny _ A.in1 (updateSeq s.heap.objs.size (·.push .none) >>= fun _=>updateSeq s.heap.objs.size (·.pop)) _ _ _;subst hL;refine JL (wpAny_updateSeq j2 rfl ?_);refine wpAny_updateSeq u1 rfl ?_;have u2:=J6 (Obj.mapSeq (·.pop)) u1 rfl
 have oth:∀b ob,b≠s.heap.objs.size->((s.heap.push {cls:=.type "list",data:=.seq ([]:List Value).toArray}).push I0).get? b=some ob ->
   ((((s.heap.push {cls:=.type "list",data:=.seq ([]:List Value).toArray}).push I0).update s.heap.objs.size (Obj.mapSeq (·.push Value.none))).update s.heap.objs.size (Obj.mapSeq (·.pop))).get? b=some ob:=fun b ob nb e=>by
  rw[Jx _ _ (Kc nb),Jx _ _ (Kc nb)];exact e
 have nf:s.heap.objs.size∉[s.heap.objs.size+1,a]:=by
  simp only[Jg,J5,J9,K9,MA];exact⟨by omega,KZ ha⟩
 refine JQ ⟨MR F.plain_extend_loop _,codeAny_extend_loopS hW.toS (by rw[KC];omega) _ nf _ vs.length 0 _ _ _ rfl (Js _) ⟨⟨I0,oth _ _ (by omega) j0,by rw[<- hI],by rw[<- hI,hs0]⟩,oth _ _ (Jm ha) j1⟩ u2 (ItemsOf.nil _) fun s' acc c mv hacc his=> ?_⟩;show wpAny _ A (load s.heap.objs.size >>= _) _ _ s';refine JL (wpAny_load hacc ?_);have eacc:acc.toList=vs:=by
  apply Lr
  intro i;rw[KY];cases e:acc[i]? with
  | some v=>exact(his.2 i v e).symm
  | none =>
   have:acc.size<=i:=by simpa using e
   rw[his.1]at this;exact(KN this).symm
 show wpAny _ _ (pure acc.toList) _ _ _;rw[eacc];refine JQ (h s' vs rfl ?_ (fun b ob e=> ?_) (Je hacc) mv.gens mv.drawn mv.os)
 ·have:=O.perm.map jH
  refine this.trans (List.Perm.of_eq ?_);rw[Jq];have z:=Jw (List.map Prod.snd) he;rw[Jq,Jq]at z;exact z
 ·have hb:=Je e
  refine mv.heap b ob ?_ (oth b ob (Jm hb) (JN _ (JN _ e)));simp only[Jg,J5,J9,K9,MA];exact⟨Jm hb,Jm (KP hb)⟩
end
end SQ
namespace SQ
open PySem PyProof.Rows
theorem uy:∀{vs:List Value}{ns:List Int},vs.map jH=ns.map some->IntsAre vs ns
 | [],[],_=>.nil
 | [],_::_,h=>by cases h
 | _::_,[],h=>by cases h
 | v::vs,n::ns,h=>by
  rw[JZ,JZ]at h
  injection h with h1 h2
  obtain⟨t,rfl⟩:=mF h1;exact .cons n t (uy h2)
theorem j9(m:Nat):(lst m).Pairwise (·<·):=by
 unfold lst;exact List.Pairwise.filter _ (List.pairwise_lt_range)
section
variable{prog:Program}{w:World}{A:Around}{E:Value->Shared->Prop}{s:Shared}
theorem xX{a m:Nat}{Q:Value->Shared->Prop}(hh:A.handled=none)(hm:m<256)(hS:SX w a m s.heap)
  (h:∀(s' :Shared)(D c:Nat)(out:Array Value),IntsAre out.toList ((lst m).map fun v:Nat=>(v:Int))->s.heap.objs.size<=D->s'.heap.get? D=some (seqObj "list" out c)->(∀b o,s.heap.get? b=some o->s'.heap.get? b=some o)->s'.gens=s.gens->s'.drawn=s.drawn->s'.os=s.os->Q (.ref D) s') :
  wpAny (model prog w) A (call (.builtin "sorted") [.ref a]) Q E s:=by
 have h8:(lst m).length<=8:=by
  unfold lst;exact J2 (J3 _ _) (by simp)
 refine MO kind_sorted plain_sorted entry_sorted (args_sorted1 _) ?_;unfold Builtin.«sorted»;refine JL (m:=checkCount "sorted" 1 1 _) (JQ ?_);refine JL (wd (A:=A.in1) hh hm hS fun s1 vs _ pm old lt g d os=> ?_);obtain⟨ns,en,pn⟩:∃ns:List Int,vs.map jH=ns.map some/\ns.Perm ((lst m).map fun v:Nat=>(v:Int)):=by
  have:∀(ys:List (Option Int))(xs:List Int),ys.Perm (xs.map some)->∃ns:List Int,ys=ns.map some/\ns.Perm xs:=by
   intro ys xs p;refine⟨ys.filterMap id,?_,?_⟩
   ·have hall:∀y∈ys,y.isSome=true:=fun y hy=>by
     obtain⟨x,-,rfl⟩:=JW.mp (p.mem_iff.mp hy);rfl
    clear p
    induction ys with
    | nil=>rfl
    | cons y r ih =>
     cases y with
     | none=>exact absurd (hall none JP) (by simp)
     | some v =>
      rw[List.filterMap_cons_some (by rfl),JZ,<-ih fun z hz=>hall z (JO _ hz)]
   ·have:=p.filterMap id
    rw[List.filterMap_map]at this
    simpa using this
  refine this _ _ (pm.trans (List.Perm.of_eq ?_));rw[Jq];rfl
 have hI:=uy en;have hl:vs.length<64:=by
  have e1:=Jw List.length en;rw[JM,JM]at e1;have e2:=pn.length_eq;rw[JM]at e2;omega
 refine JL (MD ?_);have ho:(s1.heap.push (seqObj "list" vs.toArray 0)).get? s1.heap.objs.size=some (seqObj "list" vs.toArray 0):=Jd _ rfl;refine JL (KS (J1 slot_list_sort ⟨_,ho,rfl⟩ entry_list_sort (list_sort_tree ho hI hl fun out ns' a1 a2 a3=>⟨_,rfl,?_⟩) (args_list_sort _)));have e:ns' =(lst m).map fun v:Nat=>(v:Int):=by
  refine MM (le:=(·<=·)) (fun a b _ _ h1 h2=>Int.le_antisymm h1 h2) a3 ?_ (a2.trans pn);rw[LB];exact(j9 m).imp fun z=>by omega
 subst e;obtain⟨c,hc⟩:=sortedHeap_at (vs:=vs) (out:=out) ho;refine JQ ⟨_,rfl,h _ _ c out a1 (LM lt) hc (fun b o z=> ?_) g d os⟩;have hb:=Je (old b o z);rw[sortedHeap_old (Jm hb) (by rw[Ku];exact KP hb)];exact JN _ (old b o z)
end
end SQ
namespace L2
open PySem PySem.Spec PyProof.Rows
noncomputable def maskOf(ns:List Int):Nat:=SQ.mz (fun i=>(ns.getD i 0).toNat) ns.length 0 0
noncomputable def bj(ns:List Int):List Int:=(SQ.lst (maskOf ns)).map fun v:Nat=>(v:Int)
theorem uK(f:Nat->Nat):∀(k i m:Nat),(∀j,j<k->f (i+j)<8)->m<256->SQ.mz f k i m<256
 | 0,_,m,_,h=>h
 | k+1,i,m,hf,h=>by
  unfold SQ.mz;refine uK f k (i+1) _ (fun j hj=> ?_) (SQ.Bk h (hf 0 (by omega)) true).2;have:=hf (j+1) (by omega);rw[show i+1+j=i+(j+1)by omega];exact this
theorem um{ns:List Int}(h:∀n∈ns,0<=n/\n<8):maskOf ns<256:=by
 unfold maskOf;refine uK _ _ _ _ (fun j hj=> ?_) (by omega);rw[La];have:ns.getD j 0∈ns:=by
  rw[JX,Ja hj];exact Ky hj
 have:=h _ this;omega
section
variable{X:Cx}
theorem mW(hc:X.calm=true):bF X (.type "set") (fun xs H Q=>∃(p:Addr)(ns:List Int),xs=[.ref p]/\bG X.K H p (ns.map V.int)/\(∀n∈ns,0<=n/\n<8)/\∀a,H a=none->Q (.ref a) (upd H a (.ext (SQ.SX X.w a (maskOf ns))))):=by
 intro pins s σ H xs us Q I r h;obtain⟨p,ns,rfl,hq,h8,q⟩:=h;obtain⟨u,rfl,rx⟩:=vals1 r;cases rx;obtain⟨its,r',pl,hz⟩:=I.list hq;have hlen:=r'.length;rw[JM]at hlen;refine SQ.Gw (f:=fun i=>(ns.getD i 0).toNat) (I.ok.hd hc) pl.isList (fun i v hv=> ?_) fun h' tk hS old=> ?_
 ·have hv:its[i]? =some v:=by simpa using hv
  obtain⟨t,e⟩:=ip r' hv;have hi:i<ns.length:=by
   have:=(JY.mp hv).1;omega
  have hm:ns.getD i 0∈ns:=by
   rw[JX,Ja hi];exact Ky hi
  have:=h8 _ hm;refine⟨by omega,t,?_⟩;rw[e]
  congr 1
  omega
 ·have ez:its.toArray.size=ns.length:=by rw[Jb,hlen]
  rw[ez]at hS;refine⟨.ref s.heap.objs.size,_,I.laid (t' :=tk) (o:=.ext (SQ.SX X.w s.heap.objs.size (maskOf ns))) (fun b o z=>old b o (Je z) z) (JV _) ⟨hS,?_,fun h1 h2 x k=>x.at k⟩,rfl,q _ (I.hok.fresh (JV _))⟩;obtain⟨o,es,ep,ho,_⟩:=hS;exact⟨o,ho⟩
theorem Inv.ext{pins:List (Addr×Obj)}{σ:St}{H:Hp}{s:Shared}{a:Addr}{φ:Heap->Prop}(I:Inv X pins σ H s)(h:H a=some (.ext φ)):φ s.heap:=(show aj X.prog X.w H s.heap a (.ext φ)from I.hok a _ h).1
theorem iG(hc:X.calm=true):bF X (.builtin "sorted") (fun xs H Q=>∃(p:Addr)(m:Nat),xs=[.ref p]/\m<256/\H p=some (.ext (SQ.SX X.w p m))/\∀a,H a=none->Q (.ref a) (upd H a (.lst ((SQ.lst m).map fun v:Nat=>V.int (v:Int))))):=by
 intro pins s σ H xs us Q I r h;obtain⟨p,m,rfl,hm,hp,q⟩:=h;obtain⟨u,rfl,rx⟩:=vals1 r;cases rx;refine SQ.xX (I.ok.hd hc) hm (I.ext hp) fun s' D c out a1 le hD old g d os=> ?_;obtain⟨h',g',d',tk',os'⟩:=s';dsimp only at g d os hD old;subst g d os;refine⟨.ref D,_,I.laid (t' :=tk') (o:=.lst ((SQ.lst m).map fun v:Nat=>V.int (v:Int))) (fun b o z=>old b o z) le ?_,rfl,q _ (I.hok.fresh le)⟩;have h8:(SQ.lst m).length<=8:=by
  unfold SQ.lst;exact J2 (J3 _ _) (by simp)
 refine⟨by rw[JM,KC];omega,out.toList,c,?_,by simpa [seqObj]using hD⟩;have:=cD a1;rw[Jq]at this;exact this
theorem lX:bF X (.builtin "len") (fun xs H Q=>∃(p:Addr)(m:Nat),xs=[.ref p]/\m<256/\H p=some (.ext (SQ.SX X.w p m))/\Q (.int ((SQ.lst m).length:Nat)) H):=by
 intro pins s σ H xs us Q I r h;obtain⟨p,m,rfl,hm,hp,q⟩:=h;obtain⟨u,rfl,rx⟩:=vals1 r;cases rx;obtain⟨o,es,ep,ho,hex,hd,he⟩:=I.ext hp;have hz:es.size=(SQ.lst m).length:=he.len;have h8:(SQ.lst m).length<=8:=by
  unfold SQ.lst;exact J2 (J3 _ _) (by simp)
 refine PySem.call_len_set ho hex hd (by rw[hz];exact SQ.fits hm _) (by omega) ?_;refine⟨.int ((SQ.lst m).length:Nat),H,I.kept (t' :=s.toks+1+1) (fun b o e=>e),?_,q⟩;rw[hz];exact⟨_,rfl⟩
end
end L2
namespace SW
open PySem.W PyProof.Rows
noncomputable def run{α:Type}(f:Nat->Nat->Bool):KasT α->α
 | .ret a=>a
 | .ask i j k=>run f (k (f i j))
theorem dA{α β:Type}(f:Nat->Nat->Bool)(g:α->KasT β):∀t:KasT α,run f (t.bind g)=run f (g (run f t))
 | .ret _=>rfl
 | .ask i j k=>dA f g (k (f i j))
section
variable(key:Nat->Int)
noncomputable def F:Nat->Nat->Bool:=fun i j=>decide (key i<key j)
noncomputable def K(p:Array Nat)(i:Nat):Int:=key (p.getD i 0)
noncomputable def xC(p:Array Nat)(k:Nat):Prop:=∀i,i+1<k->K key p i<=K key p (i+1)
noncomputable def Cp(p:Array Nat)(k:Nat):Prop:=∀i,i+1<k->K key p (i+1)<=K key p i
variable{key}
theorem xC.le{p:Array Nat}{k:Nat}(h:xC key p k):∀(d i:Nat),i+d<k->K key p i<=K key p (i+d)
 | 0,_,_=>Int.le_refl _
 | d+1,i,hk=>Int.le_trans (xC.le h d i (by omega)) (h (i+d) (by omega))
theorem xC.mono{p:Array Nat}{k:Nat}(h:xC key p k){i j:Nat}(hij:i<=j)(hj:j<k):K key p i<=K key p j:=by
 have:=h.le (j-i) i (by omega)
 rwa [show i+(j-i)=j by omega]at this
theorem Cp.le{p:Array Nat}{k:Nat}(h:Cp key p k):∀(d i:Nat),i+d<k->K key p (i+d)<=K key p i
 | 0,_,_=>Int.le_refl _
 | d+1,i,hk=>Int.le_trans (h (i+d) (by omega)) (Cp.le h d i (by omega))
theorem Cp.mono{p:Array Nat}{k:Nat}(h:Cp key p k){i j:Nat}(hij:i<=j)(hj:j<k):K key p j<=K key p i:=by
 have:=h.le (j-i) i (by omega)
 rwa [show i+(j-i)=j by omega]at this
theorem AF{p:Array Nat}{i j:Nat}(hj:j<=p.size)(x:Nat):K key (kas_rev p i j) x=if i<=x/\x<j then K key p (i+j-1-x)else K key p x:=by
 unfold K kas_rev;rw[KQ,getElem?_mirror_all hj]
 split
 ·rw[KQ]
 ·rw[KQ]
theorem asc(p:Array Nat):∀k n,n<=run (F key) (kas_asc p k n)/\run (F key) (kas_asc p k n)<=n+k/\(∀i,n<=i->i<run (F key) (kas_asc p k n)->K key p (i-1)<=K key p i) /\
  (run (F key) (kas_asc p k n)<n+k->K key p (run (F key) (kas_asc p k n))<K key p (run (F key) (kas_asc p k n)-1))
 | 0,n=>⟨JV _,JV _,fun i h1 h2=>absurd (show i<n from h2) (by omega),fun h=>absurd (show n<n+0 from h) (by omega)⟩
 | k+1,n=>by
  have e:run (F key) (kas_asc p (k+1) n)=if K key p n<K key p (n-1)then n else run (F key) (kas_asc p k (n+1)):=by
   show run (F key) (if F key (p.getD n 0) (p.getD (n-1) 0)=true then .ret n else kas_asc p k (n+1))=_;unfold F K
   by_cases c:key (p.getD n 0)<key (p.getD (n-1) 0)
   ·rw[JS (by simpa using c),JS c]
    rfl
   ·rw[JR (by simpa using c),JR c]
  rw[e]
  by_cases c:K key p n<K key p (n-1)
  ·rw[JS c]
   exact⟨JV _,by omega,fun i h1 h2=>by omega,fun _=>c⟩
  ·rw[JR c]
   obtain⟨a1,a2,a3,a4⟩:=asc p k (n+1);refine⟨by omega,by omega,fun i h1 h2=> ?_,fun h=>a4 (by omega)⟩
   rcases Lb n i with h|h
   ·exact a3 i h h2
   ·have:i=n:=by omega
    subst this;omega
structure Dn(p:Array Nat)(n q:Nat):Prop where
 one:q+1<=n
 sz:n<=p.size
 fal:Cp key p n
 eqs:∀i,n-(q+1)<=i->i<n->K key p i=K key p (n-1)
theorem gJ(p:Array Nat)(i j:Nat):(kas_rev p i j).size=p.size:=mirror_size _ _ _ _
theorem lE{p:Array Nat}{i j:Nat}(hj:j<=p.size)(h:∀x,i<=x->x<j->K key p x=K key p (j-1))(x:Nat):K key (kas_rev p i j) x=K key p x:=by
 rw[AF hj]
 split
 ·rename_i c
  rw[h (i+j-1-x) (by omega) (by omega),h x c.1 c.2]
 ·rfl
theorem B9:∀(k:Nat)(p:Array Nat)(n q:Nat),Dn (key:=key) p n q->n+k<=p.size ->
  Dn (key:=key) (run (F key) (kas_desc k p n q)).1 (run (F key) (kas_desc k p n q)).2.1 (run (F key) (kas_desc k p n q)).2.2/\(run (F key) (kas_desc k p n q)).1.Perm p/\(run (F key) (kas_desc k p n q)).2.1<=n+k
 | 0,p,n,q,h,_=>⟨h,MB _,JV _⟩
 | k+1,p,n,q,h,hk=>by
  have h1:=h.one;have e:run (F key) (kas_desc (k+1) p n q)=if K key p n<K key p (n-1)then(if q>0 then run (F key) (kas_desc k (kas_rev p (n-(q+1)) n) (n+1) 0)else run (F key) (kas_desc k p (n+1) 0))else if K key p (n-1)<K key p n then(p,n,q)else run (F key) (kas_desc k p (n+1) (q+1)):=by
   show run (F key) (if F key (p.getD n 0) (p.getD (n-1) 0)=true then(if q>0 then kas_desc k (kas_rev p (n-(q+1)) n) (n+1) 0 else kas_desc k p (n+1) 0)else .ask (p.getD (n-1) 0) (p.getD n 0) fun d=>if d=true then .ret (p,n,q)else kas_desc k p (n+1) (q+1))=_
   by_cases c:K key p n<K key p (n-1)
   ·rw[JS (show F key (p.getD n 0) (p.getD (n-1) 0)=true by simpa [F,K]using c),JS c]
    split<;>rfl
   ·rw[JR (show¬F key (p.getD n 0) (p.getD (n-1) 0)=true by simpa [F,K]using c),JR c]
    show run (F key) (if F key (p.getD (n-1) 0) (p.getD n 0)=true then .ret (p,n,q)else kas_desc k p (n+1) (q+1))=_
    by_cases d:K key p (n-1)<K key p n
    ·rw[JS (show F key (p.getD (n-1) 0) (p.getD n 0)=true by simpa [F,K]using d),JS d]
     rfl
    ·rw[JR (show¬F key (p.getD (n-1) 0) (p.getD n 0)=true by simpa [F,K]using d),JR d]
  have longer:∀p' :Array Nat,p'.size=p.size->(∀x,K key p' x=K key p x)->K key p n<=K key p (n-1)->Cp key p' (n+1):=fun p' z kk c i hi=>by
   rw[kk,kk]
   rcases Lb (i+1) n with y|y
   ·exact h.fal i y
   ·have:i=n-1:=by omega
    subst this;rw[show n-1+1=n by omega];exact c
  have new:∀p' :Array Nat,p'.size=p.size->(∀x,K key p' x=K key p x)->K key p n<=K key p (n-1)->Dn (key:=key) p' (n+1) 0:=fun p' z kk c =>
   ⟨by omega,by omega,longer p' z kk c,fun i i1 i2=>by
    have:i=n+1-1:=by omega
    rw[this]⟩
  rw[e]
  by_cases c:K key p n<K key p (n-1)
  ·rw[JS c]
   by_cases hq:q>0
   ·rw[JS hq]
    have kk:=lE (key:=key) (i:=n-(q+1)) h.sz h.eqs;obtain⟨a1,a2,a3⟩:=B9 k (kas_rev p (n-(q+1)) n) (n+1) 0 (new _ (gJ _ _ _) kk (by omega)) (by rw[gJ];omega);exact⟨a1,a2.trans (Lw _ _ _ _),by omega⟩
   ·rw[JR hq]
    obtain⟨a1,a2,a3⟩:=B9 k p (n+1) 0 (new p rfl (fun _=>rfl) (by omega)) (by omega);exact⟨a1,a2,by omega⟩
  ·rw[JR c]
   by_cases d:K key p (n-1)<K key p n
   ·rw[JS d]
    exact⟨h,MB _,by dsimp only;omega⟩
   ·rw[JR d]
    obtain⟨a1,a2,a3⟩:=B9 k p (n+1) (q+1) ⟨by omega,by omega,longer p rfl (fun _=>rfl) (by omega),fun i i1 i2=>by
     have z:K key p n=K key p (n-1):=by omega
     rw[show n+1-1=n by omega,z]
     rcases Lb i n with y|y
     ·exact h.eqs i (by omega) y
     ·have:i=n:=by omega
      rw[this,z]⟩ (by omega)
    exact⟨a1,a2,by omega⟩
noncomputable def Good(p:Array Nat)(nrem:Nat)(r:Nat×Array Nat):Prop:=1<=r.1/\r.1<=nrem/\xC key r.2 r.1/\r.2.Perm p
theorem tail3{p:Array Nat}{n nrem:Nat}(h1:1<=n)(hn:n<=nrem)(hz:nrem<=p.size)(hf:Cp key p n):Good (key:=key) p nrem (run (F key) (kas_tail3 n nrem p)):=by
 unfold kas_tail3;rw[dA];obtain⟨a1,a2,a3,-⟩:=asc (key:=key) (kas_rev p 0 n) (nrem-n) n;refine⟨by show 1<=run (F key) (kas_asc (kas_rev p 0 n) (nrem-n) n);omega,by show run (F key) (kas_asc (kas_rev p 0 n) (nrem-n) n)<=nrem;omega,fun i hi=> ?_,Lw _ _ _ _⟩;show K key (kas_rev p 0 n) i<=K key (kas_rev p 0 n) (i+1);have hi:i+1<run (F key) (kas_asc (kas_rev p 0 n) (nrem-n) n):=hi
 rcases Lb (i+1) n with y|y
 ·rw[AF (by omega),AF (by omega),JS (by omega),JS (by omega)]
  exact hf.mono (by omega) (by omega)
 ·have:=a3 (i+1) y hi
  rwa [show i+1-1=i by omega]at this
theorem descPart{p:Array Nat}{n nrem:Nat}(h1:1<=n)(hn:n+1<=nrem)(hz:nrem<=p.size)(hf:Cp key p (n+1)):Good (key:=key) p nrem (run (F key) (kas_descPart n nrem p)):=by
 unfold kas_descPart;rw[dA];obtain⟨d,pm,le⟩:=B9 (key:=key) (nrem-(n+1)) p (n+1) 0 ⟨by omega,by omega,hf,fun i i1 i2=>by
  have:i=n+1-1:=by omega
  rw[this]⟩ (by omega)
 generalize run (F key) (kas_desc (nrem-(n+1)) p (n+1) 0)=r at d pm le
 obtain⟨p',n',q'⟩:=r;dsimp only at d pm le ⊢;have h1' :=d.one;have hz' :p'.size=p.size:=pm.size_eq
 split
 ·have kk:=lE (key:=key) (i:=n' -(q' +1)) d.sz d.eqs
  obtain⟨b1,b2,b3,b4⟩:=tail3 (key:=key) (p:=kas_rev p' (n' -(q' +1)) n') (n:=n') (nrem:=nrem) (by omega) (by omega) (by rw[gJ];omega) (fun i hi=>by rw[kk,kk];exact d.fal i hi);exact⟨b1,b2,b3,(b4.trans (Lw _ _ _ _)).trans pm⟩
 ·obtain⟨b1,b2,b3,b4⟩:=tail3 (key:=key) (p:=p') (n:=n') (nrem:=nrem) (by omega) (by omega) (by omega) d.fal
  exact⟨b1,b2,b3,b4.trans pm⟩
theorem count{p:Array Nat}{nrem:Nat}(h1:1<=nrem)(hz:nrem<=p.size):Good (key:=key) p nrem (run (F key) (kas_count nrem p)):=by
 unfold kas_count;rw[dA];obtain⟨a1,a2,a3,a4⟩:=asc (key:=key) p (nrem-1) 1
 generalize run (F key) (kas_asc p (nrem-1) 1)=n at a1 a2 a3 a4
 have srt:xC key p n:=fun i hi=>by
  have:=a3 (i+1) (by omega) hi
  rwa [show i+1-1=i by omega]at this
 by_cases e:n=nrem
 ·rw[JS (by simpa using e)]
  exact⟨a1,by show n<=nrem;omega,srt,MB _⟩
 ·rw[JR (by simpa using e)]
  have lt:=a4 (by omega)
  by_cases h:n>1
  ·rw[JS h]
   show Good p nrem (run (F key) (if F key (p.getD 0 0) (p.getD (n-1) 0)=true then .ret (n,p)else kas_descPart n nrem (kas_rev p 0 n)))
   by_cases c:K key p 0<K key p (n-1)
   ·rw[JS (show F key (p.getD 0 0) (p.getD (n-1) 0)=true by simpa [F,K]using c)]
    exact⟨a1,by show n<=nrem;omega,srt,MB _⟩
   ·rw[JR (show¬F key (p.getD 0 0) (p.getD (n-1) 0)=true by simpa [F,K]using c)]
    have alike:∀x,0<=x->x<n->K key p x=K key p (n-1):=fun x _ hx=>by
     have y1:=srt.mono (show 0<=x by omega) hx;have y2:=srt.mono (show x<=n-1 by omega) (by omega);omega
    have kk:=lE (key:=key) (i:=0) (j:=n) (by omega) alike;obtain⟨b1,b2,b3,b4⟩:=descPart (key:=key) (p:=kas_rev p 0 n) (n:=n) (nrem:=nrem) a1 (by omega) (by rw[gJ];omega) (fun i hi=>by
     rw[kk,kk]
     rcases Lb (i+1) n with y|y
     ·rw[alike (i+1) (by omega) y,alike i (by omega) (by omega)]
      exact Int.le_refl _
     ·have:i=n-1:=by omega
      subst this;rw[show n-1+1=n by omega];omega)
    exact⟨b1,b2,b3,b4.trans (Lw _ _ _ _)⟩
  ·rw[JR h]
   have:n=1:=by omega
   subst this;exact descPart (key:=key) (by omega) (by omega) hz (fun i hi=>by
    have:i=0:=by omega
    subst this;have lt:K key p (0+1)<K key p 0:=lt;exact Int.le_of_lt lt)
theorem place{p:Array Nat}{n:Nat}(hs:xC key p n):∀(k l r:Nat),l<=r->r<=n->r-l<=k->(∀i,i<l->K key p i<=K key p n)->(∀i,r<=i->i<n->K key p n<K key p i) ->
  run (F key) (kas_place p n k l r)<=n/\(∀i,i<run (F key) (kas_place p n k l r)->K key p i<=K key p n)/\∀i,run (F key) (kas_place p n k l r)<=i->i<n->K key p n<K key p i
 | 0,l,r,lr,rn,hk,h1,h2=>by
  have:l=r:=by omega
  subst this;exact⟨rn,h1,h2⟩
 | k+1,l,r,lr,rn,hk,h1,h2=>by
  unfold kas_place
  by_cases e:l ≥ r
  ·have:l=r:=by omega
   subst this;rw[JS e];exact⟨rn,h1,h2⟩
  ·rw[JR e]
   have hm:(l+r)/2<r:=by omega
   have hm2:l<=(l+r)/2:=by omega
   show run (F key) (if F key (p.getD n 0) (p.getD ((l+r)/2) 0)=true then kas_place p n k l ((l+r)/2)else kas_place p n k ((l+r)/2+1) r)<=n/\_;show(fun t=>run (F key) t<=n/\(∀i,i<run (F key) t->K key p i<=K key p n)/\∀i,run (F key) t<=i->i<n->K key p n<K key p i) (if F key (p.getD n 0) (p.getD ((l+r)/2) 0)=true then kas_place p n k l ((l+r)/2)else kas_place p n k ((l+r)/2+1) r)
   by_cases c:K key p n<K key p ((l+r)/2)
   ·rw[JS (show F key (p.getD n 0) (p.getD ((l+r)/2) 0)=true by simpa [F,K]using c)]
    refine place hs k l ((l+r)/2) hm2 (by omega) (by omega) h1 fun i i1 i2=> ?_;exact Int.lt_of_lt_of_le c (hs.mono i1 i2)
   ·rw[JR (show¬F key (p.getD n 0) (p.getD ((l+r)/2) 0)=true by simpa [F,K]using c)]
    refine place hs k ((l+r)/2+1) r (by omega) rn (by omega) (fun i hi=> ?_) h2;exact Int.le_trans (hs.mono (show i<=(l+r)/2 by omega) (by omega)) (by omega)
theorem JB{p:Array Nat}{n L:Nat}(hn:n<p.size)(hL:L<=n)(x:Nat):K key (bubble p n (n-L)) x=if x=L then K key p n else if L<x/\x<=n then K key p (x-1)else K key p x:=by
 unfold K;rw[KQ,getElem?_bubble hn _ (by omega),show n-(n-L)=L by omega];rw[KQ (i:=n),KQ (i:=x-1),KQ (i:=x)]
 split
 ·rfl
 ·split
  ·rfl
  ·rfl
theorem bin:∀(k:Nat)(p:Array Nat)(n:Nat),n+k<=p.size->xC key p n->xC key (run (F key) (kas_bin k p n)) (n+k)/\(run (F key) (kas_bin k p n)).Perm p
 | 0,p,n,_,h=>⟨h,MB _⟩
 | k+1,p,n,hk,h=>by
  unfold kas_bin;rw[dA];obtain⟨b1,b2,b3⟩:=place (key:=key) h n 0 n (by omega) (by omega) (by omega) (fun i hi=>by omega) (fun i i1 i2=>by omega)
  generalize run (F key) (kas_place p n n 0 n)=L at b1 b2 b3
  have kb:=JB (key:=key) (p:=p) (n:=n) (L:=L) (by omega) b1;have hs:xC key (bubble p n (n-L)) (n+1):=fun i hi=>by
   rw[kb,kb]
   by_cases e1:i=L
   ·rw[JS e1,JR (by omega),JS (by omega)]
    have:=b3 (i+1-1) (by omega) (by omega);omega
   ·rw[JR e1]
    by_cases e2:i+1=L
    ·rw[JS e2,JR (by omega)]
     exact b2 i (by omega)
    ·rw[JR e2]
     by_cases e3:L<i/\i<=n
     ·rw[JS e3,JS (by omega)]
      exact h.mono (by omega) (by omega)
     ·rw[JR e3,JR (by omega)]
      exact h.mono (by omega) (by omega)
  obtain⟨c1,c2⟩:=bin k (bubble p n (n-L)) (n+1) (by rw[bubble_size];omega) hs;exact⟨by rw[show n+(k+1)=n+1+k by omega];exact c1,c2.trans (bubble_perm _ _ _)⟩
theorem sort{n:Nat}(h:1<=n):(run (F key) (kas_sort n)).toList.Perm (List.range n)/\((run (F key) (kas_sort n)).toList.map key).Pairwise (·<=·):=by
 have core:(run (F key) (kas_sort n)).Perm (List.toArray (List.range n))/\xC key (run (F key) (kas_sort n)) n:=by
  unfold kas_sort;rw[dA];obtain⟨a1,a2,a3,a4⟩:=count (key:=key) (p:=List.toArray (List.range n)) h (by simp)
  generalize run (F key) (kas_count n (List.toArray (List.range n)))=r at a1 a2 a3 a4
  have hz:r.2.size=n:=by rw[a4.size_eq];simp
  split
  ·have:max r.1 1=r.1:=by omega
   rw[this];obtain⟨b1,b2⟩:=bin (key:=key) (n-r.1) r.2 r.1 (by omega) a3;exact⟨b2.trans a4,by rw[show n=r.1+(n-r.1)by omega];rw[show r.1+(n-r.1)-r.1=n-r.1 by omega];exact b1⟩
  ·have:r.1=n:=by omega
   exact⟨a4,by rw[<- this];exact a3⟩
 obtain⟨c1,c2⟩:=core;have pm:=Array.perm_iff_toList_perm.mp c1;refine⟨by simpa using pm,?_⟩
 generalize run (F key) (kas_sort n)=p at c1 c2 pm
 have hl:p.toList.length=n:=by rw[pm.length_eq];simp
 rw[List.pairwise_iff_getElem];intro i j hi hj hij;rw[JM]at hi hj;rw[List.getElem_map,List.getElem_map];have:=c2.mono (show i<=j by omega) (by omega);unfold K at this;rw[Jv]at hi hj
 simpa [Array.getD,hi,hj]using this
end
end SW
namespace SW
open PySem PySem.W PyProof.Rows
noncomputable def Ok{α:Type}(n:Nat)(P:α->Prop):KasT α->Prop
 | .ret a=>P a
 | .ask i j k=>i<n/\j<n/\∀b,Ok n P (k b)
theorem Ok.bind{α β:Type}{n:Nat}{P:α->Prop}{R:β->Prop}{g:α->KasT β}(hg:∀a,P a->Ok n R (g a)):∀{t:KasT α},Ok n P t->Ok n R (t.bind g)
 | .ret a,h=>hg a h
 | .ask i j k,h=>⟨h.1,h.2.1,fun b=>Ok.bind hg (h.2.2 b)⟩
theorem Ok.wp{α:Type}{n:Nat}{P:α->Prop}{cmp:Nat->Nat->(Bool->Shared->Prop)->Shared->Prop}{f:Nat->Nat->Bool}{Q:α->Shared->Prop}{s:Shared}(hc:∀i j C,i<n->j<n->C (f i j) s->cmp i j C s) :
  ∀{t:KasT α},Ok n P t->Q (run f t) s->t.kasWp cmp Q s
 | .ret a,_,h=>h
 | .ask i j k,o,h=>hc i j _ o.1 o.2.1 (Ok.wp hc (o.2.2 _) h)
noncomputable def B(n:Nat)(p:Array Nat):Prop:=∀x,p.getD x 0<n
theorem B.perm{n:Nat}{p p' :Array Nat}(hn:0<n)(h:B n p)(pm:p'.Perm p):B n p' :=fun x=>by
 by_cases hx:x<p'.size
 ·have e:p'.getD x 0=p'[x]:=by simp[Array.getD,hx]
  have hm:p'[x]∈p'.toList:=Array.getElem_mem_toList hx;have hm:=(Array.perm_iff_toList_perm.mp pm).mem_iff.mp hm;obtain⟨i,hi,z⟩:=List.getElem_of_mem hm;have:=h i;rw[Jv]at hi;rw[e,<-z]
  simpa [Array.getD,hi]using this
 ·have e:p'.getD x 0=0:=by simp[Array.getD,hx]
  rw[e];exact hn
section
variable{n:Nat}(hn:0<n)
include hn
theorem sX{p:Array Nat}(h:B n p):∀k m,Ok n (fun _=>True) (kas_asc p k m)
 | 0,_=>trivial
 | k+1,m=>⟨h _,h _,fun b=>by cases b<;>first|exact trivial|exact sX h k (m+1)⟩
theorem jS:∀(k:Nat)(p:Array Nat)(m q:Nat),B n p->Ok n (fun r=>B n r.1) (kas_desc k p m q)
 | 0,p,_,_,h=>h
 | k+1,p,m,q,h=>⟨h _,h _,fun b=>by
  cases b with
  | true =>
   show Ok n _ (if q>0 then kas_desc k (kas_rev p (m-(q+1)) m) (m+1) 0 else kas_desc k p (m+1) 0)
   split
   ·exact jS k _ _ _ (h.perm hn (Lw _ _ _ _))
   ·exact jS k _ _ _ h
  | false=>exact⟨h _,h _,fun b=>by
    cases b
    ·exact jS k p (m+1) (q+1) h
    ·exact h⟩⟩
theorem pf{p:Array Nat}{m r:Nat}(h:B n p):Ok n (fun r=>B n r.2) (kas_tail3 m r p):=by
 unfold kas_tail3;refine Ok.bind (P:=fun _=>True) (fun _ _=> ?_) (sX hn (h.perm hn (Lw _ _ _ _)) _ _);exact h.perm hn (Lw _ _ _ _)
theorem i6{p:Array Nat}{m r:Nat}(h:B n p):Ok n (fun r=>B n r.2) (kas_descPart m r p):=by
 unfold kas_descPart;refine Ok.bind (P:=fun r=>B n r.1) (fun a ha=> ?_) (jS hn _ _ _ _ h)
 split
 ·exact pf hn (ha.perm hn (Lw _ _ _ _))
 ·exact pf hn ha
theorem yR{p:Array Nat}{r:Nat}(h:B n p):Ok n (fun r=>B n r.2) (kas_count r p):=by
 unfold kas_count;refine Ok.bind (P:=fun _=>True) (fun a _=> ?_) (sX hn h _ _)
 split
 ·exact h
 ·split
  ·exact⟨h _,h _,fun b=>by
    cases b
    ·exact i6 hn (h.perm hn (Lw _ _ _ _))
    ·exact h⟩
  ·exact i6 hn h
theorem jw{p:Array Nat}{m:Nat}(h:B n p):∀k l r,Ok n (fun _=>True) (kas_place p m k l r)
 | 0,_,_=>trivial
 | k+1,l,r=>by
  unfold kas_place
  split
  ·exact trivial
  ·exact⟨h _,h _,fun b=>by
    cases b
    ·exact jw h k _ _
    ·exact jw h k _ _⟩
theorem yS:∀(k:Nat)(p:Array Nat)(m:Nat),B n p->Ok n (fun p=>B n p) (kas_bin k p m)
 | 0,_,_,h=>h
 | k+1,p,m,h=>Ok.bind (fun l _=>yS k _ _ (h.perm hn (bubble_perm _ _ _))) (jw hn h _ _ _)
theorem BQ:Ok n (fun p=>B n p) (kas_sort n):=by
 have h0:B n (List.toArray (List.range n)):=fun x=>by
  by_cases hx:x<n
  ·have:(List.toArray (List.range n)).getD x 0=x:=by simp[Array.getD,hx]
   omega
  ·have:(List.toArray (List.range n)).getD x 0=0:=by simp[Array.getD,hx]
   omega
 unfold kas_sort;refine Ok.bind (P:=fun r=>B n r.2) (fun r hr=> ?_) (yR hn h0)
 split
 ·exact yS hn _ _ _ hr
 ·exact hr
end
section
variable{prog:Program}{w:World}{A:Around}{E:Value->Shared->Prop}{s:Shared}
noncomputable def uY(key:Nat->Int)(vs:List Value):List Value:=(run (F key) (kas_sort vs.length)).toList.map fun i=>vs.getD i Value.none
theorem BI{key:Nat->Int}{vs:List Value}(h:1<=vs.length):(uY key vs).length=vs.length:=by
 unfold uY;rw[JM,(sort (key:=key) h).1.length_eq,KO]
theorem Ba{a:Addr}{vs:List Value}{n:Nat}{κ:SortKind}{key:Nat->Int}{P:PySem.Fin->Shared->Prop}(ho:s.heap.get? a=some (seqObj "list" vs.toArray n))(h2:2<=vs.length)(h64:vs.length<64)
  (hk:∀(s1:Shared)(Q:SortKind->Shared->Prop),(∀b o,b≠a->s.heap.get? b=some o->s1.heap.get? b=some o)->Q κ s1->wpAny (model prog w) A (keyKind' vs.toArray) Q E s1)
  (hc:∀(s1:Shared) i j C,(∀b o,b≠a->s.heap.get? b=some o->s1.heap.get? b=some o)->i<vs.length->j<vs.length->C (F key i j) s1->kas_ask prog w A κ vs i j C s1)
  (h:P (.done (.ret .none)) {s with heap:=sortedHeap s.heap a vs (uY key vs).toArray}) :
  wpAny (model prog w) A (Builtin.«list.sort» ⟨[.ref a],[]⟩) P E s:=by
 have ha:a<s.heap.objs.size:=Je ho;rw[list_sort_plain];refine JL (listItems_at ho rfl (JL (listUpdate_at ho rfl ?_ (by rw[Jb,KC];omega) (Js _))));obtain⟨e1,g1⟩:∃e1,(s.heap.update a (Obj.mapSeq fun _=>(#[]:Array Value))).get? a=some (seqObj "list" #[] e1):=⟨_,get?_update_seq ho fun _=> #[]⟩;refine JL (seqEpoch_at g1 rfl (JL (wpAny_newTuple ?_ (by show vs.length<=_;rw[KC];omega))));refine JL (MD ?_ (Js _));refine KS ?_;have g2:(((s.heap.update a (Obj.mapSeq fun _=>(#[]:Array Value))).push (seqObj "tuple" vs.toArray 0)).push (seqObj "list" #[] 0)).get? a=some (seqObj "list" #[] e1):=JN _ (JN _ g1)
 have old:∀b o,b≠a->s.heap.get? b=some o->(((s.heap.update a (Obj.mapSeq fun _=>(#[]:Array Value))).push (seqObj "tuple" vs.toArray 0)).push (seqObj "list" #[] 0)).get? b=some o:=fun b o nb e =>
  JN _ (JN _ (by rw[Jx _ _ (Kc nb)];exact e))
 show wpAny (model prog w) A _ P E {s with heap:=((s.heap.update a (Obj.mapSeq fun _=>(#[]:Array Value))).push (seqObj "tuple" vs.toArray 0)).push (seqObj "list" #[] 0)};dsimp only;have n2:¬vs.toArray.size<2:=by rw[Jb];omega
 rw[JR n2,JR n2];refine JL (hk _ _ old ?_)
 refine JL (Ke (kat_run (Q:=fun st' s' =>∃p:Array Nat,p=run (F key) (kas_sort vs.length)/\s' ={s with heap:=((s.heap.update a (Obj.mapSeq fun _=>(#[]:Array Value))).push (seqObj "tuple" vs.toArray 0)).push (seqObj "list" #[] 0)}/\arrOf st' =p.map (kas_item (vs.toArray.zip vs.toArray))/\failedOf st' =none)
  (G:=fun p s' =>p=run (F key) (kas_sort vs.length)/\s' ={s with heap:=((s.heap.update a (Obj.mapSeq fun _=>(#[]:Array Value))).push (seqObj "tuple" vs.toArray 0)).push (seqObj "list" #[] 0)})
  rfl h2 h64 (fun p' st' s' _ a2 a3 a4=>⟨p',a4.1,a4.2,a2,a3⟩) ((BQ (by omega)).wp (fun i j C hi hj q=>hc _ i j C old hi hj q) ⟨rfl,rfl⟩)) ?_ fun _ _ e=>e)
 rintro⟨⟨⟩,st'⟩ s' ⟨p,rfl,rfl,har,hf⟩;dsimp only;have hout:(arrOf st').map (·.2)=(uY key vs).toArray:=kat_snds rfl har;rw[hout];refine JL (seqEpoch_at g2 rfl ?_);refine JL (listUpdate_at g2 rfl ?_ (Js _) (by rw[Jb,BI (by omega),KC];omega));rw[hf];simp only[bne_self_eq_false,K2,L4];exact JQ h
end
end SW
set_option maxHeartbeats 400000
namespace SW
open PySem PySem.W PyProof.Rows
noncomputable def cu(h:Heap)(v:Value)(q:Int×Int):Prop:=∃a t u,v=.ref a/\IsTup h a #[.int q.1 t,.int q.2 u]
theorem cu.keep{h h' :Heap}{v:Value}{q:Int×Int}(x:cu h v q)(k:∀b o,h.get? b=some o->h'.get? b=some o):cu h' v q:=by
 obtain⟨a,t,u,e,z⟩:=x;exact⟨a,t,u,e,z.keeps k⟩
noncomputable def ck(q:Int×Int):Int:=1000*q.1+q.2
section
variable{prog:Program}{w:World}{A:Around}{E:Value->Shared->Prop}{s:Shared}
theorem BY{x y:Value}{p q:Int×Int}{C:Bool->Shared->Prop}(hx:cu s.heap x p)(hy:cu s.heap y q)(bp:0<=p.2/\p.2<1000)(bq:0<=q.2/\q.2<1000)(h:C (decide (ck p<ck q)) s):wpAny (model prog w) A (keyLt' (tuples' true) x y) C E s:=by
 obtain⟨a,t,u,rfl,o,ho,-,n,hd⟩:=hx;obtain⟨b,t',u',rfl,o',ho',-,n',hd'⟩:=hy;refine kat_lt ho hd ho' hd' ?_;unfold ck at h;refine kat_cons (wpAny_eqBool_int (kat_go (fun e=>kat_yes (kat_cons (wpAny_eqBool_int (kat_go (fun e2=>kat_yes (kat_nil ?_)) fun e2=>kat_no (kat_one _ _ (lt_int ?_)))))) fun e=>kat_no (oneLt_int ?_)))
 ·have e:=LH.mp e
  have e2:=LH.mp e2;rw[show decide (1000*p.1+p.2<1000*q.1+q.2)=false from Jk (by omega)]at h;exact h
 ·have e:=LH.mp e
  show C (decide (p.2<q.2)) s;rw[show decide (1000*p.1+p.2<1000*q.1+q.2)=decide (p.2<q.2)from Ly.mpr (by omega)]at h;exact h
 ·have e:p.1≠q.1:=fun z=>by rw[z]at e;simp at e
  rw[show decide (1000*p.1+p.2<1000*q.1+q.2)=decide (p.1<q.1)from Ly.mpr (by omega)]at h;exact h
theorem sh{vs:List Value}{ps:List (Int×Int)}{Q:SortKind->Shared->Prop}(h1:1<=vs.length)(hp:Paired (cu s.heap) vs ps)(h:Q (tuples' true) s):wpAny (model prog w) A (keyKind' vs.toArray) Q E s:=by
 obtain⟨fs,hf,hl,hi⟩:∃fs,KatTups s.heap vs fs/\fs.length=vs.length/\∀v∈fs,∃i t,v=.int i t:=by
  clear h1 h
  induction hp with
  | nil=>exact⟨[],.nil,rfl,fun v hv=>by cases hv⟩
  | cons r _ ih =>
   obtain⟨fs,a1,a2,a3⟩:=ih;obtain⟨a,t,u,rfl,o,ho,hc,n,hd⟩:=r;refine⟨_,KatTups.cons ho hc hd rfl a1,by simp[a2],fun v hv=> ?_⟩
   rcases Jg.mp hv with z|z
   ·exact⟨_,_,z⟩
   ·exact a3 v z
 refine kat_kind (T:=.type "int") hf (by omega) (fun v hv=> ?_) (by decide) h;obtain⟨i,t,rfl⟩:=hi v hv;exact .now
theorem vv:∀{vs:List Value},vs.length<2->(vs.toArray.zip vs.toArray).map (·.2)=vs.toArray
 | [],_=>by simp
 | [_],_=>by simp
 | _::_::_,h=>absurd h (by simp)
theorem rg:∀{vs:List Value},vs.length<2->(List.range vs.length).map (fun i=>vs.getD i Value.none)=vs
 | [],_=>rfl
 | [_],_=>rfl
 | _::_::_,h=>absurd h (by simp)
theorem xa{f:Nat->Int}:∀{n:Nat},n<2->((List.range n).map f).Pairwise (·<=·)
 | 0,_=>.nil
 | 1,_=>by show([f 0]:List Int).Pairwise (·<=·);exact List.pairwise_singleton _ _
 | _+2,h=>absurd h (by omega)
theorem qA{a:Addr}{vs:List Value}{n:Nat}{P:PySem.Fin->Shared->Prop}(ho:s.heap.get? a=some (seqObj "list" vs.toArray n))(h2:vs.length<2)
  (h:P (.done (.ret .none)) {s with heap:=sortedHeap s.heap a vs vs.toArray}):wpAny (model prog w) A (Builtin.«list.sort» ⟨[.ref a],[]⟩) P E s:=by
 rw[list_sort_plain];refine JL (listItems_at ho rfl (JL (listUpdate_at ho rfl ?_ (by rw[Jb,KC];omega) (Js _))));obtain⟨e1,g1⟩:∃e1,(s.heap.update a (Obj.mapSeq fun _=>(#[]:Array Value))).get? a=some (seqObj "list" #[] e1):=⟨_,get?_update_seq ho fun _=> #[]⟩;refine JL (seqEpoch_at g1 rfl (JL (wpAny_newTuple ?_ (by show vs.length<=_;rw[KC];omega))));refine JL (MD ?_ (Js _));refine KS ?_;have g2:(((s.heap.update a (Obj.mapSeq fun _=>(#[]:Array Value))).push (seqObj "tuple" vs.toArray 0)).push (seqObj "list" #[] 0)).get? a=some (seqObj "list" #[] e1):=JN _ (JN _ g1);show wpAny (model prog w) A _ P E {s with heap:=((s.heap.update a (Obj.mapSeq fun _=>(#[]:Array Value))).push (seqObj "tuple" vs.toArray 0)).push (seqObj "list" #[] 0)};dsimp only;have n2:vs.toArray.size<2:=by rw[Jb];exact h2
 rw[JS n2,JS n2];refine JL (JQ ?_);rw[StateT.run_pure];refine JL (JQ ?_);dsimp only;have hout:(arrOf (SortSt.mk' general' (vs.toArray.zip vs.toArray) #[] 7 none)).map (·.2)=vs.toArray:=by
  exact vv h2
 rw[hout];refine JL (seqEpoch_at g2 rfl ?_);refine JL (listUpdate_at g2 rfl ?_ (Js _) (by rw[Jb,KC];omega));simp only[bne_self_eq_false,K2,L4];exact JQ h
theorem hJ{F:Value->Int×Int->Prop}:∀{vs:List Value}{ps:List (Int×Int)},Paired F vs ps->∀i,i<vs.length->F (vs.getD i Value.none) (ps.getD i (0,0))/\ps.getD i (0,0)∈ps
 | _,_,.cons r _,0,_=>⟨r,JP⟩
 | _,_,.cons _ t,i+1,h=>by
  have:=hJ t i (by simpa using h);exact⟨this.1,JO _ this.2⟩
theorem mr{l:Addr}{vs:List Value}{ps:List (Int×Int)}{Q:Value->Shared->Prop}(hl:s.heap.IsList l vs.toArray)(hp:Paired (cu s.heap) vs ps)(hb:∀q∈ps,0<=q.2/\q.2<1000)(h64:vs.length<64)
  (h:∀js:List Nat,js.Perm (List.range vs.length)->(js.map fun i=>ck (ps.getD i (0,0))).Pairwise (·<=·)->Q (.ref (s.heap.objs.size+1)) {s with heap:=sortedAll s.heap vs (js.map fun i=>vs.getD i Value.none).toArray}) :
  wpAny (model prog w) A (call (.builtin "sorted") [.ref l]) Q E s:=by
 refine MO kind_sorted plain_sorted entry_sorted (args_sorted1 _) ?_;unfold Builtin.«sorted»;refine JL (m:=checkCount "sorted" 1 1 _) (JQ ?_);refine JL (collect_list hl ?_ (by rw[KC];omega));refine JL (MD ?_ (by rw[KC];omega));have hsz:((s.heap.push (seqObj "list" #[] 0)).update s.heap.objs.size (Obj.mapSeq (·++vs.toArray))).objs.size=s.heap.objs.size+1:=by rw[Heap.size_update,size_push']
 have hoL:(((s.heap.push (seqObj "list" #[] 0)).update s.heap.objs.size (Obj.mapSeq (·++vs.toArray))).push (seqObj "list" vs.toArray 0)).get? (s.heap.objs.size+1)=some (seqObj "list" vs.toArray 0):=by
  rw[<- hsz];exact Jd _ rfl
 have keep:∀b o,s.heap.get? b=some o->(((s.heap.push (seqObj "list" #[] 0)).update s.heap.objs.size (Obj.mapSeq (·++vs.toArray))).push (seqObj "list" vs.toArray 0)).get? b=some o:=fun b o e=>by
  have lt:b<s.heap.objs.size:=Je e;refine JN _ ?_;rw[Jx _ _ (KZ lt)];exact JN _ e
 show wpAny _ _ _ _ _ {s with heap:=((s.heap.push (seqObj "list" #[] 0)).update s.heap.objs.size (Obj.mapSeq (·++vs.toArray))).push (seqObj "list" vs.toArray 0)};rw[hsz]
 by_cases h2:vs.length<2
 ·refine JL (KS (J1 slot_list_sort ⟨_,hoL,rfl⟩ entry_list_sort (qA hoL h2 ⟨_,rfl,?_⟩) (args_list_sort _)))
  have q:=h (List.range vs.length) (List.Perm.refl _) (xa h2);rw[rg h2]at q;exact JQ ⟨_,rfl,q⟩
 ·have hp2:∀s1:Shared,(∀b o,b≠s.heap.objs.size+1->(((s.heap.push (seqObj "list" #[] 0)).update s.heap.objs.size (Obj.mapSeq (·++vs.toArray))).push (seqObj "list" vs.toArray 0)).get? b=some o->s1.heap.get? b=some o)->∀{v:Value}{q:Int×Int},cu s.heap v q->cu s1.heap v q:=fun s1 k v q x =>
   x.keep fun b o e=>k b o (Jm (KP (Je e))) (keep b o e)
  refine JL (KS (J1 slot_list_sort ⟨_,hoL,rfl⟩ entry_list_sort (Ba (κ:=tuples' true) (key:=fun i=>ck (ps.getD i (0,0))) hoL (by omega) h64 (fun s1 Q1 k q1=> ?_) (fun s1 i j C k hi hj c=> ?_) ⟨_,rfl,?_⟩) (args_list_sort _)))
  ·exact sh (ps:=ps) (by omega) (L2.Paired.mapP hp fun _ _ x=>hp2 s1 k x) q1
  ·obtain⟨x1,m1⟩:=hJ hp i hi
   obtain⟨x2,m2⟩:=hJ hp j hj;exact BY (hp2 s1 k x1) (hp2 s1 k x2) (hb _ m1) (hb _ m2) c
  ·obtain⟨z1,z2⟩:=sort (key:=fun i=>ck (ps.getD i (0,0))) (n:=vs.length) (by omega)
   exact JQ ⟨_,rfl,h _ z1 z2⟩
end
end SW
namespace L2
open PySem PySem.Spec PyProof.Rows
inductive GA(K:W.Frag)(H:Hp):List V->List (Int×Int)->Prop
 | nil:GA K H [] []
 | cons {a:Addr} {q:Int×Int} {us:List V} {ps:List (Int×Int)} (h:bX K H a [.int q.1,.int q.2]) (t:GA K H us ps):GA K H (.ref a::us) (q::ps)
theorem GA.len{K:W.Frag}{H:Hp}{us:List V}{ps:List (Int×Int)}(h:GA K H us ps):us.length=ps.length:=by
 induction h with
 | nil=>rfl
 | cons _ _ ih=>simp[ih]
theorem aL.pick{us:List V}{vs:List Value}(r:aL us vs):∀{js:List Nat},(∀j∈js,j<us.length)->aL (js.map fun i=>us.getD i .non) (js.map fun i=>vs.getD i Value.none)
 | [],_=>.nil
 | j::js,h=>by
  have hj:=h j JP;obtain⟨v,hv,rv⟩:=r.get (i:=j) (x:=us[j]) (Ja hj);refine .cons ?_ (aL.pick r fun i hi=>h i (JO _ hi));dsimp only;rw[JX,Ja hj,JX,hv];exact rv
section
variable{X:Cx}
theorem gg:bF X (.builtin "sorted") (fun xs H Q=>∃(p:Addr)(us:List V)(ps:List (Int×Int)),xs=[.ref p]/\bG X.K H p us/\GA X.K H us ps/\us.length<64/\(∀q∈ps,0<=q.2/\q.2<1000) /\
  ∀a (js:List Nat),H a=none->js.Perm (List.range us.length)->(js.map fun i=>SW.ck (ps.getD i (0,0))).Pairwise (·<=·)->Q (.ref a) (upd H a (.lst (js.map fun i=>us.getD i .non)))):=by
 intro pins s σ H xs us Q I r h;obtain⟨p,ws,ps,rfl,hq,hp,h64,hb,q⟩:=h;obtain⟨u,rfl,rx⟩:=vals1 r;cases rx;obtain⟨its,r',pl,hz⟩:=I.list hq;have hlen:=r'.length;have pr:Paired (SW.cu s.heap) its ps:=by
  clear q hb h64 hq pl hz hlen
  induction hp generalizing its with
  | nil =>
   cases r';exact .nil
  | cons ht _ ih =>
   cases r' with
   | cons rv t =>
    refine .cons ?_ (ih _ t);cases rv;obtain⟨ys,ry,tp,_⟩:=I.tuple ht;obtain⟨y1,y2,rfl,e1,e2⟩:=vals2 ry;obtain⟨t1,rfl⟩:=e1;obtain⟨t2,rfl⟩:=e2;exact⟨_,t1,t2,rfl,tp⟩
 refine SW.mr pl.isList pr hb (by omega) fun js pm pw=> ?_;obtain⟨c,hc⟩:=sortedAll_at s.heap its (js.map fun i=>its.getD i Value.none).toArray;rw[<- hlen]at pm;refine⟨.ref (s.heap.objs.size+1),_,I.laid (t' :=s.toks) (o:=.lst (js.map fun i=>ws.getD i .non)) (fun b o z=>sortedAll_old z) (LX _) ?_,rfl,q _ js (I.hok.fresh (LX _)) pm pw⟩;refine⟨?_,js.map fun i=>its.getD i Value.none,c,aL.pick r' fun j hj=>Ju.mp (pm.mem_iff.mp hj),by simpa [seqObj]using hc⟩;rw[JM,pm.length_eq,KO,KC];omega
end
end L2
namespace SR
open PySem PyProof.Rows
section
variable{prog:Program}{w:World}{A:Around}{E:Value->Shared->Prop}{s:Shared}
end
end SR
set_option maxHeartbeats 800000
namespace SR
open PySem PyProof.Rows
theorem mx:Slot "reversed" "__init__" "object.__init__" :=
 .of (owner:="object") (n:="__init__") (by rw[Lu,LG];kernel_rfl) (by decide +kernel) (by decide +kernel) (by decide +kernel)
  (by first|exact .inl (by decide +kernel)|exact .inr (by decide +kernel)) (by rw[L6];kernel_rfl)
theorem bJ:Slot "reversed" "__next__" "reversed.__next__" :=
 .of (owner:="reversed") (n:="__next__") (by rw[Lu,LG];kernel_rfl) (by decide +kernel) (by decide +kernel) (by decide +kernel)
  (by first|exact .inl (by decide +kernel)|exact .inr (by decide +kernel)) (by rw[L6];kernel_rfl)
theorem cE:Slot "reversed" "__iter__" "reversed.__iter__" :=
 .of (owner:="reversed") (n:="__iter__") (by rw[Lu,LG];kernel_rfl) (by decide +kernel) (by decide +kernel) (by decide +kernel)
  (by first|exact .inl (by decide +kernel)|exact .inr (by decide +kernel)) (by rw[L6];kernel_rfl)
theorem fO:entryFor table "reversed.__next__"=some Builtin.«reversed.__next__»:=entryFor_of_tree (by kernel_rfl)
theorem fP:entryFor table "reversed.__iter__"=some Builtin.«dict_keyiterator.__iter__» :=
 entryFor_alias (id' :="dict_keyiterator.__iter__") (by kernel_rfl) (by first|rfl|decide +kernel) (by decide +kernel) (by kernel_rfl)
theorem gl(a:Value):argsOk "reversed.__next__" ⟨[a],[]⟩:=by unfold argsOk;kernel_rfl
theorem gm(a:Value):argsOk "reversed.__iter__" ⟨[a],[]⟩:=by unfold argsOk;kernel_rfl
theorem iF:TypeCalled "reversed" "reversed.__new__" "object.__init__" :=
 ⟨by decide +kernel,by decide +kernel,⟨_,_,F.mro_reversed⟩,F.made_reversed,F.plain_reversed_new,F.sub_reversed_self,mx⟩
theorem oy:typeLookup (.type "tuple") "__reversed__"=pure none:=by rw[Lu,LG];kernel_rfl
noncomputable def rvO(t:Addr)(i:Int):Obj:={cls:=.type "reversed",data:=.fields #[.ref t,rawInt i]}
noncomputable def gr(I t:Addr)(i:Int)(h:Heap):Prop:=∃o,h.get? I=some o/\o.cls=.type "reversed"/\o.data=.fields #[.ref t,rawInt i]
theorem gr.typeIs{I t:Addr}{i:Int}{s:Shared}(x:gr I t i s.heap):s.TypeIs (.ref I) "reversed":=let⟨o,ho,hc,_⟩:=x;⟨o,ho,hc⟩
theorem gr.keep{I t:Addr}{i:Int}{h h' :Heap}(x:gr I t i h)(k:∀o,h.get? I=some o->h'.get? I=some o):gr I t i h' :=let⟨o,ho,r⟩:=x;⟨o,k o ho,r⟩
section
variable{prog:Program}{w:World}{A:Around}{E:Value->Shared->Prop}{s:Shared}
theorem Ea{t:Addr}{its:Array Value}{Q:Value->Shared->Prop}(ht:IsTup s.heap t its)(hz:its.size<=sizeLine)(h:∀tk,Q (.ref s.heap.objs.size) {s with heap:=s.heap.push (rvO t ((its.size:Int)-1)),toks:=tk}) :
  codeAny (model prog w) A (.call (.builtin "reversed.__new__") ⟨[.type "reversed",.ref t],[]⟩) (wants Q E) s:=by
 refine codeAny_of_tree ?_;show wpAny _ A.in1 (do checkBuiltinCall "reversed.__new__" ⟨[.type "reversed",.ref t],[]⟩;again (.builtin "reversed.__new__" ⟨[.type "reversed",.ref t],[]⟩)) _ _ s;refine JL (K4 (F.newCall_reversed_1 _) (JQ ⟨MR F.plain_reversed_new _,Kx F.entry_reversed_new ?_⟩));rw[LK F.plain_reversed_new _];unfold Builtin.«reversed.__new__»;refine JL (K4 (newClass_reversed _) ?_)
 try dsimp only
 refine JL (K4 (a:=()) (by first|rfl|kernel_rfl) ?_);refine JL (K4 (a:=()) (by first|rfl|kernel_rfl) ?_)
 try dsimp only
 refine JL (LV ht.typeIs oy ?_)
 try dsimp only
 have slot:wpAny (model prog w) A.in1 (do
   if<-isInstance (.ref t) (.type "dict")then return false
   match<-specialOf (.ref t) "__getitem__" with
   | none=>return false
   | some (.builtin id) =>
    if["tuple.__getitem__","str.__getitem__","bytes.__getitem__","bytearray.__getitem__","memoryview.__getitem__","numpy.ndarray.__getitem__","sqlite3.Row.__getitem__"].contains id then return true
    if id=="sqlite3.Blob.__getitem__" then return false
    unsupported "reversed.__new__:is-it-a-sequence"
   | some _=>return true) (fun b s1=>b=true/\s1=s) E s:=by
  refine JL (Ln (b:=false) ht.typeIs F.sub_tuple_dict ?_);rw[JR JT];refine JL (LV ht.typeIs PyProof.Rows.slot_tuple_getitem.lookup ?_);dsimp only;rw[JS (by decide)];exact JQ ⟨rfl,rfl⟩
 refine JL (Ke slot (fun b s1 hb=> ?_) fun _ _ x=>x);obtain⟨rfl,rfl⟩:=hb;rw[JR (show¬((!true)=true)from JT)];refine JL (len_tuple ht (by rw[KC]at hz;omega) ?_);refine JL (K4 (a:=some (its.size:Int)) rfl ?_)
 try dsimp only
 refine JL (m:=Builtin.SmallTypes.newRecord _ _) ?_;show wpAny _ _ (newObj (.type "reversed") (.fields #[.ref t,rawInt ((its.size:Int)-1)])) _ _ _;refine KM (JQ ?_);exact h _
theorem CK{t:Addr}{its:Array Value}{Q:Value->Shared->Prop}(ht:IsTup s.heap t its)(hz:its.size<=sizeLine)(h:∀tk,Q (.ref s.heap.objs.size) {s with heap:=s.heap.push (rvO t ((its.size:Int)-1)),toks:=tk}) :
  wpAny (model prog w) A (call (.type "reversed") [.ref t]) Q E s:=by
 refine callType_codes (Q₁:=fun ob s₁=>s₁.TypeIs ob "reversed"/\Q ob s₁) iF (F.typeCall_reversed_1 _) F.entry_object_init (Ea ht hz fun tk=>⟨⟨_,Jd _ rfl,rfl⟩,h tk⟩) fun ob s₁ h₁=> ?_;exact⟨h₁.1,F.args_object_init_2 ob _,object_init_meets iF.init.lookup iF.made (by decide) prog w A.in1 _ s₁ ⟨h₁.1,rfl,h₁.2⟩⟩
theorem vM(hh:A.handled=none){I t:Addr}{its:Array Value}{Q:Option Value->Shared->Prop}(st:gr I t ((its.size:Int)-1-(its.size:Nat)) s.heap/\IsTup s.heap t its)
  (hQ:∀h',(∀b o,b≠I->s.heap.get? b=some o->h'.get? b=some o)->(∃o,h'.get? I=some o)->Q none {s with heap:=h'}):wpAny (model prog w) A (pyNext (.ref I)) Q E s:=by
 obtain⟨it,ht⟩:=st;obtain⟨o,ho,hc,hd⟩:=id it;unfold pyNext;refine JL (Lq (KR (name:=Str.ofString "__next__") it.typeIs bJ (J1 bJ it.typeIs fO ?_ (gl _))));unfold Builtin.«reversed.__next__»;refine JL (K4 (a:=(Value.ref I,[])) rfl ?_)
 try dsimp only
 refine JL (Ll ho hd (x:=.ref t) rfl ?_);refine JL (Ll ho hd (x:=rawInt ((its.size:Int)-1-(its.size:Nat))) rfl ?_);show wpAny _ _ (if((its.size:Int)-1-(its.size:Nat))<0 then _ else _) _ _ s;rw[JS (by omega)];refine JL (wpAny_rule ?_);have e1:=J6 (Obj.mapFields (·.setIfInBounds 1 (rawInt (-1)))) ho (Kn (KJ hd _));have d1:=KJ hd (·.setIfInBounds 1 (rawInt (-1)));refine JL (m:=(do setField (.ref I) 1 (rawInt (-1));setField (.ref I) 0 .none)) (JL (Kt ho hd (by simp) (Kt e1 d1 (by simp) ?_)));unfold Builtin.SmallTypes.stopIteration;refine JL (JL ?_);simp only[newExc,newTuple];refine JL (KM ?_ (by size_fits));refine JL (m:=firstArgMember _ _) (K4 (a:=Value.none) (by first|rfl|(simp only[firstArgMember];rfl)) ?_);refine KM ?_ (by size_fits);simp only[raiseNew];refine JL (wpAny_handled ?_);rw[show A.in1.handled=none from hh];refine JL (JQ (wpAny_throw ?_));refine JL (Ln (T:="StopIteration") (b:=true) ⟨_,Jd _ rfl,rfl⟩ isSubtype_stop ?_);refine JQ (hQ _ (fun b ob hb e=> ?_) ⟨_,JN _ (JN _ (J6 _ e1 (Kn (KJ d1 _))))⟩);refine JN _ (JN _ ?_);rw[Jx _ _ (Kc hb),Jx _ _ (Kc hb)];exact e
theorem Ac(hh:A.handled=none){I t:Addr}{its:Array Value}(hne:t≠I)(hz:its.size<=sizeLine) :
  Walks prog w A I [I,t] [I] its.size (fun i v=>its[its.size-1-i]? =some v) (fun i h=>gr I t ((its.size:Int)-1-(i:Nat)) h/\IsTup h t its) where
 sub:=fun b hb=>by simp at hb;simp[hb]
 frame:=fun _ _ _ st hk=>⟨st.1.keep fun o e=>hk I (by simp) o e,by
  obtain⟨o,ho,r⟩:=st.2;exact⟨o,hk t (by simp) o ho,r⟩⟩
 item:=fun i s Q E hi st hQ=>by
  obtain⟨it,ht⟩:=st;obtain⟨o,ho,hc,hd⟩:=id it;have hz' :its.size<=16777216:=by rw[KC]at hz;omega
  have hx:its[its.size-1-i]? =some its[its.size-1-i]:=Lh (by omega);unfold pyNext;refine JL (Lq (KR (name:=Str.ofString "__next__") it.typeIs bJ (J1 bJ it.typeIs fO ?_ (gl _))));unfold Builtin.«reversed.__next__»;refine JL (K4 (a:=(Value.ref I,[])) rfl ?_)
  try dsimp only
  refine JL (Ll ho hd (x:=.ref t) rfl ?_);refine JL (Ll ho hd (x:=rawInt ((its.size:Int)-1-(i:Nat))) rfl ?_);show wpAny _ _ (if((its.size:Int)-1-(i:Nat))<0 then _ else _) _ _ s;rw[JR (by omega)];refine JL (LV ht.typeIs PyProof.Rows.slot_tuple_getitem.lookup ?_);rw[JR (by simp)];refine JL (wpAny_mkInt ?_);have ht' :IsTup ({s with toks:=s.toks+1}:Shared).heap t its:=ht;refine JL (Lq (getItem_tuple (j:=its.size-1-i) ht' (by omega) (by omega) ?_ hx ?_))
  ·have e:((its.size:Int)-1-(i:Nat))=((its.size-1-i:Nat):Int):=by omega
   rw[e];unfold seqIndex?;simp;omega
  ·try dsimp only
   refine JL (Ll ho hd (x:=rawInt ((its.size:Int)-1-(i:Nat))) rfl ?_);refine JL (Kt ho hd (by simp) (JQ ⟨_,rfl,JQ ?_⟩));refine hQ _ _ (s.toks+1) hx ⟨⟨_,J6 _ ho (Kn (KJ hd _)),(L7 ..).trans hc,?_⟩,?_⟩ fun b ob hb e=> ?_
   ·rw[KJ hd]
    simp[rawInt];omega
   ·obtain⟨o2,ho2,r⟩:=ht
    exact⟨o2,by rw[Jx _ _ (Kc hne)];exact ho2,r⟩
   ·rw[Jx _ _ (fun z=>hb (by simp[z]))]
    exact e
 done:=fun s Q E st hQ=>vM hh st fun h' k _=>hQ h' s.toks fun b ob hb e=>k b ob (fun z=>hb (by simp[z])) e
 self:=fun i s Q E st hQ=>by
  refine Le st.1.typeIs cE (J1 cE st.1.typeIs fP ?_ (gm _));exact JQ ⟨_,rfl,"reversed",_,st.1.typeIs,bJ.lookup,hQ⟩
end
end SR
namespace L2
open PySem PySem.Spec PyProof.Rows
section
variable{X:Cx}
end
end L2
set_option maxHeartbeats 4000000
namespace L2
open PySem PySem.Spec PyProof.Rows
section
variable{X:Cx}
noncomputable def JD(K:W.Frag)(a:Addr)(n:Nat):It :=
 ⟨fun i H=>i<n/\∃xs,bX K H a xs/\xs.length=n,fun i H x H' =>H' =H/\∀xs,bX K H a xs->xs.length=n->xs[n-1-i]? =some x,fun i H=>i=n/\∃xs,bX K H a xs/\xs.length=n⟩
theorem xg{h:Heap}{a it:Addr}{j:Int}{its:Array Value}(st:SR.gr it a j h)(tp:IsTup h a its):a≠it:=by
 rintro rfl;obtain⟨o,e,c,_⟩:=st;obtain⟨o',e',c',_⟩:=tp;rw[e]at e';cases e';rw[c]at c';exact absurd c' (by decide)
theorem ou{P:Program}{w:World}{K:W.Frag}{tg:Expr}(a it:Addr)(n:Nat):lZ P w K tg (JD K a n) [it] it (fun i h=>SR.gr it a ((n:Int)-1-(i:Nat)) h) where
 mem:=by simp
 obj:=fun i h st b hb=>by
  have e:b=it:=by simpa using hb
  subst e;obtain⟨o,e,c,d⟩:=st;exact⟨o,e,fun v z=>by rw[d]at z;cases z⟩
 keep:=fun i h h' st k=>st.keep fun o e=>k it (by simp) o e
 item:=by
  intro X hP hw hK hc i pins s σ H E I hf st hg;subst hP hw hK;obtain⟨hi,xs,hq,hn⟩:=hg;obtain⟨its,rv,tp,hz⟩:=I.tuple hq;have hlen:=rv.length;have hsz:its.toArray.size=n:=by rw[Jb,<-hlen];exact hn
  have hx:xs[n-1-i]? =some (xs[n-1-i]'(by omega)):=Ja (by omega);obtain⟨u,hu,ru⟩:=rv.get hx;obtain⟨f0,f1,f2,f3,f4,f5⟩:=hf it (by simp);have hne:=xg st tp;have st2:SR.gr it a ((its.toArray.size:Int)-1-(i:Nat)) s.heap:=by rw[hsz];exact st
  refine(SR.Ac (I.ok.hd hc) hne (by rw[hsz,<-hn];exact hz)).item i s _ _ (by rw[hsz];exact hi) ⟨st2,tp⟩ fun v h' tk hv st' sb=> ?_;have ev:v=u:=by
   rw[hsz]at hv;have:its.toArray[n-1-i]? =some u:=by simpa using hu
   rw[this]at hv;exact(Jl hv).symm
  subst ev;have I1:Inv X pins σ H {s with heap:=h',toks:=tk}:=I.turned (t' :=tk) (fun b o hb e=>sb b o (by simpa using hb) e) f0 f1 f3 f4 f5;have st3:SR.gr it a ((n:Int)-1-((i+1:Nat):Int)) h' :=by
   have:=st'.1;rw[hsz]at this;exact this
  obtain⟨o,e,c,d⟩:=id st3;exact⟨v,rfl,mN (s:={s with heap:=h',toks:=tk}) e c d (by decide) ⟨_,H,I1,ru,⟨rfl,fun ys hy _=>by rw[I.tuple_inj hy hq];exact hx⟩,st3,fun b hb=>(hf b hb).1⟩⟩
 done:=by
  intro X hP hw hK hc i pins s σ H E I hf st hg;subst hP hw hK;obtain⟨rfl,xs,hq,hn⟩:=hg;obtain⟨its,rv,tp,hz⟩:=I.tuple hq;have hlen:=rv.length;have hsz:its.toArray.size=i:=by rw[Jb,<-hlen];exact hn
  obtain⟨f0,f1,f2,f3,f4,f5⟩:=hf it (by simp);have st2:SR.gr it a ((its.toArray.size:Int)-1-(its.toArray.size:Nat)) s.heap:=by rw[hsz];exact st
  exact SR.vM (I.ok.hd hc) ⟨st2,tp⟩ fun h' k _=>⟨rfl,I.turned (t' :=s.toks) (fun b o hb e=>k b o hb e) f0 f1 f3 f4 f5⟩
 self:=fun A i s Q E st hQ=>by
  refine Le st.typeIs SR.cE (J1 SR.cE st.typeIs SR.fP ?_ (SR.gm _));exact JQ ⟨_,rfl,"reversed",_,st.typeIs,SR.bJ.lookup,hQ⟩
noncomputable def iRvT(K:W.Frag)(ta:TA):TI:=fun σ H R=>ta σ H fun vs H1=>∃a xs,vs=[.ref a]/\bX K H1 a xs/\R (JD K a xs.length) H1
theorem ED{tg:Expr}{a:Expr}{ta:TA}{p pos:Pos}(hg:Gl X "reversed")(hm:X.mg "reversed"=none)(ha:PA X [a] ta)(hs:starEach [a] X.env=[(false,eval a X.env)]:=by rfl) :
  PI X tg (.Call (.Name "reversed" p) [a] [] pos) (iRvT X.K ta):=by
 intro pins s σ H R I h;refine Call_ (cT I hg hm boot_reversed (KD (al (ha pos pins s σ H _ I h) fun us s1 ⟨vs,H1,I1,r1,q1⟩=> ?_) hs rfl));obtain⟨l,xs,e,sa,q⟩:=q1;subst e;obtain⟨u,rfl,ru⟩:=vals1 r1;cases ru;obtain⟨its,r,tp,hz⟩:=I1.tuple sa;have hl:=r.length;refine SR.CK tp (by rw[Jb,<-hl];exact hz) fun tk=> ?_;have e:(((its.toArray.size:Nat):Int)-1)=(xs.length:Int)-1:=by rw[Jb,hl]
 rw[e];have jK:SR.gr s1.heap.objs.size l ((xs.length:Int)-1) (s1.heap.push (SR.rvO l ((xs.length:Int)-1))):=⟨_,Jd _ rfl,rfl,rfl⟩;refine(ou (P:=X.prog) (w:=X.w) (K:=X.K) (tg:=tg) l s1.heap.objs.size xs.length).self _ 0 _ _ _ (by rw[show(xs.length:Int)-1-((0:Nat):Int)=(xs.length:Int)-1 by omega];exact jK) ?_;have I2:Inv X pins σ H1 {s1 with heap:=s1.heap.push (SR.rvO l ((xs.length:Int)-1)),toks:=tk}:=I1.kept (t' :=tk) fun b o e=>JN _ e;refine⟨s1.heap.objs.size,[s1.heap.objs.size],_,_,H1,rfl,I2,ou l _ xs.length,?_,fun b hb=> ?_,q⟩
 ·show SR.gr s1.heap.objs.size l ((xs.length:Int)-1-((0:Nat):Int)) _
  rw[show(xs.length:Int)-1-((0:Nat):Int)=(xs.length:Int)-1 by omega];exact jK
 ·have e:b=s1.heap.objs.size:=by simpa using hb
  subst e;exact I1.fpOk (JV _) (I1.hok.fresh (JV _))
end
end L2
namespace L2
open PySem PySem.Spec PyProof.Rows PySem.W
section
variable{X:Cx}
end
end L2
set_option genInjectivity false
namespace IR
open PySem
noncomputable abbrev ae:=L2.ae
inductive PV where
 | non|bl (b:Bool)|int (i:Int)|str (z:Str)|lst (xs:List PV)|tup (xs:List PV)|dK (ks:List ae) (vs:List PV)|dT (ks:List (List ae)) (vs:List PV)
instance:Inhabited PV:=⟨.non⟩
mutual
noncomputable def imm:PV->Bool
 | .non=>true| .bl _=>true| .int _=>true| .str _=>true
 | .lst _=>false
 | .tup xs=>imms xs
 | .dK _ _=>false| .dT _ _=>false
noncomputable def imms:List PV->Bool
 | []=>true
 | x::xs=>imm x&&imms xs
end
inductive Bf where
 | len|int|str|list|tuple|sorted|min|max|sum|abs|all|any|lrange|lrange2|isin (t:String)|sumv|sset|lset|trev|lvals
mutual
inductive IE where
 | con (v:PV)|var (i:Nat)|bin (op:Operator) (a b:IE)|neg (a:IE)|cmp (op:CmpOp) (a b:IE)|chn (o1 o2:CmpOp) (a b c:IE)
 | and (a b:IE)|or (a b:IE)|not (a:IE)|ite (c:IC) (a b:IE)
 | call (f:Nat) (es:Co)|bf (f:Bf) (es:Co)
 | lst (es:Co)|tup (es:Co)|dnew|dlit (k:ae) (e:IE)|ix (a i:IE)
 | lc (elt:IE) (src:IT) (ifs:ICo) (caps:List Nat)|lci (a:IE) (i:Nat)|never
inductive Co where
 | nil|cons (e:IE) (es:Co)
inductive IO where
 | no|yes (e:IE)
inductive IC where
 | val (e:IE)|not (c:IC)|and (c d:IC)|or (c d:IC)
inductive ICo where
 | no|yes (c:IC)
inductive IT where
 | seq (e:IE)|rng (es:Co)|zip (a b:IE)|enum (a:IE)|rvd (a:IE)|never
end
mutual
inductive IS where
 | asg (i:Nat) (o:Bool) (cap:List Nat) (e:IE)|ret (cap:List Nat) (e:IE)|retN|ife (c:IC) (a b:wy)
 | forr (is:List Nat) (one:Bool) (cap:List Nat) (src:IT) (body:wy)|whil (c:IC) (body:wy)|pass|brk|cont
 | app (i:Nat) (cap:List Nat) (e:IE)|drop (e:IE)|aug (i:Nat) (op:Operator) (e:IE)|hand (m:Nat) (g:List PV->Option PV)|rais (x:Str)|never
inductive wy where
 | nil|cons (s:IS) (ss:wy)
end
inductive Bd where
 | lst|dK (ks:List ae)|dT (ks:List (List ae))
noncomputable def Bd.pv:Bd->List PV->PV
 | .lst,xs=>.lst xs
 | .dK ks,xs=>.dK ks xs
 | .dT ks,xs=>.dT ks xs
section
variable{κ α:Type}[DecidableEq κ]
noncomputable def HH:List κ->List α->κ->α->List α
 | k' ::ks,x::xs,k,y=>(if k' =k then y else x)::HH ks xs k y
 | _,xs,_,_=>xs
noncomputable def putL(ks:List κ)(xs:List α)(k:κ)(y:α):List α:=if k∈ks then HH ks xs k y else xs++[y]
noncomputable def HP(ks:List κ)(k:κ):List κ:=if k∈ks then ks else ks++[k]
end
noncomputable def yq:PV->Option ae
 | .int i=>some (.inl i)
 | .str z=>some (.inr z)
 | _=>none
noncomputable def yn:List PV->Option (List ae)
 | []=>some []
 | x::xs=>(yq x).bind fun k=>(yn xs).map (k::·)
inductive TV where
 | un|frz (v:PV) (n:Bool)|own (xs:List PV) (n:Bool)|owd (b:Bd) (xs:List PV) (n:Bool)
noncomputable def TV.ob:TV->Option (Bd×List PV×Bool)
 | .own xs n=>some (.lst,xs,n)
 | .owd b xs n=>some (b,xs,n)
 | _=>none
noncomputable abbrev En:=List TV
noncomputable def TV.valD:TV->PV
 | .frz v _=>v
 | _=>.non
inductive RV where
 | frz (v:PV) (n:Bool)|bor (v:PV)|own (xs:List PV) (n:Bool)|owd (b:Bd) (xs:List PV) (n:Bool)
noncomputable def RV.val:RV->PV
 | .frz v _=>v
 | .bor v=>v
 | .own xs _=>.lst xs
 | .owd b xs _=>b.pv xs
noncomputable abbrev sc(v:PV):RV:=.frz v true
noncomputable def RV.keep:RV->Option (PV×Bool)
 | .frz v n=>some (v,n)
 | .bor v=>if imm v then some (v,true)else none
 | .own xs n=>some (.lst xs,n)
 | .owd b xs n=>some (b.pv xs,n)
noncomputable def ur(v:PV):RV:=if imm v then .frz v true else .bor v
noncomputable def RV.its:RV->Option (List PV×Bool)
 | .frz (.lst xs) n=>some (xs,n)
 | .frz (.tup xs) n=>some (xs,n)
 | .own xs n=>some (xs,n)
 | .bor (.lst xs)=>if imms xs then some (xs,true)else none
 | .bor (.tup xs)=>if imms xs then some (xs,true)else none
 | _=>none
noncomputable abbrev LN:Nat:=16777216
open L2 (rN cX)
noncomputable def signs(z:Str):List PV:=z.cps.toList.map fun c=>.str ⟨#[c]⟩
noncomputable def pj(xs:List PV)(n:Bool):Option RV:=if xs.length<=LN then some (.own xs n)else none
noncomputable def pi(xs:List PV)(n:Bool):Option RV:=if xs.length<=LN then some (.frz (.tup xs) n)else none
noncomputable def tY(a b:RV):Option RV :=
 match a.val,b.val with
 | .int i,.int j=>some (sc (.int (i+j)))
 | .str x,.str y=>if x.length+y.length<=LN then some (sc (.str (x++y)))else none
 | .lst _,.lst _=>match a.its,b.its with
  | some (xs,n),some (ys,m)=>pj (xs++ys) (n&&m)
  | _,_=>none
 | .tup _,.tup _=>match a.its,b.its with
  | some (xs,n),some (ys,m)=>pi (xs++ys) (n&&m)
  | _,_=>none
 | _,_=>none
noncomputable def tW(a b:RV):Option RV :=
 match a.val,b.val with
 | .int i,.int j=>some (sc (.int (i-j)))
 | _,_=>none
noncomputable def oB(a b:RV):Option RV :=
 match a.val,b.val with
 | .int i,.int j=>if(-(2^64)<i/\i<2^64)\/(-(2^64)<j/\j<2^64)then some (sc (.int (i*j)))else if i.natAbs<2^2000/\j.natAbs<2^2000 then some (sc (.int (i*j)))else none
 | _,_=>none
noncomputable def eg(a b:RV):Option RV :=
 match a.val,b.val with
 | .int i,.int j=>if 0<j/\j<2^200 then some (sc (.int (i/j)))else none
 | _,_=>none
noncomputable def tX(a b:RV):Option RV :=
 match a.val,b.val with
 | .int i,.int j=>if 0<j then some (sc (.int (i%j)))else none
 | _,_=>none
noncomputable def iK(a b:RV):Option RV :=
 match a.val,b.val with
 | .int i,.int j=>if 0<=j/\j<=1000000/\i.natAbs<2^64 then some (sc (.int (i*2^j.toNat)))else none
 | _,_=>none
noncomputable def iL(a b:RV):Option RV :=
 match a.val,b.val with
 | .int i,.int j=>some (sc (.int (Builtin.bitAnd i j)))
 | _,_=>none
noncomputable def dO(op:Operator)(a b:RV):Option RV:=match op with
 | .Add=>tY a b
 | .Sub=>tW a b
 | .Mult=>oB a b
 | .FloorDiv=>eg a b
 | .Mod=>tX a b
 | .LShift=>iK a b
 | .BitAnd=>iL a b
 | _=>none
noncomputable def qY:PV->Bool
 | .non=>true| .bl _=>true| .int _=>true| .str _=>true|_=>false
noncomputable def eqs:PV->PV->Option Bool
 | .int i,.int j=>some (decide (i=j))
 | .str i,.str j=>some (decide (i=j))
 | .bl i,.bl j=>some (decide (i=j))
 | .non,.non=>some true
 | .non,.int _=>some false| .non,.bl _=>some false| .non,.str _=>some false| .int _,.non=>some false| .bl _,.non=>some false| .str _,.non=>some false
 | .int _,.str _=>some false| .str _,.int _=>some false| .bl _,.str _=>some false| .str _,.bl _=>some false
 | _,_=>none
noncomputable def Bz:PV->PV->Bool
 | .int i,.int j=>decide (i=j)
 | .str i,.str j=>decide (i=j)
 | .bl i,.bl j=>decide (i=j)
 | .bl b,.int j=>decide ((if b then 1 else 0:Int)=j)
 | .int j,.bl b=>decide (j=(if b then 1 else 0:Int))
 | .non,.non=>true
 | _,_=>false
mutual
noncomputable def lT:PV->PyData
 | .non=>.none
 | .bl b=>.bool b
 | .int i=>.int i
 | .str z=>.str z
 | .lst xs=>.list (dM xs)
 | .tup xs=>.tuple (dM xs)
 | .dK _ _=>.dict []
 | .dT _ _=>.dict []
noncomputable def dM:List PV->List PyData
 | []=>[]
 | x::xs=>lT x::dM xs
end
mutual
noncomputable def lG:PV->PV->Bool
 | .lst xs,.lst ys=>iB xs ys
 | .tup xs,.tup ys=>iB xs ys
 | a,b=>Bz a b
noncomputable def iB:List PV->List PV->Bool
 | [],[]=>true
 | x::xs,y::ys=>lG x y&&iB xs ys
 | [],_::_=>false
 | _::_,[]=>false
end
noncomputable def cq:Nat->PV->Bool
 | _,.non=>true
 | _,.bl _=>true
 | _,.int _=>true
 | _,.str z=>PyData.strOk z
 | 0,.lst _=>false
 | 0,.tup _=>false
 | n+1,.lst xs=>xs.all (cq n)
 | n+1,.tup xs=>xs.all (cq n)
 | _,.dK _ _=>false
 | _,.dT _ _=>false
noncomputable def DC(x y:PV):Option Bool:=match eqs x y with
 | some b=>some b
 | none=>if cq 12 x&&cq 12 y then some (lG x y)else none
noncomputable def GL(x:PV)(ys:List PV):Option Bool :=
 if qY x/\ys.all qY then some (ys.any fun y=>Bz y x)else if cq 12 x&&ys.all (cq 12)then some (ys.any fun y=>lG y x)else none
mutual
noncomputable def Ee:PV->PV->Option Bool
 | .int i,.int j=>some (decide (i<j))
 | .tup xs,.tup ys=>wG xs ys
 | _,_=>none
noncomputable def wG:List PV->List PV->Option Bool
 | [],ys=>some !ys.isEmpty
 | _::_,[]=>some false
 | x::xs,y::ys=>if lG x y then wG xs ys else Ee x y
end
noncomputable def C8(x y:PV):Option Bool:=if cq 12 x&&cq 12 y then Ee x y else none
noncomputable def zg(a b:PV):Option Bool :=
 match a,b with
 | .int i,.int j=>some (decide (i<j))
 | .tup xs,.tup ys=>C8 (.tup xs) (.tup ys)
 | _,_=>none
noncomputable def tN(a b:PV):Option Bool :=
 match a,b with
 | .int i,.int j=>some (decide (i<=j))
 | _,_=>none
noncomputable def zi(a b:PV):Option Bool :=
 match a,b with
 | .int i,.int j=>some (decide (j<i))
 | _,_=>none
noncomputable def tO(a b:PV):Option Bool :=
 match a,b with
 | .int i,.int j=>some (decide (j<=i))
 | _,_=>none
noncomputable def zh(a b:PV):Option Bool :=
 match a,b with
 | .non,.non=>some true
 | x,.non=>some false
 | _,_=>none
noncomputable def kh(a b:PV):Option Bool :=
 match a,b with
 | x,.tup ys=>(GL x ys).map (!·)
 | _,_=>none
noncomputable def ah(op:CmpOp)(a b:PV):Option Bool:=match op with
 | .Lt=>zg a b
 | .LtE=>tN a b
 | .Gt=>zi a b
 | .GtE=>tO a b
 | .Eq=>DC a b
 | .NotEq=>(DC a b).map (!·)
 | .Is=>zh a b
 | .NotIn=>kh a b
 | _=>none
noncomputable def oz:PV->Option Bool
 | .non=>some false
 | .bl b=>some b
 | .int i=>some (i !=0)
 | .str z=>if z.length<=LN then some ((z.length:Int) !=0)else none
 | .lst xs=>some !xs.isEmpty
 | .tup xs=>some !xs.isEmpty
 | .dK ks _=>some !ks.isEmpty
 | .dT _ _=>none
noncomputable def eR:PV->Option Nat
 | .str z=>if z.length<=LN then some z.length else none
 | .lst xs=>some xs.length
 | .tup xs=>some xs.length
 | .dK ks _=>some ks.length
 | _=>none
noncomputable def bT(t:String):PV->Option Bool
 | .non=>if t="int"\/t="str"\/t="list"\/t="tuple"\/t="bool" then some false else none
 | .bl _=>if t="int"\/t="bool" then some true else if t="str"\/t="list"\/t="tuple" then some false else none
 | .int _=>if t="int" then some true else if t="bool"\/t="str"\/t="list"\/t="tuple" then some false else none
 | .str _=>if t="str" then some true else if t="bool"\/t="int"\/t="list"\/t="tuple" then some false else none
 | .lst _=>if t="list" then some true else if t="bool"\/t="int"\/t="str"\/t="tuple" then some false else none
 | .tup _=>if t="tuple" then some true else if t="bool"\/t="int"\/t="str"\/t="list" then some false else none
 | .dK _ _=>if t="bool"\/t="int"\/t="str"\/t="list"\/t="tuple" then some false else none
 | .dT _ _=>none
noncomputable def gi:List PV->Option (List Bool)
 | []=>some []
 | .bl b::r=>(gi r).map (b::·)
 | _::_=>none
noncomputable def ir:List PV->Option (List Str)
 | []=>some []
 | .str z::r=>(ir r).map (z::·)
 | _::_=>none
noncomputable def aY:List PV->Option (List Int)
 | []=>some []
 | .int i::r=>(aY r).map (i::·)
 | _::_=>none
noncomputable def lrng(n:Nat):List PV:=(List.range n).map fun i=>.int (i:Nat)
noncomputable def gO:PV->Option (Int×Int)
 | .tup xs=>(aY xs).bind fun ns=>match ns with
  | [a,b]=>some (a,b)
  | _=>none
 | _=>none
noncomputable def gN:List PV->Option (List (Int×Int))
 | []=>some []
 | x::r=>(gO x).bind fun q=>(gN r).map (q::·)
noncomputable def aM(q:Int×Int):PV:=.tup [.int q.1,.int q.2]
noncomputable def cz(ps:List (Int×Int)):List (Int×Int):=ps.mergeSort fun a b=>decide (SW.ck a<=SW.ck b)
noncomputable def o9(xs:List PV):Option RV:=(gN xs).bind fun ps=>if ps.length<64/\ps.all (fun q=>decide (0<=q.2)&&decide (q.2<1000))=true then some (.own ((cz ps).map aM) true)else none
noncomputable def ll(xs:List PV):Option RV:=match aY xs with
 | some ns=>if ns.length<64 then some (.own ((L2.sortI ns).map PV.int) true)else none
 | none=>o9 xs
noncomputable def eF:PV->Option (List Int)
 | .lst xs=>(aY xs).bind fun ns=>if ns.all (fun n=>decide (0<=n)&&decide (n<8))=true then some ns else none
 | _=>none
noncomputable def revT(a:RV):Option RV:=match a.val with
 | .tup _=>(match a.its with
  | some (xs,n)=>if xs.isEmpty then none else some (.frz (.tup xs.reverse) n)
  | none=>none)
 | _=>none
noncomputable def strI:PV->Option RV
 | .int i=>if i.natAbs.log2<1920 then some (sc (.str (Str.ofString (toString i))))else none
 | _=>none
noncomputable def Hf:PV->Option RV
 | .dK ks vs=>if ks.length<=LN then(aY vs).map fun ns=>.own (ns.map PV.int) true else none
 | _=>none
noncomputable def kz(f:Bf)(as:List RV):Option RV :=
 match f,as with
 | .len,[a]=>(eR a.val).map fun n=>sc (.int (n:Nat))
 | .int,[a]=>match a.val with
  | .int i=>some (sc (.int i))
  | .bl b=>some (sc (.int (if b then 1 else 0)))
  | _=>none
 | .list,[a]=>match a.its with
  | some (xs,n)=>some (.own xs n)
  | none=>none
 | .tuple,[a]=>match a.its with
  | some (xs,n)=>some (.frz (.tup xs) n)
  | none=>none
 | .all,[a]=>match a.val with
  | .lst xs=>(gi xs).map fun bs=>sc (.bl (bs.all id))
  | _=>none
 | .sum,[a]=>match a.val with
  | .lst xs=>(aY xs).map fun ns=>sc (.int ns.sum)
  | _=>none
 | .sorted,[a]=>match a.val with
  | .lst xs=>ll xs
  | _=>none
 | .sumv,[a]=>match a.val with
  | .dK _ vs=>(aY vs).map fun ns=>sc (.int ns.sum)
  | _=>none
 | .sset,[a]=>(eF a.val).map fun ns=>.own ((L2.bj ns).map PV.int) true
 | .lset,[a]=>(eF a.val).map fun ns=>sc (.int ((L2.bj ns).length:Nat))
 | .trev,[a]=>revT a
 | .lvals,[a]=>Hf a.val
 | .str,[a]=>strI a.val
 | .isin t,[a]=>(bT t a.val).map fun b=>sc (.bl b)
 | .min,[a,b]=>match a.val,b.val with
  | .int i,.int j=>some (sc (.int (if j<i then j else i)))
  | _,_=>none
 | .max,[a,b]=>match a.val,b.val with
  | .int i,.int j=>some (sc (.int (if j>i then j else i)))
  | _,_=>none
 | .lrange,[a]=>match a.val with
  | .int i=>if 0<=i/\i<=1000 then some (.own (lrng i.toNat) true)else none
  | _=>none
 | .lrange2,[a,b]=>match a.val,b.val with
  | .int i,.int j=>if -1000<=i/\j<=1000/\i<=j then some (.own ((List.range (j-i).toNat).map fun k=>.int (i+(k:Nat))) true)else none
  | _,_=>none
 | _,_=>none
noncomputable def ixK(a:RV)(k:Int):Option RV :=
 match a with
 | .frz (.lst xs) n=>(cX xs k).map fun e=>.frz e (n||imm e)
 | .frz (.tup xs) n=>(cX xs k).map fun e=>.frz e (n||imm e)
 | .own xs n=>(cX xs k).map fun e=>.frz e (n||imm e)
 | .bor (.lst xs)=>(cX xs k).map ur
 | .bor (.tup xs)=>(cX xs k).map ur
 | .frz (.str z) _=>if z.length<=LN then(cX z.cps.toList k).map fun c=>sc (.str ⟨#[c]⟩)else none
 | _=>none
noncomputable def i8(a i:RV):Option RV:=match i.val with
 | .int k=>ixK a k
 | _=>none
noncomputable def cut{α:Type}(xs:List α)(lo hi:Option Int):List α:=(xs.drop (HT.Cz xs.length 0 lo)).take (HT.Cz xs.length xs.length hi-HT.Cz xs.length 0 lo)
noncomputable def eI(a:RV)(lo hi:Option Int):Option RV :=
 match a.val with
 | .str z=>if z.length<=LN then(match lo,hi with
  | none,some k=>if 0<=k then some (sc (.str ⟨(z.cps.toList.take k.toNat).toArray⟩))else none
  | some k,none=>if 0<=k then some (sc (.str ⟨(z.cps.toList.drop k.toNat).toArray⟩))else none
  | _,_=>none)else none
 | .lst _=>match a.its with
  | some (xs,n)=>some (.own (cut xs lo hi) (n||imms xs))
  | none=>none
 | .tup _=>match a.its with
  | some (xs,n)=>if HT.Cz xs.length 0 lo=0/\HT.Cz xs.length xs.length hi=xs.length then some (.frz (.tup xs) n)else some (.frz (.tup (cut xs lo hi)) n)
  | none=>none
 | _=>none
noncomputable def keeps:List RV->Option (List PV×Bool)
 | []=>some ([],true)
 | r::rs=>r.keep.bind fun(v,n)=>(keeps rs).map fun(vs,m)=>(v::vs,n&&m)
noncomputable def qO(τ:En)(i:Nat):Option RV :=
 match τ[i]? with
 | some (.frz v n)=>some (.frz v n)
 | some (.own xs _)=>some (.bor (.lst xs))
 | some (.owd b xs _)=>some (.bor (b.pv xs))
 | _=>none
noncomputable def Hk:Option RV->Option (Option Int)
 | none=>some none
 | some r=>match r.val with
  | .int i=>some (some i)
  | _=>none
noncomputable def b8(f:PV->Option (Option (PV×Bool))):List PV->Option (List PV×Bool)
 | []=>some ([],true)
 | x::xs=>(f x).bind fun r=>(b8 f xs).map fun(vs,m)=>match r with
  | none=>(vs,m)
  | some (v,n)=>(v::vs,n&&m)
noncomputable def nB:List RV->Option (List PV)
 | [a]=>match a.val with
  | .int j=>if -(2^62)<=j/\j<2^62 then some ((List.range j.toNat).map fun i=>.int (0+(i:Nat)))else none
  | _=>none
 | [a,b]=>match a.val,b.val with
  | .int i,.int j=>if -(2^62)<=i/\i<2^62/\ -(2^62)<=j/\j<2^62 then some ((List.range (j-i).toNat).map fun k=>.int (i+(k:Nat)))else none
  | _,_=>none
 | [a,b,c]=>match a.val,b.val,c.val with
  | .int i,.int j,.int k=>if k≠0/\k.natAbs<1073741824/\Builtin.Range.small i j k=true then some ((List.range (Builtin.Range.rangeSize i j k).toNat).map fun m=>.int (i+(m:Nat)*k))else none
  | _,_,_=>none
 | _=>none
noncomputable def Bo:PV->Option Int
 | .int i=>some i
 | _=>none
noncomputable def jA:PV->Option Bool
 | .bl b=>some b
 | _=>none
noncomputable def jn(x:RV):Option (List PV×Bool×Bool):=match x with
  | .frz (.str z) _=>some (signs z,true,false)
  | .bor (.lst xs)=>if imms xs then some (xs,true,true)else none
  | .bor (.tup xs)=>if imms xs then some (xs,true,true)else none
  | .bor _=>none
  | r=>r.its.map fun(xs,n)=>(xs,n,false)
noncomputable def uX(x y:PV):PV:=.tup [x,y]
noncomputable def gQ(i:Nat)(x:PV):PV:=.tup [.int (i:Nat),x]
noncomputable def yd:RV->Option (List PV×Bool)
 | .frz (.lst xs) n=>some (xs,n)
 | .own xs n=>some (xs,n)
 | _=>none
noncomputable def GK:RV->Option (List PV×Bool)
 | .frz (.tup xs) n=>some (xs,n)
 | _=>none
noncomputable def xE(x y:RV):Option (List PV×Bool) :=
 match yd x,yd y with
 | some (xs,n),some (ys,m)=>if xs.length=ys.length then some (List.zipWith uX xs ys,n&&m)else none
 | _,_=>none
noncomputable def qe(x:RV):Option (List PV×Bool) :=
 match x with
 | .frz (.str z) _=>some (List.zipWith gQ (List.range z.length) (signs z),true)
 | .frz (.tup xs) n=>some (List.zipWith gQ (List.range xs.length) xs,n)
 | x=>match yd x with
  | some (xs,n)=>some (List.zipWith gQ (List.range xs.length) xs,n)
  | none=>none
noncomputable def lI(t:Int):List ae->List PV->Option (List Int)
 | [],[]=>some []
 | .inl k::ks,.int v::vs=>(lI t ks vs).map fun r=>if Builtin.bitAnd k t=0 then v::r else r
 | _,_=>none
noncomputable def wJ(r:RV)(t:Option TV):Option RV:=match r,t with
 | .frz (.dK ks vs) _,some (.frz (.int t) _)=>if ks.length<=LN then(lI t ks vs).map fun ns=>.own (ns.map PV.int) true else none
 | _,_=>none
section
variable(cd:Nat->List PV->Option PV)
noncomputable def o0:PV->RV
 | .lst xs=>.own xs true
 | v=>.frz v true
mutual
noncomputable def ac:IE->En->Option RV
 | .con v,_=>some (sc v)
 | .var i,τ=>qO τ i
 | .bin op a b,τ=>(ac a τ).bind fun x=>(ac b τ).bind fun y=>dO op x y
 | .neg a,τ=>(ac a τ).bind fun x=>(Bo x.val).map fun i=>sc (.int (-i))
 | .cmp op a b,τ=>(ac a τ).bind fun x=>(ac b τ).bind fun y=>(ah op x.val y.val).map fun r=>sc (.bl r)
 | .chn o1 o2 a b c,τ=>(ac a τ).bind fun x=>(ac b τ).bind fun y=>(ah o1 x.val y.val).bind fun r=>if r then(ac c τ).bind fun z=>(ah o2 y.val z.val).map fun r=>sc (.bl r)else some (sc (.bl false))
 | .and a b,τ=>(ac a τ).bind fun x=>(jA x.val).bind fun t=>if t then ac b τ else some (sc (.bl false))
 | .or a b,τ=>(ac a τ).bind fun x=>(jA x.val).bind fun t=>if t then some (sc (.bl true))else ac b τ
 | .not a,τ=>(ac a τ).bind fun x=>(jA x.val).map fun b=>sc (.bl !b)
 | .ite c a b,τ=>(fE c τ).bind fun r=>if r then ac a τ else ac b τ
 | .call f es,τ=>(eT es τ).bind fun rs=>(cd f (rs.map RV.val)).map o0
 | .bf f es,τ=>(eT es τ).bind fun rs=>kz f rs
 | .lst es,τ=>(eT es τ).bind fun rs=>(keeps rs).bind fun(vs,n)=>pj vs n
 | .tup es,τ=>(eT es τ).bind fun rs=>(keeps rs).bind fun(vs,n)=>pi vs n
 | .dnew,_=>some (.owd (.dK []) [] true)
 | .dlit k e,τ=>(ac e τ).bind fun r=>r.keep.bind fun(v,_)=>if imm v then some (.owd (.dK [k]) [v] true)else none
 | .ix a i,τ=>(ac a τ).bind fun x=>(ac i τ).bind fun y=>i8 x y
 | .lc elt src ifs caps,τ=>(rO src τ).bind fun(xs,n,_)=>if xs.length<=LN then(b8 (fun x=>(su ifs (.frz x (n||imm x)::caps.map fun i=>τ.getD i .un)).bind fun b =>
   if b then(ac elt (.frz x (n||imm x)::caps.map fun i=>τ.getD i .un)).bind fun r=>r.keep.map some else some none) xs).map fun(vs,m)=>.own vs m else none
 | .lci a i,τ=>(ac a τ).bind fun x=>wJ x τ[i]?
 | .never,_=>none
noncomputable def eT:Co->En->Option (List RV)
 | .nil,_=>some []
 | .cons e es,τ=>(ac e τ).bind fun x=>(eT es τ).map (x::·)
noncomputable def evO:IO->En->Option (Option RV)
 | .no,_=>some none
 | .yes e,τ=>(ac e τ).map some
noncomputable def fE:IC->En->Option Bool
 | .val e,τ=>(ac e τ).bind fun x=>oz x.val
 | .not c,τ=>(fE c τ).map (!·)
 | .and c d,τ=>(fE c τ).bind fun r=>if r then fE d τ else some false
 | .or c d,τ=>(fE c τ).bind fun r=>if r then some true else fE d τ
noncomputable def su:ICo->En->Option Bool
 | .no,_=>some true
 | .yes c,τ=>fE c τ
noncomputable def rO:IT->En->Option (List PV×Bool×Bool)
 | .seq e,τ=>(ac e τ).bind jn
 | .rng es,τ=>(eT es τ).bind fun rs=>(nB rs).map fun xs=>(xs,true,false)
 | .zip a b,τ=>(ac a τ).bind fun x=>(ac b τ).bind fun y=>(xE x y).map fun(xs,n)=>(xs,n,false)
 | .enum a,τ=>(ac a τ).bind fun x=>(qe x).map fun(xs,n)=>(xs,n,false)
 | .rvd a,τ=>(ac a τ).bind fun x=>(GK x).map fun(xs,n)=>(xs.reverse,n,false)
 | .never,_=>none
end
inductive Fl where
 | nx (τ:En)|bk (τ:En)|ct (τ:En)|rt (v:PV)
noncomputable def gE(f:Fl)(k:En->Option Fl):Option Fl:=match f with
 | .nx τ=>k τ
 | .bk τ=>some (.bk τ)
 | .ct τ=>some (.ct τ)
 | .rt v=>some (.rt v)
noncomputable def nz(τ:En)(i:Nat):En :=
 match τ[i]? with
 | some (.own xs n)=>τ.set i (.frz (.lst xs) n)
 | some (.owd b xs n)=>τ.set i (.frz (b.pv xs) n)
 | _=>τ
noncomputable def bU(cap:List Nat)(τ:En):En:=cap.foldl nz τ
noncomputable def nH(o:Bool)(i:Nat)(r:RV)(τ:En):Option En :=
 match o,r with
 | true,.own xs n=>some (τ.set i (.own xs n))
 | true,.owd b xs n=>some (τ.set i (.owd b xs n))
 | _,r=>r.keep.map fun(v,n)=>τ.set i (.frz v n)
noncomputable def cg(n:Bool):List Nat->List PV->En->Option En
 | [],[],τ=>some τ
 | i::is,x::xs,τ=>cg n is xs (τ.set i (.frz x (n||imm x)))
 | _,_,_=>none
noncomputable def my(is:List Nat)(one n:Bool)(x:PV)(τ:En):Option En :=
 if one then cg n is [x] τ else match x with
  | .tup xs=>cg n is xs τ
  | _=>none
noncomputable def setU(is:List Nat)(n:Bool)(x:PV)(τ:En):Option En:=match x with
 | .tup xs=>cg n is xs τ
 | .lst xs=>cg n is xs τ
 | _=>none
noncomputable def kO(set:PV->En->Option En)(body:En->Option Fl):List PV->En->Option Fl
 | [],τ=>some (.nx τ)
 | x::xs,τ=>(set x τ).bind fun τ1=>(body τ1).bind fun f=>match f with
  | .nx τ2=>kO set body xs τ2
  | .ct τ2=>kO set body xs τ2
  | .bk τ2=>some (.nx τ2)
  | .rt v=>some (.rt v)
noncomputable def AL(c:En->Option Bool)(body:En->Option Fl):Nat->En->Option Fl
 | 0,_=>none
 | k+1,τ=>(c τ).bind fun b=>if b then(body τ).bind fun f=>(match f with
  | .nx τ2=>AL c body k τ2
  | .ct τ2=>AL c body k τ2
  | .bk τ2=>some (.nx τ2)
  | .rt v=>some (.rt v))else some (.nx τ)
variable(fu:Nat)
mutual
noncomputable def gA:IS->En->Option Fl
 | .asg i o cap e,τ=>let τ1:=bU cap τ;(ac cd e τ1).bind fun r=>(nH o i r τ1).map .nx
 | .ret cap e,τ=>let τ1:=bU cap τ;(ac cd e τ1).bind fun r=>r.keep.bind fun(v,n)=>if n then some (.rt v)else none
 | .retN,_=>some (.rt .non)
 | .ife c a b,τ=>(fE cd c τ).bind fun r=>if r then bV a τ else bV b τ
 | .forr is one cap src body,τ=>let τ1:=bU cap τ;(rO cd src τ1).bind fun(xs,n,b)=>if b then none else kO (my is one n) (fun τ=>bV body τ) xs τ1
 | .whil c body,τ=>AL (fun τ=>fE cd c τ) (fun τ=>bV body τ) fu τ
 | .pass,τ=>some (.nx τ)
 | .brk,τ=>some (.bk τ)
 | .cont,τ=>some (.ct τ)
 | .app i cap e,τ=>let τ1:=bU cap τ;(ac cd e τ1).bind fun r=>r.keep.bind fun(v,m)=>match τ1[i]? with
  | some (.own xs n)=>if xs.length<LN then some (.nx (τ1.set i (.own (xs++[v]) (n&&m))))else none
  | _=>none
 | .drop e,τ=>(ac cd e τ).map fun _=>.nx τ
 | .aug i op e,τ=>(ac cd e τ).bind fun r=>match τ[i]?,r.val,op with
  | some (.frz (.int x) _),.int y,.Add=>some (.nx (τ.set i (.frz (.int (x+y)) true)))
  | some (.frz (.int x) _),.int y,.Sub=>some (.nx (τ.set i (.frz (.int (x-y)) true)))
  | _,_,_=>none
 | .hand m g,τ=>(g ((τ.take m).map TV.valD)).map .rt
 | .rais _,_=>none
 | .never,_=>none
noncomputable def bV:wy->En->Option Fl
 | .nil,τ=>some (.nx τ)
 | .cons s ss,τ=>(gA s τ).bind fun f=>gE f (fun τ1=>bV ss τ1)
end
end
structure FD where
 nn:Nat
 np:Nat
 body:wy
noncomputable def entry(d:FD)(vs:List PV):En:=vs.map (fun v=>.frz v (imm v))++List.replicate (d.nn-vs.length) .un
noncomputable def eU:Option Fl->Option PV
 | some (.rt v)=>some v
 | some (.nx _)=>some .non
 | _=>none
noncomputable def aG(P:Nat->Option FD):Nat->Nat->List PV->Option PV
 | 0,_,_=>none
 | k+1,f,vs=>(P f).bind fun d=>if vs.length=d.np then eU (bV (aG P k) 1000000 d.body (entry d vs))else none
section
set_option autoImplicit true
set_option relaxedAutoImplicit true
variable{cd:Nat->List PV->Option PV}{fu:Nat}{τ:En}
theorem de:ac cd (.con v) τ=(some (sc v)):=rfl
theorem dP:ac cd (.var i) τ=(qO τ i):=rfl
theorem di:ac cd (.bin op a b) τ=((ac cd a τ).bind fun x=>(ac cd b τ).bind fun y=>dO op x y):=rfl
theorem dS:ac cd (.neg a) τ=((ac cd a τ).bind fun x=>(Bo x.val).map fun i=>sc (.int (-i))):=rfl
theorem df:ac cd (.cmp op a b) τ=((ac cd a τ).bind fun x=>(ac cd b τ).bind fun y=>(ah op x.val y.val).map fun r=>sc (.bl r)):=rfl
theorem dg:ac cd (.chn o1 o2 a b c) τ=((ac cd a τ).bind fun x=>(ac cd b τ).bind fun y=>(ah o1 x.val y.val).bind fun r=>if r then(ac cd c τ).bind fun z=>(ah o2 y.val z.val).map fun r=>sc (.bl r)else some (sc (.bl false))):=rfl
theorem dm:ac cd (.and a b) τ=((ac cd a τ).bind fun x=>(jA x.val).bind fun t=>if t then ac cd b τ else some (sc (.bl false))):=rfl
theorem d0:ac cd (.or a b) τ=((ac cd a τ).bind fun x=>(jA x.val).bind fun t=>if t then some (sc (.bl true))else ac cd b τ):=rfl
theorem dR:ac cd (.not a) τ=((ac cd a τ).bind fun x=>(jA x.val).map fun b=>sc (.bl !b)):=rfl
theorem dZ:ac cd (.ite c a b) τ=((fE cd c τ).bind fun r=>if r then ac cd a τ else ac cd b τ):=rfl
theorem dh:ac cd (.call f es) τ=((eT cd es τ).bind fun rs=>(cd f (rs.map RV.val)).map o0):=rfl
theorem dk:ac cd (.bf f es) τ=((eT cd es τ).bind fun rs=>kz f rs):=rfl
theorem dU:ac cd (.lst es) τ=((eT cd es τ).bind fun rs=>(keeps rs).bind fun(vs,n)=>pj vs n):=rfl
theorem dQ:ac cd (.tup es) τ=((eT cd es τ).bind fun rs=>(keeps rs).bind fun(vs,n)=>pi vs n):=rfl
theorem d7:ac cd (.dnew) τ=(some (.owd (.dK []) [] true)):=rfl
theorem dc:ac cd (.dlit k e) τ=((ac cd e τ).bind fun r=>r.keep.bind fun(v,_)=>if imm v then some (.owd (.dK [k]) [v] true)else none):=rfl
theorem dY:ac cd (.ix a i) τ=((ac cd a τ).bind fun x=>(ac cd i τ).bind fun y=>i8 x y):=rfl
theorem dX:ac cd (.lc elt src ifs caps) τ=((rO cd src τ).bind fun(xs,n,_)=>if xs.length<=LN then(b8 (fun x=>(su cd ifs (.frz x (n||imm x)::caps.map fun i=>τ.getD i .un)).bind fun b =>
   if b then(ac cd elt (.frz x (n||imm x)::caps.map fun i=>τ.getD i .un)).bind fun r=>r.keep.map some else some none) xs).map fun(vs,m)=>.own vs m else none):=rfl
theorem dW:ac cd (.lci a i) τ=((ac cd a τ).bind fun x=>wJ x τ[i]?):=rfl
theorem d6:ac cd (.never) τ=(none):=rfl
theorem DJ:eT cd (.nil) τ=(some []):=rfl
theorem DK:eT cd (.cons e es) τ=((ac cd e τ).bind fun x=>(eT cd es τ).map (x::·)):=rfl
theorem z0s:evO cd (.no) τ=(some none):=rfl
theorem z0t:evO cd (.yes e) τ=((ac cd e τ).map some):=rfl
theorem AH:fE cd (.val e) τ=((ac cd e τ).bind fun x=>oz x.val):=rfl
theorem AJ:fE cd (.not c) τ=((fE cd c τ).map (!·)):=rfl
theorem AK:fE cd (.and c d) τ=((fE cd c τ).bind fun r=>if r then fE cd d τ else some false):=rfl
theorem AI:fE cd (.or c d) τ=((fE cd c τ).bind fun r=>if r then some true else fE cd d τ):=rfl
theorem z0o:su cd (.no) τ=(some true):=rfl
theorem z0p:su cd (.yes c) τ=(fE cd c τ):=rfl
theorem AU:rO cd (.seq e) τ=((ac cd e τ).bind jn):=rfl
theorem AW:rO cd (.rng es) τ=((eT cd es τ).bind fun rs=>(nB rs).map fun xs=>(xs,true,false)):=rfl
theorem AT:rO cd (.zip a b) τ=((ac cd a τ).bind fun x=>(ac cd b τ).bind fun y=>(xE x y).map fun(xs,n)=>(xs,n,false)):=rfl
theorem AX:rO cd (.enum a) τ=((ac cd a τ).bind fun x=>(qe x).map fun(xs,n)=>(xs,n,false)):=rfl
theorem AV:rO cd (.rvd a) τ=((ac cd a τ).bind fun x=>(GK x).map fun(xs,n)=>(xs.reverse,n,false)):=rfl
theorem Cr:rO cd (.never) τ=(none):=rfl
theorem ik:gA cd fu (.asg i o cap e) τ=(let τ1:=bU cap τ;(ac cd e τ1).bind fun r=>(nH o i r τ1).map .nx):=rfl
theorem iV:gA cd fu (.ret cap e) τ=(let τ1:=bU cap τ;(ac cd e τ1).bind fun r=>r.keep.bind fun(v,n)=>if n then some (.rt v)else none):=rfl
theorem iU:gA cd fu (.retN) τ=(some (.rt .non)):=rfl
theorem iZ:gA cd fu (.ife c a b) τ=((fE cd c τ).bind fun r=>if r then bV cd fu a τ else bV cd fu b τ):=rfl
theorem ib:gA cd fu (.forr is one cap src body) τ=(let τ1:=bU cap τ;(rO cd src τ1).bind fun(xs,n,b)=>if b then none else kO (my is one n) (fun τ=>bV cd fu body τ) xs τ1):=rfl
theorem iT:gA cd fu (.whil c body) τ=(AL (fun τ=>fE cd c τ) (fun τ=>bV cd fu body τ) fu τ):=rfl
theorem iX:gA cd fu (.pass) τ=(some (.nx τ)):=rfl
theorem ii:gA cd fu (.brk) τ=(some (.bk τ)):=rfl
theorem ig:gA cd fu (.cont) τ=(some (.ct τ)):=rfl
theorem il:gA cd fu (.app i cap e) τ=(let τ1:=bU cap τ;(ac cd e τ1).bind fun r=>r.keep.bind fun(v,m)=>match τ1[i]? with
  | some (.own xs n)=>if xs.length<LN then some (.nx (τ1.set i (.own (xs++[v]) (n&&m))))else none
  | _=>none):=rfl
theorem ie:gA cd fu (.drop e) τ=((ac cd e τ).map fun _=>.nx τ):=rfl
theorem ij:gA cd fu (.aug i op e) τ=((ac cd e τ).bind fun r=>match τ[i]?,r.val,op with
  | some (.frz (.int x) _),.int y,.Add=>some (.nx (τ.set i (.frz (.int (x+y)) true)))
  | some (.frz (.int x) _),.int y,.Sub=>some (.nx (τ.set i (.frz (.int (x-y)) true)))
  | _,_,_=>none):=rfl
theorem ia:gA cd fu (.hand m g) τ=((g ((τ.take m).map TV.valD)).map .rt):=rfl
theorem iW:gA cd fu (.rais w1) τ=(none):=rfl
theorem iY:gA cd fu (.never) τ=(none):=rfl
theorem AY:bV cd fu (.nil) τ=(some (.nx τ)):=rfl
theorem AZ:bV cd fu (.cons s ss) τ=((gA cd fu s τ).bind fun f=>gE f (fun τ1=>bV cd fu ss τ1)):=rfl
end
end IR
namespace IR
open PySem PySem.Spec PyProof.Rows L2
noncomputable def del(H:Hp)(p:Addr):Hp:=fun b=>if b=p then none else H b
noncomputable def aW(H:Hp)(O:List Addr):Hp:=fun b=>if b∈O then none else H b
theorem eV{H H' :Hp}{p:Addr}(s:aD H H'):aD (del H p) (del H' p):=fun b o e=>by
 unfold del at e ⊢
 split at e
 ·cases e
 ·rename_i h
  rw[JR h];exact s b o e
theorem aP{H H' :Hp}{O:List Addr}(s:aD H H'):aD (aW H O) (aW H' O):=fun b o e=>by
 unfold aW at e ⊢
 split at e
 ·cases e
 ·rename_i h
  rw[JR h];exact s b o e
theorem bW{H:Hp}{p:Addr}:aD (del H p) H:=fun b o e=>by
 unfold del at e
 split at e
 ·cases e
 ·exact e
theorem aO{H:Hp}{O:List Addr}:aD (aW H O) H:=fun b o e=>by
 unfold aW at e
 split at e
 ·cases e
 ·exact e
theorem uz{H:Hp}{O O' :List Addr}(h:∀b∈O',b∈O):aD (aW H O) (aW H O'):=fun b o e=>by
 unfold aW at e ⊢
 split at e
 ·cases e
 ·rename_i n
  rw[JR fun z=>n (h b z)];exact e
theorem Bv{H:Hp}:aW H []=H:=by funext b;unfold aW;simp
section
variable(K:W.Frag)(Hi:Hp)
mutual
noncomputable def Rp(n:Bool):PV->Hp->V->Prop
 | .non,_,u=>u=.non
 | .bl b,_,u=>u=.bl b
 | .int i,_,u=>u=.int i
 | .str z,_,u=>u=.str z
 | .lst xs,H,u=>∃p us,u=.ref p/\(n=true->Hi p=none/\H p=some (.lst us))/\bG K H p us/\aH n xs (del H p) us
 | .tup xs,H,u=>∃p us,u=.ref p/\bX K H p us/\aH n xs H us
 | .dK ks vs,H,u=>∃p us,u=.ref p/\(n=true->Hi p=none)/\H p=some (.dK (ks.zip us))/\ks.length=us.length/\aH n vs (del H p) us
 | .dT ks vs,H,u=>∃p us,u=.ref p/\(n=true->Hi p=none)/\H p=some (.dT (ks.zip us))/\ks.length=us.length/\aH n vs (del H p) us
noncomputable def aH(n:Bool):List PV->Hp->List V->Prop
 | [],_,us=>us=[]
 | x::xs,H,us=>∃u r,us=u::r/\Rp n x H u/\aH n xs H r
end
end
section
variable{K:W.Frag}{Hi:Hp}
mutual
theorem Rp.mono{n:Bool}:∀{v:PV}{H H' :Hp}{u:V},aD H H' ->Rp K Hi n v H u->Rp K Hi n v H' u
 | .non,_,_,_,_,h=>by unfold Rp at h ⊢;exact h
 | .bl _,_,_,_,_,h=>by unfold Rp at h ⊢;exact h
 | .int _,_,_,_,_,h=>by unfold Rp at h ⊢;exact h
 | .str _,_,_,_,_,h=>by unfold Rp at h ⊢;exact h
 | .lst xs,_,_,_,s,h=>by
  unfold Rp at h ⊢;obtain⟨p,us,e,q,l,r⟩:=h;exact⟨p,us,e,fun z=>⟨(q z).1,s _ _ (q z).2⟩,s.seq l,aH.mono (eV s) r⟩
 | .tup xs,_,_,_,s,h=>by
  unfold Rp at h ⊢;obtain⟨p,us,e,l,r⟩:=h;exact⟨p,us,e,s.tup l,aH.mono s r⟩
 | .dK ks vs,_,_,_,s,h=>by
  unfold Rp at h ⊢;obtain⟨p,us,e,q,l,z,r⟩:=h;exact⟨p,us,e,q,s _ _ l,z,aH.mono (eV s) r⟩
 | .dT ks vs,_,_,_,s,h=>by
  unfold Rp at h ⊢;obtain⟨p,us,e,q,l,z,r⟩:=h;exact⟨p,us,e,q,s _ _ l,z,aH.mono (eV s) r⟩
theorem aH.mono{n:Bool}:∀{xs:List PV}{H H' :Hp}{us:List V},aD H H' ->aH K Hi n xs H us->aH K Hi n xs H' us
 | [],_,_,_,_,h=>by unfold aH at h ⊢;exact h
 | x::xs,_,_,_,s,h=>by
  unfold aH at h ⊢;obtain⟨u,r,e,a,b⟩:=h;exact⟨u,r,e,Rp.mono s a,aH.mono s b⟩
end
mutual
theorem Rp.weak{n:Bool}:∀{v:PV}{H:Hp}{u:V},Rp K Hi n v H u->Rp K Hi false v H u
 | .non,_,_,h=>by unfold Rp at h ⊢;exact h
 | .bl _,_,_,h=>by unfold Rp at h ⊢;exact h
 | .int _,_,_,h=>by unfold Rp at h ⊢;exact h
 | .str _,_,_,h=>by unfold Rp at h ⊢;exact h
 | .lst xs,_,_,h=>by
  unfold Rp at h ⊢;obtain⟨p,us,e,q,l,r⟩:=h;exact⟨p,us,e,(fun z=>absurd z JT),l,aH.weak r⟩
 | .tup xs,_,_,h=>by
  unfold Rp at h ⊢;obtain⟨p,us,e,l,r⟩:=h;exact⟨p,us,e,l,aH.weak r⟩
 | .dK ks vs,_,_,h=>by
  unfold Rp at h ⊢;obtain⟨p,us,e,q,l,z,r⟩:=h;exact⟨p,us,e,(fun z=>absurd z JT),l,z,aH.weak r⟩
 | .dT ks vs,_,_,h=>by
  unfold Rp at h ⊢;obtain⟨p,us,e,q,l,z,r⟩:=h;exact⟨p,us,e,(fun z=>absurd z JT),l,z,aH.weak r⟩
theorem aH.weak{n:Bool}:∀{xs:List PV}{H:Hp}{us:List V},aH K Hi n xs H us->aH K Hi false xs H us
 | [],_,_,h=>by unfold aH at h ⊢;exact h
 | x::xs,_,_,h=>by
  unfold aH at h ⊢;obtain⟨u,r,e,a,b⟩:=h;exact⟨u,r,e,Rp.weak a,aH.weak b⟩
end
theorem Rp.low{n m:Bool}{v:PV}{H:Hp}{u:V}(h:Rp K Hi n v H u)(e:m=true->n=true):Rp K Hi m v H u:=by
 cases n with
 | true=>cases m with
  | true=>exact h
  | false=>exact h.weak
 | false=>cases m with
  | true=>cases e rfl
  | false=>exact h
theorem aH.low{n m:Bool}{v:List PV}{H:Hp}{u:List V}(h:aH K Hi n v H u)(e:m=true->n=true):aH K Hi m v H u:=by
 cases n with
 | true=>cases m with
  | true=>exact h
  | false=>exact h.weak
 | false=>cases m with
  | true=>cases e rfl
  | false=>exact h
mutual
theorem Rp.entry{Hj:Hp}{n:Bool}(k:n=true->∀p,Hi p=none->Hj p=none):∀{v:PV}{H:Hp}{u:V},Rp K Hi n v H u->Rp K Hj n v H u
 | .non,_,_,h=>by unfold Rp at h ⊢;exact h
 | .bl _,_,_,h=>by unfold Rp at h ⊢;exact h
 | .int _,_,_,h=>by unfold Rp at h ⊢;exact h
 | .str _,_,_,h=>by unfold Rp at h ⊢;exact h
 | .lst xs,_,_,h=>by
  unfold Rp at h ⊢;obtain⟨p,us,e,q,l,r⟩:=h;exact⟨p,us,e,fun z=>⟨k z _ (q z).1,(q z).2⟩,l,aH.entry k r⟩
 | .tup xs,_,_,h=>by
  unfold Rp at h ⊢;obtain⟨p,us,e,l,r⟩:=h;exact⟨p,us,e,l,aH.entry k r⟩
 | .dK ks vs,_,_,h=>by
  unfold Rp at h ⊢;obtain⟨p,us,e,q,l,z,r⟩:=h;exact⟨p,us,e,fun z=>k z _ (q z),l,z,aH.entry k r⟩
 | .dT ks vs,_,_,h=>by
  unfold Rp at h ⊢;obtain⟨p,us,e,q,l,z,r⟩:=h;exact⟨p,us,e,fun z=>k z _ (q z),l,z,aH.entry k r⟩
theorem aH.entry{Hj:Hp}{n:Bool}(k:n=true->∀p,Hi p=none->Hj p=none):∀{xs:List PV}{H:Hp}{us:List V},aH K Hi n xs H us->aH K Hj n xs H us
 | [],_,_,h=>by unfold aH at h ⊢;exact h
 | x::xs,_,_,h=>by
  unfold aH at h ⊢;obtain⟨u,r,e,a,b⟩:=h;exact⟨u,r,e,Rp.entry k a,aH.entry k b⟩
end
noncomputable def tj(H G:Hp):Prop:=(∀b xs,H b=some (.tup xs)->G b=some (.tup xs))/\∀b o xs,H b=some (.frz o (.tup xs))->G b=some (.frz o (.tup xs))
theorem tj.at{H G:Hp}(t:tj H G){p:Addr}{xs:List V}(h:bX K H p xs):bX K G p xs:=by
 rcases h with(h|⟨o,h⟩)|h
 ·exact .inl (.inl (t.1 _ _ h))
 ·exact .inl (.inr ⟨o,t.2 _ _ _ h⟩)
 ·exact .inr h
mutual
theorem Rp.imm{n m:Bool}:∀{v:PV}{H G:Hp}{u:V},imm v=true->tj H G->Rp K Hi n v H u->Rp K Hi m v G u
 | .non,_,_,_,_,_,h=>by unfold Rp at h ⊢;exact h
 | .bl _,_,_,_,_,_,h=>by unfold Rp at h ⊢;exact h
 | .int _,_,_,_,_,_,h=>by unfold Rp at h ⊢;exact h
 | .str _,_,_,_,_,_,h=>by unfold Rp at h ⊢;exact h
 | .lst xs,_,_,_,i,_,h=>by unfold IR.imm at i;cases i
 | .tup xs,_,_,_,i,t,h=>by
  unfold Rp at h ⊢;unfold IR.imm at i;obtain⟨p,us,e,l,r⟩:=h;exact⟨p,us,e,t.at l,aH.imm i t r⟩
 | .dK ks vs,_,_,_,i,_,h=>by unfold IR.imm at i;cases i
 | .dT ks vs,_,_,_,i,_,h=>by unfold IR.imm at i;cases i
theorem aH.imm{n m:Bool}:∀{xs:List PV}{H G:Hp}{us:List V},imms xs=true->tj H G->aH K Hi n xs H us->aH K Hi m xs G us
 | [],_,_,_,_,_,h=>by unfold aH at h ⊢;exact h
 | x::xs,_,_,_,i,t,h=>by
  unfold aH at h ⊢;unfold imms at i;rw[JU]at i;obtain⟨u,r,e,a,b⟩:=h;exact⟨u,r,e,Rp.imm i.1 t a,aH.imm i.2 t b⟩
end
theorem Rp.up{n:Bool}{v:PV}{H:Hp}{u:V}(h:Rp K Hi n v H u):Rp K Hi (n||IR.imm v) v H u:=by
 cases e:IR.imm v with
 | true=>rw[Bool.or_true];exact Rp.imm e ⟨fun _ _ e=>e,fun _ _ _ e=>e⟩ h
 | false=>rw[Bool.or_false];exact h
theorem aH.up{n:Bool}{v:List PV}{H:Hp}{u:List V}(h:aH K Hi n v H u):aH K Hi (n||IR.imms v) v H u:=by
 cases e:IR.imms v with
 | true=>rw[Bool.or_true];exact aH.imm e ⟨fun _ _ e=>e,fun _ _ _ e=>e⟩ h
 | false=>rw[Bool.or_false];exact h
theorem aH.len{n:Bool}:∀{xs:List PV}{H:Hp}{us:List V},aH K Hi n xs H us->xs.length=us.length
 | [],_,_,h=>by unfold aH at h;rw[h];rfl
 | x::xs,_,_,h=>by
  unfold aH at h;obtain⟨u,r,e,a,b⟩:=h;rw[e,Jh,Jh,aH.len b]
theorem aH.at{n:Bool}:∀{xs:List PV}{H:Hp}{us:List V}{i:Nat}{x:PV},aH K Hi n xs H us->xs[i]? =some x->∃u,us[i]? =some u/\Rp K Hi n x H u
 | [],_,_,_,_,h,e=>by simp at e
 | y::xs,_,_,i,x,h,e=>by
  unfold aH at h;obtain⟨u,r,rfl,a,b⟩:=h;cases i with
  | zero=>simp at e;subst e;exact⟨u,by simp,a⟩
  | succ i=>simpa using aH.at (i:=i) (x:=x) b (by simpa using e)
theorem aH.at'{n:Bool}:∀{xs:List PV}{H:Hp}{us:List V}{i:Nat}{u:V},aH K Hi n xs H us->us[i]? =some u->∃x,xs[i]? =some x/\Rp K Hi n x H u
 | [],_,_,_,_,h,e=>by unfold aH at h;subst h;simp at e
 | y::xs,_,_,i,x,h,e=>by
  unfold aH at h;obtain⟨u,r,rfl,a,b⟩:=h;cases i with
  | zero=>simp at e;subst e;exact⟨y,by simp,a⟩
  | succ i=>simpa using aH.at' (i:=i) (u:=x) b (by simpa using e)
theorem aH.nil{n:Bool}{H:Hp}:aH K Hi n [] H []:=by unfold aH;rfl
theorem aH.cons{n:Bool}{x:PV}{xs:List PV}{H:Hp}{u:V}{us:List V}(a:Rp K Hi n x H u)(b:aH K Hi n xs H us):aH K Hi n (x::xs) H (u::us):=by unfold aH;exact⟨u,us,rfl,a,b⟩
theorem aH.app{n:Bool}:∀{xs ys:List PV}{H:Hp}{us vs:List V},aH K Hi n xs H us->aH K Hi n ys H vs->aH K Hi n (xs++ys) H (us++vs)
 | [],_,_,_,_,h,g=>by unfold aH at h;subst h;exact g
 | x::xs,_,_,_,_,h,g=>by
  unfold aH at h;obtain⟨u,r,rfl,a,b⟩:=h;exact .cons a (aH.app b g)
theorem aH.take{n:Bool}:∀{xs:List PV}{H:Hp}{us:List V}(k:Nat),aH K Hi n xs H us->aH K Hi n (xs.take k) H (us.take k)
 | [],_,_,_,h=>by unfold aH at h;subst h;simp;exact .nil
 | x::xs,_,_,k,h=>by
  unfold aH at h;obtain⟨u,r,rfl,a,b⟩:=h;cases k with
  | zero=>exact .nil
  | succ k=>exact .cons a (aH.take k b)
theorem aH.drop{n:Bool}:∀{xs:List PV}{H:Hp}{us:List V}(k:Nat),aH K Hi n xs H us->aH K Hi n (xs.drop k) H (us.drop k)
 | [],_,_,_,h=>by unfold aH at h;subst h;simp;exact .nil
 | x::xs,_,_,k,h=>by
  unfold aH at h;obtain⟨u,r,rfl,a,b⟩:=h;cases k with
  | zero=>exact .cons a b
  | succ k=>exact aH.drop k b
theorem aH.set{n:Bool}:∀{xs:List PV}{H:Hp}{us:List V}(k:Nat){x:PV}{u:V},aH K Hi n xs H us->Rp K Hi n x H u->aH K Hi n (xs.set k x) H (us.set k u)
 | [],_,_,_,_,_,h,_=>by unfold aH at h;subst h;exact .nil
 | y::xs,_,_,k,_,_,h,g=>by
  unfold aH at h;obtain⟨u,r,rfl,a,b⟩:=h;cases k with
  | zero=>exact .cons g b
  | succ k=>exact .cons a (aH.set k b g)
theorem Rp.int{n:Bool}{i:Int}{H:Hp}{u:V}:Rp K Hi n (.int i) H u↔u=.int i:=by unfold Rp;rfl
theorem Rp.str{n:Bool}{i:Str}{H:Hp}{u:V}:Rp K Hi n (.str i) H u↔u=.str i:=by unfold Rp;rfl
theorem Rp.bl{n:Bool}{i:Bool}{H:Hp}{u:V}:Rp K Hi n (.bl i) H u↔u=.bl i:=by unfold Rp;rfl
theorem Rp.non{n:Bool}{H:Hp}{u:V}:Rp K Hi n .non H u↔u=.non:=by unfold Rp;rfl
theorem Rp.tup{n:Bool}{xs:List PV}{H:Hp}{u:V}:Rp K Hi n (.tup xs) H u↔∃p us,u=.ref p/\bX K H p us/\aH K Hi n xs H us:=by rw[Rp]
theorem Rp.lst{n:Bool}{xs:List PV}{H:Hp}{u:V}:Rp K Hi n (.lst xs) H u↔∃p us,u=.ref p/\(n=true->Hi p=none/\H p=some (.lst us))/\bG K H p us/\aH K Hi n xs (del H p) us:=by rw[Rp]
theorem aH.ints{n:Bool}{H:Hp}:∀{xs:List Int}{us:List V},aH K Hi n (xs.map PV.int) H us↔us=xs.map V.int
 | [],us=>by unfold aH;rfl
 | x::xs,us=>by
  rw[JZ,JZ,aH]
  constructor
  ·rintro⟨u,r,rfl,a,b⟩
   rw[Rp.int.mp a,aH.ints.mp b]
  ·rintro rfl
   exact⟨_,_,rfl,Rp.int.mpr rfl,aH.ints.mpr rfl⟩
noncomputable def At:Bd->List V->HO->Prop
 | .lst,us,o=>o=.lst us
 | .dK ks,us,o=>o=.dK (ks.zip us)/\ks.length=us.length
 | .dT ks,us,o=>o=.dT (ks.zip us)/\ks.length=us.length
noncomputable def Mo(o:HO):Prop:=∃b us,At b us o
theorem Mo.lst{us:List V}:Mo (.lst us):=⟨.lst,us,rfl⟩
theorem Mo.tup{xs:List V}(h:Mo (.tup xs)):False:=by
 obtain⟨b,us,h⟩:=h;cases b with
 | lst=>cases h
 | dK ks=>cases h.1
 | dT ks=>cases h.1
variable(K Hi)in
structure aq(O:List Addr)(τ:En)(σ:L2.St)(H:Hp):Prop where
 same:aD Hi H
 own:∀l∈O,Hi l=none/\∃o,H l=some o/\Mo o
 frz:∀(i:Nat)(v:PV)(n:Bool),τ[i]? =some (.frz v n)->∃u,σ[i]? =some (some u)/\Rp K Hi n v (aW H O) u
 obs:∀(i:Nat)(t:TV)(b:Bd)(xs:List PV)(n:Bool),τ[i]? =some t->t.ob=some (b,xs,n)->∃l us o,σ[i]? =some (some (.ref l))/\l∈O/\H l=some o/\At b us o/\aH K Hi n xs (aW H O) us
 dst:∀(i j:Nat)(t t' :TV)(x y:Bd×List PV×Bool)(l:Addr),τ[i]? =some t->t.ob=some x->τ[j]? =some t' ->t'.ob=some y->σ[i]? =some (some (.ref l))->σ[j]? =some (some (.ref l))->i=j
section
variable{O:List Addr}{τ:En}{σ:L2.St}{H H' :Hp}
theorem aq.owns(R:aq K Hi O τ σ H)(i:Nat)(xs:List PV)(n:Bool)(e:τ[i]? =some (.own xs n)):∃l us,σ[i]? =some (some (.ref l))/\l∈O/\H l=some (.lst us)/\aH K Hi n xs (aW H O) us:=by
 obtain⟨l,us,o,h1,h2,h3,h4,h5⟩:=R.obs i _ .lst xs n e rfl;cases h4;exact⟨l,us,h1,h2,h3,h5⟩
theorem aq.ext(R:aq K Hi O τ σ H)(s:aD H H'):aq K Hi O τ σ H' where
 same:=R.same.trans s
 own:=fun l hl=>⟨(R.own l hl).1,by obtain⟨o,e,m⟩:=(R.own l hl).2;exact⟨o,s _ _ e,m⟩⟩
 frz:=fun i v n e=>by obtain⟨u,h1,h2⟩:=R.frz i v n e;exact⟨u,h1,h2.mono (aP s)⟩
 obs:=fun i t b xs n e ht=>by obtain⟨l,us,o,h1,h2,h3,h4,h5⟩:=R.obs i t b xs n e ht;exact⟨l,us,o,h1,h2,s _ _ h3,h4,h5.mono (aP s)⟩
 dst:=R.dst
theorem aq.tups(R:aq K Hi O τ σ H):tj H (aW H O):=by
 refine⟨fun b xs e=> ?_,fun b o xs e=> ?_⟩
 ·unfold aW
  rw[JR fun z=> ?_]
  ·exact e
  ·obtain⟨us,e',m⟩:=(R.own b z).2
   rw[e]at e';cases e';exact m.tup
 ·unfold aW
  rw[JR fun z=> ?_]
  ·exact e
  ·obtain⟨us,e',m⟩:=(R.own b z).2
   rw[e]at e';cases e';obtain⟨b,us,m⟩:=m;cases b with
   | lst=>cases m
   | dK ks=>cases m.1
   | dT ks=>cases m.1
theorem av{α:Type}{l:List α}{i j:Nat}{x y:α}(h:(l.set i x)[j]? =some y):(i=j/\y=x)\/(i≠j/\l[j]? =some y):=by
 rw[LR]at h
 split at h
 ·rename_i e
  split at h
  ·exact .inl ⟨e,(Jl h).symm⟩
  ·cases h
 ·rename_i e
  exact .inr ⟨e,h⟩
theorem aq.setF(R:aq K Hi O τ σ H){i:Nat}{v:PV}{n:Bool}{u:V}(hi:i<σ.length)(r:Rp K Hi n v (aW H O) u):aq K Hi O (τ.set i (.frz v n)) (σ.set i (some u)) H where
 same:=R.same
 own:=R.own
 frz:=fun j w m e=>by
  rcases av e with⟨rfl,e'⟩|⟨ne,e'⟩
  ·cases e'
   exact⟨u,by rw[Kf hi],r⟩
  ·obtain⟨u',h1,h2⟩:=R.frz j w m e'
   exact⟨u',by rw[KF ne];exact h1,h2⟩
 obs:=fun j t b xs m e ht=>by
  rcases av e with⟨rfl,e'⟩|⟨ne,e'⟩
  ·subst e'
   cases ht
  ·obtain⟨l,us,o,h1,h2⟩:=R.obs j t b xs m e' ht
   exact⟨l,us,o,by rw[KF ne];exact h1,h2⟩
 dst:=fun a b t t' x y l e1 ht e2 ht' h1 h2=>by
  rcases av e1 with⟨_,z⟩|⟨ne1,z1⟩
  ·subst z
   cases ht
  ·rcases av e2 with⟨_,z⟩|⟨ne2,z2⟩
   ·subst z
    cases ht'
   ·rw[KF ne1]at h1
    rw[KF ne2]at h2;exact R.dst a b t t' x y l z1 ht z2 ht' h1 h2
theorem aq.setB(R:aq K Hi O τ σ H){i:Nat}{t0:TV}{b0:Bd}{xs:List PV}{n:Bool}{p:Addr}{us:List V}{o:HO}(hob:t0.ob=some (b0,xs,n))(hi:i<σ.length)(s:aD H H')(h0:H p=none)(h1:H' p=some o)(ha:At b0 us o)(r:aH K Hi n xs (aW H' (p::O)) us) :
  aq K Hi (p::O) (τ.set i t0) (σ.set i (some (.ref p))) H' :=by
 have hs:aD (aW H O) (aW H' (p::O)):=fun b o e=>by
  unfold aW at e ⊢
  split at e
  ·cases e
  ·rename_i nb
   have ne:b≠p:=aE e h0;rw[JR (by simp[ne,nb])];exact s b o e
 have hn:Hi p=none:=R.same.free h0;refine⟨R.same.trans s,fun l hl=> ?_,fun j w m e=> ?_,fun j t b ys m e ht=> ?_,fun a b t t' x y l e1 ht e2 ht' g1 g2=> ?_⟩
 ·rcases Jg.mp hl with rfl|hl
  ·exact⟨hn,o,h1,_,_,ha⟩
  ·obtain⟨q,vs,e,m⟩:=R.own l hl
   exact⟨q,vs,s _ _ e,m⟩
 ·rcases av e with⟨rfl,e'⟩|⟨ne,e'⟩
  ·rw[<- e']at hob
   cases hob
  ·obtain⟨u',g1,g2⟩:=R.frz j w m e'
   exact⟨u',by rw[KF ne];exact g1,g2.mono hs⟩
 ·rcases av e with⟨rfl,e'⟩|⟨ne,e'⟩
  ·subst e'
   rw[hob]at ht;cases ht;exact⟨p,us,o,by rw[Kf hi],JP,h1,ha,r⟩
  ·obtain⟨l,vs,o',g1,g2,g3,g4,g5⟩:=R.obs j t b ys m e' ht
   exact⟨l,vs,o',by rw[KF ne];exact g1,JO _ g2,s _ _ g3,g4,g5.mono hs⟩
 ·have old:∀(c:Nat)(t:TV)(x:Bd×List PV×Bool),τ[c]? =some t->t.ob=some x->σ[c]? =some (some (.ref l))->l≠p:=fun c t x e ht g=>by
   obtain⟨b',zs,q⟩:=x;obtain⟨l',vs,o',q1,q2,q3,_⟩:=R.obs c t b' zs q e ht;rw[q1]at g;cases g;exact aE q3 h0
  rcases av e1 with⟨rfl,z1⟩|⟨ne1,z1⟩
  ·rw[Kf hi]at g1
   cases g1
   rcases av e2 with⟨rfl,_⟩|⟨ne2,z2⟩
   ·rfl
   ·rw[KF ne2]at g2
    exact absurd rfl (old b t' y z2 ht' g2)
  ·rw[KF ne1]at g1
   rcases av e2 with⟨rfl,z2⟩|⟨ne2,z2⟩
   ·rw[Kf hi]at g2
    cases g2;exact absurd rfl (old a t x z1 ht g1)
   ·rw[KF ne2]at g2
    exact R.dst a b t t' x y l z1 ht z2 ht' g1 g2
theorem aq.setO(R:aq K Hi O τ σ H){i:Nat}{xs:List PV}{n:Bool}{p:Addr}{us:List V}(hi:i<σ.length)(s:aD H H')(h0:H p=none)(h1:H' p=some (.lst us))(r:aH K Hi n xs (aW H' (p::O)) us) :
  aq K Hi (p::O) (τ.set i (.own xs n)) (σ.set i (some (.ref p))) H' :=R.setB (b0:=.lst) rfl hi s h0 h1 rfl r
theorem aq.updB(R:aq K Hi O τ σ H){i:Nat}{t t1:TV}{b b1:Bd}{xs ys:List PV}{n m:Bool}{l:Addr}{us:List V}{o:HO}(e:τ[i]? =some t)(ht:t.ob=some (b,xs,n))(ht1:t1.ob=some (b1,ys,m))(hl:σ[i]? =some (some (.ref l)))(ha:At b1 us o)(r:aH K Hi m ys (aW H O) us) :
  aq K Hi O (τ.set i t1) σ (L2.upd H l o):=by
 obtain⟨l',vs,o',g1,g2,g3,g4,g5⟩:=R.obs i t b xs n e ht;rw[hl]at g1;cases g1;have hh:aW (L2.upd H l o) O=aW H O:=by
  funext b
  unfold aW
  split
  ·rfl
  ·rename_i nb
   exact aB fun z=>nb (z▸g2)
 have hn:=(R.own l g2).1;have hi:i<τ.length:=(JY.mp e).1;refine⟨fun b o q=> ?_,fun k hk=> ?_,fun j w q z=> ?_,fun j t2 b2 zs q z ht2=> ?_,fun a b t2 t3 x y c e1 h2 e2 h3 k1 k2=> ?_⟩
 ·rw[aB (aE q hn)]
  exact R.same b o q
 ·obtain⟨q,ws,z,mo⟩:=R.own k hk
  refine⟨q,?_⟩
  by_cases c:k=l
  ·subst c
   exact⟨o,aC,_,_,ha⟩
  ·exact⟨ws,by rw[aB c];exact z,mo⟩
 ·rw[hh]
  rcases av z with⟨rfl,z'⟩|⟨ne,z'⟩
  ·rw[<- z']at ht1
   cases ht1
  ·exact R.frz j w q z'
 ·rw[hh]
  rcases av z with⟨rfl,z'⟩|⟨ne,z'⟩
  ·subst z'
   rw[ht1]at ht2;cases ht2;exact⟨l,us,o,hl,g2,aC,ha,r⟩
  ·obtain⟨l2,ws,o2,q1,q2,q3,q4,q5⟩:=R.obs j t2 b2 zs q z' ht2
   refine⟨l2,ws,o2,q1,q2,?_,q4,q5⟩;rw[aB fun c=> ?_]
   ·exact q3
   ·subst c
    exact ne (R.dst i j t t2 _ _ l2 e ht z' ht2 hl q1)
 ·have back:∀(c:Nat)(t2:TV)(x:Bd×List PV×Bool),(τ.set i t1)[c]? =some t2->t2.ob=some x->∃(t3:TV)(y:Bd×List PV×Bool),τ[c]? =some t3/\t3.ob=some y:=fun c t2 x z h=>by
   rcases av z with⟨rfl,_⟩|⟨_,z'⟩
   ·exact⟨_,_,e,ht⟩
   ·exact⟨_,_,z',h⟩
  obtain⟨_,_,z1,w1⟩:=back a t2 x e1 h2;obtain⟨_,_,z2,w2⟩:=back b t3 y e2 h3;exact R.dst a b _ _ _ _ c z1 w1 z2 w2 k1 k2
theorem aq.upd(R:aq K Hi O τ σ H){i:Nat}{xs ys:List PV}{n m:Bool}{l:Addr}{us:List V}(e:τ[i]? =some (.own xs n))(hl:σ[i]? =some (some (.ref l)))(r:aH K Hi m ys (aW H O) us) :
  aq K Hi O (τ.set i (.own ys m)) σ (L2.upd H l (.lst us)):=R.updB (b1:=.lst) e rfl rfl hl rfl r
theorem Rp.at{n:Bool}{b:Bd}{xs:List PV}{us:List V}{o:HO}{l:Addr}{G:Hp}(hn:n=true->Hi l=none)(h:G l=some o)(ha:At b us o)(r:aH K Hi n xs (del G l) us):Rp K Hi n (b.pv xs) G (.ref l):=by
 cases b with
 | lst=>cases ha;exact Rp.lst.mpr ⟨l,us,rfl,fun z=>⟨hn z,h⟩,bG.of h,r⟩
 | dK ks =>
  obtain⟨rfl,hl⟩:=ha;show Rp K Hi n (.dK ks xs) G (.ref l);unfold Rp;exact⟨l,us,rfl,hn,h,hl,r⟩
 | dT ks =>
  obtain⟨rfl,hl⟩:=ha;show Rp K Hi n (.dT ks xs) G (.ref l);unfold Rp;exact⟨l,us,rfl,hn,h,hl,r⟩
theorem aq.freezeB(R:aq K Hi O τ σ H){i:Nat}{t:TV}{b0:Bd}{xs:List PV}{n:Bool}(e:τ[i]? =some t)(ht:t.ob=some (b0,xs,n)):∃O',aq K Hi O' (τ.set i (.frz (b0.pv xs) n)) σ H/\∀b∈O',b∈O:=by
 obtain⟨l,us,o,g1,g2,g3,g4,g5⟩:=R.obs i t b0 xs n e ht;refine⟨O.filter fun b=>decide (b≠l),?_,fun b hb=>(J7.mp hb).1⟩;have mem:∀b,b∈O.filter (fun b=>decide (b≠l))↔b∈O/\b≠l:=fun b=>by simp
 have hs:aD (aW H O) (aW H (O.filter fun b=>decide (b≠l))):=uz fun b hb=>((mem b).mp hb).1;have hd:aD (aW H O) (del (aW H (O.filter fun b=>decide (b≠l))) l):=fun b o z=>by
  unfold aW at z
  split at z
  ·cases z
  ·rename_i nb
   have ne:b≠l:=fun c=>nb (c▸g2);unfold del aW;rw[JR ne,JR fun c=>nb ((mem b).mp c).1];exact z
 have hl:aW H (O.filter fun b=>decide (b≠l)) l=some o:=by
  unfold aW;rw[JR fun c=>((mem l).mp c).2 rfl];exact g3
 refine⟨R.same,fun b hb=>R.own b ((mem b).mp hb).1,fun j w m z=> ?_,fun j t2 b2 ys m z ht2=> ?_,fun a b t2 t3 x y c e1 h2 e2 h3 k1 k2=> ?_⟩
 ·rcases av z with⟨rfl,z'⟩|⟨ne,z'⟩
  ·cases z'
   exact⟨.ref l,g1,Rp.at (fun _=>(R.own l g2).1) hl g4 (g5.mono hd)⟩
  ·obtain⟨u,q1,q2⟩:=R.frz j w m z'
   exact⟨u,q1,q2.mono hs⟩
 ·rcases av z with⟨rfl,z'⟩|⟨ne,z'⟩
  ·subst z'
   cases ht2
  ·obtain⟨l2,ws,o2,q1,q2,q3,q4,q5⟩:=R.obs j t2 b2 ys m z' ht2
   exact⟨l2,ws,o2,q1,(mem l2).mpr ⟨q2,fun c=>by subst c;exact ne (R.dst i j _ _ _ _ l2 e ht z' ht2 g1 q1)⟩,q3,q4,q5.mono hs⟩
 ·rcases av e1 with⟨_,z⟩|⟨_,z1⟩
  ·subst z
   cases h2
  ·rcases av e2 with⟨_,z⟩|⟨_,z2⟩
   ·subst z
    cases h3
   ·exact R.dst a b t2 t3 x y c z1 h2 z2 h3 k1 k2
theorem aq.freeze(R:aq K Hi O τ σ H)(i:Nat):∃O',aq K Hi O' (nz τ i) σ H/\∀b∈O',b∈O:=by
 unfold nz;cases e:τ[i]? with
 | none=>exact⟨O,R,fun b hb=>hb⟩
 | some t =>
  cases t with
  | un=>exact⟨O,R,fun b hb=>hb⟩
  | frz v n=>exact⟨O,R,fun b hb=>hb⟩
  | own xs n=>exact R.freezeB e rfl
  | owd b xs n=>exact R.freezeB e rfl
theorem aq.freezes:∀{cap:List Nat}{O:List Addr}{τ:En},aq K Hi O τ σ H->∃O',aq K Hi O' (bU cap τ) σ H/\∀b∈O',b∈O
 | [],O,_,R=>⟨O,R,fun b hb=>hb⟩
 | i::cap,_,_,R=>by
  obtain⟨O',R',h'⟩:=R.freeze i;obtain⟨O2,R2,h2⟩:=aq.freezes (cap:=cap) R';exact⟨O2,R2,fun b hb=>h' b (h2 b hb)⟩
variable(K Hi)in
noncomputable def ag(O:List Addr)(H H' :Hp):RV->V->Prop
 | .frz v n,u=>Rp K Hi n v (aW H' O) u
 | .bor v,u=>Rp K Hi false v H' u
 | .own xs n,u=>∃p us,u=.ref p/\H p=none/\H' p=some (.lst us)/\aH K Hi n xs (aW (del H' p) O) us
 | .owd b xs n,u=>∃p us o,u=.ref p/\H p=none/\H' p=some o/\At b us o/\aH K Hi n xs (aW (del H' p) O) us
theorem ag.ext{H2:Hp}{r:RV}{u:V}(h:ag K Hi O H H' r u)(s:aD H' H2):ag K Hi O H H2 r u:=by
 cases r with
 | frz v n=>exact Rp.mono (aP s) h
 | bor v=>exact Rp.mono s h
 | own xs n =>
  obtain⟨p,us,e,h0,h1,h2⟩:=h;exact⟨p,us,e,h0,s _ _ h1,h2.mono (aP (eV s))⟩
 | owd b xs n =>
  obtain⟨p,us,o,e,h0,h1,ha,h2⟩:=h;exact⟨p,us,o,e,h0,s _ _ h1,ha,h2.mono (aP (eV s))⟩
theorem ag.back{H0:Hp}{r:RV}{u:V}(h:ag K Hi O H H' r u)(s:aD H0 H):ag K Hi O H0 H' r u:=by
 cases r with
 | frz v n=>exact h
 | bor v=>exact h
 | own xs n =>
  obtain⟨p,us,e,h0,h1,h2⟩:=h;exact⟨p,us,e,s.free h0,h1,h2⟩
 | owd b xs n =>
  obtain⟨p,us,o,e,h0,h1,ha,h2⟩:=h;exact⟨p,us,o,e,s.free h0,h1,ha,h2⟩
theorem gU{p:Addr}:aW (del H' p) O=del (aW H' O) p:=by
 funext b
 unfold aW del;dsimp only
 split<;>split<;>(try rfl)<;>simp_all
theorem ag.keep{r:RV}{u:V}{v:PV}{n:Bool}(R:aq K Hi O τ σ H)(h:ag K Hi O H H' r u)(s:aD H H')(e:r.keep=some (v,n)):Rp K Hi n v (aW H' O) u:=by
 cases r with
 | frz w m =>
  cases e;exact h
 | bor w =>
  have e:(if imm w then some (w,true)else none)=some (v,n):=e
  split at e
  ·rename_i i
   cases e;exact Rp.imm i (R.ext s).tups h
  ·cases e
 | own xs m =>
  cases e;obtain⟨p,us,e,h0,h1,h2⟩:=h;have hl:aW H' O p=some (.lst us):=by
   unfold aW;rw[JR fun z=> ?_]
   ·exact h1
   ·obtain⟨vs,e',_⟩:=(R.own p z).2
    rw[h0]at e';cases e'
  exact Rp.lst.mpr ⟨p,us,e,fun _=>⟨R.same.free h0,hl⟩,bG.of hl,by rw[<- gU];exact h2⟩
 | owd b xs m =>
  cases e;obtain⟨p,us,o,e,h0,h1,ha,h2⟩:=h;subst e;have hl:aW H' O p=some o:=by
   unfold aW;rw[JR fun z=> ?_]
   ·exact h1
   ·obtain⟨vs,e',_⟩:=(R.own p z).2
    rw[h0]at e';cases e'
  exact Rp.at (fun _=>R.same.free h0) hl ha (by rw[<- gU];exact h2)
theorem ag.val{r:RV}{u:V}(R:aq K Hi O τ σ H)(h:ag K Hi O H H' r u)(s:aD H H'):Rp K Hi false r.val H' u:=by
 cases r with
 | frz w m=>exact(Rp.mono aO h).weak
 | bor w=>exact h
 | own xs m=>exact(Rp.mono aO (h.keep R s rfl)).weak
 | owd b xs m=>exact(Rp.mono aO (h.keep R s rfl)).weak
theorem ag.its{r:RV}{u:V}{xs:List PV}{n:Bool}(R:aq K Hi O τ σ H)(h:ag K Hi O H H' r u)(s:aD H H')(e:r.its=some (xs,n)) :
  ∃p us,u=.ref p/\((bG K H' p us/\∃ys,r.val=.lst ys)\/(bX K H' p us/\∃ys,r.val=.tup ys))/\aH K Hi n xs (aW H' O) us:=by
 cases r with
 | frz w m =>
  cases w with
  | lst ys =>
   cases e;obtain⟨p,us,e,_,l,r⟩:=Rp.lst.mp h;exact⟨p,us,e,.inl ⟨(aO (O:=O)).seq l,_,rfl⟩,r.mono bW⟩
  | tup ys =>
   cases e;obtain⟨p,us,e,l,r⟩:=Rp.tup.mp h;exact⟨p,us,e,.inr ⟨(aO (O:=O)).tup l,_,rfl⟩,r⟩
  | _=>cases e
 | bor w =>
  cases w with
  | lst ys =>
   have e:(if imms ys then some (ys,true)else none)=some (xs,n):=e
   split at e
   ·rename_i i
    cases e;obtain⟨p,us,e,_,l,r⟩:=Rp.lst.mp h;exact⟨p,us,e,.inl ⟨l,_,rfl⟩,aH.imm i (R.ext s).tups (r.mono bW)⟩
   ·cases e
  | tup ys =>
   have e:(if imms ys then some (ys,true)else none)=some (xs,n):=e
   split at e
   ·rename_i i
    cases e;obtain⟨p,us,e,l,r⟩:=Rp.tup.mp h;exact⟨p,us,e,.inr ⟨l,_,rfl⟩,aH.imm i (R.ext s).tups r⟩
   ·cases e
  | _=>cases e
 | own ys m =>
  cases e;obtain⟨p,us,e,h0,h1,h2⟩:=h;exact⟨p,us,e,.inl ⟨bG.of h1,_,rfl⟩,h2.mono (aP bW)⟩
 | owd b ys m=>cases e
end
end
section
variable{K:W.Frag}{Hi:Hp}{κ:Type}[DecidableEq κ]
end
end IR
namespace IR
open PySem
structure Ct where
 N:List Str
 S:List (Str×NameKind)
 F:List (Str×Nat)
 G:List (Str×PV)
 B:List Str
 M:List Nat
noncomputable def slot:List Str->Str->Option Nat
 | [],_=>none
 | y::ys,x=>if y==x then some 0 else(slot ys x).map (·+1)
theorem fB:∀{N:List Str}{x:Str}{i:Nat},slot N x=some i->N[i]? =some x
 | [],_,_,h=>by cases h
 | y::ys,x,i,h=>by
  unfold slot at h
  split at h
  ·rename_i e
   cases h;simp[Jp e]
  ·cases e:slot ys x with
   | none=>rw[e]at h;cases h
   | some j =>
    rw[e]at h;cases h
    simpa using fB e
noncomputable def DO(S:List (Str×NameKind))(x:Str):Bool:=S.lookup x==some .local||S.lookup x==some .cell||S.lookup x==some .free
noncomputable def uf(x:Str):Bool:=x==("__debug__":Str)||x==("__classdict__":Str)||x==("__name__":Str)
noncomputable def bN(ct:Ct)(x:Str):IE :=
 if uf x then .never else if DO ct.S x then(match slot ct.N x with
  | some i=>.var i
  | none=>.never)else if ct.S.lookup x==some .globalImplicit then(match ct.G.lookup x with
   | some v=>.con v
   | none=>.never)else .never
noncomputable def cB:Expr->Bool
 | .Set .. =>true
 | _=>false
noncomputable def uZ:CmpOp->Bool
 | .Lt=>true| .LtE=>true| .Gt=>true| .GtE=>true| .Eq=>true| .NotEq=>true|_=>false
noncomputable def ux:Expr->Bool
 | .Slice .. =>true
 | _=>false
noncomputable def isStar:Expr->Bool
 | .Starred .. =>true
 | _=>false
noncomputable def plainB:Expr->Bool
 | .Name .. =>true
 | .Constant .. =>true
 | _=>false
noncomputable def mj:Const->IE
 | .int i=>.con (.int i)
 | .bool b=>.con (.bl b)
 | .str z=>.con (.str z)
 | .none=>.con .non
 | _=>.never
noncomputable def kR(op:BoolOp):List IE->IE
 | []=>.never
 | [a]=>a
 | a::b::r=>match op with
  | .And=>.and a (kR op (b::r))
  | .Or=>.or a (kR op (b::r))
noncomputable def kQ(op:BoolOp):List IC->IC
 | []=>.val .never
 | [a]=>a
 | a::b::r=>match op with
  | .And=>.and a (kQ op (b::r))
  | .Or=>.or a (kQ op (b::r))
noncomputable def rF(x:Str)(k:Nat):Option Bf :=
 if x==("len":Str)&&k==1 then some .len else if x==("int":Str)&&k==1 then some .int else if x==("list":Str)&&k==1 then some .list else if x==("tuple":Str)&&k==1 then some .tuple
 else if x==("all":Str)&&k==1 then some .all else if x==("min":Str)&&k==2 then some .min else if x==("max":Str)&&k==2 then some .max else if x==("abs":Str)&&k==1 then some .abs
 else if x==("any":Str)&&k==1 then some .any else if x==("sum":Str)&&k==1 then some .sum else if x==("sorted":Str)&&k==1 then some .sorted else none
noncomputable def lA(x:Str)(k:Nat):Option Bf:=rF x k
noncomputable def ug(x y:Str):Option Bf :=
 if x==("sorted":Str)&&y==("set":Str)then some .sset
 else if x==("len":Str)&&y==("set":Str)then some .lset
 else none
noncomputable def xO(x:Str):Option String :=
 if x==("int":Str)then some "int" else if x==("bool":Str)then some "bool" else if x==("str":Str)then some "str" else if x==("list":Str)then some "list" else if x==("tuple":Str)then some "tuple" else none
noncomputable def own(ct:Ct)(x:Str):Bool:=ct.B.contains x&&ct.S.lookup x==some .globalImplicit
noncomputable def ef:Expr->Option (Str×List Expr)
 | .Call (.Name x _) es [] _=>some (x,es)
 | _=>none
theorem wj{e:Expr}{x:Str}{es:List Expr}(h:ef e=some (x,es)):∃p q,e=.Call (.Name x p) es [] q:=by
 unfold ef at h
 split at h
 ·cases h
  exact⟨_,_,rfl⟩
 ·cases h
noncomputable def xZ:List Expr->Option Expr
 | [b]=>some b
 | _=>none
noncomputable def uP(e:Expr):Option Expr:=(ef e).bind fun c=>if c.1==("reversed":Str)then xZ c.2 else none
theorem v3{a b:Expr}(h:uP a=some b):∃p q,a=.Call (.Name "reversed" p) [b] [] q:=by
 unfold uP at h;cases e:ef a with
 | none=>rw[e]at h;cases h
 | some c =>
  rw[e]at h;have h:(if c.1==("reversed":Str)then xZ c.2 else none)=some b:=h
  split at h
  ·rename_i z
   obtain⟨p,q,rfl⟩:=wj (x:=c.1) (es:=c.2) e;rw[Jp z];cases hc:c.2 with
   | nil=>rw[hc]at h;cases h
   | cons d r =>
    rw[hc]at h;cases r with
    | nil=>cases h;exact⟨p,q,rfl⟩
    | cons d2 r=>cases h
  ·cases h
noncomputable def lw(S names:List (Str×NameKind)):List (Str×NameKind):=names.map fun(n,k)=>if(k== .free&&true&&S.lookup n==some .cell)then(n,.cell)else(n,k)
noncomputable def frees(scope:Scope):List Str:=(scope.names.filter fun y=>y.2== .free).map (·.1)
noncomputable def slots(N:List Str):List Str->Option (List Nat)
 | []=>some []
 | x::xs=>(slot N x).bind fun i=>(slots N xs).map (i::·)
noncomputable def wK(ct:Ct)(t:Str)(scope:Scope):Bool :=
 scope.kind== .function&&(scope.names.all fun y=> !(y.2== .cell)||scope.names.lookup y.1==some .cell)&&(scope.names.all fun y=> !(y.2== .local)||scope.names.lookup y.1==some .local) &&
 (scope.names.all fun y=> !(y.2== .free)||(ct.S.lookup y.1==some .cell||ct.S.lookup y.1==some .free))&&decide (t::frees scope).Nodup&&(scope.names.lookup t==some .local||scope.names.lookup t==some .cell) &&
 (frees scope).all fun x=>scope.names.lookup x==some .free
noncomputable def blk(ct:Ct)(t:Str)(scope:Scope):Ct:=⟨t::frees scope,lw ct.S scope.names,ct.F,ct.G,ct.B,[]⟩
noncomputable def mK(ct:Ct)(t t2:Str)(scope:Scope):Bool :=
 scope.kind== .function&&(scope.names.all fun y=> !(y.2== .cell)||scope.names.lookup y.1==some .cell)&&(scope.names.all fun y=> !(y.2== .local)||scope.names.lookup y.1==some .local) &&
 (scope.names.all fun y=> !(y.2== .free)||(ct.S.lookup y.1==some .cell||ct.S.lookup y.1==some .free))&&decide (t::t2::frees scope).Nodup&&(scope.names.lookup t==some .local||scope.names.lookup t==some .cell)&&(scope.names.lookup t2==some .local||scope.names.lookup t2==some .cell) &&
 (frees scope).all fun x=>scope.names.lookup x==some .free
noncomputable def blk2(ct:Ct)(t t2:Str)(scope:Scope):Ct:=⟨t::t2::frees scope,lw ct.S scope.names,ct.F,ct.G,ct.B,[]⟩
noncomputable def wF:List IE->Co
 | []=>.nil
 | e::es=>.cons e (wF es)
noncomputable def jI:Expr->Option Str
 | .Name x _=>some x
 | _=>none
noncomputable def ui:Expr->Option (Str×Str)
 | .Tuple es _ _=>(match es with
  | [a,b]=>(jI a).bind fun x=>(jI b).map fun y=>(x,y)
  | _=>none)
 | _=>none
noncomputable def jg:Expr->Bool
 | .Subscript .. =>true
 | _=>false
noncomputable def n8:Expr->Option Expr
 | .Call f es ks cp=>if es.isEmpty&&ks.isEmpty then(match f with
  | .Attribute o m ap=>if m==("items":Str)&&ap.endLine==cp.line&&(jg o||plainB o)then some o else none
  | _=>none)else none
 | _=>none
noncomputable def Fy:Expr->Option (Str×Str)
 | .BinOp a op b _=>if op== .BitAnd then(jI a).bind fun x=>(jI b).map fun y=>(x,y)else none
 | _=>none
noncomputable def sn:Expr->Bool
 | .Constant c _ _=>(match c with
  | .int i=>i==0
  | _=>false)
 | _=>false
noncomputable def Ci:Expr->Option (Str×Str)
 | .Compare a ops cs _=>(match ops,cs with
  | [o],[c]=>if o== .Eq&&sn c then Fy a else none
  | _,_=>none)
 | _=>none
noncomputable def qM:IE->Nat->Bool
 | .var i,j=>i==j
 | _,_=>false
noncomputable def uw(f:Str)(ct:Ct)(elt:Expr)(gs:List Comprehension)(scope:Scope):Option (Expr×Nat):=if f==("sum":Str)then(match gs with
 | [g]=>(match g.ifs with
  | [c]=>(ui g.target).bind fun q=>(n8 g.iter).bind fun d=>(Ci c).bind fun z=>(jI elt).bind fun y =>
   if jg d&&z.1==q.1&&y==q.2&&g.is_async==0&&mK ct q.1 q.2 scope&&decide (frees scope=[z.2])&&qM (bN (blk2 ct q.1 q.2 scope) q.1) 0&&qM (bN (blk2 ct q.1 q.2 scope) q.2) 1&&qM (bN (blk2 ct q.1 q.2 scope) z.2) 2 then(slot ct.N z.2).map fun i=>(d,i)else none
  | _=>none)
 | _=>none)else none
theorem jz{e:Expr}{x:Str}(h:jI e=some x):∃p,e=.Name x p:=by
 unfold jI at h
 split at h
 ·cases h;exact⟨_,rfl⟩
 ·cases h
theorem uh{a b:Expr}{q:Str×Str}(h:((jI a).bind fun x=>(jI b).map fun y=>(x,y))=some q):∃p p2,a=.Name q.1 p/\b=.Name q.2 p2:=by
 cases ha:jI a with
 | none=>rw[ha]at h;cases h
 | some x =>
  cases hb:jI b with
  | none=>rw[ha,hb]at h;cases h
  | some y =>
   rw[ha,hb]at h;cases h;obtain⟨p,rfl⟩:=jz ha;obtain⟨p2,rfl⟩:=jz hb;exact⟨p,p2,rfl,rfl⟩
theorem wE{e:Expr}{q:Str×Str}(h:ui e=some q):∃p p2 k p3,e=.Tuple [.Name q.1 p,.Name q.2 p2] k p3:=by
 unfold ui at h
 split at h
 ·split at h
  ·obtain⟨p,p2,rfl,rfl⟩:=uh h
   exact⟨p,p2,_,_,rfl⟩
  ·cases h
 ·cases h
theorem vq{e:Expr}(h:jg e=true):∃a i p,e=.Subscript a i p:=by
 unfold jg at h
 split at h
 ·exact⟨_,_,_,rfl⟩
 ·cases h
theorem tD{e d:Expr}(h:n8 e=some d):∃ap cp,e=.Call (.Attribute d "items" ap) [] [] cp/\(ap.endLine==cp.line)=true/\(jg d||plainB d)=true:=by
 unfold n8 at h
 split at h
 ·rename_i f es ks cp
  split at h
  ·rename_i c
   rw[JU,List.isEmpty_iff,List.isEmpty_iff]at c;obtain⟨rfl,rfl⟩:=c
   split at h
   ·split at h
    ·rename_i c
     simp only[JU]at c;cases h;obtain⟨⟨c1,c2⟩,c3⟩:=c;have c1:=Jp c1;subst c1;exact⟨_,_,rfl,c2,c3⟩
    ·cases h
   ·cases h
  ·cases h
 ·cases h
theorem zw{e:Expr}{q:Str×Str}(h:Fy e=some q):∃p p2 p3,e=.BinOp (.Name q.1 p) .BitAnd (.Name q.2 p2) p3:=by
 unfold Fy at h
 split at h
 ·split at h
  ·rename_i c
   obtain⟨p,p2,rfl,rfl⟩:=uh h;have c:=Jp c;subst c;exact⟨p,p2,_,rfl⟩
  ·cases h
 ·cases h
theorem sk{e:Expr}(h:sn e=true):∃k p,e=.Constant (.int 0) k p:=by
 unfold sn at h
 split at h
 ·split at h
  ·have h:=Jp h
   subst h;exact⟨_,_,rfl⟩
  ·cases h
 ·cases h
theorem AD{e:Expr}{q:Str×Str}(h:Ci e=some q):∃p p2 p3 k p4 p5,e=.Compare (.BinOp (.Name q.1 p) .BitAnd (.Name q.2 p2) p3) [.Eq] [.Constant (.int 0) k p4] p5:=by
 unfold Ci at h
 split at h
 ·split at h
  ·split at h
   ·rename_i c
    rw[JU]at c;obtain⟨p,p2,p3,rfl⟩:=zw h;obtain⟨k,p4,rfl⟩:=sk c.2;have c:=Jp c.1;subst c;exact⟨p,p2,p3,k,p4,_,rfl⟩
   ·cases h
  ·cases h
 ·cases h
theorem hV{e:IE}{j:Nat}(h:qM e j=true):e=.var j:=by
 unfold qM at h
 split at h
 ·have h:=Jp h
  subst h;rfl
 ·cases h
theorem wO{f:Str}{ct:Ct}{elt:Expr}{gs:List Comprehension}{scope:Scope}{d:Expr}{i:Nat}(h:uw f ct elt gs scope=some (d,i)):f=("sum":Str)/\jg d=true/\∃x y t p1 p2 k p3 ap cp p4 p5 p6 k2 p7 p8 p9,elt=.Name y p9 /\
  gs=[⟨.Tuple [.Name x p1,.Name y p2] k p3,.Call (.Attribute d "items" ap) [] [] cp,[.Compare (.BinOp (.Name x p4) .BitAnd (.Name t p5) p6) [.Eq] [.Constant (.int 0) k2 p7] p8],0⟩]/\(ap.endLine==cp.line)=true /\
  mK ct x y scope=true/\frees scope=[t]/\bN (blk2 ct x y scope) x=.var 0/\bN (blk2 ct x y scope) y=.var 1/\bN (blk2 ct x y scope) t=.var 2/\slot ct.N t=some i:=by
 unfold uw at h
 split at h
 ·rename_i hf
  split at h
  ·rename_i g
   obtain⟨tg,it,ifs,as⟩:=g;dsimp only at h
   split at h
   ·rename_i c
    cases h1:ui tg with
    | none=>rw[h1]at h;cases h
    | some q =>
     cases h2:n8 it with
     | none=>rw[h1,h2]at h;cases h
     | some d' =>
      cases h3:Ci c with
      | none=>rw[h1,h2,h3]at h;cases h
      | some z =>
       cases h4:jI elt with
       | none=>rw[h1,h2,h3,h4]at h;cases h
       | some y =>
        rw[h1,h2,h3,h4]at h;simp only[LZ]at h
        split at h
        ·rename_i c
         simp only[JU]at c;obtain⟨⟨⟨⟨⟨⟨⟨⟨c0,c1⟩,c2⟩,c3⟩,c4⟩,c5⟩,c6⟩,c7⟩,c8⟩:=c;obtain⟨q1,q2⟩:=q;obtain⟨z1,z2⟩:=z;cases h5:slot ct.N z2 with
         | none=>simp only[h5,Option.map_none]at h;cases h
         | some j =>
          simp only[h5,Option.map_some]at h;cases h;have d1:z1=q1:=Jp c1;have d2:y=q2:=Jp c2;have d3:as=0:=Jp c3;subst d1;subst d2;subst d3;obtain⟨p1,p2,k,p3,rfl⟩:=wE h1;obtain⟨ap,cp,rfl,e1,e2⟩:=tD h2;obtain⟨p4,p5,p6,k2,p7,p8,rfl⟩:=AD h3;obtain⟨p9,rfl⟩:=jz h4;exact⟨Jp hf,c0,_,_,_,_,_,_,_,_,_,_,_,_,_,_,_,_,rfl,rfl,e1,c4,Jr c5,hV c6,hV c7,hV c8,h5⟩
        ·cases h
   ·cases h
  ·cases h
 ·cases h
mutual
noncomputable def ao:Nat->Ct->Expr->IE
 | 0,_,_=>.never
 | n+1,ct,e=>match e with
  | .Constant c _ _=>mj c
  | .Name x _=>bN ct x
  | .BinOp a op b _=>.bin op (ao n ct a) (ao n ct b)
  | .UnaryOp op a _=>match op with
   | .USub=>.neg (ao n ct a)
   | .Not=>.not (ao n ct a)
   | _=>.never
  | .Compare a ops cs _=>match ops,cs with
   | [op],[b]=>if cB b then .never else .cmp op (ao n ct a) (ao n ct b)
   | [op,op'],[b,c]=>if cB c|| !uZ op' then .never else .chn op op' (ao n ct a) (ao n ct b) (ao n ct c)
   | _,_=>.never
  | .BoolOp op vs _=>if vs.length<2 then .never else kR op (vs.map (ao n ct))
  | .IfExp c a b _=>.ite (oG n ct c) (ao n ct a) (ao n ct b)
  | .List es _=>.lst (eB n ct es)
  | .Tuple es _ _=>.tup (eB n ct es)
  | .Dict ks vs _=>match ks,vs with
   | [],[]=>.dnew
   | [some (.Constant c _ _)],[v]=>match c with
    | .int i=>.dlit (.inl i) (ao n ct v)
    | .str z=>.dlit (.inr z) (ao n ct v)
    | _=>.never
   | _,_=>.never
  | .Subscript a i _=>match i with
   | .Slice .. =>.never
   | i=>.ix (ao n ct a) (ao n ct i)
  | .Call f es ks cp=>match ks with
   | []=>match f with
    | .Name x _=>gw n ct x es
    | .Attribute o m ap=>if ap.endLine==cp.line then lf n ct o m es else .never
    | _=>.never
   | _=>.never
  | .ListComp elt gs scope _=>match gs with
   | [⟨.Name t _,iter,ifs,0⟩]=>if wK ct t scope then(match slots ct.N (frees scope)with
    | some caps=>.lc (ao n (blk ct t scope) elt) (Aj n ct false iter) (match ifs with
     | []=>.no
     | [c]=>.yes (oG n (blk ct t scope) c)
     | _=>.yes (.val .never)) caps
    | none=>.never)else .never
   | _=>.never
  | _=>.never
noncomputable def eB:Nat->Ct->List Expr->Co
 | 0,_,_=>.cons .never .nil
 | n+1,ct,es=>wF (es.map fun e=>if isStar e then .never else ao n ct e)
noncomputable def trO:Nat->Ct->Option Expr->IO
 | 0,_,_=>.yes .never
 | n+1,ct,e=>match e with
  | none=>.no
  | some e=>.yes (ao n ct e)
noncomputable def oG:Nat->Ct->Expr->IC
 | 0,_,_=>.val .never
 | n+1,ct,e=>match e with
  | .UnaryOp op a p=>match op with
   | .Not=>.not (oG n ct a)
   | op=>.val (ao n ct (.UnaryOp op a p))
  | .BoolOp op vs _=>kQ op (vs.map (oG n ct))
  | .IfExp _ _ _ _=>.val .never
  | e=>.val (ao n ct e)
noncomputable def gw:Nat->Ct->Str->List Expr->IE
 | 0,_,_,_=>.never
 | n+1,ct,x,es=>if uf x then .never else if ct.S.lookup x==some .globalImplicit then(match ct.F.lookup x with
  | some f=>match es with
   | []=>.never
   | es=>.call f (eB n ct es)
  | none=>if ct.B.contains x then(if x==("isinstance":Str)then(match es with
    | [a,.Name t _]=>match xO t with
     | some ty=>if isStar a then .never else if own ct t then .bf (.isin ty) (.cons (ao n ct a) .nil)else .never
     | none=>.never
    | _=>.never)else match es with
     | [.Call (.Name y _) [a] [] _]=>(match ug x y with
      | some f=>if isStar a|| !own ct y then .never else .bf f (.cons (ao n ct a) .nil)
      | none=>match lA x es.length with
       | some f=>.bf f (eB n ct es)
       | none=>.never)
     | [.ListComp elt gs scope _]=>(match uw x ct elt gs scope with
      | some (d,i)=>.bf .sum (.cons (.lci (ao n ct d) i) .nil)
      | none=>match lA x es.length with
       | some f=>.bf f (eB n ct es)
       | none=>.never)
     | es=>match lA x es.length with
      | some f=>.bf f (eB n ct es)
      | none=>.never)else .never)else .never
noncomputable def lf:Nat->Ct->Expr->Str->List Expr->IE
 | 0,_,_,_,_=>.never
 | n+1,ct,o,m,es=>if plainB o then(match es with
  | _=>.never)else .never
noncomputable def Aj:Nat->Ct->Bool->Expr->IT
 | 0,_,_,_=>.never
 | n+1,ct,tp,e=>if cB e then .never else match uP e with
  | some a=>if isStar a|| !own ct ("reversed":Str)then .never else .rvd (ao n ct a)
  | none=>match ef e with
  | some (x,es)=>if x==("range":Str)then(if own ct x then .rng (eB n ct es)else .never)else if x==("zip":Str)then(match es with
    | [a,b]=>if isStar a||isStar b|| !tp|| !own ct x then .never else .zip (ao n ct a) (ao n ct b)
    | _=>.never)else if x==("enumerate":Str)then(match es with
    | [a]=>if isStar a|| !tp|| !own ct x then .never else .enum (ao n ct a)
    | _=>.never)else .seq (ao n ct e)
  | none=>.seq (ao n ct e)
end
noncomputable def lV:Nat->Ct->Expr->List Nat
 | 0,_,_=>[]
 | n+1,ct,e=>match e with
  | .Name x _=>(slot ct.N x).toList
  | .List es _=>es.flatMap (lV n ct)
  | .Tuple es _ _=>es.flatMap (lV n ct)
  | .IfExp _ a b _=>lV n ct a++lV n ct b
  | _=>[]
noncomputable def lU:Nat->Ct->Expr->List Nat
 | 0,_,_=>[]
 | n+1,ct,e=>match e with
  | .Name x _=>(slot ct.N x).toList
  | .List es _=>es.flatMap (lU n ct)
  | .Tuple es _ _=>es.flatMap (lU n ct)
  | .BinOp a _ b _=>lU n ct a++lU n ct b
  | .IfExp _ a b _=>lU n ct a++lU n ct b
  | .Call (.Name x _) es _ _=>if x==("tuple":Str)||x==("list":Str)||x==("sorted":Str)then es.flatMap (lU n ct)else[]
  | .ListComp _ gs _ _=>gs.flatMap fun g=>lU n ct g.iter
  | _=>[]
noncomputable def IF(ct:Ct)(x:Str)(e:Expr):List Nat:=match e with
 | .BinOp (.Name y _) .Add _ _=>if y==x then(slot ct.N x).toList else[]
 | _=>[]
noncomputable def IG(n:Nat)(ct:Ct)(e:Expr):List Nat:=match ef e with
 | some (x,es)=>if x==("zip":Str)||x==("enumerate":Str)||x==("reversed":Str)then es.flatMap (lV n ct)else[]
 | none=>lV n ct e
noncomputable def loc(ct:Ct)(x:Str):Option Nat:=if(ct.S.lookup x==some .local||ct.S.lookup x==some .cell)&& !uf x then slot ct.N x else none
noncomputable def yx:Expr->Bool
 | .ListComp .. =>true
 | .SetComp .. =>true
 | .DictComp .. =>true
 | _=>false
noncomputable def xq:Option Expr->Option Expr->Option Str
 | some (.Call (.Name x _) [] [] _),none=>some x
 | _,_=>none
noncomputable def locs(ct:Ct):List Expr->Option (List Nat)
 | []=>some []
 | .Name x _::es=>(loc ct x).bind fun i=>(locs ct es).map (i::·)
 | _::_=>none
noncomputable def xT(ct:Ct):Expr->Option (List Nat×Bool)
 | .Name x _=>(loc ct x).map fun i=>([i],true)
 | .Tuple es _ _=>(locs ct es).map fun is=>(is,false)
 | _=>none
mutual
noncomputable def rL:Nat->Ct->Stmt->IS
 | 0,_,_=>.never
 | n+1,ct,s=>match s with
  | .Return v _=>match v with
   | some e=>.ret (lU n ct e) (ao n ct e)
   | none=>.retN
  | .Assign ts e _=>match ts with
   | [.Name x _]=>match loc ct x with
    | some i=>.asg i (ct.M.contains i) (IF ct x e++lV n ct e) (ao n ct e)
    | none=>.never
   | _=>.never
  | .If c a b _=>.ife (oG n ct c) (aw n ct a) (aw n ct b)
  | .For tg it body els _=>match els with
   | []=>match xT ct tg with
    | some (is,one)=>.forr is one (IG n ct it) (Aj n ct (!one) it) (aw n ct body)
    | none=>.never
   | _=>.never
  | .While c body els _=>match els with
   | []=>.whil (oG n ct c) (aw n ct body)
   | _=>.never
  | .Pass _=>.pass
  | .Break _=>.brk
  | .Continue _=>.cont
  | .Expr e _=>match e with
   | .Call (.Attribute (.Name x _) m ap) es [] cp=>if ap.endLine==cp.line then(match loc ct x with
    | some i=>(match es with
     | [a]=>if isStar a then .never else if m==("append":Str)then .app i (lV n ct a) (ao n ct a)else .never
     | _=>.never)
    | none=>.never)else .never
   | _=>.never
  | .Raise e c _=>match xq e c with
   | some x=>if ct.S.lookup x==some .globalImplicit&& !uf x then .rais x else .never
   | none=>.never
  | .AugAssign t op e _=>match t with
   | .Name x _=>match loc ct x with
    | some i=>.aug i op (ao n ct e)
    | none=>.never
   | _=>.never
  | _=>.never
noncomputable def aw:Nat->Ct->List Stmt->wy
 | 0,_,_=>.cons .never .nil
 | n+1,ct,ss=>match ss with
  | []=>.nil
  | s::ss=>.cons (rL n ct s) (aw n ct ss)
end
section
set_option autoImplicit true
set_option relaxedAutoImplicit true
variable{n:Nat}{ct:Ct}
theorem oX:ao 0 w0 w1=.never:=rfl
theorem oS:ao (n+1) ct (.Constant c w1 w2)=(mj c):=rfl
theorem oN:ao (n+1) ct (.Name x w1)=(bN ct x):=rfl
theorem oW:ao (n+1) ct (.BinOp a op b w1)=(.bin op (ao n ct a) (ao n ct b)):=rfl
theorem oJ:ao (n+1) ct (.UnaryOp op a w1)=(match op with
   | .USub=>.neg (ao n ct a)
   | .Not=>.not (ao n ct a)
   | _=>.never):=rfl
theorem oT:ao (n+1) ct (.Compare a ops cs w1)=(match ops,cs with
   | [op],[b]=>if cB b then .never else .cmp op (ao n ct a) (ao n ct b)
   | [op,op'],[b,c]=>if cB c|| !uZ op' then .never else .chn op op' (ao n ct a) (ao n ct b) (ao n ct c)
   | _,_=>.never):=rfl
theorem oV:ao (n+1) ct (.BoolOp op vs w1)=(if vs.length<2 then .never else kR op (vs.map (ao n ct))):=rfl
theorem oQ:ao (n+1) ct (.IfExp c a b w1)=(.ite (oG n ct c) (ao n ct a) (ao n ct b)):=rfl
theorem oP:ao (n+1) ct (.List es w1)=(.lst (eB n ct es)):=rfl
theorem oK:ao (n+1) ct (.Tuple es w1 w2)=(.tup (eB n ct es)):=rfl
theorem oR:ao (n+1) ct (.Dict ks vs w1)=(match ks,vs with
   | [],[]=>.dnew
   | [some (.Constant c _ _)],[v]=>match c with
    | .int i=>.dlit (.inl i) (ao n ct v)
    | .str z=>.dlit (.inr z) (ao n ct v)
    | _=>.never
   | _,_=>.never):=rfl
theorem oM:ao (n+1) ct (.Subscript a i w1)=(match i with
   | .Slice .. =>.never
   | i=>.ix (ao n ct a) (ao n ct i)):=rfl
theorem oU:ao (n+1) ct (.Call f es ks cp)=(match ks with
   | []=>match f with
    | .Name x _=>gw n ct x es
    | .Attribute o m ap=>if ap.endLine==cp.line then lf n ct o m es else .never
    | _=>.never
   | _=>.never):=rfl
theorem oO:ao (n+1) ct (.ListComp elt gs scope w1)=(match gs with
   | [⟨.Name t _,iter,ifs,0⟩]=>if wK ct t scope then(match slots ct.N (frees scope)with
    | some caps=>.lc (ao n (blk ct t scope) elt) (Aj n ct false iter) (match ifs with
     | []=>.no
     | [c]=>.yes (oG n (blk ct t scope) c)
     | _=>.yes (.val .never)) caps
    | none=>.never)else .never
   | _=>.never):=rfl
theorem z29:eB 0 w0 w1=.cons .never .nil:=rfl
theorem z2a:eB (n+1) ct es=(wF (es.map fun e=>if isStar e then .never else ao n ct e)):=rfl
theorem z2d:trO 0 w0 w1=.yes .never:=rfl
theorem z2e:trO (n+1) ct (none)=(.no):=rfl
theorem z2f:trO (n+1) ct (some e)=(.yes (ao n ct e)):=rfl
theorem GT:oG 0 w0 w1=.val .never:=rfl
theorem GQ:oG (n+1) ct (.UnaryOp op a p)=(match op with
   | .Not=>.not (oG n ct a)
   | op=>.val (ao n ct (.UnaryOp op a p))):=rfl
theorem GS:oG (n+1) ct (.BoolOp op vs w1)=(kQ op (vs.map (oG n ct))):=rfl
theorem GR:oG (n+1) ct (.IfExp w1 w2 w3 w4)=(.val .never):=rfl
theorem z1p:gw 0 w0 w1 w2=.never:=rfl
theorem z1q:gw (n+1) ct x es=(if uf x then .never else if ct.S.lookup x==some .globalImplicit then(match ct.F.lookup x with
  | some f=>match es with
   | []=>.never
   | es=>.call f (eB n ct es)
  | none=>if ct.B.contains x then(if x==("isinstance":Str)then(match es with
    | [a,.Name t _]=>match xO t with
     | some ty=>if isStar a then .never else if own ct t then .bf (.isin ty) (.cons (ao n ct a) .nil)else .never
     | none=>.never
    | _=>.never)else match es with
     | [.Call (.Name y _) [a] [] _]=>(match ug x y with
      | some f=>if isStar a|| !own ct y then .never else .bf f (.cons (ao n ct a) .nil)
      | none=>match lA x es.length with
       | some f=>.bf f (eB n ct es)
       | none=>.never)
     | [.ListComp elt gs scope _]=>(match uw x ct elt gs scope with
      | some (d,i)=>.bf .sum (.cons (.lci (ao n ct d) i) .nil)
      | none=>match lA x es.length with
       | some f=>.bf f (eB n ct es)
       | none=>.never)
     | es=>match lA x es.length with
      | some f=>.bf f (eB n ct es)
      | none=>.never)else .never)else .never):=rfl
theorem z2b:lf 0 w0 w1 w2 w3=.never:=rfl
theorem z2c:lf (n+1) ct o m es=(if plainB o then(match es with
  | _=>.never)else .never):=rfl
theorem z2v:Aj 0 w0 w1 w2=.never:=rfl
theorem z2w:Aj (n+1) ct tp e=(if cB e then .never else match uP e with
  | some a=>if isStar a|| !own ct ("reversed":Str)then .never else .rvd (ao n ct a)
  | none=>match ef e with
  | some (x,es)=>if x==("range":Str)then(if own ct x then .rng (eB n ct es)else .never)else if x==("zip":Str)then(match es with
    | [a,b]=>if isStar a||isStar b|| !tp|| !own ct x then .never else .zip (ao n ct a) (ao n ct b)
    | _=>.never)else if x==("enumerate":Str)then(match es with
    | [a]=>if isStar a|| !tp|| !own ct x then .never else .enum (ao n ct a)
    | _=>.never)else .seq (ao n ct e)
  | none=>.seq (ao n ct e)):=rfl
theorem vi:rL 0 w0 w1=.never:=rfl
theorem vY:rL (n+1) ct (.Return v w1)=(match v with
   | some e=>.ret (lU n ct e) (ao n ct e)
   | none=>.retN):=rfl
theorem vh:rL (n+1) ct (.Assign ts e w1)=(match ts with
   | [.Name x _]=>match loc ct x with
    | some i=>.asg i (ct.M.contains i) (IF ct x e++lV n ct e) (ao n ct e)
    | none=>.never
   | _=>.never):=rfl
theorem vb:rL (n+1) ct (.If c a b w1)=(.ife (oG n ct c) (aw n ct a) (aw n ct b)):=rfl
theorem vc:rL (n+1) ct (.For tg it body els w1)=(match els with
   | []=>match xT ct tg with
    | some (is,one)=>.forr is one (IG n ct it) (Aj n ct (!one) it) (aw n ct body)
    | none=>.never
   | _=>.never):=rfl
theorem vX:rL (n+1) ct (.While c body els w1)=(match els with
   | []=>.whil (oG n ct c) (aw n ct body)
   | _=>.never):=rfl
theorem va:rL (n+1) ct (.Pass w1)=(.pass):=rfl
theorem vf:rL (n+1) ct (.Break w1)=(.brk):=rfl
theorem ve:rL (n+1) ct (.Continue w1)=(.cont):=rfl
theorem vd:rL (n+1) ct (.Expr e w1)=(match e with
   | .Call (.Attribute (.Name x _) m ap) es [] cp=>if ap.endLine==cp.line then(match loc ct x with
    | some i=>(match es with
     | [a]=>if isStar a then .never else if m==("append":Str)then .app i (lV n ct a) (ao n ct a)else .never
     | _=>.never)
    | none=>.never)else .never
   | _=>.never):=rfl
theorem vZ:rL (n+1) ct (.Raise e c w1)=(match xq e c with
   | some x=>if ct.S.lookup x==some .globalImplicit&& !uf x then .rais x else .never
   | none=>.never):=rfl
theorem vg:rL (n+1) ct (.AugAssign t op e w1)=(match t with
   | .Name x _=>match loc ct x with
    | some i=>.aug i op (ao n ct e)
    | none=>.never
   | _=>.never):=rfl
theorem z2g:aw 0 w0 w1=.cons .never .nil:=rfl
theorem z2i:aw (n+1) ct ([])=(.nil):=rfl
theorem z2h:aw (n+1) ct (s::ss)=(.cons (rL n ct s) (aw n ct ss)):=rfl
end
end IR
namespace L2
open PySem PySem.Spec PyProof.Rows
section
variable{X:Cx}
theorem BL:cv X (binaryOp .Add) (fun x y H Q=>∃(l b:Addr)(xs zs:List V),x=.ref l/\y=.ref b/\bG X.K H l xs/\bG X.K H b zs/\xs.length+zs.length<=sizeLine/\∀p,H p=none->Q (.ref p) (upd H p (.lst (xs++zs)))):=by
 intro pins s σ H x y v u Q I rx ry h;obtain⟨l,b,xs,zs,rfl,rfl,hH,hB,hz,q⟩:=h;cases rx;cases ry;obtain⟨its,r,pl,_⟩:=I.list hH;obtain⟨its2,r2,pl2,_⟩:=I.list hB;have hl:=r.length;have hl2:=r2.length;obtain⟨⟨cls,dd,data,sl⟩,ho,hc,n,hd⟩:=id pl.isList;obtain⟨⟨cls2,dd2,data2,sl2⟩,ho2,hc2,n2,hd2⟩:=id pl2.isList;simp only at hc hd hc2 hd2;subst hc hd hc2 hd2;have e:its.toArray++its2.toArray=(its++its2).toArray:=by simp
 refine concat_meets ⟨_,ho,rfl⟩ ⟨_,ho2,rfl⟩ noFill_list_add seq_list_add PySem.F.slot_list_add PySem.F.entry_list_add (PySem.F.args_list_add_2 _ _) (list_addW l b its.toArray its2.toArray n n2 dd dd2 sl sl2 (by rw[Jb,Jb];omega)) ⟨ho,ho2,?_⟩;rw[e];exact⟨.ref _,_,I.lnew (t' :=s.toks) (r.append r2) (by rw[Jj];omega),rfl,q _ I.fresh⟩
theorem ue:cv X (binaryOp .Add) (fun x y H Q=>∃(a b:Addr)(xs ys:List V),x=.ref a/\y=.ref b/\bX X.K H a xs/\bX X.K H b ys/\xs.length+ys.length<=sizeLine/\∀p H',aD H H' ->bX X.K H' p (xs++ys)->Q (.ref p) H'):=by
 intro pins s σ H x y u v Q I rx ry h;obtain⟨a,b,xs,ys,rfl,rfl,ha,hb,hz,q⟩:=h
 by_cases hx:xs=[]
 ·subst hx
  cases rx;cases ry;obtain⟨its,r1,p1,_⟩:=I.tuple ha;obtain⟨its2,r2,p2,_⟩:=I.tuple hb;cases r1;obtain⟨⟨cls,dd,data,sl⟩,ho,hc,n,hd⟩:=id p1;obtain⟨⟨cls2,dd2,data2,sl2⟩,ho2,hc2,n2,hd2⟩:=id p2;simp only at hc hd hc2 hd2;subst hc hd hc2 hd2
  exact concat_meets ⟨_,ho,rfl⟩ ⟨_,ho2,rfl⟩ noFill_tuple_add seq_tuple_add PySem.F.slot_tuple_add PySem.F.entry_tuple_add (ML _ _)
   (tuple_addW0 a b #[] its2.toArray n n2 dd dd2 sl sl2 rfl) ⟨ho,ho2,⟨.ref b,H,I,rfl,q b H (aD.refl H) hb⟩⟩
 ·refine BK pins s σ H (.ref a) (.ref b) u v Q I rx ry ⟨a,b,xs,ys,rfl,rfl,ha,hb,hx,hz,fun e=> ?_,fun _ p hp=>q p _ (aJ hp _) (bX.of aC)⟩
  subst e;exact q a H (aD.refl H) (by rw[KL];exact ha)
end
end L2
namespace IR
open PySem PySem.Spec PyProof.Rows L2
noncomputable abbrev WE(X:Cx)(e:Expr)(σ:L2.St)(H:Hp)(Q:VK):Prop:=∀(pins:List (Addr×Obj))(s:Shared),Inv X pins σ H s->wpAny (model X.prog X.w) X.A (eval e X.env) (EP X pins σ Q) X.xe s
noncomputable abbrev WT(X:Cx)(e:Expr)(σ:L2.St)(H:Hp)(Q:Bool->Hp->Prop):Prop:=∀(pins:List (Addr×Obj))(s:Shared),Inv X pins σ H s->wpAny (model X.prog X.w) X.A (isTrue e X.env (eval e X.env)) (TP X pins σ Q) X.xe s
noncomputable abbrev WA(X:Cx)(es:List Expr)(σ:L2.St)(H:Hp)(Q:List V->Hp->Prop):Prop:=∀(pos:Pos)(pins:List (Addr×Obj))(s:Shared),Inv X pins σ H s->wpAny (model X.prog X.w) X.A (spliced (backTo pos (starEach es X.env))) (AP X pins σ Q) X.xe s
theorem aZ{X:Cx}{e:Expr}:PE X e (fun σ H Q=>WE X e σ H Q):=fun pins s σ H Q I h=>h pins s I
theorem lK{X:Cx}{e:Expr}:PT X e (fun σ H Q=>WT X e σ H Q):=fun pins s σ H Q I h=>h pins s I
theorem sU{X:Cx}{e:List Expr}:PA X e (fun σ H Q=>WA X e σ H Q):=fun pos pins s σ H Q I h=>h pos pins s I
theorem we{X:Cx}{e:Expr}{t:TE}{σ:L2.St}{H:Hp}{Q:VK}(h:PE X e t)(q:t σ H Q):WE X e σ H Q:=fun pins s I=>h pins s σ H Q I q
theorem wt{X:Cx}{e:Expr}{t:TT}{σ:L2.St}{H:Hp}{Q:Bool->Hp->Prop}(h:PT X e t)(q:t σ H Q):WT X e σ H Q:=fun pins s I=>h pins s σ H Q I q
theorem wa{X:Cx}{e:List Expr}{t:TA}{σ:L2.St}{H:Hp}{Q:List V->Hp->Prop}(h:PA X e t)(q:t σ H Q):WA X e σ H Q:=fun pos pins s I=>h pos pins s σ H Q I q
noncomputable def AN(K:W.Frag)(m:List PV->Option PV):Sp:=fun vs H Q _=>∃pvs r,aH K H false pvs H vs/\m pvs=some r/\∀u H',aD H H' ->Rp K H true r H' u->Q u H'
structure bt(cd:Nat->List PV->Option PV)(X:Cx)(ct:Ct):Prop where
 N:X.N=ct.N
 nd:ct.N.Nodup
 S:X.env.scope.names=ct.S
 kind:X.env.scope.kind=.function
 calm:X.calm=true
 glob:∀x v,ct.G.lookup x=some v->∃u w,X.mg x=some u/\RelV w u/\∀Hi n H,Rp X.K Hi n v H w
 bl:∀x,ct.B.contains x=true->X.mg x=none
 fns:∀x f,ct.F.lookup x=some f->∃k a fd ps,cY X.prog X.w X.K X.mg X.base oE k a fd ps (AN X.K (cd f))/\fJ k X.A/\X.mg x=some (.ref a)/\W.keepIn X.K (.ref a)=true/\Binds X.K fd ps []
 xe:PassesOwn (model X.prog X.w) X.A X.env X.xe
 un:X.A.units+64<cLine
section
variable{X:Cx}{Hi:Hp}{τ:En}
variable(X Hi τ)in
noncomputable def aI(e:Expr)(r:RV):Prop:=∀(O:List Addr)(σ:L2.St)(H:Hp)(Q:VK),aq X.K Hi O τ σ H->(∀u H',aD H H' ->ag X.K Hi O H H' r u->Q u H')->WE X e σ H Q
variable(X Hi τ)in
noncomputable def dz(e:Expr)(b:Bool):Prop:=∀(O:List Addr)(σ:L2.St)(H:Hp)(Q:Bool->Hp->Prop),aq X.K Hi O τ σ H->(∀H',aD H H' ->Q b H')->WT X e σ H Q
variable(X Hi)in
noncomputable def cC(O:List Addr)(H H' :Hp):List RV->List V->Prop
 | [],us=>us=[]
 | r::rs,us=>∃u vs,us=u::vs/\ag X.K Hi O H H' r u/\cC O H H' rs vs
variable(X Hi τ)in
noncomputable def oF(es:List Expr)(rs:List RV):Prop:=∀(O:List Addr)(σ:L2.St)(H:Hp)(Q:List V->Hp->Prop),aq X.K Hi O τ σ H->(∀us H',aD H H' ->cC X Hi O H H' rs us->Q us H')->WA X es σ H Q
theorem eG:sizeLine=16777216:=KC
theorem cC.ext{O:List Addr}{H H' H2:Hp}(s:aD H' H2):∀{rs:List RV}{us:List V},cC X Hi O H H' rs us->cC X Hi O H H2 rs us
 | [],_,h=>h
 | r::rs,_,h=>by
  obtain⟨u,vs,e,a,b⟩:=h;exact⟨u,vs,e,a.ext s,cC.ext s b⟩
theorem cC.back{O:List Addr}{H0 H H' :Hp}(s:aD H0 H):∀{rs:List RV}{us:List V},cC X Hi O H H' rs us->cC X Hi O H0 H' rs us
 | [],_,h=>h
 | r::rs,_,h=>by
  obtain⟨u,vs,e,a,b⟩:=h;exact⟨u,vs,e,a.back s,cC.back s b⟩
theorem cC.vals{O:List Addr}{σ:L2.St}{H H' :Hp}(R:aq X.K Hi O τ σ H)(s:aD H H'):∀{rs:List RV}{us:List V},cC X Hi O H H' rs us->aH X.K Hi false (rs.map RV.val) H' us
 | [],_,h=>by cases h;exact .nil
 | r::rs,_,h=>by
  obtain⟨u,vs,rfl,a,b⟩:=h;exact .cons (a.val R s) (cC.vals R s b)
theorem cC.keeps{O:List Addr}{σ:L2.St}{H H' :Hp}(R:aq X.K Hi O τ σ H)(s:aD H H'):∀{rs:List RV}{us:List V}{vs:List PV}{n:Bool},cC X Hi O H H' rs us->IR.keeps rs=some (vs,n)->aH X.K Hi n vs (aW H' O) us
 | [],_,_,_,h,e=>by cases h;cases e;exact .nil
 | r::rs,_,vs,n,h,e=>by
  obtain⟨u,ws,rfl,a,b⟩:=h;unfold IR.keeps at e;cases hk:r.keep with
  | none=>rw[hk]at e;cases e
  | some p =>
   obtain⟨v,n1⟩:=p;rw[hk]at e;cases hs:IR.keeps rs with
   | none=>rw[hs]at e;cases e
   | some p =>
    obtain⟨vs',n2⟩:=p;rw[hs]at e;cases e;refine .cons ((a.keep R s hk).low fun z=> ?_) ((cC.keeps R s b hs).low fun z=> ?_)
    ·rw[JU]at z;exact z.1
    ·rw[JU]at z;exact z.2
theorem fK{v:PV}{u:V}{O:List Addr}{H H' :Hp}(h:∀G,Rp X.K Hi true v G u):ag X.K Hi O H H' (sc v) u:=h _
theorem qm{c:Const}{k:Nat}{pos:Pos}{r:RV}{cd:Nat->List PV->Option PV}(h:ac cd (mj c) τ=some r):aI X Hi τ (.Constant c k pos) r:=by
 intro O σ H Q R q;cases c with
 | int i =>
  cases h;exact we cR (q _ _ (aD.refl _) (fK fun _=>Rp.int.mpr rfl))
 | bool b =>
  cases h;exact we HU (q _ _ (aD.refl _) (fK fun _=>Rp.bl.mpr rfl))
 | str b =>
  cases h;exact we sR (q _ _ (aD.refl _) (fK fun _=>Rp.str.mpr rfl))
 | none =>
  cases h;exact we EH (q _ _ (aD.refl _) (fK fun _=>Rp.non.mpr rfl))
 | _=>cases h
theorem xJ{S:List (Str×NameKind)}{sc:Scope}(e:sc.names=S){x:Str}(h:DO S x=true):GO sc x:=by
 unfold DO at h;unfold GO;rw[e]
 simpa [Kh,or_assoc]using h
theorem cS{x:Str}(h:uf x=false):(x==("__debug__":Str))=false/\(x==("__classdict__":Str))=false/\x≠"__name__":=by
 unfold uf at h;simp only[Bool.or_eq_false_iff]at h;exact⟨h.1.1,h.1.2,fun e=>by rw[e]at h;simp at h⟩
theorem jU{cd:Nat->List PV->Option PV}{ct:Ct}(C:bt cd X ct){x:Str}{pos:Pos}{r:RV}(h:ac cd (bN ct x) τ=some r):aI X Hi τ (.Name x pos) r:=by
 intro O σ H Q R q;unfold bN at h
 split at h
 ·simp[de,dP,di,dS,df,dg,dm,d0,dR,dZ,dh,dk,dU,dQ,d7,dc,dY,dX,dW,d6]at h
 rename_i ho;obtain⟨o1,o2,o3⟩:=cS (LF.mpr ho)
 split at h
 ·rename_i hv
  cases hs:slot ct.N x with
  | none=>rw[hs]at h;simp[de,dP,di,dS,df,dg,dm,d0,dR,dZ,dh,dk,dU,dQ,d7,dc,dY,dX,dW,d6]at h
  | some i =>
   rw[hs]at h;have h:qO τ i=some r:=by simpa [de,dP,di,dS,df,dg,dm,d0,dR,dZ,dh,dk,dU,dQ,d7,dc,dY,dX,dW,d6]using h
   refine we (sO (by rw[C.N];exact fB hs) (xJ C.S hv) o1 o2) ?_;unfold qO at h;cases ht:τ[i]? with
   | none=>rw[ht]at h;cases h
   | some t =>
    rw[ht]at h;cases t with
    | un=>cases h
    | frz v n =>
     cases h;obtain⟨u,h1,h2⟩:=R.frz i v n ht;exact⟨u,h1,q u H (aD.refl _) h2⟩
    | own xs n =>
     cases h;obtain⟨l,us,h1,h2,h3,h4⟩:=R.owns i xs n ht;refine⟨_,h1,q _ H (aD.refl _) ?_⟩;refine Rp.lst.mpr ⟨l,us,rfl,(fun z=>absurd z JT),bG.of h3,h4.weak.mono fun b o e=> ?_⟩;unfold aW at e
     split at e
     ·cases e
     ·rename_i nb
      unfold del;have ne:b≠l:=fun z=>nb (z▸h2);rw[JR ne];exact e
    | owd b xs n =>
     cases h;obtain⟨l,us,o,h1,h2,h3,ha,h4⟩:=R.obs i _ b xs n ht rfl;refine⟨_,h1,q _ H (aD.refl _) ?_⟩;refine Rp.at (fun z=>absurd z JT) h3 ha (h4.weak.mono fun c o e=> ?_);unfold aW at e
     split at e
     ·cases e
     ·rename_i nb
      unfold del;have ne:c≠l:=fun z=>nb (z▸h2);rw[JR ne];exact e
 ·split at h
  ·rename_i hg
   cases hx:ct.G.lookup x with
   | none=>rw[hx]at h;simp[de,dP,di,dS,df,dg,dm,d0,dR,dZ,dh,dk,dU,dQ,d7,dc,dY,dX,dW,d6]at h
   | some v =>
    rw[hx]at h;have h:some (sc v)=some r:=by simpa [de,dP,di,dS,df,dg,dm,d0,dR,dZ,dh,dk,dU,dQ,d7,dc,dY,dX,dW,d6]using h
    cases h;obtain⟨u,w,h1,h2,h3⟩:=C.glob x v hx;have g:Gl X x:=by
     show X.env.scope.names.lookup x=_;rw[C.S]
     simpa using hg
    exact we (BD g h1 h2 o1) (q _ _ (aD.refl _) (fK fun _=>h3 _ _ _))
  ·simp[de,dP,di,dS,df,dg,dm,d0,dR,dZ,dh,dk,dU,dQ,d7,dc,dY,dX,dW,d6]at h
theorem kx{a b:Expr}{op:Operator}{pos:Pos}{x y r:RV}{rr:R2}(ho:cv X (binaryOp op) rr)(ha:aI X Hi τ a x)(hb:aI X Hi τ b y)
  (k:∀(O:List Addr)(σ:L2.St)(H H2:Hp)(u v:V)(Q:VK),aq X.K Hi O τ σ H->aD H H2->ag X.K Hi O H H2 x u->ag X.K Hi O H H2 y v->(∀w H3,aD H2 H3->ag X.K Hi O H H3 r w->Q w H3)->rr u v H2 Q) :
  aI X Hi τ (.BinOp a op b pos) r:=by
 intro O σ H Q R q;refine we (eP ho aZ aZ) ?_;refine ha O σ H _ R fun u H1 s1 r1=>hb O σ H1 _ (R.ext s1) fun v H2 s2 r2=> ?_;exact k O σ H H2 u v Q R (s1.trans s2) (r1.ext s2) (r2.back s1) fun w H3 s3 r3=>q w H3 (s1.trans (s2.trans s3)) r3
theorem ag.int{O:List Addr}{σ:L2.St}{H H' :Hp}{x:RV}{u:V}{i:Int}(R:aq X.K Hi O τ σ H)(s:aD H H')(h:ag X.K Hi O H H' x u)(e:x.val=.int i):u=.int i:=by
 have z:=h.val R s;rw[e]at z;exact Rp.int.mp z
theorem ag.str{O:List Addr}{σ:L2.St}{H H' :Hp}{x:RV}{u:V}{i:Str}(R:aq X.K Hi O τ σ H)(s:aD H H')(h:ag X.K Hi O H H' x u)(e:x.val=.str i):u=.str i:=by
 have z:=h.val R s;rw[e]at z;exact Rp.str.mp z
theorem ag.bl{O:List Addr}{σ:L2.St}{H H' :Hp}{x:RV}{u:V}{i:Bool}(R:aq X.K Hi O τ σ H)(s:aD H H')(h:ag X.K Hi O H H' x u)(e:x.val=.bl i):u=.bl i:=by
 have z:=h.val R s;rw[e]at z;exact Rp.bl.mp z
theorem ag.tup{O:List Addr}{σ:L2.St}{H H' :Hp}{x:RV}{u:V}{ys:List PV}(R:aq X.K Hi O τ σ H)(s:aD H H')(h:ag X.K Hi O H H' x u)(e:x.val=.tup ys):∃p us,u=.ref p/\bX X.K H' p us/\aH X.K Hi false ys H' us:=by
 have z:=h.val R s;rw[e]at z;exact Rp.tup.mp z
theorem ag.lst{O:List Addr}{σ:L2.St}{H H' :Hp}{x:RV}{u:V}{ys:List PV}(R:aq X.K Hi O τ σ H)(s:aD H H')(h:ag X.K Hi O H H' x u)(e:x.val=.lst ys):∃p us,u=.ref p/\bG X.K H' p us/\aH X.K Hi false ys H' us:=by
 have z:=h.val R s;rw[e]at z;obtain⟨p,us,h1,_,h2,h3⟩:=Rp.lst.mp z;exact⟨p,us,h1,h2,h3.mono bW⟩
theorem ag.itsL{O:List Addr}{σ:L2.St}{H H' :Hp}{r:RV}{u:V}{xs ys:List PV}{n:Bool}(R:aq X.K Hi O τ σ H)(s:aD H H')(h:ag X.K Hi O H H' r u)(e:r.its=some (xs,n))(ev:r.val=.lst ys) :
  ∃p us,u=.ref p/\bG X.K H' p us/\aH X.K Hi n xs (aW H' O) us:=by
 obtain⟨p,us,h1,h2,h3⟩:=h.its R s e
 rcases h2 with⟨h2,_⟩|⟨_,zs,h2⟩
 ·exact⟨p,us,h1,h2,h3⟩
 ·rw[ev]at h2
  cases h2
theorem ag.itsT{O:List Addr}{σ:L2.St}{H H' :Hp}{r:RV}{u:V}{xs ys:List PV}{n:Bool}(R:aq X.K Hi O τ σ H)(s:aD H H')(h:ag X.K Hi O H H' r u)(e:r.its=some (xs,n))(ev:r.val=.tup ys) :
  ∃p us,u=.ref p/\bX X.K H' p us/\aH X.K Hi n xs (aW H' O) us:=by
 obtain⟨p,us,h1,h2,h3⟩:=h.its R s e
 rcases h2 with⟨_,zs,h2⟩|⟨h2,_⟩
 ·rw[ev]at h2
  cases h2
 ·exact⟨p,us,h1,h2,h3⟩
theorem fC{O:List Addr}{H H2:Hp}{xs:List PV}{n:Bool}{p:Addr}{us:List V}(s:aD H H2)(hp:H2 p=none)(r:aH X.K Hi n xs (aW H2 O) us):ag X.K Hi O H (L2.upd H2 p (.lst us)) (.own xs n) (.ref p):=by
 refine⟨p,us,rfl,s.free hp,aC,r.mono (aP fun b o e=> ?_)⟩;have ne:=aE e hp;unfold del;rw[JR ne,aB ne];exact e
theorem vB{O:List Addr}{σ:L2.St}{H H2:Hp}{p:Addr}{o:HO}(R:aq X.K Hi O τ σ H)(s:aD H H2)(hp:H2 p=none):aW (L2.upd H2 p o) O p=some o:=by
 unfold aW;rw[JR fun z=> ?_]
 ·exact aC
 ·obtain⟨us,e,_⟩:=(R.own p z).2
  rw[s _ _ e]at hp;cases hp
theorem vA{O:List Addr}{σ:L2.St}{H H2:Hp}{p:Addr}{us:List V}(R:aq X.K Hi O τ σ H)(s:aD H H2)(h:bX X.K H2 p us):bX X.K (aW H2 O) p us:=(R.ext s).tups.at h
theorem Eh{n m:Bool}{xs ys:List PV}{H:Hp}{us vs:List V}(a:aH X.K Hi n xs H us)(b:aH X.K Hi m ys H vs):aH X.K Hi (n&&m) (xs++ys) H (us++vs):=by
 refine aH.app (a.low fun z=> ?_) (b.low fun z=> ?_)
 ·rw[JU]at z;exact z.1
 ·rw[JU]at z;exact z.2
theorem xf{O:List Addr}{H H' :Hp}{i:Int}:ag X.K Hi O H H' (sc (.int i)) (.int i):=fK fun _=>Rp.int.mpr rfl
theorem Cy{O:List Addr}{H H' :Hp}{i:Bool}:ag X.K Hi O H H' (sc (.bl i)) (.bl i):=fK fun _=>Rp.bl.mpr rfl
theorem scS{O:List Addr}{H H' :Hp}{i:Str}:ag X.K Hi O H H' (sc (.str i)) (.str i):=fK fun _=>Rp.str.mpr rfl
theorem uk{xs:List PV}{n:Bool}{r:RV}(h:pj xs n=some r):xs.length<=LN/\r=.own xs n:=by
 unfold pj at h
 split at h
 ·rename_i e;cases h;exact⟨e,rfl⟩
 ·cases h
theorem uj{xs:List PV}{n:Bool}{r:RV}(h:pi xs n=some r):xs.length<=LN/\r=.frz (.tup xs) n:=by
 unfold pi at h
 split at h
 ·rename_i e;cases h;exact⟨e,rfl⟩
 ·cases h
theorem binI{a b:Expr}{op:Operator}{pos:Pos}{x y:RV}{i j:Int}{C:Int->Int->Prop}{g:Int->Int->V}{w:PV}(ho:cv X (binaryOp op) (rI C g))(ha:aI X Hi τ a x)(hb:aI X Hi τ b y)(ex:x.val=.int i)(ey:y.val=.int j)(c:C i j)
  (hg:∀G,Rp X.K Hi true w G (g i j)):aI X Hi τ (.BinOp a op b pos) (sc w) :=
 kx ho ha hb fun O σ H H2 u v Q R s ru rv q=>⟨i,j,ru.int R s ex,rv.int R s ey,c,q _ _ (aD.refl _) (fK hg)⟩
theorem zq{a b:Expr}{op:Operator}{pos:Pos}{x y:RV}{i j:Int}{g:Int->Int->V}{w:PV}(ho:cv X (binaryOp op) (xr g))(ha:aI X Hi τ a x)(hb:aI X Hi τ b y)(ex:x.val=.int i)(ey:y.val=.int j)
  (hg:∀G,Rp X.K Hi true w G (g i j)):aI X Hi τ (.BinOp a op b pos) (sc w) :=
 kx ho ha hb fun O σ H H2 u v Q R s ru rv q=>⟨i,j,ru.int R s ex,rv.int R s ey,q _ _ (aD.refl _) (fK hg)⟩
theorem aH.rep{n:Bool}{xs:List PV}{H:Hp}{us:List V}(h:aH X.K Hi n xs H us):∀k:Nat,aH X.K Hi n (List.replicate k xs).flatten H (List.replicate k us).flatten
 | 0=>by simp;exact .nil
 | k+1=>by
  rw[Kv,LU,Kv,LU];exact h.app (aH.rep h k)
theorem rE{a b:Expr}{op:Operator}{pos:Pos}{x y r:RV}(ha:aI X Hi τ a x)(hb:aI X Hi τ b y)(h:dO op x y=some r):aI X Hi τ (.BinOp a op b pos) r:=by
 cases op with
 | Add =>
  have h:tY x y=some r:=h;unfold tY at h
  split at h
  case h_1 i j e1 e2=>cases h;exact zq jv ha hb e1 e2 fun _=>Rp.int.mpr rfl
  case h_2 i j e1 e2 =>
   split at h
   ·rename_i hz
    cases h;exact kx sV ha hb fun O σ H H2 u v Q R s ru rv q=>⟨i,j,ru.str R s e1,rv.str R s e2,by rw[eG];exact hz,q _ _ (aD.refl _) scS⟩
   ·cases h
  case h_3 e1 e2 =>
   split at h
   ·rename_i xs n ys m ix iy
    obtain⟨hz,rfl⟩:=uk h;refine kx BL ha hb fun O σ H H2 u v Q R s ru rv q=> ?_;obtain⟨p,us,rfl,l1,r1⟩:=ru.itsL R s ix e1;obtain⟨p2,us2,rfl,l2,r2⟩:=rv.itsL R s iy e2;have z1:=r1.len;have z2:=r2.len;rw[Jj]at hz;exact⟨p,p2,us,us2,rfl,rfl,l1,l2,by rw[eG,<-z1,<-z2];exact hz,fun p3 hp=>q _ _ (aJ hp _) (fC s hp (Eh r1 r2))⟩
   ·cases h
  case h_4 e1 e2 =>
   split at h
   ·rename_i xs n ys m ix iy
    obtain⟨hz,rfl⟩:=uj h;refine kx ue ha hb fun O σ H H2 u v Q R s ru rv q=> ?_;obtain⟨p,us,rfl,l1,r1⟩:=ru.itsT R s ix e1;obtain⟨p2,us2,rfl,l2,r2⟩:=rv.itsT R s iy e2;have z1:=r1.len;have z2:=r2.len;rw[Jj]at hz;exact⟨p,p2,us,us2,rfl,rfl,l1,l2,by rw[eG,<-z1,<-z2];exact hz,fun p3 H3 s3 l3=>q _ _ s3 (Rp.tup.mpr ⟨p3,_,rfl,vA R (s.trans s3) l3,(Eh r1 r2).mono (aP s3)⟩)⟩
   ·cases h
  case h_5=>cases h
 | Sub =>
  have h:tW x y=some r:=h;unfold tW at h
  split at h
  case h_1 i j e1 e2=>cases h;exact zq EK ha hb e1 e2 fun _=>Rp.int.mpr rfl
  case h_2=>cases h
 | Mult =>
  have h:oB x y=some r:=h;unfold oB at h
  split at h
  case h_1 i j e1 e2 =>
   split at h
   ·rename_i c
    cases h;exact binI EO ha hb e1 e2 c fun _=>Rp.int.mpr rfl
   ·split at h
    ·rename_i c
     cases h;exact binI BJ ha hb e1 e2 c fun _=>Rp.int.mpr rfl
    ·cases h
  case h_2=>cases h
 | FloorDiv =>
  have h:eg x y=some r:=h;unfold eg at h
  split at h
  case h_1 i j e1 e2 =>
   split at h
   ·rename_i c
    cases h;exact binI yO ha hb e1 e2 ⟨c.1,LL ((Nat.log2_lt (n:=j.natAbs) (k:=200) (by omega)).mpr (by omega)) (by decide)⟩ fun _=>Rp.int.mpr rfl
   ·cases h
  case h_2=>cases h
 | Mod =>
  have h:tX x y=some r:=h;unfold tX at h
  split at h
  case h_1 i j e1 e2 =>
   split at h
   ·rename_i c
    cases h;exact binI EQ ha hb e1 e2 c fun _=>Rp.int.mpr rfl
   ·cases h
  case h_2=>cases h
 | LShift =>
  have h:iK x y=some r:=h;unfold iK at h
  split at h
  case h_1 i j e1 e2 =>
   split at h
   ·rename_i c
    cases h;exact binI EL ha hb e1 e2 c fun _=>Rp.int.mpr rfl
   ·cases h
  case h_2=>cases h
 | BitAnd =>
  have h:iL x y=some r:=h;unfold iL at h
  split at h
  case h_1 i j e1 e2=>cases h;exact zq yP ha hb e1 e2 fun _=>Rp.int.mpr rfl
  case h_2=>cases h
 | _=>exact absurd (show(none:Option RV)=some r from h) (by intro z;cases z)
mutual
theorem bC{pins:List (Addr×Obj)}{σ:L2.St}{H:Hp}{s:Shared}(I:Inv X pins σ H s):∀{a:PV}{n:Nat}{u:V}{u' :Value},cq n a=true->Rp X.K Hi false a H u->RelV u u' ->∃as,Reads s.heap u' (lT a) as
 | .non,_,_,_,_,r,e=>by cases Rp.non.mp r;cases e;exact⟨_,.none⟩
 | .bl b,_,_,_,_,r,e=>by cases Rp.bl.mp r;cases e;exact⟨_,.bool b⟩
 | .int i,_,_,_,_,r,e=>by cases Rp.int.mp r;obtain⟨t,rfl⟩:=e;exact⟨_,.int i t⟩
 | .str z,_,_,_,_,r,e=>by cases Rp.str.mp r;obtain⟨t,rfl⟩:=e;exact⟨_,.str z t⟩
 | .lst xs,n,_,_,f,r,e=>by
  obtain⟨p,us,rfl,_,l,r⟩:=Rp.lst.mp r;cases e;cases n with
  | zero=>cases f
  | succ n =>
   obtain⟨its,rv,pl,_⟩:=I.list l;obtain⟨as,z⟩:=fq I (xs:=xs) (n:=n) f (r.mono bW) rv;obtain⟨o,ho,hc,m,hd⟩:=pl.isList;exact⟨_,.list ho hc hd (by simpa using z)⟩
 | .tup xs,n,_,_,f,r,e=>by
  obtain⟨p,us,rfl,l,r⟩:=Rp.tup.mp r;cases e;cases n with
  | zero=>cases f
  | succ n =>
   obtain⟨its,rv,pl,_⟩:=I.tuple l;obtain⟨as,z⟩:=fq I (xs:=xs) (n:=n) f r rv;obtain⟨o,ho,hc,m,hd⟩:=pl;exact⟨_,.tuple ho hc hd (by simpa using z)⟩
 | .dK _ _,n,_,_,f,_,_=>by cases n<;>cases f
 | .dT _ _,n,_,_,f,_,_=>by cases n<;>cases f
theorem fq{pins:List (Addr×Obj)}{σ:L2.St}{H:Hp}{s:Shared}(I:Inv X pins σ H s):∀{xs:List PV}{n:Nat}{us:List V}{us' :List Value},xs.all (cq n)=true->aH X.K Hi false xs H us->aL us us' ->∃as,ReadsAll s.heap us' (dM xs) as
 | [],_,_,_,_,r,e=>by
  unfold aH at r;subst r;cases e;exact⟨_,.nil⟩
 | x::xs,n,_,_,f,r,e=>by
  unfold aH at r;obtain⟨u,us,rfl,r1,r2⟩:=r;cases e with
  | cons e1 e2 =>
   rw[Lm,JU]at f;obtain⟨as,z⟩:=bC I f.1 r1 e1;obtain⟨bs,y⟩:=fq I f.2 r2 e2;exact⟨_,.cons z y⟩
end
mutual
theorem cf:∀{a:PV}{n:Nat},cq n a=true->(lT a).canLay0=true/\(lT a).depth<=n
 | .non,n,_=>⟨rfl,Js _⟩
 | .bl _,n,_=>⟨rfl,Js _⟩
 | .int _,n,_=>⟨rfl,Js _⟩
 | .str z,n,h=>⟨by cases n<;>exact h,Js _⟩
 | .lst xs,0,h=>by cases h
 | .lst xs,n+1,h=>⟨(dL (xs:=xs) (n:=n) h).1,Nat.succ_le_succ (dL (xs:=xs) (n:=n) h).2⟩
 | .tup xs,0,h=>by cases h
 | .tup xs,n+1,h=>⟨(dL (xs:=xs) (n:=n) h).1,Nat.succ_le_succ (dL (xs:=xs) (n:=n) h).2⟩
 | .dK _ _,n,h=>by cases n<;>cases h
 | .dT _ _,n,h=>by cases n<;>cases h
theorem dL:∀{xs:List PV}{n:Nat},xs.all (cq n)=true->PyData.canLayAll0 (dM xs)=true/\PyData.depthAll (dM xs)<=n
 | [],n,_=>⟨rfl,Js _⟩
 | x::xs,n,h=>by
  rw[Lm,JU]at h;obtain⟨a,b⟩:=cf h.1;obtain⟨c,d⟩:=dL h.2;refine⟨?_,?_⟩
  ·show((lT x).canLay0&&PyData.canLayAll0 (dM xs))=true
   rw[a,c];rfl
  ·show max (lT x).depth (PyData.depthAll (dM xs))<=n
   omega
end
mutual
theorem gZ:∀(a b:PV),PyData.eqv (lT a) (lT b)=lG a b
 | .lst xs,b=>by
  cases b with
  | lst ys=>show PyData.eqvAll (dM xs) (dM ys)=iB xs ys;exact kT xs ys
  | _=>rfl
 | .tup xs,b=>by
  cases b with
  | tup ys=>show PyData.eqvAll (dM xs) (dM ys)=iB xs ys;exact kT xs ys
  | _=>rfl
 | .non,b=>by cases b<;>rfl
 | .bl x,b=>by cases b<;>first|rfl|exact beq_eq_decide _ _|(unfold lG;simp[lT,PyData.eqv,Bz,Lx])
 | .int x,b=>by cases b<;>first|rfl|exact beq_eq_decide _ _|(unfold lG;simp[lT,PyData.eqv,Bz,Lx])
 | .str x,b=>by cases b<;>first|rfl|exact beq_eq_decide _ _|(unfold lG;simp[lT,PyData.eqv,Bz,Lx])
 | .dK k v,b=>by cases b<;>rfl
 | .dT k v,b=>by cases b<;>rfl
theorem kT:∀(xs ys:List PV),PyData.eqvAll (dM xs) (dM ys)=iB xs ys
 | [],[]=>rfl
 | [],_::_=>rfl
 | _::_,[]=>rfl
 | x::xs,y::ys=>by
  show(PyData.eqv (lT x) (lT y)&&PyData.eqvAll (dM xs) (dM ys))=(lG x y&&iB xs ys);rw[gZ x y,kT xs ys]
end
theorem kZ(x:PV):∀ys:List PV,((dM ys).any fun y=>PyData.eqv y (lT x))=ys.any fun y=>lG y x
 | []=>rfl
 | y::ys=>by
  show(PyData.eqv (lT y) (lT x)||(dM ys).any fun y=>PyData.eqv y (lT x))=(lG y x||ys.any fun y=>lG y x);rw[gZ,kZ x ys]
variable(X Hi)in
noncomputable def HJ(g:Bool->Bool):R2:=fun x y H Q=>∃a b,cq 12 a=true/\cq 12 b=true/\Rp X.K Hi false a H x/\Rp X.K Hi false b H y/\Q (.bl (g (lG a b))) H
theorem ER(hu:X.A.units+64<cLine):cv X (compareOp .Eq) (HJ X Hi id):=by
 intro pins s σ H x y u v Q I rx ry h;obtain⟨a,b,fa,fb,ra,rb,q⟩:=h;obtain⟨as,za⟩:=bC I fa ra rx;obtain⟨bs,zb⟩:=bC I fb rb ry;obtain⟨ca,da⟩:=cf fa;obtain⟨cb,db⟩:=cf fb;refine SeqAt.compareEq_reads za zb ca cb (by omega) ?_;rw[gZ];exact⟨.bl _,H,I,rfl,q⟩
theorem EN(hu:X.A.units+64<cLine):cv X (compareOp .NotEq) (HJ X Hi not):=by
 intro pins s σ H x y u v Q I rx ry h;obtain⟨a,b,fa,fb,ra,rb,q⟩:=h;obtain⟨as,za⟩:=bC I fa ra rx;obtain⟨bs,zb⟩:=bC I fb rb ry;obtain⟨ca,da⟩:=cf fa;obtain⟨cb,db⟩:=cf fb;refine SeqAt.compareNe_reads za zb ca cb (by omega) ?_;rw[gZ];exact⟨.bl _,H,I,rfl,q⟩
variable(X Hi)in
noncomputable def rIn2(g:Bool->Bool):R2:=fun x y H Q=>∃a ys,cq 12 a=true/\ys.all (cq 12)=true/\Rp X.K Hi false a H x/\(Rp X.K Hi false (.lst ys) H y\/Rp X.K Hi false (.tup ys) H y)/\Q (.bl (g (ys.any fun y=>lG y a))) H
theorem uc(hu:X.A.units+64<cLine):cv X (compareOp .NotIn) (rIn2 X Hi not):=by
 intro pins s σ H x y u v Q I rx ry h;obtain⟨a,ys,fa,fb,ra,rb,q⟩:=h;obtain⟨as,za⟩:=bC I fa ra rx;obtain⟨ca,da⟩:=cf fa;obtain⟨cb,db⟩:=dL fb
 rcases rb with rb|rb
 ·obtain⟨bs,zb⟩:=bC I (a:=.lst ys) (n:=13) fb rb ry
  refine SeqAt.notIn_list_reads zb za cb ca (by omega) ?_;rw[kZ];exact⟨.bl _,H,I,rfl,q⟩
 ·obtain⟨bs,zb⟩:=bC I (a:=.tup ys) (n:=13) fb rb ry
  refine SeqAt.notIn_tuple_reads zb za cb ca (by omega) ?_;rw[kZ];exact⟨.bl _,H,I,rfl,q⟩
noncomputable def GD(A:Around)(s:Shared)(a b:Value)(t:Bool):Prop:=∀(prog:Program)(w:World)(E:Value->Shared->Prop)(Q:Value->Shared->Prop),Q (.bool t) s->wpAny (model prog w) A (richCompare .Lt a b) Q E s
inductive OW(A:Around)(s:Shared):List (Value×Value)->Option Bool->Prop
 | nil:OW A s [] none
 | eq {p q:Value} {r:List (Value×Value)} {t:Option Bool}:SeqAt.EqAt A s p q true->OW A s r t->OW A s ((p,q)::r) t
 | ne {p q:Value} {r:List (Value×Value)} {t:Bool}:SeqAt.EqAt A s p q false->GD A s p q t->OW A s ((p,q)::r) (some t)
theorem DS(l b:Addr)(xs ys:Array Value)(n n2:Nat)(d1 d2:Option Addr)(sl sl2:Array (Option Value)):Meets (Builtin.«tuple.__lt__» ⟨[.ref l,.ref b],[]⟩)
  (fun A R s=>s.heap.get? l=some ⟨.type "tuple",d1,.seq xs n,sl⟩/\s.heap.get? b=some ⟨.type "tuple",d2,.seq ys n2,sl2⟩ /\
   ∃t:Option Bool,OW A.in1 s (xs.toList.zip ys.toList) t/\R (.ok (.ret (.bool (t.getD (decide (xs.size<ys.size)))))) s) :=
 .of_wp fun prog w A R s h=>by
  obtain⟨hp,g,d,tk,os⟩:=s;obtain⟨h1,h2,t,ow,hR⟩:=h;have f2:=AutoSeq1.sub_tuple_tuple
  wp_walk using AutoSeq1.wpAny_loadPart' h1,AutoSeq1.wpAny_loadPart' h2,wpAny_forIn_list _ (fun aN c s' =>c.1=none/\s' =⟨hp,g,d,tk,os⟩/\∃t:Option Bool,OW A.in1 ⟨hp,g,d,tk,os⟩ aN t/\R (.ok (.ret (.bool (t.getD (decide (xs.size<ys.size)))))) ⟨hp,g,d,tk,os⟩) _
  case turn =>
   rintro⟨y,x⟩ aN c s' ⟨hc,rfl,t,ow,hR⟩;cases ow with
   | eq he ow =>
    refine JL (he prog w _ _ ?_)
    wp_walk
    exact⟨rfl,rfl,t,ow,hR⟩
   | ne he hl =>
    refine JL (he prog w _ _ ?_);refine JL (wpAny_rule (JL (hl prog w _ _ ?_)));refine JL (JQ (JQ ?_));exact JQ ⟨_,rfl,hR⟩
  case fin =>
   rintro⟨c1,c2⟩ s' ⟨hc,rfl,t,ow,hR⟩;cases ow;simp only at hc;subst hc
   wp_walk
   exact⟨_,rfl,by simpa [Builtin.Tuple.tupleCompareSizes]using hR⟩
  case h =>
   exact⟨rfl,rfl,t,ow,hR⟩
theorem wH{A:Around}{s:Shared}{l b:Addr}{xs ys:Array Value}{t:Option Bool}(hl:s.heap.IsTuple l xs)(hb:s.heap.IsTuple b ys)(hu:A.units<cLine)(ow:OW A.in1 s (xs.toList.zip ys.toList) t):GD A s (.ref l) (.ref b) (t.getD (decide (xs.size<ys.size))):=fun prog w E Q h=>by
 obtain⟨⟨c1,d1,x1,s1⟩,h1,e1,n,y1⟩:=id hl;obtain⟨⟨c2,d2,x2,s2⟩,h2,e2,m,y2⟩:=id hb;simp only at e1 y1 e2 y2;subst e1 y1 e2 y2;exact richCompare_meets_room (op:=.Lt) ⟨_,h1,rfl⟩ ⟨_,h2,rfl⟩ PySem.F.slot_tuple_lt PySem.F.entry_tuple_lt (PySem.F.args_tuple_lt_2 _ _) (DS l b xs ys n m d1 d2 s1 s2) ⟨h1,h2,t,ow,(fun z=>nomatch z),h⟩ hu
mutual
theorem ya:∀{x y:PV}{n:Nat}{A:Around}{s:Shared}{a b:Value}{as bs:List Addr}{t:Bool},Reads s.heap a (lT x) as->Reads s.heap b (lT y) bs->cq n x=true->cq n y=true->A.units+n<cLine->Ee x y=some t->GD A s a b t
 | .int i,y,_,_,_,_,_,_,_,_,ra,rb,_,_,_,h=>by
  cases y with
  | int j =>
   cases h;cases ra;cases rb;exact fun prog w E Q q=>PyProof.Rows.lt_int q
  | _=>cases h
 | .tup xs,y,n,A,s,_,_,_,_,t,ra,rb,fa,fb,hu,h=>by
  cases y with
  | tup ys =>
   cases n with
   | zero=>cases fa
   | succ n =>
    cases ra with
    | @tuple l o vs m _ _ h1 h2 h3 h4 =>
     cases rb with
     | @tuple l' o' ws m' _ _ k1 k2 k3 k4 =>
      obtain⟨o,ow,e⟩:=uo (A:=A.in1) (n:=n) h4 k4 fa fb (by show A.units+1+n<cLine;omega) h;rw[Jv,Jv]at e;rw[e];exact wH ⟨_,h1,h2,_,h3⟩ ⟨_,k1,k2,_,k3⟩ (by omega) ow
  | _=>cases h
 | .non,_,_,_,_,_,_,_,_,_,_,_,_,_,_,h=>by cases h
 | .bl _,_,_,_,_,_,_,_,_,_,_,_,_,_,_,h=>by cases h
 | .str _,_,_,_,_,_,_,_,_,_,_,_,_,_,_,h=>by cases h
 | .lst _,_,_,_,_,_,_,_,_,_,_,_,_,_,_,h=>by cases h
 | .dK _ _,_,_,_,_,_,_,_,_,_,_,_,_,_,_,h=>by cases h
 | .dT _ _,_,_,_,_,_,_,_,_,_,_,_,_,_,_,h=>by cases h
theorem uo:∀{xs ys:List PV}{n:Nat}{A:Around}{s:Shared}{vs ws:List Value}{as bs:List Addr}{t:Bool},ReadsAll s.heap vs (dM xs) as->ReadsAll s.heap ws (dM ys) bs->xs.all (cq n)=true->ys.all (cq n)=true->A.units+n<cLine->wG xs ys=some t ->
  ∃o:Option Bool,OW A s (vs.zip ws) o/\t=o.getD (decide (vs.length<ws.length))
 | [],ys,_,_,_,_,_,_,_,_,ra,rb,_,_,_,h=>by
  cases h;cases ra;refine⟨none,.nil,?_⟩;cases ys with
  | nil=>cases rb;rfl
  | cons y ys=>cases rb;rfl
 | x::xs,[],_,_,_,_,_,_,_,_,ra,rb,_,_,_,h=>by
  cases h;cases rb;exact⟨none,by rw[List.zip_nil_right];exact .nil,rfl⟩
 | x::xs,y::ys,n,A,s,_,_,_,_,t,ra,rb,fa,fb,hu,h=>by
  rw[Lm,JU]at fa fb;cases ra with
  | cons r rs =>
   cases rb with
   | cons r' rs' =>
    obtain⟨c1,d1⟩:=cf fa.1;obtain⟨c2,d2⟩:=cf fb.1;have he:=SeqAt.eqAt_reads (lT x) (lT y) A s _ _ _ _ r r' c1 c2 (by omega);rw[gZ]at he;have h:(if lG x y=true then wG xs ys else Ee x y)=some t:=h;cases e:lG x y with
    | true =>
     rw[e]at h he;obtain⟨o,ow,z⟩:=uo rs rs' fa.2 fb.2 hu h;refine⟨o,.eq he ow,?_⟩;rw[z,Jh,Jh]
     congr 1
     exact Ly.mpr (by omega)
    | false =>
     rw[e]at h he;exact⟨some t,.ne he (ya r r' fa.1 fb.1 hu h),rfl⟩
end
variable(X Hi)in
noncomputable def Dw:R2:=fun x y H Q=>∃a b t,cq 12 a=true/\cq 12 b=true/\Rp X.K Hi false a H x/\Rp X.K Hi false b H y/\Ee a b=some t/\Q (.bl t) H
theorem yM(hu:X.A.units+64<cLine):cv X (compareOp .Lt) (Dw X Hi):=by
 intro pins s σ H x y u v Q I rx ry h;obtain⟨a,b,t,fa,fb,ra,rb,e,q⟩:=h;obtain⟨as,za⟩:=bC I fa ra rx;obtain⟨bs,zb⟩:=bC I fb rb ry;exact ya za zb fa fb (by omega) e _ _ _ _ ⟨.bl _,H,I,rfl,q⟩
theorem Rp.dT{n:Bool}{ks:List (List ae)}{vs:List PV}{G:Hp}{u:V}(h:Rp X.K Hi n (.dT ks vs) G u):∃p us,u=.ref p/\G p=some (.dT (ks.zip us))/\ks.length=us.length/\aH X.K Hi n vs (IR.del G p) us:=by
 unfold Rp at h;obtain⟨p,us,e,_,h1,h2,h3⟩:=h;exact⟨p,us,e,h1,h2,h3⟩
theorem Rp.dK{n:Bool}{ks:List ae}{vs:List PV}{G:Hp}{u:V}(h:Rp X.K Hi n (.dK ks vs) G u):∃p us,u=.ref p/\G p=some (.dK (ks.zip us))/\ks.length=us.length/\aH X.K Hi n vs (IR.del G p) us:=by
 unfold Rp at h;obtain⟨p,us,e,_,h1,h2,h3⟩:=h;exact⟨p,us,e,h1,h2,h3⟩
theorem zO{a b:PV}{t:Bool}{H H' :Hp}{u v:V}(h:eqs a b=some t)(ha:Rp X.K Hi false a H u)(hb:Rp X.K Hi false b H' v):De u v=true/\decide (u=v)=t:=by
  cases a<;>cases b<;>first
    | exact absurd (show(none:Option Bool)=some t from h) (by intro z;cases z)
    | (have e:=Jl (show some _=some t from h)
       subst e
       first
       | rw[Rp.int.mp ha]|rw[Rp.str.mp ha]|rw[Rp.bl.mp ha]|rw[Rp.non.mp ha]
       first
       | rw[Rp.int.mp hb]|rw[Rp.str.mp hb]|rw[Rp.bl.mp hb]|rw[Rp.non.mp hb]
       exact⟨rfl,by simp⟩)
theorem vH{a:PV}{H:Hp}{u:V}(ha:Rp X.K Hi false a H u)(f:qY a=true):fN u=true:=by
 cases a with
 | non=>rw[Rp.non.mp ha];rfl
 | bl b=>rw[Rp.bl.mp ha];rfl
 | int b=>rw[Rp.int.mp ha];rfl
 | str b=>rw[Rp.str.mp ha];rfl
 | _=>cases f
theorem FT{a b:PV}{H H' :Hp}{u v:V}(ha:Rp X.K Hi false a H u)(hb:Rp X.K Hi false b H' v)(fa:qY a=true)(fb:qY b=true):xB u v=Bz a b:=by
 cases a<;>(try cases fa)<;>cases b<;>(try cases fb) <;>
  (first|rw[Rp.int.mp ha]|rw[Rp.str.mp ha]|rw[Rp.bl.mp ha]|rw[Rp.non.mp ha]) <;>
  (first|rw[Rp.int.mp hb]|rw[Rp.str.mp hb]|rw[Rp.bl.mp hb]|rw[Rp.non.mp hb]) <;>
  first|rfl|exact beq_eq_decide _ _|exact(beq_eq_decide _ _).symm|(simp[xB,Bz,Lx];done)|(unfold xB Bz;simp only[beq_eq_decide])
theorem qX:∀{xs:List PV}{H:Hp}{us:List V},aH X.K Hi false xs H us->xs.all qY=true->us.all fN=true
 | [],_,_,h,_=>by unfold aH at h;subst h;rfl
 | x::xs,_,_,h,f=>by
  unfold aH at h;obtain⟨u,r,rfl,a,b⟩:=h;rw[Lm,JU]at f ⊢;exact⟨vH a f.1,qX b f.2⟩
theorem AB{x:PV}{H' :Hp}{v:V}(hb:Rp X.K Hi false x H' v)(fb:qY x=true):∀{xs:List PV}{H:Hp}{us:List V},aH X.K Hi false xs H us->xs.all qY=true->inV v us=xs.any fun y=>Bz y x
 | [],_,_,h,_=>by unfold aH at h;subst h;rfl
 | y::xs,_,_,h,f=>by
  unfold aH at h;obtain⟨u,r,rfl,a,b⟩:=h;rw[Lm,JU]at f;show(xB u v||inV v r)=_;rw[L3,AB hb fb b f.2,FT a hb f.1 fb]
theorem EY{a:PV}{H:Hp}{u:V}(ha:Rp X.K Hi false a H u)(h:∀z,a≠z\/z≠PV.non):u≠.non:=by
 intro e;subst e;cases a with
 | non=>rcases h .non with z|z<;>exact z rfl
 | bl b=>cases Rp.bl.mp ha
 | int b=>cases Rp.int.mp ha
 | str b=>cases Rp.str.mp ha
 | lst xs=>obtain⟨p,us,z,_⟩:=Rp.lst.mp ha;cases z
 | tup xs=>obtain⟨p,us,z,_⟩:=Rp.tup.mp ha;cases z
 | dK ks vs=>unfold Rp at ha;obtain⟨p,us,z,_⟩:=ha;cases z
 | dT ks vs=>unfold Rp at ha;obtain⟨p,us,z,_⟩:=ha;cases z
theorem eY(hun:X.A.units+64<cLine){op:CmpOp}{x y:RV}{t:Bool}(h:ah op x.val y.val=some t):∃rr:R2,cv X (compareOp op) rr /\
  ∀(O:List Addr)(σ:L2.St)(H H2:Hp)(u v:V)(Q:VK),aq X.K Hi O τ σ H->aD H H2->ag X.K Hi O H H2 x u->ag X.K Hi O H H2 y v->Q (.bl t) H2->rr u v H2 Q:=by
 cases op with
 | Lt =>
  have h:zg x.val y.val=some t:=h;unfold zg at h
  split at h
  case h_1 i j e1 e2=>cases h;exact⟨_,HZ,fun O σ H H2 u v Q R s ru rv q=>⟨i,j,ru.int R s e1,rv.int R s e2,q⟩⟩
  case h_2 xs ys e1 e2 =>
   unfold C8 at h
   split at h
   ·rename_i c
    rw[JU]at c;exact⟨_,yM (Hi:=Hi) hun,fun O σ H H2 u v Q R s ru rv q=>⟨_,_,t,c.1,c.2,by have z:=ru.val R s;rw[e1]at z;exact z,by have z:=rv.val R s;rw[e2]at z;exact z,h,q⟩⟩
   ·cases h
  case h_3=>cases h
 | LtE =>
  have h:tN x.val y.val=some t:=h;unfold tN at h
  split at h
  case h_1 i j e1 e2=>cases h;exact⟨_,Ha,fun O σ H H2 u v Q R s ru rv q=>⟨i,j,ru.int R s e1,rv.int R s e2,q⟩⟩
  case h_2=>cases h
 | Gt =>
  have h:zi x.val y.val=some t:=h;unfold zi at h
  split at h
  case h_1 i j e1 e2=>cases h;exact⟨_,Hb,fun O σ H H2 u v Q R s ru rv q=>⟨i,j,ru.int R s e1,rv.int R s e2,q⟩⟩
  case h_2=>cases h
 | GtE =>
  have h:tO x.val y.val=some t:=h;unfold tO at h
  split at h
  case h_1 i j e1 e2=>cases h;exact⟨_,Hc,fun O σ H H2 u v Q R s ru rv q=>⟨i,j,ru.int R s e1,rv.int R s e2,q⟩⟩
  case h_2=>cases h
 | Eq =>
  have h:DC x.val y.val=some t:=h;unfold DC at h
  split at h
  ·rename_i z
   cases h;refine⟨_,ud,fun O σ H H2 u v Q R s ru rv q=> ?_⟩;obtain⟨z1,z2⟩:=zO z (ru.val R s) (rv.val R s);exact⟨z1,by rw[z2];exact q⟩
  ·split at h
   ·rename_i c
    rw[JU]at c;cases h;exact⟨_,ER (Hi:=Hi) hun,fun O σ H H2 u v Q R s ru rv q=>⟨_,_,c.1,c.2,ru.val R s,rv.val R s,q⟩⟩
   ·cases h
 | NotEq =>
  have h:(DC x.val y.val).map (!·)=some t:=h;obtain⟨k,e,rfl⟩:∃k,DC x.val y.val=some k/\t= !k:=by
   cases e:DC x.val y.val with
   | none=>rw[e]at h;cases h
   | some k=>rw[e]at h;cases h;exact⟨k,rfl,rfl⟩
  unfold DC at e
  split at e
  ·rename_i z
   cases e;refine⟨_,HY,fun O σ H H2 u v Q R s ru rv q=> ?_⟩;obtain⟨z1,z2⟩:=zO z (ru.val R s) (rv.val R s);exact⟨z1,by rw[z2];exact q⟩
  ·split at e
   ·rename_i c
    rw[JU]at c;cases e;exact⟨_,EN (Hi:=Hi) hun,fun O σ H H2 u v Q R s ru rv q=>⟨_,_,c.1,c.2,ru.val R s,rv.val R s,q⟩⟩
   ·cases e
 | Is =>
  have h:zh x.val y.val=some t:=h;unfold zh at h
  split at h
  case h_1 e1 e2 =>
   cases h;refine⟨_,yN,fun O σ H H2 u v Q R s ru rv q=> ?_⟩;have z1:=ru.val R s;have z2:=rv.val R s;rw[e1]at z1;rw[e2]at z2;exact⟨Rp.non.mp z2,by rw[Rp.non.mp z1];exact q⟩
  case h_2 e2 ne =>
   cases h;refine⟨_,yN,fun O σ H H2 u v Q R s ru rv q=> ?_⟩;have z2:=rv.val R s;rw[e2]at z2;have n:u≠.non:=EY (ru.val R s) fun z=>by
    by_cases c:z=.non
    ·left;intro c2;exact ne (c2.trans c)
    ·right;exact c
   exact⟨Rp.non.mp z2,by rw[Jk n];exact q⟩
  case h_3=>cases h
 | NotIn =>
  have h:kh x.val y.val=some t:=h;unfold kh at h
  split at h
  case h_1 ys e2 =>
   obtain⟨k,e,rfl⟩:∃k,GL x.val ys=some k/\t= !k:=by
    cases e:GL x.val ys with
    | none=>rw[e]at h;cases h
    | some k=>rw[e]at h;cases h;exact⟨k,rfl,rfl⟩
   unfold GL at e
   split at e
   ·rename_i c
    cases e;refine⟨_,nN,fun O σ H H2 u v Q R s ru rv q=> ?_⟩;obtain⟨p,us,rfl,l,r⟩:=rv.tup R s e2;exact⟨p,us,rfl,.inr l,vH (ru.val R s) c.1,qX r c.2,by rw[AB (ru.val R s) c.1 r c.2];exact q⟩
   ·split at e
    ·rename_i c
     rw[JU]at c;cases e;exact⟨_,uc (Hi:=Hi) hun,fun O σ H H2 u v Q R s ru rv q=>⟨_,ys,c.1,c.2,ru.val R s,.inr (by have z:=rv.val R s;rw[e2]at z;exact z),q⟩⟩
    ·cases e
  case h_2=>cases h
 | _=>exact absurd (show(none:Option Bool)=some t from h) (by intro z;cases z)
theorem yW{op:CmpOp}{b:Expr}(h:cB b=false):behindInMarks op b=false:=by
 cases b<;>first|rfl|cases h
theorem Fi(hun:X.A.units+64<cLine){a b:Expr}{op:CmpOp}{pos:Pos}{x y:RV}{t:Bool}(ha:aI X Hi τ a x)(hb:aI X Hi τ b y)(hs:cB b=false)(h:ah op x.val y.val=some t):aI X Hi τ (.Compare a [op] [b] pos) (sc (.bl t)):=by
 obtain⟨rr,ho,k⟩:=eY (X:=X) (Hi:=Hi) (τ:=τ) hun h;intro O σ H Q R q;refine we (BF ho aZ aZ (yW hs)) ?_;refine ha O σ H _ R fun u H1 s1 r1=>hb O σ H1 _ (R.ext s1) fun v H2 s2 r2=> ?_;exact k O σ H H2 u v Q R (s1.trans s2) (r1.ext s2) (r2.back s1) (q _ _ (s1.trans s2) Cy)
theorem ze(hun:X.A.units+64<cLine){a b:Expr}{op:CmpOp}{pos:Pos}{x y:RV}{t:Bool}(ha:aI X Hi τ a x)(hb:aI X Hi τ b y)(hs:cB b=false)(h:ah op x.val y.val=some t):dz X Hi τ (.Compare a [op] [b] pos) t:=by
 obtain⟨rr,ho,k⟩:=eY (X:=X) (Hi:=Hi) (τ:=τ) hun h;intro O σ H Q R q;refine wt (gM ho aZ aZ (yW hs)) ?_;refine ha O σ H _ R fun u H1 s1 r1=>hb O σ H1 _ (R.ext s1) fun v H2 s2 r2=> ?_;exact k O σ H H2 u v _ R (s1.trans s2) (r1.ext s2) (r2.back s1) ⟨t,rfl,q _ (s1.trans s2)⟩
theorem nQ{op op' :CmpOp}{b c:Expr}(h:cB c=false):lastMarks [op,op'] [b,c]=false:=by
 show behindInMarks op' c=false;exact yW h
theorem zj(hun:X.A.units+64<cLine){a b c:Expr}{o1 o2:CmpOp}{pos:Pos}{x y:RV}{t t2:Bool}(ha:aI X Hi τ a x)(hb:aI X Hi τ b y)(hs:cB c=false)(h:ah o1 x.val y.val=some t)
  (hc:if t=true then∃z,aI X Hi τ c z/\ah o2 y.val z.val=some t2 else t2=false/\∃w z,ah o2 w z=some false):aI X Hi τ (.Compare a [o1,o2] [b,c] pos) (sc (.bl t2))/\dz X Hi τ (.Compare a [o1,o2] [b,c] pos) t2:=by
 obtain⟨rr,ho,k⟩:=eY (X:=X) (Hi:=Hi) (τ:=τ) hun h;cases t with
 | true =>
  rw[JS rfl]at hc;obtain⟨z,hz,h2⟩:=hc;obtain⟨rr2,ho2,k2⟩:=eY (X:=X) (Hi:=Hi) (τ:=τ) hun h2
  constructor
  ·intro O σ H Q R q
   refine we (pd ho ho2 aZ aZ aZ (nQ hs)) ?_;refine ha O σ H _ R fun u H1 s1 r1=>hb O σ H1 _ (R.ext s1) fun v H2 s2 r2=> ?_;refine k O σ H H2 u v _ R (s1.trans s2) (r1.ext s2) (r2.back s1) ⟨true,rfl,?_⟩;rw[JS rfl];refine hz O σ H2 _ (R.ext (s1.trans s2)) fun w H3 s3 r3=> ?_;exact k2 O σ H H3 v w Q R (s1.trans (s2.trans s3)) ((r2.back s1).ext s3) (r3.back (s1.trans s2)) (q _ _ (s1.trans (s2.trans s3)) Cy)
  ·intro O σ H Q R q
   refine wt (pN ho ho2 aZ aZ aZ (nQ hs)) ?_;refine ha O σ H _ R fun u H1 s1 r1=>hb O σ H1 _ (R.ext s1) fun v H2 s2 r2=> ?_;refine k O σ H H2 u v _ R (s1.trans s2) (r1.ext s2) (r2.back s1) ⟨true,rfl,?_⟩;rw[JS rfl];refine hz O σ H2 _ (R.ext (s1.trans s2)) fun w H3 s3 r3=> ?_;exact k2 O σ H H3 v w _ R (s1.trans (s2.trans s3)) ((r2.back s1).ext s3) (r3.back (s1.trans s2)) ⟨t2,rfl,q _ (s1.trans (s2.trans s3))⟩
 | false =>
  rw[JR JT]at hc;obtain⟨rfl,w,z,h2⟩:=hc;obtain⟨rr2,ho2,k2⟩:=eY (X:=X) (Hi:=Hi) (τ:=τ) hun (x:=sc w) (y:=sc z) h2
  constructor
  ·intro O σ H Q R q
   refine we (pd ho ho2 aZ aZ aZ (nQ hs)) ?_;refine ha O σ H _ R fun u H1 s1 r1=>hb O σ H1 _ (R.ext s1) fun v H2 s2 r2=> ?_;exact k O σ H H2 u v _ R (s1.trans s2) (r1.ext s2) (r2.back s1) ⟨false,rfl,by rw[JR JT];exact q _ _ (s1.trans s2) Cy⟩
  ·intro O σ H Q R q
   refine wt (pN ho ho2 aZ aZ aZ (nQ hs)) ?_;refine ha O σ H _ R fun u H1 s1 r1=>hb O σ H1 _ (R.ext s1) fun v H2 s2 r2=> ?_;exact k O σ H H2 u v _ R (s1.trans s2) (r1.ext s2) (r2.back s1) ⟨false,rfl,by rw[JR JT];exact⟨false,rfl,q _ (s1.trans s2)⟩⟩
theorem rf(o:CmpOp)(h:uZ o=true):∃w z:PV,ah o w z=some false:=by
 cases o
 ·exact⟨.int 0,.int 1,rfl⟩
 ·exact⟨.int 0,.int 0,rfl⟩
 ·exact⟨.int 0,.int 0,rfl⟩
 ·exact⟨.int 1,.int 0,rfl⟩
 ·exact⟨.int 0,.int 0,rfl⟩
 ·exact⟨.int 0,.int 1,rfl⟩
 all_goals cases h
theorem Eb{a:Expr}{pos:Pos}{x:RV}{i:Int}(ha:aI X Hi τ a x)(e:x.val=.int i):aI X Hi τ (.UnaryOp .USub a pos) (sc (.int (-i))):=by
 intro O σ H Q R q;refine we (C2 xM aZ) ?_;exact ha O σ H _ R fun u H1 s1 r1=>⟨i,r1.int R s1 e,q _ _ s1 xf⟩
theorem EX{a:Expr}{pos:Pos}{x:RV}{b:Bool}(ha:aI X Hi τ a x)(e:x.val=.bl b):aI X Hi τ (.UnaryOp .Not a pos) (sc (.bl !b)):=by
 intro O σ H Q R q;refine we (EG aZ) ?_;exact ha O σ H _ R fun u H1 s1 r1=>⟨b,r1.bl R s1 e,q _ _ s1 Cy⟩
theorem EU{op:BoolOp}{a:Expr}{pos:Pos}{x:RV}(ha:aI X Hi τ a x):aI X Hi τ (.BoolOp op [a] pos) x:=by
 intro O σ H Q R q;exact we (EF aZ) (ha O σ H _ R q)
theorem Ic{a b:Expr}{aN:List Expr}{pos:Pos}{x y:RV}(ha:aI X Hi τ a x)(e:x.val=.bl true)(hb:aI X Hi τ (.BoolOp .And (b::aN) pos) y):aI X Hi τ (.BoolOp .And (a::b::aN) pos) y:=by
 intro O σ H Q R q;refine we (yL aZ aZ) ?_;exact ha O σ H _ R fun u H1 s1 r1=>⟨true,r1.bl R s1 e,wP (hb O σ H1 _ (R.ext s1) fun w H2 s2 r2=>q w H2 (s1.trans s2) (r2.back s1))⟩
theorem Ie{a b:Expr}{aN:List Expr}{pos:Pos}{x:RV}(ha:aI X Hi τ a x)(e:x.val=.bl false):aI X Hi τ (.BoolOp .And (a::b::aN) pos) (sc (.bl false)):=by
 intro O σ H Q R q;refine we (yL aZ aZ) ?_;exact ha O σ H _ R fun u H1 s1 r1=>⟨false,r1.bl R s1 e,wQ (q _ _ s1 Cy)⟩
theorem or_f{a b:Expr}{aN:List Expr}{pos:Pos}{x y:RV}(ha:aI X Hi τ a x)(e:x.val=.bl false)(hb:aI X Hi τ (.BoolOp .Or (b::aN) pos) y):aI X Hi τ (.BoolOp .Or (a::b::aN) pos) y:=by
 intro O σ H Q R q;refine we (C3 aZ aZ) ?_;exact ha O σ H _ R fun u H1 s1 r1=>⟨false,r1.bl R s1 e,wQ (hb O σ H1 _ (R.ext s1) fun w H2 s2 r2=>q w H2 (s1.trans s2) (r2.back s1))⟩
theorem or_t{a b:Expr}{aN:List Expr}{pos:Pos}{x:RV}(ha:aI X Hi τ a x)(e:x.val=.bl true):aI X Hi τ (.BoolOp .Or (a::b::aN) pos) (sc (.bl true)):=by
 intro O σ H Q R q;refine we (C3 aZ aZ) ?_;exact ha O σ H _ R fun u H1 s1 r1=>⟨true,r1.bl R s1 e,wP (q _ _ s1 Cy)⟩
theorem Ew{c a b:Expr}{pos:Pos}{t:Bool}{r:RV}(hc:dz X Hi τ c t)(h:aI X Hi τ (if t=true then a else b) r):aI X Hi τ (.IfExp c a b pos) r:=by
 intro O σ H Q R q;refine we (yK lK aZ aZ) ?_;refine hc O σ H _ R fun H1 s1=> ?_;cases t with
 | true=>exact wP ((show aI X Hi τ a r from h) O σ H1 _ (R.ext s1) fun w H2 s2 r2=>q w H2 (s1.trans s2) (r2.back s1))
 | false=>exact wQ ((show aI X Hi τ b r from h) O σ H1 _ (R.ext s1) fun w H2 s2 r2=>q w H2 (s1.trans s2) (r2.back s1))
theorem xQ{v:PV}{b:Bool}{H:Hp}{u:V}(h:oz v=some b)(r:Rp X.K Hi false v H u):F6 X.K u H b:=by
 cases v with
 | non=>cases h;rw[Rp.non.mp r];rfl
 | bl c=>cases h;rw[Rp.bl.mp r];rfl
 | int i=>cases h;rw[Rp.int.mp r];rfl
 | str z =>
  have h:(if z.length<=LN then some ((z.length:Int) !=0)else none)=some b:=h
  split at h
  ·rename_i c
   cases h;rw[Rp.str.mp r];exact⟨by rw[eG];exact c,rfl⟩
  ·cases h
 | lst xs =>
  cases h;obtain⟨p,us,rfl,_,l,r⟩:=Rp.lst.mp r;have:=r.len;exact .inl ⟨us,l,by cases xs<;>cases us<;>simp_all⟩
 | tup xs =>
  cases h;obtain⟨p,us,rfl,l,r⟩:=Rp.tup.mp r;have:=r.len;exact .inr (.inl ⟨us,l,by cases xs<;>cases us<;>simp_all⟩)
 | dK ks vs =>
  cases h;unfold Rp at r;obtain⟨p,us,rfl,_,l,z,r⟩:=r;exact .inr (.inr ⟨_,l,by cases ks<;>cases us<;>simp_all⟩)
 | dT ks vs=>cases h
theorem DP{e:Expr}{x:RV}{b:Bool}(he:aI X Hi τ e x)(h:oz x.val=some b)(hp:∀whole,isTrue e X.env whole=(do let v<-whole;standAt e.pos;holding [v] (truthy v))):dz X Hi τ e b:=by
 intro O σ H Q R q;refine wt (xz aZ hp) ?_;exact he O σ H _ R fun u H1 s1 r1=>⟨b,xQ h (r1.val R s1),q _ s1⟩
theorem EW{a:Expr}{pos:Pos}{b:Bool}(ha:dz X Hi τ a b):dz X Hi τ (.UnaryOp .Not a pos) !b:=by
 intro O σ H Q R q;exact wt (D2 lK) (ha O σ H _ R fun H1 s1=>q _ s1)
noncomputable def lY(X:Cx)(Hi:Hp)(τ:En)(e:Expr)(b:Bool):Prop:=∀(O:List Addr)(σ:L2.St)(H:Hp)(Q:Bool->Hp->Prop),aq X.K Hi O τ σ H->(∀H',aD H H' ->Q b H') ->
 ∀(whole:Sem Value)(pins:List (Addr×Obj))(s:Shared),Inv X pins σ H s->wpAny (model X.prog X.w) X.A (isTrue e X.env whole) (TP X pins σ Q) X.xe s
theorem HL{e:Expr}:PW X e (fun σ H Q=>∀(whole:Sem Value)(pins:List (Addr×Obj))(s:Shared),Inv X pins σ H s->wpAny (model X.prog X.w) X.A (isTrue e X.env whole) (TP X pins σ Q) X.xe s):=fun wh pins s σ H Q I h=>h wh pins s I
theorem lY.tc{e:Expr}{b:Bool}(h:lY X Hi τ e b):dz X Hi τ e b:=fun O σ H Q R q pins s I=>h O σ H Q R q _ pins s I
theorem ET{op:BoolOp}{a:Expr}{pos:Pos}{b:Bool}(ha:dz X Hi τ a b):lY X Hi τ (.BoolOp op [a] pos) b:=by
 intro O σ H Q R q wh pins s I;cases op with
 | And=>exact uQ lK wh pins s σ H Q I (ha O σ H Q R q)
 | Or=>exact Dx lK wh pins s σ H Q I (ha O σ H Q R q)
theorem AC{a b:Expr}{aN:List Expr}{pos:Pos}{t u:Bool}(ha:dz X Hi τ a t)(hb:if t=true then lY X Hi τ (.BoolOp .And (b::aN) pos) u else u=false):lY X Hi τ (.BoolOp .And (a::b::aN) pos) u:=by
 intro O σ H Q R q wh pins s I;refine xt lK HL wh pins s σ H Q I ?_;refine ha O σ H _ R fun H1 s1=> ?_;cases t with
 | true=>exact wP ((show lY X Hi τ _ u from hb) O σ H1 _ (R.ext s1) fun H2 s2=>q _ (s1.trans s2))
 | false =>
  have hb:u=false:=hb;subst hb;exact wQ (q _ s1)
theorem C4{a b:Expr}{aN:List Expr}{pos:Pos}{t u:Bool}(ha:dz X Hi τ a t)(hb:if t=true then u=true else lY X Hi τ (.BoolOp .Or (b::aN) pos) u):lY X Hi τ (.BoolOp .Or (a::b::aN) pos) u:=by
 intro O σ H Q R q wh pins s I;refine HM lK HL wh pins s σ H Q I ?_;refine ha O σ H _ R fun H1 s1=> ?_;cases t with
 | false=>exact wQ ((show lY X Hi τ _ u from hb) O σ H1 _ (R.ext s1) fun H2 s2=>q _ (s1.trans s2))
 | true =>
  have hb:u=true:=hb;subst hb;exact wP (q _ s1)
end
end IR
namespace L2
open PySem PySem.Spec PyProof.Rows
section
variable{X:Cx}
inductive Ij(K:W.Frag)(H:Hp):V->Value->Prop where
 | of {x:V} {t:Value} (h:iO K H x t):Ij K H x t
 | lst {a:Addr} {xs:List V} (e:bG K H a xs):Ij K H (.ref a) (.type "list")
 | tup {a:Addr} {xs:List V} (e:bX K H a xs):Ij K H (.ref a) (.type "tuple")
theorem tR:bF X (.builtin "isinstance") (fun xs H Q=>∃x c t b,xs=[x,.ty c]/\Ij X.K H x t/\W.kitOne X.K t (.type c)=some b/\Q (.bl b) H):=by
 intro pins s σ H xs us Q I r h;obtain⟨x,c,t,b,rfl,ty,e,q⟩:=h;obtain⟨u,w',rfl,rx,ry⟩:=vals2 r;cases ry;cases ty with
 | of ty=>exact wR I rx ty e fun tk=>⟨.bl b,H,I.tok _,rfl,q⟩
 | lst l =>
  cases rx;obtain⟨its,r',pl,hz⟩:=I.list l;obtain⟨o,n,h1,h2,_⟩:=pl;exact LP W.kitx_list I.kIn ⟨o,h1,h2⟩ e (fun z=>nomatch z) fun tk=>⟨.bl b,H,I.tok _,rfl,q⟩
 | tup l =>
  cases rx;obtain⟨its,r',pl,hz⟩:=I.tuple l;obtain⟨o,h1,h2,_⟩:=pl;exact LP W.kitx_tuple I.kIn ⟨o,h1,h2⟩ e (fun z=>nomatch z) fun tk=>⟨.bl b,H,I.tok _,rfl,q⟩
end
section
variable{K:W.Frag}
theorem kits:(W.kitOne K (.type "NoneType") (.type "int")=some false/\W.kitOne K (.type "NoneType") (.type "str")=some false/\W.kitOne K (.type "NoneType") (.type "list")=some false/\W.kitOne K (.type "NoneType") (.type "tuple")=some false/\W.kitOne K (.type "NoneType") (.type "bool")=some false) /\
  (W.kitOne K (.type "bool") (.type "int")=some true/\W.kitOne K (.type "bool") (.type "str")=some false/\W.kitOne K (.type "bool") (.type "list")=some false/\W.kitOne K (.type "bool") (.type "tuple")=some false) /\
  (W.kitOne K (.type "int") (.type "bool")=some false/\W.kitOne K (.type "int") (.type "str")=some false/\W.kitOne K (.type "int") (.type "list")=some false/\W.kitOne K (.type "int") (.type "tuple")=some false) /\
  (W.kitOne K (.type "str") (.type "bool")=some false/\W.kitOne K (.type "str") (.type "int")=some false/\W.kitOne K (.type "str") (.type "list")=some false/\W.kitOne K (.type "str") (.type "tuple")=some false) /\
  (W.kitOne K (.type "list") (.type "bool")=some false/\W.kitOne K (.type "list") (.type "int")=some false/\W.kitOne K (.type "list") (.type "str")=some false/\W.kitOne K (.type "list") (.type "tuple")=some false) /\
  (W.kitOne K (.type "tuple") (.type "bool")=some false/\W.kitOne K (.type "tuple") (.type "int")=some false/\W.kitOne K (.type "tuple") (.type "str")=some false/\W.kitOne K (.type "tuple") (.type "list")=some false) /\
  (W.kitOne K (.type "dict") (.type "bool")=some false/\W.kitOne K (.type "dict") (.type "int")=some false/\W.kitOne K (.type "dict") (.type "str")=some false/\W.kitOne K (.type "dict") (.type "list")=some false/\W.kitOne K (.type "dict") (.type "tuple")=some false):=by
 refine⟨⟨?_,?_,?_,?_,?_⟩,⟨?_,?_,?_,?_⟩,⟨?_,?_,?_,?_⟩,⟨?_,?_,?_,?_⟩,⟨?_,?_,?_,?_⟩,⟨?_,?_,?_,?_⟩,⟨?_,?_,?_,?_,?_⟩⟩<;>kernel_rfl
end
end L2
namespace IR
open PySem PySem.Spec PyProof.Rows L2
section
variable{X:Cx}{Hi:Hp}{τ:En}
theorem aX{e:Expr}{es:List Expr}{env:Env}(h:isStar e=false):starEach (e::es) env=(false,eval e env)::starEach es env:=by
 cases e<;>first|rfl|cases h
theorem gR{env:Env}{pos:Pos}:∀{es:List Expr},(∀e∈es,isStar e=false)->(backTo pos (starEach es env)).any (·.1)=false
 | [],_=>rfl
 | e::es,h=>by
  rw[aX (h e JP)];show(false||(backTo pos (starEach es env)).any (·.1))=false;rw[gR fun x hx=>h x (JO _ hx)];rfl
theorem F2:oF X Hi τ [] []:=by
 intro O σ H Q R q;exact wa af (q _ _ (aD.refl _) rfl)
theorem Cg{e:Expr}{es:List Expr}{r:RV}{rs:List RV}(he:aI X Hi τ e r)(hs:isStar e=false)(hr:oF X Hi τ es rs):oF X Hi τ (e::es) (r::rs):=by
 intro O σ H Q R q;refine wa (aR aZ sU (aX hs)) ?_;refine he O σ H _ R fun u H1 s1 r1=>hr O σ H1 _ (R.ext s1) fun us H2 s2 r2=> ?_;exact q _ _ (s1.trans s2) ⟨u,us,rfl,r1.ext s2,r2.back s1⟩
theorem Ef{es:List Expr}{pos:Pos}{rs:List RV}{vs:List PV}{n:Bool}{r:RV}(h:oF X Hi τ es rs)(hk:keeps rs=some (vs,n))(hn:pj vs n=some r):aI X Hi τ (.List es pos) r:=by
 obtain⟨hz,rfl⟩:=uk hn;intro O σ H Q R q;refine we (sS sU) ?_;refine h O σ H _ R fun us H1 s1 r1=> ?_;have k:=r1.keeps R s1 hk;have hl:=k.len;exact⟨by rw[eG,<-hl];exact hz,fun p hp=>q _ _ (s1.trans (aJ hp _)) (fC s1 hp k)⟩
theorem DR{es:List Expr}{m:Nat}{pos:Pos}{rs:List RV}{vs:List PV}{n:Bool}{r:RV}(h:oF X Hi τ es rs)(hk:keeps rs=some (vs,n))(hn:pi vs n=some r):aI X Hi τ (.Tuple es m pos) r:=by
 obtain⟨hz,rfl⟩:=uj hn;intro O σ H Q R q;refine we (sQ sU) ?_;refine h O σ H _ R fun us H1 s1 r1=> ?_;have k:=r1.keeps R s1 hk;have hl:=k.len;exact⟨by rw[eG,<-hl];exact hz,fun p hp=>q _ _ (s1.trans (aJ hp _)) (Rp.tup.mpr ⟨p,us,rfl,bX.of (vB R s1 hp),k.mono (aP (aJ hp _))⟩)⟩
theorem B8{pos:Pos}:aI X Hi τ (.Dict [] [] pos) (.owd (.dK []) [] true):=by
 intro O σ H Q R q;refine we pZ ?_;intro p hp;exact q _ _ (aJ hp _) ⟨p,[],_,rfl,hp,aC,⟨rfl,rfl⟩,.nil⟩
theorem vN{k:ae}{ke v:Expr}{r:RV}{w:PV}{n:Bool}{pos:Pos}{tk:TE}(hk:PE X ke tk)(hk2:∀σ H Q,Q (kV k) H->tk σ H Q)(h:aI X Hi τ v r)(hw:r.keep=some (w,n))(hi:imm w=true):aI X Hi τ (.Dict [some ke] [v] pos) (.owd (.dK [k]) [w] true):=by
 intro O σ H Q R q;refine we (BE (yE hk aZ A9) rfl rfl (by intro z;cases z) (by show 1<=15;decide)) ?_;intro p hp;have s0:=aJ hp (.dK []);refine hk2 σ _ _ ?_;refine h O σ _ _ (R.ext s0) fun u H2 s2 r2=> ?_;have kp:=r2.keep (R.ext s0) s2 hw;refine⟨s2 _ _ aC,[(k,u)],rfl,by show 1<=15;decide,?_⟩;have e:fh [] [(k,u)]=[(k,u)]:=by simp[fh,ci]
 rw[e];have ss:aD H (L2.upd H2 p (.dK [(k,u)])):=fun b o z=>by rw[aB (aE z hp)];exact s2 _ _ (s0 _ _ z)
 refine q _ _ ss ⟨p,[u],_,rfl,hp,aC,⟨rfl,rfl⟩,.cons (Rp.imm hi ⟨fun b xs z=> ?_,fun b o xs z=> ?_⟩ kp) .nil⟩
 ·have hne:b≠p:=fun c=>by
   subst c;have:=aO _ _ z;rw[s2 _ _ aC]at this;cases this
  unfold aW at z ⊢
  split at z
  ·cases z
  ·rename_i nb
   rw[JR nb];unfold del;rw[JR hne,aB hne];exact z
 ·have hne:b≠p:=fun c=>by
   subst c;have:=aO _ _ z;rw[s2 _ _ aC]at this;cases this
  unfold aW at z ⊢
  split at z
  ·cases z
  ·rename_i nb
   rw[JR nb];unfold del;rw[JR hne,aB hne];exact z
noncomputable def gt(O:List Addr)(G:Hp):Prop:=∀l∈O,(∀xs,G l≠some (.tup xs))/\∀o xs,G l≠some (.frz o (.tup xs))
theorem Mo.noTup{o:HO}{G:Hp}{l:Addr}(m:Mo o)(e:G l=some o):(∀xs,G l≠some (.tup xs))/\∀o xs,G l≠some (.frz o (.tup xs)):=by
 obtain⟨b,us,m⟩:=m;refine⟨fun xs z=> ?_,fun o xs z=> ?_⟩<;>(rw[e]at z;cases z;cases b<;>first|cases m.1|cases m)
theorem gt.del{O:List Addr}{G:Hp}{p:Addr}(h:gt O G):gt O (IR.del G p):=fun l hl=>by
 refine⟨fun xs e=> ?_,fun o xs e=> ?_⟩
 ·unfold IR.del at e
  split at e
  ·cases e
  ·exact(h l hl).1 xs e
 ·unfold IR.del at e
  split at e
  ·cases e
  ·exact(h l hl).2 o xs e
theorem gt.tups{O:List Addr}{G:Hp}(h:gt O G):tj G (aW G O):=by
 refine⟨fun b xs e=> ?_,fun b o xs e=> ?_⟩
 ·unfold aW
  rw[JR fun z=>(h b z).1 xs e];exact e
 ·unfold aW
  rw[JR fun z=>(h b z).2 o xs e];exact e
mutual
theorem Rp.avoid{K:W.Frag}{Hj:Hp}{O:List Addr}(hO:∀l∈O,Hj l≠none):∀{v:PV}{G:Hp}{u:V},gt O G->Rp K Hj true v G u->Rp K Hj true v (aW G O) u
 | .non,_,_,_,h=>by unfold Rp at h ⊢;exact h
 | .bl _,_,_,_,h=>by unfold Rp at h ⊢;exact h
 | .int _,_,_,_,h=>by unfold Rp at h ⊢;exact h
 | .str _,_,_,_,h=>by unfold Rp at h ⊢;exact h
 | .lst xs,G,_,t,h=>by
  unfold Rp at h ⊢;obtain⟨p,us,e,q,l,r⟩:=h;obtain⟨q1,q2⟩:=q rfl;have q3:aW G O p=some (.lst us):=by
   unfold aW;rw[JR fun z=>hO p z q1];exact q2
  exact⟨p,us,e,fun _=>⟨q1,q3⟩,bG.of q3,by rw[<- gU];exact aH.avoid hO t.del r⟩
 | .tup xs,_,_,t,h=>by
  unfold Rp at h ⊢;obtain⟨p,us,e,l,r⟩:=h;exact⟨p,us,e,t.tups.at l,aH.avoid hO t r⟩
 | .dK ks vs,G,_,t,h=>by
  unfold Rp at h ⊢;obtain⟨p,us,e,q,l,z,r⟩:=h;refine⟨p,us,e,q,?_,z,by rw[<- gU];exact aH.avoid hO t.del r⟩;unfold aW;rw[JR fun z=>hO p z (q rfl)];exact l
 | .dT ks vs,G,_,t,h=>by
  unfold Rp at h ⊢;obtain⟨p,us,e,q,l,z,r⟩:=h;refine⟨p,us,e,q,?_,z,by rw[<- gU];exact aH.avoid hO t.del r⟩;unfold aW;rw[JR fun z=>hO p z (q rfl)];exact l
theorem aH.avoid{K:W.Frag}{Hj:Hp}{O:List Addr}(hO:∀l∈O,Hj l≠none):∀{xs:List PV}{G:Hp}{us:List V},gt O G->aH K Hj true xs G us->aH K Hj true xs (aW G O) us
 | [],_,_,_,h=>by unfold aH at h ⊢;exact h
 | x::xs,_,_,t,h=>by
  unfold aH at h ⊢;obtain⟨u,r,e,a,b⟩:=h;exact⟨u,r,e,Rp.avoid hO t a,aH.avoid hO t b⟩
end
theorem Ak{O:List Addr}{σ:L2.St}{H H1 H' :Hp}{v:PV}{u:V}(R:aq X.K Hi O τ σ H)(s1:aD H H1)(s:aD H1 H')(h:Rp X.K H1 true v H' u):ag X.K Hi O H H' (o0 v) u:=by
 have e1:∀p,H1 p=none->Hi p=none:=fun p hp=>R.same.free (s1.free hp);have hO:∀l∈O,H1 l≠none:=fun l hl z=>by
  obtain⟨us,e,_⟩:=(R.own l hl).2;rw[s1 _ _ e]at z;cases z
 have hT:gt O H' :=fun l hl=>by
  obtain⟨us,e,mo⟩:=(R.own l hl).2;have e' :=s _ _ (s1 _ _ e);exact mo.noTup e'
 have gen:Rp X.K Hi true v (aW H' O) u:=(Rp.avoid hO hT h).entry fun _=>e1;cases v with
 | lst xs =>
  obtain⟨p,us,e,q,l,r⟩:=Rp.lst.mp h;obtain⟨q1,q2⟩:=q rfl;exact⟨p,us,e,s1.free q1,q2,(aH.avoid hO hT.del r).entry fun _=>e1⟩
 | _=>exact gen
theorem call_ok{cd:Nat->List PV->Option PV}{ct:Ct}(C:bt cd X ct){x:Str}{f:Nat}{e:Expr}{es:List Expr}{p pos:Pos}{rs:List RV}{v:PV}(hx:uf x=false)(hg:ct.S.lookup x=some .globalImplicit)(hf:ct.F.lookup x=some f)
  (hs:∀a∈e::es,isStar a=false) (ha:oF X Hi τ (e::es) rs) (hv:cd f (rs.map RV.val)=some v):aI X Hi τ (.Call (.Name x p) (e::es) [] pos) (o0 v):=by
 intro O σ H Q R q;obtain⟨k,a,fd,ps,F,hr,hm,kp,bd⟩:=C.fns x f hf;have g:Gl X x:=by
  show X.env.scope.names.lookup x=_;rw[C.S];exact hg
 refine we (BG F hr g hm kp bd .nil HV sU (cS hx).1 (aX (hs e JP)) (gR fun b hb=>hs b (JO _ hb))) ?_;refine ha O σ H _ R fun us H1 s1 r1=> ?_;have vs:=r1.vals R s1;rw[KL];exact⟨_,v,vs.entry (fun z=>by cases z),hv,fun u H' s' ru=>q _ _ (s1.trans s') (Ak R s1 s' ru)⟩
theorem dI{cd:Nat->List PV->Option PV}{ct:Ct}(C:bt cd X ct){x:Str}(h:own ct x=true):Gl X x/\X.mg x=none:=by
 unfold own at h;rw[JU]at h;refine⟨?_,C.bl x h.1⟩;show X.env.scope.names.lookup x=_;rw[C.S]
 simpa using h.2
theorem jC{cd:Nat->List PV->Option PV}{ct:Ct}(C:bt cd X ct){x:Str}{id:String}{a:Expr}{p pos:Pos}{ra r:RV}{rr:List V->Hp->VK->Prop}(hc:bF X (.builtin id) rr)(ho:own ct x=true)(hb:bootBuiltins x=some (.builtin id))(hx:uf x=false)(hs:isStar a=false)(ha:aI X Hi τ a ra)
  (k:∀(O:List Addr)(σ:L2.St)(H H2:Hp)(u:V)(Q:VK),aq X.K Hi O τ σ H->aD H H2->ag X.K Hi O H H2 ra u->(∀w H3,aD H2 H3->ag X.K Hi O H H3 r w->Q w H3)->rr [u] H2 Q):aI X Hi τ (.Call (.Name x p) [a] [] pos) r:=by
 intro O σ H Q R q;obtain⟨g,hm⟩:=dI C ho;refine we (bi hc g hm hb (aR aZ af (aX hs)) (cS hx).2.2 (cS hx).1 (aX hs) rfl) ?_;exact ha O σ H _ R fun u H1 s1 r1=>k O σ H H1 u Q R s1 r1 fun w H3 s3 r3=>q w H3 (s1.trans s3) r3
theorem uF{cd:Nat->List PV->Option PV}{ct:Ct}(C:bt cd X ct){x:Str}{id:String}{a:Expr}{p pos:Pos}{ra r:RV}{rr:List V->Hp->VK->Prop}(hc:bF X (.type id) rr)(ho:own ct x=true)(hb:bootBuiltins x=some (.type id))(hx:uf x=false)(hs:isStar a=false)(ha:aI X Hi τ a ra)
  (k:∀(O:List Addr)(σ:L2.St)(H H2:Hp)(u:V)(Q:VK),aq X.K Hi O τ σ H->aD H H2->ag X.K Hi O H H2 ra u->(∀w H3,aD H2 H3->ag X.K Hi O H H3 r w->Q w H3)->rr [u] H2 Q):aI X Hi τ (.Call (.Name x p) [a] [] pos) r:=by
 intro O σ H Q R q;obtain⟨g,hm⟩:=dI C ho;refine we (cK hc g hm hb (aR aZ af (aX hs)) (cS hx).2.2 (cS hx).1 (aX hs) rfl) ?_;exact ha O σ H _ R fun u H1 s1 r1=>k O σ H H1 u Q R s1 r1 fun w H3 s3 r3=>q w H3 (s1.trans s3) r3
theorem b2_go{cd:Nat->List PV->Option PV}{ct:Ct}(C:bt cd X ct){x:Str}{id:String}{a b:Expr}{p pos:Pos}{ra rb r:RV}{rr:List V->Hp->VK->Prop}(hc:bF X (.builtin id) rr)(ho:own ct x=true)(hb:bootBuiltins x=some (.builtin id))(hx:uf x=false)(hs:isStar a=false)(hs2:isStar b=false)(ha:aI X Hi τ a ra)(hb' :aI X Hi τ b rb)
  (k:∀(O:List Addr)(σ:L2.St)(H H2:Hp)(u v:V)(Q:VK),aq X.K Hi O τ σ H->aD H H2->ag X.K Hi O H H2 ra u->ag X.K Hi O H H2 rb v->(∀w H3,aD H2 H3->ag X.K Hi O H H3 r w->Q w H3)->rr [u,v] H2 Q):aI X Hi τ (.Call (.Name x p) [a,b] [] pos) r:=by
 intro O σ H Q R q;obtain⟨g,hm⟩:=dI C ho;refine we (bi hc g hm hb (aR aZ (aR aZ af (aX hs2)) (aX hs)) (cS hx).2.2 (cS hx).1 (aX hs) (gR fun c hc=>by simp at hc;subst hc;exact hs2)) ?_;exact ha O σ H _ R fun u H1 s1 r1=>hb' O σ H1 _ (R.ext s1) fun v H2 s2 r2=>k O σ H H2 u v Q R (s1.trans s2) (r1.ext s2) (r2.back s1) fun w H3 s3 r3=>q w H3 (s1.trans (s2.trans s3)) r3
theorem qz:∀{xs:List PV}{bs:List Bool}{H:Hp}{us:List V},gi xs=some bs->aH X.K Hi false xs H us->us=bs.map V.bl
 | [],bs,_,_,h,r=>by cases h;unfold aH at r;exact r
 | x::xs,bs,_,_,h,r=>by
  unfold aH at r;obtain⟨u,ws,rfl,a,b⟩:=r;cases x with
  | bl c =>
   have h:(gi xs).map (c::·)=some bs:=h;cases e:gi xs with
   | none=>rw[e]at h;cases h
   | some ds =>
    rw[e]at h;cases h;rw[Rp.bl.mp a,qz e b];rfl
  | _=>cases h
theorem dH:∀{xs:List PV}{bs:List Int}{H:Hp}{us:List V},aY xs=some bs->aH X.K Hi false xs H us->us=bs.map V.int
 | [],bs,_,_,h,r=>by cases h;unfold aH at r;exact r
 | x::xs,bs,_,_,h,r=>by
  unfold aH at r;obtain⟨u,ws,rfl,a,b⟩:=r;cases x with
  | int c =>
   have h:(aY xs).map (c::·)=some bs:=h;cases e:aY xs with
   | none=>rw[e]at h;cases h
   | some ds =>
    rw[e]at h;cases h;rw[Rp.int.mp a,dH e b];rfl
  | _=>cases h
theorem Ex{t:String}{v:PV}{b:Bool}{H:Hp}{u:V}(h:bT t v=some b)(r:Rp X.K Hi false v H u):∃c,Ij X.K H u c/\W.kitOne X.K c (.type t)=some b:=by
 obtain⟨⟨n1,n2,n3,n4,n5⟩,⟨b1,b2,b3,b4⟩,⟨i1,i2,i3,i4⟩,⟨s1,s2,s3,s4⟩,⟨l1,l2,l3,l4⟩,⟨t1,t2,t3,t4⟩,⟨d1,d2,d3,d4,d5⟩⟩:= @kits X.K;cases v with
 | non =>
  rw[Rp.non.mp r];refine⟨_,.of .non,?_⟩;simp only[bT]at h
  split at h
  ·rename_i c
   cases h
   rcases c with rfl|rfl|rfl|rfl|rfl<;>assumption
  ·cases h
 | bl x =>
  rw[Rp.bl.mp r];refine⟨_,.of (.bl x),?_⟩;simp only[bT]at h
  split at h
  ·rename_i c
   cases h
   rcases c with rfl|rfl
   ·assumption
   ·exact eS _
  ·split at h
   ·rename_i c
    cases h
    rcases c with rfl|rfl|rfl<;>assumption
   ·cases h
 | int x =>
  rw[Rp.int.mp r];refine⟨_,.of (.int x),?_⟩;simp only[bT]at h
  split at h
  ·rename_i c
   cases h;subst c;exact eS _
  ·split at h
   ·rename_i c
    cases h
    rcases c with rfl|rfl|rfl|rfl<;>assumption
   ·cases h
 | str x =>
  rw[Rp.str.mp r];refine⟨_,.of (.str x),?_⟩;simp only[bT]at h
  split at h
  ·rename_i c
   cases h;subst c;exact eS _
  ·split at h
   ·rename_i c
    cases h
    rcases c with rfl|rfl|rfl|rfl<;>assumption
   ·cases h
 | lst x =>
  obtain⟨p,us,rfl,_,l,_⟩:=Rp.lst.mp r;refine⟨_,.lst l,?_⟩;simp only[bT]at h
  split at h
  ·rename_i c
   cases h;subst c;exact eS _
  ·split at h
   ·rename_i c
    cases h
    rcases c with rfl|rfl|rfl|rfl<;>assumption
   ·cases h
 | tup x =>
  obtain⟨p,us,rfl,l,_⟩:=Rp.tup.mp r;refine⟨_,.tup l,?_⟩;simp only[bT]at h
  split at h
  ·rename_i c
   cases h;subst c;exact eS _
  ·split at h
   ·rename_i c
    cases h
    rcases c with rfl|rfl|rfl|rfl<;>assumption
   ·cases h
 | dK ks vs =>
  unfold Rp at r;obtain⟨p,us,rfl,_,l,_⟩:=r;refine⟨_,.of (.dK l),?_⟩;simp only[bT]at h
  split at h
  ·rename_i c
   cases h
   rcases c with rfl|rfl|rfl|rfl|rfl<;>assumption
  ·cases h
 | dT ks vs=>cases h
theorem CM{t:Str}{ty:String}(h:xO t=some ty):bootBuiltins t=some (.type ty)/\uf t=false:=by
 unfold xO at h
 split at h
 ·rename_i c;cases h;rw[Jp c];exact⟨PyProof.Rows.boot_int,by decide⟩
 split at h
 ·rename_i c;cases h;rw[Jp c];exact⟨PyProof.Rows.boot_bool,by decide⟩
 split at h
 ·rename_i c;cases h;rw[Jp c];exact⟨PyProof.Rows.boot_str,by decide⟩
 split at h
 ·rename_i c;cases h;rw[Jp c];exact⟨PyProof.Rows.boot_list,by decide⟩
 split at h
 ·rename_i c;cases h;rw[Jp c];exact⟨PyProof.Rows.boot_tuple,by decide⟩
 cases h
theorem isin_ok{cd:Nat->List PV->Option PV}{ct:Ct}(C:bt cd X ct){t:Str}{ty:String}{a:Expr}{p pt pos:Pos}{ra:RV}{b:Bool}(ho:own ct ("isinstance":Str)=true)(ht:xO t=some ty)(hot:own ct t=true)(hs:isStar a=false)(ha:aI X Hi τ a ra)(h:bT ty ra.val=some b) :
  aI X Hi τ (.Call (.Name "isinstance" p) [a,.Name t pt] [] pos) (sc (.bl b)):=by
 intro O σ H Q R q;obtain⟨g,hm⟩:=dI C ho;obtain⟨g2,hm2⟩:=dI C hot;obtain⟨hb,hod⟩:=CM ht;refine we (bi tR g hm boot_isinstance (aR aZ (aR (HR g2 hm2 hb (cS hod).2.2 (cS hod).1) af) (aX hs)) (by decide) (by decide) (aX hs) rfl) ?_;refine ha O σ H _ R fun u H1 s1 r1=> ?_;obtain⟨c,ty',k⟩:=Ex h (r1.val R s1);exact⟨u,ty,c,b,rfl,ty',k,q _ _ s1 Cy⟩
end
end IR
namespace L2
open PySem PySem.Spec PyProof.Rows
end L2
namespace IR
open PySem L2
section
variable{X:Cx}{Hi:Hp}{τ:En}
theorem nL{x:PV}{q:Int×Int}(h:gO x=some q):x=aM q:=by
 cases x with
 | tup xs =>
  have h:((aY xs).bind fun ns=>match ns with
   | [a,b]=>some (a,b)
   | _=>none)=some q:=h
  cases e:aY xs with
  | none=>rw[e]at h;cases h
  | some ns =>
   rw[e]at h
   match ns,h with
   | [a,b],h =>
    cases h;have:xs=[PV.int a,PV.int b]:=by
     have key:∀(xs:List PV)(ns:List Int),aY xs=some ns->xs=ns.map PV.int:=by
      intro xs
      induction xs with
      | nil=>intro ns z;cases z;rfl
      | cons y r ih =>
       intro ns z;cases y with
       | int i =>
        have z:(aY r).map (i::·)=some ns:=z;cases e2:aY r with
        | none=>rw[e2]at z;cases z
        | some m=>rw[e2]at z;cases z;rw[ih m e2];rfl
       | _=>cases z
     exact key xs _ e
    subst this;rfl
 | _=>cases h
theorem pR:∀{xs:List PV}{ps:List (Int×Int)},gN xs=some ps->xs=ps.map aM
 | [],_,h=>by cases h;rfl
 | x::r,ps,h=>by
  have h:((gO x).bind fun q=>(gN r).map (q::·))=some ps:=h;cases e:gO x with
  | none=>rw[e]at h;cases h
  | some q =>
   rw[e]at h;have h:(gN r).map (q::·)=some ps:=h;cases e2:gN r with
   | none=>rw[e2]at h;cases h
   | some m =>
    rw[e2]at h;cases h;rw[nL e,pR e2];rfl
theorem aH.prs{n:Bool}{H:Hp}:∀{ps:List (Int×Int)}{us:List V},aH X.K Hi n (ps.map aM) H us->GA X.K H us ps
 | [],us,h=>by
  have h:us=[]:=by unfold aH at h;exact h
  subst h;exact .nil
 | q::ps,us,h=>by
  rw[JZ]at h;unfold aH at h;obtain⟨u,r,rfl,h1,h2⟩:=h;obtain⟨p,ws,rfl,l,rr⟩:=Rp.tup.mp h1;have e:ws=[V.int q.1,V.int q.2]:=by
   have:=(aH.ints (K:=X.K) (Hi:=Hi) (n:=n) (H:=H) (xs:=[q.1,q.2]) (us:=ws)).mp rr;exact this
  subst e;exact .cons l (aH.prs h2)
theorem aH.pick{n:Bool}{H:Hp}{xs:List PV}{us:List V}(r:aH X.K Hi n xs H us):∀{js:List Nat},(∀j∈js,j<us.length)->aH X.K Hi n (js.map fun i=>xs.getD i .non) H (js.map fun i=>us.getD i .non)
 | [],_=>.nil
 | j::js,h=>by
  have hj:=h j JP;obtain⟨x,hx,rx⟩:=r.at' (i:=j) (u:=us[j]) (Ja hj);refine .cons ?_ (aH.pick r fun i hi=>h i (JO _ hi));dsimp only;rw[JX,hx,JX,Ja hj];exact rx
theorem fW(ps:List (Int×Int)):(cz ps).Perm ps:=List.mergeSort_perm _ _
theorem pA(ps:List (Int×Int)):(cz ps).Pairwise fun a b=>SW.ck a<=SW.ck b:=by
 have:=List.pairwise_mergeSort (le:=fun a b:Int×Int=>decide (SW.ck a<=SW.ck b)) (fun a b c h1 h2=>by simp only[J4]at *;omega) (fun a b=>by simp only[Kh,J4];omega) ps;exact this.imp fun h=>by simpa using h
theorem yo{a b:Int×Int}(ha:0<=a.2/\a.2<1000)(hb:0<=b.2/\b.2<1000)(h:SW.ck a=SW.ck b):a=b:=by
 unfold SW.ck at h;exact Prod.ext (by omega) (by omega)
theorem mw{ps qs:List (Int×Int)}(hb:∀q∈ps,0<=q.2/\q.2<1000)(p:qs.Perm ps)(s:qs.Pairwise fun a b=>SW.ck a<=SW.ck b):qs=cz ps :=
 MM (le:=fun a b=>SW.ck a<=SW.ck b) (fun a b ha hb' h1 h2=>yo (hb _ (p.mem_iff.mp ha)) (hb _ ((fW ps).mem_iff.mp hb')) (by omega)) s (pA ps) (p.trans (fW ps).symm)
theorem sK{α:Type}(d:α)(xs:List α):(List.range xs.length).map (fun i=>xs.getD i d)=xs:=by
 apply List.ext_getElem (by simp)
 intro i h1 h2;simp[h2]
theorem bQ:∀ps:List (Int×Int),imms (ps.map aM)=true
 | []=>rfl
 | q::ps=>by
  show(imm (aM q)&&imms (ps.map aM))=true;rw[bQ ps];rfl
theorem xY{cd:Nat->List PV->Option PV}{ct:Ct}(C:bt cd X ct){a:Expr}{p pos:Pos}{ra r:RV}{xs:List PV}(ho:own ct ("sorted":Str)=true)(hs:isStar a=false)(ha:aI X Hi τ a ra)(e:ra.val=.lst xs)(h:o9 xs=some r) :
  aI X Hi τ (.Call (.Name "sorted" p) [a] [] pos) r:=by
 unfold o9 at h;cases eb:gN xs with
 | none=>rw[eb]at h;cases h
 | some ps =>
  rw[eb]at h;have h:(if ps.length<64/\ps.all (fun q=>decide (0<=q.2)&&decide (q.2<1000))=true then some (RV.own ((cz ps).map aM) true)else none)=some r:=h
  split at h
  ·rename_i c
   cases h;refine jC C gg ho PyProof.Rows.boot_sorted (by decide) hs ha fun O σ H H2 u Q R s r q=> ?_;obtain⟨p,us,rfl,l,r⟩:=r.lst R s e;have ex:=pR eb;subst ex;have pr:=r.prs;have hl:=pr.len;have hb:∀q∈ps,0<=q.2/\q.2<1000:=fun q hq=>by
    have:=Jf.mp c.2 q hq
    simpa using this
   refine⟨p,us,ps,rfl,l,pr,by omega,hb,fun d js hd pm pw=>q _ _ (aJ hd _) (fC s hd ?_)⟩;have hj:∀j∈js,j<us.length:=fun j hj=>Ju.mp (pm.mem_iff.mp hj);have e1:js.map (fun i=>ps.getD i (0,0))=cz ps:=by
    refine mw hb ?_ ?_
    ·have:=pm.map fun i=>ps.getD i (0,0)
     rw[hl,sK]at this;exact this
    ·rw[LB]at pw ⊢
     exact pw
   have e2:js.map (fun i=>(ps.map aM).getD i .non)=(cz ps).map aM:=by
    rw[<- e1,Jq];refine KI fun i hi=> ?_;have:=hj i hi;have lt:i<ps.length:=by omega
    simp[lt]
   have rp:=r.pick hj;rw[e2]at rp;exact rp.imm (bQ _) (R.ext s).tups
  ·cases h
end
end IR
namespace IR
open PySem PySem.Spec PyProof.Rows L2
section
variable{X:Cx}{Hi:Hp}{τ:En}
theorem yf{cd:Nat->List PV->Option PV}{ct:Ct}(C:bt cd X ct){a:Expr}{p pos:Pos}{ra:RV}{n:Nat}(ho:own ct ("len":Str)=true)(hs:isStar a=false)(ha:aI X Hi τ a ra)(h:eR ra.val=some n) :
  aI X Hi τ (.Call (.Name "len" p) [a] [] pos) (sc (.int n)):=by
 cases e:ra.val with
 | str z =>
  rw[e]at h;have h:(if z.length<=LN then some z.length else none)=some n:=h
  split at h
  ·rename_i c
   cases h;exact jC C gh ho LJ (by decide) hs ha fun O σ H H2 u Q R s r q=>⟨z,by rw[r.str R s e],by rw[eG];exact c,q _ _ (aD.refl _) xf⟩
  ·cases h
 | lst xs =>
  rw[e]at h;cases h;refine jC C cF ho LJ (by decide) hs ha fun O σ H H2 u Q R s r q=> ?_;obtain⟨p,us,rfl,l,r⟩:=r.lst R s e;exact⟨p,us,rfl,.inl l,by rw[<- r.len];exact q _ _ (aD.refl _) xf⟩
 | tup xs =>
  rw[e]at h;cases h;refine jC C cF ho LJ (by decide) hs ha fun O σ H H2 u Q R s r q=> ?_;obtain⟨p,us,rfl,l,r⟩:=r.tup R s e;exact⟨p,us,rfl,.inr l,by rw[<- r.len];exact q _ _ (aD.refl _) xf⟩
 | dK ks vs =>
  rw[e]at h;cases h;refine jC C tQ ho LJ (by decide) hs ha fun O σ H H2 u Q R s r q=> ?_;have z:=r.val R s;rw[e]at z;unfold Rp at z;obtain⟨p,us,rfl,_,hp,hl,_⟩:=z;refine⟨p,_,rfl,.inl hp,?_⟩;have:(ks.zip us).length=ks.length:=by rw[List.length_zip,<-hl,MC]
  rw[this];exact q _ _ (aD.refl _) xf
 | _=>rw[e]at h;cases h
theorem iM{x:Str}{k:Nat}{f:Bf}(h:rF x k=some f):(x="len"/\k=1/\f=.len)\/(x="int"/\k=1/\f=.int)\/(x="list"/\k=1/\f=.list)\/(x="tuple"/\k=1/\f=.tuple)\/(x="all"/\k=1/\f=.all)\/(x="min"/\k=2/\f=.min)\/(x="max"/\k=2/\f=.max)\/(x="abs"/\k=1/\f=.abs)\/(x="any"/\k=1/\f=.any)\/(x="sum"/\k=1/\f=.sum)\/(x="sorted"/\k=1/\f=.sorted):=by
 unfold rF at h
 split at h
 ·rename_i c;rw[JU]at c;cases h;exact .inl ⟨Jp c.1,Jp c.2,rfl⟩
 split at h
 ·rename_i c;rw[JU]at c;cases h;exact .inr (.inl ⟨Jp c.1,Jp c.2,rfl⟩)
 split at h
 ·rename_i c;rw[JU]at c;cases h;exact .inr (.inr (.inl ⟨Jp c.1,Jp c.2,rfl⟩))
 split at h
 ·rename_i c;rw[JU]at c;cases h;exact .inr (.inr (.inr (.inl ⟨Jp c.1,Jp c.2,rfl⟩)))
 split at h
 ·rename_i c;rw[JU]at c;cases h;exact .inr (.inr (.inr (.inr (.inl ⟨Jp c.1,Jp c.2,rfl⟩))))
 split at h
 ·rename_i c;rw[JU]at c;cases h;exact .inr (.inr (.inr (.inr (.inr (.inl ⟨Jp c.1,Jp c.2,rfl⟩)))))
 split at h
 ·rename_i c;rw[JU]at c;cases h;exact .inr (.inr (.inr (.inr (.inr (.inr (.inl ⟨Jp c.1,Jp c.2,rfl⟩))))))
 split at h
 ·rename_i c;rw[JU]at c;cases h;exact .inr (.inr (.inr (.inr (.inr (.inr (.inr (.inl ⟨Jp c.1,Jp c.2,rfl⟩)))))))
 split at h
 ·rename_i c;rw[JU]at c;cases h;exact .inr (.inr (.inr (.inr (.inr (.inr (.inr (.inr (.inl ⟨Jp c.1,Jp c.2,rfl⟩))))))))
 split at h
 ·rename_i c;rw[JU]at c;cases h;exact .inr (.inr (.inr (.inr (.inr (.inr (.inr (.inr (.inr (.inl ⟨Jp c.1,Jp c.2,rfl⟩)))))))))
 split at h
 ·rename_i c;rw[JU]at c;cases h;exact .inr (.inr (.inr (.inr (.inr (.inr (.inr (.inr (.inr (.inr (⟨Jp c.1,Jp c.2,rfl⟩))))))))))
 cases h
theorem bf1_ok{cd:Nat->List PV->Option PV}{ct:Ct}(C:bt cd X ct){x:Str}{f:Bf}{a:Expr}{p pos:Pos}{ra r:RV}(ho:own ct x=true)(hb:lA x 1=some f)(hs:isStar a=false)(ha:aI X Hi τ a ra)(h:kz f [ra]=some r) :
  aI X Hi τ (.Call (.Name x p) [a] [] pos) r:=by
 have hb:rF x 1=some f:=hb
 rcases iM hb with⟨rfl,_,rfl⟩|⟨rfl,_,rfl⟩|⟨rfl,_,rfl⟩|⟨rfl,_,rfl⟩|⟨rfl,_,rfl⟩|⟨_,z,_⟩|⟨_,z,_⟩|⟨rfl,_,rfl⟩|⟨rfl,_,rfl⟩|⟨rfl,_,rfl⟩|⟨rfl,_,rfl⟩
 ·have h:(eR ra.val).map (fun n=>sc (.int (n:Nat)))=some r:=h
  cases e:eR ra.val with
  | none=>rw[e]at h;cases h
  | some n =>
   rw[e]at h;cases h;exact yf C ho hs ha e
 ·unfold kz at h
  cases e:ra.val with
  | int i =>
   simp only[e]at h;cases h;exact uF C mX ho PyProof.Rows.boot_int (by decide) hs ha fun O σ H H2 u Q R s r q=>.inl ⟨i,by rw[r.int R s e],q _ _ (aD.refl _) xf⟩
  | bl i =>
   simp only[e]at h;cases h;exact uF C mX ho PyProof.Rows.boot_int (by decide) hs ha fun O σ H H2 u Q R s r q=>.inr ⟨i,by rw[r.bl R s e],q _ _ (aD.refl _) xf⟩
  | _=>simp only[e]at h;cases h
 ·have h:(match ra.its with|some (xs,n)=>some (RV.own xs n)|none=>none)=some r:=h
  cases e:ra.its with
  | none=>rw[e]at h;cases h
  | some w =>
   obtain⟨xs,n⟩:=w;rw[e]at h;cases h;refine uF C oA ho PyProof.Rows.boot_list (by decide) hs ha fun O σ H H2 u Q R s r q=> ?_;obtain⟨p,us,rfl,l,r⟩:=r.its R s e;exact⟨p,us,rfl,l.imp (·.1) (·.1),fun l2 hl=>q _ _ (aJ hl _) (fC s hl r)⟩
 ·have h:(match ra.its with|some (xs,n)=>some (RV.frz (.tup xs) n)|none=>none)=some r:=h
  cases e:ra.its with
  | none=>rw[e]at h;cases h
  | some w =>
   obtain⟨xs,n⟩:=w;rw[e]at h;cases h;refine uF C fQ ho PyProof.Rows.boot_tuple (by decide) hs ha fun O σ H H2 u Q R s r q=> ?_;obtain⟨p,us,rfl,l,r⟩:=r.its R s e;refine⟨p,us,rfl,l.imp (fun l=>⟨l.1,fun l2 hl=> ?_⟩) (fun l=>⟨l.1,?_⟩)⟩
   ·exact q _ _ (aJ hl _) (Rp.tup.mpr ⟨l2,us,rfl,bX.of (vB R s hl),r.mono (aP (aJ hl _))⟩)
   ·exact q _ _ (aD.refl _) (Rp.tup.mpr ⟨p,us,rfl,vA R s l.1,r⟩)
 ·unfold kz at h
  cases e:ra.val with
  | lst xs =>
   simp only[e]at h;cases eb:gi xs with
   | none=>rw[eb]at h;cases h
   | some bs =>
    rw[eb]at h;cases h;refine jC C (qy C.calm) ho boot_all (by decide) hs ha fun O σ H H2 u Q R s r q=> ?_;obtain⟨p,us,rfl,l,r⟩:=r.lst R s e;have:=qz eb r;subst this;exact⟨p,bs,rfl,l,q _ _ (aD.refl _) Cy⟩
  | _=>simp only[e]at h;cases h
 ·cases z
 ·cases z
 ·exact absurd (show(none:Option RV)=some r from h) (by simp)
 ·exact absurd (show(none:Option RV)=some r from h) (by simp)
 ·have h:(match ra.val with
   | .lst xs=>(aY xs).map fun ns=>sc (.int ns.sum)
   | _=>none)=some r:=h
  cases e:ra.val with
  | lst xs =>
   simp only[e]at h;cases eb:aY xs with
   | none=>rw[eb]at h;cases h
   | some bs =>
    rw[eb]at h;cases h;refine jC C (lW C.calm) ho boot_sum (by decide) hs ha fun O σ H H2 u Q R s r q=> ?_;obtain⟨p,us,rfl,l,r⟩:=r.lst R s e;have:=dH eb r;subst this;exact⟨p,bs,rfl,l,q _ _ (aD.refl _) xf⟩
  | _=>simp only[e]at h;cases h
 ·have h:(match ra.val with
   | .lst xs=>ll xs
   | _=>none)=some r:=h
  cases e:ra.val with
  | lst xs =>
   simp only[e]at h;unfold ll at h;cases eb:aY xs with
   | none =>
    rw[eb]at h;exact xY C ho hs ha e h
   | some bs =>
    rw[eb]at h;have h:(if bs.length<64 then some (RV.own ((L2.sortI bs).map PV.int) true)else none)=some r:=h
    split at h
    ·rename_i c
     cases h;refine jC C iH ho boot_sorted (by decide) hs ha fun O σ H H2 u Q R s r q=> ?_;obtain⟨p,us,rfl,l,r⟩:=r.lst R s e;have:=dH eb r;subst this;exact⟨p,bs,rfl,l,c,fun a ha=>q _ _ (aJ ha _) (fC s ha (aH.ints.mpr rfl))⟩
    ·cases h
  | _=>simp only[e]at h;cases h
theorem Fw{cd:Nat->List PV->Option PV}{ct:Ct}(C:bt cd X ct){x:Str}{f:Bf}{a b:Expr}{p pos:Pos}{ra rb r:RV}(ho:own ct x=true)(hb:lA x 2=some f)(hs:isStar a=false)(hs2:isStar b=false)(ha:aI X Hi τ a ra)(hb' :aI X Hi τ b rb)(h:kz f [ra,rb]=some r) :
  aI X Hi τ (.Call (.Name x p) [a,b] [] pos) r:=by
 refine Ki fun no=> ?_;have hb:rF x 2=some f:=hb
 rcases iM hb with⟨_,z,_⟩|⟨_,z,_⟩|⟨_,z,_⟩|⟨_,z,_⟩|⟨_,z,_⟩|⟨rfl,_,rfl⟩|⟨rfl,_,rfl⟩|⟨_,z,_⟩|⟨_,z,_⟩|⟨_,z,_⟩|⟨_,z,_⟩
 ·cases z
 ·cases z
 ·cases z
 ·cases z
 ·cases z
 ·unfold kz at h
  cases e1:ra.val with
  | int i =>
   cases e2:rb.val with
   | int j =>
    simp only[e1,e2]at h;cases h;exact no<|b2_go C (wf C.calm) ho boot_min (by decide) hs hs2 ha hb' fun O σ H H2 u v Q R s r r2 q=>⟨i,j,by rw[r.int R s e1,r2.int R s e2],q _ _ (aD.refl _) xf⟩
   | _=>simp only[e1,e2]at h;cases h
  | _=>simp only[e1]at h;cases h
 ·unfold kz at h
  cases e1:ra.val with
  | int i =>
   cases e2:rb.val with
   | int j =>
    simp only[e1,e2]at h;cases h;exact no<|b2_go C (wg C.calm) ho boot_max (by decide) hs hs2 ha hb' fun O σ H H2 u v Q R s r r2 q=>⟨i,j,by rw[r.int R s e1,r2.int R s e2],q _ _ (aD.refl _) xf⟩
   | _=>simp only[e1,e2]at h;cases h
  | _=>simp only[e1]at h;cases h
 ·cases z
 ·cases z
 ·cases z
 ·cases z
theorem aH.lrng{n:Bool}{H:Hp}(k:Nat):aH X.K Hi n (lrng k) H (C9 k):=by
 unfold IR.lrng C9
 generalize List.range k=l
 induction l with
 | nil=>exact .nil
 | cons x l ih=>exact .cons (Rp.int.mpr rfl) ih
theorem BA{b:Expr}(h:ux b=false):vU b:=by
 intro o i;cases b<;>first|rfl|cases h
theorem lB{n:Bool}{xs:List PV}{H:Hp}{us:List V}{k:Int}{e:PV}(r:aH X.K Hi n xs H us)(h:cX xs k=some e):∃u,cX us k=some u/\Rp X.K Hi n e H u:=by
 unfold cX at h ⊢;rw[<- r.len];cases c:rN xs.length k with
 | none=>rw[c]at h;cases h
 | some j =>
  rw[c]at h;exact r.at (i:=j) h
theorem zA(hun:X.A.units+64<cLine){a i:Expr}{pos:Pos}{x y r:RV}(hb:ux i=false)(ha:aI X Hi τ a x)(hi:aI X Hi τ i y)(h:i8 x y=some r):aI X Hi τ (.Subscript a i pos) r:=by
 have go:∀{rr:R2}(hr:JC X rr),(∀(O:List Addr)(σ:L2.St)(H H2:Hp)(u v:V)(Q:VK),aq X.K Hi O τ σ H->aD H H2->ag X.K Hi O H H2 x u->ag X.K Hi O H H2 y v->(∀w,ag X.K Hi O H H2 r w->Q w H2)->rr u v H2 Q)->aI X Hi τ (.Subscript a i pos) r:=by
  intro rr hr k O σ H Q R q;refine we (pY hr aZ aZ (BA hb)) ?_;refine ha O σ H _ R fun u H1 s1 r1=>hi O σ H1 _ (R.ext s1) fun v H2 s2 r2=> ?_;exact k O σ H H2 u v Q R (s1.trans s2) (r1.ext s2) (r2.back s1) fun w r3=>q w H2 (s1.trans s2) r3
 unfold i8 at h
 split at h
 case h_1 k e2 =>
  unfold ixK at h
  split at h
  case h_1 xs n =>
   cases c:cX xs k with
   | none=>rw[c]at h;cases h
   | some e =>
    rw[c]at h;cases h;refine go fD fun O σ H H2 u v Q R s r1 r2 q=> ?_;obtain⟨p,us,rfl,_,l,r⟩:=Rp.lst.mp (show Rp X.K Hi n (.lst xs) (aW H2 O) u from r1);obtain⟨w,hw,rw'⟩:=lB r c;exact⟨p,us,k,w,rfl,r2.int R s e2,(aO (O:=O)).seq l,hw,q w (rw'.mono bW).up⟩
  case h_2 xs n =>
   cases c:cX xs k with
   | none=>rw[c]at h;cases h
   | some e =>
    rw[c]at h;cases h;refine go yu fun O σ H H2 u v Q R s r1 r2 q=> ?_;obtain⟨p,us,rfl,l,r⟩:=Rp.tup.mp (show Rp X.K Hi n (.tup xs) (aW H2 O) u from r1);obtain⟨w,hw,rw'⟩:=lB r c;exact⟨p,us,k,w,rfl,r2.int R s e2,(aO (O:=O)).tup l,hw,q w rw'.up⟩
  case h_3 xs n =>
   cases c:cX xs k with
   | none=>rw[c]at h;cases h
   | some e =>
    rw[c]at h;cases h;refine go fD fun O σ H H2 u v Q R s r1 r2 q=> ?_;obtain⟨p,us,rfl,h0,h1,r⟩:=r1;obtain⟨w,hw,rw'⟩:=lB r c;exact⟨p,us,k,w,rfl,r2.int R s e2,bG.of h1,hw,q w (rw'.mono (aP bW)).up⟩
  case h_4 xs =>
   cases c:cX xs k with
   | none=>rw[c]at h;cases h
   | some e =>
    rw[c]at h;cases h;refine go fD fun O σ H H2 u v Q R s r1 r2 q=> ?_;obtain⟨p,us,rfl,_,l,r⟩:=Rp.lst.mp (show Rp X.K Hi false (.lst xs) H2 u from r1);obtain⟨w,hw,rw'⟩:=lB r c;refine⟨p,us,k,w,rfl,r2.int R s e2,l,hw,q w ?_⟩;unfold ur
    split
    ·rename_i im
     exact Rp.imm im (R.ext s).tups (rw'.mono bW)
    ·exact rw'.mono bW
  case h_5 xs =>
   cases c:cX xs k with
   | none=>rw[c]at h;cases h
   | some e =>
    rw[c]at h;cases h;refine go yu fun O σ H H2 u v Q R s r1 r2 q=> ?_;obtain⟨p,us,rfl,l,r⟩:=Rp.tup.mp (show Rp X.K Hi false (.tup xs) H2 u from r1);obtain⟨w,hw,rw'⟩:=lB r c;refine⟨p,us,k,w,rfl,r2.int R s e2,l,hw,q w ?_⟩;unfold ur
    split
    ·rename_i im
     exact Rp.imm im (R.ext s).tups rw'
    ·exact rw'
  case h_6 z n =>
   split at h
   ·rename_i hz
    cases c:cX z.cps.toList k with
    | none=>rw[c]at h;cases h
    | some e =>
     rw[c]at h;cases h;exact go yv fun O σ H H2 u v Q R s r1 r2 q=>⟨z,k,e,r1.str R s rfl,r2.int R s e2,by rw[eG];exact hz,c,q _ scS⟩
   ·cases h
  case h_7=>cases h
 case h_2=>cases h
variable(X Hi τ)in
noncomputable def OpOk(e:Option Expr)(o:Option Int):Prop:=match e,o with
 | none,none=>True
 | some e,some i=>∃r,aI X Hi τ e r/\r.val=.int i
 | _,_=>False
theorem aH.cut{n:Bool}{xs:List PV}{H:Hp}{us:List V}(r:aH X.K Hi n xs H us)(lo hi:Option Int):aH X.K Hi n (IR.cut xs lo hi) H (IB us lo hi):=by
 unfold IR.cut IB;rw[<- r.len];exact(r.drop _).take _
theorem ag.whole{O:List Addr}{σ:L2.St}{H H' :Hp}{x:RV}{u:V}{xs ys:List PV}{n:Bool}(R:aq X.K Hi O τ σ H)(s:aD H H')(h:ag X.K Hi O H H' x u)(e:x.its=some (xs,n))(ev:x.val=.tup ys):ag X.K Hi O H H' (.frz (.tup xs) n) u:=by
 cases x with
 | frz w m =>
  obtain rfl:w=.tup ys:=ev;cases e;exact h
 | bor w =>
  obtain rfl:w=.tup ys:=ev;have e:(if imms ys then some (ys,true)else none)=some (xs,n):=e
  split at e
  ·rename_i i
   cases e;exact Rp.imm (by rw[imm];exact i) (R.ext s).tups (show Rp X.K Hi false (.tup _) H' u from h)
  ·cases e
 | own ys m=>cases ev
 | owd b ys m=>cases b<;>cases ev
end
end IR
namespace IR
open PySem L2
section
variable{X:Cx}{Hi:Hp}{τ:En}
theorem yZ{α β:Type}{o:Option α}{f:α->β}{b:β}(h:o.map f=some b):∃a,o=some a/\f a=b:=by
 cases o with
 | none=>cases h
 | some a=>cases h;exact⟨a,rfl,rfl⟩
theorem lm{v:PV}{ns:List Int}(h:eF v=some ns):∃xs,v=.lst xs/\aY xs=some ns/\∀n∈ns,0<=n/\n<8:=by
 cases v with
 | lst xs =>
  have h:((aY xs).bind fun ns=>if ns.all (fun n=>decide (0<=n)&&decide (n<8))=true then some ns else none)=some ns:=h;cases e:aY xs with
  | none=>rw[e]at h;cases h
  | some ms =>
   rw[e]at h;have h:(if ms.all (fun n=>decide (0<=n)&&decide (n<8))=true then some ms else none)=some ns:=h
   split at h
   ·rename_i c
    cases h;exact⟨xs,rfl,e,fun n hn=>by simpa using Jf.mp c n hn⟩
   ·cases h
 | _=>cases h
theorem nst_ok{cd:Nat->List PV->Option PV}{ct:Ct}(C:bt cd X ct){x y:Str}{f:Bf}{a:Expr}{p p2 pos pos2:Pos}{ra r:RV}(ho:own ct x=true)(ho2:own ct y=true)(hf:ug x y=some f)(hs:isStar a=false)(ha:aI X Hi τ a ra)(h:kz f [ra]=some r) :
  aI X Hi τ (.Call (.Name x p) [.Call (.Name y p2) [a] [] pos2] [] pos) r:=by
 unfold ug at hf
 split at hf
 ·rename_i c
  rw[JU]at c;have hx:=Jp c.1;have hy:=Jp c.2;subst hx hy;cases hf;have h:(eF ra.val).map (fun ns=>RV.own ((bj ns).map PV.int) true)=some r:=h;obtain⟨ns,hn,rfl⟩:=yZ h;obtain⟨xs,e,eb,h8⟩:=lm hn;intro O σ H Q R q;obtain⟨g,hm⟩:=dI C ho;obtain⟨g2,hm2⟩:=dI C ho2;refine we (bi (iG C.calm) g hm PyProof.Rows.boot_sorted (aR (cK (mW C.calm) g2 hm2 PyProof.Rows.boot_set (aR aZ af (aX hs)) (by decide) (by decide) (aX hs) rfl) af) (by decide) (by decide) rfl rfl) ?_;refine ha O σ H _ R fun u H1 s1 r1=> ?_;obtain⟨l,us,rfl,hl,rr⟩:=r1.lst R s1 e;have eu:=dH eb rr;subst eu;refine⟨l,ns,rfl,hl,h8,fun b hb=>⟨b,maskOf ns,rfl,um h8,aC,fun d hd=> ?_⟩⟩;have s2:=s1.trans (aJ hb (.ext (SQ.SX X.w b (maskOf ns))));refine q _ _ (s2.trans (aJ hd _)) (fC s2 hd (aH.ints.mpr ?_));unfold bj;rw[Jq];rfl
 split at hf
 ·rename_i c
  rw[JU]at c;have hx:=Jp c.1;have hy:=Jp c.2;subst hx hy;cases hf;have h:(eF ra.val).map (fun ns=>sc (.int ((bj ns).length:Nat)))=some r:=h;obtain⟨ns,hn,rfl⟩:=yZ h;obtain⟨xs,e,eb,h8⟩:=lm hn;intro O σ H Q R q;obtain⟨g,hm⟩:=dI C ho;obtain⟨g2,hm2⟩:=dI C ho2;refine we (bi lX g hm LJ (aR (cK (mW C.calm) g2 hm2 PyProof.Rows.boot_set (aR aZ af (aX hs)) (by decide) (by decide) (aX hs) rfl) af) (by decide) (by decide) rfl rfl) ?_;refine ha O σ H _ R fun u H1 s1 r1=> ?_;obtain⟨l,us,rfl,hl,rr⟩:=r1.lst R s1 e;have eu:=dH eb rr;subst eu;refine⟨l,ns,rfl,hl,h8,fun b hb=>⟨b,maskOf ns,rfl,um h8,aC,?_⟩⟩;have e3:(bj ns).length=(SQ.lst (maskOf ns)).length:=by
   unfold bj;rw[JM]
  rw[<- e3];exact q _ _ (s1.trans (aJ hb _)) xf
 ·cases hf
end
end IR
namespace IR
open PySem PySem.Spec PyProof.Rows L2
section
variable{X:Cx}{Hi:Hp}{τ:En}
noncomputable def WI(X:Cx)(tg iter:Expr)(σ:L2.St)(H:Hp)(R:It->Hp->Prop):Prop:=∃wi,PI X tg iter wi/\wi σ H R
theorem EB{tg iter:Expr}:PI X tg iter (fun σ H R=>WI X tg iter σ H R):=fun pins s σ H R I ⟨wi,h,q⟩=>h pins s σ H R I q
noncomputable def tu(O:List Addr)(H:Hp):Prop:=∀l∈O,∃o,H l=some o/\Mo o
theorem aq.lsts{K:W.Frag}{O:List Addr}{σ:L2.St}{H:Hp}(R:aq K Hi O τ σ H):tu O H:=fun l hl=>(R.own l hl).2
noncomputable def DG(B:Hp)(H:Hp)(O:List Addr):Prop:=tu O H/\aD B (aW H O)
noncomputable def OkB(B:Hp)(H:Hp)(O:List Addr):Prop:=tu O H/\aD B H
theorem tu.tups{O:List Addr}{H:Hp}(h:tu O H):tj H (aW H O):=by
 refine gt.tups fun l hl=> ?_;obtain⟨us,e,mo⟩:=h l hl;exact mo.noTup e
variable(X Hi)in
structure jD(J:It)(Ok:Hp->List Addr->Prop)(xs:List PV)(n:Bool):Prop where
 go:∀(H:Hp)(O:List Addr)(i:Nat),Ok H O->i<xs.length->J.go i H
 stop:∀(H:Hp)(O:List Addr),Ok H O->J.stop xs.length H
 yld:∀(H:Hp)(O:List Addr)(i:Nat)(u:V)(H' :Hp),Ok H O->i<xs.length->J.yld i H u H' ->aD H H' /\∃x,xs[i]? =some x/\Rp X.K Hi n x (aW H' O) u
variable(X Hi τ)in
noncomputable def lb(tg iter:Expr)(xs:List PV)(n b:Bool):Prop:=∀(O:List Addr)(σ:L2.St)(H:Hp)(R:It->Hp->Prop),aq X.K Hi O τ σ H ->
 (∀J H1,aD H H1->jD X Hi J (if b=true then OkB H1 else DG (aW H1 O)) xs n->R J H1)->WI X tg iter σ H R
theorem DD{B:Hp}{p:Addr}{us:List V}{xs:List PV}{n:Bool}(l:bG X.K B p us)(r:aH X.K Hi n xs B us):jD X Hi (GG X.K p) (DG B) xs n where
 go:=fun H O i ok hi=>⟨us,us[i]'(by rw[<- r.len];exact hi),(ok.2.trans aO).seq l,by simp⟩
 stop:=fun H O ok=>⟨us,(ok.2.trans aO).seq l,by rw[r.len];exact JV _⟩
 yld:=fun H O i u H' ok hi y=>by
  obtain⟨e,y⟩:=y;subst e;obtain⟨x,h1,h2⟩:=r.at' (y us ((ok.2.trans aO).seq l));exact⟨aD.refl _,x,h1,h2.mono ok.2⟩
theorem Hx{B:Hp}{p:Addr}{us:List V}{xs:List PV}{n:Bool}(l:bX X.K B p us)(r:aH X.K Hi n xs B us):jD X Hi (GF X.K p) (DG B) xs n where
 go:=fun H O i ok hi=>⟨us,us[i]'(by rw[<- r.len];exact hi),(ok.2.trans aO).tup l,by simp⟩
 stop:=fun H O ok=>⟨us,(ok.2.trans aO).tup l,by rw[r.len];exact JV _⟩
 yld:=fun H O i u H' ok hi y=>by
  obtain⟨e,y⟩:=y;subst e;obtain⟨x,h1,h2⟩:=r.at' (y us ((ok.2.trans aO).tup l));exact⟨aD.refl _,x,h1,h2.mono ok.2⟩
theorem FW{B:Hp}{p:Addr}{us:List V}{xs:List PV}{n m:Bool}(l:bG X.K B p us)(r:aH X.K Hi m xs B us)(im:imms xs=true):jD X Hi (GG X.K p) (OkB B) xs n where
 go:=fun H O i ok hi=>⟨us,us[i]'(by rw[<- r.len];exact hi),ok.2.seq l,by simp⟩
 stop:=fun H O ok=>⟨us,ok.2.seq l,by rw[r.len];exact JV _⟩
 yld:=fun H O i u H' ok hi y=>by
  obtain⟨e,y⟩:=y;subst e;have r2:aH X.K Hi n xs (aW H' O) us:=aH.imm im ok.1.tups (r.mono ok.2);obtain⟨x,h1,h2⟩:=r2.at' (y us (ok.2.seq l));exact⟨aD.refl _,x,h1,h2⟩
theorem FV{B:Hp}{p:Addr}{us:List V}{xs:List PV}{n m:Bool}(l:bX X.K B p us)(r:aH X.K Hi m xs B us)(im:imms xs=true):jD X Hi (GF X.K p) (OkB B) xs n where
 go:=fun H O i ok hi=>⟨us,us[i]'(by rw[<- r.len];exact hi),ok.2.tup l,by simp⟩
 stop:=fun H O ok=>⟨us,ok.2.tup l,by rw[r.len];exact JV _⟩
 yld:=fun H O i u H' ok hi y=>by
  obtain⟨e,y⟩:=y;subst e;have r2:aH X.K Hi n xs (aW H' O) us:=aH.imm im ok.1.tups (r.mono ok.2);obtain⟨x,h1,h2⟩:=r2.at' (y us (ok.2.tup l));exact⟨aD.refl _,x,h1,h2⟩
theorem cJ(z:Str):(signs z).length=z.cps.size:=by unfold signs;rw[JM,Jv]
theorem signs_at{z:Str}{i:Nat}{c:Nat}(h:z.cps[i]? =some c):(signs z)[i]? =some (.str ⟨#[c]⟩):=by
 unfold signs;rw[Jc,KY,h];rfl
theorem Hy{B:Hp}{z:Str}{n:Bool}:jD X Hi (JE z) (DG B) (signs z) n where
 go:=fun H O i ok hi=>by rw[cJ]at hi;exact hi
 stop:=fun H O ok=>by show(signs z).length=z.cps.size;exact cJ z
 yld:=fun H O i u H' ok hi y=>by
  obtain⟨e,c,hc,rfl⟩:=y;subst e;exact⟨aD.refl _,_,signs_at hc,Rp.str.mpr rfl⟩
theorem vJ{B:Hp}{lo:Int}{k:Nat}{n:Bool}:jD X Hi (DH lo k) (DG B) ((List.range k).map fun i=>.int (lo+(i:Nat))) n where
 go:=fun H O i ok hi=>by show i<k;simpa using hi
 stop:=fun H O ok=>by show k<=_;simp
 yld:=fun H O i u H' ok hi y=>by
  obtain⟨e,rfl⟩:=y;subst e;have hi:i<k:=by simpa using hi
  exact⟨aD.refl _,_,by rw[Jc,KB hi];rfl,Rp.int.mpr rfl⟩
theorem zS{B:Hp}{lo c:Int}{k:Nat}{n:Bool}:jD X Hi (Itc lo c k) (DG B) ((List.range k).map fun i=>.int (lo+(i:Nat)*c)) n where
 go:=fun H O i ok hi=>by show i<k;simpa using hi
 stop:=fun H O ok=>by show _=k;simp
 yld:=fun H O i u H' ok hi y=>by
  obtain⟨e,rfl⟩:=y;subst e;have hi:i<k:=by simpa using hi
  exact⟨aD.refl _,_,by rw[Jc,KB hi];rfl,Rp.int.mpr rfl⟩
theorem Dd{tg e:Expr}{r:RV}{xs:List PV}{n b:Bool}(he:aI X Hi τ e r)(h:jn r=some (xs,n,b)):lb X Hi τ tg e xs n b:=by
 intro O σ H R Rl q;cases r with
 | frz v m =>
  cases v with
  | str z =>
   cases h;refine⟨_,EC aZ,?_⟩;exact he O σ H _ Rl fun u H1 s1 r1=>⟨z,r1.str Rl s1 rfl,q _ _ s1 Hy⟩
  | lst ys =>
   cases h;refine⟨_,gP aZ,?_⟩;refine he O σ H _ Rl fun u H1 s1 r1=> ?_;obtain⟨p,us,rfl,_,l,r⟩:=Rp.lst.mp (show Rp X.K Hi n (.lst xs) (aW H1 O) u from r1);exact⟨p,rfl,⟨us,(aO (O:=O)).seq l⟩,q _ _ s1 (DD l (r.mono bW))⟩
  | tup ys =>
   cases h;refine⟨_,sN aZ,?_⟩;refine he O σ H _ Rl fun u H1 s1 r1=> ?_;obtain⟨p,us,rfl,l,r⟩:=Rp.tup.mp (show Rp X.K Hi n (.tup xs) (aW H1 O) u from r1);exact⟨p,rfl,⟨us,(aO (O:=O)).tup l⟩,q _ _ s1 (Hx l r)⟩
  | _=>cases h
 | bor v =>
  cases v with
  | lst ys =>
   have h:(if imms ys then some (ys,true,true)else none)=some (xs,n,b):=h
   split at h
   ·rename_i im
    cases h;refine⟨_,gP aZ,?_⟩;refine he O σ H _ Rl fun u H1 s1 r1=> ?_;obtain⟨p,us,rfl,_,l,r⟩:=Rp.lst.mp (show Rp X.K Hi false (.lst xs) H1 u from r1);exact⟨p,rfl,⟨us,l⟩,q _ _ s1 (FW l (r.mono bW) im)⟩
   ·cases h
  | tup ys =>
   have h:(if imms ys then some (ys,true,true)else none)=some (xs,n,b):=h
   split at h
   ·rename_i im
    cases h;refine⟨_,sN aZ,?_⟩;refine he O σ H _ Rl fun u H1 s1 r1=> ?_;obtain⟨p,us,rfl,l,r⟩:=Rp.tup.mp (show Rp X.K Hi false (.tup xs) H1 u from r1);exact⟨p,rfl,⟨us,l⟩,q _ _ s1 (FV l r im)⟩
   ·cases h
  | _=>cases h
 | owd bd ys m=>cases h
 | own ys m =>
  cases h;refine⟨_,gP aZ,?_⟩;refine he O σ H _ Rl fun u H1 s1 r1=> ?_;obtain⟨p,us,rfl,h0,h1,r⟩:=r1;have hl:aW H1 O p=some (.lst us):=by
   unfold aW;rw[JR fun z=> ?_]
   ·exact h1
   ·obtain⟨vs,e',_⟩:=(Rl.own p z).2
    rw[h0]at e';cases e'
  exact⟨p,rfl,⟨us,bG.of h1⟩,q _ _ s1 (DD (bG.of hl) (r.mono (aP bW)))⟩
theorem Dt{cd:Nat->List PV->Option PV}{ct:Ct}(C:bt cd X ct){tg:Expr}{es:List Expr}{p pos:Pos}{rs:List RV}{xs:List PV}(ho:own ct ("range":Str)=true)(hs:∀a∈es,isStar a=false)(ha:oF X Hi τ es rs)(hl:es.length=rs.length)(h:nB rs=some xs) :
  lb X Hi τ tg (.Call (.Name "range" p) es [] pos) xs true false:=by
 intro O σ H R Rl q;obtain⟨g,hm⟩:=dI C ho;unfold nB at h
 split at h
 ·rename_i ra
  cases e:ra.val with
  | int j =>
   simp only[e]at h
   split at h
   ·rename_i c
    cases h
    match es,hl with
    | [a],_ =>
     refine⟨_,mD g hm sU (aX (hs a (by simp))),?_⟩;refine ha O σ H _ Rl fun us H1 s1 r1=> ?_;obtain⟨u,vs,rfl,r2,z⟩:=r1;cases z;exact⟨j,by rw[r2.int Rl s1 e],c.1,c.2,q _ _ s1 vJ⟩
   ·cases h
  | _=>simp only[e]at h;cases h
 ·rename_i ra rb
  cases e:ra.val with
  | int i =>
   cases e2:rb.val with
   | int j =>
    simp only[e,e2]at h
    split at h
    ·rename_i c
     cases h
     match es,hl with
     | [a,b],_ =>
      have h1:starEach [a,b] X.env=[(false,eval a X.env),(false,eval b X.env)]:=by rw[aX (hs a (by simp)),aX (hs b (by simp))];rfl
      refine⟨_,v9 g hm sU h1 (aX (hs b (by simp))),?_⟩;refine ha O σ H _ Rl fun us H1 s1 r1=> ?_;obtain⟨u,vs,rfl,r2,u2,vs2,rfl,r3,z⟩:=r1;cases z;exact⟨i,j,by rw[r2.int Rl s1 e,r3.int Rl s1 e2],c,q _ _ s1 vJ⟩
    ·cases h
   | _=>simp only[e,e2]at h;cases h
  | _=>simp only[e]at h;cases h
 ·rename_i ra rb rc
  cases e:ra.val with
  | int i =>
   cases e2:rb.val with
   | int j =>
    cases e3:rc.val with
    | int k =>
     simp only[e,e2,e3]at h
     split at h
     ·rename_i c
      cases h
      match es,hl with
      | [a,b,d],_ =>
       refine⟨_,v8 g hm sU (aX (hs a (by simp))) (gR fun z hz=>hs z (by simp at hz ⊢;rcases hz with rfl|rfl<;>simp)),?_⟩;refine ha O σ H _ Rl fun us H1 s1 r1=> ?_;obtain⟨u,vs,rfl,r2,u2,vs2,rfl,r3,u3,vs3,rfl,r4,z⟩:=r1;cases z;exact⟨i,j,k,by rw[r2.int Rl s1 e,r3.int Rl s1 e2,r4.int Rl s1 e3],c.1,c.2.1,c.2.2,q _ _ s1 zS⟩
     ·cases h
    | _=>simp only[e,e2,e3]at h;cases h
   | _=>simp only[e,e2]at h;cases h
  | _=>simp only[e]at h;cases h
 ·cases h
theorem nU{O:List Addr}{σ:L2.St}{H H1:Hp}{r:RV}{xs:List PV}{n:Bool}{u:V}(R:aq X.K Hi O τ σ H)(s:aD H H1)(h:yd r=some (xs,n))(ok:ag X.K Hi O H H1 r u):∃p us,u=.ref p/\bG X.K (aW H1 O) p us/\aH X.K Hi n xs (aW H1 O) us:=by
 cases r with
 | frz v m =>
  cases v with
  | lst ys =>
   cases h;obtain⟨p,us,rfl,_,l,r⟩:=Rp.lst.mp (show Rp X.K Hi n (.lst xs) (aW H1 O) u from ok);exact⟨p,us,rfl,l,r.mono bW⟩
  | _=>cases h
 | bor v=>cases h
 | owd bd ys m=>cases h
 | own ys m =>
  cases h;obtain⟨p,us,rfl,h0,h1,r⟩:=ok;have hl:aW H1 O p=some (.lst us):=by
   unfold aW;rw[JR fun z=> ?_]
   ·exact h1
   ·obtain⟨vs,e',_⟩:=(R.own p z).2
    rw[h0]at e';cases e'
  exact⟨p,us,rfl,bG.of hl,r.mono (aP bW)⟩
theorem jT{O:List Addr}{H:Hp}{p:Addr}{us:List V}{xs:List PV}{n:Bool}(l:tu O H)(hp:H p=none)(r:aH X.K Hi n xs (aW H O) us):Rp X.K Hi n (.tup xs) (aW (L2.upd H p (.tup us)) O) (.ref p):=by
 refine Rp.tup.mpr ⟨p,us,rfl,bX.of ?_,r.mono (aP (aJ hp _))⟩;unfold aW;rw[JR fun z=> ?_]
 ·exact aC
 ·obtain⟨us,e,_⟩:=l p z
  rw[e]at hp;cases hp
theorem DI{cd:Nat->List PV->Option PV}{ct:Ct}(C:bt cd X ct){ts:List Expr}{kt:Nat}{tpos:Pos}{a b:Expr}{p pos:Pos}{ra rb:RV}{xs:List PV}{n:Bool}(ho:own ct ("zip":Str)=true)(hs:isStar a=false)(hs2:isStar b=false)(ha:aI X Hi τ a ra)(hb:aI X Hi τ b rb)(h:xE ra rb=some (xs,n)) :
  lb X Hi τ (.Tuple ts kt tpos) (.Call (.Name "zip" p) [a,b] [] pos) xs n false:=by
 intro O σ H R Rl q;obtain⟨g,hm⟩:=dI C ho;unfold xE at h
 split at h
 ·rename_i ys n1 zs n2 e1 e2
  split at h
  ·rename_i hlen
   cases h;refine⟨_,EA g hm (aR aZ (aR aZ af (aX hs2)) (aX hs)) (aX hs) (gR fun c hc=>by simp at hc;subst hc;exact hs2),?_⟩;refine ha O σ H _ Rl fun u H1 s1 r1=>hb O σ H1 _ (Rl.ext s1) fun v H2 s2 r2=> ?_;obtain⟨p1,us,rfl,l1,q1⟩:=nU Rl (s1.trans s2) e1 (r1.ext s2);obtain⟨p2,vs,rfl,l2,q2⟩:=nU Rl (s1.trans s2) e2 (r2.back s1);refine⟨p1,p2,us,vs,rfl,(aO (O:=O)).seq l1,(aO (O:=O)).seq l2,q _ _ (s1.trans s2) ?_⟩;have z1:=q1.len;have z2:=q2.len;have zl:(List.zipWith uX ys zs).length=us.length:=by rw[Lj,<-hlen,MC];exact z1
   refine⟨fun G P i ok hi=> ?_,fun G P ok=> ?_,fun G P i w G' ok hi y=> ?_⟩
   ·rw[zl]at hi
    exact⟨us,vs,us[i],vs[i]'(by omega),(ok.2.trans aO).seq l1,(ok.2.trans aO).seq l2,by simp,by simp⟩
   ·exact⟨us,vs,(ok.2.trans aO).seq l1,(ok.2.trans aO).seq l2,.inl (by rw[zl];exact JV _)⟩
   ·rw[zl]at hi
    obtain⟨p3,hp3,rfl,y⟩:=y;have e:=y us vs us[i] (vs[i]'(by omega)) ((ok.2.trans aO).seq l1) ((ok.2.trans aO).seq l2) (by simp) (by simp);subst e;obtain⟨x1,hx1,rx1⟩:=q1.at' (i:=i) (u:=us[i]) (by simp);obtain⟨x2,hx2,rx2⟩:=q2.at' (i:=i) (u:=vs[i]'(by omega)) (by simp);refine⟨aJ hp3 _,uX x1 x2,by rw[K3,hx1,hx2],jT ok.1 hp3 (.cons ((rx1.mono ok.2).low fun z=> ?_) (.cons ((rx2.mono ok.2).low fun z=> ?_) .nil))⟩
    ·rw[JU]at z;exact z.1
    ·rw[JU]at z;exact z.2
  ·cases h
 ·cases h
theorem Ax{cd:Nat->List PV->Option PV}{ct:Ct}(C:bt cd X ct){tg:Expr}{a:Expr}{p pos:Pos}{ys:List PV}{n:Bool}(ho:own ct ("reversed":Str)=true)(hs:isStar a=false)(ha:aI X Hi τ a (.frz (.tup ys) n)) :
  lb X Hi τ tg (.Call (.Name "reversed" p) [a] [] pos) ys.reverse n false:=by
 intro O σ H R Rl q;obtain⟨g,hm⟩:=dI C ho;refine⟨_,ED g hm (aR aZ af (aX hs)) (aX hs),?_⟩;refine ha O σ H _ Rl fun u H1 s1 r1=> ?_;obtain⟨p1,us,rfl,l,r⟩:=Rp.tup.mp (show Rp X.K Hi n (.tup ys) (aW H1 O) u from r1);refine⟨p1,us,rfl,(aO (O:=O)).tup l,q _ _ s1 ?_⟩;have hsl:=r.len;refine⟨fun G P i ok hi=> ?_,fun G P ok=> ?_,fun G P i w G' ok hi y=> ?_⟩
 ·rw[Lk]at hi
  exact⟨by omega,us,(ok.2.trans aO).tup l,rfl⟩
 ·exact⟨by rw[Lk];exact hsl,us,(ok.2.trans aO).tup l,rfl⟩
 ·rw[Lk]at hi
  obtain⟨rfl,y⟩:=y;have e:=y us ((ok.2.trans aO).tup l) rfl;obtain⟨x1,hx1,rx1⟩:=r.at' e;refine⟨aD.refl _,x1,?_,rx1.mono ok.2⟩;rw[List.getElem?_reverse hi,hsl];exact hx1
theorem Ay{r:RV}{ys:List PV}{n:Bool}(h:GK r=some (ys,n)):r=.frz (.tup ys) n:=by
 unfold GK at h
 split at h
 ·cases h
  rfl
 ·cases h
theorem Dp{cd:Nat->List PV->Option PV}{ct:Ct}(C:bt cd X ct){tg:Expr}{a:Expr}{p pos:Pos}{ra:RV}{ys:List PV}{n:Bool}(ho:own ct ("reversed":Str)=true)(hs:isStar a=false)(ha:aI X Hi τ a ra)(h:GK ra=some (ys,n)) :
  lb X Hi τ tg (.Call (.Name "reversed" p) [a] [] pos) ys.reverse n false:=by
 rw[Ay h]at ha;exact Ax C ho hs ha
theorem B2{cd:Nat->List PV->Option PV}{ct:Ct}(C:bt cd X ct){ts:List Expr}{kt:Nat}{tpos:Pos}{a:Expr}{p pos:Pos}{ra:RV}{xs:List PV}{n:Bool}(ho:own ct ("enumerate":Str)=true)(hs:isStar a=false)(ha:aI X Hi τ a ra)(h:qe ra=some (xs,n)) :
  lb X Hi τ (.Tuple ts kt tpos) (.Call (.Name "enumerate" p) [a] [] pos) xs n false:=by
 intro O σ H R Rl q;obtain⟨g,hm⟩:=dI C ho;unfold qe at h
 split at h
 ·rename_i z m
  cases h;refine⟨_,yH g hm (aR aZ af (aX hs)) (aX hs),?_⟩;refine ha O σ H _ Rl fun u H1 s1 r1=>⟨z,by rw[r1.str Rl s1 rfl],q _ _ s1 ?_⟩;have zl:(List.zipWith gQ (List.range z.length) (signs z)).length=z.length:=by rw[Lj,cJ,KO];exact MC _
  have hsl:(cO z).length=z.length:=jm z;refine⟨fun G P i ok hi=> ?_,fun G P ok=> ?_,fun G P i w G' ok hi y=> ?_⟩
  ·rw[zl]at hi
   exact⟨_,(cO z)[i]'(by omega),rfl,by simp⟩
  ·exact⟨_,rfl,by rw[zl,hsl]⟩
  ·rw[zl]at hi
   obtain⟨p3,hp3,rfl,y⟩:=y;have hz:i<z.cps.size:=hi;obtain⟨c,hc⟩:∃c,z.cps[i]? =some c:=⟨z.cps[i],by simp[hz]⟩;have hv:(cO z)[i]? =some (.str ⟨#[c]⟩):=by
    unfold cO;rw[Jc,KY,hc];rfl
   have e:=y _ (.str ⟨#[c]⟩) rfl hv;subst e;refine⟨aJ hp3 _,gQ i (.str ⟨#[c]⟩),by rw[K3,signs_at hc,KB hi],jT ok.1 hp3 (.cons (Rp.int.mpr rfl) (.cons (Rp.str.mpr rfl) .nil))⟩
 ·rename_i ys m
  cases h;refine⟨_,yG g hm (aR aZ af (aX hs)) (aX hs),?_⟩;refine ha O σ H _ Rl fun u H1 s1 r1=> ?_;obtain⟨p1,us,rfl,l,r⟩:=Rp.tup.mp (show Rp X.K Hi n (.tup ys) (aW H1 O) u from r1);refine⟨p1,us,rfl,(aO (O:=O)).tup l,q _ _ s1 ?_⟩;have zl:(List.zipWith gQ (List.range ys.length) ys).length=ys.length:=by rw[Lj,KO];exact MC _
  have hsl:=r.len;refine⟨fun G P i ok hi=> ?_,fun G P ok=> ?_,fun G P i w G' ok hi y=> ?_⟩
  ·rw[zl]at hi
   exact⟨us,us[i]'(by omega),(ok.2.trans aO).tup l,by simp⟩
  ·exact⟨us,(ok.2.trans aO).tup l,by rw[zl,hsl]⟩
  ·rw[zl]at hi
   obtain⟨p3,hp3,rfl,y⟩:=y;have hv:us[i]? =some (us[i]'(by omega)):=by simp
   have e:=y us _ ((ok.2.trans aO).tup l) hv;subst e;obtain⟨x1,hx1,rx1⟩:=r.at' hv;exact⟨aJ hp3 _,gQ i x1,by rw[K3,hx1,KB hi],jT ok.1 hp3 (.cons (Rp.int.mpr rfl) (.cons (rx1.mono ok.2) .nil))⟩
 ·split at h
  ·rename_i ys m e1
   cases h;refine⟨_,pX g hm (aR aZ af (aX hs)) (aX hs),?_⟩;refine ha O σ H _ Rl fun u H1 s1 r1=> ?_;obtain⟨p1,us,rfl,l,r⟩:=nU Rl s1 e1 r1;refine⟨p1,us,rfl,(aO (O:=O)).seq l,q _ _ s1 ?_⟩;have zl:(List.zipWith gQ (List.range ys.length) ys).length=ys.length:=by rw[Lj,KO];exact MC _
   have hsl:=r.len;refine⟨fun G P i ok hi=> ?_,fun G P ok=> ?_,fun G P i w G' ok hi y=> ?_⟩
   ·rw[zl]at hi
    exact⟨us,us[i]'(by omega),(ok.2.trans aO).seq l,by simp⟩
   ·exact⟨us,(ok.2.trans aO).seq l,by rw[zl,hsl]⟩
   ·rw[zl]at hi
    obtain⟨p3,hp3,rfl,y⟩:=y;have hv:us[i]? =some (us[i]'(by omega)):=by simp
    have e:=y us _ ((ok.2.trans aO).seq l) hv;subst e;obtain⟨x1,hx1,rx1⟩:=r.at' hv;exact⟨aJ hp3 _,gQ i x1,by rw[K3,hx1,KB hi],jT ok.1 hp3 (.cons (Rp.int.mpr rfl) (.cons (rx1.mono ok.2) .nil))⟩
  ·cases h
theorem ln{N:List Str}:∀{xs:List Str}{is:List Nat},slots N xs=some is->xs.length=is.length
 | [],is,h=>by cases h;rfl
 | x::xs,is,h=>by
  unfold slots at h;cases e:slot N x with
  | none=>rw[e]at h;cases h
  | some i =>
   rw[e]at h;cases e2:slots N xs with
   | none=>simp[e2]at h
   | some js =>
    simp[e2]at h;subst h;simp[ln e2]
theorem pC{N:List Str}:∀{xs:List Str}{is:List Nat}{j i:Nat},slots N xs=some is->is[j]? =some i->∃x,xs[j]? =some x/\N[i]? =some x
 | [],is,j,i,h,hj=>by cases h;simp at hj
 | x::xs,is,j,i,h,hj=>by
  unfold slots at h;cases e:slot N x with
  | none=>rw[e]at h;cases h
  | some i0 =>
   rw[e]at h;cases e2:slots N xs with
   | none=>simp[e2]at h
   | some js =>
    simp[e2]at h;subst h;cases j with
    | zero =>
     simp at hj;subst hj;exact⟨x,by simp,fB e⟩
    | succ j=>simpa using pC e2 (by simpa using hj)
theorem kE{ct:Ct}{t:Str}{scope:Scope}(h:wK ct t scope=true):scope.kind=.function/\(∀y∈scope.names,y.2=.cell->scope.names.lookup y.1=some .cell)/\(∀y∈scope.names,y.2=.local->scope.names.lookup y.1=some .local) /\
  (∀y∈scope.names,y.2=.free->(ct.S.lookup y.1=some .cell\/ct.S.lookup y.1=some .free))/\(t::frees scope).Nodup/\(scope.names.lookup t=some .local\/scope.names.lookup t=some .cell)/\∀x∈frees scope,scope.names.lookup x=some .free:=by
 unfold wK at h;simp only[JU]at h;obtain⟨⟨⟨⟨⟨⟨h1,h2⟩,h3⟩,h4⟩,h5⟩,h6⟩,h7⟩:=h;refine⟨Jp h1,fun y hy e=> ?_,fun y hy e=> ?_,fun y hy e=> ?_,Jr h5,by simpa using h6,fun x hx=> ?_⟩
 ·have:=Jf.mp h2 y hy
  rw[e]at this
  simpa using this
 ·have:=Jf.mp h3 y hy
  rw[e]at this
  simpa using this
 ·have:=Jf.mp h4 y hy
  rw[e]at this
  simpa using this
 ·have:=Jf.mp h7 x hx
  simpa using this
theorem gL{env:Env}:∀{names:List (Str×NameKind)}{x:Str},names.lookup x=some .cell ->
  (names.map fun(n,k)=>if(k==NameKind.free&&env.scope.kind== .function&&env.kindOf n==some .cell)then(n,NameKind.cell)else(n,k)).lookup x=some .cell
 | [],_,h=>by simp at h
 | (n,k)::r,x,h=>by
  have ih:= @gL env r x;show List.lookup x ((if(k==NameKind.free&&env.scope.kind== .function&&env.kindOf n==some .cell)=true then(n,NameKind.cell)else(n,k))::_)=_;cases hx:x==n with
  | true =>
   simp only[KA,hx]at h;cases h;rw[JR (by simp)];simp only[KA,hx]
  | false =>
   simp only[KA,hx]at h
   by_cases hc:(k==NameKind.free&&env.scope.kind== .function&&env.kindOf n==some .cell)=true
   ·rw[JS hc];simp only[KA,hx];exact ih h
   ·rw[JR hc];simp only[KA,hx];exact ih h
theorem mn{N' :List Str}{scope:Scope}{Cf:Addr}{s2:Shared}{H2:Hp}{fp:List Addr}{cl:List (Str×Addr)}{t:Str}(h:scope.names.lookup t=some .local\/scope.names.lookup t=some .cell):L2.Loc (bD X N' scope Cf s2 H2 fp cl).env.scope t:=by
 rcases h with h|h
 ·exact .inl (lookup_relabel_local h)
 ·exact .inr (gL h)
theorem rY{N' :List Str}{scope:Scope}{Cf:Addr}{s2:Shared}{H2:Hp}{fp:List Addr}{cl:List (Str×Addr)}{t:Str}(h:scope.names.lookup t=some .local\/scope.names.lookup t=some .cell):(bD X N' scope Cf s2 H2 fp cl).fn t=true\/(bD X N' scope Cf s2 H2 fp cl).env.scope.names.lookup t=some .local:=by
 rcases h with h|h
 ·exact .inr (lookup_relabel_local h)
 ·left
  show(scope.names.lookup t==some .cell)=true;rw[h];rfl
theorem bt.blk{cd:Nat->List PV->Option PV}{ct:Ct}(C:bt cd X ct){t:Str}{scope:Scope}(h:wK ct t scope=true)(Cf:Addr)(s2:Shared)(H2:Hp)(fp:List Addr)(cl:List (Str×Addr)):bt cd (bD X (t::frees scope) scope Cf s2 H2 fp cl) (blk ct t scope):=by
 obtain⟨h1,h2,h3,h4,h5,h6,h7⟩:=kE h;refine⟨rfl,h5,?_,h1,C.calm,C.glob,C.bl,C.fns,Kd,C.un⟩;show(scope.names.map fun(n,k)=>if(k==NameKind.free&&X.env.scope.kind== .function&&X.env.kindOf n==some .cell)then(n,NameKind.cell)else(n,k))=lw ct.S scope.names;unfold lw;refine KI fun y hy=> ?_;obtain⟨n,k⟩:=y;have e:(X.env.scope.kind==ScopeKind.function)=true:=by rw[C.kind];rfl
 have e2:X.env.kindOf n=ct.S.lookup n:=by
  show X.env.scope.names.lookup n=_;rw[C.S]
 dsimp only;rw[e,e2]
theorem mJ{ct:Ct}{t t2:Str}{scope:Scope}(h:mK ct t t2 scope=true):scope.kind=.function/\(∀y∈scope.names,y.2=.cell->scope.names.lookup y.1=some .cell)/\(∀y∈scope.names,y.2=.local->scope.names.lookup y.1=some .local) /\
  (∀y∈scope.names,y.2=.free->(ct.S.lookup y.1=some .cell\/ct.S.lookup y.1=some .free))/\(t::t2::frees scope).Nodup/\(scope.names.lookup t=some .local\/scope.names.lookup t=some .cell)/\(scope.names.lookup t2=some .local\/scope.names.lookup t2=some .cell)/\∀x∈frees scope,scope.names.lookup x=some .free:=by
 unfold mK at h;simp only[JU]at h;obtain⟨⟨⟨⟨⟨⟨⟨h1,h2⟩,h3⟩,h4⟩,h5⟩,h6⟩,h8⟩,h7⟩:=h;refine⟨Jp h1,fun y hy e=> ?_,fun y hy e=> ?_,fun y hy e=> ?_,Jr h5,by simpa using h6,by simpa using h8,fun x hx=> ?_⟩
 ·have:=Jf.mp h2 y hy
  rw[e]at this
  simpa using this
 ·have:=Jf.mp h3 y hy
  rw[e]at this
  simpa using this
 ·have:=Jf.mp h4 y hy
  rw[e]at this
  simpa using this
 ·have:=Jf.mp h7 x hx
  simpa using this
theorem bt.blk2{cd:Nat->List PV->Option PV}{ct:Ct}(C:bt cd X ct){t t2:Str}{scope:Scope}(h:mK ct t t2 scope=true)(Cf:Addr)(s2:Shared)(H2:Hp)(fp:List Addr)(cl:List (Str×Addr)):bt cd (bD X (t::t2::frees scope) scope Cf s2 H2 fp cl) (blk2 ct t t2 scope):=by
 obtain⟨h1,h2,h3,h4,h5,h6,h8,h7⟩:=mJ h;refine⟨rfl,h5,?_,h1,C.calm,C.glob,C.bl,C.fns,Kd,C.un⟩;show(scope.names.map fun(n,k)=>if(k==NameKind.free&&X.env.scope.kind== .function&&X.env.kindOf n==some .cell)then(n,NameKind.cell)else(n,k))=lw ct.S scope.names;unfold lw;refine KI fun y hy=> ?_;obtain⟨n,k⟩:=y;have e:(X.env.scope.kind==ScopeKind.function)=true:=by rw[C.kind];rfl
 have e2:X.env.kindOf n=ct.S.lookup n:=by
  show X.env.scope.names.lookup n=_;rw[C.S]
 dsimp only;rw[e,e2]
theorem jk{cd:Nat->List PV->Option PV}{ct:Ct}(C:bt cd X ct){scope:Scope}:∀{xs:List Str}{caps:List Nat},slots ct.N xs=some caps->(∀x∈xs,scope.names.lookup x=some .free/\(ct.S.lookup x=some .cell\/ct.S.lookup x=some .free))->ba X scope xs (caps.map some)
 | [],caps,h,_=>by cases h;exact True.intro
 | x::xs,caps,h,k=>by
  unfold slots at h;cases e:slot ct.N x with
  | none=>rw[e]at h;cases h
  | some i0 =>
   rw[e]at h;cases e2:slots ct.N xs with
   | none=>simp[e2]at h
   | some js =>
    simp[e2]at h;subst h;obtain⟨k1,k2⟩:=k x JP;exact⟨⟨by rw[C.N];exact fB e,k1,by rw[C.S];exact k2⟩,jk C e2 fun y hy=>k y (JO _ hy)⟩
theorem yT{t:TV}{x:Bd×List PV×Bool}(h:t.ob=some x):t≠.un:=fun e=>by subst e;cases h
theorem aq.block{K:W.Frag}{O:List Addr}{σ:L2.St}{H:Hp}{caps:List Nat}{x:PV}{n:Bool}{u:V}(R:aq K Hi O τ σ H)(nd:caps.Nodup)(r:Rp K Hi n x (aW H O) u) :
  aq K Hi O (.frz x n::caps.map fun i=>τ.getD i .un) (some u::bP (caps.map some) σ) H:=by
 have hτ:∀(j:Nat)(v:TV),(caps.map fun i=>τ.getD i .un)[j]? =some v->v≠.un->∃i,caps[j]? =some i/\τ[i]? =some v:=fun j v e hv=>by
  rw[Jc]at e;cases ec:caps[j]? with
  | none=>rw[ec]at e;cases e
  | some i =>
   rw[ec]at e;refine⟨i,rfl,?_⟩;have e:τ.getD i .un=v:=Jl e;rw[JX]at e;cases et:τ[i]? with
   | none=>rw[et]at e;exact absurd e.symm hv
   | some w=>rw[et]at e;exact Jw some e
 have hσ:∀(j i:Nat),caps[j]? =some i->(bP (caps.map some) σ)[j]? =some ((σ[i]?).join):=fun j i e=>by
  unfold bP;rw[Jc,Jc,e];rfl
 refine⟨R.same,R.own,fun j v m e=> ?_,fun j t bd ys m e ht=> ?_,fun a b t t' x1 y1 l e1 ht e2 ht' h1 h2=> ?_⟩
 ·cases j with
  | zero =>
   simp at e;obtain⟨rfl,rfl⟩:=e;exact⟨u,by simp,r⟩
  | succ j =>
   obtain⟨i,h1,h2⟩:=hτ j _ (by simpa using e) (by simp);obtain⟨w,h3,h4⟩:=R.frz i v m h2;exact⟨w,by rw[Kq,hσ j i h1,h3];rfl,h4⟩
 ·cases j with
  | zero =>
   simp at e;subst e;cases ht
  | succ j =>
   obtain⟨i,h1,h2⟩:=hτ j _ (by simpa using e) (yT ht);obtain⟨l,us,o,h3,h4⟩:=R.obs i t bd ys m h2 ht;exact⟨l,us,o,by rw[Kq,hσ j i h1,h3];rfl,h4⟩
 ·cases a with
  | zero =>
   simp at e1;subst e1;cases ht
  | succ a =>
   cases b with
   | zero =>
    simp at e2;subst e2;cases ht'
   | succ b =>
    obtain⟨i,c1,c2⟩:=hτ a _ (by simpa using e1) (yT ht);obtain⟨j,d1,d2⟩:=hτ b _ (by simpa using e2) (yT ht');rw[Kq,hσ a i c1]at h1;rw[Kq,hσ b j d1]at h2;obtain⟨b1,xs1,n1⟩:=x1;obtain⟨b2,xs2,n2⟩:=y1;obtain⟨l1,us1,o1,g1,_⟩:=R.obs i t b1 xs1 n1 c2 ht;obtain⟨l2,us2,o2,g2,_⟩:=R.obs j t' b2 xs2 n2 d2 ht';rw[g1]at h1;rw[g2]at h2;cases h1;cases h2;have e:=R.dst i j t t' _ _ l c2 ht d2 ht' g1 g2;subst e
    congr 1
    have ha:a<caps.length:=(JY.mp c1).1;have hb:b<caps.length:=(JY.mp d1).1;have e1:caps[a]=i:=by rw[Ja ha]at c1;exact Jl c1
    have e2:caps[b]=i:=by rw[Ja hb]at d1;exact Jl d1
    exact(List.getElem_inj nd).mp (e1.trans e2.symm)
theorem ko{N:List Str}:∀{xs:List Str}{caps:List Nat},slots N xs=some caps->xs.Nodup->caps.Nodup
 | [],caps,h,_=>by cases h;exact List.nodup_nil
 | x::xs,caps,h,nd=>by
  unfold slots at h;cases e:slot N x with
  | none=>rw[e]at h;cases h
  | some i0 =>
   rw[e]at h;cases e2:slots N xs with
   | none=>simp[e2]at h
   | some js =>
    simp[e2]at h;subst h;refine Jt.mpr ⟨fun hm=> ?_,ko e2 (Jt.mp nd).2⟩;obtain⟨k,hk⟩:=List.mem_iff_getElem?.mp hm;obtain⟨y,h1,h2⟩:=pC e2 hk;rw[fB e]at h2;cases h2;exact(Jt.mp nd).1 (Jn h1)
theorem aq.hide{K:W.Frag}{O:List Addr}{σ:L2.St}{H H' :Hp}{D:Addr}{us:List V}(R:aq K Hi O τ σ H)(s:aD H H')(h0:H D=none)(h1:H' D=some (.lst us)):aq K Hi (D::O) τ σ H' :=by
 have hs:aD (aW H O) (aW H' (D::O)):=fun b o e=>by
  unfold aW at e ⊢
  split at e
  ·cases e
  ·rename_i nb
   have ne:b≠D:=aE e h0;rw[JR (by simp[ne,nb])];exact s b o e
 refine⟨R.same.trans s,fun l hl=> ?_,fun i v n e=> ?_,fun i t b xs n e ht=> ?_,R.dst⟩
 ·rcases Jg.mp hl with rfl|hl
  ·exact⟨R.same.free h0,_,h1,.lst⟩
  ·obtain⟨q,vs,e,mo⟩:=R.own l hl
   exact⟨q,vs,s _ _ e,mo⟩
 ·obtain⟨u,g1,g2⟩:=R.frz i v n e
  exact⟨u,g1,g2.mono hs⟩
 ·obtain⟨l,vs,o,g1,g2,g3,g4,g5⟩:=R.obs i t b xs n e ht
  exact⟨l,vs,o,g1,JO _ g2,s _ _ g3,g4,g5.mono hs⟩
theorem nR{e:Expr}{env:Env}(h:cB e=false):∀x,foldedSetIterable e env x=pure x:=by
 intro x;cases e with
 | Set a b c=>cases h
 | _=>rfl
noncomputable def qo(cd:Nat->List PV->Option PV)(ifs:ICo)(elt:IE)(n:Bool)(aN:En):PV->Option (Option (PV×Bool)):=fun x=>(su cd ifs (.frz x (n||imm x)::aN)).bind fun b=>if b then(ac cd elt (.frz x (n||imm x)::aN)).bind fun r=>r.keep.map some else some none
theorem Bj{cd:Nat->List PV->Option PV}{ct:Ct}(C:bt cd X ct){t:Str}{tp:Pos}{iter elt:Expr}{ifs:List Expr}{ifs' :ICo}{elt' :IE}{scope:Scope}{caps:List Nat}{xs:List PV}{n b:Bool}{VS:List PV}{NN:Bool}
  (h:wK ct t scope=true) (hc:slots ct.N (frees scope)=some caps) (hset:cB iter=false) (jK:lb X Hi τ (.Name t tp) iter xs n b) (hz:xs.length<=LN)
  (hifs:∀(X' :Cx)(τ' :En)(k:Bool),bt cd X' (blk ct t scope)->su cd ifs' τ' =some k->∃tt,Cn X' ifs tt/\∀(O:List Addr)(σ:L2.St)(H:Hp)(Q:Bool->Hp->Prop),aq X'.K Hi O τ' σ H->(∀H',aD H H' ->Q k H')->tt σ H Q)
  (helt:∀(X' :Cx)(τ' :En)(r:RV),bt cd X' (blk ct t scope)->ac cd elt' τ' =some r->aI X' Hi τ' elt r)
  (hrun:b8 (qo cd ifs' elt' n (caps.map fun i=>τ.getD i .un)) xs=some (VS,NN)):ba X scope (t::frees scope) (none::caps.map some)/\fM X.env.scope scope=true /\
  ∀(O:List Addr)(σ:L2.St)(H:Hp)(Q:VK),aq X.K Hi O τ σ H->(∀u H',aD H H' ->ag X.K Hi O H H' (.own VS NN) u->Q u H')->Gm X (t::frees scope) (none::caps.map some) scope (.Name t tp) ifs elt (fun σ H R=>WI X (.Name t tp) iter σ H R) σ H Q:=by
 obtain⟨h1,h2,h3,h4,h5,h6,h7⟩:=kE h;have hmem:∀x∈frees scope,(x,NameKind.free)∈scope.names:=fun x hx=>Jz (h7 x hx);have hsrc:ba X scope (t::frees scope) (none::caps.map some):=jk C hc fun x hx=>⟨h7 x hx,h4 _ (hmem x hx) rfl⟩;have hfr:fM X.env.scope scope=true:=by
  unfold fM;rw[Jf];intro y hy;rw[C.S]
  by_cases e:y.2=.free
  ·rcases h4 y hy e with z|z<;>simp[e,z]
  ·simp[e]
 refine⟨hsrc,hfr,fun O σ H Q R q=> ?_⟩;refine jK O σ H _ R fun J H1 s1 En=> ?_;intro D hD;have hlen:=ln hc;have ok:∀(G:Hp)(ys:List V),aD H1 G->G D=some (.lst ys)->(if b=true then OkB H1 else DG (aW H1 O)) G (D::O):=by
  intro G ys sG gD;have ls:tu (D::O) G:=fun l hl=>by
   rcases Jg.mp hl with rfl|hl
   ·exact⟨_,gD,.lst⟩
   ·obtain⟨us,e,mo⟩:=(R.own l hl).2
    exact⟨us,sG _ _ (s1 _ _ e),mo⟩
  cases b with
  | true=>exact⟨ls,sG⟩
  | false =>
   refine⟨ls,fun c o e=> ?_⟩;unfold aW at e ⊢
   split at e
   ·cases e
   ·rename_i nb
    have ne:c≠D:=aE e hD;rw[JR (by simp[ne,nb])];exact sG c o e
 refine⟨fun i m ys G=>m=xs.length-i/\i<=xs.length/\aD H1 G/\G D=some (.lst ys)/\ys.length<=i/\∃dn ws mm,b8 (qo cd ifs' elt' n (caps.map fun i=>τ.getD i .un)) (xs.drop i)=some (ws,mm)/\VS=dn++ws/\(NN=true->mm=true)/\aH X.K Hi NN dn (aW G (D::O)) ys,
  ⟨xs.length,by simp,Js _,aJ hD _,aC,JV _,[],VS,NN,hrun,rfl,id,.nil⟩,?_⟩
 rintro i m ys G ⟨rfl,hi,sG,gD,hyl,dn,ws,mm,hc1,hv,hn,hr⟩
 by_cases hlt:i<xs.length
 ·refine .inr ⟨En.go G (D::O) i (ok G ys sG gD) hlt,fun u G' y=> ?_⟩
  obtain⟨sGG,x,hx,rx⟩:=En.yld G (D::O) i u G' (ok G ys sG gD) hlt y;intro Cf s2 H2 fp cl;have C' :=C.blk h Cf s2 H2 fp cl;have hd:xs.drop i=x::xs.drop (i+1):=by
   rw[K6 hlt];rw[Ja hlt]at hx;rw[Jl hx]
  rw[hd]at hc1;unfold b8 at hc1;cases hf:qo cd ifs' elt' n (caps.map fun i=>τ.getD i .un) x with
  | none=>rw[hf]at hc1;cases hc1
  | some r0 =>
   rw[hf]at hc1;cases hcr:b8 (qo cd ifs' elt' n (caps.map fun i=>τ.getD i .un)) (xs.drop (i+1))with
   | none=>rw[hcr]at hc1;cases hc1
   | some w =>
    obtain⟨ws',mm'⟩:=w;rw[hcr]at hc1;unfold qo at hf;cases hco:su cd ifs' (.frz x (n||imm x)::caps.map fun i=>τ.getD i .un)with
    | none=>rw[hco]at hf;cases hf
    | some k =>
     rw[hco]at hf;obtain⟨tt,ptt,qtt⟩:=hifs _ _ _ C' hco;have gD' :G' D=some (.lst ys):=sGG _ _ gD
     have RB:aq X.K Hi (D::O) (.frz x (n||imm x)::caps.map fun i=>τ.getD i .un) (some u::bP (caps.map some) σ) G' :=
      (R.hide (s1.trans (sG.trans sGG)) (s1.free hD) gD').block (ko hc (Jt.mp h5).2) rx.up
     refine⟨qR 0,tt,_,ay h5 rfl (mn h6) (rY h6),ptt,aZ,?_⟩;refine⟨rC (by simp[hlen]),?_⟩;show tt (some u::bP (caps.map some) σ) G' _;refine qtt (D::O) _ G' _ RB fun G4 s4=> ?_;cases k with
     | false =>
      rw[JR JT];have hf:(some none:Option (Option (PV×Bool)))=some r0:=hf;cases hf;cases hc1;exact⟨xs.length-(i+1),by omega,rfl,hlt,sG.trans (sGG.trans s4),s4 _ _ gD',by omega,dn,ws,mm,hcr,hv,hn,hr.mono (aP (sGG.trans s4))⟩
     | true =>
      rw[JS rfl];have hf:((ac cd elt' (.frz x (n||imm x)::caps.map fun i=>τ.getD i .un)).bind fun r=>r.keep.map some)=some r0:=hf;cases he:ac cd elt' (.frz x (n||imm x)::caps.map fun i=>τ.getD i .un)with
      | none=>rw[he]at hf;cases hf
      | some r =>
       rw[he]at hf;have hf:r.keep.map some=some r0:=hf;cases hk:r.keep with
       | none=>rw[hk]at hf;cases hf
       | some vn =>
        obtain⟨v,nv⟩:=vn;rw[hk]at hf;cases hf;have hc1:some (v::ws',nv&&mm')=some (ws,mm):=hc1;cases hc1;refine helt _ _ _ C' he (D::O) _ G4 _ (RB.ext s4) fun w G5 s5 r5=> ?_;have kp:=r5.keep (RB.ext s4) s5 hk;have gD5:=s5 _ _ (s4 _ _ gD');have sT:=sG.trans (sGG.trans (s4.trans s5));have hz' :xs.length<=16777216:=hz;refine⟨gD5,by rw[eG];omega,xs.length-(i+1),by omega,rfl,hlt,sT.upd hD,aC,by rw[Jj];simp;omega,dn++[v],ws',mm',hcr,by rw[hv];simp,fun z=> ?_,?_⟩
        ·have:=hn z
         rw[JU]at this;exact this.2
        ·have e:aW (L2.upd G5 D (.lst (ys++[w]))) (D::O)=aW G5 (D::O):=by
          funext c
          unfold aW
          split
          ·rfl
          ·rename_i nc
           exact aB fun z=>nc (z▸JP)
         rw[e];refine(hr.mono (aP (sGG.trans (s4.trans s5)))).app (.cons (kp.low fun z=> ?_) .nil);have:=hn z;rw[JU]at this;exact this.1
 ·have e:i=xs.length:=by omega
  subst e;rw[List.drop_length]at hc1;cases hc1;refine .inl ⟨En.stop G (D::O) (ok G ys sG gD),q _ _ (s1.trans sG) ?_⟩;refine⟨D,ys,rfl,s1.free hD,gD,?_⟩;rw[hv,KL];refine hr.mono fun c o e=> ?_;unfold aW at e;unfold aW del
  split at e
  ·cases e
  ·rename_i nc
   have n1:c≠D:=fun z=>nc (z▸JP);have n2:c∉O:=fun z=>nc (JO _ z);rw[JR n2,JR n1];exact e
theorem wk{N' :List Str}{r:List (Option Nat)}{σ:L2.St}{x y:V}(h:r.length+2=N'.length) :
  (((bP (none::none::r) σ).set 0 (some x)).set 1 (some y)).length=N'.length/\∀(j:Nat)(v:V),(bP (none::none::r) σ)[j]? =some (some v)->(((bP (none::none::r) σ).set 0 (some x)).set 1 (some y))[j]? =some (some v):=by
 refine⟨by rw[Kg,Kg];simp[bP,h],fun j v e=> ?_⟩;cases j with
 | zero=>simp[bP]at e
 | succ j =>
  cases j with
  | zero=>simp[bP]at e
  | succ j=>simpa [bP]using e
theorem BC{e:Expr}{t:TE}(h:PE X e t):PE X e (fun σ H Q=>t σ H fun v H' =>∃a o kvs,H' a=some (.frz o (.dK kvs))/\NF X a/\Q v (L2.upd H' a (.dK kvs))):=by
 intro pins s σ H Q I hr;refine al (h pins s σ H _ I hr) fun u s1 q=> ?_;obtain⟨v,H',I',rv,a,o,kvs,ha,nf,q⟩:=q;exact⟨v,_,I'.unknown nf ha,rv,q⟩
theorem yh{ra r:RV}{t:Option TV}(h:wJ ra t=some r):∃ks vs n T m ns,ra=.frz (.dK ks vs) n/\t=some (.frz (.int T) m)/\ks.length<=LN/\lI T ks vs=some ns/\r=.own (ns.map PV.int) true:=by
 unfold wJ at h
 split at h
 ·split at h
  ·rename_i ks vs n T m hz
   cases e:lI T ks vs with
   | none=>rw[e]at h;cases h
   | some ns=>rw[e]at h;cases h;exact⟨_,_,_,_,_,_,rfl,rfl,hz,e,rfl⟩
  ·cases h
 ·cases h
theorem uI{n:Bool}{T:Int}:∀{ks:List ae}{vs:List PV}{ns:List Int}{G:Hp}{us:List V},lI T ks vs=some ns->aH X.K Hi n vs G us->∃qs:List (Int×Int),ks.zip us=qs.map (fun q=>(Sum.inl q.1,V.int q.2))/\qs.length=ks.length/\ns=(qs.filter fun q=>decide (Builtin.bitAnd q.1 T=0)).map (·.2)
 | [],vs,ns,G,us,h,r=>by
  cases vs with
  | nil=>cases h;exact⟨[],rfl,rfl,rfl⟩
  | cons v vs=>cases h
 | k::ks,vs,ns,G,us,h,r=>by
  cases vs with
  | nil=>cases k<;>cases h
  | cons v vs =>
   cases k with
   | inr z=>cases v<;>cases h
   | inl k =>
    cases v with
    | int v =>
     have h:(lI T ks vs).map (fun r=>if Builtin.bitAnd k T=0 then v::r else r)=some ns:=h;cases e:lI T ks vs with
     | none=>rw[e]at h;cases h
     | some ms =>
      rw[e]at h;unfold aH at r;obtain⟨u,us',rfl,r1,r2⟩:=r;obtain⟨qs,e1,e2,e3⟩:=uI e r2;have e4:=Rp.int.mp r1;subst e4;have h:=Jl h;refine⟨(k,v)::qs,by rw[MG,e1];rfl,by simp[e2],?_⟩;rw[<- h,e3]
      by_cases c:Builtin.bitAnd k T=0<;>simp[c]
    | _=>cases h
theorem pE{n:Bool}{G:Hp}:∀{ns:List Int},aH X.K Hi n (ns.map PV.int) G (ns.map V.int)
 | []=>.nil
 | _::_=>.cons (Rp.int.mpr rfl) pE
theorem xk{K:W.Frag}{G:Hp}{a b c:Int}:aq K (fun _=>none) [] [.frz (.int a) true,.frz (.int b) true,.frz (.int c) true] [some (.int a),some (.int b),some (.int c)] G:=by
 refine⟨fun _ _ e=>(by cases e),fun l hl=>(by cases hl),fun j v m e=> ?_,fun j t bd ys m e ht=> ?_,fun i j t t' x y l e1 ht=> ?_⟩
 ·match j,e with
  | 0,e=>cases e;exact⟨_,rfl,Rp.int.mpr rfl⟩
  | 1,e=>cases e;exact⟨_,rfl,Rp.int.mpr rfl⟩
  | 2,e=>cases e;exact⟨_,rfl,Rp.int.mpr rfl⟩
  | j+3,e=>simp at e
 ·match j,e with
  | 0,e=>cases e;cases ht
  | 1,e=>cases e;cases ht
  | 2,e=>cases e;cases ht
  | j+3,e=>simp at e
 ·match i,e1 with
  | 0,e=>cases e;cases ht
  | 1,e=>cases e;cases ht
  | 2,e=>cases e;cases ht
  | j+3,e=>simp at e
theorem El{cd:Nat->List PV->Option PV}{ct:Ct}(C:bt cd X ct){d:Expr}{ra r:RV}{i:Nat}{x y t:Str}{p1 p2 p3 p4 p5 p6 p7 p8 p9 lp ap cp:Pos}{k k2:Nat}{scope:Scope}(h:mK ct x y scope=true)(hf:frees scope=[t])
  (v0:bN (blk2 ct x y scope) x=.var 0) (v1:bN (blk2 ct x y scope) y=.var 1) (v2:bN (blk2 ct x y scope) t=.var 2) (hi:slot ct.N t=some i) (hsub:jg d=true) (hline:(ap.endLine==cp.line)=true) (hd:aI X Hi τ d ra) (hr:wJ ra τ[i]? =some r) :
  aI X Hi τ (.ListComp (.Name y p9) [⟨.Tuple [.Name x p1,.Name y p2] k p3,.Call (.Attribute d "items" ap) [] [] cp,[.Compare (.BinOp (.Name x p4) .BitAnd (.Name t p5) p6) [.Eq] [.Constant (.int 0) k2 p7] p8],0⟩] scope lp) r:=by
 obtain⟨ks,vs,nn,T,nt,ns,rfl,hτ,hz,hs,rfl⟩:=yh hr;obtain⟨h1,h2,h3,h4,h5,h6,h8,h7⟩:=mJ h;have hc:slots ct.N (frees scope)=some [i]:=by rw[hf];unfold slots;rw[hi];rfl
 have hsrc:ba X scope (x::y::frees scope) (none::none::[some i]):=jk C hc fun z hz=>⟨h7 z hz,h4 _ (Jz (h7 z hz)) rfl⟩;have hfr:fM X.env.scope scope=true:=by
  unfold fM;rw[Jf];intro y hy;rw[C.S]
  by_cases e:y.2=.free
  ·rcases h4 y hy e with z|z<;>simp[e,z]
  ·simp[e]
 obtain⟨a1,a2,a3,rfl⟩:=vq hsub;intro O σ H Q R q;refine we (BC (yJ C.calm (pq aZ rfl hline) hsrc h1 h2 h3 hfr (fun _=>rfl))) ?_;refine hd O σ H _ R fun u H1 s1 r1=> ?_;have r1:Rp X.K Hi nn (.dK ks vs) (aW H1 O) u:=r1;unfold Rp at r1;obtain⟨p,us,rfl,_,hp,hl,rl⟩:=r1;obtain⟨qs,e1,e2,e3⟩:=uI hs rl;obtain⟨w,hσ,rw⟩:=R.frz i _ _ hτ;have hw:=Rp.int.mp rw;subst hw;have hp:=aO _ _ hp;rw[e1]at hp;refine⟨p,_,rfl,hp,fun o nf D hD=> ?_⟩;have hDp:D≠p:=fun e=>by subst e;rw[aC]at hD;cases hD
 have hp' :∀G,aD (L2.upd H1 p (.frz o (.dK (qs.map fun q=>(Sum.inl q.1,V.int q.2))))) G->G p=some (.frz o (.dK (qs.map fun q=>(Sum.inl q.1,V.int q.2)))):=fun G s=>s _ _ aC
 refine⟨fun i m ys G=>m=qs.length-i/\i<=qs.length/\aD (L2.upd H1 p (.frz o (.dK (qs.map fun q=>(Sum.inl q.1,V.int q.2))))) G/\G D=some (.lst ys)/\ys.length<=i/\ns.map V.int=ys++((qs.drop i).filter fun q=>decide (Builtin.bitAnd q.1 T=0)).map fun q=>V.int q.2,
  ⟨qs.length,by simp,Js _,aJ hD _,aC,JV _,by rw[e3];simp⟩,?_⟩
 rintro j m ys G ⟨rfl,hj,sG,gD,hyl,hv⟩
 by_cases hlt:j<qs.length
 ·refine .inr ⟨⟨hp' G sG,by rw[JM];exact hlt⟩,fun u G' y' => ?_⟩
  obtain⟨a,ha,rfl,y'⟩:=y';have e:=y' (.inl qs[j].1) (.int qs[j].2) (by simp[hlt]);subst e;intro Cf s2 H2 fp cl;have C' :=C.blk2 h Cf s2 H2 fp cl;have sGG:aD G (L2.upd G a (.tup [kV (.inl qs[j].1),.int qs[j].2])):=aJ ha _;refine⟨_,_,_,nM C'.calm (cQ (ay (i:=0) h5 rfl (mn h6) (rY h6)) (cQ (ay (i:=1) h5 rfl (mn h8) (rY h8)) jR rfl) rfl) rfl rfl,pV lK,aZ,?_⟩;refine⟨a,_,rfl,bX.of aC,rfl,_,_,rfl,_,_,rfl,rfl,⟨wk (by rw[hf];rfl),?_⟩⟩;have eσ:((bP (none::none::[some i]) σ).set 0 (some (kV (.inl qs[j].1)))).set 1 (some (.int qs[j].2))=[some (.int qs[j].1),some (.int qs[j].2),some (.int T)]:=by
   simp[bP,hσ,kV]
  rw[eσ];have hn0:ac cd (bN (blk2 ct x y scope) x) [.frz (.int qs[j].1) true,.frz (.int qs[j].2) true,.frz (.int T) true]=some (sc (.int qs[j].1)):=by rw[v0];rfl
  have hn1:ac cd (bN (blk2 ct x y scope) y) [.frz (.int qs[j].1) true,.frz (.int qs[j].2) true,.frz (.int T) true]=some (sc (.int qs[j].2)):=by rw[v1];rfl
  have hn2:ac cd (bN (blk2 ct x y scope) t) [.frz (.int qs[j].1) true,.frz (.int qs[j].2) true,.frz (.int T) true]=some (sc (.int T)):=by rw[v2];rfl
  have RB:=xk (K:=X.K) (G:=L2.upd G a (.tup [kV (.inl qs[j].1),.int qs[j].2])) (a:=qs[j].1) (b:=qs[j].2) (c:=T);have hdr:qs.drop j=qs[j]::qs.drop (j+1):=K6 hlt;rw[hdr,Kb]at hv
  have hT:dz (bD X (x::y::frees scope) scope Cf s2 H2 fp cl) (fun _=>none) [.frz (.int qs[j].1) true,.frz (.int qs[j].2) true,.frz (.int T) true] (.Compare (.BinOp (.Name x p4) .BitAnd (.Name t p5) p6) [.Eq] [.Constant (.int 0) k2 p7] p8) (decide (Builtin.bitAnd qs[j].1 T=0)) :=
   ze C'.un (rE (jU C' hn0) (jU C' hn2) rfl) (qm (cd:=cd) rfl) rfl rfl
  refine hT [] _ _ _ RB fun G4 s4=> ?_;have hz' :ks.length<=16777216:=hz
  by_cases c:Builtin.bitAnd qs[j].1 T=0
  ·rw[JS (by simpa using c)]at hv ⊢
   refine jU C' hn1 [] _ G4 _ (RB.ext s4) fun w G5 s5 r5=> ?_;have r5:Rp X.K (fun _=>none) true (.int qs[j].2) (aW G5 []) w:=r5;have r5:=Rp.int.mp r5;subst r5;have sT:=sG.trans (sGG.trans (s4.trans s5));exact⟨s5 _ _ (s4 _ _ (sGG _ _ gD)),by rw[eG];omega,qs.length-(j+1),by omega,rfl,hlt,sT.upd hD,aC,by rw[Jj];simp;omega,by rw[hv];simp⟩
  ·rw[JR (by simpa using c)]at hv ⊢
   exact⟨qs.length-(j+1),by omega,rfl,hlt,sG.trans (sGG.trans s4),s4 _ _ (sGG _ _ gD),by omega,hv⟩
 ·have e:j=qs.length:=by omega
  subst e;refine .inl ⟨⟨hp' G sG,by rw[JM]⟩,p,o,_,hp' G sG,nf,?_⟩;have hD1:H1 D=none:=by rw[aB hDp]at hD;exact hD
  refine q _ _ (fun b ob e=> ?_) ⟨D,ys,rfl,s1.free hD1,by rw[aB hDp];exact gD,?_⟩
  ·have e' :=s1 _ _ e
   by_cases hb:b=p
   ·subst hb
    rw[hp]at e';cases e';exact aC
   ·rw[aB hb]
    exact sG _ _ (by rw[aB hb];exact e')
  ·rw[List.drop_length,List.filter_nil,Kw,KL]at hv
   rw[<- hv];exact pE
end
theorem bind_some{α β:Type}{o:Option α}{f:α->Option β}{b:β}(h:o.bind f=some b):∃a,o=some a/\f a=some b:=by
 cases o with
 | none=>cases h
 | some a=>exact⟨a,rfl,h⟩
theorem map_some{α β:Type}{o:Option α}{f:α->β}{b:β}(h:o.map f=some b):∃a,o=some a/\f a=b:=by
 cases o with
 | none=>cases h
 | some a=>exact⟨a,rfl,Jl h⟩
structure jF(cd:Nat->List PV->Option PV)(n:Nat):Prop where
 e:∀(X:Cx)(ct:Ct)(Hi:Hp)(τ:En)(e:Expr)(r:RV),bt cd X ct->ac cd (ao n ct e) τ=some r->aI X Hi τ e r
 cm:∀(X:Cx)(ct:Ct)(Hi:Hp)(τ:En)(a:Expr)(ops:List CmpOp)(cs:List Expr)(pos:Pos)(r:RV),bt cd X ct->ac cd (ao n ct (.Compare a ops cs pos)) τ=some r->∃t,r=sc (.bl t)/\dz X Hi τ (.Compare a ops cs pos) t
 es:∀(X:Cx)(ct:Ct)(Hi:Hp)(τ:En)(es:List Expr)(rs:List RV),bt cd X ct->eT cd (eB n ct es) τ=some rs->oF X Hi τ es rs/\(∀a∈es,isStar a=false)/\es.length=rs.length/\∀(i:Nat)(a:Expr)(r:RV),es[i]? =some a->rs[i]? =some r->aI X Hi τ a r
 o:∀(X:Cx)(ct:Ct)(Hi:Hp)(τ:En)(e:Option Expr)(o:Option RV)(i:Option Int),bt cd X ct->evO cd (trO n ct e) τ=some o->Hk o=some i->OpOk X Hi τ e i
 c:∀(X:Cx)(ct:Ct)(Hi:Hp)(τ:En)(e:Expr)(b:Bool),bt cd X ct->fE cd (oG n ct e) τ=some b->dz X Hi τ e b
 call:∀(X:Cx)(ct:Ct)(Hi:Hp)(τ:En)(x:Str)(es:List Expr)(p pos:Pos)(r:RV),bt cd X ct->ac cd (gw n ct x es) τ=some r->aI X Hi τ (.Call (.Name x p) es [] pos) r
 mth:∀(X:Cx)(ct:Ct)(Hi:Hp)(τ:En)(o:Expr)(m:Str)(es:List Expr)(ap cp:Pos)(r:RV),bt cd X ct->(ap.endLine==cp.line)=true->ac cd (lf n ct o m es) τ=some r->aI X Hi τ (.Call (.Attribute o m ap) es [] cp) r
 t:∀(X:Cx)(ct:Ct)(Hi:Hp)(τ:En)(tp:Bool)(e tg:Expr)(xs:List PV)(k b:Bool),bt cd X ct->(tp=true->∃ts kk p,tg=.Tuple ts kk p)->rO cd (Aj n ct tp e) τ=some (xs,k,b)->lb X Hi τ tg e xs k b/\cB e=false
section
variable{cd:Nat->List PV->Option PV}
theorem iI{v:PV}{b:Bool}(h:jA v=some b):v=.bl b:=by
 cases v<;>first|(cases h;done)|(cases h;rfl)
theorem yy{v:PV}{b:Int}(h:Bo v=some b):v=.int b:=by
 cases v<;>first|(cases h;done)|(cases h;rfl)
theorem sW{α:Type}{l:List α}(h:l.length=1):∃a,l=[a]:=by
 cases l with
 | nil=>cases h
 | cons a l =>
  cases l with
  | nil=>exact⟨a,rfl⟩
  | cons b l=>cases h
theorem rS{α:Type}{l:List α}(h:l.length=2):∃a b,l=[a,b]:=by
 cases l with
 | nil=>cases h
 | cons a l =>
  obtain⟨b,rfl⟩:=sW (show l.length=1 from Nat.succ.inj h);exact⟨a,b,rfl⟩
theorem aQ{τ:En}{r:RV}(h:ac cd .never τ=some r){P:Prop}:P:=by simp[de,dP,di,dS,df,dg,dm,d0,dR,dZ,dh,dk,dU,dQ,d7,dc,dY,dX,dW,d6]at h
theorem qW{X:Cx}{Hi:Hp}{τ:En}{op:BoolOp}{pos:Pos}{f:Expr->IE}(hf:∀e r,ac cd (f e) τ=some r->aI X Hi τ e r):∀{vs:List Expr}{r:RV},ac cd (kR op (vs.map f)) τ=some r->aI X Hi τ (.BoolOp op vs pos) r
 | [],r,h=>aQ h
 | [a],r,h=>EU (hf a r h)
 | a::b::aN,r,h=>by
  have ih:= @qW X Hi τ op pos f hf (b::aN);cases op with
  | And =>
   have h:ac cd (.and (f a) (kR .And ((b::aN).map f))) τ=some r:=h;simp only[de,dP,di,dS,df,dg,dm,d0,dR,dZ,dh,dk,dU,dQ,d7,dc,dY,dX,dW,d6]at h;obtain⟨x,hx,h⟩:=bind_some h;have hx:=hf a x hx;obtain⟨t,ht,h⟩:=bind_some h;have e:=iI ht;cases t with
   | true=>exact Ic hx e (ih h)
   | false=>cases h;exact Ie hx e
  | Or =>
   have h:ac cd (.or (f a) (kR .Or ((b::aN).map f))) τ=some r:=h;simp only[de,dP,di,dS,df,dg,dm,d0,dR,dZ,dh,dk,dU,dQ,d7,dc,dY,dX,dW,d6]at h;obtain⟨x,hx,h⟩:=bind_some h;have hx:=hf a x hx;obtain⟨t,ht,h⟩:=bind_some h;have e:=iI ht;cases t with
   | true=>cases h;exact or_t hx e
   | false=>exact or_f hx e (ih h)
theorem qV{X:Cx}{Hi:Hp}{τ:En}{op:BoolOp}{pos:Pos}{f:Expr->IC}(hf:∀e b,fE cd (f e) τ=some b->dz X Hi τ e b):∀{vs:List Expr}{b:Bool},fE cd (kQ op (vs.map f)) τ=some b->lY X Hi τ (.BoolOp op vs pos) b
 | [],r,h=>by
  have h:fE cd (.val .never) τ=some r:=h;simp[AH,AJ,AK,AI,de,dP,di,dS,df,dg,dm,d0,dR,dZ,dh,dk,dU,dQ,d7,dc,dY,dX,dW,d6]at h
 | [a],r,h=>ET (hf a r h)
 | a::b::aN,r,h=>by
  have ih:= @qV X Hi τ op pos f hf (b::aN);cases op with
  | And =>
   have h:fE cd (.and (f a) (kQ .And ((b::aN).map f))) τ=some r:=h;simp only[AH,AJ,AK,AI]at h;obtain⟨x,hx,h⟩:=bind_some h;have hx:=hf a x hx;cases x with
   | true=>exact AC hx (ih h)
   | false=>cases h;exact AC hx rfl
  | Or =>
   have h:fE cd (.or (f a) (kQ .Or ((b::aN).map f))) τ=some r:=h;simp only[AH,AJ,AK,AI]at h;obtain⟨x,hx,h⟩:=bind_some h;have hx:=hf a x hx;cases x with
   | true=>cases h;exact C4 hx rfl
   | false=>exact C4 hx (ih h)
theorem ul{X:Cx}{Hi:Hp}{τ:En}{f:Expr->IE}(hf:∀e r,ac cd (f e) τ=some r->aI X Hi τ e r):∀{es:List Expr}{rs:List RV},eT cd (wF (es.map fun e=>if isStar e then .never else f e)) τ=some rs->oF X Hi τ es rs/\(∀a∈es,isStar a=false)/\es.length=rs.length/\∀(i:Nat)(a:Expr)(r:RV),es[i]? =some a->rs[i]? =some r->aI X Hi τ a r
 | [],rs,h=>by
  have h:some []=some rs:=by simpa [wF,DJ,DK]using h
  cases h;exact⟨F2,fun a ha=>(by cases ha),rfl,fun i a r e=>(by simp at e)⟩
 | e::es,rs,h=>by
  have h:eT cd (.cons (if isStar e then .never else f e) (wF (es.map fun e=>if isStar e then .never else f e))) τ=some rs:=h;simp only[DJ,DK]at h;obtain⟨x,hx,h⟩:=bind_some h;obtain⟨ys,hy,h⟩:=map_some h;subst h;obtain⟨i1,i2,i3,i4⟩:=ul hf hy;cases hs:isStar e with
  | true=>rw[hs]at hx;exact aQ hx
  | false =>
   rw[hs]at hx;refine⟨Cg (hf e x hx) hs i1,fun a ha=> ?_,by rw[Jh,Jh,i3],fun i a r e1 e2=> ?_⟩
   ·rcases Jg.mp ha with rfl|ha
    ·exact hs
    ·exact i2 a ha
   ·cases i with
    | zero =>
     simp at e1 e2;subst e1 e2;exact hf _ _ hx
    | succ i=>exact i4 i a r (by simpa using e1) (by simpa using e2)
theorem ID{n:Nat}(IH:jF cd n){X:Cx}{ct:Ct}{Hi:Hp}{τ:En}{a:Expr}{ops:List CmpOp}{cs:List Expr}{pos:Pos}{r:RV}(C:bt cd X ct)(h:ac cd (ao (n+1) ct (.Compare a ops cs pos)) τ=some r) :
  ∃t,r=sc (.bl t)/\aI X Hi τ (.Compare a ops cs pos) r/\dz X Hi τ (.Compare a ops cs pos) t:=by
 refine Ki fun no=> ?_;simp only[oX,oS,oN,oW,oJ,oT,oV,oQ,oP,oK,oR,oM,oU,oO]at h
 split at h
 ·rename_i op b
  split at h
  ·exact aQ h
  ·rename_i hs
   have hs:=LF.mpr hs;simp only[de,dP,di,dS,df,dg,dm,d0,dR,dZ,dh,dk,dU,dQ,d7,dc,dY,dX,dW,d6]at h;obtain⟨x,hx,h⟩:=bind_some h;obtain⟨y,hy,h⟩:=bind_some h;obtain⟨t,ht,h⟩:=map_some h;subst h;have ha:=IH.e X ct Hi τ a x C hx;have hb:=IH.e X ct Hi τ b y C hy;exact no<|⟨t,rfl,Fi C.un ha hb hs ht,ze C.un ha hb hs ht⟩
 ·rename_i op op' b c
  split at h
  ·exact aQ h
  ·rename_i hs
   rw[Kh,MA]at hs;obtain⟨hs,ho⟩:=hs;have ho:uZ op' =true:=by simpa using ho
   have hs:=LF.mpr hs;simp only[de,dP,di,dS,df,dg,dm,d0,dR,dZ,dh,dk,dU,dQ,d7,dc,dY,dX,dW,d6]at h;obtain⟨x,hx,h⟩:=bind_some h;obtain⟨y,hy,h⟩:=bind_some h;obtain⟨t,ht,h⟩:=bind_some h;have ha:=IH.e X ct Hi τ a x C hx;have hb:=IH.e X ct Hi τ b y C hy;cases t with
   | true =>
    rw[JS rfl]at h;obtain⟨z,hz,h⟩:=bind_some h;obtain⟨t2,ht2,h⟩:=map_some h;subst h;have hc:=IH.e X ct Hi τ c z C hz;obtain⟨g1,g2⟩:=zj C.un (pos:=pos) ha hb hs ht (t2:=t2) (o2:=op') (by rw[JS rfl];exact⟨z,hc,ht2⟩);exact no<|⟨t2,rfl,g1,g2⟩
   | false =>
    rw[JR JT]at h;cases h;obtain⟨g1,g2⟩:=zj C.un (pos:=pos) ha hb hs ht (t2:=false) (o2:=op') (by rw[JR JT];exact⟨rfl,rf op' ho⟩);exact no<|⟨false,rfl,g1,g2⟩
 ·exact aQ h
theorem II{n:Nat}(IH:jF cd n){X:Cx}{ct:Ct}{Hi:Hp}{τ:En}{x:Str}{es:List Expr}{p pos:Pos}{r:RV}(C:bt cd X ct)(h:ac cd (gw (n+1) ct x es) τ=some r):aI X Hi τ (.Call (.Name x p) es [] pos) r:=by
 refine Ki fun no=> ?_;simp only[z1p,z1q]at h
 split at h
 ·exact aQ h
 rename_i ho;have ho:=LF.mpr ho
 split at h
 ·rename_i hg
  have hg:ct.S.lookup x=some .globalImplicit:=by simpa using hg
  cases hf:ct.F.lookup x with
  | some f =>
   rw[hf]at h;dsimp only at h;cases es with
   | nil=>exact aQ h
   | cons e es =>
    simp only[de,dP,di,dS,df,dg,dm,d0,dR,dZ,dh,dk,dU,dQ,d7,dc,dY,dX,dW,d6]at h;obtain⟨rs,hrs,h⟩:=bind_some h;obtain⟨v,hv,h⟩:=map_some h;subst h;obtain⟨i1,i2,i3,i4⟩:=IH.es X ct Hi τ (e::es) rs C hrs;exact no<|call_ok C ho hg hf i2 i1 hv
  | none =>
   rw[hf]at h;dsimp only at h
   split at h
   ·rename_i hb
    have hown:own ct x=true:=by
     unfold own;rw[hb,hg];rfl
    have plain:∀{es:List Expr}{r:RV},ac cd (match lA x es.length with|some f=>IE.bf f (eB n ct es)|none=>.never) τ=some r->aI X Hi τ (.Call (.Name x p) es [] pos) r:=by
     intro es r h;cases hbf:lA x es.length with
     | none=>rw[hbf]at h;exact aQ h
     | some f =>
      rw[hbf]at h;simp only[de,dP,di,dS,df,dg,dm,d0,dR,dZ,dh,dk,dU,dQ,d7,dc,dY,dX,dW,d6]at h;obtain⟨rs,hrs,h⟩:=bind_some h;obtain⟨i1,i2,i3,i4⟩:=IH.es X ct Hi τ es rs C hrs;have one:∀a,es=[a]->aI X Hi τ (.Call (.Name x p) es [] pos) r:=by
       intro a ea;subst ea;obtain⟨ra,rfl⟩:=sW (show rs.length=1 from i3.symm);exact bf1_ok C hown hbf (i2 a (by simp)) (i4 0 a ra rfl rfl) h
      have two:∀a b,es=[a,b]->aI X Hi τ (.Call (.Name x p) es [] pos) r:=by
       intro a b ea;subst ea;obtain⟨ra,rb,rfl⟩:=rS (show rs.length=2 from i3.symm);exact Fw C hown hbf (i2 a (by simp)) (i2 b (by simp)) (i4 0 a ra rfl rfl) (i4 1 b rb rfl rfl) h
      have hk:es.length=1\/es.length=2:=by
       rcases iM hbf with⟨_,z,_⟩|⟨_,z,_⟩|⟨_,z,_⟩|⟨_,z,_⟩|⟨_,z,_⟩|⟨_,z,_⟩|⟨_,z,_⟩|⟨_,z,_⟩|⟨_,z,_⟩|⟨_,z,_⟩|⟨_,z,_⟩<;>simp[z]
      rcases hk with hk|hk
      ·obtain⟨a,ha⟩:=sW hk
       exact one a ha
      ·obtain⟨a,b,ha⟩:=rS hk
       exact two a b ha
    split at h
    ·rename_i hi
     have hi:x=("isinstance":Str):=Jp hi;subst hi
     split at h
     ·rename_i a t tpos
      split at h
      ·rename_i ty hty
       split at h
       ·exact aQ h
       ·rename_i hs
        have hs:=LF.mpr hs
        split at h
        ·rename_i hot
         simp only[de,dP,di,dS,df,dg,dm,d0,dR,dZ,dh,dk,dU,dQ,d7,dc,dY,dX,dW,d6,DJ,DK]at h;obtain⟨rs,hrs,h⟩:=bind_some h;obtain⟨ra,hra,h2⟩:=bind_some hrs;cases h2;have h:(bT ty ra.val).map (fun b=>sc (.bl b))=some r:=h;obtain⟨b,hb2,h⟩:=map_some h;subst h;exact no<|isin_ok C hown hty hot hs (IH.e X ct Hi τ a ra C hra) hb2
        ·exact aQ h
      ·exact aQ h
     ·exact aQ h
    ·split at h
     ·rename_i y yp a ypos
      split at h
      ·rename_i f hf
       split at h
       ·exact aQ h
       ·rename_i hs
        simp only[Kh,MA,Ld,Bool.not_eq_false']at hs;simp only[de,dP,di,dS,df,dg,dm,d0,dR,dZ,dh,dk,dU,dQ,d7,dc,dY,dX,dW,d6,DJ,DK]at h;obtain⟨rs,hrs,h⟩:=bind_some h;obtain⟨ra,hra,h2⟩:=bind_some hrs;cases h2;exact no<|nst_ok C hown hs.2 hf hs.1 (IH.e X ct Hi τ a ra C hra) h
      ·exact no<|plain h
     ·rename_i elt gs scope lp
      split at h
      ·rename_i d i jK
       obtain⟨rfl,hsub,x,y,t,p1,p2,k,p3,ap,cp,p4,p5,p6,k2,p7,p8,p9,rfl,rfl,hl,g1,g2,g3,g4,g5,g6⟩:=wO jK;simp only[de,dP,di,dS,df,dg,dm,d0,dR,dZ,dh,dk,dU,dQ,d7,dc,dY,dX,dW,d6,DJ,DK]at h;obtain⟨rs,hrs,h⟩:=bind_some h;obtain⟨rl,hrl,h2⟩:=bind_some hrs;obtain⟨ra,hra,h3⟩:=bind_some hrl;cases h2;exact no<|bf1_ok C hown (show lA ("sum":Str) 1=some .sum from rfl) rfl (El C g1 g2 g3 g4 g5 g6 hsub hl (IH.e X ct Hi τ d ra C hra) h3) h
      ·exact no<|plain h
     ·exact no<|plain h
   ·exact aQ h
 ·exact aQ h
theorem mthE{n:Nat}(IH:jF cd n){X:Cx}{ct:Ct}{Hi:Hp}{τ:En}{o:Expr}{m:Str}{es:List Expr}{ap cp:Pos}{r:RV}(C:bt cd X ct)(hl:(ap.endLine==cp.line)=true)(h:ac cd (lf (n+1) ct o m es) τ=some r):aI X Hi τ (.Call (.Attribute o m ap) es [] cp) r:=by
 refine Ki fun no=> ?_;simp only[z2b,z2c]at h
 split at h
 ·exact aQ h
 ·exact aQ h
theorem Hh{n:Nat}(IH:jF cd n){X:Cx}{ct:Ct}{Hi:Hp}{τ:En}{tp:Bool}{e tg:Expr}{xs:List PV}{k b:Bool}(C:bt cd X ct)(ht:tp=true->∃ts kk p,tg=.Tuple ts kk p)(h:rO cd (Aj (n+1) ct tp e) τ=some (xs,k,b)):lb X Hi τ tg e xs k b/\cB e=false:=by
 simp only[z2v,z2w]at h
 split at h
 ·simp[AU,AW,AT,AX,AV,Cr]at h
 rename_i hset;have hset:=LF.mpr hset;refine⟨?_,hset⟩;have seq:rO cd (.seq (ao n ct e)) τ=some (xs,k,b)->lb X Hi τ tg e xs k b:=by
  intro h;simp only[AU,AW,AT,AX,AV,Cr]at h;obtain⟨r,hr,h⟩:=bind_some h;exact Dd (IH.e X ct Hi τ e r C hr) h
 have nv:∀{P:Prop},rO cd .never τ=some (xs,k,b)->P:=by
  intro P h;simp[AU,AW,AT,AX,AV,Cr]at h
 split at h
 ·rename_i a hv
  split at h
  ·exact nv h
  ·rename_i hc
   simp only[Kh,MA,Ld,Bool.not_eq_false']at hc;obtain⟨p,q,rfl⟩:=v3 hv;simp only[AU,AW,AT,AX,AV,Cr]at h;obtain⟨ra,hra,h⟩:=bind_some h;obtain⟨w,hw,h⟩:=map_some h;cases h;exact Dp C hc.2 hc.1 (IH.e X ct Hi τ a ra C hra) hw
 split at h
 ·rename_i x es hc
  obtain⟨p,pos,rfl⟩:∃p pos,e=.Call (.Name x p) es [] pos:=by
   unfold ef at hc
   split at hc
   ·cases hc;exact⟨_,_,rfl⟩
   ·cases hc
  split at h
  ·rename_i hx
   have hx:=Jp hx;subst hx
   split at h
   ·rename_i ho
    simp only[AU,AW,AT,AX,AV,Cr]at h;obtain⟨rs,hrs,h⟩:=bind_some h;obtain⟨ys,hy,h⟩:=map_some h;cases h;obtain⟨i1,i2,i3,i4⟩:=IH.es X ct Hi τ es rs C hrs;exact Dt C ho i2 i1 i3 hy
   ·exact nv h
  ·split at h
   ·rename_i hx
    have hx:=Jp hx;subst hx
    split at h
    ·rename_i a b'
     split at h
     ·exact nv h
     ·rename_i hc
      simp only[Kh,MA,Ld,LD]at hc;obtain⟨⟨⟨c1,c2⟩,c3⟩,c4⟩:=hc;obtain⟨ts,kk,tpos,rfl⟩:=ht (by simpa using c3);simp only[AU,AW,AT,AX,AV,Cr]at h;obtain⟨ra,hra,h⟩:=bind_some h;obtain⟨rb,hrb,h⟩:=bind_some h;obtain⟨w,hw,h⟩:=map_some h;cases h;exact DI C (by simpa using c4) c1 c2 (IH.e X ct Hi τ _ ra C hra) (IH.e X ct Hi τ _ rb C hrb) hw
    ·exact nv h
   ·split at h
    ·rename_i hx
     have hx:=Jp hx;subst hx
     split at h
     ·rename_i a
      split at h
      ·exact nv h
      ·rename_i hc
       simp only[Kh,MA,Ld,LD]at hc;obtain⟨⟨c1,c3⟩,c4⟩:=hc;obtain⟨ts,kk,tpos,rfl⟩:=ht (by simpa using c3);simp only[AU,AW,AT,AX,AV,Cr]at h;obtain⟨ra,hra,h⟩:=bind_some h;obtain⟨w,hw,h⟩:=map_some h;cases h;exact B2 C (by simpa using c4) c1 (IH.e X ct Hi τ _ ra C hra) hw
     ·exact nv h
    ·exact seq h
 ·exact seq h
theorem lcE{n:Nat}(IH:jF cd n){X:Cx}{ct:Ct}{Hi:Hp}{τ:En}{elt:Expr}{gs:List Comprehension}{scope:Scope}{pos:Pos}{r:RV}(C:bt cd X ct)(h:ac cd (ao (n+1) ct (.ListComp elt gs scope pos)) τ=some r) :
  ∃tg iter ifs N' src,gs=[⟨tg,iter,ifs,0⟩]/\ba X scope N' src/\scope.kind=.function/\(∀y∈scope.names,y.2=.cell->scope.names.lookup y.1=some .cell)/\(∀y∈scope.names,y.2=.local->scope.names.lookup y.1=some .local)/\fM X.env.scope scope=true/\cB iter=false /\
   ∀(O:List Addr)(σ:L2.St)(H:Hp)(Q:VK),aq X.K Hi O τ σ H->(∀u H',aD H H' ->ag X.K Hi O H H' r u->Q u H')->Gm X N' src scope tg ifs elt (fun σ H R=>WI X tg iter σ H R) σ H Q:=by
 refine Ki fun no=> ?_;simp only[oX,oS,oN,oW,oJ,oT,oV,oQ,oP,oK,oR,oM,oU,oO]at h
 split at h
 ·rename_i t tp iter ifs
  split at h
  ·rename_i hlc
   cases hc:slots ct.N (frees scope)with
   | none=>rw[hc]at h;exact aQ h
   | some caps =>
    rw[hc]at h;simp only[de,dP,di,dS,df,dg,dm,d0,dR,dZ,dh,dk,dU,dQ,d7,dc,dY,dX,dW,d6]at h;obtain⟨w,hw,h⟩:=bind_some h;obtain⟨xs,n',b⟩:=w;dsimp only at h
    split at h
    ·rename_i hz
     obtain⟨w2,hw2,h⟩:=map_some h;obtain⟨VS,NN⟩:=w2;subst h;obtain⟨jK,hset⟩:=IH.t X ct Hi τ false iter (.Name t tp) xs n' b C (fun z=>by cases z) hw;obtain⟨g1,g2,g3,g4,g5,g6,g7⟩:=kE hlc;obtain⟨q1,q2,q3⟩:=Bj (elt:=elt) (ifs:=ifs) C hlc hc hset jK hz (fun X' τ' k C' hk=>by
      split at hk
      ·simp only[z0o,z0p]at hk
       cases hk;exact⟨_,pW,fun O σ H Q R q=>q H (aD.refl _)⟩
      ·rename_i c
       simp only[z0o,z0p]at hk;exact⟨_,pV lK,fun O σ H Q R q=>IH.c X' _ Hi τ' _ k C' hk O σ H Q R q⟩
      ·simp[z0o,z0p,AH,AJ,AK,AI,de,dP,di,dS,df,dg,dm,d0,dR,dZ,dh,dk,dU,dQ,d7,dc,dY,dX,dW,d6]at hk) (fun X' τ' r' C' hr' =>IH.e X' _ Hi τ' elt r' C' hr') hw2
     exact no<|⟨.Name t tp,iter,ifs,_,_,rfl,q1,g1,g2,g3,q2,hset,q3⟩
    ·cases h
  ·exact aQ h
 ·exact aQ h
theorem expE{n:Nat}(IH:jF cd n){X:Cx}{ct:Ct}{Hi:Hp}{τ:En}{e:Expr}{r:RV}(C:bt cd X ct)(h:ac cd (ao (n+1) ct e) τ=some r):aI X Hi τ e r:=by
 cases e with
 | Constant c k pos=>simp only[oX,oS,oN,oW,oJ,oT,oV,oQ,oP,oK,oR,oM,oU,oO]at h;exact qm h
 | Name x pos=>simp only[oX,oS,oN,oW,oJ,oT,oV,oQ,oP,oK,oR,oM,oU,oO]at h;exact jU C h
 | BinOp a op b pos =>
  simp only[oX,oS,oN,oW,oJ,oT,oV,oQ,oP,oK,oR,oM,oU,oO,de,dP,di,dS,df,dg,dm,d0,dR,dZ,dh,dk,dU,dQ,d7,dc,dY,dX,dW,d6]at h;obtain⟨x,hx,h⟩:=bind_some h;obtain⟨y,hy,h⟩:=bind_some h;exact rE (IH.e X ct Hi τ a x C hx) (IH.e X ct Hi τ b y C hy) h
 | UnaryOp op a pos =>
  simp only[oX,oS,oN,oW,oJ,oT,oV,oQ,oP,oK,oR,oM,oU,oO]at h;cases op with
  | USub =>
   simp only[de,dP,di,dS,df,dg,dm,d0,dR,dZ,dh,dk,dU,dQ,d7,dc,dY,dX,dW,d6]at h;obtain⟨x,hx,h⟩:=bind_some h;obtain⟨i,hi,h⟩:=map_some h;subst h;exact Eb (IH.e X ct Hi τ a x C hx) (yy hi)
  | Not =>
   simp only[de,dP,di,dS,df,dg,dm,d0,dR,dZ,dh,dk,dU,dQ,d7,dc,dY,dX,dW,d6]at h;obtain⟨x,hx,h⟩:=bind_some h;obtain⟨i,hi,h⟩:=map_some h;subst h;exact EX (IH.e X ct Hi τ a x C hx) (iI hi)
  | _=>exact aQ h
 | Compare a ops cs pos =>
  obtain⟨t,_,h1,_⟩:=ID IH (Hi:=Hi) C h;exact h1
 | BoolOp op vs pos =>
  simp only[oX,oS,oN,oW,oJ,oT,oV,oQ,oP,oK,oR,oM,oU,oO]at h
  split at h
  ·exact aQ h
  ·exact qW (fun e r h=>IH.e X ct Hi τ e r C h) h
 | IfExp c a b pos =>
  simp only[oX,oS,oN,oW,oJ,oT,oV,oQ,oP,oK,oR,oM,oU,oO,de,dP,di,dS,df,dg,dm,d0,dR,dZ,dh,dk,dU,dQ,d7,dc,dY,dX,dW,d6]at h;obtain⟨t,ht,h⟩:=bind_some h;refine Ew (IH.c X ct Hi τ c t C ht) ?_;cases t with
  | true=>exact IH.e X ct Hi τ a r C h
  | false=>exact IH.e X ct Hi τ b r C h
 | List es pos =>
  simp only[oX,oS,oN,oW,oJ,oT,oV,oQ,oP,oK,oR,oM,oU,oO,de,dP,di,dS,df,dg,dm,d0,dR,dZ,dh,dk,dU,dQ,d7,dc,dY,dX,dW,d6]at h;obtain⟨rs,hrs,h⟩:=bind_some h;obtain⟨w,hw,h⟩:=bind_some h;obtain⟨vs,n'⟩:=w;exact Ef (IH.es X ct Hi τ es rs C hrs).1 hw h
 | Tuple es k pos =>
  simp only[oX,oS,oN,oW,oJ,oT,oV,oQ,oP,oK,oR,oM,oU,oO,de,dP,di,dS,df,dg,dm,d0,dR,dZ,dh,dk,dU,dQ,d7,dc,dY,dX,dW,d6]at h;obtain⟨rs,hrs,h⟩:=bind_some h;obtain⟨w,hw,h⟩:=bind_some h;obtain⟨vs,n'⟩:=w;exact DR (IH.es X ct Hi τ es rs C hrs).1 hw h
 | Dict ks vs pos =>
  simp only[oX,oS,oN,oW,oJ,oT,oV,oQ,oP,oK,oR,oM,oU,oO]at h
  split at h
  ·simp only[de,dP,di,dS,df,dg,dm,d0,dR,dZ,dh,dk,dU,dQ,d7,dc,dY,dX,dW,d6]at h
   cases h;exact B8
  ·rename_i c _ _ v
   split at h
   ·simp only[de,dP,di,dS,df,dg,dm,d0,dR,dZ,dh,dk,dU,dQ,d7,dc,dY,dX,dW,d6]at h
    obtain⟨x,hx,h⟩:=bind_some h;obtain⟨w,hw,h⟩:=bind_some h;obtain⟨v',n'⟩:=w;dsimp only at h
    split at h
    ·rename_i hi
     cases h;exact vN cR (fun _ _ _ q=>q) (IH.e X ct Hi τ v x C hx) hw hi
    ·cases h
   ·simp only[de,dP,di,dS,df,dg,dm,d0,dR,dZ,dh,dk,dU,dQ,d7,dc,dY,dX,dW,d6]at h
    obtain⟨x,hx,h⟩:=bind_some h;obtain⟨w,hw,h⟩:=bind_some h;obtain⟨v',n'⟩:=w;dsimp only at h
    split at h
    ·rename_i hi
     cases h;exact vN sR (fun _ _ _ q=>q) (IH.e X ct Hi τ v x C hx) hw hi
    ·cases h
   ·exact aQ h
  ·exact aQ h
 | Subscript a i pos =>
  simp only[oX,oS,oN,oW,oJ,oT,oV,oQ,oP,oK,oR,oM,oU,oO]at h
  split at h
  ·exact aQ h
  ·rename_i hns
   simp only[de,dP,di,dS,df,dg,dm,d0,dR,dZ,dh,dk,dU,dQ,d7,dc,dY,dX,dW,d6]at h;obtain⟨x,hx,h⟩:=bind_some h;obtain⟨y,hy,h⟩:=bind_some h;refine zA C.un ?_ (IH.e X ct Hi τ a x C hx) (IH.e X ct Hi τ i y C hy) h;cases i<;>first|rfl|(exfalso;exact hns _ _ _ _ rfl)
 | Call f es ks cp =>
  simp only[oX,oS,oN,oW,oJ,oT,oV,oQ,oP,oK,oR,oM,oU,oO]at h;cases ks with
  | nil =>
   dsimp only at h;cases f with
   | Name x p=>exact IH.call X ct Hi τ x es p cp r C h
   | Attribute o m ap =>
    dsimp only at h
    split at h
    ·rename_i hl
     exact IH.mth X ct Hi τ o m es ap cp r C hl h
    ·exact aQ h
   | _=>exact aQ h
  | cons k ks=>exact aQ h
 | ListComp elt gs scope pos =>
  obtain⟨tg,iter,ifs,N',src,rfl,h1,h2,h3,h4,h5,h6,h7⟩:=lcE IH (Hi:=Hi) C h;intro O σ H Q R q;exact we (yJ C.calm EB h1 h2 h3 h4 h5 (nR h6)) (h7 O σ H Q R q)
 | _=>(try simp only[oX,oS,oN,oW,oJ,oT,oV,oQ,oP,oK,oR,oM,oU,oO]at h);exact aQ h
theorem tstE{n:Nat}(IH:jF cd n){X:Cx}{ct:Ct}{Hi:Hp}{τ:En}{e:Expr}{b:Bool}(C:bt cd X ct)(h:fE cd (oG (n+1) ct e) τ=some b):dz X Hi τ e b:=by
 have plain:∀{e:Expr},fE cd (.val (ao n ct e)) τ=some b->(∀whole,isTrue e X.env whole=(do let v<-whole;standAt e.pos;holding [v] (truthy v)))->dz X Hi τ e b:=by
  intro e h hp;simp only[AH,AJ,AK,AI]at h;obtain⟨x,hx,h⟩:=bind_some h;exact DP (IH.e X ct Hi τ e x C hx) h hp
 cases e with
 | UnaryOp op a p =>
  simp only[GT,GQ,GS,GR]at h;cases op with
  | Not =>
   simp only[AH,AJ,AK,AI]at h;obtain⟨t,ht,h⟩:=map_some h;subst h;exact EW (IH.c X ct Hi τ a t C ht)
  | _=>exact plain h fun _=>rfl
 | BoolOp op vs p =>
  simp only[GT,GQ,GS,GR]at h;exact(qV (fun e b h=>IH.c X ct Hi τ e b C h) h).tc
 | IfExp c a b' p =>
  simp[GT,GQ,GS,GR,AH,AJ,AK,AI,de,dP,di,dS,df,dg,dm,d0,dR,dZ,dh,dk,dU,dQ,d7,dc,dY,dX,dW,d6]at h
 | Compare a ops cs pos =>
  have h:fE cd (.val (ao n ct (.Compare a ops cs pos))) τ=some _:=h;simp only[AH,AJ,AK,AI]at h;obtain⟨x,hx,h⟩:=bind_some h;obtain⟨t,rfl,ht⟩:=IH.cm X ct Hi τ a ops cs pos x C hx;cases h;exact ht
 | _=>(try simp only[GT,GQ,GS,GR]at h);exact plain h fun _=>rfl
theorem gp:∀n:Nat,jF cd n
 | 0=>by
  refine⟨fun X ct Hi τ e r C h=> ?_,fun X ct Hi τ a ops cs pos r C h=> ?_,fun X ct Hi τ es rs C h=> ?_,fun X ct Hi τ e o i C h=> ?_,fun X ct Hi τ e b C h=> ?_,fun X ct Hi τ x es p pos r C h=> ?_,fun X ct Hi τ o m es ap cp r C hl h=> ?_,fun X ct Hi τ tp e tg xs k b C ht h=> ?_⟩
  ·simp[oX,oS,oN,oW,oJ,oT,oV,oQ,oP,oK,oR,oM,oU,oO,de,dP,di,dS,df,dg,dm,d0,dR,dZ,dh,dk,dU,dQ,d7,dc,dY,dX,dW,d6]at h
  ·simp[oX,oS,oN,oW,oJ,oT,oV,oQ,oP,oK,oR,oM,oU,oO,de,dP,di,dS,df,dg,dm,d0,dR,dZ,dh,dk,dU,dQ,d7,dc,dY,dX,dW,d6]at h
  ·simp[z29,z2a,DJ,DK,de,dP,di,dS,df,dg,dm,d0,dR,dZ,dh,dk,dU,dQ,d7,dc,dY,dX,dW,d6]at h
  ·simp[z2d,z2e,z2f,z0s,z0t,de,dP,di,dS,df,dg,dm,d0,dR,dZ,dh,dk,dU,dQ,d7,dc,dY,dX,dW,d6]at h
  ·simp[GT,GQ,GS,GR,AH,AJ,AK,AI,de,dP,di,dS,df,dg,dm,d0,dR,dZ,dh,dk,dU,dQ,d7,dc,dY,dX,dW,d6]at h
  ·simp[z1p,z1q,de,dP,di,dS,df,dg,dm,d0,dR,dZ,dh,dk,dU,dQ,d7,dc,dY,dX,dW,d6]at h
  ·simp[z2b,z2c,de,dP,di,dS,df,dg,dm,d0,dR,dZ,dh,dk,dU,dQ,d7,dc,dY,dX,dW,d6]at h
  ·simp[z2v,z2w,AU,AW,AT,AX,AV,Cr]at h
 | n+1=>by
  have IH:=gp n;refine⟨fun X ct Hi τ e r C h=>expE IH C h,fun X ct Hi τ a ops cs pos r C h=> ?_,fun X ct Hi τ es rs C h=> ?_,fun X ct Hi τ e o i C h hi=> ?_,fun X ct Hi τ e b C h=>tstE IH C h,fun X ct Hi τ x es p pos r C h=>II IH C h,fun X ct Hi τ o m es ap cp r C hl h=>mthE IH C hl h,fun X ct Hi τ tp e tg xs k b C ht h=>Hh IH C ht h⟩
  ·obtain⟨t,h1,_,h2⟩:=ID IH (Hi:=Hi) C h
   exact⟨t,h1,h2⟩
  ·simp only[z29,z2a]at h
   exact ul (fun e r h=>IH.e X ct Hi τ e r C h) h
  ·cases e with
   | none =>
    simp only[z2d,z2e,z2f,z0s,z0t]at h;cases h;cases hi;exact True.intro
   | some e =>
    simp only[z2d,z2e,z2f,z0s,z0t]at h;obtain⟨r,hr,h⟩:=map_some h;subst h;simp only[Hk]at hi
    split at hi
    ·rename_i j ej
     cases hi;exact⟨r,IH.e X ct Hi τ e r C hr,ej⟩
    ·cases hi
end
end IR
namespace L2
open PySem PySem.Spec PyProof.Rows
section
variable{X:Cx}{pins:List (Addr×Obj)}{σ:St}{H:Hp}{s:Shared}
theorem yA{xn:Str}{ix:Nat}{xpos apos:Pos}{elt target iter:Expr}{ifs:List Expr}{scope:Scope}{pos:Pos}{N' :List Str}{src:List (Option Nat)}{wi:TI}(hc:X.calm=true)(hi:PI X target iter wi)(hsrc:ba X scope N' src)
  (hkind:scope.kind=.function) (hcell:∀y∈scope.names,y.2=.cell->scope.names.lookup y.1=some .cell) (hnames:∀y∈scope.names,y.2=.local->scope.names.lookup y.1=some .local)
  (hfr:fM X.env.scope scope=true)
  (hs:∀x,foldedSetIterable iter X.env x=pure x) (hN:X.N.Nodup) (hix:X.N[ix]? =some xn) (hxl:Loc X.env.scope xn) (hf:X.fn xn=true\/X.env.scope.names.lookup xn=some .local)
  (hsw:swapsWith (.ListComp elt [⟨target,iter,ifs,0⟩] scope pos) (some (.Name xn xpos)) apos.line X.env=pure true) :
  PS X (.Assign [.Name xn xpos] (.ListComp elt [⟨target,iter,ifs,0⟩] scope pos) apos) (Dc (Gm X N' src scope target ifs elt wi) (qR ix)):=by
 intro pins s σ H D0 I h;rw[exec_Assign_Name_used xn xpos _ apos hsw];refine JL (wpAny_standAt (JL ?_));show wpAny (model X.prog X.w) X.A (comprehension (.ListComp elt [⟨target,iter,ifs,0⟩] scope pos) scope X.env _ (newList []) false _ (some (assign (.Name xn xpos) X.env)) >>= fun _=>pure ()) _ _ _;refine JL (al (Q:=fun _ s' =>SP X pins D0 .next s') ?_ fun _ s9 h9=>JQ (JQ h9));refine uu (use:=some (assign (.Name xn xpos) X.env)) hc hi hsrc hkind hcell hnames hfr hs I h fun C a' s2 s4 H2 H3 fp cl m I2 f2 below hCle I4 hn qn _=> ?_;have u4:Un (sr X.stack) fp H2 H3 s2.heap s4.heap:=I4.base;have IX:Inv X pins σ H3 s4:=I2.call' (s' :=s4) (ch:=fp) I4.os u4 I4.hok I4.bare fun b hb=>⟨(f2 b hb).2.2.2.1,(f2 b hb).2.1,(f2 b hb).2.2.2.2.1,(f2 b hb).2.2.2.2.2⟩;have hC3:H3 C=none:=I4.free;refine wpAny_assign_Name (lj IX hN hix hxl (v:=.ref a') rfl (fun s5 I5 ⟨a,sb,ha⟩=> ?_) hf);have ane:C≠a:=by
  rcases ha with rfl|ha
  ·exact(below _ I2.lt).symm
  ·obtain⟨v,qc⟩:=I2.cell _ _ ha
   exact(below _ qc.lt).symm
 refine⟨m,?_,fun h' hs' => ?_⟩
 ·obtain⟨ob,es,ep,ho,rr⟩:=hn
  exact⟨ob,es,ep,(sb.2 _ ane).trans ho,rr⟩
 ·refine⟨_,H3,I5.turned (t' :=s5.toks) (it:=C) (fun b o ne e=>(hs'.2 b ne).trans e) hC3 (below _ I2.lt).symm (.inr (J2 I2.sz hCle)) (fun x c e=> ?_) (fun p hp=> ?_),qn⟩
  ·obtain⟨v,qc⟩:=I2.cell x c e
   exact below _ qc.lt
  ·exact below _ (Je (I2.pin p hp).1)
end
end L2
namespace IR
open PySem PySem.Spec PyProof.Rows L2
section
variable{X:Cx}{Hi:Hp}{τ:En}{cd:Nat->List PV->Option PV}{ct:Ct}
noncomputable abbrev WS(X:Cx)(st:Stmt)(D:cG)(σ:L2.St)(H:Hp):Prop:=∀(pins:List (Addr×Obj))(s:Shared),Inv X pins σ H s->wpAny (model X.prog X.w) X.A (exec st X.env) (SP X pins D) X.xe s
noncomputable abbrev WSs(X:Cx)(st:List Stmt)(D:cG)(σ:L2.St)(H:Hp):Prop:=∀(pins:List (Addr×Obj))(s:Shared),Inv X pins σ H s->wpAny (model X.prog X.w) X.A (execs st X.env) (SP X pins D) X.xe s
theorem ps_w{st:Stmt}:PS X st (fun D σ H=>WS X st D σ H):=fun pins s σ H D I h=>h pins s I
theorem lx{st:List Stmt}:tq X st (fun D σ H=>WSs X st D σ H):=fun pins s σ H D I h=>h pins s I
theorem ws{st:Stmt}{t:TS}{σ:L2.St}{H:Hp}{D:cG}(h:PS X st t)(q:t D σ H):WS X st D σ H:=fun pins s I=>h pins s σ H D I q
theorem wss{st:List Stmt}{t:TS}{σ:L2.St}{H:Hp}{D:cG}(h:tq X st t)(q:t D σ H):WSs X st D σ H:=fun pins s I=>h pins s σ H D I q
variable(X Hi)in
noncomputable def vW(O:List Addr)(H:Hp)(τ' :En)(P:L2.St->Hp->Prop):Prop:=∀(σ' :L2.St)(H' :Hp)(O' :List Addr),aq X.K Hi O' τ' σ' H' ->σ'.length=X.N.length->aD (aW H O) (aW H' O')->P σ' H'
variable(X Hi)in
noncomputable def AE(fl:Fl)(O:List Addr)(H:Hp)(D:cG):Prop:=match fl with
 | .nx τ' =>vW X Hi O H τ' D.nx
 | .bk τ' =>vW X Hi O H τ' D.bk
 | .ct τ' =>vW X Hi O H τ' D.ct
 | .rt v=>∀u H',aD Hi H' ->Rp X.K Hi true v H' u->D.rt u H'
variable(X Hi τ)in
noncomputable def la(st:Stmt)(fl:Fl):Prop:=∀(O:List Addr)(σ:L2.St)(H:Hp)(D:cG),aq X.K Hi O τ σ H->σ.length=X.N.length->AE X Hi fl O H D->WS X st D σ H
variable(X Hi τ)in
noncomputable def ww(st:List Stmt)(fl:Fl):Prop:=∀(O:List Addr)(σ:L2.St)(H:Hp)(D:cG),aq X.K Hi O τ σ H->σ.length=X.N.length->AE X Hi fl O H D->WSs X st D σ H
theorem vW.from{O O' :List Addr}{H H' :Hp}{τ' :En}{P:L2.St->Hp->Prop}(h:vW X Hi O H τ' P)(s:aD (aW H O) (aW H' O')):vW X Hi O' H' τ' P:=fun σ2 H2 O2 R hl s2=>h σ2 H2 O2 R hl (s.trans s2)
theorem AE.from{O O' :List Addr}{H H' :Hp}{fl:Fl}{D:cG}(h:AE X Hi fl O H D)(s:aD (aW H O) (aW H' O')):AE X Hi fl O' H' D:=by
 cases fl with
 | nx τ' =>exact vW.from (show vW X Hi O H τ' D.nx from h) s
 | bk τ' =>exact vW.from (show vW X Hi O H τ' D.bk from h) s
 | ct τ' =>exact vW.from (show vW X Hi O H τ' D.ct from h) s
 | rt v=>exact h
theorem kA(C:bt cd X ct){x:Str}{i:Nat}(h:loc ct x=some i):X.N[i]? =some x/\L2.Loc X.env.scope x/\uf x=false/\DO ct.S x=true:=by
 unfold loc at h
 split at h
 ·rename_i c
  rw[JU]at c;refine⟨by rw[C.N];exact fB h,?_,by simpa using c.2,?_⟩
  ·unfold L2.Loc
   rw[C.S]
   simpa using c.1
  ·unfold DO
   have:=c.1;simp only[Kh]at this ⊢;exact .inl this
 ·cases h
theorem ny{cap:List Nat}{O:List Addr}{σ:L2.St}{H:Hp}(R:aq X.K Hi O τ σ H):∃O',aq X.K Hi O' (bU cap τ) σ H/\aD (aW H O) (aW H O'):=by
 obtain⟨O',R',h⟩:=R.freezes (cap:=cap);exact⟨O',R',uz h⟩
theorem Dy{o:Bool}{i:Nat}{r:RV}{τ' :En}{O:List Addr}{σ:L2.St}{H H' :Hp}{u:V}(R:aq X.K Hi O τ σ H)(s:aD H H')(hi:i<σ.length)(ok:ag X.K Hi O H H' r u)(h:nH o i r τ=some τ') :
  ∃O',aq X.K Hi O' τ' (σ.set i (some u)) H' /\aD (aW H O) (aW H' O'):=by
 unfold nH at h
 split at h
 ·rename_i xs n
  cases h;obtain⟨p,us,rfl,h0,h1,r1⟩:=ok;have hs:aD (aW (del H' p) O) (aW H' (p::O)):=fun b o e=>by
   unfold aW del at e;unfold aW
   split at e
   ·cases e
   ·rename_i nb
    split at e
    ·cases e
    ·rename_i np
     rw[JR (by simp[np,nb])];exact e
  refine⟨p::O,R.setO hi s h0 h1 (r1.mono hs),fun b o e=> ?_⟩;unfold aW at e ⊢
  split at e
  ·cases e
  ·rename_i nb
   have ne:b≠p:=aE e h0;rw[JR (by simp[ne,nb])];exact s b o e
 ·rename_i b xs n
  cases h;obtain⟨p,us,o,rfl,h0,h1,ha,r1⟩:=ok;have hs:aD (aW (del H' p) O) (aW H' (p::O)):=fun b o e=>by
   unfold aW del at e;unfold aW
   split at e
   ·cases e
   ·rename_i nb
    split at e
    ·cases e
    ·rename_i np
     rw[JR (by simp[np,nb])];exact e
  refine⟨p::O,R.setB rfl hi s h0 h1 ha (r1.mono hs),fun b o e=> ?_⟩;unfold aW at e ⊢
  split at e
  ·cases e
  ·rename_i nb
   have ne:b≠p:=aE e h0;rw[JR (by simp[ne,nb])];exact s b o e
 ·obtain⟨w,hw,h⟩:=map_some h
  obtain⟨v,n⟩:=w;subst h;exact⟨O,(R.ext s).setF hi (ok.keep R s hw),aP s⟩
theorem EZ{e:Expr}{x:Str}{p:Pos}{l:Nat}{env:Env}(h:yx e=false\/env.kindOf x≠some .local):swapsWith e (some (.Name x p)) l env=pure false:=by
 rcases h with h|h
 ·cases e<;>first|rfl|cases h
 ·have hk:(env.kindOf x==some NameKind.local)=false:=by simpa using h
  cases e<;>first|rfl|(show(pure (_&&(env.kindOf x==some NameKind.local)&&_&&_):Sem Bool)=pure false;rw[hk,Bool.and_false,MJ,MJ])
theorem F1(C:bt cd X ct)(hfn:X.fn=fun _=>true){n:Nat}{x:Str}{i:Nat}{o:Bool}{cap:List Nat}{e:Expr}{xp pos:Pos}{r:RV}{τ' :En}(hx:loc ct x=some i)(hr:ac cd (ao n ct e) (bU cap τ)=some r)(hp:nH o i r (bU cap τ)=some τ') :
  la X Hi τ (.Assign [.Name x xp] e pos) (.nx τ'):=by
 intro O σ H D R hl q;obtain⟨h1,h2,h3,h4⟩:=kA C hx;obtain⟨O1,R1,s1⟩:=ny (cap:=cap) R;have he:=(gp n).e X ct Hi (bU cap τ) e r C hr;have hi:i<σ.length:=by rw[hl];exact(JY.mp h1).1
 have hN:X.N.Nodup:=by rw[C.N];exact C.nd
 have fin:∀u H',aD H H' ->ag X.K Hi O1 H H' r u->D.nx (σ.set i (some u)) H' :=fun u H' s ok=>by
  obtain⟨O2,R2,s2⟩:=Dy R1 s hi ok hp;exact q _ _ O2 R2 (by rw[Kg];exact hl) (s1.trans s2)
 by_cases hc:yx e=false\/X.env.kindOf x≠some .local
 ·refine ws (dq hN h1 h2 aZ (EZ hc) (.inl (by rw[hfn]))) ?_
  exact he O1 σ H _ R1 fin
 ·rw[MA]at hc
  obtain⟨c1,c2⟩:=hc;have c2:X.env.kindOf x=some .local:=Classical.not_not.mp c2;cases e with
  | ListComp elt gs scope lp =>
   cases n with
   | zero=>simp[oX,oS,oN,oW,oJ,oT,oV,oQ,oP,oK,oR,oM,oU,oO,de,dP,di,dS,df,dg,dm,d0,dR,dZ,dh,dk,dU,dQ,d7,dc,dY,dX,dW,d6]at hr
   | succ n =>
    obtain⟨tg,iter,ifs,N',src,rfl,g1,g2,g3,g4,g5,g6,g7⟩:=lcE (gp n) (Hi:=Hi) C hr;obtain⟨b,hb⟩:∃b,swapsWith (.ListComp elt [⟨tg,iter,ifs,0⟩] scope lp) (some (.Name x xp)) pos.line X.env=pure b:=⟨_,rfl⟩;cases b with
    | true=>exact ws (yA C.calm EB g1 g2 g3 g4 g5 (nR g6) hN h1 h2 (.inl (by rw[hfn])) hb) (g7 O1 σ H _ R1 fin)
    | false=>exact ws (dq hN h1 h2 aZ hb (.inl (by rw[hfn]))) (he O1 σ H _ R1 fin)
  | SetComp a b c d=>exact aQ (by cases n<;>exact hr)
  | DictComp a b c d e=>exact aQ (by cases n<;>exact hr)
  | _=>exact absurd rfl c1
theorem Dv(C:bt cd X ct){n:Nat}{cap:List Nat}{e:Expr}{pos:Pos}{r:RV}{v:PV}(hr:ac cd (ao n ct e) (bU cap τ)=some r)(hk:r.keep=some (v,true)):la X Hi τ (.Return (some e) pos) (.rt v):=by
 intro O σ H D R hl q;obtain⟨O1,R1,s1⟩:=ny (cap:=cap) R;refine ws (sM aZ) ?_;exact(gp n).e X ct Hi _ e r C hr O1 σ H _ R1 fun u H' s ok=>q u H' (R.same.trans s) ((ok.keep R1 s hk).mono aO)
theorem A3{pos:Pos}:la X Hi τ (.Return none pos) (.rt .non):=by
 intro O σ H D R hl q;exact ws A7 (q _ _ R.same (Rp.non.mpr rfl))
theorem FB{c:Expr}{a b:List Stmt}{pos:Pos}{t:Bool}{fl:Fl}(hc:dz X Hi τ c t)(h:ww X Hi τ (if t=true then a else b) fl):la X Hi τ (.If c a b pos) fl:=by
 intro O σ H D R hl q;refine ws (yB lK lx lx) ?_;refine hc O σ H _ R fun H1 s1=> ?_;cases t with
 | true=>exact wP ((show ww X Hi τ a fl from h) O σ H1 _ (R.ext s1) hl (q.from (aP s1)))
 | false=>exact wQ ((show ww X Hi τ b fl from h) O σ H1 _ (R.ext s1) hl (q.from (aP s1)))
theorem uq(C:bt cd X ct)(hfn:X.fn=fun _=>true):∀{es:List Expr}{is:List Nat},locs ct es=some is->∃t,Il X es t/\(assignEach es X.env).length=is.length/\(assignEach es X.env).findIdx? (·.1)=none /\
  ∀(O:List Addr)(τ τ' :En)(σ:L2.St)(H:Hp)(n:Bool)(xs:List PV)(us:List V)(Q:L2.St->Hp->Prop),aq X.K Hi O τ σ H->σ.length=X.N.length->aH X.K Hi n xs (aW H O) us->cg n is xs τ=some τ' ->
   (∀σ',aq X.K Hi O τ' σ' H->σ'.length=X.N.length->Q σ' H)->t us σ H Q
 | [],is,h=>by
  cases h;refine⟨_,jR,rfl,rfl,fun O τ τ' σ H n xs us Q R hl r e q=> ?_⟩;cases xs with
  | nil =>
   unfold aH at r;subst r;cases e;exact⟨rfl,q σ R hl⟩
  | cons x xs=>cases e
 | .Name x p::es,is,h=>by
  have h:(loc ct x).bind (fun i=>(locs ct es).map (i::·))=some is:=h;obtain⟨i,hi,h⟩:=bind_some h;obtain⟨js,hj,h⟩:=map_some h;subst h;obtain⟨h1,h2,h3,h4⟩:=kA C hi;obtain⟨t,pt,hlen,hf,k⟩:=uq C hfn hj;refine⟨_,cQ (ay (by rw[C.N];exact C.nd) h1 h2 (.inl (by rw[hfn]))) pt rfl,?_,?_,fun O τ τ' σ H n xs us Q R hl r e q=> ?_⟩
  ·show(assignEach es X.env).length+1=_
   rw[hlen];rfl
  ·show List.findIdx? (·.1) ((false,assign (.Name x p) X.env)::assignEach es X.env)=none
   rw[List.findIdx?_cons,hf];rfl
  ·cases xs with
   | nil=>cases e
   | cons y ys =>
    unfold aH at r;obtain⟨u,vs,rfl,a,b⟩:=r;have hi' :i<σ.length:=by rw[hl];exact(JY.mp h1).1
    exact⟨u,vs,rfl,k O _ τ' _ H n ys vs Q (R.setF hi' a.up) (by rw[Kg];exact hl) b e q⟩
 | .BoolOp .. ::_,_,h=>by cases h
 | .NamedExpr .. ::_,_,h=>by cases h
 | .BinOp .. ::_,_,h=>by cases h
 | .UnaryOp .. ::_,_,h=>by cases h
 | .Lambda .. ::_,_,h=>by cases h
 | .IfExp .. ::_,_,h=>by cases h
 | .Dict .. ::_,_,h=>by cases h
 | .Set .. ::_,_,h=>by cases h
 | .ListComp .. ::_,_,h=>by cases h
 | .SetComp .. ::_,_,h=>by cases h
 | .DictComp .. ::_,_,h=>by cases h
 | .GeneratorExp .. ::_,_,h=>by cases h
 | .Await .. ::_,_,h=>by cases h
 | .Yield .. ::_,_,h=>by cases h
 | .YieldFrom .. ::_,_,h=>by cases h
 | .Compare .. ::_,_,h=>by cases h
 | .Call .. ::_,_,h=>by cases h
 | .FormattedValue .. ::_,_,h=>by cases h
 | .JoinedStr .. ::_,_,h=>by cases h
 | .Constant .. ::_,_,h=>by cases h
 | .Attribute .. ::_,_,h=>by cases h
 | .Subscript .. ::_,_,h=>by cases h
 | .Starred .. ::_,_,h=>by cases h
 | .List .. ::_,_,h=>by cases h
 | .Tuple .. ::_,_,h=>by cases h
 | .Slice .. ::_,_,h=>by cases h
theorem Gg(C:bt cd X ct)(hfn:X.fn=fun _=>true){tg:Expr}{is:List Nat}{one:Bool}(h:xT ct tg=some (is,one)):(one=false->∃ts k p,tg=.Tuple ts k p)/\∃g,PG X tg g /\
  ∀(O:List Addr)(τ τ' :En)(σ:L2.St)(H:Hp)(n:Bool)(x:PV)(u:V)(Q:L2.St->Hp->Prop),aq X.K Hi O τ σ H->σ.length=X.N.length->Rp X.K Hi n x (aW H O) u->my is one n x τ=some τ' ->
   (∀σ',aq X.K Hi O τ' σ' H->σ'.length=X.N.length->Q σ' H)->g u σ H Q:=by
 cases tg with
 | Name x p =>
  obtain⟨i,hi,h⟩:=map_some (show(loc ct x).map (fun i=>([i],true))=some (is,one)from h);cases h;obtain⟨h1,h2,h3,h4⟩:=kA C hi;refine⟨fun z=>(by cases z),_,ay (by rw[C.N];exact C.nd) h1 h2 (.inl (by rw[hfn])),fun O τ τ' σ H n x u Q R hl r e q=> ?_⟩;have e:some (τ.set i (.frz x (n||imm x)))=some τ' :=e;cases e;have hi' :i<σ.length:=by rw[hl];exact(JY.mp h1).1
  exact q _ (R.setF hi' r.up) (by rw[Kg];exact hl)
 | Tuple es k p =>
  obtain⟨js,hj,h⟩:=map_some (show(locs ct es).map (fun is=>(is,false))=some (is,one)from h);cases h;obtain⟨t,pt,hlen,hf,kk⟩:=uq (Hi:=Hi) C hfn hj;refine⟨fun _=>⟨_,_,_,rfl⟩,_,nM C.calm pt hlen hf,fun O τ τ' σ H n x u Q R hl r e q=> ?_⟩;cases x with
  | tup xs =>
   obtain⟨a,us,rfl,l,r2⟩:=Rp.tup.mp r;have e:cg n is xs τ=some τ' :=e;have hz:∀{is:List Nat}{xs:List PV}{τ τ' :En},cg n is xs τ=some τ' ->xs.length=is.length:=by
    intro is
    induction is with
    | nil=>intro xs τ τ' e;cases xs with
     | nil=>rfl
     | cons _ _=>cases e
    | cons i is ih=>intro xs τ τ' e;cases xs with
     | nil=>cases e
     | cons x xs=>rw[Jh,Jh,ih (show cg n is xs _=some τ' from e)]
   exact⟨a,us,rfl,(aO (O:=O)).tup l,by rw[<- r2.len];exact hz e,kk O τ τ' σ H n xs us Q R hl r2 e q⟩
  | _=>cases e
 | _=>cases h
theorem FM(C:bt cd X ct)(hfn:X.fn=fun _=>true){tg it:Expr}{is:List Nat}{one:Bool}{cap:List Nat}{n:Nat}{body:List Stmt}{pos:Pos}{xs:List PV}{k:Bool}{bd:En->Option Fl}{fl:Fl}(ht:xT ct tg=some (is,one))
  (hi:rO cd (Aj n ct (!one) it) (bU cap τ)=some (xs,k,false)) (hb:∀τ fl,bd τ=some fl->ww X Hi τ body fl) (h:kO (my is one k) bd xs (bU cap τ)=some fl):la X Hi τ (.For tg it body [] pos) fl:=by
 intro O σ H D R hl q;obtain⟨O1,R1,s1⟩:=ny (cap:=cap) R;obtain⟨htp,g,pg,kg⟩:=Gg (Hi:=Hi) C hfn ht;obtain⟨jK,hset⟩:=(gp n).t X ct Hi (bU cap τ) (!one) it tg xs k false C (fun z=>htp (by simpa using z)) hi;refine ws (eN C.xe C.calm EB pg lx (nR hset)) ?_;refine jK O1 σ H _ R1 fun J H1 sJ En=> ?_;rw[JR JT]at En;have s2:aD (aW H O) (aW H1 O1):=s1.trans (aP sJ);refine⟨fun i m σ' G=>m=xs.length-i/\i<=xs.length/\∃(P:List Addr)(υ:IR.En),aq X.K Hi P υ σ' G/\σ'.length=X.N.length/\aD (aW H1 O1) (aW G P)/\kO (my is one k) bd (xs.drop i) υ=some fl,⟨xs.length,by simp,Js _,O1,_,R1.ext sJ,hl,aD.refl _,h⟩,?_⟩;rintro i m σ' G ⟨rfl,hi',P,υ,RP,hlP,sP,hrun⟩;have cZ:DG (aW H1 O1) G P:=⟨RP.lsts,sP⟩
 by_cases hlt:i<xs.length
 ·refine .inr ⟨En.go G P i cZ hlt,fun σ2 G2=>∃m',m' <xs.length-i/\(m' =xs.length-(i+1)/\i+1<=xs.length/\∃(P:List Addr)(υ:IR.En),aq X.K Hi P υ σ2 G2/\σ2.length=X.N.length/\aD (aW H1 O1) (aW G2 P)/\kO (my is one k) bd (xs.drop (i+1)) υ=some fl),
   fun σ2 G2 h=>h,fun u G' y=> ?_⟩
  obtain⟨sG,x,hx,rx⟩:=En.yld G P i u G' cZ hlt y;have hd:xs.drop i=x::xs.drop (i+1):=by
   rw[K6 hlt];rw[Ja hlt]at hx;rw[Jl hx]
  rw[hd]at hrun;unfold kO at hrun;obtain⟨υ1,h1,hrun⟩:=bind_some hrun;obtain⟨f,hf,hrun⟩:=bind_some hrun;refine kg P υ υ1 σ' G' k x u _ (RP.ext sG) hlP rx h1 fun σ1 R2 hl1=> ?_;have s3:aD (aW H1 O1) (aW G' P):=sP.trans (aP sG);refine hb υ1 f hf P σ1 G' _ R2 hl1 ?_;cases f with
  | nx υ2=>exact fun σ3 G3 P3 R3 hl3 s4=>⟨_,by omega,rfl,hlt,P3,υ2,R3,hl3,s3.trans s4,hrun⟩
  | ct υ2=>exact fun σ3 G3 P3 R3 hl3 s4=>⟨_,by omega,rfl,hlt,P3,υ2,R3,hl3,s3.trans s4,hrun⟩
  | bk υ2 =>
   have hrun:some (Fl.nx υ2)=some fl:=hrun;cases hrun;exact fun σ3 G3 P3 R3 hl3 s4=>q σ3 G3 P3 R3 hl3 (s2.trans (s3.trans s4))
  | rt v =>
   have hrun:some (Fl.rt v)=some fl:=hrun;cases hrun;exact q
 ·have e:i=xs.length:=by omega
  subst e;rw[List.drop_length]at hrun;have hrun:some (Fl.nx υ)=some fl:=hrun;cases hrun;exact .inl ⟨En.stop G P cZ,q σ' G P RP hlP (s2.trans sP)⟩
theorem xG(C:bt cd X ct){c:Expr}{body:List Stmt}{pos:Pos}{ce:En->Option Bool}{bd:En->Option Fl}{fl:Fl}(hc:∀τ b,ce τ=some b->dz X Hi τ c b)(hb:∀τ fl,bd τ=some fl->ww X Hi τ body fl){fu:Nat}(h:AL ce bd fu τ=some fl) :
  la X Hi τ (.While c body [] pos) fl:=by
 intro O σ H D R hl q;refine ws (pO C.xe lK lx) ?_;refine⟨fun m σ' G=>∃(P:List Addr)(υ:IR.En),aq X.K Hi P υ σ' G/\σ'.length=X.N.length/\aD (aW H O) (aW G P)/\AL ce bd m υ=some fl,⟨fu,O,τ,R,hl,aD.refl _,h⟩,?_⟩;rintro m σ' G ⟨P,υ,RP,hlP,sP,hrun⟩;cases m with
 | zero=>cases hrun
 | succ m =>
  unfold AL at hrun;obtain⟨b,hbv,hrun⟩:=bind_some hrun;refine hc υ b hbv P σ' G _ RP fun G1 s1=> ?_;cases b with
  | false =>
   rw[JR JT]at hrun ⊢;cases hrun;exact q σ' G1 P (RP.ext s1) hlP (sP.trans (aP s1))
  | true =>
   rw[JS rfl]at hrun ⊢;obtain⟨f,hf,hrun⟩:=bind_some hrun;refine⟨fun σ2 G2=>∃m',m' <m+1/\∃(P:List Addr)(υ:IR.En),aq X.K Hi P υ σ2 G2/\σ2.length=X.N.length/\aD (aW H O) (aW G2 P)/\AL ce bd m' υ=some fl,fun σ2 G2 h=>h,?_⟩;have s3:aD (aW H O) (aW G1 P):=sP.trans (aP s1);refine hb υ f hf P σ' G1 _ (RP.ext s1) hlP ?_;cases f with
   | nx υ2=>exact fun σ3 G3 P3 R3 hl3 s4=>⟨m,by omega,P3,υ2,R3,hl3,s3.trans s4,hrun⟩
   | ct υ2=>exact fun σ3 G3 P3 R3 hl3 s4=>⟨m,by omega,P3,υ2,R3,hl3,s3.trans s4,hrun⟩
   | bk υ2 =>
    have hrun:some (Fl.nx υ2)=some fl:=hrun;cases hrun;exact fun σ3 G3 P3 R3 hl3 s4=>q σ3 G3 P3 R3 hl3 (s3.trans s4)
   | rt v =>
    have hrun:some (Fl.rt v)=some fl:=hrun;cases hrun;exact q
theorem Ah{i:Nat}{xs ys:List PV}{n m:Bool}{O:List Addr}{σ:L2.St}{H:Hp}{l:Addr}{us:List V}{P:L2.St->Hp->Prop}(R:aq X.K Hi O τ σ H)(hl:σ.length=X.N.length)(e:τ[i]? =some (.own xs n))(g:σ[i]? =some (some (.ref l)))(r:aH X.K Hi m ys (aW H O) us)
  (q:vW X Hi O H (τ.set i (.own ys m)) P):P σ (L2.upd H l (.lst us)):=by
 have R2:=R.upd e g r;refine q σ _ O R2 hl fun b o z=> ?_;obtain⟨l',vs,g1,g2,_⟩:=R.owns i xs n e;rw[g]at g1;cases g1;unfold aW at z ⊢
 split at z
 ·cases z
 ·rename_i nb
  have ne:b≠l:=fun c=>nb (c▸g2);rw[JR nb,aB ne];exact z
theorem F3(C:bt cd X ct){n:Nat}{x m:Str}{i:Nat}{cap:List Nat}{a:Expr}{xp ap cp pos:Pos}{r:RV}{v:PV}{k j:Bool}{xs:List PV}(hx:loc ct x=some i)(hm:m="append")(hline:(ap.endLine==cp.line)=true)(hs:isStar a=false)
  (hr:ac cd (ao n ct a) (bU cap τ)=some r) (hk:r.keep=some (v,k)) (ho:(bU cap τ)[i]? =some (.own xs j)) (hz:xs.length<LN) :
  la X Hi τ (.Expr (.Call (.Attribute (.Name x xp) m ap) [a] [] cp) pos) (.nx ((bU cap τ).set i (.own (xs++[v]) (j&&k)))):=by
 intro O σ H D R hl q;subst hm;obtain⟨h1,h2,h3,h4⟩:=kA C hx;obtain⟨O1,R1,s1⟩:=ny (cap:=cap) R;obtain⟨o1,o2,o3⟩:=cS h3;refine ws (uS (HS PySem.F.plainAttrs_list PySem.F.slot_list_append PySem.F.type_list_append mG (sO h1 (xJ C.S h4) o1 o2) (aR aZ af (aX hs)) rfl (by rw[aX hs];rfl) hline (aX hs) rfl) rfl) ?_;obtain⟨l,us,g1,g2,g3,g4⟩:=R1.owns i xs j ho;refine⟨_,g1,.inl ⟨rfl,us,bG.of g3⟩,?_⟩;refine(gp n).e X ct Hi _ a r C hr O1 σ H _ R1 fun u H' s ok=> ?_;have kp:=ok.keep R1 s hk;have hlen:=g4.len;refine⟨l,us,u,rfl,rfl,s _ _ g3,by rw[eG,<-hlen];exact hz,?_⟩;exact Ah (R1.ext s) hl ho g1 (Eh (g4.mono (aP s)) (.cons kp .nil)) (vW.from q (s1.trans (aP s)))
theorem aH.dropLast{n:Bool}{xs:List PV}{H:Hp}{us:List V}(h:aH X.K Hi n xs H us):aH X.K Hi n xs.dropLast H us.dropLast:=by
 rw[List.dropLast_eq_take,List.dropLast_eq_take,<-h.len];exact h.take _
theorem zx(C:bt cd X ct)(hfn:X.fn=fun _=>true){n:Nat}{x:Str}{i:Nat}{op:Operator}{e:Expr}{xp pos:Pos}{r:RV}{v w:Int}{k:Bool}{g:Int->Int->Int}(hx:loc ct x=some i)(hop:PIp X op (ipI g))(hr:ac cd (ao n ct e) τ=some r)(hv:τ[i]? =some (.frz (.int v) k))(hw:r.val=.int w) :
  la X Hi τ (.AugAssign (.Name x xp) op e pos) (.nx (τ.set i (.frz (.int (g v w)) true))):=by
 intro O σ H D R hl q;obtain⟨h1,h2,h3,h4⟩:=kA C hx;have hi:i<σ.length:=by rw[hl];exact(JY.mp h1).1
 have hN:X.N.Nodup:=by rw[C.N];exact C.nd
 obtain⟨u,hu,ru⟩:=R.frz i _ _ hv;cases Rp.int.mp ru;refine ws (D3 hN h1 h2 aZ hop (.inl (by rw[hfn]))) ⟨_,hu,?_⟩;refine(gp n).e X ct Hi _ e r C hr O σ H _ R fun u' H' s ok=>⟨v,w,rfl,ok.int R s hw,?_⟩;exact q _ _ O ((R.ext s).setF hi (Rp.int.mpr rfl)) (by rw[Kg];exact hl) (aP s)
end
section
variable{cd:Nat->List PV->Option PV}{fu:Nat}
structure JK(cd:Nat->List PV->Option PV)(fu:Nat)(n:Nat):Prop where
 s:∀(X:Cx)(ct:Ct)(Hi:Hp)(τ:En)(st:Stmt)(fl:Fl),bt cd X ct->(X.fn=fun _=>true)->gA cd fu (rL n ct st) τ=some fl->la X Hi τ st fl
 ss:∀(X:Cx)(ct:Ct)(Hi:Hp)(τ:En)(st:List Stmt)(fl:Fl),bt cd X ct->(X.fn=fun _=>true)->bV cd fu (aw n ct st) τ=some fl->ww X Hi τ st fl
theorem au{τ:En}{r:Fl}(h:gA cd fu .never τ=some r){P:Prop}:P:=by simp[ik,iV,iU,iZ,ib,iT,iX,ii,ig,il,ie,ij,ia,iW,iY]at h
theorem stE{n:Nat}(IH:JK cd fu n){X:Cx}{ct:Ct}{Hi:Hp}{τ:En}{st:Stmt}{fl:Fl}(C:bt cd X ct)(hfn:X.fn=fun _=>true)(h:gA cd fu (rL (n+1) ct st) τ=some fl):la X Hi τ st fl:=by
 cases st with
 | Return v pos =>
  simp only[vi,vY,vh,vb,vc,vX,va,vf,ve,vd,vZ,vg]at h;cases v with
  | none =>
   simp only[ik,iV,iU,iZ,ib,iT,iX,ii,ig,il,ie,ij,ia,iW,iY]at h;cases h;exact A3
  | some e =>
   simp only[ik,iV,iU,iZ,ib,iT,iX,ii,ig,il,ie,ij,ia,iW,iY]at h;obtain⟨r,hr,h⟩:=bind_some h;obtain⟨w,hk,h⟩:=bind_some h;obtain⟨v,m⟩:=w;dsimp only at h
   split at h
   ·rename_i hm
    cases h;subst hm;exact Dv C hr hk
   ·cases h
 | Assign ts e pos =>
  simp only[vi,vY,vh,vb,vc,vX,va,vf,ve,vd,vZ,vg]at h
  split at h
  ·rename_i x xp
   cases hx:loc ct x with
   | none=>rw[hx]at h;exact au h
   | some i =>
    rw[hx]at h;dsimp only at h;simp only[ik,iV,iU,iZ,ib,iT,iX,ii,ig,il,ie,ij,ia,iW,iY]at h;obtain⟨r,hr,h⟩:=bind_some h;obtain⟨τ',hp',h⟩:=map_some h;subst h;exact F1 C hfn hx hr hp'
  ·exact au h
 | If c a b pos =>
  simp only[vi,vY,vh,vb,vc,vX,va,vf,ve,vd,vZ,vg,ik,iV,iU,iZ,ib,iT,iX,ii,ig,il,ie,ij,ia,iW,iY]at h;obtain⟨t,ht,h⟩:=bind_some h;refine FB ((gp n).c X ct Hi τ c t C ht) ?_;cases t with
  | true=>exact IH.ss X ct Hi τ a fl C hfn h
  | false=>exact IH.ss X ct Hi τ b fl C hfn h
 | For tg it body els pos =>
  simp only[vi,vY,vh,vb,vc,vX,va,vf,ve,vd,vZ,vg]at h;cases els with
  | cons _ _=>exact au h
  | nil =>
   dsimp only at h;cases ht:xT ct tg with
   | none=>rw[ht]at h;exact au h
   | some w =>
    obtain⟨is,one⟩:=w;rw[ht]at h;simp only[ik,iV,iU,iZ,ib,iT,iX,ii,ig,il,ie,ij,ia,iW,iY]at h;obtain⟨w,hw,h⟩:=bind_some h;obtain⟨xs,k,b⟩:=w;dsimp only at h;cases b with
    | true=>cases h
    | false=>exact FM C hfn ht hw (fun τ fl h=>IH.ss X ct Hi τ body fl C hfn h) h
 | While c body els pos =>
  simp only[vi,vY,vh,vb,vc,vX,va,vf,ve,vd,vZ,vg]at h;cases els with
  | cons _ _=>exact au h
  | nil =>
   simp only[ik,iV,iU,iZ,ib,iT,iX,ii,ig,il,ie,ij,ia,iW,iY]at h;exact xG C (fun τ b h=>(gp n).c X ct Hi τ c b C h) (fun τ fl h=>IH.ss X ct Hi τ body fl C hfn h) h
 | Pass pos =>
  simp only[vi,vY,vh,vb,vc,vX,va,vf,ve,vd,vZ,vg,ik,iV,iU,iZ,ib,iT,iX,ii,ig,il,ie,ij,ia,iW,iY]at h;cases h;exact fun O σ H D R hl q=>ws A8 (q σ H O R hl (aD.refl _))
 | Break pos =>
  simp only[vi,vY,vh,vb,vc,vX,va,vf,ve,vd,vZ,vg,ik,iV,iU,iZ,ib,iT,iX,ii,ig,il,ie,ij,ia,iW,iY]at h;cases h;exact fun O σ H D R hl q=>ws yC (q σ H O R hl (aD.refl _))
 | Continue pos =>
  simp only[vi,vY,vh,vb,vc,vX,va,vf,ve,vd,vZ,vg,ik,iV,iU,iZ,ib,iT,iX,ii,ig,il,ie,ij,ia,iW,iY]at h;cases h;exact fun O σ H D R hl q=>ws pQ (q σ H O R hl (aD.refl _))
 | Expr e pos =>
  simp only[vi,vY,vh,vb,vc,vX,va,vf,ve,vd,vZ,vg]at h
  split at h
  ·rename_i x xp m ap es cp
   split at h
   ·rename_i hline
    cases hx:loc ct x with
    | none=>rw[hx]at h;exact au h
    | some i =>
     rw[hx]at h;dsimp only at h
     split at h
     ·rename_i a
      split at h
      ·exact au h
      ·rename_i hs
       split at h
       ·rename_i hm
        simp only[ik,iV,iU,iZ,ib,iT,iX,ii,ig,il,ie,ij,ia,iW,iY]at h;obtain⟨r,hr,h⟩:=bind_some h;obtain⟨w,hk,h⟩:=bind_some h;obtain⟨v,k⟩:=w
        split at h
        ·rename_i xs j ho
         split at h
         ·rename_i hz
          cases h;exact F3 C hx (Jp hm) hline (LF.mpr hs) hr hk ho hz
         ·cases h
        ·cases h
       ·exact au h
     ·exact au h
   ·exact au h
  ·exact au h
 | AugAssign t op e pos =>
  simp only[vi,vY,vh,vb,vc,vX,va,vf,ve,vd,vZ,vg]at h
  split at h
  ·rename_i x xp
   cases hx:loc ct x with
   | none=>rw[hx]at h;exact au h
   | some i =>
    rw[hx]at h;simp only[ik,iV,iU,iZ,ib,iT,iX,ii,ig,il,ie,ij,ia,iW,iY]at h;obtain⟨r,hr,h⟩:=bind_some h
    split at h
    ·rename_i hv hw
     cases h;exact zx C hfn hx FA hr (by assumption) (by assumption)
    ·rename_i hv hw
     cases h;exact zx C hfn hx Ez hr (by assumption) (by assumption)
    ·cases h
  ·exact au h
 | Raise e c pos =>
  simp only[vi,vY,vh,vb,vc,vX,va,vf,ve,vd,vZ,vg]at h
  split at h
  ·split at h
   ·simp[ik,iV,iU,iZ,ib,iT,iX,ii,ig,il,ie,ij,ia,iW,iY]at h
   ·exact au h
  ·exact au h
 | _=>(try simp only[vi,vY,vh,vb,vc,vX,va,vf,ve,vd,vZ,vg]at h);exact au h
theorem Ig:∀n:Nat,JK cd fu n
 | 0=>by
  refine⟨fun X ct Hi τ st fl C hfn h=> ?_,fun X ct Hi τ st fl C hfn h=> ?_⟩
  ·simp[vi,vY,vh,vb,vc,vX,va,vf,ve,vd,vZ,vg,ik,iV,iU,iZ,ib,iT,iX,ii,ig,il,ie,ij,ia,iW,iY]at h
  ·simp[z2g,z2i,z2h,AY,AZ,ik,iV,iU,iZ,ib,iT,iX,ii,ig,il,ie,ij,ia,iW,iY]at h
 | n+1=>by
  have IH:=Ig n;refine⟨fun X ct Hi τ st fl C hfn h=>stE IH C hfn h,fun X ct Hi τ st fl C hfn h=> ?_⟩;cases st with
  | nil =>
   simp only[z2g,z2i,z2h,AY,AZ]at h;cases h;exact fun O σ H D R hl q=>wss nJ (q σ H O R hl (aD.refl _))
  | cons st ss =>
   simp only[z2g,z2i,z2h]at h;simp only[AY,AZ]at h;obtain⟨f,hf,h⟩:=bind_some h;have h1:=IH.s X ct Hi τ st f C hfn hf;intro O σ H D R hl q;refine wss (az ps_w lx) ?_;refine h1 O σ H _ R hl ?_;cases f with
   | nx τ1=>exact fun σ1 H1 O1 R1 hl1 s1=>IH.ss X ct Hi τ1 ss fl C hfn h O1 σ1 H1 D R1 hl1 (q.from s1)
   | bk τ1 =>
    have h:some (Fl.bk τ1)=some fl:=h;cases h;exact q
   | ct τ1 =>
    have h:some (Fl.ct τ1)=some fl:=h;cases h;exact q
   | rt v =>
    have h:some (Fl.rt v)=some fl:=h;cases h;exact q
end
structure wz(K:W.Frag)(mg:Str->Option Value)(P:Nat->Option FD)(F:List (Str×Nat))(G:List (Str×PV))(B:List Str)(x:Str)(f:Nat)(a:Addr)(fd:FuncData)(ps:List Str):Prop where
 ex:(mg x=some (.ref a)/\W.keepIn K (.ref a)=true/\Binds K fd ps []/\∀(p:Program)(w:World)(base:Heap)(k:Nat),(∀j,j<=k->∀y g,F.lookup y=some g->∃b gd qs,mg y=some (.ref b)/\W.keepIn K (.ref b)=true/\Binds K gd qs []/\cY p w K mg base oE j b gd qs (AN K (aG P j g)))->cY p w K mg base oE (k+1) a fd ps (AN K (aG P (k+1) f)))\/∃st N M n body,Def K mg x st ps a fd/\aS N ps (aA st)/\P f=some ⟨N.length,ps.length,body⟩/\aw n ⟨N,(aA st).names,F,G,B,M⟩ (aF st)=body
theorem wz.def{K:W.Frag}{mg:Str->Option Value}{P:Nat->Option FD}{F:List (Str×Nat)}{G:List (Str×PV)}{B:List Str}{x:Str}{f:Nat}{a:Addr}{fd:FuncData}{ps:List Str}(d:wz K mg P F G B x f a fd ps):mg x=some (.ref a)/\W.keepIn K (.ref a)=true/\Binds K fd ps []:=by
 rcases d.ex with⟨h1,h2,h3,_⟩|⟨st,N,M,n,body,D,_⟩
 ·exact⟨h1,h2,h3⟩
 ·exact⟨D.nm,D.fn.kp,D.bd⟩
theorem wW{K:W.Frag}{H:Hp}{d:FD}{N:List Str}{pvs:List PV}{vs:List V}(hn:d.nn=N.length)(r:aH K H false pvs H vs):aq K H [] (entry d pvs) (start N vs) H:=by
 have hl:=r.len;have jM:∀(i:Nat)(t:TV),(entry d pvs)[i]? =some t->t=.un\/∃v u,t=.frz v (imm v)/\(start N vs)[i]? =some (some u)/\Rp K H false v H u:=fun i t e=>by
  unfold entry at e
  by_cases hi:i<pvs.length
  ·rw[K5 (by simpa using hi),Jc]at e
   have hv:pvs[i]? =some pvs[i]:=by simp
   rw[hv]at e;cases e;obtain⟨u,hu,ru⟩:=r.at hv;refine .inr ⟨_,u,rfl,?_,ru⟩;unfold L2.start;rw[K5 (by rw[JM];omega),Jc,hu];rfl
  ·rw[LY (by simpa using hi),List.getElem?_replicate]at e
   split at e
   ·cases e
    exact .inl rfl
   ·cases e
 refine⟨aD.refl _,fun l hl=>(by cases hl),fun i v n e=> ?_,fun i t b xs n e ht=> ?_,fun i j t t' x y l e1 ht e2 ht' h1 h2=> ?_⟩
 ·rcases jM i _ e with z|⟨v',u,z,h1,h2⟩
  ·cases z
  ·cases z
   refine⟨u,h1,?_⟩;rw[Bv];cases him:imm v with
   | true=>exact Rp.imm him ⟨fun _ _ e=>e,fun _ _ _ e=>e⟩ h2
   | false=>exact h2
 ·rcases jM i _ e with z|⟨v',u,z,h1,h2⟩<;>(subst z;cases ht)
 ·rcases jM i _ e1 with z|⟨v',u,z,h1,h2⟩<;>(subst z;cases ht)
theorem FN{p:Program}{w:World}{K:W.Frag}{mg:Str->Option Value}{base:Heap}{P:Nat->Option FD}{F:List (Str×Nat)}{G:List (Str×PV)}{B:List Str}
  (hG:∀x v,G.lookup x=some v->∃u w,mg x=some u/\RelV w u/\∀Hi n H,Rp K Hi n v H w) (hB:∀x,B.contains x=true->mg x=none) (hF:∀x f,F.lookup x=some f->∃a fd ps,wz K mg P F G B x f a fd ps) :
  ∀(k:Nat)(x:Str)(f:Nat)(a:Addr)(fd:FuncData)(ps:List Str),wz K mg P F G B x f a fd ps->cY p w K mg base oE k a fd ps (AN K (aG P k f)):=by
 have S:∀k j:Nat,j<=k->∀(x:Str)(f:Nat)(a:Addr)(fd:FuncData)(ps:List Str),wz K mg P F G B x f a fd ps->cY p w K mg base oE j a fd ps (AN K (aG P j f)):=by
  intro k
  induction k with
  | zero =>
   intro j hj;have e:=Nat.le_zero.mp hj;subst e;intro x f a fd ps _;exact⟨fun vs H Q E h=>(by obtain⟨_,_,_,z,_⟩:=h;cases z),fun A outer s H args us vs Q E _ _ _ _ h=>(by obtain⟨_,_,_,z,_⟩:=h;cases z)⟩
  | succ k ih =>
  intro j hj
  by_cases hjk:j<=k
  ·exact ih j hjk
  have e:j=k+1:=by omega
  subst e;intro x f a fd ps d
  rcases d.ex with⟨_,_,_,hand⟩|⟨st,N,M,n,body,D,S,hP,hbody⟩
  ·exact hand p w base k fun j hj y g hy=>by
    obtain⟨b,gd,qs,dy⟩:=hF y g hy;obtain⟨z1,z2,z3⟩:=dy.def;exact⟨b,gd,qs,z1,z2,z3,ih j hj y g b gd qs dy⟩
  have run:∀{pvs:List PV}{r:PV},aG P (k+1) f pvs=some r->pvs.length=ps.length/\eU (bV (aG P k) 1000000 body (entry ⟨N.length,ps.length,body⟩ pvs))=some r:=fun{pvs r} h=>by
   unfold aG at h;rw[hP]at h;dsimp only[Option.bind]at h
   split at h
   ·rename_i hl
    exact⟨hl,h⟩
   ·cases h
  refine D.fn.ok S (fun vs H Q E h=> ?_) (fun cdv A outer s H vs Q E hr h=> ?_)
  ·obtain⟨pvs,r,h1,h2,_⟩:=h
   rw[<- h1.len];exact(run h2).1
  ·obtain⟨pvs,r,h1,h2,q⟩:=h
   obtain⟨hl,h2⟩:=run h2;have hps:ps.length<=N.length:=by have:=Jw List.length S.pre;rw[Lz]at this;omega
   cases he:bV (aG P k) 1000000 body (entry ⟨N.length,ps.length,body⟩ pvs)with
   | none=>rw[he]at h2;cases h2
   | some fl =>
    rw[he]at h2
    have C:bt (aG P k) (ql oE p w K mg base N x (aA st) a cdv A outer s H E).nox ⟨N,(aA st).names,F,G,B,M⟩ :=
     ⟨rfl,S.nd,rfl,S.kind,rfl,hG,hB,fun y g hy=>by
      obtain⟨a',fd',ps',d'⟩:=hF y g hy;obtain⟨z1,z2,z3⟩:=d'.def;exact⟨k,a',fd',ps',ih k (JV k) y g a' fd' ps' d',hr,z1,z2,z3⟩,Kd,hr.units⟩
    rw[<- hbody]at he;have h3:=(Ig n).ss _ _ H _ (aF st) fl C rfl he;refine⟨_,lx,h3 [] (start N vs) H _ (wW rfl h1) ?_ ?_⟩
    ·show(start N vs).length=N.length
     unfold L2.start;rw[Jj,JM,List.length_replicate];have:=h1.len;omega
    ·cases fl with
     | nx τ' =>
      cases h2;exact fun σ' H' O' R' _ _=>q _ _ R'.same (Rp.non.mpr rfl)
     | rt v =>
      cases h2;exact q
     | bk τ' =>cases h2
     | ct τ' =>cases h2
 exact fun k=>S k k (JV k)
theorem Eo{p:Program}{w:World}{K:W.Frag}{mg:Str->Option Value}{base:Heap}{P:Nat->Option FD}{k f:Nat}{a:Addr}{fd:FuncData}{ps:List Str}(F:cY p w K mg base oE k a fd ps (AN K (aG P k f)))
  (h:∀ns:List Int,ns.length<=63->aG P k f [.lst (ns.map PV.int)]=some (.bl true)):cY p w K mg base oE k a fd ps (uH K) :=
 F.imp fun vs H Q E z=>by
  obtain⟨l,ns,rfl,hS,h63,q⟩:=z;refine⟨[.lst (ns.map PV.int)],.bl true,.cons (Rp.lst.mpr ⟨l,_,rfl,(fun z=>by cases z),hS,aH.ints.mpr rfl⟩) .nil,h ns h63,fun u H' s r=> ?_⟩;rw[Rp.bl.mp r];exact q H'
section
variable{K:W.Frag}{mg:Str->Option Value}{P:Nat->Option FD}{F0:List (Str×Nat)}{G0:List (Str×PV)}{B0:List Str}
theorem fnil:∀(x:Str)(f:Nat),([]:List (Str×Nat)).lookup x=some f->∃a fd ps,wz K mg P F0 G0 B0 x f a fd ps:=fun x f h=>by cases h
theorem bA{x0:Str}{f0:Nat}{r:List (Str×Nat)}(h:∃a fd ps,wz K mg P F0 G0 B0 x0 f0 a fd ps)(hr:∀(x:Str) (f:Nat),r.lookup x=some f->∃a fd ps,wz K mg P F0 G0 B0 x f a fd ps) :
  ∀(x:Str)(f:Nat),((x0,f0)::r).lookup x=some f->∃a fd ps,wz K mg P F0 G0 B0 x f a fd ps:=fun x f e=>by
 rw[KA]at e
 split at e
 ·rename_i c
  cases e;rw[Jp c];exact h
 ·exact hr x f e
theorem gnil:∀(x:Str)(v:PV),([]:List (Str×PV)).lookup x=some v->∃u w,mg x=some u/\RelV w u/\∀Hi n H,Rp K Hi n v H w:=fun x f h=>by cases h
theorem Hu{x0:Str}{v0:PV}{r:List (Str×PV)}(h:∃u w,mg x0=some u/\RelV w u/\∀Hi n H,Rp K Hi n v0 H w)(hr:∀(x:Str) (v:PV),r.lookup x=some v->∃u w,mg x=some u/\RelV w u/\∀Hi n H,Rp K Hi n v H w) :
  ∀(x:Str)(v:PV),((x0,v0)::r).lookup x=some v->∃u w,mg x=some u/\RelV w u/\∀Hi n H,Rp K Hi n v H w:=fun x f e=>by
 rw[KA]at e
 split at e
 ·rename_i c
  cases e;rw[Jp c];exact h
 ·exact hr x f e
theorem bnil:∀(x:Str),([]:List Str).contains x=true->mg x=none:=fun x h=>by simp at h
theorem br{x0:Str}{r:List Str}(h:mg x0=none)(hr:∀(x:Str),r.contains x=true->mg x=none):∀(x:Str),(x0::r).contains x=true->mg x=none:=fun x e=>by
 rw[LO,Kh]at e
 rcases e with e|e
 ·rw[Jp e]
  exact h
 ·exact hr x e
end
theorem hU{α:Type}{us:List α}(h:us.length=1):∃a,us=[a]:=by
 cases us with
 | nil=>cases h
 | cons a us=>cases us with
  | nil=>exact⟨a,rfl⟩
  | cons b us=>cases h
theorem kD{α:Type}{us:List α}(h:us.length=2):∃a b,us=[a,b]:=by
 cases us with
 | nil=>cases h
 | cons a us=>obtain⟨b,rfl⟩:=hU (Nat.succ.inj h);exact⟨a,b,rfl⟩
theorem yg{α:Type}{us:List α}(h:us.length=3):∃a b c,us=[a,b,c]:=by
 cases us with
 | nil=>cases h
 | cons a us=>obtain⟨b,c,rfl⟩:=kD (Nat.succ.inj h);exact⟨a,b,c,rfl⟩
theorem qU{set:PV->En->Option En}{body:En->Option Fl}(I:Nat->En->Prop)(R:Fl->Prop):∀(xs ys:List PV)(τ:En),I xs.length τ ->
  (∀(i:Nat)(x:PV)(τ:En),(xs++ys)[i]? =some x->xs.length<=i->I i τ->∃τ1 f,set x τ=some τ1/\body τ1=some f/\(match f with| .nx τ2=>I (i+1) τ2| .ct τ2=>I (i+1) τ2| .bk τ2=>R (.nx τ2)| .rt v=>R (.rt v))) ->
  (∀τ,I (xs++ys).length τ->R (.nx τ))->∃fl,kO set body ys τ=some fl/\R fl
 | xs,[],τ,h0,hs,he=>⟨.nx τ,rfl,he τ (by rw[KL];exact h0)⟩
 | xs,y::ys,τ,h0,hs,he=>by
  obtain⟨τ1,f,h1,h2,h3⟩:=hs xs.length y τ (by simp) (JV _) h0;have e:xs++y::ys=(xs++[y])++ys:=by simp
  have ih:=fun τ2 (h:I (xs.length+1) τ2)=>qU (set:=set) (body:=body) I R (xs++[y]) ys τ2 (by rw[Jj];exact h) (fun i x τ hx hi=>hs i x τ (by rw[e];exact hx) (by rw[Jj]at hi;omega)) (by rw[<- e];exact he);unfold kO;rw[h1];dsimp only[Option.bind];rw[h2];cases f with
  | nx τ2=>exact ih τ2 h3
  | ct τ2=>exact ih τ2 h3
  | bk τ2=>exact⟨_,rfl,h3⟩
  | rt v=>exact⟨_,rfl,h3⟩
theorem By{set:PV->En->Option En}{body:En->Option Fl}{xs:List PV}{τ:En}(I:Nat->En->Prop)(R:Fl->Prop)(h0:I 0 τ)
  (hs:∀(i:Nat)(x:PV)(τ:En),xs[i]? =some x->I i τ->∃τ1 f,set x τ=some τ1/\body τ1=some f/\(match f with| .nx τ2=>I (i+1) τ2| .ct τ2=>I (i+1) τ2| .bk τ2=>R (.nx τ2)| .rt v=>R (.rt v)))
  (he:∀τ,I xs.length τ->R (.nx τ)):∃fl,kO set body xs τ=some fl/\R fl :=
 qU I R [] xs τ h0 (fun i x τ hx _ hI=>hs i x τ hx hI) he
theorem fF{f:PV->Option (Option (PV×Bool))}{g:PV->PV}{n:Bool}:∀{xs:List PV},(∀x∈xs,f x=some (some (g x,true)))->b8 f xs=some (xs.map g,true)
 | [],_=>rfl
 | x::xs,h=>by
  unfold b8;rw[h x JP,fF (n:=n) fun y hy=>h y (JO _ hy)];rfl
section
variable{v:PV}{n m:Bool}{xs ys:List PV}{i j:Int}{z y:Str}{a b:RV}{τ:En}{t:TV}{k:Nat}
theorem fA:(RV.frz v n).val=v:=rfl
theorem Af:(RV.bor v).val=v:=rfl
theorem Ae:(RV.own xs n).val=.lst xs:=rfl
theorem yt:(RV.frz v n).keep=some (v,n):=rfl
theorem yr:(RV.own xs n).keep=some (.lst xs,n):=rfl
theorem Bl{ks:List ae}:(RV.owd (.dK ks) xs n).keep=some (.dK ks xs,n):=rfl
theorem Bi:eR (.lst xs)=some xs.length:=rfl
theorem Bg:eR (.tup xs)=some xs.length:=rfl
theorem len_str:eR (.str z)=if z.length<=LN then some z.length else none:=rfl
theorem B3:eU (some (.rt v))=some v:=rfl
theorem FJ:qO (.frz v n::τ) 0=some (.frz v n):=rfl
theorem FL:qO (.own xs n::τ) 0=some (.bor (.lst xs)):=rfl
theorem FK:qO (t::τ) (k+1)=qO τ k:=rfl
theorem kN:bU [] τ=τ:=rfl
theorem mO{c:List Nat}:bU (k::c) τ=bU c (nz τ k):=rfl
theorem Bw:nz (.own xs n::τ) 0=.frz (.lst xs) n::τ:=rfl
theorem vE:nz (.frz v n::τ) 0=.frz v n::τ:=rfl
theorem zF:nz (t::τ) (k+1)=t::nz τ k:=by
 unfold nz;rw[Kq];cases τ[k]? with
 | none=>rfl
 | some t=>cases t<;>rfl
theorem CU:dO .Add (.frz (.int i) n) (.frz (.int j) m)=some (sc (.int (i+j))):=rfl
theorem CN:dO .Sub (.frz (.int i) n) (.frz (.int j) m)=some (sc (.int (i-j))):=rfl
theorem CP:dO .Mult (.frz (.int i) n) (.frz (.int j) m)=if(-(2^64)<i/\i<2^64)\/(-(2^64)<j/\j<2^64)then some (sc (.int (i*j)))else if i.natAbs<2^2000/\j.natAbs<2^2000 then some (sc (.int (i*j)))else none:=rfl
theorem CS:dO .FloorDiv (.frz (.int i) n) (.frz (.int j) m)=if 0<j/\j<2^200 then some (sc (.int (i/j)))else none:=rfl
theorem CQ:dO .Mod (.frz (.int i) n) (.frz (.int j) m)=if 0<j then some (sc (.int (i%j)))else none:=rfl
theorem CO:dO .LShift (.frz (.int i) n) (.frz (.int j) m)=if 0<=j/\j<=1000000/\i.natAbs<2^64 then some (sc (.int (i*2^j.toNat)))else none:=rfl
theorem CT:dO .Add (.frz (.str z) n) (.frz (.str y) m)=if z.length+y.length<=LN then some (sc (.str (z++y)))else none:=rfl
theorem Fj:ah .Lt (.int i) (.int j)=some (decide (i<j)):=rfl
theorem Fk:ah .LtE (.int i) (.int j)=some (decide (i<=j)):=rfl
theorem Fm:ah .Gt (.int i) (.int j)=some (decide (j<i)):=rfl
theorem Fn:ah .GtE (.int i) (.int j)=some (decide (j<=i)):=rfl
theorem CG:ah .Eq (.int i) (.int j)=some (decide (i=j)):=rfl
theorem CD:ah .Eq (.str z) (.str y)=some (decide (z=y)):=rfl
theorem CC:ah .NotEq (.int i) (.int j)=some (!decide (i=j)):=rfl
end
section
variable{cd:Nat->List PV->Option PV}{fu:Nat}{s:IS}{ss:wy}{τ τ1:En}{v:PV}
end
theorem mR{cd:Nat->List PV->Option PV}{fu:Nat}{s:IS}{ss:wy}{τ:En}:bV cd fu (.cons s ss) τ=(gA cd fu s τ).bind fun f=>gE f (bV cd fu ss):=by simp only[AY,AZ]
theorem zN{cd:Nat->List PV->Option PV}{fu:Nat}{τ:En}:bV cd fu .nil τ=some (.nx τ):=by simp only[AY,AZ]
theorem run{P:Nat->Option FD}{k f:Nat}{d:FD}{vs:List PV}{r:PV}(hP:P f=some d)(hl:vs.length=d.np)(h:eU (bV (aG P k) 1000000 d.body (entry d vs))=some r):aG P (k+1) f vs=some r:=by
 show(P f).bind _=_;rw[hP];show(if vs.length=d.np then _ else _)=_;rw[JS hl];exact h
section
variable{a b:RV}{t:String}{n m:Bool}{xs ys:List PV}{i j:Int}{bl:Bool}
theorem An{τ:En}{k:En->Option Fl}:gE (.nx τ) k=k τ:=rfl
theorem Am{v:PV}{k:En->Option Fl}:gE (.rt v) k=some (.rt v):=rfl
theorem xR:oz (.bl bl)=some bl:=rfl
theorem zo:jA (.bl bl)=some bl:=rfl
theorem yz:Bo (.int i)=some i:=rfl
theorem Au{z:Str}:jn (.frz (.str z) n)=some (signs z,true,false):=rfl
theorem Aw:jn (.frz (.lst xs) n)=some (xs,n,false):=rfl
theorem As:jn (.frz (.tup xs) n)=some (xs,n,false):=rfl
theorem Av:jn (.own xs n)=some (xs,n,false):=rfl
theorem HN{τ:En}{k:Nat}:nH true k (.own xs n) τ=some (τ.set k (.own xs n)):=rfl
theorem Dz{τ:En}{k:Nat}:nH false k (.own xs n) τ=some (τ.set k (.frz (.lst xs) n)):=rfl
theorem D1{τ:En}{k:Nat}{o:Bool}{v:PV}:nH o k (.frz v n) τ=some (τ.set k (.frz v n)):=by cases o<;>rfl
theorem DV:o0 (.lst xs)=.own xs true:=rfl
theorem DU:o0 (.tup xs)=.frz (.tup xs) true:=rfl
theorem DW:o0 (.int i)=.frz (.int i) true:=rfl
theorem DX:o0 (.bl bl)=.frz (.bl bl) true:=rfl
theorem Fu:kz .len [a]=(eR a.val).map fun n=>sc (.int (n:Nat)):=rfl
theorem CZ:kz .int [.frz (.bl bl) n]=some (sc (.int (if bl then 1 else 0))):=rfl
theorem CY:kz (.isin t) [a]=(bT t a.val).map fun b=>sc (.bl b):=rfl
theorem zt:kz .list [.frz (.tup xs) n]=some (.own xs n):=rfl
theorem zu:kz .list [.frz (.lst xs) n]=some (.own xs n):=rfl
theorem wm:kz .tuple [.own xs n]=some (.frz (.tup xs) n):=rfl
theorem wn:kz .tuple [.frz (.lst xs) n]=some (.frz (.tup xs) n):=rfl
theorem Fv:kz .all [.own xs n]=(gi xs).map fun bs=>sc (.bl (bs.all id)):=rfl
theorem Fs:kz .min [.frz (.int i) n,.frz (.int j) m]=some (sc (.int (if j<i then j else i))):=rfl
theorem Ft:kz .max [.frz (.int i) n,.frz (.int j) m]=some (sc (.int (if j>i then j else i))):=rfl
theorem zr:kz .sorted [.frz (.lst xs) n]=ll xs:=rfl
theorem CV:kz .sset [a]=(eF a.val).map fun ns=>.own ((L2.bj ns).map PV.int) true:=rfl
theorem CW:kz .lset [a]=(eF a.val).map fun ns=>sc (.int ((L2.bj ns).length:Nat)):=rfl
theorem HG:GK (.frz (.tup xs) n)=some (xs,n):=rfl
theorem Em{ks:List ae}{vs:List PV}{t:Int}{m:Bool}:wJ (.frz (.dK ks vs) n) (some (.frz (.int t) m))=if ks.length<=LN then(lI t ks vs).map (fun ns=>.own (ns.map PV.int) true)else none:=rfl
theorem ix_L(k:Int):i8 (.frz (.lst xs) n) (.frz (.int k) m)=(cX xs k).map fun e=>.frz e (n||imm e):=rfl
theorem ix_T(k:Int):i8 (.frz (.tup xs) n) (.frz (.int k) m)=(cX xs k).map fun e=>.frz e (n||imm e):=rfl
theorem ix_O(k:Int):i8 (.own xs n) (.frz (.int k) m)=(cX xs k).map fun e=>.frz e (n||imm e):=rfl
theorem ix_S(k:Int)(z:Str):i8 (.frz (.str z) n) (.frz (.int k) m)=if z.length<=LN then(cX z.cps.toList k).map fun c=>sc (.str ⟨#[c]⟩)else none:=rfl
end
theorem qH  :bT "int" .non=some false:=by simp[bT]
theorem sj{b:Bool}:bT "int" (.bl b)=some true:=by simp[bT]
theorem qJ{i:Int}:bT "int" (.int i)=some true:=by simp[bT]
theorem qG{z:Str}:bT "int" (.str z)=some false:=by simp[bT]
theorem qI{xs:List PV}:bT "int" (.lst xs)=some false:=by simp[bT]
theorem qF{xs:List PV}:bT "int" (.tup xs)=some false:=by simp[bT]
theorem si{ks:List ae}{vs:List PV}:bT "int" (.dK ks vs)=some false:=by simp[bT]
theorem nj  :bT "bool" .non=some false:=by simp[bT]
theorem qL{b:Bool}:bT "bool" (.bl b)=some true:=by simp[bT]
theorem nr{i:Int}:bT "bool" (.int i)=some false:=by simp[bT]
theorem ni{z:Str}:bT "bool" (.str z)=some false:=by simp[bT]
theorem nk{xs:List PV}:bT "bool" (.lst xs)=some false:=by simp[bT]
theorem nh{xs:List PV}:bT "bool" (.tup xs)=some false:=by simp[bT]
theorem qK{ks:List ae}{vs:List PV}:bT "bool" (.dK ks vs)=some false:=by simp[bT]
theorem qE{i:Int}:bT "str" (.int i)=some false:=by simp[bT]
theorem qD{z:Str}:bT "str" (.str z)=some true:=by simp[bT]
theorem ng{i:Int}:bT "list" (.int i)=some false:=by simp[bT]
theorem nY{z:Str}:bT "list" (.str z)=some false:=by simp[bT]
theorem nZ{xs:List PV}:bT "list" (.lst xs)=some true:=by simp[bT]
theorem lO  :bT "tuple" .non=some false:=by simp[bT]
theorem nX{b:Bool}:bT "tuple" (.bl b)=some false:=by simp[bT]
theorem lR{i:Int}:bT "tuple" (.int i)=some false:=by simp[bT]
theorem lN{z:Str}:bT "tuple" (.str z)=some false:=by simp[bT]
theorem lQ{xs:List PV}:bT "tuple" (.lst xs)=some false:=by simp[bT]
theorem lM{xs:List PV}:bT "tuple" (.tup xs)=some true:=by simp[bT]
theorem nW{ks:List ae}{vs:List PV}:bT "tuple" (.dK ks vs)=some false:=by simp[bT]
theorem tJ  :ah .Is .non .non=some true:=rfl
theorem tL{i:Int}:ah .Is (.int i) .non=some false:=rfl
theorem tH{z:Str}:ah .Is (.str z) .non=some false:=rfl
theorem tK{xs:List PV}:ah .Is (.lst xs) .non=some false:=rfl
theorem tG{xs:List PV}:ah .Is (.tup xs) .non=some false:=rfl
theorem fr{α:Type}{f:PV->Option (Option (PV×Bool))}{h:α->PV}{g:α->PV}:∀{l:List α},(∀x∈l,f (h x)=some (some (g x,true)))->b8 f (l.map h)=some (l.map g,true)
 | [],_=>rfl
 | x::xs,k=>by
  rw[JZ];unfold b8;rw[k x JP,fr fun y hy=>k y (JO _ hy)];rfl
noncomputable def To(o:Option Fl)(Q:Fl->Prop):Prop:=∃f,o=some f/\Q f
theorem Al{f:Fl}{Q:Fl->Prop}:To (some f) Q↔Q f:=⟨fun⟨g,e,h⟩=>by cases e;exact h,fun h=>⟨f,rfl,h⟩⟩
theorem To.imp{o:Option Fl}{Q Q' :Fl->Prop}(h:To o Q)(k:∀f,Q f->Q' f):To o Q' :=by
 obtain⟨f,e,q⟩:=h;exact⟨f,e,k f q⟩
theorem uL{P:Nat->Option FD}{k f:Nat}{d:FD}{vs:List PV}{Q:PV->Prop}(hP:P f=some d)(hl:vs.length=d.np)(h:To (bV (aG P k) 1000000 d.body (entry d vs)) fun fl=>∃v,eU (some fl)=some v/\Q v):∃v,aG P (k+1) f vs=some v/\Q v:=by
 obtain⟨fl,e,v,h1,h2⟩:=h;exact⟨v,run hP hl (by rw[e];exact h1),h2⟩
theorem dB{P:Nat->Option FD}{k f:Nat}{d:FD}{vs:List PV}{r:PV}(hP:P f=some d)(hl:vs.length=d.np)(h:To (bV (aG P k) 1000000 d.body (entry d vs)) fun fl=>eU (some fl)=some r):aG P (k+1) f vs=some r:=by
 obtain⟨fl,e,h1⟩:=h;exact run hP hl (by rw[e];exact h1)
section
variable{cd:Nat->List PV->Option PV}{fu:Nat}{τ:En}{cap:List Nat}{e e2:IE}{i j:Nat}{o one:Bool}{is:List Nat}{c:IC}{a b body:wy}{src:IT}
theorem FR:gA cd fu (.asg i o cap e) τ=(ac cd e (bU cap τ)).bind fun r=>(nH o i r (bU cap τ)).map .nx:=by simp only[ik,iV,iU,iZ,ib,iT,iX,ii,ig,il,ie,ij,ia,iW,iY]
theorem FO:gA cd fu (.ret cap e) τ=(ac cd e (bU cap τ)).bind fun r=>r.keep.bind fun(v,n)=>if n then some (.rt v)else none:=by simp only[ik,iV,iU,iZ,ib,iT,iX,ii,ig,il,ie,ij,ia,iW,iY]
theorem FP:gA cd fu (.ife c a b) τ=(fE cd c τ).bind fun r=>if r then bV cd fu a τ else bV cd fu b τ:=by simp only[ik,iV,iU,iZ,ib,iT,iX,ii,ig,il,ie,ij,ia,iW,iY]
noncomputable def xy(i:Nat)(v:PV)(m:Bool)(τ:En):Option Fl:=match τ[i]? with
  | some (.own xs n)=>if xs.length<LN then some (.nx (τ.set i (.own (xs++[v]) (n&&m))))else none
  | _=>none
theorem FS:gA cd fu (.app i cap e) τ=(ac cd e (bU cap τ)).bind fun r=>r.keep.bind fun(v,m)=>xy i v m (bU cap τ):=by simp only[ik,iV,iU,iZ,ib,iT,iX,ii,ig,il,ie,ij,ia,iW,iY];rfl
theorem eM{v:PV}{n m:Bool}{xs:List PV}(h:τ[i]? =some (.own xs n))(hz:xs.length<LN):xy i v m τ=some (.nx (τ.set i (.own (xs++[v]) (n&&m)))):=by
 unfold xy;rw[h];exact JS hz
theorem dJ{xs:List PV}{n:Bool}{k:En->Option Fl}{Q:Fl->Prop}(ht:rO cd src (bU cap τ)=some (xs,n,false))(I:Nat->En->Prop)(h0:I 0 (bU cap τ))
  (hs:∀(i:Nat)(x:PV)(τ:En),xs[i]? =some x->I i τ->∃τ1,my is one n x τ=some τ1/\To (bV cd fu body τ1) fun f=>match f with| .nx τ2=>I (i+1) τ2| .ct τ2=>I (i+1) τ2| .bk τ2=>To (k τ2) Q| .rt v=>Q (.rt v))
  (hk:∀τ',I xs.length τ' ->To (k τ') Q):To ((gA cd fu (.forr is one cap src body) τ).bind fun f=>gE f k) Q:=by
 obtain⟨fl,e,h⟩:=By (set:=my is one n) (body:=fun τ=>bV cd fu body τ) (xs:=xs) (τ:=bU cap τ) I (fun fl=>To (gE fl k) Q) h0 (fun i x τ hx hI=>by
  obtain⟨τ1,h1,f,h2,h3⟩:=hs i x τ hx hI;refine⟨τ1,f,h1,h2,?_⟩;cases f with
  | nx τ2=>exact h3
  | ct τ2=>exact h3
  | bk τ2=>exact h3
  | rt v=>exact⟨_,rfl,h3⟩) hk
 have e2:gA cd fu (.forr is one cap src body) τ=some fl:=by
  simp only[ik,iV,iU,iZ,ib,iT,iX,ii,ig,il,ie,ij,ia,iW,iY,ht,LZ];exact e
 rw[e2];exact h
end
theorem bm:∀l:List Str,imms (l.map PV.str)=true
 | []=>rfl
 | x::l=>by rw[JZ,imms,bm l];rfl
theorem zB(l:List Str):imm (.tup (l.map PV.str))=true:=by rw[imm];exact bm l
theorem Cb{l:List PV}{t:Int}(h0:0<=t)(h1:t<l.length):∃e,cX l t=some e/\e∈l:=by
 have h2:t.toNat<l.length:=by omega
 refine⟨l[t.toNat],?_,Ky h2⟩;have:=bK (xs:=l) (j:=t.toNat) (v:=l[t.toNat]) (by simp);rw[show((t.toNat:Nat):Int)=t by omega]at this;exact this
theorem zp{n m:Bool}{xs ys:List PV}:dO .Add (.frz (.tup xs) n) (.frz (.tup ys) m)=pi (xs++ys) (n&&m):=rfl
section
variable{cd:Nat->List PV->Option PV}{fu:Nat}{τ:En}{e e2:IE}{i:Nat}
noncomputable def augI(i:Nat)(op:Operator)(y:PV)(τ:En):Option Fl:=match τ[i]?,y,op with
  | some (.frz (.int x) _),.int y,.Add=>some (.nx (τ.set i (.frz (.int (x+y)) true)))
  | some (.frz (.int x) _),.int y,.Sub=>some (.nx (τ.set i (.frz (.int (x-y)) true)))
  | _,_,_=>none
theorem FQ{op:Operator}:gA cd fu (.aug i op e) τ=(ac cd e τ).bind fun r=>augI i op r.val τ:=by simp only[ik,iV,iU,iZ,ib,iT,iX,ii,ig,il,ie,ij,ia,iW,iY];rfl
noncomputable def setO(i:Nat)(k v:PV)(m:Bool)(τ:En):Option Fl:=match k,τ[i]? with
  | .int j,some (.own xs n)=>(L2.rN xs.length j).map fun q=>.nx (τ.set i (.own (xs.set q v) (n&&m)))
  | y,some (.owd (.dK ks) xs n)=>(yq y).bind fun k=>if xs.length<LN then some (.nx (τ.set i (.owd (.dK (HP ks k)) (putL ks xs k v) (n&&m))))else none
  | _,_=>none
theorem xH{c:En->Option Bool}{body:En->Option Fl}(I:Nat->En->Prop)(R:Fl->Prop)(hs:∀m τ,I m τ->∃b,c τ=some b/\(b=true->0<m/\∃τ2,body τ=some (.nx τ2)/\I (m-1) τ2)/\(b=false->R (.nx τ))) :
  ∀(k m:Nat)(τ:En),m<k->I m τ->∃fl,AL c body k τ=some fl/\R fl
 | 0,m,τ,h,_=>by omega
 | k+1,m,τ,h,h0=>by
  obtain⟨b,hb,h1,h2⟩:=hs m τ h0;unfold AL;rw[hb];cases b with
  | false=>exact⟨_,rfl,h2 rfl⟩
  | true =>
   obtain⟨hm,τ2,e,h3⟩:=h1 rfl;dsimp only[Option.bind];rw[JS rfl,e];exact xH I R hs k (m-1) τ2 (by omega) h3
theorem whTo{c:IC}{body:wy}{k:En->Option Fl}{Q:Fl->Prop}(I:Nat->En->Prop)(m:Nat)(hm:m<fu)(h0:I m τ)
  (hs:∀m τ,I m τ->∃b,fE cd c τ=some b/\(b=true->0<m/\To (bV cd fu body τ) fun f=>∃τ2,f=.nx τ2/\I (m-1) τ2)/\(b=false->To (k τ) Q)):To ((gA cd fu (.whil c body) τ).bind fun f=>gE f k) Q:=by
 obtain⟨fl,e,h⟩:=xH (c:=fun τ=>fE cd c τ) (body:=fun τ=>bV cd fu body τ) I (fun fl=>To (gE fl k) Q) (fun m τ hI=>by
  obtain⟨b,h1,h2,h3⟩:=hs m τ hI;refine⟨b,h1,fun z=> ?_,h3⟩;obtain⟨hm,f,e,τ2,rfl,h4⟩:=h2 z;exact⟨hm,τ2,e,h4⟩) fu m τ hm h0
 have e2:gA cd fu (.whil c body) τ=some fl:=by simp only[ik,iV,iU,iZ,ib,iT,iX,ii,ig,il,ie,ij,ia,iW,iY];exact e
 rw[e2];exact h
end
theorem CB{xs ys:List PV}:ah .NotEq (.lst xs) (.lst ys)=(if cq 12 (.lst xs)&&cq 12 (.lst ys)then some (lG (.lst xs) (.lst ys))else none).map (!·):=rfl
theorem CF{xs ys:List PV}:ah .Eq (.lst xs) (.lst ys)=if cq 12 (.lst xs)&&cq 12 (.lst ys)then some (lG (.lst xs) (.lst ys))else none:=rfl
theorem at_0{α:Type}{x:α}{xs:List α}:L2.cX (x::xs) 0=some x:=by
 have:=bK (xs:=x::xs) (j:=0) (v:=x) (by simp);exact this
theorem at_1{α:Type}{x y:α}{xs:List α}:L2.cX (x::y::xs) 1=some y:=by
 have:=bK (xs:=x::y::xs) (j:=1) (v:=y) (by simp);exact this
theorem kS(n:Nat)(l:List Int):cq (n+1) (.lst (l.map PV.int))=true:=by
 show(l.map PV.int).all (cq n)=true;rw[Jf];intro x hx;obtain⟨i,_,rfl⟩:=JW.mp hx;cases n<;>rfl
theorem eK{n i:Nat}{x:PV}(h:((List.range n).map fun i=>PV.int (0+(i:Nat)))[i]? =some x):i<n/\x=.int (i:Nat):=by
 rw[Jc]at h
 by_cases hi:i<n
 ·rw[KB hi]at h
  refine⟨hi,?_⟩;have:=(Jl h).symm
  simpa using this
 ·rw[KN (by simpa using hi)]at h
  cases h
theorem jP{n:Nat}:((List.range n).map fun i=>PV.int (0+(i:Nat))).length=n:=by simp
theorem vI{xs:List PV}{i:Nat}{x:PV}(h:(List.zipWith gQ (List.range xs.length) xs)[i]? =some x):∃y,xs[i]? =some y/\x=gQ i y:=by
 rw[K3]at h;cases e:xs[i]? with
 | none=>rw[e]at h;cases hh:(List.range xs.length)[i]? <;>rw[hh]at h<;>cases h
 | some y =>
  rw[e]at h;have hi:i<xs.length:=(JY.mp e).1;rw[KB hi]at h;exact⟨y,rfl,(Jl h).symm⟩
theorem qf{xs:List PV}:(List.zipWith gQ (List.range xs.length) xs).length=xs.length:=by rw[Lj,KO,MC]
theorem BO(c d:Nat):decide ((⟨#[c]⟩:Str)=⟨#[d]⟩)=decide (c=d):=by
 by_cases h:c=d
 ·subst h;simp
 ·rw[Jk h,Jk]
  intro e;have:=Jw (fun z:Str=>z.cps.toList) e;simp at this;exact h this
theorem iE(c:Nat):decide ((⟨#[c]⟩:Str)="x")=(c==120):=by
 have:=BO c 120;rw[show(⟨#[120]⟩:Str)="x" from rfl]at this;rw[this];rfl
theorem Ek{ks:List ae}{vs:List PV}:eR (.dK ks vs)=some ks.length:=rfl
theorem cV{α:Type}{f:PV->Option (Option (PV×Bool))}{h:α->PV}{p:α->Bool}{g:α->PV}:∀{l:List α},(∀x∈l,f (h x)=some (if p x then some (g x,true)else none))->b8 f (l.map h)=some ((l.filter p).map g,true)
 | [],_=>rfl
 | x::xs,k=>by
  rw[JZ];unfold b8;rw[k x JP,cV fun y hy=>k y (JO _ hy)];cases e:p x
  ·simp[Kb,e]
  ·simp[Kb,e]
theorem map_set{L:Nat}{g:Nat->Int}{q:Nat}{v:Int}:((List.range L).map fun k=>PV.int (g k)).set q (.int v)=(List.range L).map fun k=>PV.int (if k=q then v else g k):=by
 refine Lr fun i=> ?_;rw[LR,Jc,Jc,JM,KO]
 by_cases hi:i<L
 ·rw[KB hi]
  by_cases e:q=i
  ·subst e
   simp[hi]
  ·have e' :¬i=q:=fun z=>e z.symm
   simp[e,e']
 ·have:(List.range L)[i]? =none:=KN (by simpa using hi)
  rw[this]
  by_cases e:q=i
  ·subst e
   simp[hi]
  ·simp[e]
theorem Bm{n j:Nat}(h:j<n):L2.rN n (j:Int)=some j:=by
 unfold L2.rN;rw[JS (by omega),JS (by omega)];simp
theorem A2{i:Int}{n j:Nat}{x:PV}(h:((List.range n).map fun k=>PV.int (i+(k:Nat)))[j]? =some x):j<n/\x=.int (i+(j:Nat)):=by
 rw[Jc]at h
 by_cases hj:j<n
 ·rw[KB hj]at h
  exact⟨hj,(Jl h).symm⟩
 ·rw[KN (by simpa using hj)]at h
  cases h
noncomputable abbrev am:=List (Int×Int)
noncomputable def gX(c:am)(k:Int):Option Int:=(c.find? fun p=>decide (p.1=k)).map (·.2)
noncomputable def g0(c:am)(k v:Int):am:=if(c.any fun p=>decide (p.1=k))=true then c.map (fun p=>if p.1=k then(p.1,v)else p)else c++[(k,v)]
noncomputable def wu(c:am)(k n:Int):am:=g0 c k ((gX c k).getD 0+n)
noncomputable def bZ(t n:Int)(c:am)(b:Int):am:=if Builtin.bitAnd t b=0 then wu c (Builtin.bitOr t b) n else c
noncomputable def cN(B:List Int)(c:am)(p:Int×Int):am:=B.foldl (bZ p.1 p.2) c
noncomputable def DQ(B:List Int)(c lev:am):am:=lev.foldl (cN B) c
noncomputable def wl(Ls:List am)(B:List Int):Nat->List am
 | 0=>Ls++[[]]
 | i+1=>(wl Ls B i).set (i+1) (DQ B ((wl Ls B i).getD (i+1) []) (Ls.getD i []))
noncomputable def bH(c:am):List (ae×V):=c.map fun p=>(Sum.inl p.1,V.int p.2)
noncomputable def iz(c:am):PV:=.dK (c.map fun p=>Sum.inl p.1) (c.map fun p=>.int p.2)
noncomputable def oI:List ae->List PV->Option am
 | [],[]=>some []
 | .inl k::ks,.int v::vs=>(oI ks vs).map ((k,v)::·)
 | _,_=>none
noncomputable def unT:PV->Option am
 | .dK ks vs=>oI ks vs
 | _=>none
noncomputable def oo:List PV->Option (List am)
 | []=>some []
 | x::xs=>(unT x).bind fun c=>(oo xs).map (c::·)
noncomputable def bY:List PV->Option PV
 | [.lst ls,.lst bs]=>(oo ls).bind fun Ls=>(aY bs).bind fun B=>if Ls.length<=100/\B.length<=100/\(Ls.all fun c=>decide (c.length<=1000))=true then some (.lst ((wl Ls B Ls.length).map iz))else none
 | _=>none
theorem kK:∀{xs:List PV}{ns:List Int},aY xs=some ns->xs=ns.map PV.int
 | [],ns,h=>by cases h;rfl
 | x::xs,ns,h=>by
  cases x with
  | int c =>
   have h:(aY xs).map (c::·)=some ns:=h;cases e:aY xs with
   | none=>rw[e]at h;cases h
   | some ds =>
    rw[e]at h;cases h;rw[kK e];rfl
  | _=>cases h
theorem fk:∀ns:List Int,aY (ns.map PV.int)=some ns
 | []=>rfl
 | n::ns=>by rw[JZ,aY,fk ns];rfl
theorem oH:∀{ks:List ae}{vs:List PV}{c:am},oI ks vs=some c->ks=c.map (fun p=>Sum.inl p.1)/\vs=c.map (fun p=>.int p.2)
 | [],[],c,h=>by cases h;exact⟨rfl,rfl⟩
 | .inl k::ks,.int v::vs,c,h=>by
  have h:(oI ks vs).map ((k,v)::·)=some c:=h;cases e:oI ks vs with
  | none=>rw[e]at h;cases h
  | some d =>
   rw[e]at h;cases h;obtain⟨h1,h2⟩:=oH e;exact⟨by rw[h1];rfl,by rw[h2];rfl⟩
 | .inr z::ks,vs,c,h=>by cases h
 | [],v::vs,c,h=>by cases h
 | .inl k::ks,[],c,h=>by cases h
 | .inl k::ks,.non::vs,c,h=>by cases h
 | .inl k::ks,.bl _::vs,c,h=>by cases h
 | .inl k::ks,.str _::vs,c,h=>by cases h
 | .inl k::ks,.lst _::vs,c,h=>by cases h
 | .inl k::ks,.tup _::vs,c,h=>by cases h
 | .inl k::ks,.dK _ _::vs,c,h=>by cases h
 | .inl k::ks,.dT _ _::vs,c,h=>by cases h
theorem Ai{v:PV}{c:am}(h:unT v=some c):v=iz c:=by
 cases v with
 | dK ks vs =>
  obtain⟨h1,h2⟩:=oH h;unfold iz;rw[h1,h2]
 | _=>cases h
theorem om:∀{ls:List PV}{Ls:List am},oo ls=some Ls->ls=Ls.map iz
 | [],Ls,h=>by cases h;rfl
 | x::xs,Ls,h=>by
  simp only[oo]at h;cases e:unT x with
  | none=>rw[e]at h;cases h
  | some c =>
   rw[e]at h;simp only[Option.bind]at h;cases e2:oo xs with
   | none=>rw[e2]at h;cases h
   | some r =>
    rw[e2]at h;cases h;rw[Ai e,om e2];rfl
theorem tw:∀c:am,oI (c.map fun p=>Sum.inl p.1) (c.map fun p=>.int p.2)=some c
 | []=>rfl
 | p::c=>by simp only[JZ,oI,tw c];rfl
theorem uC:∀Ls:List am,oo (Ls.map iz)=some Ls
 | []=>rfl
 | c::Ls=>by
  simp only[JZ,oo,uC Ls];show(oI _ _).bind _=_;rw[tw];rfl
theorem B6(c:am)(k:Int):eA (bH c) (Sum.inl k)=(gX c k).map V.int:=by
 unfold eA bH gX
 induction c with
 | nil=>rfl
 | cons p c ih =>
  rw[JZ,Ka,Ka]
  by_cases e:p.1=k
  ·simp[e]
  ·have e' :¬((Sum.inl p.1:ae)=Sum.inl k):=fun z=>e (Sum.inl.inj z)
   simp only[e,e',decide_false];exact ih
theorem B5(c:am)(k v:Int):ci (bH c) (Sum.inl k) (V.int v)=bH (g0 c k v):=by
 unfold ci g0;have e1:((bH c).any fun kv=>decide (kv.1=Sum.inl k))=(c.any fun p=>decide (p.1=k)):=by
  unfold bH;rw[List.any_map]
  congr 1
  funext p
  simp
 rw[e1]
 split
 ·unfold bH
  rw[Jq,Jq];refine KI fun p _=> ?_
  by_cases e:p.1=k
  ·simp[e]
  ·simp[e]
 ·unfold bH
  rw[Ji];rfl
theorem xw(c:am)(k v:Int):(g0 c k v).length<=c.length+1:=by
 unfold g0
 split
 ·rw[JM];omega
 ·rw[Jj];simp
theorem vt(t n:Int)(c:am)(b:Int):(bZ t n c b).length<=c.length+1:=by
 unfold bZ
 split
 ·exact xw _ _ _
 ·omega
theorem iA(t n:Int):∀(B:List Int)(c:am),(B.foldl (bZ t n) c).length<=c.length+B.length
 | [],c=>by simp
 | b::B,c=>by
  rw[Kr];have h1:=iA t n B (bZ t n c b);have h2:=vt t n c b;rw[Jh];omega
theorem mP(B:List Int):∀(lev c:am),(lev.foldl (cN B) c).length<=c.length+lev.length*B.length
 | [],c=>by simp
 | p::lev,c=>by
  rw[Kr];have h1:=mP B lev (cN B c p);have h2:(cN B c p).length<=c.length+B.length:=iA p.1 p.2 B c;rw[Jh,Nat.succ_mul];omega
theorem jY(Ls:List am)(B:List Int):∀i,(wl Ls B i).length=Ls.length+1
 | 0=>by simp[wl]
 | i+1=>by rw[wl,Kg];exact jY Ls B i
theorem vK(c:am)(us:List V)(h:us=c.map fun p=>V.int p.2):(c.map fun p=>(Sum.inl p.1:ae)).zip us=bH c:=by
 subst h;unfold bH
 induction c with
 | nil=>rfl
 | cons p c ih=>rw[JZ,JZ,MG,ih,JZ]
theorem pG{K:W.Frag}{Hi:Hp}{n:Bool}{H:Hp}(c:am){us:List V}:aH K Hi n (c.map fun p=>PV.int p.2) H us↔us=c.map fun p=>V.int p.2:=by
 have e1:(c.map fun p=>PV.int p.2)=(c.map (·.2)).map PV.int:=by rw[Jq];rfl
 have e2:(c.map fun p=>V.int p.2)=(c.map (·.2)).map V.int:=by rw[Jq];rfl
 rw[e1,e2];exact aH.ints
theorem Dr{K:W.Frag}{Hi:Hp}{n:Bool}{c:am}{H:Hp}{u:V}(h:Rp K Hi n (iz c) H u):∃p,u=.ref p/\H p=some (.dK (bH c)):=by
 unfold iz Rp at h;obtain⟨p,us,rfl,_,hp,hl,r⟩:=h;rw[vK c us ((pG c).mp r)]at hp;exact⟨p,rfl,hp⟩
theorem vz{K:W.Frag}{Hi:Hp}{c:am}{H:Hp}{p:Addr}(h0:Hi p=none)(h:H p=some (.dK (bH c))):Rp K Hi true (iz c) H (.ref p):=by
 unfold iz Rp;refine⟨p,c.map fun p=>V.int p.2,rfl,fun _=>h0,by rw[vK c _ rfl];exact h,by simp,(pG c).mpr rfl⟩
noncomputable def rP(H0:Hp)(A:Addr)(ds:List Addr)(cs:List am)(H:Hp):Prop :=
 aD H0 H/\H0 A=none/\H A=some (.lst (ds.map V.ref))/\A∉ds/\ds.Nodup/\ds.length=cs.length/\∀(q:Nat)(d:Addr)(c:am),ds[q]? =some d->cs[q]? =some c->H0 d=none/\H d=some (.dK (bH c))
theorem rP.ext{H0:Hp}{A:Addr}{ds:List Addr}{cs:List am}{H H' :Hp}(h:rP H0 A ds cs H)(s:aD H H'):rP H0 A ds cs H' :=by
 obtain⟨h1,h2,h3,h4,h5,h6,h7⟩:=h;exact⟨h1.trans s,h2,s _ _ h3,h4,h5,h6,fun q d c e1 e2=>⟨(h7 q d c e1 e2).1,s _ _ (h7 q d c e1 e2).2⟩⟩
theorem rP.put{H0:Hp}{A:Addr}{ds:List Addr}{cs:List am}{H:Hp}{q:Nat}{d:Addr}{c' :am}(h:rP H0 A ds cs H)(hd:ds[q]? =some d):rP H0 A ds (cs.set q c') (L2.upd H d (.dK (bH c'))):=by
 obtain⟨h1,h2,h3,h4,h5,h6,h7⟩:=h;have hq:q<ds.length:=(JY.mp hd).1;have hc:cs[q]? =some (cs[q]'(by omega)):=by simp[show q<cs.length by omega]
 obtain⟨n0,n1⟩:=h7 q d _ hd hc;have hA:A≠d:=fun z=>h4 (z▸Jn hd);refine⟨fun b o e=>by rw[aB (aE e n0)];exact h1 b o e,h2,by rw[aB hA];exact h3,h4,h5,by rw[Kg];exact h6,fun q' d' c e1 e2=> ?_⟩;rw[LR]at e2
 by_cases e:q=q'
 ·subst e
  rw[hd]at e1;cases e1;rw[JS rfl,JS (by omega)]at e2;cases e2;exact⟨n0,aC⟩
 ·rw[JR e]at e2
  obtain⟨m0,m1⟩:=h7 q' d' c e1 e2;refine⟨m0,?_⟩;rw[aB fun z=>e ?_]
  ·exact m1
  ·subst z
   have:=(List.getElem?_inj (i:=q') (j:=q) (JY.mp e1).1 h5).mp (by rw[e1,hd]);exact this.symm
theorem rP.at{H0:Hp}{A:Addr}{ds:List Addr}{cs:List am}{H:Hp}{q:Nat}{d:Addr}{c:am}(h:rP H0 A ds cs H)(hd:ds[q]? =some d)(hc:cs[q]? =some c):H0 d=none/\H d=some (.dK (bH c)):=h.2.2.2.2.2.2 q d c hd hc
theorem rP.push{H0:Hp}{A:Addr}{ds:List Addr}{cs:List am}{H:Hp}{p:Addr}{c:am}(h:rP H0 A ds cs H)(hp:H p=none):rP H0 A (ds++[p]) (cs++[c]) (L2.upd (L2.upd H p (.dK (bH c))) A (.lst (ds.map V.ref++[.ref p]))):=by
 obtain⟨h1,h2,h3,h4,h5,h6,h7⟩:=h;have hA:A≠p:=fun z=>by rw[z,hp]at h3;cases h3
 have hpd:p∉ds:=fun z=>by
  obtain⟨q,hq,e⟩:=List.mem_iff_getElem.mp z;obtain⟨_,m1⟩:=h7 q p (cs[q]'(by omega)) (by rw[Ja hq,e]) (by simp[show q<cs.length by omega]);rw[hp]at m1;cases m1
 refine⟨fun b o e=> ?_,h2,?_,?_,?_,by simp[h6],fun q d c' e1 e2=> ?_⟩
 ·rw[aB (aE e h2),aB (aE e (h1.free hp))]
  exact h1 b o e
 ·rw[aC,Ji]
  rfl
 ·intro z
  rcases J0.mp z with z|z
  ·exact h4 z
  ·exact hA (by simpa using z)
 ·rw[KU]
  exact⟨h5,by simp,fun a ha b hb e=>by
   have:b=p:=by simpa using hb
   rw[this]at e;exact hpd (e▸ha)⟩
 ·by_cases hq:q<ds.length
  ·rw[K5 hq]at e1
   rw[K5 (by omega)]at e2;obtain⟨m0,m1⟩:=h7 q d c' e1 e2;have d1:d≠A:=fun z=>h4 (z▸Jn e1);have d2:d≠p:=fun z=>hpd (z▸Jn e1);exact⟨m0,by rw[aB d1,aB d2];exact m1⟩
  ·rw[LY (by omega)]at e1
   rw[LY (by omega)]at e2;have q0:q-ds.length=0:=by
    cases e:q-ds.length with
    | zero=>rfl
    | succ m=>rw[e]at e1;simp at e1
   rw[q0]at e1;rw[show q-cs.length=0 by omega]at e2;have e1' :p=d:=by simpa using e1
   have e2' :c=c' :=by simpa using e2
   subst e1' e2';exact⟨h1.free hp,by rw[aB (Kc hA),aC]⟩
theorem vy{H:Hp}{p a:Addr}{o:HO}{u:HO}(hp:H p=none)(ha:p≠a):aD (L2.upd H a u) (L2.upd (L2.upd H p o) a u):=fun b x e=>by
 by_cases hb:b=a
 ·subst hb
  rw[aC]at e ⊢;exact e
 ·rw[aB hb]at e ⊢
  rw[aB (aE e hp)];exact e
theorem uG{K:W.Frag}{H:Hp}{a b:Addr}{kvs:List (ae×V)}{xs:List V}(h:bG K (L2.upd H a (.dK kvs)) b xs):bG K H b xs:=by
 have key:∀u,L2.upd H a (.dK kvs) b=some u->(∀k,u≠.dK k)->H b=some u:=fun u e n=>by
  by_cases hb:b=a
  ·subst hb
   rw[aC]at e;exact absurd (Jl e).symm (n _)
  ·rw[aB hb]at e
   exact e
 rcases h with(h|⟨o,h⟩)|h
 ·exact .inl (.inl (key _ h fun k z=>by cases z))
 ·exact .inl (.inr ⟨o,key _ h fun k z=>by cases z⟩)
 ·exact .inr h
theorem B7{c:am}{j:Nat}{k:ae}{x:V}(h:(bH c)[j]? =some (k,x)):∃t n,c[j]? =some (t,n)/\k=.inl t/\x=.int n:=by
 unfold bH at h;rw[Jc]at h;cases e:c[j]? with
 | none=>rw[e]at h;cases h
 | some p =>
  rw[e]at h;have:=Jl h;cases this;exact⟨p.1,p.2,rfl,rfl,rfl⟩
theorem qh(c:am):(bH c).length=c.length:=by unfold bH;rw[JM]
theorem Cs(Ls:List am)(B:List Int):∀(i j:Nat),i<j->(wl Ls B i)[j]? =(Ls++[[]])[j]?
 | 0,j,h=>rfl
 | i+1,j,h=>by
  rw[wl,KF (by omega)];exact Cs Ls B i j (by omega)
theorem xK{H:Hp}{a b:Addr}{x y:HO}(h:a≠b):L2.upd (L2.upd H a x) b y=L2.upd (L2.upd H b y) a x:=by
 funext c
 unfold L2.upd
 by_cases h1:c=a
 ·subst h1
  rw[JR h,JS rfl,JS rfl]
 ·by_cases h2:c=b
  ·subst h2
   rw[JS rfl,JR h1,JS rfl]
  ·rw[JR h2,JR h1,JR h1,JR h2]
theorem pF{K:W.Frag}{Hi:Hp}{H:Hp}:∀{cs:List am}{ds:List Addr},ds.length=cs.length->(∀(q:Nat)(d:Addr)(c:am),ds[q]? =some d->cs[q]? =some c->Hi d=none/\H d=some (.dK (bH c)))->aH K Hi true (cs.map iz) H (ds.map V.ref)
 | [],[],_,_=>.nil
 | c::cs,d::ds,hl,h=>by
  obtain⟨h0,h1⟩:=h 0 d c rfl rfl;exact .cons (vz h0 h1) (pF (by simpa using hl) fun q d' c' e1 e2=>h (q+1) d' c' (by simpa using e1) (by simpa using e2))
 | [],_::_,hl,_=>by cases hl
 | _::_,[],hl,_=>by cases hl
section
variable{X:Cx}{Hi:Hp}{τ:En}{cd:Nat->List PV->Option PV}{ct:Ct}{O:List Addr}{σ:L2.St}{H H' :Hp}{D:cG}
theorem jx{α:Type}{l:List α}{i j:Nat}{x:α}(h:l.Nodup)(hi:l[i]? =some x)(hj:l[j]? =some x):i=j:=by
 obtain⟨a,b⟩:=JY.mp hi;obtain⟨c,d⟩:=JY.mp hj;exact(List.getElem_inj h).mp (b.trans d.symm)
end
end IR
namespace IR
open PySem
theorem rG(a b:Nat):Builtin.bitAnd (a:Int) (b:Int)=((a &&& b:Nat):Int):=by
 unfold Builtin.bitAnd;have h1:decide ((0:Int)<=(a:Int))=true:=by simp
 have h2:decide ((0:Int)<=(b:Int))=true:=by simp
 rw[h1,h2];simp
theorem rB(a:Nat):Builtin.bitNot (a:Int)= -(a:Int)-1:=by unfold Builtin.bitNot;omega
theorem vS(a b:Nat):Builtin.bitOr (a:Int) (b:Int)=((a ||| b:Nat):Int):=by
 unfold Builtin.bitOr Builtin.bitAnd;rw[rB,rB];have h1:decide ((0:Int)<= -(a:Int)-1)=false:=by simp;omega
 have h2:decide ((0:Int)<= -(b:Int)-1)=false:=by simp;omega
 rw[h1,h2];dsimp only;have e1:(Builtin.bitNot (-(a:Int)-1)).toNat=a:=by unfold Builtin.bitNot;omega
 have e2:(Builtin.bitNot (-(b:Int)-1)).toNat=b:=by unfold Builtin.bitNot;omega
 rw[e1,e2];unfold Builtin.bitNot;omega
theorem cc:∀(n:Nat)(l:List Nat),l.Nodup->(∀x∈l,x<n)->l.length<=n
 | 0,l,_,h=>by
  cases l with
  | nil=>simp
  | cons x l=>exact absurd (h x JP) (by omega)
 | n+1,l,nd,h=>by
  by_cases hn:n∈l
  ·have h1:=cc n (l.erase n) (nd.erase n) fun x hx=>by
    have:=(nd.mem_erase_iff).mp hx;have:=h x this.2;omega
   rw[List.length_erase_of_mem hn]at h1;omega
  ·have:=cc n l nd fun x hx=>by
    have h2:=h x hx;have:x≠n:=fun z=>hn (z▸hx);omega
   omega
noncomputable def bB(c:am):Prop:=(c.map (·.1)).Nodup/\∀p∈c,(∃n:Nat,p.1=(n:Int)/\n<256)/\0<p.2
theorem bB.len{c:am}(h:bB c):c.length<=256:=by
 have nd:((c.map (·.1)).map Int.toNat).Nodup:=by
  rw[List.nodup_iff_pairwise_ne,LB];refine(List.nodup_iff_pairwise_ne.mp h.1).imp_of_mem fun{a b} ha hb hne e=>hne ?_;obtain⟨p,hp,rfl⟩:=JW.mp ha;obtain⟨q,hq,rfl⟩:=JW.mp hb;obtain⟨⟨m,em,_⟩,_⟩:=h.2 p hp;obtain⟨⟨n,en,_⟩,_⟩:=h.2 q hq;rw[em,en]at e ⊢;omega
 have:=cc 256 _ nd fun x hx=>by
  obtain⟨y,hy,rfl⟩:=JW.mp hx;obtain⟨p,hp,rfl⟩:=JW.mp hy;obtain⟨⟨m,em,hm⟩,_⟩:=h.2 p hp;rw[em];omega
 simpa using this
noncomputable def cW(φ:Int->Int):am->Int
 | []=>0
 | p::c=>p.2*φ p.1+cW φ c
theorem tz(φ:Int->Int):∀c d:am,cW φ (c++d)=cW φ c+cW φ d
 | [],d=>by simp[cW]
 | p::c,d=>by rw[List.cons_append,cW,cW,tz φ c d];omega
theorem vT{c:am}{k:Int}:(c.any fun p=>decide (p.1=k))=true↔k∈c.map (·.1):=by
 rw[List.any_eq_true,JW]
 constructor
 ·rintro⟨p,hp,e⟩
  exact⟨p,hp,Jr e⟩
 ·rintro⟨p,hp,e⟩
  exact⟨p,hp,Jo e⟩
theorem A4{c:am}{k v:Int}(h:k∉c.map (·.1)):c.map (fun p=>if p.1=k then(p.1,v)else p)=c:=by
 induction c with
 | nil=>rfl
 | cons p c ih =>
  rw[JZ]at h ⊢;have h1:¬p.1=k:=fun z=>h (by rw[z];exact JP);rw[JR h1,ih fun z=>h (JO _ z)]
theorem vD{c:am}{k:Int}(h:k∈c.map (·.1)):∃v,gX c k=some v/\(k,v)∈c:=by
 unfold gX
 induction c with
 | nil=>cases h
 | cons p c ih =>
  rw[Ka]
  by_cases e:p.1=k
  ·refine⟨p.2,by simp[e],?_⟩
   subst e;exact JP
  ·have h' :k∈c.map (·.1):=by
    rw[JZ]at h
    rcases Jg.mp h with z|z
    ·exact absurd z.symm e
    ·exact z
   obtain⟨v,hv,hm⟩:=ih h';refine⟨v,?_,JO _ hm⟩;simp only[e,decide_false];exact hv
theorem qP{c:am}{k:Int}(h:k∉c.map (·.1)):gX c k=none:=by
 unfold gX;rw[List.find?_eq_none.mpr]
 ·rfl
 ·intro p hp e
  exact h (JW.mpr ⟨p,hp,Jr e⟩)
theorem oZ(φ:Int->Int){k v w:Int}:∀{c:am},(c.map (·.1)).Nodup->gX c k=some v->cW φ (c.map (fun p=>if p.1=k then(p.1,w)else p))=cW φ c+(w-v)*φ k
 | [],_,h=>by cases h
 | p::c,nd,h=>by
  rw[JZ]at nd ⊢;have nd2:=Jt.mp nd
  by_cases e:p.1=k
  ·subst e
   rw[JS rfl,A4 nd2.1];have hv:v=p.2:=by
    unfold gX at h;rw[Ka]at h;simp at h;exact h.symm
   subst hv;rw[cW,cW,Int.sub_mul];dsimp only;omega
  ·have h' :gX c k=some v:=by
    unfold gX at h ⊢;rw[Ka]at h;simp only[e,decide_false]at h;exact h
   rw[JR e,cW,cW,oZ φ nd2.2 h'];omega
theorem uR{c:am}{k v:Int}(h:k∈c.map (·.1)):g0 c k v=c.map (fun p=>if p.1=k then(p.1,v)else p):=by
 unfold g0;rw[JS (vT.mpr h)]
theorem pM{c:am}{k v:Int}(h:k∉c.map (·.1)):g0 c k v=c++[(k,v)]:=by
 unfold g0;rw[JR fun z=>h (vT.mp z)]
theorem Ck(φ:Int->Int){c:am}(nd:(c.map (·.1)).Nodup)(k n:Int):cW φ (wu c k n)=cW φ c+n*φ k:=by
 unfold wu
 by_cases h:k∈c.map (·.1)
 ·obtain⟨v,hv,_⟩:=vD h
  rw[uR h,hv,oZ φ nd hv]
  congr 2
  simp;omega
 ·rw[pM h,qP h,tz]
  simp[cW]
theorem wq{c:am}(h:bB c){m:Nat}(hm:m<256){n:Int}(hn:0<n):bB (wu c (m:Int) n):=by
 unfold wu
 by_cases hk:((m:Int))∈c.map (·.1)
 ·obtain⟨v,hv,hmem⟩:=vD hk
  rw[uR hk,hv];have e:(c.map (fun p=>if p.1=(m:Int)then(p.1,(some v).getD 0+n)else p)).map (·.1)=c.map (·.1):=by
   rw[Jq];refine KI fun p _=> ?_;dsimp only[Function.comp]
   split<;>rfl
  refine⟨by rw[e];exact h.1,fun p hp=> ?_⟩;obtain⟨p0,hp0,rfl⟩:=JW.mp hp;obtain⟨h1,h2⟩:=h.2 p0 hp0
  split
  ·refine⟨h1,?_⟩
   have:=(h.2 _ hmem).2;show 0<v+n;omega
  ·exact⟨h1,h2⟩
 ·rw[pM hk,qP hk]
  refine⟨?_,fun p hp=> ?_⟩
  ·rw[Ji,KU]
   refine⟨h.1,by simp,fun a ha b hb e=> ?_⟩;have hb:b=(m:Int):=by simpa using hb
   rw[hb]at e;rw[e]at ha;exact hk ha
  ·rcases J0.mp hp with z|z
   ·exact h.2 p z
   ·have:p=((m:Int),none.getD 0+n):=by simpa using z
    rw[this];exact⟨⟨m,rfl,hm⟩,by show 0<0+n;omega⟩
noncomputable def lF(B:List Int):Prop:=∀b∈B,∃n:Nat,b=((2^n:Nat):Int)/\n<8
theorem HX{a b:Nat}(ha:a<256)(hb:b<256):a ||| b<256:=Nat.or_lt_two_pow (n:=8) ha hb
theorem jj{c:am}(h:bB c){t:Nat}(ht:t<256){n:Int}(hn:0<n){j:Nat}(hj:j<8):bB (bZ (t:Int) n c ((2^j:Nat):Int)):=by
 unfold bZ
 split
 ·rw[vS]
  exact wq h (HX ht (Nat.pow_lt_pow_right (by decide) (show j<8 from hj))) hn
 ·exact h
theorem fo{t:Nat}(ht:t<256){n:Int}(hn:0<n):∀{B:List Int}{c:am},lF B->bB c->bB (B.foldl (bZ (t:Int) n) c)
 | [],c,_,h=>h
 | b::B,c,hB,h=>by
  obtain⟨j,rfl,hj⟩:=hB b JP;exact fo (B:=B) ht hn (fun b hb=>hB b (JO _ hb)) (jj h ht hn hj)
theorem oj{B:List Int}(hB:lF B):∀{lev c:am},bB lev->bB c->bB (DQ B c lev)
 | [],c,_,h=>h
 | p::lev,c,hl,h=>by
  obtain⟨⟨t,et,ht⟩,hp⟩:=hl.2 p JP;have h1:bB (cN B c p):=by
   unfold cN;rw[et];exact fo ht hp hB h
  exact oj (lev:=lev) hB ⟨(Jt.mp (show(p.1::lev.map (·.1)).Nodup from hl.1)).2,fun q hq=>hl.2 q (JO _ hq)⟩ h1
theorem gW:bB []:=⟨by simp,fun p hp=>by cases hp⟩
theorem mi{Ls:List am}{B:List Int}(hB:lF B)(h:∀c∈Ls,bB c):∀i,∀c∈wl Ls B i,bB c
 | 0,c,hc=>by
  rcases J0.mp hc with z|z
  ·exact h c z
  ·have:c=[]:=by simpa using z
   rw[this];exact gW
 | i+1,c,hc=>by
  rw[wl]at hc;have ih:=mi hB h i
  rcases List.mem_or_eq_of_mem_set hc with z|z
  ·exact ih c z
  ·rw[z]
   refine oj hB ?_ ?_
   ·rw[JX]
    cases e:Ls[i]? with
    | none=>exact gW
    | some d=>exact h d (Jn e)
   ·rw[JX]
    cases e:(wl Ls B i)[i+1]? with
    | none=>exact gW
    | some d=>exact ih d (Jn e)
theorem cU{α:Type}{P:List α->Prop}(h0:P [])(hs:∀l x,P l->P (l++[x])):∀l,P l:=by
 intro l;have:∀r:List α,P r.reverse:=by
  intro r
  induction r with
  | nil=>exact h0
  | cons x r ih=>rw[List.reverse_cons];exact hs _ _ ih
 have:=this l.reverse
 rwa [List.reverse_reverse]at this
noncomputable def bI{α:Type}(l:List α)(f:α->Int):Int:=(l.map f).sum
theorem aT{α:Type}(x:α)(l:List α)(f:α->Int):bI (x::l) f=f x+bI l f:=by unfold bI;rw[JZ,List.sum_cons]
theorem bx{α:Type}(f:α->Int):bI ([]:List α) f=0:=rfl
theorem ax{α:Type}{l:List α}{f g:α->Int}(h:∀x∈l,f x=g x):bI l f=bI l g:=by unfold bI;rw[KI h]
noncomputable def cnt:List (List Nat)->List Nat->Nat->Int
 | [],_,0=>1
 | [],_,_+1=>0
 | _::rs,T,0=>cnt rs T 0
 | r::rs,T,k+1=>cnt rs T (k+1)+bI (r.filter fun c=> !T.contains c) fun c=>cnt rs (c::T) k
theorem ak:∀(rs:List (List Nat))(T:List Nat),cnt rs T 0=1
 | [],_=>rfl
 | _::rs,T=>by rw[cnt];exact ak rs T
theorem bv:∀(rs:List (List Nat)){T T' :List Nat}(k:Nat),(∀r∈rs,∀c∈r,T.contains c=T'.contains c)->cnt rs T k=cnt rs T' k
 | [],_,_,0,_=>rfl
 | [],_,_,_+1,_=>rfl
 | _::rs,T,T',0,h=>by rw[cnt,cnt];exact bv rs 0 fun r hr=>h r (JO _ hr)
 | r::rs,T,T',k+1,h=>by
  rw[cnt,cnt,bv rs (k+1) fun r hr=>h r (JO _ hr)];have e:(r.filter fun c=> !T.contains c)=r.filter fun c=> !T'.contains c:=MK fun c hc=>by rw[h r JP c hc]
  rw[e];refine Jw (_+·) (ax fun c _=>bv rs k fun r' hr' d hd=> ?_);rw[LO,LO,h r' (JO _ hr') d hd]
theorem uA(φ χ:Int->Int):∀c:am,cW (fun m=>φ m+χ m) c=cW φ c+cW χ c
 | []=>by simp[cW]
 | p::c=>by rw[cW,cW,cW,uA φ χ c,Int.mul_add];omega
theorem gu{φ χ:Int->Int}:∀{c:am},(∀p∈c,φ p.1=χ p.1)->cW φ c=cW χ c
 | [],_=>rfl
 | p::c,h=>by rw[cW,cW,h p JP,gu fun q hq=>h q (JO _ hq)]
noncomputable def Sb(B:List Int)(φ:Int->Int)(m:Int):Int:=bI B fun b=>if Builtin.bitAnd m b=0 then φ (Builtin.bitOr m b)else 0
theorem mQ(φ:Int->Int){t:Nat}(ht:t<256){n:Int}(hn:0<n):∀{B:List Int}{c:am},lF B->bB c->cW φ (B.foldl (bZ (t:Int) n) c)=cW φ c+n*Sb B φ (t:Int)
 | [],c,_,_=>by
  rw[List.foldl_nil];unfold Sb;rw[bx];omega
 | b::B,c,hB,h=>by
  obtain⟨j,rfl,hj⟩:=hB b JP;rw[Kr,mQ φ ht hn (B:=B) (fun b hb=>hB b (JO _ hb)) (jj h ht hn hj)];have e:cW φ (bZ (t:Int) n c ((2^j:Nat):Int))=cW φ c+n*(if Builtin.bitAnd (t:Int) ((2^j:Nat):Int)=0 then φ (Builtin.bitOr (t:Int) ((2^j:Nat):Int))else 0):=by
   unfold bZ
   split
   ·rw[Ck φ h.1]
   ·simp
  rw[e];unfold Sb;rw[aT,Int.mul_add];omega
theorem uB(φ:Int->Int){B:List Int}(hB:lF B):∀{lev c:am},bB lev->bB c->cW φ (DQ B c lev)=cW φ c+cW (Sb B φ) lev
 | [],c,_,_=>by simp[DQ,cW]
 | p::lev,c,hl,h=>by
  obtain⟨⟨t,et,ht⟩,hp⟩:=hl.2 p JP;have hl2:bB lev:=⟨(Jt.mp (show(p.1::lev.map (·.1)).Nodup from hl.1)).2,fun q hq=>hl.2 q (JO _ hq)⟩;have h1:bB (cN B c p):=by
   unfold cN;rw[et];exact fo ht hp hB h
  have e:DQ B c (p::lev)=DQ B (cN B c p) lev:=rfl;rw[e,uB φ hB hl2 h1,cW];have e2:cW φ (cN B c p)=cW φ c+p.2*Sb B φ p.1:=by
   unfold cN;rw[et];exact mQ φ ht hp hB h
  rw[e2];omega
theorem rQ(Ls:List am)(B:List Int):∀(i j:Nat),i<=Ls.length->(wl Ls B i)[j]? =if j=0\/i<j then(Ls++[[]])[j]? else some (DQ B ((Ls++[[]]).getD j []) (Ls.getD (j-1) []))
 | 0,j,_=>by
  rw[wl]
  by_cases h:j=0\/0<j
  ·rw[JS h]
  ·omega
 | i+1,j,hi=>by
  rw[wl,LR,jY]
  by_cases h:i+1=j
  ·subst h
   rw[JS rfl,JS (by omega),JR (by omega),JX,rQ Ls B i (i+1) (by omega),JS (.inr (by omega)),<-JX];rfl
  ·rw[JR h,rQ Ls B i j (by omega)]
   by_cases h2:j=0\/i<j
   ·rw[JS h2,JS (by omega)]
   ·rw[JR h2,JR (by omega)]
noncomputable def kd(m:Nat):List Nat:=(List.range 8).filter fun c=>m.testBit c
theorem fG{m c:Nat}(hc:c<8):(kd m).contains c=m.testBit c:=by
 unfold kd;rw[J8,KH,J7,Ju];exact⟨fun h=>h.2,fun h=>⟨hc,h⟩⟩
theorem Ch(m c:Nat):(m &&& 2^c=0)↔m.testBit c=false:=by
 constructor
 ·intro h
  have:=Jw (fun x=>Nat.testBit x c) h
  simpa [Nat.testBit_and,Nat.testBit_two_pow_self]using this
 ·intro h
  refine Nat.eq_of_testBit_eq fun i=> ?_;rw[Nat.testBit_and,Nat.zero_testBit,Nat.testBit_two_pow]
  by_cases e:c=i
  ·subst e
   simp[h]
  ·simp[e]
noncomputable def jB(r:List Nat):List Int:=r.map fun c=>((2^c:Nat):Int)
theorem ku{r:List Nat}(h:∀c∈r,c<8):lF (jB r):=fun b hb=>by
 obtain⟨c,hc,rfl⟩:=JW.mp hb;exact⟨c,rfl,h c hc⟩
noncomputable def iS(rows:List (List Nat)):Prop:=∀r∈rows,∀c∈r,c<8
theorem oa:∀c:am,cW (fun _=>0) c=0
 | []=>rfl
 | p::c=>by rw[cW,oa c];omega
noncomputable abbrev be:=Nat×Nat
noncomputable def Fx(cells:List be)(k:Nat):List be:=(cells.drop (k+1)).filter fun c=>decide ((cells.getD k (0,0)).1<c.1)
noncomputable def pl:Nat->List be->List Int->Nat->Int
 | _,_,_,0=>1
 | 0,_,_,_+1=>0
 | n+1,cells,T,j+1=>bI (List.range cells.length) fun k=>if T.contains ((cells.getD k (0,0)).2:Int)then 0 else pl n (Fx cells k) (T++[((cells.getD k (0,0)).2:Int)]) j
noncomputable def iw(i:Nat)(r:List Nat):List be:=r.map fun c=>(i,c)
noncomputable def dw:Nat->List (List Nat)->List be
 | _,[]=>[]
 | i,r::rs=>iw i r++dw (i+1) rs
theorem kj:∀(i:Nat)(rs:List (List Nat)),∀c∈dw i rs,i<=c.1/\c.1<i+rs.length
 | i,[],c,h=>by cases h
 | i,r::rs,c,h=>by
  rcases J0.mp h with z|z
  ·obtain⟨x,_,rfl⟩:=JW.mp z
   exact⟨JV _,by rw[Jh];omega⟩
  ·have:=kj (i+1) rs c z
   rw[Jh];omega
theorem qZ{l:List be}{p:be->Bool}(h:∀c∈l,p c=false):l.filter p=[]:=List.filter_eq_nil_iff.mpr fun c hc=>by rw[h c hc];exact JT
noncomputable def cx(xs:List Int):List Int:=(xs.reverse.dropWhile fun x=>decide (x=0)).reverse
theorem fT(xs:List Int):cx (xs++[0])=cx xs:=by
 unfold cx;rw[List.reverse_append];simp
theorem fU(xs:List Int){y:Int}(h:y≠0):cx (xs++[y])=xs++[y]:=by
 unfold cx;rw[List.reverse_append];simp[h]
noncomputable def aV(z:Str):List Nat:=(List.range z.length).filter fun c=>z.cps.toList.getD c 0==120
noncomputable def bo(rows:List Str):List be:=dw 0 (rows.map aV)
noncomputable def att(a b:be):Bool:=a.1==b.1||a.2==b.2
noncomputable def AO(x:be)(l:List be):List be:=l.filter fun y=> !att x y
noncomputable def Gv(f:be->List be->Int):List be->Int
 | []=>0
 | x::xs=>f x xs+Gv f xs
noncomputable def rk:Nat->List be->Int
 | 0=>fun _=>1
 | k+1=>Gv fun x xs=>rk k (AO x xs)
theorem nC(l:List be):rk 0 l=1:=rfl
theorem sI(k:Nat):rk (k+1) []=0:=rfl
theorem gI(k:Nat)(x:be)(xs:List be):rk (k+1) (x::xs)=rk (k+1) xs+rk k (AO x xs):=by
 show rk k (AO x xs)+rk (k+1) xs=_;omega
theorem xj(k i:Nat)(aN:List be)(hrest:∀c∈aN,i<c.1):∀r:List Nat,rk (k+1) (iw i r++aN)=rk (k+1) aN+bI r fun c=>rk k (aN.filter fun y=> !(c==y.2))
 | []=>by
  show rk (k+1) aN=_;rw[bx];omega
 | c::r=>by
  show rk (k+1) ((i,c)::(iw i r++aN))=_;rw[gI,xj k i aN hrest r,aT];have e:AO (i,c) (iw i r++aN)=aN.filter fun y=> !(c==y.2):=by
   unfold AO;rw[K1,qZ (l:=iw i r) fun y hy=> ?_,List.nil_append]
   ·refine MK fun y hy=> ?_
    have:=hrest y hy;unfold att;have h1:(i==y.1)=false:=by simp;omega
    show(!((i==y.1)||(c==y.2)))=_;rw[h1,Bool.false_or]
   ·obtain⟨d,_,rfl⟩:=JW.mp hy
    simp[att]
  rw[e];omega
noncomputable def freeC(T:List Nat)(l:List be):List be:=l.filter fun c=> !T.contains c.2
theorem jp:∀(rs:List (List Nat))(k i:Nat)(T:List Nat),rk k (freeC T (dw i rs))=cnt rs T k
 | rs,0,i,T=>by rw[nC,ak]
 | [],k+1,i,T=>by rw[cnt];rfl
 | r::rs,k+1,i,T=>by
  have e:freeC T (dw i (r::rs))=iw i (r.filter fun c=> !T.contains c)++freeC T (dw (i+1) rs):=by
   unfold freeC;rw[dw,K1]
   congr 1
   unfold iw;rw[List.filter_map];rfl
  rw[e,xj k i _ (fun c hc=>by have:=(kj (i+1) rs c (J7.mp hc).1).1;omega),jp rs (k+1) (i+1) T,cnt];refine Jw (_+·) (ax fun c _=> ?_);rw[<- jp rs k (i+1) (c::T)]
  congr 1
  unfold freeC;rw[List.filter_filter];refine MK fun y _=> ?_;rw[LO,Bool.not_or]
  congr 1
  rw[J8];simp only[LD,Ks,ne_eq];exact⟨fun h z=>h z.symm,fun h z=>h z.symm⟩
theorem hZ(l:List be):freeC [] l=l:=by
 unfold freeC;exact List.filter_eq_self.mpr fun c _=>rfl
noncomputable def sF(l:List be):List Int:=((List.range 65).map fun k=>rk k l).filter fun n=>decide (0<n)
end IR
namespace IR
open PySem L2
theorem dE:∀(k:Nat)(l:List be),0<=rk k l
 | 0,l=>by rw[nC];omega
 | k+1,[]=>by rw[sI];omega
 | k+1,x::xs=>by
  rw[gI];have h1:=dE (k+1) xs;have h2:=dE k (AO x xs);omega
theorem nE:∀(k:Nat)(l:List be),0<rk (k+1) l->0<rk k l
 | 0,l,_=>by rw[nC];omega
 | k+1,[],h=>by rw[sI]at h;omega
 | k+1,x::xs,h=>by
  rw[gI]at h;rw[gI];have h1:=dE (k+1) xs;have h2:=dE k (AO x xs);have h3:=nE (k+1) xs;have h4:=nE k (AO x xs);omega
theorem BS(x:be)(l:List be):(AO x l).length<=l.length:=J3 _ _
theorem nD:∀(k:Nat)(l:List be),l.length<k->rk k l=0
 | 0,l,h=>by omega
 | k+1,[],_=>sI k
 | k+1,x::xs,h=>by
  rw[Jh]at h;have:=BS x xs;rw[gI,nD (k+1) xs (by omega),nD k (AO x xs) (by omega)];rfl
theorem zL(f:Nat->Int)(h0:∀k,0<=f k)(hd:∀k,0<f (k+1)->0<f k):∀N,∃m,m<=N/\((List.range N).map f).filter (fun n=>decide (0<n))=(List.range m).map f/\(∀k,k<m->0<f k)/\∀k,m<=k->k<N->f k=0
 | 0=>⟨0,JV _,rfl,fun k h=>by omega,fun k _ h=>by omega⟩
 | N+1=>by
  obtain⟨m,h1,h2,h3,h4⟩:=zL f h0 hd N;rw[K7,Ji,K1,h2]
  by_cases hp:0<f N
  ·have all:∀d k,k+d=N->0<f k:=by
    intro d
    induction d with
    | zero=>intro k e;rw[show k=N by omega];exact hp
    | succ d ih=>intro k e;exact hd k (ih (k+1) (by omega))
   have em:m=N:=by
    by_cases z:m=N
    ·exact z
    ·have:=all (N-m) m (by omega)
     have:=h4 m (JV _) (by omega);omega
   refine⟨N+1,JV _,?_,fun k hk=>all (N-k) k (by omega),fun k a b=>by omega⟩;rw[em,K7,Ji];simp[hp]
  ·refine⟨m,by omega,by simp[hp],h3,fun k a b=> ?_⟩
   by_cases z:k=N
   ·subst z;have:=h0 k;omega
   ·exact h4 k a (by omega)
theorem uO(l:List be)(hl:l.length<=64):∃m,sF l=(List.range m).map (fun k=>rk k l)/\(∀k,k<m->0<rk k l)/\∀k,m<=k->rk k l=0:=by
 obtain⟨m,_,h2,h3,h4⟩:=zL (fun k=>rk k l) (fun k=>dE k l) (fun k=>nE k l) 65;refine⟨m,h2,h3,fun k hk=> ?_⟩
 by_cases z:k<65
 ·exact h4 k hk z
 ·exact nD k l (by omega)
theorem kl:∀(i:Nat)(rs:List (List Nat)),(∀r∈rs,r.length<=8)->(dw i rs).length<=8*rs.length
 | _,[],_=>JV _
 | i,r::rs,h=>by
  have h1:=kl (i+1) rs fun r' hr' =>h r' (JO _ hr');have h2:=h r JP;rw[dw,Jj,Jh];unfold iw;rw[JM];omega
theorem ki(rows:List Str)(h8:rows.length<=8)(w8:∀z∈rows,z.length<=8):(bo rows).length<=64:=by
 have:=kl 0 (rows.map aV) fun r hr=>by
  obtain⟨z,hz,rfl⟩:=JW.mp hr;unfold aV;refine J2 (J3 _ _) ?_;rw[KO];exact w8 z hz
 rw[JM]at this;unfold bo;omega
noncomputable def bk(w j:Nat):Nat:=if j<w then w-1-j else j
noncomputable def ch:Nat->Nat->Nat
 | _,0=>1
 | 0,_+1=>0
 | n+1,k+1=>ch n (k+1)+ch n k
noncomputable def fl:Nat->Nat->Nat
 | _,0=>1
 | n,k+1=>n*fl (n-1) k
noncomputable def fn(m n k:Nat):Int:=((ch m k*fl n k:Nat):Int)
theorem xV{α:Type}(l:List α)(f g:α->Int):bI l (fun x=>f x+g x)=bI l f+bI l g:=by
 induction l with
 | nil=>rfl
 | cons x l ih=>rw[aT,aT,aT,ih];omega
theorem vo{α:Type}{l:List α}{f:α->Int}(h:∀x∈l,f x=0):bI l f=0:=by
 induction l with
 | nil=>rfl
 | cons x l ih=>rw[aT,h x JP,ih fun y hy=>h y (JO _ hy)];rfl
theorem Ao{α:Type}(l:List α)(p:α->Bool)(f:α->Int):bI l (fun x=>if p x then f x else 0)=bI (l.filter p) f:=by
 induction l with
 | nil=>rfl
 | cons x l ih =>
  rw[aT,ih,Kb];cases p x
  ·simp
  ·simp[aT]
section
variable(b:Nat->Nat->Bool)
noncomputable def jK:List Nat->List Nat->Nat->Int
 | [],_,j=>if j=0 then 1 else 0
 | i::L,C,j=>bI C fun c=>if b i c then(if j=0 then 0 else jK L (C.erase c) (j-1))else jK L (C.erase c) j
end
theorem vp{α β:Type}(l:List α)(g:α->β)(f:β->Int):bI (l.map g) f=bI l fun x=>f (g x):=by
 unfold bI;rw[Jq];rfl
theorem li{α:Type}(l l' :List α)(f:α->Int):bI (l++l') f=bI l f+bI l' f:=by
 unfold bI;rw[Ji,List.sum_append]
section
variable(b:Nat->Nat->Bool)
end
noncomputable abbrev bE:=List (List Int×Int)
noncomputable def eD(c:bE)(k:List Int):Option Int:=(c.find? fun p=>decide (p.1=k)).map (·.2)
noncomputable def putN(c:bE)(k:List Int)(v:Int):bE:=if(c.any fun p=>decide (p.1=k))=true then c.map (fun p=>if p.1=k then(p.1,v)else p)else c++[(k,v)]
noncomputable def tf(c:bE)(k:List Int)(n:Int):bE:=putN c k ((eD c k).getD 0+n)
noncomputable def dF(k:List Int)(c:Int):List Int:=sortI (k++[c])
noncomputable def cy(t:List Int)(n:Int)(f:bE)(c:Int):bE:=if t.contains c then f else tf f (dF t c) n
noncomputable def ji(B:List Int)(f:bE)(p:List Int×Int):bE:=B.foldl (cy p.1 p.2) f
noncomputable def mH(B:List Int)(c:bE):bE:=c.foldl (ji B) c
noncomputable def eJ(Bs:List (List Int)):bE:=Bs.foldl (fun c B=>mH B c) [([],1)]
noncomputable def wN(φ:List Int->Int)(c:bE):Int:=bI c fun p=>p.2*φ p.1
theorem gn{c:bE}{k:List Int}:(c.any fun p=>decide (p.1=k))=true↔k∈c.map (·.1):=by
 rw[List.any_eq_true,JW];exact⟨fun⟨p,h,e⟩=>⟨p,h,Jr e⟩,fun⟨p,h,e⟩=>⟨p,h,Jo e⟩⟩
theorem zD{c:bE}{k:List Int}(h:k∉c.map (·.1)):eD c k=none:=by
 unfold eD;rw[List.find?_eq_none.mpr fun p hp z=>h (JW.mpr ⟨p,hp,Jr z⟩)];rfl
theorem F5(φ:List Int->Int){k:List Int}{n:Int}:∀{c:bE},(c.map (·.1)).Nodup->wN φ (tf c k n)=wN φ c+n*φ k:=by
 have inn:∀{c:bE}{w:Int},(c.map (·.1)).Nodup->k∈c.map (·.1)->wN φ (c.map fun p=>if p.1=k then(p.1,w)else p)=wN φ c+(w-(eD c k).getD 0)*φ k:=by
  intro c w
  induction c with
  | nil=>intro _ h;simp at h
  | cons p c ih =>
   intro nd h;rw[JZ,Jt]at nd;unfold wN;rw[JZ,aT,aT]
   by_cases e:p.1=k
   ·rw[JS e]
    have no:k∉c.map (·.1):=fun z=>nd.1 (e▸z);have e2:c.map (fun p=>if p.1=k then(p.1,w)else p)=c:=by
     refine(KI fun q hq=> ?_).trans (List.map_id c);rw[JR fun z=>no (JW.mpr ⟨q,hq,z⟩)];rfl
    have e3:eD (p::c) k=some p.2:=by unfold eD;rw[List.find?_cons_of_pos (by simpa using e)];rfl
    rw[e2,e3,<-e];simp only[Option.getD_some,Int.sub_mul];omega
   ·rw[JR e]
    have h2:k∈c.map (·.1):=by
     rw[JZ,Jg]at h;exact h.resolve_left fun z=>e z.symm
    have:=ih nd.2 h2;unfold wN at this;have e3:eD (p::c) k=eD c k:=by unfold eD;rw[List.find?_cons_of_neg (by simpa using e)]
    rw[this,e3];omega
 intro c nd;unfold tf putN
 by_cases h:k∈c.map (·.1)
 ·rw[JS (gn.mpr h),inn nd h]
  have:(eD c k).getD 0+n-(eD c k).getD 0=n:=by omega
  rw[this]
 ·rw[JR fun z=>h (gn.mp z),zD h]
  unfold wN;rw[li,aT,bx];simp
theorem wv{c:bE}{k:List Int}{n:Int}(nd:(c.map (·.1)).Nodup):((tf c k n).map (·.1)).Nodup/\∀q,q∈(tf c k n).map (·.1)↔q∈c.map (·.1)\/q=k:=by
 unfold tf putN
 by_cases h:k∈c.map (·.1)
 ·rw[JS (gn.mpr h)]
  have e:(c.map fun p=>if p.1=k then(p.1,(eD c k).getD 0+n)else p).map (·.1)=c.map (·.1):=by
   rw[Jq];refine KI fun p _=> ?_;show(if p.1=k then(p.1,_)else p).1=p.1
   split<;>rfl
  rw[e];exact⟨nd,fun q=>⟨.inl,fun z=>z.elim id fun e=>e▸h⟩⟩
 ·rw[JR fun z=>h (gn.mp z),Ji]
  refine⟨?_,fun q=>by simp⟩;rw[KU];exact⟨nd,by simp,fun a ha b hb e=>h (by rw[<- (show b=k by simpa using hb),<-e];exact ha)⟩
noncomputable def cA(k:List Int):Prop:=k.Pairwise (·<·)/\∀c∈k,0<=c/\c<8
noncomputable def bM(c:bE):Prop:=(c.map (·.1)).Nodup/\∀k∈c.map (·.1),cA k
theorem fg(k:List Int)(c:Int):(dF k c).Perm (c::k):=(sortI_perm _).trans (List.perm_append_singleton c k)
theorem pu{k:List Int}{c:Int}(h:cA k)(hc:0<=c/\c<8)(hn:c∉k):cA (dF k c):=by
 have p:=fg k c;have nd:(dF k c).Nodup:=p.nodup_iff.mpr (Jt.mpr ⟨hn,h.1.imp fun h=>Int.ne_of_lt h⟩);refine⟨?_,fun x hx=> ?_⟩
 ·have s:=pB (k++[c])
  exact(s.and nd).imp fun h=>by omega
 ·rcases Jg.mp (p.mem_iff.mp hx)with rfl|hx
  ·exact hc
  ·exact h.2 x hx
theorem o7{t:List Int}{n:Int}{f:bE}{c:Int}(h:bM f)(ht:cA t)(hc:0<=c/\c<8):bM (cy t n f c)/\(∀k∈f.map (·.1),k∈(cy t n f c).map (·.1)):=by
 unfold cy
 split
 ·exact⟨h,fun k hk=>hk⟩
 ·rename_i hn
  obtain⟨a,b⟩:=wv (k:=dF t c) (n:=n) h.1;refine⟨⟨a,fun k hk=> ?_⟩,fun k hk=>(b k).mpr (.inl hk)⟩
  rcases(b k).mp hk with hk|rfl
  ·exact h.2 k hk
  ·exact pu ht hc (by simpa using hn)
theorem gY{t:List Int}{n:Int}(ht:cA t):∀{B:List Int}{f:bE},bM f->(∀c∈B,0<=c/\c<8)->bM (B.foldl (cy t n) f)
 | [],f,h,_=>h
 | c::B,f,h,hB=>by
  rw[Kr];exact gY ht (o7 h ht (hB c JP)).1 fun d hd=>hB d (JO _ hd)
theorem kP{B:List Int}(hB:∀c∈B,0<=c/\c<8):∀{c f:bE},bM f->(∀p∈c,cA p.1)->bM (c.foldl (ji B) f)
 | [],f,h,_=>h
 | p::c,f,h,hc=>by
  rw[Kr];exact kP hB (gY (n:=p.2) (hc p JP) h hB) fun q hq=>hc q (JO _ hq)
theorem ye{B:List Int}(hB:∀c∈B,0<=c/\c<8){c:bE}(h:bM c):bM (mH B c):=kP hB h fun p hp=>h.2 _ (JW.mpr ⟨p,hp,rfl⟩)
theorem BP:bM [([],1)]:=⟨by simp,fun k hk=>by
 have:k=[]:=by simpa using hk
 subst this;exact⟨.nil,fun c hc=>nomatch hc⟩⟩
noncomputable def F9(φ:List Int->Int)(B:List Int)(t:List Int):Int:=bI B fun c=>if t.contains c then 0 else φ (dF t c)
theorem vG(φ:List Int->Int){t:List Int}{n:Int}(ht:cA t):∀{B:List Int}{f:bE},bM f->(∀c∈B,0<=c/\c<8)->wN φ (B.foldl (cy t n) f)=wN φ f+n*F9 φ B t
 | [],f,h,_=>by unfold F9;rw[bx];simp
 | c::B,f,h,hB=>by
  rw[Kr,vG φ ht (o7 h ht (hB c JP)).1 fun d hd=>hB d (JO _ hd)];unfold F9 cy;rw[aT]
  split
  ·rw[Lc]
  ·rw[F5 φ h.1,Int.mul_add]
   omega
theorem vF(φ:List Int->Int){B:List Int}(hB:∀c∈B,0<=c/\c<8):∀{c f:bE},bM f->(∀p∈c,cA p.1)->wN φ (c.foldl (ji B) f)=wN φ f+wN (F9 φ B) c
 | [],f,h,_=>by unfold wN;rw[bx,List.foldl_nil];simp
 | p::c,f,h,hc=>by
  rw[Kr,vF φ hB (f:=ji B f p) (gY (n:=p.2) (hc p JP) h hB) fun q hq=>hc q (JO _ hq)];unfold ji;rw[vG φ (hc p JP) h hB];unfold wN;rw[aT];omega
theorem Bb(φ:List Int->Int){B:List Int}(hB:∀c∈B,0<=c/\c<8){c:bE}(h:bM c):wN φ (mH B c)=wN (fun t=>φ t+F9 φ B t) c:=by
 unfold mH;rw[vF φ hB h fun p hp=>h.2 _ (JW.mpr ⟨p,hp,rfl⟩)];unfold wN;rw[<- xV];refine ax fun p _=> ?_;rw[Int.mul_add]
noncomputable def pk(t:List Int):List Nat:=t.map Int.toNat
noncomputable def lD(aN:List (List Nat))(k:Nat)(t:List Int):Int:=if t.length<=k then cnt aN (pk t) (k-t.length)else 0
theorem og{φ χ:List Int->Int}{c:bE}(h:∀p∈c,φ p.1=χ p.1):wN φ c=wN χ c:=ax fun p hp=>by rw[h p hp]
theorem j7{t:List Int}(h:cA t)(c:Nat):c∈pk t↔(c:Int)∈t:=by
 unfold pk;rw[JW]
 constructor
 ·rintro⟨x,hx,rfl⟩
  have:=h.2 x hx;rw[Int.toNat_of_nonneg this.1];exact hx
 ·exact fun hc=>⟨_,hc,LC c⟩
theorem yI{r:List Nat}(hr:∀c∈r,c<8){aN:List (List Nat)}(k:Nat){t:List Int}(h:cA t):lD aN k t+F9 (lD aN k) (r.map fun c=>((c:Nat):Int)) t=lD (r::aN) k t:=by
 have ct:∀c:Nat,t.contains (c:Int)=(pk t).contains c:=fun c=>by
  rw[J8,KH,KH];exact(j7 h c).symm
 have ml:∀c:Int,(dF t c).length=t.length+1:=fun c=>by rw[(fg t c).length_eq,Jh]
 unfold F9;rw[vp];have e:∀c∈r,(if t.contains ((c:Nat):Int)then 0 else lD aN k (dF t ((c:Nat):Int)))=if !(pk t).contains c then(if t.length+1<=k then cnt aN (c::pk t) (k-(t.length+1))else 0)else 0:=fun c hc=>by
  rw[ct c];cases hb:(pk t).contains c with
  | true=>rfl
  | false =>
   simp only[K2,L4,Bool.not_false,if_true];unfold lD;rw[ml]
   split
   ·refine bv aN _ fun r' _ d _=> ?_
    have ok:=pu h (show(0:Int)<=((c:Nat):Int)/\((c:Nat):Int)<8 from⟨by omega,by have:=hr c hc;omega⟩) (fun z=>by have:=(KH (a:=((c:Nat):Int)) (as:=t)).mpr z;rw[ct c,hb]at this;cases this);rw[J8,KH,KH,j7 ok,(fg t _).mem_iff,Jg,Jg,j7 h]
    constructor
    ·rintro(z|z)
     ·exact .inl (by omega)
     ·exact .inr z
    ·rintro(z|z)
     ·exact .inl (by omega)
     ·exact .inr z
   ·rfl
 rw[ax e,Ao];unfold lD
 by_cases hk:t.length+1<=k
 ·obtain⟨j,hj⟩:∃j,k-t.length=j+1:=⟨k-t.length-1,by omega⟩
  simp only[JS hk];rw[JS (by omega),JS (by omega),hj,cnt,show k-(t.length+1)=j by omega]
 ·simp only[JR hk]
  rw[vo fun _ _=>rfl,Int.add_zero]
  by_cases hk2:t.length<=k
  ·rw[JS hk2,JS hk2,show k-t.length=0 by omega,ak,ak]
  ·rw[JR hk2,JR hk2]
theorem fX(Bs:List (List Int))(B:List Int):eJ (Bs++[B])=mH B (eJ Bs):=by unfold eJ;rw[LS];rfl
noncomputable def iC(r:List Nat):List Int:=r.map fun c=>((c:Nat):Int)
theorem pH:∀(rows:List (List Nat)),iS rows->bM (eJ (rows.map iC)):=by
 intro rows;refine cU (P:=fun rows=>iS rows->bM (eJ (rows.map iC))) (fun _=>BP) (fun l r ih h=> ?_) rows;rw[Ji,JZ,Kw,fX];refine ye (fun c hc=> ?_) (ih fun r' hr' =>h r' (Kp _ hr'));obtain⟨d,hd,rfl⟩:=JW.mp hc;have:=h r (by simp) d hd;omega
theorem Az(k:Nat):∀(rows aN:List (List Nat)),iS rows->iS aN->wN (lD aN k) (eJ (rows.map iC))=cnt (rows++aN) [] k:=by
 intro rows;refine cU (P:=fun rows=>∀aN,iS rows->iS aN->wN (lD aN k) (eJ (rows.map iC))=cnt (rows++aN) [] k) (fun aN _ _=> ?_) (fun l r ih aN h h' => ?_) rows
 ·show wN _ [([],1)]=_
  unfold wN lD;rw[aT,bx];simp[pk]
 ·have hl:iS l:=fun r' hr' =>h r' (Kp _ hr')
  have hr:∀c∈r,c<8:=h r (by simp);have ok:=pH l hl;rw[Ji,JZ,Kw,fX,Bb _ (fun c hc=>by
   obtain⟨d,hd,rfl⟩:=JW.mp hc;have:=hr d hd;omega) ok]
  rw[og (χ:=lD (r::aN) k) fun p hp=>yI hr k (ok.2 _ (JW.mpr ⟨p,hp,rfl⟩)),ih (r::aN) hl fun r' hr' =>by
   rcases Jg.mp hr' with rfl|hr'
   ·exact hr
   ·exact h' r' hr',KW]
  rfl
theorem gz(rows:List (List Nat))(h:iS rows)(k:Nat):wN (fun t=>if t.length=k then 1 else 0) (eJ (rows.map iC))=cnt rows [] k:=by
 have:=Az k rows [] h (fun r hr=>nomatch hr);rw[KL]at this;rw[<- this];refine og fun p _=> ?_;unfold lD
 by_cases e:p.1.length=k
 ·rw[JS e,JS (by omega),show k-p.1.length=0 by omega,ak]
 ·rw[JR e]
  split
  ·obtain⟨j,hj⟩:∃j,k-p.1.length=j+1:=⟨k-p.1.length-1,by omega⟩
   rw[hj];rfl
  ·rfl
noncomputable def gF:List Int->List (List Int)
 | []=>[[]]
 | c::r=>gF r++(gF r).map (c::·)
theorem ph:∀r:List Int,[]∈gF r
 | []=>by simp[gF]
 | c::r=>Kp _ (ph r)
theorem j4:∀{r k:List Int},r.Pairwise (·<·)->k.Pairwise (·<·)->(∀x∈k,x∈r)->k∈gF r
 | r,[],_,_,_=>ph r
 | [],a::k,_,_,h=>by have:=h a JP;cases this
 | c::r,a::k,hr,hk,h=>by
  rw[Kz]at hr hk;rw[gF,J0]
  by_cases e:a=c
  ·refine .inr (JW.mpr ⟨k,j4 hr.2 hk.2 fun x hx=> ?_,by rw[e]⟩)
   have:=hk.1 x hx
   rcases Jg.mp (h x (JO _ hx))with z|z
   ·omega
   ·exact z
  ·have ha:a∈r:=(Jg.mp (h a JP)).resolve_left e
   have hca:=hr.1 a ha;refine .inl (j4 hr.2 (Kz.mpr hk) fun x hx=> ?_)
   rcases Jg.mp (h x hx)with z|z
   ·rcases Jg.mp hx with y|y
    ·omega
    ·have:=hk.1 x y
     omega
   ·exact z
noncomputable def vC(k:List Int):Int:=reduceHash (Builtin.Tuple.tupleHashOf (k.map hashInt))
theorem re:((gF [0,1,2,3,4,5,6,7]).map vC).Nodup:=by decide +kernel
theorem wD{α β:Type}{f:α->β}{l:List α}(h:(l.map f).Nodup):∀x∈l,∀y∈l,f x=f y->x=y:=by
 induction l with
 | nil=>intro x hx;cases hx
 | cons a l ih =>
  rw[JZ,Jt]at h;intro x hx y hy e;rw[Jg]at hx hy
  rcases hx with hx|hx<;>rcases hy with hy|hy
  ·rw[hx,hy]
  ·exact absurd (JW.mpr ⟨y,hy,by rw[<- e,hx]⟩) h.1
  ·exact absurd (JW.mpr ⟨x,hx,by rw[e,hy]⟩) h.1
  ·exact ih h.2 x hx y hy e
theorem kG{k:List Int}(h:cA k):k∈gF [0,1,2,3,4,5,6,7]:=by
 refine j4 (by decide) h.1 fun x hx=> ?_;have:=h.2 x hx;have:x=0\/x=1\/x=2\/x=3\/x=4\/x=5\/x=6\/x=7:=by omega
 simpa using this
noncomputable def bO(c:bE):List (List L2.ae×V):=c.map fun p=>(p.1.map Sum.inl,V.int p.2)
theorem AA(P:Program)(w:World){c:bE}(h:bM c):L2.Apart P w ((bO c).map (·.1)):=by
 unfold L2.Apart bO;rw[Jq,Jq];have e:((tupleKeyHash (aU P w)∘fun x:List L2.ae×V=>x.1)∘fun p:List Int×Int=>(p.1.map Sum.inl,V.int p.2))=fun p=>vC p.1:=by
  funext p
  show reduceHash (Builtin.Tuple.tupleHashOf ((p.1.map Sum.inl).map (aU P w).hash))=_;rw[Jq];rfl
 rw[e];have e2:c.map (fun p=>vC p.1)=(c.map (·.1)).map vC:=by rw[Jq];rfl
 rw[e2];refine List.Pairwise.map _ (R:=fun a b=>a≠b/\cA a/\cA b) (fun a b hab z=>hab.1 (wD re a (kG hab.2.1) b (kG hab.2.2) z)) ?_;exact h.1.imp_of_mem fun ha hb hne=>⟨hne,h.2 _ ha,h.2 _ hb⟩
theorem ga(c:bE):(bO c).length=c.length:=by unfold bO;rw[JM]
theorem nu{a b:List Int}:a.map (Sum.inl:Int->L2.ae)=b.map Sum.inl↔a=b:=by
 constructor
 ·intro h
  induction a generalizing b with
  | nil=>cases b with
   | nil=>rfl
   | cons y b=>cases h
  | cons x a ih=>cases b with
   | nil=>cases h
   | cons y b =>
    rw[JZ,JZ,List.cons.injEq]at h;rw[Sum.inl.inj h.1,ih h.2]
 ·rintro rfl
  rfl
theorem kW(c:bE)(k:List Int):eA (bO c) (k.map Sum.inl)=(eD c k).map V.int:=by
 unfold eA bO eD;rw[List.find?_map];have e:((fun p:List L2.ae×V=>decide (p.1=k.map Sum.inl))∘fun p:List Int×Int=>(p.1.map Sum.inl,V.int p.2))=fun p=>decide (p.1=k):=by
  funext p
  simp only[Function.comp,nu]
 rw[e];cases c.find? fun p=>decide (p.1=k)<;>rfl
theorem zT(c:bE)(k:List Int)(v:Int):ci (bO c) (k.map Sum.inl) (V.int v)=bO (putN c k v):=by
 unfold ci putN;have e1:((bO c).any fun kv=>decide (kv.1=k.map Sum.inl))=(c.any fun p=>decide (p.1=k)):=by
  unfold bO;rw[List.any_map]
  congr 1
  funext p
  simp only[Function.comp,nu]
 rw[e1]
 split
 ·unfold bO
  rw[Jq,Jq];refine KI fun p _=> ?_;simp only[Function.comp,nu]
  split<;>rfl
 ·unfold bO
  rw[Ji];rfl
theorem vL{c:bE}{j:Nat}{k:List L2.ae}{x:V}(h:(bO c)[j]? =some (k,x)):∃t n,c[j]? =some (t,n)/\k=t.map Sum.inl/\x=.int n:=by
 unfold bO at h;rw[Jc]at h;cases e:c[j]? with
 | none=>rw[e]at h;cases h
 | some p =>
  rw[e]at h;have h:=Jl h;rw[Prod.mk.injEq]at h;exact⟨p.1,p.2,rfl,h.1.symm,h.2.symm⟩
theorem kI(t:List Int):(t.map (Sum.inl:Int->L2.ae)).map kV=t.map V.int:=by rw[Jq];rfl
theorem jy{α:Type}[DecidableEq α]:∀{l L:List α},l.Nodup->(∀x∈l,x∈L)->l.length<=L.length
 | [],L,_,_=>Js _
 | a::l,L,h,hs=>by
  rw[Jt]at h;have ha:=hs a JP;have:=jy (L:=L.erase a) h.2 fun x hx=>(List.mem_erase_of_ne (fun z:x=a=>h.1 (by rw[<- z];exact hx))).mpr (hs x (JO _ hx));rw[List.length_erase_of_mem ha]at this;have:=List.length_pos_of_mem ha;rw[Jh];omega
theorem bM.few{c:bE}(h:bM c):c.length<=256:=by
 have nd:(c.map (·.1)).Nodup:=h.1;have sub:∀k∈c.map (·.1),k∈gF [0,1,2,3,4,5,6,7]:=fun k hk=>kG (h.2 k hk);have:=jy nd sub;rw[JM]at this;exact J2 this (by decide)
theorem cA.len{k:List Int}(h:cA k):k.length<=8:=by
 refine jy (L:=[0,1,2,3,4,5,6,7]) (h.1.imp fun h=>Int.ne_of_lt h) fun x hx=> ?_;have:=h.2 x hx;have:x=0\/x=1\/x=2\/x=3\/x=4\/x=5\/x=6\/x=7:=by omega
 simpa using this
theorem qQ{c:bE}{t:List Int}{n:Int}:∀{j:Nat},(c.map (·.1)).Nodup->c[j]? =some (t,n)->eD c t=some n:=by
 induction c with
 | nil=>intro j _ h;simp at h
 | cons p c ih =>
  intro j nd h;rw[JZ,Jt]at nd;unfold eD;cases j with
  | zero =>
   simp at h;subst h;rw[List.find?_cons_of_pos (by simp)];rfl
  | succ j =>
   have h:c[j]? =some (t,n):=by simpa using h
   rw[List.find?_cons_of_neg (by simpa using fun z:p.1=t=>nd.1 (z▸JW.mpr ⟨_,Jn h,rfl⟩))];exact ih nd.2 h
noncomputable def jf(rows:List Str):bE:=eJ ((rows.map aV).map iC)
noncomputable def fm(c:bE):List Int:=(List.range 10).map fun j=>wN (fun t=>if t.length=j then 1 else 0) c
noncomputable def iu:List PV->Option PV
 | [.tup ls]=>(ir ls).bind fun rows=>if rows.length<=8/\(rows.all fun z=>decide (z.length<=8))=true then some (.lst ((cx (fm (jf rows))).map PV.int))else none
 | _=>none
noncomputable def fx(x:Int):Nat->Int
 | 0=>1
 | m+1=>fx x m*(x-m)
end IR
namespace IR
end IR
namespace IR
end IR
namespace IR
open PySem L2
end IR
namespace IR
open PySem
end IR
namespace L2
open SQ
theorem BW{m u v:Nat}(hm:m<256)(hu:u<8):v∈lst (put m u)↔v∈lst m\/v=u:=by
 by_cases h:u∈lst m
 ·rw[xu h]
  exact⟨.inl,fun z=>z.elim id fun e=>e▸h⟩
 ·obtain⟨-,-,e,-,-⟩:=kF hm hu h true
  rw[e,J0,Jg];have:v∈lst m↔v∈(lst m).take (jM m u)\/v∈(lst m).drop (jM m u):=by
   rw[<- J0,List.take_append_drop]
  rw[this]
  constructor
  ·rintro(z|z|z)
   ·exact .inl (.inl z)
   ·exact .inr z
   ·exact .inl (.inr z)
  ·rintro((z|z)|z)
   ·exact .inl z
   ·exact .inr (.inr z)
   ·exact .inr (.inl z)
theorem j5{f:Nat->Nat}{v:Nat}:∀{k i m:Nat},(∀j,j<k->f (i+j)<8)->m<256->(v∈lst (mz f k i m)↔v∈lst m\/∃j,j<k/\f (i+j)=v)
 | 0,i,m,_,_=>⟨.inl,fun z=>z.elim id fun⟨j,h,_⟩=>absurd h (Nat.not_lt_zero _)⟩
 | k+1,i,m,hf,hm=>by
  unfold mz;have h0:=hf 0 (by omega);rw[Nat.add_zero]at h0;rw[j5 (fun j hj=>by rw[show i+1+j=i+(j+1)by omega];exact hf (j+1) (by omega)) (Bk hm h0 true).2,BW hm h0]
  constructor
  ·rintro((z|z)|⟨j,hj,e⟩)
   ·exact .inl z
   ·exact .inr ⟨0,by omega,z.symm⟩
   ·exact .inr ⟨j+1,by omega,by rw[<- e];congr 1;omega⟩
  ·rintro(z|⟨j,hj,e⟩)
   ·exact .inl (.inl z)
   ·cases j with
    | zero=>exact .inl (.inr e.symm)
    | succ j=>exact .inr ⟨j,by omega,by rw[<- e];congr 1;omega⟩
theorem j6{ns:List Int}(h:∀n∈ns,0<=n/\n<8){n:Int}:n∈bj ns↔n∈ns:=by
  unfold bj maskOf;rw[JW];have at' :∀j,j<ns.length->ns.getD j 0∈ns:=fun j hj=>by
    rw[JX,Ja hj];exact Ky hj
  have hf:∀j,j<ns.length->(ns.getD (0+j) 0).toNat<8:=fun j hj=>by
    rw[La];have:=h _ (at' j hj);omega
  constructor
  · rintro⟨v,hv,rfl⟩
    rw[j5 hf (by omega)]at hv
    rcases hv with z|⟨j,hj,e⟩
    · exact absurd z (by have:lst 0=[]:=by decide +kernel
                         rw[this];simp)
    · rw[La]at e
      have:=h _ (at' j hj);rw[<- e,Int.toNat_of_nonneg this.1];exact at' j hj
  · intro hn
    obtain⟨j,hj,e⟩:=List.getElem_of_mem hn;refine⟨n.toNat,(j5 hf (by omega)).mpr (.inr ⟨j,hj,?_⟩),Int.toNat_of_nonneg (h n hn).1⟩;rw[La,JX,Ja hj,e];rfl
theorem nP(ns:List Int):(bj ns).Pairwise (·<·):=by
 unfold bj;rw[LB];exact(j9 _).imp fun z=>by omega
theorem ff(ns:List Int):(bj ns).Nodup:=(nP ns).imp fun h=>by omega
theorem yQ{ns:List Int}(h:∀n∈ns,0<=n/\n<8)(s:ns.Pairwise (·<·)):bj ns=ns:=by
 have nd:ns.Nodup:=s.imp fun h=>by omega
 have p:(bj ns).Perm ns:=(List.perm_ext_iff_of_nodup (ff ns) nd).mpr fun n=>j6 h;exact p.eq_of_pairwise (fun a b _ _ h1 h2=>by omega) (nP ns) s
theorem DB{α:Type}[DecidableEq α]:∀{ns:List α},¬ns.Nodup->∃ms:List α,ms.length<ns.length/\∀x∈ns,x∈ms
 | [],h=>absurd List.nodup_nil h
 | x::r,h=>by
  by_cases hx:x∈r
  ·exact⟨r,by simp,fun y hy=>by rcases Jg.mp hy with z|z;exact z▸hx;exact z⟩
  ·have:¬r.Nodup:=fun z=>h (Jt.mpr ⟨hx,z⟩)
   obtain⟨ms,h1,h2⟩:=DB this;refine⟨x::ms,by simpa using h1,fun y hy=> ?_⟩
   rcases Jg.mp hy with z|z
   ·exact z▸JP
   ·exact JO _ (h2 y z)
theorem pe{ns:List Int}(h:∀n∈ns,0<=n/\n<8):(bj ns).length=ns.length↔ns.Nodup:=by
 constructor
 ·intro e
  apply Ki
  intro nd;obtain⟨ms,h1,h2⟩:=DB nd;have:=List.Nodup.length_le_of_subset (ff ns) (fun x hx=>h2 x ((j6 h).mp hx));omega
 ·intro nd
  exact((List.perm_ext_iff_of_nodup (ff ns) nd).mpr fun n=>j6 h).length_eq
theorem mE{ns:List Int}(h:∀n∈ns,0<=n/\n<8):ns=bj ns↔ns.Pairwise (·<·) :=
 ⟨fun e=>by rw[e];exact nP ns,fun s=>(yQ h s).symm⟩
end L2
namespace OD
section
variable{α:Type}[DecidableEq α](ok:List α->α->Bool)
noncomputable def cnt:List α->List α->Nat->Nat
 | _,_,0=>1
 | _,[],_+1=>0
 | b,c::L,m+1=>(if ok b c then cnt (b++[c]) L m else 0)+cnt b L (m+1)
inductive Lg:List α->List α->List α->Prop
 | nil {b L}:Lg b L []
 | take {b c L p}:ok b c=true->Lg (b++[c]) L p->Lg b (c::L) (c::p)
 | skip {b c L p}:Lg b L p->Lg b (c::L) p
noncomputable def rM:List α->List α->List α->Nat
 | _,_,[]=>0
 | _,[],_::_=>0
 | b,c::L,x::p=>if x=c then rM (b++[c]) L p else(if ok b c then cnt ok (b++[c]) L p.length else 0)+rM b L (x::p)
noncomputable def AM:List α->List α->Nat->Nat->List α
 | _,_,0,_=>[]
 | _,[],_+1,_=>[]
 | b,c::L,m+1,n=>if ok b c then(if n<cnt ok (b++[c]) L m then c::AM (b++[c]) L m n else AM b L (m+1) (n-cnt ok (b++[c]) L m))else AM b L (m+1) n
variable{ok}
theorem ak(b L:List α):cnt ok b L 0=1:=by cases L<;>rfl
theorem jO(b L:List α):rM ok b L []=0:=by cases L<;>rfl
theorem cw(b L:List α)(n:Nat):AM ok b L 0 n=[]:=by cases L<;>rfl
theorem Lg.sub{b L p:List α}(h:Lg ok b L p):∀x∈p,x∈L:=by
 induction h with
 | nil=>intro x hx;cases hx
 | take _ _ ih =>
  intro x hx
  rcases Jg.mp hx with rfl|hx
  ·exact JP
  ·exact JO _ (ih x hx)
 | skip _ ih=>exact fun x hx=>JO _ (ih x hx)
theorem Lg.at_nil{b p:List α}(h:Lg ok b [] p):p=[]:=by
 cases h;rfl
theorem Lg.at_take{b L p:List α}{c:α}(hc:c∉L)(h:Lg ok b (c::L) (c::p)):ok b c=true/\Lg ok (b++[c]) L p:=by
 cases h with
 | take h1 h2=>exact⟨h1,h2⟩
 | skip h=>exact absurd (h.sub c JP) hc
theorem Lg.at_skip{b L p:List α}{c x:α}(hx:x≠c)(h:Lg ok b (c::L) (x::p)):Lg ok b L (x::p):=by
 cases h with
 | take h1 h2=>exact absurd rfl hx
 | skip h=>exact h
theorem fY:∀(L b p:List α),L.Nodup->Lg ok b L p->rM ok b L p<cnt ok b L p.length
 | L,b,[],_,_=>by rw[jO,K8,ak];decide
 | [],b,x::p,_,h=>by cases h.at_nil
 | c::L,b,x::p,hn,h=>by
  obtain⟨hc,hn2⟩:=Jt.mp hn;rw[rM,Jh,cnt]
  by_cases e:x=c
  ·subst e
   obtain⟨h1,h2⟩:=h.at_take hc;rw[JS rfl,JS h1];have:=fY L (b++[x]) p hn2 h2;omega
  ·rw[JR e]
   have:=fY L b (x::p) hn2 (h.at_skip e);rw[Jh]at this;omega
theorem gB:∀(L b p:List α),L.Nodup->Lg ok b L p->AM ok b L p.length (rM ok b L p)=p
 | L,b,[],_,_=>by rw[K8,cw]
 | [],b,x::p,_,h=>by cases h.at_nil
 | c::L,b,x::p,hn,h=>by
  obtain⟨hc,hn2⟩:=Jt.mp hn;rw[rM,Jh,AM]
  by_cases e:x=c
  ·subst e
   obtain⟨h1,h2⟩:=h.at_take hc;rw[JS rfl,JS h1,JS (fY L (b++[x]) p hn2 h2),gB L (b++[x]) p hn2 h2]
  ·have h2:=h.at_skip e
   have ih:=gB L b (x::p) hn2 h2;rw[Jh]at ih;rw[JR e]
   by_cases o:ok b c=true
   ·rw[JS o,JS o,JR (by omega),Nat.add_sub_cancel_left,ih]
   ·rw[JR o,JR o,La,ih]
theorem A1{L b p q:List α}(hn:L.Nodup)(hp:Lg ok b L p)(hq:Lg ok b L q)(hl:p.length=q.length)(h:rM ok b L p=rM ok b L q):p=q:=by
 rw[<- gB L b p hn hp,<-gB L b q hn hq,hl,h]
variable(lt:α->α->Bool)
noncomputable def Be:List α->List α->Bool
 | [],[]=>false
 | [],_::_=>true
 | _::_,[]=>false
 | x::p,y::q=>if x=y then Be p q else lt x y
variable{lt}
theorem nA:∀(L b p q:List α),L.Nodup->L.Pairwise (fun a c=>lt a c=true/\lt c a=false)->Lg ok b L p->Lg ok b L q->p.length=q.length->decide (rM ok b L p<rM ok b L q)=Be lt p q
 | L,b,[],[],_,_,_,_,_=>by
  rw[jO];rfl
 | L,b,[],y::q,_,_,_,_,h=>by cases h
 | L,b,x::p,[],_,_,_,_,h=>by cases h
 | [],b,x::p,y::q,_,_,h,_,_=>by cases h.at_nil
 | c::L,b,x::p,y::q,hn,hs,hp,hq,hl=>by
  obtain⟨hc,hn2⟩:=Jt.mp hn;obtain⟨hs1,hs2⟩:=Kz.mp hs;rw[Jh,Jh]at hl;have hl:p.length=q.length:=by omega
  rw[rM,rM,Be]
  by_cases e1:x=c
  ·subst e1
   obtain⟨o,hp2⟩:=hp.at_take hc;rw[JS rfl]
   by_cases e2:y=x
   ·subst e2
    obtain⟨_,hq2⟩:=hq.at_take hc;rw[JS rfl,JS rfl];exact nA L (b++[y]) p q hn2 hs2 hp2 hq2 hl
   ·have hq2:=hq.at_skip e2
    have:=fY L (b++[x]) p hn2 hp2;have e3:x≠y:=fun z=>e2 z.symm;rw[JR e2,JS o,JR e3,Jo (by rw[hl]at this;omega),(hs1 y (hq2.sub y JP)).1]
  ·have hp2:=hp.at_skip e1
   rw[JR e1]
   by_cases e2:y=c
   ·subst e2
    obtain⟨o,hq2⟩:=hq.at_take hc;have:=fY L (b++[y]) q hn2 hq2;rw[JS rfl,JS o,JR e1,Jk (by rw[hl];omega),(hs1 x (hp2.sub x JP)).2]
   ·have hq2:=hq.at_skip e2
    rw[JR e2,hl];have ih:=nA L b (x::p) (y::q) hn2 hs2 hp2 hq2 (by rw[Jh,Jh,hl]);rw[Be]at ih;rw[<- ih];rw[J8,J4,J4];omega
theorem kf:∀(M L b:List α)(m:Nat),(∀c∈M,ok b c=false)->cnt ok b (M++L) m=cnt ok b L m
 | M,L,b,0,_=>by rw[ak,ak]
 | [],L,b,m+1,_=>rfl
 | c::M,L,b,m+1,h=>by
  show cnt ok b (c::(M++L)) (m+1)=_;rw[cnt,JR (by rw[h c JP];decide),La,kf M L b (m+1) fun x hx=>h x (JO _ hx)]
end
end OD
namespace OD
section
variable{α:Type}[DecidableEq α]{ok:List α->α->Bool}{lt:α->α->Bool}
theorem Lg.more{b L p:List α}{c:α}(h:Lg ok b L p):Lg ok b (L++[c]) p:=by
 induction h with
 | nil=>exact .nil
 | take o _ ih=>exact .take o ih
 | skip _ ih=>exact .skip ih
theorem Lg.snoc{b L p:List α}{c:α}(h:Lg ok b L p):ok (b++p) c=true->Lg ok b (L++[c]) (p++[c]):=by
 induction h with
 | @nil b L =>
  intro o;rw[KL]at o
  induction L with
  | nil=>exact .take o .nil
  | cons x L ih=>exact .skip ih
 | @take b d L p o' _ ih =>
  intro o;refine .take o' (ih ?_);rw[KW];exact o
 | skip _ ih=>exact fun o=>.skip (ih o)
noncomputable def NB(ok:List α->α->Bool)(W:List α)(size:Nat)(nb:List α->Int):Prop:=∀pre c L b,W=pre++c::L->Lg ok [] pre b->ok b c=true->nb (b++[c])=if b.length<size then((cnt ok (b++[c]) L (size-b.length-1):Nat):Int)else 0
noncomputable def turn(ok:List α->α->Bool)(nb:List α->Int)(s:List α×Int)(c:α):List α×Int :=
 if ok s.1 c then(if s.2<nb (s.1++[c])then(s.1++[c],s.2)else(s.1,s.2-nb (s.1++[c])))else s
theorem oq{W:List α}{size:Nat}{nb:List α->Int}(H:NB ok W size nb):∀(L pre b:List α)(n:Nat),W=pre++L->Lg ok [] pre b->b.length<=size->n<cnt ok b L (size-b.length)->(L.foldl (turn ok nb) (b,(n:Int))).1=b++AM ok b L (size-b.length) n
 | [],pre,b,n,hW,hb,hl,hn=>by
  cases e:size-b.length with
  | zero=>rw[cw,KL];rfl
  | succ m=>rw[e,cnt]at hn;omega
 | c::L,pre,b,n,hW,hb,hl,hn=>by
  have hW2:W=(pre++[c])++L:=by rw[hW,KW];rfl
  rw[Kr,turn]
  by_cases o:ok b c=true
  ·rw[JS o]
   show(List.foldl (turn ok nb) (if(n:Int)<nb (b++[c])then(b++[c],(n:Int))else(b,(n:Int)-nb (b++[c]))) L).1=_;rw[H pre c L b hW hb o];cases e:size-b.length with
   | zero =>
    rw[JR (show¬b.length<size by omega),JR (by omega),cw,KL]
    have ih:=oq H L (pre++[c]) b n hW2 hb.more hl (by
     rw[e,ak]at hn ⊢;exact hn)
    rw[e,cw,KL]at ih;rw[Int.sub_zero];exact ih
   | succ m =>
    rw[JS (show b.length<size by omega),Nat.add_sub_cancel,AM,JS o];rw[e,cnt,JS o]at hn
    by_cases q:n<cnt ok (b++[c]) L m
    ·have ih:=oq H L (pre++[c]) (b++[c]) n hW2 (hb.snoc o) (by rw[Jj];simp;omega) (by
      rw[Jj];show n<cnt ok (b++[c]) L (size-(b.length+1));rw[show size-(b.length+1)=m by omega];exact q)
     rw[JS (by omega),JS q,ih,Jj];show b++[c]++AM ok (b++[c]) L (size-(b.length+1)) n=_;rw[show size-(b.length+1)=m by omega,KW];rfl
    ·have ih:=oq H L (pre++[c]) b (n-cnt ok (b++[c]) L m) hW2 hb.more hl (by rw[e];omega)
     rw[JR (by omega),JR q,show(n:Int)-((cnt ok (b++[c]) L m:Nat):Int)=((n-cnt ok (b++[c]) L m:Nat):Int)by omega,ih,e]
  ·rw[JR o]
   have hn2:n<cnt ok b L (size-b.length):=by
    cases e:size-b.length with
    | zero=>rw[e,ak]at hn;rw[ak];exact hn
    | succ m=>rw[e,cnt,JR o,La]at hn;exact hn
   rw[oq H L (pre++[c]) b n hW2 hb.more hl hn2];cases e:size-b.length with
   | zero=>rw[cw,cw]
   | succ m=>rw[AM,JR o]
noncomputable def lC(ok:List α->α->Bool)(lt:α->α->Bool)(nb:List α->Int)(P:List α)(c:α):Int :=
 if c∈P then 0 else if ok (P.filter fun x=>lt x c) c then nb ((P.filter fun x=>lt x c)++[c])else 0
noncomputable def sumZ(f:α->Int):List α->Int
 | []=>0
 | c::L=>f c+sumZ f L
theorem jN{W P:List α}{nb:List α->Int}(hn:W.Nodup)(hs:W.Pairwise fun a c=>lt a c=true/\lt c a=false)(H:NB ok W P.length nb):∀(L pre b p:List α),W=pre++L->P=b++p->Lg ok [] pre b->Lg ok b L p->sumZ (lC ok lt nb P) L=((rM ok b L p:Nat):Int)
 | [],pre,b,p,_,_,_,hp=>by
  rw[hp.at_nil];rfl
 | c::L,pre,b,p,hW,hP,hb,hp=>by
  have hW2:W=(pre++[c])++L:=by rw[hW,KW];rfl
  have cL:c∉L:=by
   rw[hW]at hn;exact(Jt.mp (KU.mp hn).2.1).1
  have cpre:c∉pre:=by
   rw[hW]at hn;exact fun z=>(KU.mp hn).2.2 c z c JP rfl
  have sb:∀x∈b,lt x c=true:=fun x hx=>by
   rw[hW]at hs;exact((Ko.mp hs).2.2 x (hb.sub x hx) c JP).1
  have sL:∀x∈L,lt x c=false:=fun x hx=>by
   rw[hW]at hs;exact((Kz.mp (Ko.mp hs).2.1).1 x hx).2
  have skip:c∉p->Lg ok b L p->lC ok lt nb P c=if ok b c then(if 0<p.length then((cnt ok (b++[c]) L (p.length-1):Nat):Int)else 0)else 0:=fun cp hp2=>by
   have cP:c∉P:=by
    rw[hP,J0];exact fun z=>z.elim (fun z=>cpre (hb.sub c z)) cp
   have f:(P.filter fun x=>lt x c)=b:=by
    rw[hP,K1,List.filter_eq_self.mpr sb,List.filter_eq_nil_iff.mpr (fun x hx=>by rw[sL x (hp2.sub x hx)];decide),KL]
   have lP:P.length=b.length+p.length:=by rw[hP,Jj]
   unfold lC;rw[JR cP,f]
   by_cases o:ok b c=true
   ·rw[JS o,JS o,H pre c L b hW hb o,lP,show b.length+p.length-b.length-1=p.length-1 by omega]
    by_cases z:0<p.length
    ·rw[JS z,JS (by omega)]
    ·rw[JR z,JR (by omega)]
   ·rw[JR o,JR o]
  cases p with
  | nil =>
   rw[sumZ,skip (by simp) .nil,jN hn hs H L (pre++[c]) b [] hW2 hP hb.more .nil,jO,jO]
   split<;>rfl
  | cons x p =>
   rw[sumZ,rM]
   by_cases e:x=c
   ·subst e
    obtain⟨o,hp2⟩:=hp.at_take cL;have:lC ok lt nb P x=0:=by
     unfold lC;rw[JS (by rw[hP];simp)]
    rw[this,JS rfl,Lc,jN hn hs H L (pre++[x]) (b++[x]) p hW2 (by rw[hP,KW];rfl) (hb.snoc o) hp2]
   ·have hp2:=hp.at_skip e
    rw[JR e,skip (fun z=>cL (hp2.sub c z)) hp2,jN hn hs H L (pre++[c]) b (x::p) hW2 hP hb.more hp2];rw[Jh,JS (Nat.succ_pos _),Nat.add_sub_cancel]
    split<;>omega
end
end OD
namespace IR
open PySem
noncomputable def qS(T:Nat)(m:Int):Int:=if Builtin.bitAnd m (T:Int)=0 then 1 else 0
theorem n6(T m:Nat):qS T (m:Int)=if m &&& T=0 then 1 else 0:=by
 unfold qS;rw[rG]
 by_cases h:m &&& T=0
 ·rw[JS h,JS (by omega)]
 ·rw[JR h,JR (by omega)]
theorem ub{a b:Nat}:a ||| b=0↔a=0/\b=0:=by
 constructor
 ·intro h
  constructor
  ·refine Nat.eq_of_testBit_eq fun i=> ?_
   have:=Jw (fun x=>Nat.testBit x i) h;simp only[Nat.testBit_or,Nat.zero_testBit,Bool.or_eq_false_iff]at this ⊢;exact this.1
  ·refine Nat.eq_of_testBit_eq fun i=> ?_
   have:=Jw (fun x=>Nat.testBit x i) h;simp only[Nat.testBit_or,Nat.zero_testBit,Bool.or_eq_false_iff]at this ⊢;exact this.2
 ·rintro⟨rfl,rfl⟩
  rfl
theorem zG(T m c:Nat):(if Builtin.bitAnd (m:Int) ((2^c:Nat):Int)=0 then qS T (Builtin.bitOr (m:Int) ((2^c:Nat):Int))else 0)=if T.testBit c then 0 else qS (T ||| 2^c) (m:Int):=by
 rw[rG,vS,n6,n6,Nat.and_or_distrib_right,Nat.and_or_distrib_left];have e1:(((m &&& 2^c:Nat):Int)=0)↔m &&& 2^c=0:=by omega
 have e2:(2^c &&& T=0)↔T.testBit c=false:=by rw[Nat.and_comm];exact Ch T c
 by_cases h1:m &&& 2^c=0
 ·rw[JS (e1.mpr h1)]
  cases h2:T.testBit c with
  | true=>rw[JS rfl,JR (fun z=>by have:=e2.mp (ub.mp z).2;rw[h2]at this;cases this)]
  | false =>
   rw[JR JT];have h3:=e2.mpr h2;rw[h3,h1]
 ·rw[JR (fun z=>h1 (e1.mp z)),JR (fun z=>h1 (ub.mp z).2)]
  split<;>rfl
theorem uJ(T m:Nat):∀{r:List Nat},(∀c∈r,c<8)->Sb (jB r) (qS T) (m:Int)=bI (r.filter fun c=> !(kd T).contains c) fun c=>qS (T ||| 2^c) (m:Int)
 | [],_=>rfl
 | c::r,h=>by
  have e0:Sb (jB (c::r)) (qS T) (m:Int)=(if Builtin.bitAnd (m:Int) ((2^c:Nat):Int)=0 then qS T (Builtin.bitOr (m:Int) ((2^c:Nat):Int))else 0)+Sb (jB r) (qS T) (m:Int):=by
   unfold Sb jB;rw[JZ,aT]
  rw[e0,zG,uJ T m fun d hd=>h d (JO _ hd),Kb,fG (h c JP)];cases T.testBit c with
  | true=>simp
  | false=>simp[aT]
theorem oY{α:Type}(f:α->Int->Int)(t:am):∀l:List α,cW (fun m=>bI l fun c=>f c m) t=bI l fun c=>cW (f c) t
 | []=>oa t
 | c::l=>by
  rw[aT,<-oY f t l,<-uA];exact gu fun p _=>aT c l fun c=>f c p.1
noncomputable def uE:List (List Nat)->List am
 | []=>[[(0,1)]]
 | r::rows=>wl (uE rows) (jB r) (uE rows).length
theorem qN:bB [(0,1)]:=⟨by simp,fun p hp=>by
 rw[J5.mp hp];exact⟨⟨0,rfl,by decide⟩,by decide⟩⟩
theorem o4:∀{rows:List (List Nat)},iS rows->(uE rows).length=rows.length+1/\∀c∈uE rows,bB c
 | [],_=>⟨rfl,fun c hc=>by
  rw[J5.mp hc];exact qN⟩
 | r::rows,h=>by
  obtain⟨h1,h2⟩:=o4 (rows:=rows) fun r' hr=>h r' (JO _ hr);refine⟨?_,mi (ku (h r JP)) h2 _⟩;show(wl _ _ _).length=_;rw[jY,h1];rfl
theorem hX{Ls:List am}(h:∀c∈Ls,bB c)(j:Nat):bB (Ls.getD j []):=by
 rw[JX];cases e:Ls[j]? with
 | none=>exact gW
 | some c=>exact h c (Jn e)
theorem kM(Ls:List am)(j:Nat):(Ls++[[]]).getD j []=Ls.getD j []:=by
 rw[JX,JX,List.getElem?_append]
 split
 ·rfl
 ·rename_i h
  rw[KN (l:=Ls) (by omega)];cases e:j-Ls.length with
  | zero=>rfl
  | succ n=>rfl
theorem zZ{T c d:Nat}(hd:d<8):(kd (T ||| 2^c)).contains d=(c::kd T).contains d:=by
 rw[fG hd,LO,fG hd,Nat.testBit_or,Nat.testBit_two_pow,Bool.or_comm]
 congr 1
 by_cases e:c=d
 ·subst e;simp
 ·have:¬d=c:=fun z=>e z.symm
  simp[e,this]
theorem gy{α:Type}:∀l:List α,bI l (fun _=>0)=0
 | []=>rfl
 | x::l=>by rw[aT,gy l];rfl
theorem eX:∀(rows:List (List Nat))(T:List Nat)(k:Nat),rows.length<k->cnt rows T k=0
 | [],T,0,h=>by cases h
 | [],T,k+1,_=>rfl
 | r::rows,T,0,h=>by cases h
 | r::rows,T,k+1,h=>by
  rw[Jh]at h;rw[cnt,eX rows T (k+1) (by omega),ax (g:=fun _=>0) fun c _=>eX rows (c::T) k (by omega),gy];rfl
theorem uD:∀{rows:List (List Nat)},iS rows->∀T s:Nat,cW (qS T) ((uE rows).getD s [])=cnt rows (kd T) s
 | [],_,T,0=>by
  show 1*qS T ((0:Nat):Int)+0=1;rw[n6,Nat.zero_and];rfl
 | [],_,T,s+1=>rfl
 | r::rows,h,T,s=>by
  have hr:=h r JP;have hrest:iS rows:=fun r' hr=>h r' (JO _ hr);obtain⟨h1,h2⟩:=o4 hrest;have ih:=fun T s=>uD hrest T s;have e:(uE (r::rows)).getD s []=((uE (r::rows))[s]?).getD []:=JX ..;rw[e,show uE (r::rows)=wl (uE rows) (jB r) (uE rows).length from rfl,rQ _ _ _ _ (JV _)];cases s with
  | zero =>
   rw[JS (.inl rfl),<-JX,kM,ih,cnt]
  | succ s =>
   rw[cnt]
   by_cases q:(uE rows).length<s+1
   ·rw[JS (.inr q),<-JX,kM,ih]
    rw[ax (g:=fun _=>0) fun c _=>eX rows _ _ (by omega),gy];omega
   ·rw[JR (by omega),Option.getD_some,kM,uB _ (ku hr) (hX h2 _) (hX h2 _),ih,Nat.add_sub_cancel]
    refine Jw (_+·) ?_;rw[gu (χ:=fun m=>bI (r.filter fun c=> !(kd T).contains c) fun c=>qS (T ||| 2^c) m) fun p hp=> ?_,oY]
    ·refine ax fun c _=> ?_
     rw[ih];exact bv rows s fun r' hr' d hd=>zZ (hrest r' hr' d hd)
    ·obtain⟨⟨m,em,_⟩,_⟩:=(hX h2 s).2 p hp
     rw[em];exact uJ T m hr
noncomputable def cZ(b:List (Int×Int))(c:Int×Int):Bool:=(b.all fun x=>decide (x.1<c.1))&&(b.all fun x=>decide (x.2≠c.2))
noncomputable def pJ(r:Int)(cs:List Nat):List (Int×Int):=cs.map fun c:Nat=>(r,(c:Int))
noncomputable def ai:Int->List (List Nat)->List (Int×Int)
 | _,[]=>[]
 | r,cs::aN=>pJ r cs++ai (r+1) aN
noncomputable def b9(b:List (Int×Int)):List Nat:=b.map fun x=>x.2.toNat
theorem zd{b:List (Int×Int)}{r:Int}{c:Nat}(hb:∀x∈b,x.1<r/\0<=x.2):cZ b (r,(c:Int))= !(b9 b).contains c:=by
 unfold cZ b9;have e:(b.all fun x=>decide (x.1<r))=true:=Jf.mpr fun x hx=>Jo (hb x hx).1;show((b.all fun x=>decide (x.1<r))&&_)=_;rw[e,Bool.true_and,J8,Jf,LD,<-Ld,KH,JW]
 constructor
 ·rintro h ⟨x,hx,rfl⟩
  have h1:=Jr (h x hx);have h2:=(hb x hx).2
  apply h1
  show x.2=((x.2.toNat:Nat):Int);omega
 ·intro h x hx
  refine Jo fun z=>h ⟨x,hx,?_⟩;show x.2.toNat=c;have z:x.2=(c:Int):=z;omega
theorem uN{b:List (Int×Int)}{r:Int}(hb:∀x∈b,x.1<r/\0<=x.2)(L:List (Int×Int))(m:Nat):∀cs:List Nat,((OD.cnt cZ b (pJ r cs++L) (m+1):Nat):Int)=((OD.cnt cZ b L (m+1):Nat):Int)+bI (cs.filter fun c=> !(b9 b).contains c) fun c=>((OD.cnt cZ (b++[(r,(c:Int))]) L m:Nat):Int)
 | []=>by
  rw[List.filter_nil,bx];show((OD.cnt cZ b L (m+1):Nat):Int)=_;omega
 | c::cs=>by
  show((OD.cnt cZ b ((r,(c:Int))::(pJ r cs++L)) (m+1):Nat):Int)=_;rw[OD.cnt,Int.natCast_add,uN hb L m cs,Kb,zd hb];cases(b9 b).contains c with
  | true =>
   simp
  | false =>
   rw[Bool.not_false,JS rfl,JS rfl,aT,OD.kf (pJ r cs) L (b++[(r,(c:Int))]) m fun d hd=> ?_]
   ·omega
   ·obtain⟨c',_,rfl⟩:=JW.mp hd
    unfold cZ;have:((b++[(r,(c:Int))]).all fun x=>decide (x.1<r))=false:=by
     rw[List.all_append];simp
    show(((b++[(r,(c:Int))]).all fun x=>decide (x.1<r))&&_)=false;rw[this];rfl
theorem fH:∀(rows:List (List Nat))(r:Int)(b:List (Int×Int))(m:Nat),(∀x∈b,x.1<r/\0<=x.2)->((OD.cnt cZ b (ai r rows) m:Nat):Int)=cnt rows (b9 b) m
 | rows,r,b,0,_=>by rw[OD.ak,ak];rfl
 | [],r,b,m+1,_=>rfl
 | cs::rows,r,b,m+1,hb=>by
  rw[ai,uN hb,cnt,fH rows (r+1) b (m+1) fun x hx=>⟨by have:=(hb x hx).1;omega,(hb x hx).2⟩];refine Jw (_+·) (ax fun c _=> ?_);rw[fH rows (r+1) (b++[(r,(c:Int))]) m fun x hx=> ?_]
  ·refine bv rows m fun r' _ d _=> ?_
   unfold b9;rw[Ji,J8,KH,KH,J0,Jg];simp[or_comm]
  ·rcases J0.mp hx with z|z
   ·have:=hb x z
    exact⟨by omega,this.2⟩
   ·rw[J5.mp z]
    exact⟨by show r<r+1;omega,by show(0:Int)<=(c:Int);omega⟩
theorem pI{r:Int}{cs:List Nat}{c:Int×Int}(h:c∈pJ r cs):c.1=r/\0<=c.2:=by
 obtain⟨n,_,rfl⟩:=JW.mp h;exact⟨rfl,by show(0:Int)<=(n:Int);omega⟩
theorem eZ:∀(rows:List (List Nat))(r:Int)(pre:List (Int×Int))(c:Int×Int)(L:List (Int×Int)),ai r rows=pre++c::L->∃(j:Nat)(M:List (Int×Int)),c.1=r+j/\0<=c.2/\j<rows.length/\L=M++ai (r+j+1) (rows.drop (j+1))/\∀d∈M,d.1=c.1
 | [],r,pre,c,L,h=>by
  have:=Jw List.length h;rw[Jj,Jh]at this;exact absurd this (by show¬(0=_);omega)
 | cs::rows,r,pre,c,L,h=>by
  rw[ai]at h;have next:∀pre',ai (r+1) rows=pre' ++c::L->∃(j:Nat)(M:List (Int×Int)),c.1=r+j/\0<=c.2/\j<(cs::rows).length/\L=M++ai (r+j+1) ((cs::rows).drop (j+1))/\∀d∈M,d.1=c.1:=fun pre' h=>by
   obtain⟨j,M,h1,h2,h3,h4,h5⟩:=eZ rows (r+1) pre' c L h;refine⟨j+1,M,by omega,h2,by rw[Jh];omega,?_,h5⟩;rw[h4,List.drop_succ_cons,show r+1+(j:Int)+1=r+((j+1:Nat):Int)+1 by omega]
  rcases List.append_eq_append_iff.mp h with⟨a,h1,h2⟩|⟨a,h1,h2⟩
  ·exact next a h2
  ·cases a with
   | nil=>exact next [] h2.symm
   | cons d a =>
    rw[List.cons_append]at h2;obtain⟨rfl,h3⟩:=List.cons.inj h2;have m:∀x∈c::a,x.1=r/\0<=x.2:=fun x hx=>pI (cs:=cs) (by rw[h1];exact KG _ hx);obtain⟨m1,m2⟩:=m c JP;refine⟨0,a,by omega,m2,by rw[Jh];omega,?_,fun d hd=>by rw[(m d (JO _ hd)).1,m1]⟩;rw[h3];show a++ai (r+1) rows=a++ai (r+(0:Nat)+1) rows;rw[show r+((0:Nat):Int)+1=r+1 by omega]
noncomputable def bz(b:List (Int×Int)):Nat:=match b.getLast? with
 | some c=>(c.1+1).toNat
 | none=>0
noncomputable def nS(rows:List (List Nat))(size:Nat)(b:List (Int×Int)):Int:=if b.length<=size then cnt (rows.drop (bz b)) (b9 b) (size-b.length)else 0
theorem Bc:∀{b L p:List (Int×Int)}{c:Int×Int},OD.Lg cZ b L p->cZ (b++p) c=true->∀x∈b++p,x.1<c.1:=fun{b L p c} _ o x hx=>by
 unfold cZ at o;rw[JU,Jf]at o;exact Jr (o.1 x hx)
theorem ge{rows:List (List Nat)}{r:Int}{x:Int×Int}(h:x∈ai r rows):0<=x.2/\r<=x.1:=by
 obtain⟨pre,L,e⟩:=List.append_of_mem h;obtain⟨j,M,h1,h2,_⟩:=eZ rows r pre x L e;exact⟨h2,by omega⟩
theorem C7(rows:List (List Nat))(size:Nat):OD.NB cZ (ai 0 rows) size (nS rows size):=by
 intro pre c L b hW hb o;obtain⟨j,M,h1,h2,h3,h4,h5⟩:=eZ rows 0 pre c L hW;have bc:∀x∈b,x.1<c.1:=Bc (b:=[]) hb o;have bn:∀x∈b,0<=x.2:=fun x hx=>(ge (rows:=rows) (r:=0) (by rw[hW];exact Kp _ (hb.sub x hx))).1;unfold nS;rw[Jj];show(if b.length+1<=size then _ else _)=_
 by_cases q:b.length<size
 ·rw[JS (by omega),JS q,h4,OD.kf M _ _ _ fun d hd=> ?_]
  ·have e:bz (b++[c])=j+1:=by
    unfold bz;rw[List.getLast?_concat];show(c.1+1).toNat=j+1;omega
   rw[e,fH (rows.drop (j+1)) (0+(j:Int)+1) (b++[c]) (size-b.length-1) fun x hx=> ?_]
   ·rw[show size-(b.length+[c].length)=size-b.length-1 by show size-(b.length+1)=_;omega]
   ·rcases J0.mp hx with z|z
    ·have:=bc x z
     exact⟨by omega,bn x z⟩
    ·rw[J5.mp z]
     exact⟨by omega,h2⟩
  ·unfold cZ
   have:((b++[c]).all fun x=>decide (x.1<d.1))=false:=by
    rw[List.all_append,h5 d hd];simp
   rw[this];rfl
 ·rw[JR (by omega),JR q]
structure AS(b:List (Int×Int)):Prop where
 rows:(b.map (·.1)).Pairwise (·<·)
 cols:(b.map (·.2)).Nodup
theorem Cd:AS []:=⟨.nil,.nil⟩
theorem BR{b:List (Int×Int)}{c:Int×Int}:cZ b c=true↔∀x∈b,x.1<c.1/\x.2≠c.2:=by
 unfold cZ;rw[JU,Jf,Jf]
 constructor
 ·rintro⟨h1,h2⟩ x hx
  exact⟨Jr (h1 x hx),Jr (h2 x hx)⟩
 ·intro h
  exact⟨fun x hx=>Jo (h x hx).1,fun x hx=>Jo (h x hx).2⟩
theorem gk{b:List (Int×Int)}{c:Int×Int}:AS (b++[c])↔AS b/\cZ b c=true:=by
 rw[BR]
 constructor
 ·rintro⟨h1,h2⟩
  rw[Ji,Ko]at h1;rw[Ji,KU]at h2;refine⟨⟨h1.1,h2.1⟩,fun x hx=>⟨h1.2.2 x.1 (JW.mpr ⟨x,hx,rfl⟩) c.1 (by simp),h2.2.2 x.2 (JW.mpr ⟨x,hx,rfl⟩) c.2 (by simp)⟩⟩
 ·rintro⟨⟨h1,h2⟩,h3⟩
  refine⟨?_,?_⟩
  ·rw[Ji,Ko]
   refine⟨h1,List.pairwise_singleton _ _,fun a ha d hd=> ?_⟩;obtain⟨x,hx,rfl⟩:=JW.mp ha;rw[MH,J5]at hd;subst hd;exact(h3 x hx).1
  ·rw[Ji,KU]
   refine⟨h2,by simp,fun a ha d hd=> ?_⟩;obtain⟨x,hx,rfl⟩:=JW.mp ha;rw[MH,J5]at hd;subst hd;exact(h3 x hx).2
theorem Cc{b p:List (Int×Int)}(h:AS (b++p)):AS b:=by
 obtain⟨h1,h2⟩:=h;rw[Ji]at h1 h2;exact⟨(Ko.mp h1).1,(KU.mp h2).1⟩
theorem Ej{b L p:List (Int×Int)}(h:OD.Lg cZ b L p):AS b->AS (b++p):=by
 induction h with
 | nil =>
  intro a;rw[KL];exact a
 | take o _ ih =>
  intro a;have:=ih (gk.mpr ⟨a,o⟩);rw[KW]at this;exact this
 | skip _ ih=>exact ih
theorem tZ:∀(L b p:List (Int×Int)),L.Pairwise (fun a c=>a.1<=c.1)->AS (b++p)->(∀x∈p,x∈L)->OD.Lg cZ b L p
 | L,b,[],_,_,_=>.nil
 | [],b,x::p,_,_,h=>by cases h x JP
 | c::L,b,x::p,hs,a,h=>by
  obtain⟨hs1,hs2⟩:=Kz.mp hs;have up:∀y∈p,x.1<y.1:=fun y hy=>by
   have:=a.rows;rw[Ji,Ko,JZ]at this;exact(Kz.mp this.2.1).1 y.1 (JW.mpr ⟨y,hy,rfl⟩)
  by_cases e:x=c
  ·subst e
   have a2:AS (b++[x]++p):=by rw[KW];exact a
   refine .take (gk.mp (Cc a2)).2 (tZ L (b++[x]) p hs2 a2 fun y hy=> ?_)
   rcases Jg.mp (h y (JO _ hy))with z|z
   ·have:=up y hy
    rw[z]at this;omega
   ·exact z
  ·have xL:x∈L:=(Jg.mp (h x JP)).resolve_left e
   refine .skip (tZ L b (x::p) hs2 a fun y hy=> ?_)
   rcases Jg.mp hy with rfl|hy
   ·exact xL
   ·rcases Jg.mp (h y (JO _ hy))with z|z
    ·have h1:=up y hy
     have h2:=hs1 x xL;rw[z]at h1;omega
    ·exact z
noncomputable def gS(a c:Int×Int):Bool:=if a.1=c.1 then decide (a.2<c.2)else decide (a.1<c.1)
theorem A0(r:Int):∀{cs:List Nat},cs.Pairwise (·<·)->(pJ r cs).Pairwise fun a c=>gS a c=true/\gS c a=false:=fun{cs} h=>by
 unfold pJ;rw[LB];refine h.imp fun{a c} z=> ?_;unfold gS;rw[JS rfl,JS rfl];exact⟨Jo (by show(a:Int)<(c:Int);omega),Jk (by show¬(c:Int)<(a:Int);omega)⟩
theorem bR:∀{rows:List (List Nat)}{r:Int},(∀cs∈rows,cs.Pairwise (·<·))->(ai r rows).Pairwise fun a c=>gS a c=true/\gS c a=false
 | [],r,_=>.nil
 | cs::rows,r,h=>by
  rw[ai,Ko];refine⟨A0 r (h cs JP),bR fun c hc=>h c (JO _ hc),fun a ha c hc=> ?_⟩;have h1:=(pI ha).1;have h2:=(ge hc).2;unfold gS;rw[JR (by omega),JR (by omega)];exact⟨Jo (by omega),Jk (by omega)⟩
theorem BZ(a:Int×Int):gS a a=false:=by
 unfold gS;rw[JS rfl];exact Jk (by omega)
theorem dG{L:List (Int×Int)}(h:L.Pairwise fun a c=>gS a c=true/\gS c a=false):L.Nodup :=
 h.imp fun z e=>by
  rw[e,BZ]at z;cases z.1
theorem BX{L:List (Int×Int)}(h:L.Pairwise fun a c=>gS a c=true/\gS c a=false):L.Pairwise fun a c=>a.1<=c.1 :=
 h.imp fun{a c} z=>by
  have z1:=z.1;unfold gS at z1
  split at z1
  ·omega
  ·have:=Jr z1
   omega
section
variable{rows:List (List Nat)}(hr:∀cs∈rows,cs.Pairwise (·<·))
noncomputable def AR(rows:List (List Nat))(p:List (Int×Int)):Prop:=AS p/\∀x∈p,x∈ai 0 rows
theorem fc{p:List (Int×Int)}(hr:∀cs∈rows,cs.Pairwise (·<·)):AR rows p↔OD.Lg cZ [] (ai 0 rows) p :=
 ⟨fun h=>tZ _ [] p (BX (bR hr)) h.1 h.2,fun h=>⟨Ej h Cd,h.sub⟩⟩
noncomputable def bh(rows:List (List Nat))(p:List (Int×Int)):Nat:=OD.rM cZ [] (ai 0 rows) p
theorem wC{p:List (Int×Int)}(hr:∀cs∈rows,cs.Pairwise (·<·))(hp:AR rows p):OD.sumZ (OD.lC cZ gS (nS rows p.length) p) (ai 0 rows)=((bh rows p:Nat):Int) :=
 OD.jN (dG (bR hr)) (bR hr) (C7 rows p.length) (ai 0 rows) [] [] p rfl rfl .nil ((fc hr).mp hp)
theorem nF{p:List (Int×Int)}(hr:∀cs∈rows,cs.Pairwise (·<·))(hp:AR rows p):((bh rows p:Nat):Int)<cnt rows [] p.length:=by
 have h1:=OD.fY _ [] p (dG (bR hr)) ((fc hr).mp hp);have h2:=fH rows 0 [] p.length fun x hx=>by cases hx
 have h3:b9 []=[]:=rfl;rw[h3]at h2;rw[<- h2];unfold bh;omega
theorem rX{p:List (Int×Int)}(hr:∀cs∈rows,cs.Pairwise (·<·))(hp:AR rows p):((ai 0 rows).foldl (OD.turn cZ (nS rows p.length)) ([],((bh rows p:Nat):Int))).1=p:=by
 have lg:=(fc hr).mp hp;have h1:=OD.fY _ [] p (dG (bR hr)) lg;rw[OD.oq (C7 rows p.length) (ai 0 rows) [] [] (bh rows p) rfl .nil (Js _) h1];exact OD.gB _ [] p (dG (bR hr)) lg
theorem xm{p q:List (Int×Int)}(hr:∀cs∈rows,cs.Pairwise (·<·))(hp:AR rows p)(hq:AR rows q)(hl:p.length=q.length):decide (bh rows p<bh rows q)=OD.Be gS p q :=
 OD.nA _ [] p q (dG (bR hr)) (bR hr) ((fc hr).mp hp) ((fc hr).mp hq) hl
theorem xo{p q:List (Int×Int)}(hr:∀cs∈rows,cs.Pairwise (·<·))(hp:AR rows p)(hq:AR rows q)(hl:p.length=q.length):bh rows p=bh rows q↔p=q :=
 ⟨OD.A1 (dG (bR hr)) ((fc hr).mp hp) ((fc hr).mp hq) hl,fun e=>by rw[e]⟩
end
noncomputable def chR(C:List (List Int))(r:Int):List Int:=C.getD r.toNat []
noncomputable def tkL(rec:am->Int->List Int->Bool×am×List Int)(row:Int):List Int->am->List Int->Bool×am×List Int
 | [],H,T=>(false,H,T)
 | c::cs,H,T=>if T.contains c then tkL rec row cs H T else match gX H c with
  | none=>(true,g0 H c row,T++[c])
  | some r=>match rec H r (T++[c])with
   | (true,H',T')=>(true,g0 H' c row,T')
   | (false,H',T')=>tkL rec row cs H' T'
noncomputable def tk(C:List (List Int)):Nat->am->Int->List Int->Bool×am×List Int
 | 0,H,_,T=>(false,H,T)
 | n+1,H,row,T=>tkL (tk C n) row (chR C row) H T
noncomputable def hd(C:List (List Int)):Nat->am
 | 0=>[]
 | k+1=>(tk C 9 (hd C k) (k:Nat) []).2.1
section
variable{C:List (List Int)}{H:am}{n k:Nat}{R Q:List Int}
end
end IR
namespace XE
open PySem
section
variable{M:Model}{A:Around}{E:Value->Shared->Prop}{s:Shared}{base:Heap}{env:Env}{outer:List Env}{L e T:Addr}{cls fl:Value}{dd:Option Addr}{Q:Unit->Shared->Prop}{oe:Obj}{vs:Array Value}
end
end XE
namespace XE
open PySem PySem.W PyProof.Rows
section
variable{prog:Program}{w:World}{A:Around}{E:Value->Shared->Prop}{s:Shared}{K:Frag}{e C:Addr}{ox:Obj}
end
end XE
namespace L2.XN
open PySem PySem.Spec PyProof.Rows L2 XE
section
variable{P:Program}{w:World}{H H' :Hp}{h h' h2:Heap}{a:Addr}{o:HO}{fs ns:List Addr}
end
section
variable{P:Program}{w:World}{K:W.Frag}{mg:Str->Option Value}{base:Heap}{N:List Str}{qual:Str}{scope:Scope}{f C:Addr}{cd:Value}{A:Around}{outer:List Env}{s s1:Shared}{H H1:Hp}{E:XK}
 {pins:List (Addr×Obj)} {σ:St}
end
end L2.XN
namespace L2.XN
open PySem PySem.Spec PyProof.Rows L2 XE
section
variable{X:Cx}{pins:List (Addr×Obj)}{σ:St}{H:Hp}{s:Shared}{W:Value->Shared->Prop}{A:Around}{cm:Bool}
noncomputable abbrev HQ(X:Cx)(pn:List (Addr×Obj))(W:Value->Shared->Prop):Cx:={X with pn:=pn,xe:=W}
theorem pinned(I:Inv X pins σ H s):Inv (HQ X (X.pn++pins) W) [] σ H s :=
 ⟨⟨I.ok.mod,I.ok.kind,I.ok.glob,I.ok.blt,I.ok.above,I.ok.inj,I.ok.has,I.ok.cab,I.ok.hd,I.ok.frames,I.ok.stk,I.ok.exf,I.ok.bs,I.ok.bsz,I.ok.noex,I.ok.exfs,I.ok.funs,I.ok.frf⟩,I.os,I.bare,I.base,I.loc,I.cell,I.free,I.freeC,
  fun p hp=>I.pin p (by rw[KL]at hp;exact hp),I.hok,I.len⟩
theorem unpinned{p2:List (Addr×Obj)}(ok:X.Ok)(I:Inv (HQ X (X.pn++pins) W) p2 σ H s):Inv X pins σ H s :=
 ⟨ok,I.os,I.bare,I.base,I.loc,I.cell,I.free,I.freeC,fun p hp=>I.pin p (Kp _ hp),I.hok,I.len⟩
end
end L2.XN
namespace L2.XN
open PySem PySem.Spec PyProof.Rows L2 XE
section
variable{K:W.Frag}{mg:Str->Option Value}{x:Str}{C D:Addr}{b:Bool}
end
section
variable{X:Cx}{e C:Addr}{dd:Option Addr}{oe:Obj}{c:V}{u:Value}{b:Bool}
end
end L2.XN
namespace IR
open PySem PySem.Spec PyProof.Rows L2 L2.XN
section
variable(cd:Nat->List PV->Option PV)(xd:Nat->List PV->Bool)(fu:Nat)(cn:Str)
end
section
variable{cd:Nat->List PV->Option PV}{xd:Nat->List PV->Bool}{fu:Nat}{cn:Str}{C:Addr}{E:XK}{X:Cx}{ct:Ct}{Hi:Hp}{τ:En}
end
section
variable{cd:Nat->List PV->Option PV}{xd:Nat->List PV->Bool}{fu:Nat}{cn:Str}{τ τ1:En}{s:IS}{ss:wy}
end
section
variable{K:W.Frag}{mg:Str->Option Value}{P:Nat->Option FD}{F:List (Str×Nat)}{G:List (Str×PV)}{B:List Str}{p:Program}{w:World}{base:Heap}{k:Nat}
variable(hG:∀x v,G.lookup x=some v->∃u w,mg x=some u/\RelV w u/\∀Hi n H,Rp K Hi n v H w)(hB:∀x,B.contains x=true->mg x=none)
include hG hB
end
section
variable{K:W.Frag}{mg:Str->Option Value}{P:Nat->Option FD}{F0:List (Str×Nat)}{G0:List (Str×PV)}{B0:List Str}
end
end IR
namespace Law
open PySem PySem.Spec PyProof.Rows L2 IR
noncomputable def jG(i:Nat):Stmt:=PySem.Challenge.pw_unstruck_k51_there_and_back.main.body.getD i (.Pass ⟨0,0,0,0⟩)
noncomputable def F:List (Str×Nat):=[("cells_of",3),("is_number",24),("is_cell",25),("is_placing",26),("bits_of",46),("with_line",47),("tails_of",163),("row_behind",164),("columns_taken",165),("number_beginning",166),("placing_at",167),("start_at",168),("number_of",169),("_law_cell",4),("_law_mixed",5),("_law_deep",20),("_law_board",62),("_law_cells",66),("_law_whole",8),("_law_same",9),("_law_all_same",10),("_law_placing",170),("_law_row",64),("_law_good",171),("law",172)]
noncomputable def G:List (Str×PV):=[("CELL",(.str "x"))]
noncomputable def B:List Str:=["len","int","list","tuple","all","min","max","isinstance","str","bool","range","zip","enumerate","sorted","set","sum","reversed","dict"]
noncomputable abbrev s3:Stmt:=jG 2
noncomputable abbrev N3:List Str:=["board","cells","row","line","column","sign"]
noncomputable abbrev Dl:Stmt:=jG 3
noncomputable abbrev N24:List Str:=["thing"]
noncomputable abbrev Dk:Stmt:=jG 4
noncomputable abbrev N25:List Str:=["board","thing","row","column"]
noncomputable abbrev Dj:Stmt:=jG 5
noncomputable abbrev N26:List Str:=["board","thing","rows","columns"]
noncomputable abbrev Di:Stmt:=jG 7
noncomputable abbrev N46:List Str:=["line","bits","bit","sign"]
noncomputable abbrev GJ:Stmt:=jG 8
noncomputable abbrev N47:List Str:=["levels","bits","after","size","level","above","taken","count","bit"]
noncomputable abbrev sE:Stmt:=jG 13
noncomputable abbrev Iz:List Str:=["board","tails","line"]
noncomputable abbrev sD:Stmt:=jG 14
noncomputable abbrev Iy:List Str:=["begun"]
noncomputable abbrev sC:Stmt:=jG 15
noncomputable abbrev Ix:List Str:=["begun"]
noncomputable abbrev sB:Stmt:=jG 16
noncomputable abbrev Iw:List Str:=["tails","begun","size","tail","further","taken"]
noncomputable abbrev sA:Stmt:=jG 17
noncomputable abbrev Iv:List Str:=["board","size","number","tails","begun","left","cell","start","count"]
noncomputable abbrev rq:Stmt:=jG 18
noncomputable abbrev Iu:List Str:=["placing","cell"]
noncomputable abbrev rm:Stmt:=jG 19
noncomputable abbrev Ir:List Str:=["board","placing","tails","starts"]
noncomputable abbrev s4:Stmt:=jG 21
noncomputable abbrev N4:List Str:=["_law_script","_law_k"]
noncomputable abbrev s5:Stmt:=jG 22
noncomputable abbrev N5:List Str:=["_law_cell_here","_law_k","_law_number"]
noncomputable abbrev Dm:Stmt:=jG 23
noncomputable abbrev N20:List Str:=["_law_cell_here","_law_number","_law_k"]
noncomputable abbrev Dh:Stmt:=jG 24
noncomputable abbrev N62:List Str:=["_law_head","_law_cell_here","_law_most","_law_rows","_law_columns","_law_thick","_law_lines","_law_row_here","_law_signs","_law_column","_law_place","_law_one"]
noncomputable abbrev Df:Stmt:=jG 25
noncomputable abbrev N66:List Str:=["_law_board_here","_law_found","_law_row_here","_law_column"]
noncomputable abbrev s8:Stmt:=jG 26
noncomputable abbrev N8:List Str:=["_law_found"]
noncomputable abbrev s9:Stmt:=jG 27
noncomputable abbrev N9:List Str:=["_law_found","_law_due"]
noncomputable abbrev Do:Stmt:=jG 28
noncomputable abbrev N10:List Str:=["_law_found","_law_due","_law_one","_law_other"]
noncomputable abbrev rj:Stmt:=jG 29
noncomputable abbrev Iq:List Str:=["_law_board_here","_law_cell_here","_law_size","_law_found","_law_some","_law_one"]
noncomputable abbrev Dg:Stmt:=jG 30
noncomputable abbrev N64:List Str:=["_law_board_here","_law_counts","_law_line","_law_fresh","_law_taken","_law_column","_law_more","_law_found"]
noncomputable abbrev rh:Stmt:=jG 31
noncomputable abbrev Ip:List Str:=["_law_board_here","_law_placing_here","_law_numbers","_law_number"]
noncomputable abbrev lJ:Stmt:=jG 32
noncomputable abbrev Io:List Str:=["_law_script","_law_board_here","_law_numbers","_law_before","_law_wide","_law_k","_law_cell_here","_law_placing_here","_law_other","_law_one","_law_here","_law_there"]
noncomputable def d3:FD:=⟨6,1,
  (.cons (.asg 1 true [] (.lst .nil))
  (.cons (.forr [2,3] false [0] (.enum (.var 0)) (.cons (.forr [4,5] false [3] (.enum (.var 3)) (.cons (.ife (.val (.cmp .Eq (.var 5) (.con (.str "x")))) (.cons (.app 1 [2,4] (.tup (.cons (.var 2) (.cons (.var 4) .nil))))
  .nil) .nil)
  .nil))
  .nil))
  (.cons (.ret [1] (.var 1))
  .nil)))⟩
noncomputable def d24:FD:=⟨1,1,
  (.cons (.ret [] (.and (.bf (.isin "int") (.cons (.var 0) .nil)) (.not (.bf (.isin "bool") (.cons (.var 0) .nil)))))
  .nil)⟩
noncomputable def d25:FD:=⟨4,2,
  (.cons (.ife (.or (.not (.val (.bf (.isin "tuple") (.cons (.var 1) .nil)))) (.val (.cmp .NotEq (.bf .len (.cons (.var 1) .nil)) (.con (.int 2))))) (.cons (.ret [] (.con (.bl false)))
  .nil) .nil)
  (.cons (.asg 2 false [] (.ix (.var 1) (.con (.int 0))))
  (.cons (.asg 3 false [] (.ix (.var 1) (.con (.int 1))))
  (.cons (.ife (.or (.not (.val (.call 24 (.cons (.var 2) .nil)))) (.not (.val (.call 24 (.cons (.var 3) .nil))))) (.cons (.ret [] (.con (.bl false)))
  .nil) .nil)
  (.cons (.ife (.or (.not (.val (.chn .LtE .Lt (.con (.int 0)) (.var 2) (.bf .len (.cons (.var 0) .nil))))) (.not (.val (.chn .LtE .Lt (.con (.int 0)) (.var 3) (.bf .len (.cons (.ix (.var 0) (.con (.int 0))) .nil)))))) (.cons (.ret [] (.con (.bl false)))
  .nil) .nil)
  (.cons (.ret [] (.cmp .Eq (.ix (.ix (.var 0) (.var 2)) (.var 3)) (.con (.str "x"))))
  .nil))))))⟩
noncomputable def d26:FD:=⟨4,2,
  (.cons (.ife (.not (.val (.bf (.isin "tuple") (.cons (.var 1) .nil)))) (.cons (.ret [] (.con (.bl false)))
  .nil) .nil)
  (.cons (.ife (.not (.val (.bf .all (.cons (.lc (.call 25 (.cons (.var 1) (.cons (.var 0) .nil))) (.seq (.var 1)) .no [0]) .nil)))) (.cons (.ret [] (.con (.bl false)))
  .nil) .nil)
  (.cons (.asg 2 false [] (.lc (.ix (.var 0) (.con (.int 0))) (.seq (.var 1)) .no []))
  (.cons (.asg 3 false [] (.lc (.ix (.var 0) (.con (.int 1))) (.seq (.var 1)) .no []))
  (.cons (.ret [] (.and (.cmp .Eq (.var 2) (.bf .sset (.cons (.var 2) .nil))) (.cmp .Eq (.bf .lset (.cons (.var 3) .nil)) (.bf .len (.cons (.var 3) .nil)))))
  .nil)))))⟩
noncomputable def d46:FD:=⟨4,1,
  (.cons (.asg 1 true [] (.lst .nil))
  (.cons (.asg 2 false [] (.con (.int 1)))
  (.cons (.forr [3] true [0] (.seq (.var 0)) (.cons (.ife (.val (.cmp .Eq (.var 3) (.con (.str "x")))) (.cons (.app 1 [2] (.var 2))
  .nil) .nil)
  (.cons (.asg 2 false [] (.bin .Mult (.var 2) (.con (.int 2))))
  .nil)))
  (.cons (.ret [1] (.var 1))
  .nil))))⟩
noncomputable def GN:FD:=⟨9,2,
  (.cons (.hand 2 bY) .nil)⟩
noncomputable def Fh:FD:=⟨3,1,
  (.cons (.asg 1 false [] (.lst (.cons (.lst (.cons (.dlit (.inl 0) (.con (.int 1))) .nil)) .nil)))
  (.cons (.forr [2] true [0] (.rvd (.var 0)) (.cons (.asg 1 false [] (.bin .Add (.lst (.cons (.call 47 (.cons (.ix (.var 1) (.con (.int 0))) (.cons (.call 46 (.cons (.var 2) .nil)) .nil))) .nil)) (.var 1)))
  .nil))
  (.cons (.ret [1] (.var 1))
  .nil)))⟩
noncomputable def Fg:FD:=⟨1,1,
  (.cons (.ret [] (.ite (.val (.cmp .Gt (.bf .len (.cons (.var 0) .nil)) (.con (.int 0)))) (.bin .Add (.ix (.ix (.var 0) (.neg (.con (.int 1)))) (.con (.int 0))) (.con (.int 1))) (.con (.int 0))))
  .nil)⟩
noncomputable def Ff:FD:=⟨1,1,
  (.cons (.ret [0] (.lc (.ix (.var 0) (.con (.int 1))) (.seq (.var 0)) .no []))
  .nil)⟩
noncomputable def Fe:FD:=⟨6,3,
  (.cons (.asg 3 false [] (.ix (.var 0) (.call 164 (.cons (.var 1) .nil))))
  (.cons (.asg 4 false [] (.bin .Sub (.var 2) (.bf .len (.cons (.var 1) .nil))))
  (.cons (.ife (.not (.val (.chn .LtE .Lt (.con (.int 0)) (.var 4) (.bf .len (.cons (.var 3) .nil))))) (.cons (.ret [] (.con (.int 0)))
  .nil) .nil)
  (.cons (.asg 5 false [] (.bf .sum (.cons (.lc (.bin .LShift (.con (.int 1)) (.var 0)) (.seq (.call 165 (.cons (.var 1) .nil))) .no []) .nil)))
  (.cons (.ret [] (.bf .sum (.cons (.lci (.ix (.var 3) (.var 4)) 5) .nil)))
  .nil)))))⟩
noncomputable def Fd:FD:=⟨9,3,
  (.cons (.asg 3 false [] (.call 163 (.cons (.var 0) .nil)))
  (.cons (.ife (.not (.val (.chn .LtE .Lt (.con (.int 0)) (.var 2) (.call 166 (.cons (.var 3) (.cons (.tup .nil) (.cons (.var 1) .nil))))))) (.cons (.rais "NoPlacing")
  .nil) .nil)
  (.cons (.asg 4 false [] (.tup .nil))
  (.cons (.asg 5 false [2] (.var 2))
  (.cons (.forr [6] true [] (.seq (.call 3 (.cons (.var 0) .nil))) (.cons (.asg 7 false [] (.bin .Add (.var 4) (.tup (.cons (.var 6) .nil))))
  (.cons (.ife (.val (.call 26 (.cons (.var 0) (.cons (.var 7) .nil)))) (.cons (.asg 8 false [] (.call 166 (.cons (.var 3) (.cons (.var 7) (.cons (.var 1) .nil)))))
  (.cons (.ife (.val (.cmp .Lt (.var 5) (.var 8))) (.cons (.asg 4 false [7] (.var 7))
  .nil) (.cons (.aug 5 .Sub (.var 8))
  .nil))
  .nil)) .nil)
  .nil)))
  (.cons (.ret [4] (.var 4))
  .nil))))))⟩
noncomputable def Fc:FD:=⟨2,2,
  (.cons (.ret [0,1] (.bin .Add (.bf .tuple (.cons (.lc (.var 0) (.seq (.var 0)) (.yes (.val (.cmp .Lt (.var 0) (.var 1)))) [1]) .nil)) (.tup (.cons (.var 1) .nil))))
  .nil)⟩
noncomputable def Fb:FD:=⟨4,2,
  (.cons (.ife (.not (.val (.call 26 (.cons (.var 0) (.cons (.var 1) .nil))))) (.cons (.rais "NoPlacing")
  .nil) .nil)
  (.cons (.asg 2 false [] (.call 163 (.cons (.var 0) .nil)))
  (.cons (.asg 3 false [] (.lc (.call 168 (.cons (.var 1) (.cons (.var 0) .nil))) (.seq (.call 3 (.cons (.var 0) .nil))) (.yes (.val (.cmp .NotIn (.var 0) (.var 1)))) [1]))
  (.cons (.ret [] (.bf .sum (.cons (.lc (.call 166 (.cons (.var 3) (.cons (.var 0) (.cons (.bf .len (.cons (.var 2) .nil)) .nil)))) (.seq (.var 3)) (.yes (.val (.call 26 (.cons (.var 1) (.cons (.var 0) .nil))))) [0,1,2]) .nil)))
  .nil))))⟩
noncomputable def d4:FD:=⟨2,2,
  (.cons (.ife (.val (.cmp .Lt (.var 1) (.bf .len (.cons (.var 0) .nil)))) (.cons (.ret [] (.ix (.var 0) (.var 1)))
  .nil) .nil)
  (.cons (.ret [] (.con (.int 0)))
  .nil))⟩
noncomputable def d5:FD:=⟨3,2,
  (.cons (.asg 2 false [] (.bin .Mod (.bin .Add (.bin .Add (.bin .Mult (.bin .Mod (.var 0) (.con (.int 2147483647))) (.con (.int 39373))) (.bin .Mult (.bin .Mult (.con (.int 7877)) (.var 1)) (.var 1))) (.con (.int 60493))) (.con (.int 2147483647))))
  (.cons (.asg 2 false [] (.bin .Mod (.bin .Mult (.var 2) (.var 2)) (.con (.int 2147483629))))
  (.cons (.ret [2,1,2] (.bin .Mod (.bin .Mult (.bin .Add (.bin .Mult (.var 2) (.con (.int 48271))) (.var 1)) (.var 2)) (.con (.int 2147483587))))
  .nil)))⟩
noncomputable def d20:FD:=⟨3,1,
  (.cons (.ife (.val (.cmp .GtE (.var 0) (.bin .LShift (.con (.int 1)) (.con (.int 64))))) (.cons (.ret [0] (.bin .Sub (.var 0) (.bin .LShift (.con (.int 1)) (.con (.int 64)))))
  .nil) .nil)
  (.cons (.asg 1 false [] (.con (.int 0)))
  (.cons (.forr [2] true [] (.rng (.cons (.con (.int 8)) .nil)) (.cons (.asg 1 false [] (.bin .Add (.bin .Mult (.var 1) (.con (.int 2147483587))) (.call 5 (.cons (.var 0) (.cons (.bin .Add (.bin .Mult (.con (.int 7)) (.var 2)) (.con (.int 3))) .nil)))))
  .nil))
  (.cons (.ret [1] (.var 1))
  .nil))))⟩
noncomputable def d62:FD:=⟨12,3,
  (.cons (.asg 3 false [] (.bin .Add (.con (.int 1)) (.bin .Mod (.var 0) (.var 2))))
  (.cons (.asg 4 false [] (.bin .Add (.con (.int 1)) (.bin .Mod (.bin .FloorDiv (.var 0) (.con (.int 8))) (.var 2))))
  (.cons (.asg 5 false [] (.bin .Add (.con (.int 1)) (.bin .Mod (.bin .FloorDiv (.var 0) (.con (.int 64))) (.con (.int 8)))))
  (.cons (.asg 6 true [] (.lst .nil))
  (.cons (.forr [7] true [] (.rng (.cons (.var 3) .nil)) (.cons (.asg 8 false [] (.con (.str "")))
  (.cons (.forr [9] true [] (.rng (.cons (.var 4) .nil)) (.cons (.asg 10 false [] (.bin .Add (.bin .Mult (.var 4) (.var 7)) (.var 9)))
  (.cons (.asg 11 false [] (.cmp .Eq (.bin .Mod (.bin .FloorDiv (.var 1) (.bin .LShift (.con (.int 1)) (.var 10))) (.con (.int 2))) (.con (.int 1))))
  (.cons (.ife (.val (.cmp .Lt (.var 1) (.bin .LShift (.con (.int 1)) (.con (.int 64))))) (.cons (.asg 11 false [] (.cmp .Lt (.bin .Mod (.call 5 (.cons (.var 1) (.cons (.var 10) .nil))) (.con (.int 8))) (.var 5)))
  .nil) .nil)
  (.cons (.asg 8 false [8] (.bin .Add (.var 8) (.ix (.lst (.cons (.con (.str ".")) (.cons (.con (.str "x")) .nil))) (.bf .int (.cons (.var 11) .nil)))))
  .nil)))))
  (.cons (.app 6 [8] (.var 8))
  .nil))))
  (.cons (.ret [6] (.bf .tuple (.cons (.var 6) .nil)))
  .nil))))))⟩
noncomputable def d66:FD:=⟨4,1,
  (.cons (.asg 1 true [] (.lst .nil))
  (.cons (.forr [2] true [] (.rng (.cons (.bf .len (.cons (.var 0) .nil)) .nil)) (.cons (.forr [3] true [] (.rng (.cons (.bf .len (.cons (.ix (.var 0) (.con (.int 0))) .nil)) .nil)) (.cons (.ife (.val (.cmp .Eq (.ix (.ix (.var 0) (.var 2)) (.var 3)) (.con (.str "x")))) (.cons (.app 1 [2,3] (.tup (.cons (.var 2) (.cons (.var 3) .nil))))
  .nil) .nil)
  .nil))
  .nil))
  (.cons (.ret [1] (.var 1))
  .nil)))⟩
noncomputable def d8:FD:=⟨1,1,
  (.cons (.ret [] (.and (.bf (.isin "int") (.cons (.var 0) .nil)) (.not (.bf (.isin "bool") (.cons (.var 0) .nil)))))
  .nil)⟩
noncomputable def d9:FD:=⟨2,2,
  (.cons (.ife (.val (.cmp .Is (.var 1) (.con .non))) (.cons (.ret [] (.cmp .Is (.var 0) (.con .non)))
  .nil) .nil)
  (.cons (.ife (.val (.bf (.isin "tuple") (.cons (.var 1) .nil))) (.cons (.ret [] (.and (.bf (.isin "tuple") (.cons (.var 0) .nil)) (.and (.cmp .Eq (.bf .len (.cons (.var 0) .nil)) (.bf .len (.cons (.var 1) .nil))) (.call 10 (.cons (.bf .list (.cons (.var 0) .nil)) (.cons (.bf .list (.cons (.var 1) .nil)) .nil))))))
  .nil) .nil)
  (.cons (.ife (.val (.bf (.isin "list") (.cons (.var 1) .nil))) (.cons (.ret [] (.and (.bf (.isin "list") (.cons (.var 0) .nil)) (.and (.cmp .Eq (.bf .len (.cons (.var 0) .nil)) (.bf .len (.cons (.var 1) .nil))) (.call 10 (.cons (.var 0) (.cons (.var 1) .nil))))))
  .nil) .nil)
  (.cons (.ife (.val (.bf (.isin "str") (.cons (.var 1) .nil))) (.cons (.ret [] (.and (.bf (.isin "str") (.cons (.var 0) .nil)) (.cmp .Eq (.var 0) (.var 1))))
  .nil) .nil)
  (.cons (.ret [] (.and (.call 8 (.cons (.var 0) .nil)) (.cmp .Eq (.var 0) (.var 1))))
  .nil)))))⟩
noncomputable def d10:FD:=⟨4,2,
  (.cons (.forr [2,3] false [0,1] (.zip (.var 0) (.var 1)) (.cons (.ife (.not (.val (.call 9 (.cons (.var 2) (.cons (.var 3) .nil))))) (.cons (.ret [] (.con (.bl false)))
  .nil) .nil)
  .nil))
  (.cons (.ret [] (.con (.bl true)))
  .nil))⟩
noncomputable def Fa:FD:=⟨6,3,
  (.cons (.asg 3 true [] (.lst .nil))
  (.cons (.asg 4 false [] (.call 66 (.cons (.var 0) .nil)))
  (.cons (.whil (.and (.val (.cmp .Lt (.bf .len (.cons (.var 3) .nil)) (.var 2))) (.val (.cmp .NotEq (.var 4) (.lst .nil)))) (.cons (.asg 5 false [] (.ix (.var 4) (.bin .Mod (.var 1) (.bf .len (.cons (.var 4) .nil)))))
  (.cons (.asg 1 false [] (.bin .FloorDiv (.var 1) (.bf .len (.cons (.var 4) .nil))))
  (.cons (.app 3 [5] (.var 5))
  (.cons (.asg 4 false [] (.lc (.var 0) (.seq (.var 4)) (.yes (.and (.val (.cmp .NotEq (.ix (.var 0) (.con (.int 0))) (.ix (.var 1) (.con (.int 0))))) (.val (.cmp .NotEq (.ix (.var 0) (.con (.int 1))) (.ix (.var 1) (.con (.int 1))))))) [5]))
  .nil)))))
  (.cons (.ret [3] (.bf .tuple (.cons (.bf .sorted (.cons (.var 3) .nil)) .nil)))
  .nil))))⟩
noncomputable def GM:FD:=⟨8,1,
  (.cons (.hand 1 iu) .nil)⟩
noncomputable def FZ:FD:=⟨4,3,
  (.cons (.asg 3 false [] (.call 169 (.cons (.var 0) (.cons (.var 1) .nil))))
  (.cons (.ife (.or (.not (.val (.call 8 (.cons (.var 3) .nil)))) (.or (.val (.cmp .Lt (.var 3) (.con (.int 0)))) (.val (.cmp .GtE (.var 3) (.ix (.var 2) (.bf .len (.cons (.var 1) .nil))))))) (.cons (.ret [] (.con (.bl false)))
  .nil) .nil)
  (.cons (.ret [] (.call 9 (.cons (.call 167 (.cons (.var 0) (.cons (.bf .len (.cons (.var 1) .nil)) (.cons (.var 3) .nil)))) (.cons (.var 1) .nil))))
  .nil)))⟩
noncomputable def FY:FD:=⟨12,1,
  (.cons (.asg 1 false [] (.call 62 (.cons (.call 4 (.cons (.var 0) (.cons (.con (.int 0)) .nil))) (.cons (.call 4 (.cons (.var 0) (.cons (.con (.int 1)) .nil))) (.cons (.con (.int 6)) .nil)))))
  (.cons (.asg 2 false [] (.call 64 (.cons (.var 1) .nil)))
  (.cons (.asg 3 false [] (.tup .nil))
  (.cons (.asg 4 false [] (.bf .max (.cons (.bf .len (.cons (.var 1) .nil)) (.cons (.bf .len (.cons (.ix (.var 1) (.con (.int 0))) .nil)) .nil))))
  (.cons (.forr [5] true [] (.rng (.cons (.con (.int 2)) (.cons (.bf .min (.cons (.bf .max (.cons (.bf .len (.cons (.var 0) .nil)) (.cons (.con (.int 3)) .nil))) (.cons (.ix (.lst (.cons (.con (.int 63)) (.cons (.con (.int 63)) (.cons (.con (.int 40)) (.cons (.con (.int 24)) (.cons (.con (.int 14)) (.cons (.con (.int 8)) .nil))))))) (.bin .Sub (.var 4) (.con (.int 1)))) .nil))) .nil))) (.cons (.asg 6 false [] (.call 20 (.cons (.call 4 (.cons (.var 0) (.cons (.var 5) .nil))) .nil)))
  (.cons (.asg 7 false [] (.call 170 (.cons (.var 1) (.cons (.bin .FloorDiv (.var 6) (.con (.int 7))) (.cons (.bin .Mod (.var 6) (.con (.int 7))) .nil)))))
  (.cons (.asg 8 false [] (.call 170 (.cons (.var 1) (.cons (.bin .FloorDiv (.var 6) (.con (.int 11))) (.cons (.bf .len (.cons (.var 7) .nil)) .nil)))))
  (.cons (.ife (.or (.not (.val (.call 171 (.cons (.var 1) (.cons (.var 7) (.cons (.var 2) .nil)))))) (.not (.val (.call 171 (.cons (.var 1) (.cons (.var 8) (.cons (.var 2) .nil))))))) (.cons (.ret [] (.con (.bl false)))
  .nil) .nil)
  (.cons (.forr [9] true [8,3] (.seq (.lst (.cons (.var 8) (.cons (.var 3) .nil)))) (.cons (.ife (.val (.cmp .Eq (.bf .len (.cons (.var 9) .nil)) (.bf .len (.cons (.var 7) .nil)))) (.cons (.asg 10 false [] (.call 169 (.cons (.var 1) (.cons (.var 7) .nil))))
  (.cons (.asg 11 false [] (.call 169 (.cons (.var 1) (.cons (.var 9) .nil))))
  (.cons (.ife (.or (.val (.cmp .NotEq (.cmp .Lt (.var 7) (.var 9)) (.cmp .Lt (.var 10) (.var 11)))) (.val (.cmp .NotEq (.cmp .Eq (.var 7) (.var 9)) (.cmp .Eq (.var 10) (.var 11))))) (.cons (.ret [] (.con (.bl false)))
  .nil) .nil)
  .nil))) .nil)
  .nil))
  (.cons (.asg 3 false [7] (.var 7))
  .nil)))))))
  (.cons (.ret [] (.and (.call 9 (.cons (.call 169 (.cons (.var 1) (.cons (.tup .nil) .nil))) (.cons (.con (.int 0)) .nil))) (.call 9 (.cons (.call 167 (.cons (.var 1) (.cons (.con (.int 0)) (.cons (.con (.int 0)) .nil)))) (.cons (.tup .nil) .nil)))))
  .nil))))))⟩
noncomputable def P:Nat->Option FD:=fun n=>match n with
 | 3=>some d3
 | 4=>some d4
 | 5=>some d5
 | 8=>some d8
 | 9=>some d9
 | 10=>some d10
 | 20=>some d20
 | 24=>some d24
 | 25=>some d25
 | 26=>some d26
 | 46=>some d46
 | 47=>some GN
 | 62=>some d62
 | 64=>some GM
 | 66=>some d66
 | 163=>some Fh
 | 164=>some Fg
 | 165=>some Ff
 | 166=>some Fe
 | 167=>some Fd
 | 168=>some Fc
 | 169=>some Fb
 | 170=>some Fa
 | 171=>some FZ
 | 172=>some FY
 | _=>none
end Law
namespace Law
open PySem IR L2
local macro_rules | `(tactic| walk_at "ev") => do
  let ids <- ("sc Option.bind_some Option.map_some Option.bind_none List.length_cons List.length_nil if_true if_false Nat.reduceAdd Nat.reduceSub List.map_cons List.map_nil List.replicate List.append_nil List.cons_append List.nil_append imm imms mR zN FR FO FP FS FQ Ek List.getD_cons_zero List.getD_cons_succ at_0 at_1 Al de dP di dS df dg dm dR dZ dh dk dU dQ dc dY dX dW DJ DK AH AJ AK AI z0o z0p AU AW AT AX AV fA Af Ae yt yr Bl Bi Bg B3 FJ FL FK yn yq kN mO Bw vE zF CU CN CP CS CQ CO CT Fj Fk Fm Fn CG CD CC List.set_cons_zero List.set_cons_succ HN Dz D1 An Am xR zo yz Au Aw As Av Fu CZ CY zt zu wm wn zp Fv Fs Ft CV CW zr HG setU ix_L ix_T ix_O ix_S my cg DV DU DW DX tJ tL tH tK tG eq_self decide_true decide_false qH sj qJ qG qI qF si nj qL nr ni nk nh qK qE qD ng nY nZ lO nX lR lN lQ lM nW reduceCtorEq bne_self_eq_false beq_self_eq_true Bool.true_bne Bool.bne_true Bool.false_bne Bool.bne_false LN Nat.reduceLeDiff Nat.reduceLT Nat.reducePow Int.reduceLT Int.reduceLE Int.reducePow Int.reduceNeg Int.natAbs_one and_self true_and and_true or_true true_or reduceIte Bool.not_true Bool.not_false Bool.and_true Bool.or_true Bool.or_false Bool.true_or Bool.false_or Bool.true_and Bool.and_false Bool.false_and Bool.false_eq_true keeps pj pi List.getElem?_cons_zero List.getElem?_cons_succ".splitOn " ").toArray.mapM fun s => do
   let i := Lean.mkIdent s.toName
   `(Lean.Parser.Tactic.simpLemma| $i:ident)
  `(tactic| (try simp -implicitDefEqProofs only [$ids,*]))
local macro_rules | `(tactic| walk_at "go") => `(tactic| (walk_at "ev"; repeat (rw [JS (by first | omega | assumption | decide)]; walk_at "ev")))
theorem c4(k:Nat)(ns:List Int)(j:Nat):aG P (k+1) 4 [.lst (ns.map .int),.int j]=some (.int (ns.getD j 0)):=by
 refine run rfl rfl ?_;simp only[d4,entry];walk_at "ev"
 by_cases h:j<ns.length
 ·have h1:(j:Int)<((ns.map PV.int).length:Nat):=by rw[JM];omega
  have h2:cX (ns.map PV.int) (j:Int)=some (.int ns[j]):=bK (by rw[Jc,Ja h];rfl);simp only[h1,decide_true,if_true,h2];walk_at "ev";simp[h]
 ·have h1:¬(j:Int)<((ns.map PV.int).length:Nat):=by rw[JM];omega
  simp only[h1,decide_false];walk_at "ev";simp[h]
theorem c5(k:Nat)(c j:Int)(h0:0<=j)(h1:j<=1000000):∃r:Int,0<=r/\r<2147483587/\aG P (k+1) 5 [.int c,.int j]=some (.int r):=by
 obtain⟨v,h,r,h2,h3,rfl⟩:∃v,aG P (k+1) 5 [.int c,.int j]=some v/\∃r:Int,0<=r/\r<2147483587/\v=.int r:=by
  refine uL rfl rfl ?_;simp only[d5,entry];walk_at "go";exact⟨_,rfl,_,Int.emod_nonneg _ (by decide),MI _ (by decide),rfl⟩
 exact⟨r,h2,h3,h⟩
section
open PySem.Spec PyProof.Rows
theorem Gx:aS N47 ["levels","bits"] (aA GJ):=⟨rfl,rfl,rfl,by decide +kernel,rfl,by decide +kernel,by decide +kernel⟩
theorem xF{P' :Nat->Option FD}{k:Nat}{vs:List PV}{r:PV}(hP:P' 47=some GN)(h:aG P' (k+1) 47 vs=some r):bY vs=some r:=by
 unfold aG at h;rw[hP]at h;simp only[LZ]at h
 split at h
 ·rename_i hl
  have hl:vs.length=2:=hl;obtain⟨a,b,rfl⟩:=kD hl
  ·simp only[GN,AY,AZ,ik,iV,iU,iZ,ib,iT,iX,ii,ig,il,ie,ij,ia,iW,iY,entry]at h
   have e:((List.map (fun v=>TV.frz v (imm v)) [a,b]++List.replicate (9-[a,b].length) TV.un).take 2).map TV.valD=[a,b]:=rfl;rw[e]at h;cases hg:bY [a,b]with
   | none=>rw[hg]at h;cases h
   | some v=>rw[hg]at h;cases h;rfl
 ·cases h
theorem DL{vs:List PV}{r:PV}(h:bY vs=some r):vs.length=2:=by
 unfold bY at h
 split at h
 ·rfl
 ·cases h
noncomputable abbrev jW1(H:Hp)(D0:Addr)(Ls:List am)(i m:Nat)(ys:List V)(H' :Hp):Prop:=m=Ls.length-i/\i<=Ls.length/\∃ds,ys=ds.map V.ref/\rP H D0 ds (Ls.take i) H'
noncomputable abbrev jW2(H:Hp)(Lv Bt Aa:Addr)(dp:List Addr)(Ls:List am)(B:List Int)(i:Nat)(σ:L2.St)(G:Hp):Prop:=∃a b c d e g,σ=[some (.ref Lv),some (.ref Bt),some (.ref Aa),a,b,c,d,e,g]/\rP H Aa dp (wl Ls B i) G
noncomputable abbrev jW3(H:Hp)(Lv Bt Aa:Addr)(dp:List Addr)(Ls:List am)(B:List Int)(i:Nat)(lev ab:Addr)(o:Obj)(ct c0:am)(j:Nat)(σ:L2.St)(G:Hp):Prop:=∃d e g,σ=[some (.ref Lv),some (.ref Bt),some (.ref Aa),some (.int (i:Nat)),some (.ref lev),some (.ref ab),d,e,g]/\G lev=some (.frz o (.dK (bH ct)))/\rP H Aa dp ((wl Ls B i).set (i+1) ((ct.take j).foldl (cN B) c0)) (L2.upd G lev (.dK (bH ct)))
noncomputable abbrev jW4(H:Hp)(Lv Bt Aa:Addr)(dp:List Addr)(Ls:List am)(B:List Int)(i:Nat)(lev ab:Addr)(o:Obj)(ct:am)(tk cn:Int)(cj:am)(l:Nat)(σ:L2.St)(G:Hp):Prop:=∃g,σ=[some (.ref Lv),some (.ref Bt),some (.ref Aa),some (.int (i:Nat)),some (.ref lev),some (.ref ab),some (.int tk),some (.int cn),g]/\G lev=some (.frz o (.dK (bH ct)))/\rP H Aa dp ((wl Ls B i).set (i+1) ((B.take l).foldl (bZ tk cn) cj)) (L2.upd G lev (.dK (bH ct)))
theorem FI{K:W.Frag}{mg:Str->Option Value}{f:Addr}{fd:FuncData}(hdi:mg "dict"=none)(hen:mg "enumerate"=none)(D:Def K mg "with_line" GJ ["levels","bits"] f fd)(p:Program)(w:World)(base:Heap)(k:Nat)(_:∀y g,F.lookup y=some g->∃b gd qs,mg y=some (.ref b)/\W.keepIn K (.ref b)=true/\Binds K gd qs []/\cY p w K mg base oE k b gd qs (AN K (aG P k g))):cY p w K mg base oE (k+1) f fd ["levels","bits"] (AN K (aG P (k+1) 47)):=by
 refine D.fn.ok Gx (fun vs H Q E h=> ?_) (fun cdv A outer s H vs Q E hr h=> ?_)
 ·obtain⟨pvs,r,h1,h2,_⟩:=h
  rw[<- h1.len];exact DL (xF rfl h2)
 obtain⟨pvs,r,h1,h2,q⟩:=h
 replace h2:=xF rfl h2
 unfold bY at h2
 split at h2
 case h_2=>cases h2
 rename_i ls bs;cases e1:oo ls with
 | none=>rw[e1]at h2;cases h2
 | some Ls =>
 cases e2:aY bs with
 | none=>rw[e1,e2]at h2;cases h2
 | some B =>
 rw[e1,e2]at h2;dsimp only[Option.bind]at h2
 split at h2
 case isFalse=>cases h2
 rename_i hz;cases h2;obtain⟨z1,z2,z3⟩:=hz;have z3:∀c∈Ls,c.length<=1000:=fun c hc=>by simpa using Jf.mp z3 c hc
 have hls:=om e1;subst hls;unfold aH at h1;obtain⟨u1,_,rfl,r1,h1⟩:=h1;unfold aH at h1;obtain⟨u2,_,rfl,r2,h1⟩:=h1;unfold aH at h1;subst h1;obtain⟨Lv,us,rfl,_,sqL,rl⟩:=Rp.lst.mp r1;obtain⟨Bt,bu,rfl,_,sqB,rb⟩:=Rp.lst.mp r2;rw[kK e2]at rb;have eb:=aH.ints.mp rb;subst eb;have lv:∀(i:Nat)(c:am),Ls[i]? =some c->∃a,us[i]? =some (.ref a)/\H a=some (.dK (bH c)):=fun i c hc=>by
  obtain⟨u,hu,ru⟩:=rl.at (i:=i) (x:=iz c) (by rw[Jc,hc];rfl);obtain⟨a,rfl,ha⟩:=Dr ru;exact⟨a,hu,bW _ _ ha⟩
 have ulen:us.length=Ls.length:=by have:=rl.len;simpa using this.symm
 have nd:=Gx.nd;have hu:=DA hr;have hs:sizeLine=16777216:=KC
 refine⟨_,az (dq (i:=2) nd rfl (Or.inl rfl) (eP ES (yJ (N' :=["level"]) (src:=[none]) rfl (gP (pv 0)) True.intro rfl (by decide +kernel) (by decide +kernel) rfl) (sS (aR pZ af))))
  (az (eN Kd rfl (pX rfl hen (aR (pv 0) af)) (nM rfl (cQ (ay (i:=3) nd rfl (Or.inl rfl)) (cQ (ay (i:=4) nd rfl (Or.inl rfl)) jR)))
   (az (dq (i:=5) nd rfl (Or.inl rfl) (pY fD (pv 2) (eP jv (pv 3) cR) (fun _ _=>rfl)))
   (bS (A6 (eN Kd rfl (pq (pv 4)) (nM rfl (cQ (ay (i:=6) nd rfl (Or.inl rfl)) (cQ (ay (i:=7) nd rfl (Or.inl rfl)) jR)))
    (bS (eN Kd rfl (gP (pv 1)) (ay (i:=8) nd rfl (Or.inl rfl))
     (bS (yB (gM ud (eP yP (pv 6) (pv 8)) cR (sd _))
      (bS (uT hu (pv 5) (eP C5 (pv 6) (pv 8)) (eP jv (pc hu (pv 5) (eP C5 (pv 6) (pv 8)) cR ⟨rfl,rfl,rfl,rfl⟩) (pv 7)) rfl)) nJ)))))))))
  (bS (sM (pv 2)))),?_⟩
 refine⟨_,rfl,Lv,rfl,⟨_,sqL⟩,fun D0 hD0=> ?_⟩;refine⟨jW1 H D0 Ls,⟨Ls.length,by simp,Js _,[],rfl,⟨aJ hD0 _,hD0,aC,by simp,by simp,by simp,fun q d c e=>by simp at e⟩⟩,?_⟩;rintro i m ys H' ⟨rfl,hi,ds,rfl,st⟩
 by_cases hlt:i<Ls.length
 ·right
  have ec:Ls[i]? =some Ls[i]:=by simp[hlt]
  obtain⟨a,ua,ha⟩:=lv i _ ec;refine⟨⟨us,.ref a,st.1.seq sqL,ua⟩,fun x H1 y=> ?_⟩;obtain⟨rfl,y⟩:=y;have ex:=y us (st.1.seq sqL);rw[ua]at ex;cases ex;intro C s2 H2 fp cl;refine⟨qR 0,Cu,_,ay (by simp) rfl (.inl rfl) (.inr rfl),pW,cK qx rfl hdi boot_dict (aR (pv 0) af),?_⟩;refine⟨rC rfl,?_⟩;refine⟨_,rfl,a,_,rfl,.inl (st.1 _ _ ha),fun pn hpn=> ?_⟩;have dl:ds.length=i:=by rw[st.2.2.2.2.2.1,Lz];omega
  refine⟨by rw[aB (aE st.2.2.1 hpn)];exact st.2.2.1,by rw[JM];omega,Ls.length-(i+1),by omega,rfl,hlt,ds++[pn],by rw[Ji];rfl,?_⟩;have e:Ls.take (i+1)=Ls.take i++[Ls[i]]:=by rw[LA,ec];rfl
  rw[e];exact st.push hpn
 ·left
  have ei:i=Ls.length:=by omega
  subst ei;rw[Kl]at st;refine⟨⟨us,st.1.seq sqL,by omega⟩,?_⟩;intro p0 hp0;refine⟨by show 1<=sizeLine;decide,fun l hl=> ?_⟩;have dl:ds.length=Ls.length:=st.2.2.2.2.2.1;have s1:=aJ hp0 (.dK []);have s2:=aJ hl (.lst [.ref p0]);refine⟨D0,l,ds.map V.ref,[.ref p0],rfl,rfl,s2 _ _ (s1 _ _ st.2.2.1),aC,by rw[JM,dl,hs];simp;omega,fun Aa hAa=> ?_⟩;have stA:rP H Aa (ds++[p0]) (wl Ls B 0) (L2.upd (L2.upd (L2.upd H' p0 (.dK [])) l (.lst [.ref p0])) Aa (.lst (ds.map V.ref++[.ref p0]))):=by
   have hDp:D0≠p0:=aE st.2.2.1 hp0;have hAl:Aa≠l:=fun z=>by rw[z,aC]at hAa;cases hAa
   have hA1:L2.upd H' p0 (.dK []) Aa=none:=by rw[aB hAl]at hAa;exact hAa
   have hAp:Aa≠p0:=fun z=>by rw[z,aC]at hA1;cases hA1
   have hA0:H' Aa=none:=by rw[aB hAp]at hA1;exact hA1
   have hDA:D0≠Aa:=aE st.2.2.1 hA0;obtain⟨g1,g2,g3,g4,g5,g6,g7⟩:=st.push (p:=p0) (c:=[]) hp0;have hlD:l≠D0:=fun z=>by rw[z,aB hDp,st.2.2.1]at hl;cases hl
   have hlp:l≠p0:=fun z=>by rw[z,aC]at hl;cases hl
   have inn:∀(qq:Nat)(d:Addr)(c:am),(ds++[p0])[qq]? =some d->(Ls++[[]])[qq]? =some c->H d=none/\d≠Aa/\d≠l/\L2.upd H' p0 (.dK []) d=some (.dK (bH c)):=fun qq d c w1 w2=>by
    obtain⟨m0,m1⟩:=g7 qq d c w1 w2;have dD:d≠D0:=fun z=>g4 (z▸Jn w1);rw[aB dD]at m1;have m1:L2.upd H' p0 (.dK []) d=some (.dK (bH c)):=m1;exact⟨m0,(fun z=>by rw[z,hA1]at m1;cases m1),(fun z=>by rw[z,hl]at m1;cases m1),m1⟩
   refine⟨((st.1.trans s1).trans s2).trans (aJ hAa _),st.1.free hA0,by rw[aC,Ji];rfl,fun z=> ?_,g5,g6,fun qq d c w1 w2=> ?_⟩
   ·obtain⟨qq,hqq,e⟩:=List.mem_iff_getElem.mp z
    exact(inn qq Aa ((Ls++[[]])[qq]'(by rw[<- g6];exact hqq)) (by rw[Ja hqq,e]) (by simp[show qq<(Ls++[[]]).length by rw[<- g6];exact hqq])).2.1 rfl
   ·obtain⟨m0,m1,m2,m3⟩:=inn qq d c w1 w2
    exact⟨m0,by rw[aB m1,aB m2];exact m3⟩
  have sqB' :∀{G:Hp},aD H G->bG K G Bt (B.map V.int):=fun s=>s.seq sqB;refine⟨_,rfl,Lv,us,rfl,(stA.1).seq sqL,zJ (src:=fun H xs=>bG K H Lv xs) (jW2 H Lv Bt Aa (ds++[p0]) Ls B) ⟨_,_,_,_,_,_,rfl,stA⟩ (fun i σ G _ ⟨_,_,_,_,_,_,_,st⟩=>st.1.seq sqL) ?_ ?_⟩
  ·rintro i x pt σ G ex hpt ⟨a,b,c,d,e,g,rfl,st⟩
   have hi:i<us.length:=(JY.mp ex).1;have ec:Ls[i]? =some (Ls[i]'(by omega)):=by simp[show i<Ls.length by omega]
   obtain⟨lev,ua,hlev⟩:=lv i _ ec;rw[ex]at ua;cases ua;obtain⟨ct,hct⟩:∃ct,ct=Ls[i]'(by omega):=⟨_,rfl⟩;rw[<- hct]at ec hlev;have ctl:ct.length<=1000:=z3 ct (Jn ec);have wlen:=jY Ls B i;obtain⟨ab,hab⟩:∃ab,(ds++[p0])[i+1]? =some ab:=⟨(ds++[p0])[i+1]'(by rw[st.2.2.2.2.2.1,wlen];omega),by simp[show i+1<(ds++[p0]).length by rw[st.2.2.2.2.2.1,wlen];omega]⟩;obtain⟨c0,hc0⟩:∃c0,(wl Ls B i)[i+1]? =some c0:=⟨(wl Ls B i)[i+1]'(by rw[wlen];omega),by simp[show i+1<(wl Ls B i).length by rw[wlen];omega]⟩;have st:=st.ext (aJ hpt (.tup [.int (i:Nat),.ref lev]));refine⟨pt,_,rfl,bX.of aC,rfl,_,_,rfl,_,_,rfl,rfl,?_⟩;refine⟨_,rfl,_,rfl,_,_,rfl,rfl,Aa,_,_,.ref ab,rfl,rfl,bG.of st.2.2.1,?_,?_⟩
   ·have:=bK (xs:=(ds++[p0]).map V.ref) (j:=i+1) (v:=.ref ab) (by rw[Jc,hab];rfl)
    exact this
   refine⟨_,rfl,lev,bH ct,rfl,st.1 _ _ hlev,fun o nf=> ?_⟩;have abn:H ab=none:=(st.at hab hc0).1;have abl:ab≠lev:=fun z=>by rw[z,hlev]at abn;cases abn
   obtain⟨G1,hG1⟩:∃G1,G1=L2.upd G pt (.tup [.int (i:Nat),.ref lev]):=⟨_,rfl⟩;rw[<- hG1]at st ⊢;have g1lev:G1 lev=some (.dK (bH ct)):=st.1 _ _ hlev;have ini:L2.upd (L2.upd G1 lev (.frz o (.dK (bH ct)))) lev (.dK (bH ct))=G1:=by
    rw[Ag]
    funext bb
    by_cases hb:bb=lev
    ·subst hb
     rw[aC,g1lev]
    ·rw[aB hb]
   refine wV (jW3 H Lv Bt Aa (ds++[p0]) Ls B i lev ab o ct c0) ⟨_,_,_,rfl,aC,?_⟩ (fun j σ G _ ⟨_,_,_,_,hf,_⟩=>hf) ?_ ?_
   ·rw[ini]
    have e0:(wl Ls B i).set (i+1) c0=wl Ls B i:=by
     refine Lr fun n=> ?_;rw[LR]
     split
     ·rename_i en
      subst en;rw[hc0,JS (by rw[wlen];omega)]
     ·rfl
    rw[List.take_zero,List.foldl_nil,e0];exact st
   ·rintro j kk xx pp σ G2 ekv hpp ⟨d,e,g,rfl,hf,st2⟩
    obtain⟨tk,cn,etc,rfl,rfl⟩:=B7 ekv;have hj:j<ct.length:=(JY.mp etc).1;have ppl:pp≠lev:=fun z=>by rw[z,hf]at hpp;cases hpp
    refine⟨pp,_,rfl,bX.of aC,rfl,_,_,rfl,_,_,rfl,rfl,?_⟩;have st3:=st2.ext (vy (o:=.tup [kV (Sum.inl tk),.int cn]) (u:=.dK (bH ct)) hpp ppl);obtain⟨cj,hcj⟩:∃cj,cj=(ct.take j).foldl (cN B) c0:=⟨_,rfl⟩;rw[<- hcj]at st3;have cjl:cj.length<=1000+1000*100+1000*100:=by
     have h0:c0.length<=1000:=by
      have:=Cs Ls B i (i+1) (by omega);rw[hc0]at this
      rcases J0.mp (Jn this.symm)with hm|hm
      ·exact z3 c0 hm
      ·have:c0=[]:=by simpa using hm
       rw[this];simp
     have h1:=mP B (ct.take j) c0;have h2:(ct.take j).length*B.length<=1000*100:=Nat.mul_le_mul (by rw[Lz];omega) z2;rw[hcj];omega
    refine⟨_,rfl,Bt,rfl,⟨_,uG (sqB' st3.1)⟩,zI (xs:=B.map V.int) (jW4 H Lv Bt Aa (ds++[p0]) Ls B i lev ab o ct tk cn cj) ⟨_,rfl,by rw[aB (Kc ppl)];exact hf,by rw[List.take_zero,List.foldl_nil];exact st3⟩ (fun l σ G _ ⟨_,_,_,st⟩=>uG (sqB' st.1)) ?_ ?_⟩
    ·rintro l xb σ G3 exb ⟨g,rfl,hf3,st4⟩
     obtain⟨b,eb,rfl⟩:∃b,B[l]? =some b/\xb=.int b:=by
      rw[Jc]at exb;cases e:B[l]? with
      | none=>rw[e]at exb;cases exb
      | some b=>rw[e]at exb;exact⟨b,rfl,(Jl exb).symm⟩
     have hl:l<B.length:=(JY.mp eb).1;obtain⟨cur,hcur⟩:∃cur,cur=(B.take l).foldl (bZ tk cn) cj:=⟨_,rfl⟩;have e7:(B.take (l+1)).foldl (bZ tk cn) cj=bZ tk cn cur b:=by
      rw[LA,eb,LS,<-hcur];rfl
     rw[<- hcur]at st4;have curl:cur.length<sizeLine:=by
      have:=iA tk cn (B.take l) cj;rw[<- hcur,Lz]at this;rw[hs];omega
     have hcs:((wl Ls B i).set (i+1) cur)[i+1]? =some cur:=by rw[Kf (by rw[wlen];omega)]
     obtain⟨_,hab1⟩:=st4.at hab hcs;rw[aB abl]at hab1;refine⟨_,rfl,_,rfl,_,_,rfl,rfl,rfl,_,rfl,Bn (fun hc=> ?_) (fun hc=> ?_)⟩
     ·have hc:Builtin.bitAnd tk b=0:=V.int.inj (Jr hc)
      obtain⟨old,hold⟩:∃old,old=(gX cur (Builtin.bitOr tk b)).getD 0:=⟨_,rfl⟩;refine⟨_,rfl,ab,rfl,.inl ⟨_,.inl hab1⟩,_,rfl,_,rfl,_,_,rfl,rfl,_,iR.k (k:=Sum.inl (Builtin.bitOr tk b)) hab1,_,rfl,old,cn,?_,rfl,?_⟩
      ·rw[B6,hold]
       cases gX cur (Builtin.bitOr tk b)<;>rfl
      refine⟨_,rfl,_,rfl,_,rfl,_,_,rfl,rfl,ab,_,rfl,rK.k (k:=Sum.inl (Builtin.bitOr tk b)) hab1 (by rw[qh];exact curl),_,rfl,?_,?_⟩
      ·rw[aB (Kc abl)]
       exact hf3
      ·have e8:bZ tk cn cur b=g0 cur (Builtin.bitOr tk b) (old+cn):=by
        unfold bZ wu;rw[JS hc,hold]
       rw[e7,e8,B5,xK abl];have:=st4.put (c' :=g0 cur (Builtin.bitOr tk b) (old+cn)) hab;rw[List.set_set]at this;exact this
     ·have hc:¬Builtin.bitAnd tk b=0:=fun z=>hc (Jo (Jw V.int z))
      refine⟨_,rfl,hf3,?_⟩;have e8:bZ tk cn cur b=cur:=by
       unfold bZ;rw[JR hc]
      rw[e7,e8];exact st4
    ·rintro σ G3 ⟨g,rfl,hf3,st4⟩
     refine⟨_,_,_,rfl,hf3,?_⟩;have e5:(ct.take (j+1)).foldl (cN B) c0=((B.take (B.map V.int).length).foldl (bZ tk cn) cj):=by
      rw[LA,etc,LS,<-hcj,JM,Kl];rfl
     rw[e5];exact st4
   ·rintro σ G2 ⟨d,e,g,rfl,hf,st2⟩
    refine⟨lev,o,bH ct,hf,nf,_,_,_,_,_,_,rfl,?_⟩;have e6:(wl Ls B i).set (i+1) ((ct.take (bH ct).length).foldl (cN B) c0)=wl Ls B (i+1):=by
     rw[qh,Kl,wl,JX,hc0,JX,ec];rfl
    rw[<- e6];exact st2
  ·rintro σ G ⟨a,b,c,d,e,g,rfl,st⟩
   refine⟨_,rfl,?_⟩;refine q _ _ st.1 (Rp.lst.mpr ⟨Aa,_,rfl,fun _=>⟨st.2.1,st.2.2.1⟩,bG.of st.2.2.1,?_⟩);have eL:us.length=Ls.length:=ulen;rw[eL]at st;refine pF st.2.2.2.2.2.1 fun qq d' c' w1 w2=> ?_;obtain⟨m0,m1⟩:=st.at w1 w2;refine⟨m0,?_⟩;unfold del;rw[JR (fun z:d' =Aa=>st.2.2.2.1 (z▸Jn w1))];exact m1
end
noncomputable def fR(cs:List Nat)(i:Nat):List Int:=((List.range i).filter fun c=>cs.getD c 0==120).map fun c=>((2^c:Nat):Int)
noncomputable def kw(z:Str):List Int:=fR z.cps.toList z.length
theorem tU(cs:List Nat)(i:Nat):fR cs (i+1)=fR cs i++(if cs.getD i 0==120 then[((2^i:Nat):Int)]else[]):=by
 unfold fR;rw[K7,K1,Ji];cases h:cs.getD i 0==120
 ·simp only[Kb,List.filter_nil,h]
  rfl
 ·simp only[Kb,List.filter_nil,h]
  rfl
theorem mZ(cs:List Nat)(i:Nat):(fR cs i).length<=i:=by
 unfold fR;rw[JM];exact J2 (J3 _ _) (by rw[KO];exact JV _)
theorem tV{cs:List Nat}{i:Nat}(h:i<=8):lF (fR cs i):=fun b hb=>by
 unfold fR at hb;obtain⟨c,hc,rfl⟩:=JW.mp hb;have:=Ju.mp (J7.mp hc).1;exact⟨c,rfl,by omega⟩
theorem c46(k:Nat)(z:Str)(hz:z.length<=8):aG P (k+1) 46 [.str z]=some (.lst ((kw z).map .int)):=by
 refine dB rfl rfl ?_;simp only[d46,entry];walk_at "go";refine dJ (xs:=signs z) (n:=true) ?_ (fun i τ=>∃a,τ=[.frz (.str z) true,.own ((fR z.cps.toList i).map .int) true,.frz (.int ((2^i:Nat):Int)) true,a]) ⟨_,rfl⟩ ?_ ?_
 ·walk_at "ev"
 ·rintro i y τ hy ⟨a,rfl⟩
  have hi:i<z.length:=by
   have:=(JY.mp hy).1;rw[cJ]at this;exact this
  obtain⟨c,hc,rfl⟩:∃c,z.cps.toList[i]? =some c/\y=.str ⟨#[c]⟩:=by
   unfold signs at hy;rw[Jc]at hy;cases e:z.cps.toList[i]? with
   | none=>rw[e]at hy;cases hy
   | some c=>rw[e]at hy;exact⟨c,rfl,(Jl hy).symm⟩
  have hg:z.cps.toList.getD i 0=c:=by rw[JX,hc];rfl
  refine⟨_,rfl,?_⟩;have rs:=tU z.cps.toList i;rw[hg]at rs;have hlen:((fR z.cps.toList i).map PV.int).length<LN:=by
   rw[JM];have:=mZ z.cps.toList i;show _<16777216;omega
  have e2:((2^i:Nat):Int)*2=((2^(i+1):Nat):Int):=by rw[Nat.pow_succ];push_cast;rfl
  walk_at "ev";rw[iE];cases hx:c==120 with
  | true =>
   rw[hx]at rs;walk_at "ev";rw[eM rfl hlen];walk_at "ev";exact⟨_,by rw[rs,e2,Ji];rfl⟩
  | false =>
   rw[hx]at rs;walk_at "ev";exact⟨.frz (.str ⟨#[c]⟩) true,by rw[rs,e2];simp⟩
 ·rintro τ ⟨a,rfl⟩
  rw[cJ];walk_at "ev";rfl
theorem c47(k:Nat)(Ls:List am)(B:List Int)(h1:Ls.length<=100)(h2:B.length<=100)(h3:∀c∈Ls,c.length<=1000):aG P (k+1) 47 [.lst (Ls.map iz),.lst (B.map .int)]=some (.lst ((wl Ls B Ls.length).map iz)):=by
 refine run rfl rfl ?_;have e:bY [.lst (Ls.map iz),.lst (B.map .int)]=some (.lst ((wl Ls B Ls.length).map iz)):=by
  unfold bY;dsimp only;rw[uC,fk];simp only[LZ];rw[JS ⟨h1,h2,by rw[Jf];intro c hc;exact Jo (h3 c hc)⟩]
 show eU (bV (aG P k) 1000000 GN.body (entry GN [.lst (Ls.map iz),.lst (B.map .int)]))=_;simp only[GN,AY,AZ,ik,iV,iU,iZ,ib,iT,iX,ii,ig,il,ie,ij,ia,iW,iY,entry];have e2:((List.map (fun v=>TV.frz v (imm v)) [PV.lst (Ls.map iz),.lst (B.map .int)]++List.replicate (9-[PV.lst (Ls.map iz),.lst (B.map .int)].length) TV.un).take 2).map TV.valD=[.lst (Ls.map iz),.lst (B.map .int)]:=rfl;rw[e2,e];rfl
noncomputable def eE:List Str->List am
 | []=>[[(0,1)]]
 | z::rs=>wl (eE rs) (kw z) (eE rs).length
noncomputable def bg:List Str->List PV
 | []=>[.lst ((eE []).map iz)]
 | z::rs=>.lst ((eE (z::rs)).map iz)::bg rs
theorem vm(rs:List Str):∃r,bg rs=.lst ((eE rs).map iz)::r:=by
 cases rs with
 | nil=>exact⟨[],rfl⟩
 | cons z rs=>exact⟨_,rfl⟩
theorem je:∀rs:List Str,(bg rs).length=rs.length+1
 | []=>rfl
 | z::rs=>by rw[bg,Jh,je rs,Jh]
theorem gx:∀{rs:List Str},(∀z∈rs,z.length<=8)->(eE rs).length=rs.length+1/\∀c∈eE rs,bB c
 | [],_=>⟨rfl,fun c hc=>by
  rw[J5.mp hc];exact qN⟩
 | z::rs,h=>by
  obtain⟨h1,h2⟩:=gx (rs:=rs) fun y hy=>h y (JO _ hy);refine⟨?_,mi (tV (h z JP)) h2 _⟩;show(wl _ _ _).length=_;rw[jY,h1];rfl
theorem Fp{xs ys:List PV}{n m:Bool}:dO .Add (.own xs n) (.frz (.lst ys) m)=pj (xs++ys) (n&&m):=rfl
theorem IM(k:Nat)(rows:List Str)(h8:rows.length<=8)(w8:∀z∈rows,z.length<=8):aG P (k+2) 163 [.tup (rows.map .str)]=some (.lst (bg rows)):=by
 refine dB rfl rfl ?_;have im:=bm rows;simp only[Fh,entry];walk_at "ev";rw[im];refine dJ (xs:=(rows.map PV.str).reverse) (n:=true) ?_ (fun i τ=>∃a,τ=[.frz (.tup (rows.map .str)) true,.frz (.lst (bg (rows.drop (rows.length-i)))) true,a]) ⟨.un,?_⟩ ?_ ?_
 ·walk_at "ev"
 ·rw[Nat.sub_zero,List.drop_length]
  rfl
 ·rintro i y τ hy ⟨a,rfl⟩
  have hi:i<rows.length:=by
   have:=(JY.mp hy).1;rw[Lk,JM]at this;exact this
  obtain⟨z,hz,rfl⟩:∃z,rows[rows.length-1-i]? =some z/\y=.str z:=by
   rw[List.getElem?_reverse (by rw[JM];exact hi),JM,Jc]at hy;cases e:rows[rows.length-1-i]? with
   | none=>rw[e]at hy;cases hy
   | some z=>rw[e]at hy;exact⟨z,rfl,(Jl hy).symm⟩
  have hm:=Jn hz;obtain⟨j,ej⟩:∃j,j=rows.length-1-i:=⟨_,rfl⟩;rw[<- ej]at hz;have dj:rows.drop j=z::rows.drop (j+1):=by
   obtain⟨h1,h2⟩:=JY.mp hz;rw[K6 h1,h2]
  have d1:rows.length-i=j+1:=by omega
  have d2:rows.length-(i+1)=j:=by omega
  rw[d1];obtain⟨r,er⟩:=vm (rows.drop (j+1));obtain⟨g1,g2⟩:=gx (rs:=rows.drop (j+1)) fun y hy=>w8 y (L9 hy);have g1' :(eE (rows.drop (j+1))).length<=9:=by rw[g1,List.length_drop];omega
  have hb:(kw z).length<=100:=by
   have:=mZ z.cps.toList z.length;have:=w8 z hm;unfold kw;omega
  have lt:(bg (rows.drop (j+1))).length<=9:=by rw[je,List.length_drop];omega
  refine⟨_,rfl,?_⟩;walk_at "ev";rw[er];walk_at "ev";rw[c46 k z (w8 z hm)];walk_at "ev";rw[c47 k _ _ (by omega) hb (fun c hc=>J2 (g2 c hc).len (by decide))];walk_at "ev";rw[Fp];walk_at "ev";rw[er,Jh]at lt;rw[JS (by omega)];walk_at "ev";refine⟨.frz (.str z) true,?_⟩;rw[d2,dj,bg,er];rfl
 ·rintro τ ⟨a,rfl⟩
  rw[Lk,JM,Nat.sub_self,List.drop_zero];walk_at "ev"
theorem o5:∀rs:List Str,eE rs=uE (rs.map aV)
 | []=>rfl
 | z::rs=>by
  show wl (eE rs) (kw z) (eE rs).length=wl (uE (rs.map aV)) (jB (aV z)) (uE (rs.map aV)).length;rw[o5 rs];rfl
theorem c165(k:Nat)(b:List (Int×Int))(hb:b.length<=1000):aG P (k+1) 165 [.tup (b.map aM)]=some (.lst ((b.map (·.2)).map .int)):=by
 refine dB rfl rfl ?_;simp only[Ff,entry];have i2:imms (b.map aM)=true:=bQ b;walk_at "ev";rw[i2];walk_at "ev";rw[JS (by rw[JM];omega)];rw[fr (h:=aM) (g:=fun q:Int×Int=>PV.int q.2) (fun q hq=>rfl)];walk_at "ev";rw[Jq];rfl
theorem c164(k:Nat)(b:List (Int×Int))(hb:∀x∈b,0<=x.1):aG P (k+1) 164 [.tup (b.map aM)]=some (.int (bz b:Nat)):=by
 refine dB rfl rfl ?_;simp only[Fg,entry];have i2:imms (b.map aM)=true:=bQ b;walk_at "ev";rw[i2]
 rcases List.eq_nil_or_concat b with rfl|⟨b',c,rfl⟩
 ·exact⟨_,rfl,rfl⟩
 ·rw[List.concat_eq_append]at hb ⊢
  have e:(b' ++[c]).map aM=b'.map aM++[aM c]:=by rw[Ji];rfl
  have h0:=hb c (by simp);rw[e,show decide ((0:Int)<((b'.map aM++[aM c]).length:Int))=true from Jo (by rw[Jj,List.length_singleton];omega)];walk_at "ev";rw[zy];have:bz (b' ++[c])=(c.1+1).toNat:=by
   unfold bz;rw[List.getLast?_concat]
  rw[this,show(((c.1+1).toNat:Nat):Int)=c.1+1 by omega];exact⟨_,rfl,rfl⟩
theorem EJ:∀T<256,∀c<8,Nat.testBit T c=false->T+2^c=T ||| 2^c:=by decide +kernel
noncomputable def gj:List Nat->Nat
 | []=>0
 | c::l=>gj l ||| 2^c
theorem rD:∀{l:List Nat},(∀c∈l,c<8)->gj l<256
 | [],_=>by decide
 | c::l,h=>by
  have h1:=rD (l:=l) fun d hd=>h d (JO _ hd);have h2:2^c<2^8:=Nat.pow_lt_pow_right (by decide) (h c JP);exact Nat.or_lt_two_pow (n:=8) h1 h2
theorem iJ{d:Nat}:∀{l:List Nat},(gj l).testBit d=l.contains d
 | []=>by
  show Nat.testBit 0 d=_;rw[Nat.zero_testBit];rfl
 | c::l=>by
  show Nat.testBit (gj l ||| 2^c) d=_;rw[Nat.testBit_or,iJ,LO,Nat.testBit_two_pow,Bool.or_comm]
  congr 1
  by_cases e:c=d
  ·subst e;simp
  ·have:¬d=c:=fun z=>e z.symm
   simp[e,this]
theorem mY:∀{l:List Nat},(∀c∈l,c<8)->l.Nodup->(l.map fun c=>(1:Int)*2^c).sum=((gj l:Nat):Int)
 | [],_,_=>rfl
 | c::l,h,nd=>by
  obtain⟨n1,n2⟩:=Jt.mp nd;have hl:∀d∈l,d<8:=fun d hd=>h d (JO _ hd);rw[JZ,List.sum_cons,mY hl n2];show _=((gj l ||| 2^c:Nat):Int);rw[<- EJ _ (rD hl) c (h c JP) (by rw[iJ,<-Ld,KH];exact n1)]
  push_cast
  omega
theorem pD(T:Nat):∀t:am,∃ns,lI (T:Int) (t.map fun p=>Sum.inl p.1) (t.map fun p=>.int p.2)=some ns/\ns.sum=cW (qS T) t
 | []=>⟨[],rfl,rfl⟩
 | p::t=>by
  obtain⟨ns,h1,h2⟩:=pD T t;refine⟨if Builtin.bitAnd p.1 (T:Int)=0 then p.2::ns else ns,?_,?_⟩
  ·show(lI (T:Int) (t.map fun p=>Sum.inl p.1) (t.map fun p=>.int p.2)).map _=_
   rw[h1];rfl
  ·show _=p.2*qS T p.1+cW (qS T) t
   rw[<- h2];unfold qS
   by_cases c:Builtin.bitAnd p.1 (T:Int)=0
   ·rw[JS c,JS c,List.sum_cons,Int.mul_one]
   ·rw[JR c,JR c,Int.mul_zero,Lc]
theorem lh:∀(rs:List Str)(j:Nat),j<=rs.length->(bg rs)[j]? =some (.lst ((eE (rs.drop j)).map iz))
 | [],0,_=>rfl
 | z::rs,0,_=>rfl
 | [],j+1,h=>by cases h
 | z::rs,j+1,h=>by
  rw[bg,Kq,List.drop_succ_cons];exact lh rs j (by rw[Jh]at h;omega)
theorem kc{rows:List Str}(w8:∀z∈rows,z.length<=8):iS (rows.map aV):=fun cs h c hc=>by
 obtain⟨z,hz,rfl⟩:=JW.mp h;have h1:=Ju.mp (J7.mp hc).1;have h2:=w8 z hz;omega
theorem i7:∀ns:List Int,aY (ns.map PV.int)=some ns
 | []=>rfl
 | n::ns=>by
  show(aY (ns.map PV.int)).map _=_;rw[i7 ns];rfl
structure JI(n:Nat)(b:List (Int×Int)):Prop where
 row:∀x∈b,0<=x.1/\x.1<n
 col:∀x∈b,0<=x.2/\x.2<8
 nod:(b.map (·.2)).Nodup
theorem JI.cols{n:Nat}{b:List (Int×Int)}(h:JI n b):(∀c∈b9 b,c<8)/\(b9 b).Nodup/\(b.map (·.2))=(b9 b).map fun c:Nat=>(c:Int):=by
 have e:(b.map (·.2))=(b9 b).map fun c:Nat=>(c:Int):=by
  unfold b9;rw[Jq];refine KI fun x hx=> ?_;have:=h.col x hx;show x.2=((x.2.toNat:Nat):Int);omega
 refine⟨fun c hc=> ?_,?_,e⟩
 ·obtain⟨x,hx,rfl⟩:=JW.mp hc
  have:=h.col x hx;omega
 ·have:=h.nod
  rw[e]at this;exact List.Pairwise.of_map _ (fun a b h e=>h (by rw[e])) this
theorem xh{n:Nat}{b:List (Int×Int)}(h:JI n b):bz b<=n:=by
 unfold bz;cases e:b.getLast? with
 | none=>exact Js _
 | some c =>
  have:=h.row c (List.mem_of_getLast? e);show(c.1+1).toNat<=n;omega
theorem mq{ns:List Int}{n:Bool}:kz .sum [.own (ns.map PV.int) n]=some (sc (.int ns.sum)):=by
 show(aY (ns.map PV.int)).map _=_;rw[i7];rfl
theorem Ar(c:Nat)(h:c<8):(dO .LShift (.frz (.int 1) true) (.frz ((PV.int∘fun c:Nat=>(c:Int)) c) true)).bind (fun r=>Option.map some r.keep)=some (some ((PV.int∘fun c:Nat=>(1:Int)*2^c) c,true)):=by
 show(if(0:Int)<=(c:Int)/\(c:Int)<=1000000/\(1:Int).natAbs<2^64 then some (sc (.int (1*2^(c:Int).toNat)))else none).bind (fun r=>Option.map some r.keep)=_;rw[JS ⟨by omega,by omega,by decide⟩];rfl
theorem c166(k:Nat)(rows:List Str)(b:List (Int×Int))(size:Nat)(h8:rows.length<=8)(w8:∀z∈rows,z.length<=8)(hb:JI rows.length b)(hl:b.length<=1000) :
  aG P (k+2) 166 [.lst (bg rows),.tup (b.map aM),.int size]=some (.int (nS (rows.map aV) size b)):=by
 refine dB rfl rfl ?_;simp only[Fe,entry];have i2:imms (b.map aM)=true:=bQ b;obtain⟨g1,g2⟩:=gx (rs:=rows.drop (bz b)) fun y hy=>w8 y (L9 hy);have hR:=xh hb;obtain⟨b1,b2,b3⟩:=hb.cols;have ex:nS (rows.map aV) size b=if b.length<=size then cnt ((rows.drop (bz b)).map aV) (b9 b) (size-b.length)else 0:=by
  unfold nS;rw[List.map_drop]
 walk_at "ev";rw[i2,c164 k b fun x hx=>(hb.row x hx).1];walk_at "ev";rw[bK (lh rows _ hR)];walk_at "ev";rw[JM,JM]
 by_cases c1:b.length<=size
 ·rw[JS c1]at ex
  have e1:((size:Int)-(b.length:Int))=((size-b.length:Nat):Int):=by omega
  rw[e1,show decide ((0:Int)<=((size-b.length:Nat):Int))=true from Jo (by omega)];walk_at "ev"
  by_cases c2:size-b.length<(eE (rows.drop (bz b))).length
  ·rw[show decide (((size-b.length:Nat):Int)<((eE (rows.drop (bz b))).length:Int))=true from Jo (by omega)]
   walk_at "ev";rw[c165 k b hl];walk_at "ev";rw[JS (by rw[JM,JM];omega),b3,Jq];rw[fr (h:=PV.int∘fun c:Nat=>(c:Int)) (g:=PV.int∘fun c:Nat=>(1:Int)*2^c) (fun c hc=>Ar c (b1 c hc)),<-Jq];walk_at "ev";rw[mq,mY b1 b2];walk_at "ev";obtain⟨tb,htb⟩:∃tb,(eE (rows.drop (bz b)))[size-b.length]? =some tb:=⟨_,Ja c2⟩;rw[bK (show((eE (rows.drop (bz b))).map iz)[size-b.length]? =some (iz tb)by rw[Jc,htb];rfl)];walk_at "ev";obtain⟨ns,hn1,hn2⟩:=pD (gj (b9 b)) tb;have hg:=(g2 tb (Jn htb)).len;unfold iz;rw[Em,JS (by rw[JM];show tb.length<=16777216;omega),hn1];walk_at "ev";rw[mq,hn2];walk_at "ev";have hw:=uD (rows:=(rows.drop (bz b)).map aV) (kc fun y hy=>w8 y (L9 hy)) (gj (b9 b)) (size-b.length);rw[<- o5,JX,htb]at hw;rw[ex,show cW (qS (gj (b9 b))) tb=_ from hw];refine Jw (fun z=>some (PV.int z)) (bv _ _ fun r hr d hd=> ?_);have hd8:=kc (rows:=rows.drop (bz b)) (fun y hy=>w8 y (L9 hy)) r hr d hd;rw[fG hd8,iJ]
  ·rw[show decide (((size-b.length:Nat):Int)<((eE (rows.drop (bz b))).length:Int))=false from Jk (by omega)]
   walk_at "ev";rw[ex,eX _ _ _ (by rw[JM];omega)]
 ·rw[JR c1]at ex
  rw[show decide ((0:Int)<=(size:Int)-(b.length:Int))=false from Jk (by omega)];walk_at "ev";rw[ex]
noncomputable def vR(i j:Nat):PV:=.tup [.int (i:Nat),.int (j:Nat)]
noncomputable def gH(rows:List Str)(i j:Nat):List PV:=((List.range j).filter fun c=>cd rows i c==120).map fun c=>vR i c
noncomputable def fw(rows:List Str)(w i:Nat):List PV:=(List.range i).flatMap fun r=>gH rows r w
theorem lu(rows:List Str)(i j:Nat):gH rows i (j+1)=gH rows i j++(if cd rows i j==120 then[vR i j]else[]):=by
 unfold gH;rw[K7,K1,Ji];cases h:cd rows i j==120<;>simp[h]
theorem iN(rows:List Str)(w i:Nat):fw rows w (i+1)=fw rows w i++gH rows i w:=by
 unfold fw;rw[K7,List.flatMap_append];simp
theorem jo(rows:List Str)(i j:Nat):(gH rows i j).length<=j:=by
 unfold gH;rw[JM];exact J2 (J3 _ _) (by rw[KO];exact JV _)
theorem gq(rows:List Str)(w:Nat):∀i,(fw rows w i).length<=i*w
 | 0=>by simp[fw]
 | i+1=>by
  rw[iN,Jj,Nat.succ_mul];have:=gq rows w i;have:=jo rows i w;omega
theorem jb{rows:List Str}{i:Nat}{z:Str}(h:rows[i]? =some z):cX (rows.map PV.str) (i:Int)=some (.str z):=bK (by rw[Jc,h];rfl)
theorem Ds{rows:List Str}{i:Nat}{x:PV}(hx:(rows.map PV.str)[i]? =some x):∃z,rows[i]? =some z/\z∈rows/\x=.str z:=by
 rw[Jc]at hx;cases e:rows[i]? with
 | none=>rw[e]at hx;cases hx
 | some z =>
  rw[e]at hx;exact⟨z,rfl,Jn e,(Jl hx).symm⟩
theorem c3(k:Nat)(rows:List Str)(w:Nat)(hw:Wd rows w)(h8:rows.length<=8)(w8:w<=8):aG P (k+1) 3 [.tup (rows.map .str)]=some (.lst (fw rows w rows.length)):=by
 refine dB rfl rfl ?_;have ims:=bm rows;simp only[d3,entry];walk_at "go";rw[ims];refine dJ (xs:=List.zipWith gQ (List.range (rows.map PV.str).length) (rows.map PV.str)) (n:=true) ?_ (fun i τ=>∃a b c d,τ=[.frz (.tup (rows.map .str)) true,.own (fw rows w i) true,a,b,c,d]) ⟨_,_,_,_,rfl⟩ ?_ ?_
 ·walk_at "ev"
  rfl
 ·rintro i y τ hy ⟨a,b,c,d,rfl⟩
  obtain⟨y,hy2,rfl⟩:=vI hy;obtain⟨z,hz,hm,rfl⟩:=Ds hy2;refine⟨_,rfl,?_⟩;have hi:i<rows.length:=(JY.mp hz).1;have hzl:z.length=w:=hw z hm;walk_at "ev";have hsl:(signs z).length=w:=by rw[cJ];exact hzl
  refine dJ (xs:=List.zipWith gQ (List.range (signs z).length) (signs z)) (n:=true) ?_ (fun j τ=>∃c d,τ=[.frz (.tup (rows.map .str)) true,.own (fw rows w i++gH rows i j) true,.frz (.int i) true,.frz (.str z) true,c,d]) ⟨c,d,by simp[gH,kN,mO,zF,vE]⟩ ?_ ?_
  ·walk_at "ev"
   simp only[qe,Option.map_some];rw[hsl,hzl]
  ·rintro j y τ hy ⟨c,d,rfl⟩
   obtain⟨y,hy1,rfl⟩:=vI hy;have hj:j<w:=by
    have:=(JY.mp hy1).1;omega
   obtain⟨z',g1,g2,g3⟩:=zk hw hi hj;rw[hz]at g1;cases g1;have hy2:(signs z)[j]? =some (.str ⟨#[cd rows i j]⟩):=by
    unfold signs;rw[Jc,g2];rfl
   rw[hy2]at hy1;cases hy1;refine⟨_,rfl,?_⟩;walk_at "ev";rw[iE];have hlen:(fw rows w i++gH rows i j).length<LN:=by
    rw[Jj];have e1:=gq rows w i;have e2:=jo rows i j;have e3:i*w<=8*8:=Nat.mul_le_mul (by omega) w8;show _<16777216;omega
   have rs:=lu rows i j;cases hc:cd rows i j==120 with
   | true =>
    rw[hc]at rs;walk_at "go";rw[eM rfl hlen];walk_at "ev";exact⟨.frz (.int j) true,.frz (.str ⟨#[cd rows i j]⟩) true,by rw[rs];simp[vR]⟩
   | false =>
    rw[hc]at rs;walk_at "ev";exact⟨.frz (.int j) true,.frz (.str ⟨#[cd rows i j]⟩) true,by rw[rs];simp⟩
  ·rintro τ ⟨c,d,rfl⟩
   rw[qf,hsl];walk_at "ev";exact⟨_,_,_,_,by rw[iN]⟩
 ·rintro τ ⟨a,b,c,d,rfl⟩
  rw[qf,JM];walk_at "ev"
noncomputable def yU:PV->Bool
 | .int _=>true
 | _=>false
noncomputable def AQ:PV->Bool
 | .dT _ _=>false
 | _=>true
noncomputable def kn3:PV->Bool
 | .dT _ _=>false
 | .tup xs=>xs.all AQ
 | _=>true
theorem c24(k:Nat)(v:PV)(h:AQ v=true):aG P (k+1) 24 [v]=some (.bl (yU v)):=by
 refine run rfl rfl ?_;simp only[d24,entry];cases v<;>first|(cases h;done)|(walk_at "ev";rfl)
noncomputable def bL(rows:List Str)(w:Nat)(v:PV):Bool:=match gO v with
 | some q=>decide (0<=q.1/\q.1<rows.length/\0<=q.2/\q.2<w/\cd rows q.1.toNat q.2.toNat=120)
 | none=>false
theorem km{rows:List Str}{w:Nat}{v:PV}(h:gO v=none):bL rows w v=false:=by
 unfold bL;rw[h]
theorem pT{a b:PV}(h:(yU a&&yU b)=false):gO (.tup [a,b])=none:=by
 cases a<;>cases b<;>first|rfl|(cases h;done)
theorem yD{xs:List PV}(h:xs.length≠2):gO (.tup xs)=none:=by
 cases e:gO (.tup xs)with
 | none=>rfl
 | some q =>
  have:=nL e;unfold aM at this
  injection this with e1
  subst e1;exact absurd rfl h
theorem c25(k:Nat)(rows:List Str)(w:Nat)(v:PV)(hw:Wd rows w)(h0:rows≠[])(h8:rows.length<=8)(w8:w<=8)(hk:kn3 v=true):aG P (k+2) 25 [.tup (rows.map .str),v]=some (.bl (bL rows w v)):=by
 refine run rfl rfl ?_;simp only[d25,entry];cases v with
 | dT _ _=>cases hk
 | tup xs =>
  by_cases hl:xs.length=2
  ·obtain⟨a,b,rfl⟩:=rS hl
   have ka:AQ a=true:=by
    have:(AQ a&&(AQ b&&true))=true:=hk
    revert this;cases AQ a<;>simp
   have kb:AQ b=true:=by
    have:(AQ a&&(AQ b&&true))=true:=hk
    revert this;cases AQ b<;>simp
   have e1:=c24 k a ka;have e2:=c24 k b kb;have d2:(!decide (((2:Nat):Int)=2))=false:=by decide
   walk_at "go";rw[d2];walk_at "go";rw[e1,e2];cases na:yU a with
   | false =>
    walk_at "go";rw[km (pT (by rw[na];rfl))]
   | true =>
    cases nb:yU b with
    | false =>
     walk_at "go";rw[km (pT (by rw[na,nb];rfl))]
    | true =>
     obtain⟨i,rfl⟩:∃i,a=.int i:=by cases a<;>first|exact⟨_,rfl⟩|cases na
     obtain⟨j,rfl⟩:∃j,b=.int j:=by cases b<;>first|exact⟨_,rfl⟩|cases nb
     walk_at "go";have eC:bL rows w (.tup [.int i,.int j])=decide (0<=i/\i<rows.length/\0<=j/\j<w/\cd rows i.toNat j.toNat=120):=rfl;rw[eC];obtain⟨z0,hz0⟩:∃z,rows[0]? =some z:=⟨rows[0]'(by cases rows with|nil=>exact absurd rfl h0|cons _ _=>simp),by cases rows with|nil=>exact absurd rfl h0|cons _ _=>rfl⟩;have a0:cX (rows.map PV.str) 0=some (.str z0):=jb hz0;have l0:z0.length=w:=hw z0 (Jn hz0);rw[JM,a0]
     by_cases i0:0<=i
     ·rw[Jo i0]
      by_cases i1:i<rows.length
      ·rw[Jo i1]
       walk_at "go"
       by_cases j0:0<=j
       ·rw[Jo j0]
        walk_at "go";have lz:eR (.str z0)=some w:=by
         show(if z0.length<=LN then some z0.length else none)=some w;rw[JS (by rw[l0];show w<=16777216;omega),l0]
        rw[lz];walk_at "go"
        by_cases j1:j<w
        ·rw[Jo j1]
         walk_at "go";obtain⟨m,rfl⟩:∃m:Nat,i=m:=⟨i.toNat,by omega⟩;obtain⟨n,rfl⟩:∃n:Nat,j=n:=⟨j.toNat,by omega⟩;have hm:m<rows.length:=by omega
         obtain⟨z,g1,g2,g3⟩:=zk hw hm (show n<w by omega);rw[jb g1];walk_at "go";rw[bK g2];walk_at "go";rw[iE];walk_at "go"
         congr 2
         rw[J8,LH,J4];simp only[LC]
         constructor
         ·intro c
          exact⟨by omega,by omega,by omega,by omega,c⟩
         ·intro c
          exact c.2.2.2.2
        ·rw[Jk j1]
         walk_at "go";rw[Jk (by omega)]
       ·rw[Jk j0]
        walk_at "go";rw[Jk (by omega)]
      ·rw[Jk i1]
       walk_at "go";rw[Jk (by omega)]
     ·rw[Jk i0]
      walk_at "go";rw[Jk (by omega)]
  ·rw[km (yD hl)]
   have d2:(!decide ((xs.length:Int)=2))=true:=by
    rw[LD,decide_eq_false_iff_not];omega
   walk_at "go"
 | _=>walk_at "ev";rfl
theorem mU{f:PV->Option (Option (PV×Bool))}{g:PV->PV}:∀{xs:List PV},(∀x∈xs,f x=some (some (g x,true)))->b8 f xs=some (xs.map g,true)
 | [],_=>rfl
 | x::xs,h=>by
  rw[b8,h x JP,mU fun y hy=>h y (JO _ hy)];rfl
theorem fF{α:Type}{f:PV->Option (Option (PV×Bool))}{F:α->PV}{G:α->PV}{l:List α}(h:∀x∈l,f (F x)=some (some (G x,true))):b8 f (l.map F)=some (l.map G,true):=by
 induction l with
 | nil=>rfl
 | cons x l ih =>
  rw[JZ,b8,h x JP,ih fun y hy=>h y (JO _ hy)];rfl
structure Pl(rows:List Str)(w:Nat)(qs:List (Int×Int)):Prop where
 cell:∀q∈qs,bL rows w (aM q)=true
 asc:(qs.map (·.1)).Pairwise (·<·)
 cols:(qs.map (·.2)).Nodup
noncomputable def Cm(rows:List Str)(w:Nat)(v:PV):Prop:=∃qs,v=.tup (qs.map aM)/\Pl rows w qs
noncomputable def pU(rows:List Str)(w:Nat)(v:PV):Bool:= @decide (Cm rows w v) (Classical.propDecidable _)
theorem eO{rows:List Str}{w:Nat}{v:PV}(h:¬Cm rows w v):pU rows w v=false:=by
 unfold pU;exact @decide_eq_false _ (Classical.propDecidable _) h
theorem g8{rows:List Str}{w:Nat}{v:PV}(h:Cm rows w v):pU rows w v=true:=by
 unfold pU;exact @decide_eq_true _ (Classical.propDecidable _) h
theorem nK{p q:Int×Int}(h:aM p=aM q):p=q:=by
 have e:=Jw gO h;have e1:gO (aM p)=some (p.1,p.2):=rfl;have e2:gO (aM q)=some (q.1,q.2):=rfl;rw[e1,e2]at e;have:=Jl e;exact Prod.ext (Jw Prod.fst this) (Jw Prod.snd this)
theorem CI{rows:List Str}{w:Nat}{v:PV}(h:bL rows w v=true):∃q,v=aM q:=by
 unfold bL at h;cases e:gO v with
 | none=>rw[e]at h;cases h
 | some q=>exact⟨q,nL e⟩
theorem cell_in{rows:List Str}{w:Nat}{q:Int×Int}(h:bL rows w (aM q)=true):0<=q.1/\q.1<rows.length/\0<=q.2/\q.2<w/\cd rows q.1.toNat q.2.toNat=120:=by
 have e:bL rows w (aM q)=decide (0<=q.1/\q.1<rows.length/\0<=q.2/\q.2<w/\cd rows q.1.toNat q.2.toNat=120):=rfl;rw[e]at h;exact Jr h
theorem mV{rows:List Str}{w:Nat}:∀{xs:List PV},(∀x∈xs,bL rows w x=true)->∃qs:List (Int×Int),xs=qs.map aM
 | [],_=>⟨[],rfl⟩
 | x::xs,h=>by
  obtain⟨q,rfl⟩:=CI (h x JP);obtain⟨qs,rfl⟩:=mV fun y hy=>h y (JO _ hy);exact⟨q::qs,rfl⟩
theorem rA{α:Type}(f:α->Bool):∀l:List α,gi (l.map fun x=>PV.bl (f x))=some (l.map f)
 | []=>rfl
 | x::l=>by rw[JZ,gi,rA f l];rfl
theorem mS:∀xs ys:List Int,iB (xs.map PV.int) (ys.map PV.int)=decide (xs=ys)
 | [],[]=>rfl
 | [],_::_=>rfl
 | _::_,[]=>rfl
 | x::xs,y::ys=>by
  show(decide (x=y)&&iB (xs.map PV.int) (ys.map PV.int))=_;rw[mS xs ys,J8];simp
theorem kS(n:Nat)(xs:List Int):(xs.map PV.int).all (cq n)=true:=by
 rw[Jf];intro x hx;obtain⟨i,_,rfl⟩:=JW.mp hx;cases n<;>rfl
theorem zf(xs ys:List Int):ah .Eq (.lst (xs.map PV.int)) (.lst (ys.map PV.int))=some (decide (xs=ys)):=by
 rw[CF];have f1:cq 12 (.lst (xs.map PV.int))=true:=kS 11 xs;have f2:cq 12 (.lst (ys.map PV.int))=true:=kS 11 ys;rw[f1,f2];show some (iB (xs.map PV.int) (ys.map PV.int))=_;rw[mS]
theorem jl{ns:List Int}(h:∀n∈ns,0<=n/\n<8):eF (.lst (ns.map PV.int))=some ns:=by
 show((aY (ns.map PV.int)).bind fun ns=>if ns.all (fun n=>decide (0<=n)&&decide (n<8))=true then some ns else none)=some ns;rw[fk];show(if ns.all (fun n=>decide (0<=n)&&decide (n<8))=true then some ns else none)=some ns;rw[JS];rw[Jf];intro n hn
 simpa using h n hn
theorem Bu(qs:List (Int×Int)):imms (qs.map aM)=true:=bQ qs
noncomputable def kn5:PV->Bool
 | .dT _ _=>false
 | .tup xs=>xs.all kn3&&decide (xs.length<=1000)
 | _=>true
theorem c26(k:Nat)(rows:List Str)(w:Nat)(v:PV)(hw:Wd rows w)(h0:rows≠[])(h8:rows.length<=8)(w8:w<=8)(hk:kn5 v=true):aG P (k+3) 26 [.tup (rows.map .str),v]=some (.bl (pU rows w v)):=by
 refine run rfl rfl ?_;simp only[d26,entry];cases v with
 | dT _ _=>cases hk
 | tup xs =>
  have hk2:(xs.all kn3&&decide (xs.length<=1000))=true:=hk;rw[JU,J4]at hk2;have hl:xs.length<=LN:=by have:=hk2.2;show xs.length<=16777216;omega
  walk_at "go";rw[mU (g:=fun x=>.bl (bL rows w x)) fun x hx=> ?h1]
  case h1 =>
   walk_at "go";rw[c25 k rows w x hw h0 h8 w8 (Jf.mp hk2.1 x hx)];walk_at "go"
  walk_at "go";rw[rA];walk_at "go";cases ha:(xs.map (bL rows w)).all id with
  | false =>
   walk_at "go";rw[eO];rintro⟨qs,e,pl⟩;cases e;have:((qs.map aM).map (bL rows w)).all id=true:=by
    rw[Jf];intro b hb;obtain⟨x,hx,rfl⟩:=JW.mp hb;obtain⟨q,hq,rfl⟩:=JW.mp hx;exact pl.cell q hq
   rw[this]at ha;cases ha
  | true =>
   have hc:∀x∈xs,bL rows w x=true:=fun x hx=>Jf.mp ha _ (JW.mpr ⟨x,hx,rfl⟩);obtain⟨qs,rfl⟩:=mV hc;have hcq:∀q∈qs,bL rows w (aM q)=true:=fun q hq=>hc _ (JW.mpr ⟨q,hq,rfl⟩);rw[Bu];walk_at "go";rw[fF (G:=fun q:Int×Int=>.int q.1) fun q hq=> ?h2]
   case h2=>rfl
   walk_at "go";rw[fF (G:=fun q:Int×Int=>.int q.2) fun q hq=> ?h3]
   case h3=>rfl
   have r8:∀n∈qs.map (·.1),0<=n/\n<8:=fun n hn=>by
    obtain⟨q,hq,rfl⟩:=JW.mp hn;have:=cell_in (hcq q hq);omega
   have s8:∀n∈qs.map (·.2),0<=n/\n<8:=fun n hn=>by
    obtain⟨q,hq,rfl⟩:=JW.mp hn;have:=cell_in (hcq q hq);omega
   have er:(qs.map fun q:Int×Int=>PV.int q.1)=(qs.map (·.1)).map PV.int:=by rw[Jq];rfl
   have es:(qs.map fun q:Int×Int=>PV.int q.2)=(qs.map (·.2)).map PV.int:=by rw[Jq];rfl
   rw[er,es];walk_at "go";rw[jl r8,jl s8];walk_at "go";rw[zf]
   by_cases hA:qs.map (·.1)=bj (qs.map (·.1))
   ·rw[Jo hA]
    walk_at "go"
    congr 2
    have hl:(qs.map (·.2)).length=((qs.map (·.2)).map PV.int).length:=by rw[JM (f:=PV.int)]
    rw[<- hl]
    by_cases hB:(qs.map (·.2)).Nodup
    ·rw[g8 ⟨qs,rfl,hcq,(mE r8).mp hA,hB⟩,Jo]
     have:=(pe s8).mpr hB;omega
    ·rw[eO,Jk]
     ·intro z
      exact hB ((pe s8).mp (by omega))
     ·rintro⟨ps,e,pl⟩
      injection e with e1
      have:qs=ps:=List.map_inj_right (fun a b=>nK) |>.mp e1
      subst this;exact hB pl.cols
   ·rw[Jk hA]
    walk_at "go";rw[eO];rintro⟨ps,e,pl⟩
    injection e with e1
    have:qs=ps:=List.map_inj_right (fun a b=>nK) |>.mp e1
    subst this;exact hA ((mE r8).mpr pl.asc)
 | _ =>
  walk_at "ev";rw[eO (by rintro⟨qs,e,_⟩;cases e)]
noncomputable def cI(rows:List Str)(w:Nat):List (Int×Int):=(List.range rows.length).flatMap fun r=>((List.range w).filter fun c=>cd rows r c==120).map fun c:Nat=>((r:Int),(c:Int))
theorem tT(rows:List Str)(w:Nat):fw rows w rows.length=(cI rows w).map aM:=by
 unfold fw cI gH;rw[List.map_flatMap]
 congr 1
 funext r
 rw[Jq];rfl
theorem kq{rows:List Str}{w:Nat}{q:Int×Int}:q∈cI rows w↔bL rows w (aM q)=true:=by
 unfold cI;rw[List.mem_flatMap]
 constructor
 ·rintro⟨r,hr,hq⟩
  obtain⟨c,hc,rfl⟩:=JW.mp hq;rw[J7,Ju,LH]at hc;rw[Ju]at hr;show decide (0<=(r:Int)/\(r:Int)<rows.length/\0<=(c:Int)/\(c:Int)<w/\cd rows (r:Int).toNat (c:Int).toNat=120)=true;rw[J4];exact⟨by omega,by omega,by omega,by omega,hc.2⟩
 ·intro h
  obtain⟨h1,h2,h3,h4,h5⟩:=cell_in h;refine⟨q.1.toNat,Ju.mpr (by omega),JW.mpr ⟨q.2.toNat,?_,Prod.ext (by show((q.1.toNat:Nat):Int)=q.1;omega) (by show((q.2.toNat:Nat):Int)=q.2;omega)⟩⟩;rw[J7,Ju,LH];exact⟨by omega,h5⟩
theorem zm{rows:List Str}{w:Nat}(h8:rows.length<=8)(w8:w<=8):(cI rows w).length<=64:=by
 have e:=Jw List.length (tT rows w);rw[JM]at e;rw[<- e];refine J2 (gq rows w rows.length) ?_;exact Nat.mul_le_mul h8 w8
noncomputable def qp(rows:List Str)(w:Nat):List (List Nat):=(List.range rows.length).map fun r=>(List.range w).filter fun c=>cd rows r c==120
theorem gf(f:Nat->List Nat):∀(n k:Nat),ai (k:Int) ((List.range n).map fun i=>f (k+i))=(List.range n).flatMap fun i=>(f (k+i)).map fun c:Nat=>(((k+i:Nat):Int),(c:Int))
 | 0,k=>rfl
 | n+1,k=>by
  rw[List.range_succ_eq_map,JZ,ai,List.flatMap_cons,Jq];have ih:=gf f n (k+1);have e1:((List.range n).map ((fun i=>f (k+i))∘Nat.succ))=(List.range n).map fun i=>f (k+1+i):=KI fun i _=>by show f (k+(i+1))=f (k+1+i);rw[show k+(i+1)=k+1+i by omega]
  rw[e1,show(k:Int)+1=((k+1:Nat):Int)by omega,ih,List.flatMap_map];refine Jw (fun z=>pJ (k:Int) (f (k+0))++z) ?_;refine Jw (fun g=>(List.range n).flatMap g) (funext fun i=> ?_);show _=(f (k+(i+1))).map fun c:Nat=>(((k+(i+1):Nat):Int),(c:Int));rw[show k+(i+1)=k+1+i by omega]
theorem kr(rows:List Str)(w:Nat):cI rows w=ai 0 (qp rows w):=by
 have:=gf (fun r=>(List.range w).filter fun c=>cd rows r c==120) rows.length 0;unfold cI qp;rw[show((0:Nat):Int)=0 from rfl]at this;simp only[La]at this;exact this.symm
theorem D8{rows:List Str}{w:Nat}{ps:List (Int×Int)}:Pl rows w ps↔AR (qp rows w) ps:=by
 constructor
 ·intro h
  exact⟨⟨h.asc,h.cols⟩,fun x hx=>by rw[<- kr];exact kq.mpr (h.cell x hx)⟩
 ·rintro⟨⟨h1,h2⟩,h3⟩
  exact⟨fun x hx=>kq.mp (by rw[kr];exact h3 x hx),h1,h2⟩
theorem jQ{rows:List Str}{w:Nat}{b:List (Int×Int)}{c:Int×Int}(hb:Pl rows w b)(hc:bL rows w (aM c)=true):Pl rows w (b++[c])↔cZ b c=true:=by
 constructor
 ·intro h
  exact(gk.mp ⟨h.asc,h.cols⟩).2
 ·intro o
  obtain⟨h1,h2⟩:=gk.mpr ⟨⟨hb.asc,hb.cols⟩,o⟩;refine⟨fun x hx=> ?_,h1,h2⟩
  rcases J0.mp hx with z|z
  ·exact hb.cell x z
  ·rw[J5.mp z]
   exact hc
theorem D7{rows:List Str}{w:Nat}{p q:List (Int×Int)}(h:Pl rows w p)(s:q.Sublist p):Pl rows w q :=
 ⟨fun x hx=>h.cell x (s.subset hx),h.asc.sublist (s.map _),h.cols.sublist (s.map _)⟩
theorem g9{rows:List Str}{w:Nat}:Pl rows w []:=⟨fun x hx=>(by cases hx),.nil,.nil⟩
theorem i9{rows:List Str}{w:Nat}(hw:Wd rows w):rows.map aV=qp rows w:=by
 refine Lr fun i=> ?_;unfold qp;rw[Jc,Jc]
 by_cases hi:i<rows.length
 ·rw[Ja hi,KB hi]
  refine Jw some ?_;have e:rows.getD i ⟨#[]⟩=rows[i]:=by rw[JX,Ja hi];rfl
  show(List.range rows[i].length).filter (fun c=>rows[i].cps.toList.getD c 0==120)=(List.range w).filter fun c=>(rows.getD i ⟨#[]⟩).cps.toList.getD c 0==120;rw[e,hw _ (Ky hi)]
 ·rw[KN (by omega),KN (by rw[KO];omega)]
  rfl
theorem D9{rows:List Str}{w:Nat}{b:List (Int×Int)}(w8:w<=8)(h:Pl rows w b):JI rows.length b :=
 ⟨fun x hx=>by obtain⟨h1,h2,_⟩:=cell_in (h.cell x hx);exact⟨h1,h2⟩,fun x hx=>by obtain⟨_,_,h1,h2,_⟩:=cell_in (h.cell x hx);exact⟨h1,by omega⟩,h.cols⟩
theorem Ce:∀{n:Nat}{l:List Int},l.Pairwise (·<·)->(∀x∈l,0<=x/\x<n)->l.length<=n:=fun{n l} hp hl=>by
 have h1:∀(l:List Int)(m:Int),l.Pairwise (·<·)->(∀x∈l,m<=x/\x<n)->(l.length:Int)<=max (n-m) 0:=by
  intro l
  induction l with
  | nil=>intro m _ _;show(0:Int)<=_;omega
  | cons x l ih =>
   intro m hp hl;obtain⟨p1,p2⟩:=Kz.mp hp;have:=ih (x+1) p2 fun y hy=>⟨by have:=p1 y hy;omega,(hl y (JO _ hy)).2⟩;have:=hl x JP;rw[Jh];omega
 have:=h1 l 0 hp hl;omega
theorem jt{rows:List Str}{w:Nat}{b:List (Int×Int)}(h:Pl rows w b):b.length<=rows.length:=by
 have:=Ce (n:=rows.length) h.asc fun x hx=>by
  obtain⟨q,hq,rfl⟩:=JW.mp hx;obtain⟨h1,h2,_⟩:=cell_in (h.cell q hq);exact⟨h1,h2⟩
 rw[JM]at this;exact this
theorem ym{b:List (Int×Int)}(hb:b.length<=1000):kn5 (.tup (b.map aM))=true:=by
 show((b.map aM).all kn3&&decide ((b.map aM).length<=1000))=true;rw[JU,Jf,J4,JM];refine⟨fun x hx=> ?_,hb⟩;obtain⟨q,_,rfl⟩:=JW.mp hx;rfl
theorem pS:∀{p q:List (Int×Int)},p.map aM=q.map aM->p=q
 | [],[],_=>rfl
 | [],_::_,h=>by cases h
 | _::_,[],h=>by cases h
 | x::p,y::q,h=>by
  rw[JZ,JZ]at h;obtain⟨h1,h2⟩:=List.cons.inj h;rw[nK h1,pS h2]
noncomputable def itsP:PV->List PV
 | .tup xs=>xs
 | _=>[]
theorem jr{rows:List Str}{w:Nat}{b:List (Int×Int)}:Cm rows w (.tup (b.map aM))↔Pl rows w b:=by
 constructor
 ·rintro⟨qs,e,h⟩
  have e2:b.map aM=qs.map aM:=by
   have:=Jw itsP e;exact this
  rw[pS e2];exact h
 ·exact fun h=>⟨b,rfl,h⟩
theorem c26y(k:Nat){rows:List Str}{w:Nat}{b:List (Int×Int)}(hw:Wd rows w)(h0:rows≠[])(h8:rows.length<=8)(w8:w<=8)(h:Pl rows w b):aG P (k+3) 26 [.tup (rows.map .str),.tup (b.map aM)]=some (.bl true):=by
 have:=jt h;rw[c26 k rows w _ hw h0 h8 w8 (ym (by omega)),g8 (jr.mpr h)]
theorem IJ(k:Nat){rows:List Str}{w:Nat}{b:List (Int×Int)}{c:Int×Int}(hw:Wd rows w)(h0:rows≠[])(h8:rows.length<=8)(w8:w<=8)(h:Pl rows w b)(hc:bL rows w (aM c)=true):aG P (k+3) 26 [.tup (rows.map .str),.tup ((b++[c]).map aM)]=some (.bl (cZ b c)):=by
 have:=jt h;rw[c26 k rows w _ hw h0 h8 w8 (ym (by rw[Jj,List.length_singleton];omega))];cases e:cZ b c with
 | true=>rw[g8 (jr.mpr ((jQ h hc).mpr e))]
 | false=>rw[eO fun z=>by have:=(jQ h hc).mp (jr.mp z);rw[e]at this;cases this]
theorem yc(a c:Int×Int):ah .Lt (aM a) (aM c)=some (gS a c):=by
 have f:∀q:Int×Int,cq 12 (aM q)=true:=fun q=>rfl;show C8 (aM a) (aM c)=_;unfold C8;rw[f,f,Bool.and_self,JS rfl];show(if decide (a.1=c.1)=true then(if decide (a.2=c.2)=true then some false else some (decide (a.2<c.2)))else some (decide (a.1<c.1)))=_;unfold gS
 by_cases h1:a.1=c.1
 ·rw[JS (Jo h1),JS h1]
  by_cases h2:a.2=c.2
  ·rw[JS (Jo h2),show decide (a.2<c.2)=false from Jk (by omega)]
  ·rw[JR (by simpa using h2)]
 ·rw[JR (by simpa using h1),JR h1]
noncomputable def fZ(p:List (Int×Int))(c:Int×Int):List (Int×Int):=p.filter fun x=>gS x c
theorem c168(k:Nat)(p:List (Int×Int))(c:Int×Int)(hp:p.length<=1000):aG P (k+1) 168 [.tup (p.map aM),aM c]=some (.tup ((fZ p c++[c]).map aM)):=by
 refine dB rfl rfl ?_;simp only[Fc,entry];have i2:imms (p.map aM)=true:=bQ p;have ic:imm (aM c)=true:=rfl;walk_at "ev";rw[i2,ic];walk_at "ev";rw[JS (by rw[JM];omega)];rw[cV (p:=fun x=>gS x c) (g:=aM) fun x hx=> ?hf]
 case hf =>
  rw[yc];walk_at "ev";cases gS x c<;>rfl
 walk_at "ev";have hl:(fZ p c).length<=p.length:=J3 _ _;rw[JS (by rw[Jj,JM];show(fZ p c).length+1<=_;omega)];walk_at "ev";rw[Ji];rfl
theorem c3I(k:Nat){rows:List Str}{w:Nat}(hw:Wd rows w)(h8:rows.length<=8)(w8:w<=8):aG P (k+1) 3 [.tup (rows.map .str)]=some (.lst ((cI rows w).map aM)):=by
 rw[c3 k rows w hw h8 w8,tT]
theorem wd8{rows:List Str}{w:Nat}(hw:Wd rows w)(w8:w<=8):∀z∈rows,z.length<=8:=fun z hz=>by rw[hw z hz];exact w8
theorem zn(k:Nat){rows:List Str}{w:Nat}(size:Nat){b:List (Int×Int)}(hw:Wd rows w)(h8:rows.length<=8)(w8:w<=8)(hb:Pl rows w b) :
  aG P (k+2) 166 [.lst (bg rows),.tup (b.map aM),.int size]=some (.int (nS (rows.map aV) size b)):=by
 have:=jt hb;exact c166 k rows b size h8 (wd8 hw w8) (D9 w8 hb) (by omega)
noncomputable def Aq(rows:List Str)(w size:Nat)(n:Int)(i:Nat):List (Int×Int)×Int:=((cI rows w).take i).foldl (OD.turn cZ (nS (rows.map aV) size)) ([],n)
theorem xW{rows:List Str}{w size:Nat}{n:Int}{i:Nat}{q:Int×Int}(hq:(cI rows w)[i]? =some q):Aq rows w size n (i+1)=OD.turn cZ (nS (rows.map aV) size) (Aq rows w size n i) q:=by
 unfold Aq;rw[List.take_succ,hq,LS];rfl
theorem c167(k:Nat)(rows:List Str)(w size:Nat)(n:Int)(hw:Wd rows w)(h0:rows≠[])(h8:rows.length<=8)(w8:w<=8)(n0:0<=n)(n1:n<nS (rows.map aV) size []) :
  aG P (k+4) 167 [.tup (rows.map .str),.int size,.int n]=some (.tup (((cI rows w).foldl (OD.turn cZ (nS (rows.map aV) size)) ([],n)).1.map aM)):=by
 refine dB rfl rfl ?_;simp only[Fd,entry];have im:=bm rows;have e0:aG P (k+3) 166 [.lst (bg rows),.tup [],.int size]=_:=zn (k+1) size hw h8 w8 (g9 (w:=w));walk_at "ev";rw[im,IM (k+1) rows h8 (wd8 hw w8)];walk_at "ev";rw[show decide ((0:Int)<=n)=true from Jo n0];walk_at "ev";rw[e0];walk_at "ev";rw[show decide (n<nS (rows.map aV) size [])=true from Jo n1];walk_at "ev";refine dJ (xs:=(cI rows w).map aM) (n:=true) ?_ (fun i τ=>∃a b c,Pl rows w (Aq rows w size n i).1/\τ=[.frz (.tup (rows.map .str)) true,.frz (.int size) true,.frz (.int n) true,.frz (.lst (bg rows)) true,.frz (.tup ((Aq rows w size n i).1.map aM)) true,.frz (.int (Aq rows w size n i).2) true,a,b,c]) ⟨.un,.un,.un,g9,rfl⟩ ?_ ?_
 ·walk_at "ev"
  rw[c3I (k+2) hw h8 w8];walk_at "ev"
 ·rintro i y τ hy ⟨a,b,c,pl,rfl⟩
  obtain⟨q,hq,rfl⟩:∃q,(cI rows w)[i]? =some q/\y=aM q:=by
   rw[Jc]at hy;cases e:(cI rows w)[i]? with
   | none=>rw[e]at hy;cases hy
   | some q=>rw[e]at hy;cases hy;exact⟨q,rfl,rfl⟩
  have hcq:bL rows w (aM q)=true:=kq.mp (Jn hq);have hl:=jt pl;have iq:imm (aM q)=true:=rfl;refine⟨_,rfl,?_⟩;rw[xW hq]
  generalize Aq rows w size n i=st at pl hl ⊢
  walk_at "ev";rw[JS (by rw[Jj,JM];show st.1.length+1<=_;omega)];walk_at "ev";have em:st.1.map aM++[aM q]=(st.1++[q]).map aM:=by rw[Ji];rfl
  rw[em,IJ k hw h0 h8 w8 pl hcq];unfold OD.turn;cases ho:cZ st.1 q with
  | false =>
   walk_at "ev";exact⟨_,_,_,pl,rfl⟩
  | true =>
   have pl2:=(jQ pl hcq).mpr ho;rw[JS rfl];walk_at "ev";rw[zn (k+1) size hw h8 w8 pl2];walk_at "ev"
   by_cases hlt:st.2<nS (rows.map aV) size (st.1++[q])
   ·rw[Jo hlt,JS hlt]
    walk_at "ev";exact⟨_,_,_,pl2,rfl⟩
   ·rw[Jk hlt,JR hlt]
    walk_at "ev"
    first|exact⟨_,_,_,pl,rfl⟩|exact⟨_,rfl,_,_,_,pl,rfl⟩
 ·rintro τ ⟨a,b,c,pl,rfl⟩
  have e:Aq rows w size n ((cI rows w).map aM).length=(cI rows w).foldl (OD.turn cZ (nS (rows.map aV) size)) ([],n):=by
   unfold Aq;rw[JM,Kl]
  rw[e];walk_at "ev"
theorem jW(a c:Int×Int):lG (aM a) (aM c)=decide (a=c):=by
 show(decide (a.1=c.1)&&(decide (a.2=c.2)&&true))=_;rw[Bool.and_true,J8,JU,J4,J4,J4];exact⟨fun h=>Prod.ext h.1 h.2,fun h=>by rw[h];exact⟨rfl,rfl⟩⟩
theorem Bq(c:Int×Int)(p:List (Int×Int)):ah .NotIn (aM c) (.tup (p.map aM))=some (!decide (c∈p)):=by
 have f:∀q:Int×Int,cq 12 (aM q)=true:=fun q=>rfl;show(GL (aM c) (p.map aM)).map (!·)=_;unfold GL;rw[JR (fun z=>by cases z.1),JS]
 ·show some (!_)=_
  refine Jw (fun b=>some !b) ?_;rw[J8,List.any_eq_true,J4]
  constructor
  ·rintro⟨y,hy,e⟩
   obtain⟨q,hq,rfl⟩:=JW.mp hy;rw[jW]at e;rw[<- Jr e];exact hq
  ·intro h
   exact⟨aM c,JW.mpr ⟨c,h,rfl⟩,by rw[jW];exact Jo rfl⟩
 ·rw[f,Bool.true_and,Jf]
  intro y hy;obtain⟨q,_,rfl⟩:=JW.mp hy;exact f q
theorem o6(nb:List (Int×Int)->Int)(p:List (Int×Int)):∀L:List (Int×Int),((((L.filter fun c=> !decide (c∈p)).filter fun c=>cZ (fZ p c) c).map fun c=>nb (fZ p c++[c])).sum)=OD.sumZ (OD.lC cZ gS nb p) L
 | []=>rfl
 | c::L=>by
  have ih:=o6 nb p L;show _=OD.lC cZ gS nb p c+OD.sumZ (OD.lC cZ gS nb p) L;rw[<- ih];have e:OD.lC cZ gS nb p c=if c∈p then 0 else if cZ (fZ p c) c then nb (fZ p c++[c])else 0:=by
   unfold OD.lC
   by_cases h:c∈p
   ·rw[JS h,JS h]
   ·rw[JR h,JR h]
    rfl
  rw[e]
  by_cases h:c∈p
  ·rw[List.filter_cons_of_neg (by simpa using h),JS h,Lc]
  ·rw[List.filter_cons_of_pos (by simpa using h),JR h]
   cases ho:cZ (fZ p c) c with
   | true=>rw[List.filter_cons_of_pos (by simpa using ho),JZ,List.sum_cons,JS rfl]
   | false=>rw[List.filter_cons_of_neg (by rw[ho];exact JT),JR JT,Lc]
theorem dv{rows:List Str}:∀cs∈rows.map aV,cs.Pairwise (·<·):=fun cs h=>by
 obtain⟨z,_,rfl⟩:=JW.mp h;exact List.Pairwise.filter _ List.pairwise_lt_range
theorem qt{rows:List Str}{w:Nat}(hw:Wd rows w):ai 0 (rows.map aV)=cI rows w:=by
 rw[i9 hw,kr]
theorem v5{rows:List Str}{w:Nat}{p:List (Int×Int)}(hw:Wd rows w):Pl rows w p↔AR (rows.map aV) p:=by
 rw[i9 hw];exact D8
theorem CL(k:Nat)(rows:List Str)(w:Nat)(p:List (Int×Int))(hw:Wd rows w)(h0:rows≠[])(h8:rows.length<=8)(w8:w<=8)(hp:Pl rows w p) :
  aG P (k+4) 169 [.tup (rows.map .str),.tup (p.map aM)]=some (.int ((bh (rows.map aV) p:Nat):Int)):=by
 refine dB rfl rfl ?_;simp only[Fb,entry];have im:=bm rows;have i2:imms (p.map aM)=true:=bQ p;have hl:=jt hp;have hcl:=zm (rows:=rows) h8 w8;walk_at "ev";rw[im,i2,c26y k hw h0 h8 w8 hp];walk_at "ev";rw[IM (k+1) rows h8 (wd8 hw w8)];walk_at "ev";rw[c3I (k+2) hw h8 w8];walk_at "ev";rw[JS (by rw[JM];omega)];rw[cV (p:=fun c=> !decide (c∈p)) (g:=fun c=>PV.tup ((fZ p c++[c]).map aM)) fun x hx=> ?hf]
 case hf =>
  rw[Bq];walk_at "ev";rw[c168 (k+2) p x (by omega)];cases decide (x∈p)<;>rfl
 walk_at "ev";have hfl:=J3 (fun c=> !decide (c∈p)) (cI rows w);rw[JS (by rw[JM];omega)];rw[cV (p:=fun c=>cZ (fZ p c) c) (g:=fun c=>PV.int (nS (rows.map aV) p.length (fZ p c++[c]))) fun x hx=> ?hf]
 case hf =>
  have hcx:bL rows w (aM x)=true:=kq.mp (J7.mp hx).1;have pp:Pl rows w (fZ p x):=D7 hp List.filter_sublist;rw[IJ k hw h0 h8 w8 pp hcx];cases ho:cZ (fZ p x) x with
  | false=>rfl
  | true =>
   walk_at "ev";rw[JM,zn (k+1) p.length hw h8 w8 ((jQ pp hcx).mpr ho)];rfl
 walk_at "ev";rw[show(fun c=>PV.int (nS (rows.map aV) p.length (fZ p c++[c])))=PV.int∘(fun c=>nS (rows.map aV) p.length (fZ p c++[c]))from rfl,<-Jq,mq,o6];walk_at "ev";rw[<- qt hw,wC dv ((v5 hw).mp hp)]
theorem c66(k:Nat)(rows:List Str)(w:Nat)(hw:Wd rows w)(h0:rows≠[])(h8:rows.length<=8)(w8:w<=8):aG P (k+1) 66 [.tup (rows.map .str)]=some (.lst (fw rows w rows.length)):=by
 refine dB rfl rfl ?_;have im:=zB rows;have ims:=bm rows;simp only[d66,entry];walk_at "go";obtain⟨z0,hz0⟩:∃z,rows[0]? =some z:=by
  cases rows with
  | nil=>exact absurd rfl h0
  | cons z r=>exact⟨z,rfl⟩
 have l0:z0.length=w:=hw z0 (Jn hz0);have a0:cX (rows.map PV.str) 0=some (.str z0):=jb (i:=0) hz0;rw[ims];refine dJ (xs:=(List.range rows.length).map fun i=>.int (0+(i:Nat))) (n:=true) ?_ (fun i τ=>∃a b,τ=[.frz (.tup (rows.map .str)) true,.own (fw rows w i) true,a,b]) ⟨_,_,rfl⟩ ?_ ?_
 ·walk_at "ev"
  simp only[nB,fA,JM];rw[JS ⟨by omega,by omega⟩];rfl
 ·rintro i y τ hy ⟨a,b,rfl⟩
  obtain⟨hi,rfl⟩:=eK hy;refine⟨_,rfl,?_⟩;walk_at "ev";refine dJ (xs:=(List.range w).map fun i=>.int (0+(i:Nat))) (n:=true) ?_ (fun j τ=>∃b,τ=[.frz (.tup (rows.map .str)) true,.own (fw rows w i++gH rows i j) true,.frz (.int i) true,b]) ⟨b,by simp[gH,kN]⟩ ?_ ?_
  ·walk_at "ev"
   rw[a0];walk_at "ev";rw[len_str,JS (by rw[l0];show w<=16777216;omega)];walk_at "ev";simp only[nB,fA,l0];rw[JS ⟨by omega,by omega⟩];rfl
  ·rintro j y τ hy ⟨b,rfl⟩
   obtain⟨hj,rfl⟩:=eK hy;refine⟨_,rfl,?_⟩;obtain⟨z,g1,g2,g3⟩:=zk hw hi hj;walk_at "ev";rw[jb g1];walk_at "ev";rw[JS (by rw[g3];show w<=16777216;omega),bK g2];walk_at "ev";rw[iE];have hlen:(fw rows w i++gH rows i j).length<LN:=by
    rw[Jj];have e1:=gq rows w i;have e2:=jo rows i j;have e3:i*w<=8*8:=Nat.mul_le_mul (by omega) w8;show _<16777216;omega
   have rs:=lu rows i j;cases hc:cd rows i j==120 with
   | true =>
    rw[hc]at rs;walk_at "go";rw[eM rfl hlen];walk_at "ev";exact⟨.frz (.int j) true,by rw[rs];simp[vR]⟩
   | false =>
    rw[hc]at rs;walk_at "ev";exact⟨.frz (.int j) true,by rw[rs];simp⟩
  ·rintro τ ⟨b,rfl⟩
   rw[jP];walk_at "ev";exact⟨_,_,by rw[iN]⟩
 ·rintro τ ⟨a,b,rfl⟩
  rw[jP];walk_at "ev"
theorem ly:∀ps:List (Int×Int),gN (ps.map aM)=some ps
 | []=>rfl
 | p::ps=>by
  show((gO (aM p)).bind fun q=>(gN (ps.map aM)).map (q::·))=_;rw[ly ps];rfl
theorem vu{ps:List (Int×Int)}(h0:ps≠[])(hl:ps.length<64)(hb:∀q∈ps,0<=q.2/\q.2<1000):ll (ps.map aM)=some (.own ((cz ps).map aM) true):=by
 unfold ll;have e:aY (ps.map aM)=none:=by
  cases ps with
  | nil=>exact absurd rfl h0
  | cons p ps=>rfl
 rw[e];show o9 _=_;unfold o9;rw[ly];have ha:ps.all (fun q=>decide (0<=q.2)&&decide (q.2<1000))=true:=by
  rw[Jf];intro q hq
  simpa using hb q hq
 show(if ps.length<64/\ps.all (fun q=>decide (0<=q.2)&&decide (q.2<1000))=true then some (RV.own ((cz ps).map aM) true)else none)=_;rw[JS ⟨hl,ha⟩]
noncomputable def apart(f q:Int×Int):Bool:= !decide (q.1=f.1)&& !decide (q.2=f.2)
structure Drawn(rows:List Str)(w:Nat)(fs:List (Int×Int)):Prop where
 cell:∀q∈fs,bL rows w (aM q)=true
 rowd:(fs.map (·.1)).Nodup
 cold:(fs.map (·.2)).Nodup
noncomputable def left(rows:List Str)(w:Nat)(fs:List (Int×Int)):List (Int×Int):=(cI rows w).filter fun q=>fs.all fun f=>apart f q
theorem mI(rows:List Str)(w:Nat)(fs:List (Int×Int))(f:Int×Int):(left rows w fs).filter (apart f)=left rows w (fs++[f]):=by
 unfold left;rw[List.filter_filter];refine MK fun q _=> ?_;rw[List.all_append,Bool.and_comm];simp
theorem Drawn.next{rows:List Str}{w:Nat}{fs:List (Int×Int)}{f:Int×Int}(h:Drawn rows w fs)(hf:f∈left rows w fs):Drawn rows w (fs++[f]):=by
 obtain⟨h1,h2⟩:=J7.mp hf;rw[Jf]at h2;have h3:∀x∈fs,f.1≠x.1/\f.2≠x.2:=fun x hx=>by
  have:=h2 x hx;unfold apart at this
  simpa using this
 refine⟨fun q hq=> ?_,?_,?_⟩
 ·rcases J0.mp hq with z|z
  ·exact h.cell q z
  ·rw[J5.mp z]
   exact kq.mp h1
 ·rw[Ji,KU]
  refine⟨h.rowd,by simp,fun a ha b hb=> ?_⟩;obtain⟨x,hx,rfl⟩:=JW.mp ha;rw[MH,J5]at hb;subst hb;exact fun e=>(h3 x hx).1 e.symm
 ·rw[Ji,KU]
  refine⟨h.cold,by simp,fun a ha b hb=> ?_⟩;obtain⟨x,hx,rfl⟩:=JW.mp ha;rw[MH,J5]at hb;subst hb;exact fun e=>(h3 x hx).2 e.symm
theorem Drawn.len{rows:List Str}{w:Nat}{fs:List (Int×Int)}(h:Drawn rows w fs):((fs.map (·.1)).length)<=rows.length:=by
 have hb:∀x∈fs.map (·.1),(0:Int)<=x/\x<(rows.length:Int):=fun x hx=>by
  obtain⟨q,hq,rfl⟩:=JW.mp hx;obtain⟨h1,h2,_⟩:=cell_in (h.cell q hq);exact⟨h1,h2⟩
 have:=cc rows.length ((fs.map (·.1)).map Int.toNat) ?_ fun x hx=> ?_
 ·rw[JM]at this
  exact this
 ·have hn:=h.rowd
  unfold List.Nodup at hn ⊢;rw[LB];refine hn.imp_of_mem fun{a b} ha hb' hab e=>hab ?_;have:=hb a ha;have:=hb b hb';omega
 ·obtain⟨y,hy,rfl⟩:=JW.mp hx
  have:=hb y hy;omega
theorem Drawn.pl{rows:List Str}{w:Nat}{fs:List (Int×Int)}(w8:w<=8)(h:Drawn rows w fs):Pl rows w (cz fs):=by
 have pm:=fW fs;have hc:∀q∈cz fs,bL rows w (aM q)=true:=fun q hq=>h.cell q (pm.mem_iff.mp hq);refine⟨hc,?_,(pm.map _).nodup_iff.mpr h.cold⟩;have h1:((cz fs).map (·.1)).Nodup:=(pm.map _).nodup_iff.mpr h.rowd;unfold List.Nodup at h1;rw[LB]at h1 ⊢;refine(List.Pairwise.and (pA fs) h1).imp_of_mem fun{a b} ha hb hab=> ?_;obtain⟨k1,k2⟩:=hab;obtain⟨_,_,a1,a2,_⟩:=cell_in (hc a ha);obtain⟨_,_,b1,b2,_⟩:=cell_in (hc b hb);unfold SW.ck at k1;omega
theorem Ec{ps:List (Int×Int)}:ah .NotEq (.lst (ps.map aM)) (.lst [])=some (!ps.isEmpty):=by
 have f:∀q:Int×Int,cq 11 (aM q)=true:=fun q=>rfl;rw[CB];have e:(cq 12 (.lst (ps.map aM))&&cq 12 (.lst []))=true:=by
  rw[JU];refine⟨?_,rfl⟩;show(ps.map aM).all (cq 11)=true;rw[Jf];intro y hy;obtain⟨q,_,rfl⟩:=JW.mp hy;exact f q
 rw[JS e];cases ps<;>rfl
theorem Fz{ps:List (Int×Int)}{t:Int}(h0:0<=t)(h1:t<ps.length):∃q,cX (ps.map aM) t=some (aM q)/\q∈ps:=by
 obtain⟨e,h2,h3⟩:=Cb (l:=ps.map aM) h0 (by rw[JM];exact h1);obtain⟨q,hq,rfl⟩:=JW.mp h3;exact⟨q,h2,hq⟩
theorem IL(k:Nat)(rows:List Str)(w:Nat)(D s:Int)(hw:Wd rows w)(h0:rows≠[])(h8:rows.length<=8)(w8:w<=8):∃v,aG P (k+2) 170 [.tup (rows.map .str),.int D,.int s]=some v/\∃p,v=.tup (p.map aM)/\Pl rows w p:=by
 refine uL rfl rfl ?_;simp only[Fa,entry];have im:=bm rows;have hcl:=zm (rows:=rows) h8 w8;walk_at "ev";rw[im,c66 k rows w hw h0 h8 w8,tT];walk_at "ev";have hl0:left rows w []=cI rows w:=List.filter_eq_self.mpr fun q _=>rfl;refine whTo (fun m τ=>∃fs D a,τ=[.frz (.tup (rows.map .str)) true,.frz (.int D) true,.frz (.int s) true,.own (fs.map aM) true,.frz (.lst ((left rows w fs).map aM)) true,a]/\Drawn rows w fs/\(left rows w fs).length<=m) (cI rows w).length (by omega) ⟨[],D,.un,by rw[hl0];rfl,⟨fun q hq=>(by cases hq),.nil,.nil⟩,by rw[hl0];exact JV _⟩ ?_;rintro m τ ⟨fs,D,a,rfl,dr,hm⟩;have hfl:=dr.len;rw[JM]at hfl;have hll:(left rows w fs).length<=(cI rows w).length:=J3 _ _;refine⟨decide ((fs.length:Int)<s)&& !(left rows w fs).isEmpty,?_,fun hb=> ?_,fun hb=> ?_⟩
 ·walk_at "ev"
  rw[JM];cases decide ((fs.length:Int)<s)with
  | false=>rfl
  | true =>
   walk_at "ev";rw[Ec];walk_at "ev"
 ·rw[JU]at hb
  have hne:0<(left rows w fs).length:=by
   have:=hb.2;cases e:left rows w fs with
   | nil=>rw[e]at this;cases this
   | cons x l=>rw[Jh];omega
  refine⟨by omega,?_⟩;have hlz:(0:Int)<((left rows w fs).length:Int):=by omega
  obtain⟨q,hq1,hq2⟩:=Fz (ps:=left rows w fs) (t:=D%((left rows w fs).length:Int)) (Int.emod_nonneg _ (by omega)) (MI _ hlz);have iq:imm (aM q)=true:=rfl;walk_at "ev";rw[JM,JS hlz];walk_at "ev";rw[hq1];walk_at "ev";rw[JM,JS ⟨hlz,by omega⟩];walk_at "ev";rw[eM rfl (by rw[JM];show fs.length<16777216;omega)];walk_at "ev";rw[JS (by rw[JM];omega)];rw[cV (p:=apart q) (g:=aM) fun x hx=> ?hf]
  case hf =>
   unfold apart aM;walk_at "ev";cases decide (x.1=q.1)<;>cases decide (x.2=q.2)<;>rfl
  walk_at "ev";rw[mI];have e1:fs.map aM++[aM q]=(fs++[q]).map aM:=by rw[Ji];rfl
  rw[e1];refine⟨_,rfl,_,_,_,rfl,dr.next hq2,?_⟩;have lt:(left rows w (fs++[q])).length<(left rows w fs).length:=by
   rw[<- mI];refine List.length_filter_lt_length_iff_exists.mpr ⟨q,hq2,?_⟩;unfold apart;simp
  omega
 ·have hbd:∀q∈fs,0<=q.2/\q.2<1000:=fun q hq=>by
   obtain⟨_,_,a1,a2,_⟩:=cell_in (dr.cell q hq);exact⟨a1,by omega⟩
  walk_at "ev"
  by_cases hf:fs=[]
  ·subst hf
   exact⟨_,rfl,_,rfl,[],by rw[show sortI []=[]from List.mergeSort_nil];rfl,g9⟩
  ·rw[vu hf (by omega) hbd]
   walk_at "ev";exact⟨_,rfl,cz fs,rfl,dr.pl w8⟩
section
open PySem.Spec PyProof.Rows
theorem Gy:aS N64 ["_law_board_here"] (aA Dg):=⟨rfl,rfl,rfl,by decide +kernel,rfl,by decide +kernel,by decide +kernel⟩
theorem xi{P' :Nat->Option FD}{k:Nat}{vs:List PV}{r:PV}(hP:P' 64=some GM)(h:aG P' (k+1) 64 vs=some r):iu vs=some r:=by
 unfold aG at h;rw[hP]at h;simp only[LZ]at h
 split at h
 ·rename_i hl
  obtain⟨a,rfl⟩:=hU (show vs.length=1 from hl);simp only[GM,AY,AZ,ik,iV,iU,iZ,ib,iT,iX,ii,ig,il,ie,ij,ia,iW,iY,entry]at h;have e:((List.map (fun v=>TV.frz v (imm v)) [a]++List.replicate (8-[a].length) TV.un).take 1).map TV.valD=[a]:=rfl;rw[e]at h;cases hg:iu [a]with
  | none=>rw[hg]at h;cases h
  | some v=>rw[hg]at h;cases h;rfl
 ·cases h
theorem Du{vs:List PV}{r:PV}(h:iu vs=some r):vs.length=1:=by
 unfold iu at h
 split at h
 ·rfl
 ·cases h
theorem jd:∀{ls:List PV}{rows:List Str},ir ls=some rows->ls=rows.map .str
 | [],rows,h=>by cases h;rfl
 | x::ls,rows,h=>by
  cases x with
  | str z =>
   have h:(ir ls).map (z::·)=some rows:=h;cases e:ir ls with
   | none=>rw[e]at h;cases h
   | some r =>
    rw[e]at h;cases h;rw[jd e];rfl
  | _=>cases h
theorem uM{K:W.Frag}{Hi:Hp}{n:Bool}{H:Hp}:∀{rows:List Str}{us:List V},aH K Hi n (rows.map .str) H us->us=rows.map V.str
 | [],us,h=>by unfold aH at h;exact h
 | z::rows,us,h=>by
  rw[JZ]at h;unfold aH at h;obtain⟨u,vs,rfl,a,b⟩:=h;rw[uM b,Rp.str.mp a];rfl
theorem xS:∀l:List Int,cx l=[]->∀x∈l,x=0:=by
 intro l;refine cU (P:=fun l=>cx l=[]->∀x∈l,x=0) (fun _ x hx=>nomatch hx) (fun l y ih h x hx=> ?_) l
 by_cases e:y=0
 ·subst e
  rw[fT]at h
  rcases J0.mp hx with hx|hx
  ·exact ih h x hx
  ·simpa using hx
 ·rw[fU l e]at h
  simp at h
noncomputable abbrev iR1(H:Hp)(Bd:Addr)(rows:List Str)(i:Nat)(σ:L2.St)(G:Hp):Prop:=∃C a b c d e g,σ=[some (.ref Bd),some (.ref C),a,b,c,d,e,g]/\aD H G/\H C=none/\G C=some (.dT (bO (jf (rows.take i))))
noncomputable abbrev iR2(H:Hp)(Bd C Fr:Addr)(z:Str)(o:Obj)(ct:List (List Int×Int))(cs:List Int)(j:Nat)(σ:L2.St)(G:Hp):Prop:=∃d e g h,σ=[some (.ref Bd),some (.ref C),some (.str z),some (.ref Fr),d,e,g,h]/\aD H G/\G C=some (.frz o (.dT (bO ct)))/\G Fr=some (.dT (bO ((ct.take j).foldl (ji cs) ct)))
noncomputable abbrev iR3(H:Hp)(Bd C Fr b:Addr)(z:Str)(h:Option V)(o:Obj)(ct:List (List Int×Int))(t:List Int)(n:Int)(fj:List (List Int×Int))(B:Nat->List Int)(m:Nat)(σ:L2.St)(G:Hp):Prop:=∃e g,σ=[some (.ref Bd),some (.ref C),some (.str z),some (.ref Fr),some (.ref b),e,g,h]/\aD H G/\G C=some (.frz o (.dT (bO ct)))/\G Fr=some (.dT (bO ((B m).foldl (cy t n) fj)))/\G b=some (.tup (t.map V.int))
noncomputable abbrev iR4(H:Hp)(Bd C Fo:Addr)(o:Obj)(ct:List (List Int×Int))(fnd:Nat->List Int)(j:Nat)(σ:L2.St)(G:Hp):Prop:=∃a b c d e,σ=[some (.ref Bd),some (.ref C),a,b,c,d,e,some (.ref Fo)]/\aD H G/\G C=some (.frz o (.dT (bO ct)))/\G Fo=some (.lst ((fnd j).map V.int))
noncomputable abbrev iR5(H:Hp)(Bd C Fo:Addr)(ct:List (List Int×Int))(mm:Nat)(σ:L2.St)(G:Hp):Prop:=∃a b c d e xs,σ=[some (.ref Bd),some (.ref C),a,b,c,d,e,some (.ref Fo)]/\aD H G/\G Fo=some (.lst (xs.map V.int))/\cx xs=cx (fm ct)/\xs.length=mm
theorem Hr{H:Hp}{Bd:Addr}{rows:List Str}{i:Nat}{σ:L2.St}{G:Hp}{P:Prop}(h:iR1 H Bd rows i σ G)(f:aD H G->P):P:=by
 obtain⟨_,_,_,_,_,_,_,_,s,_⟩:=h;exact f s
theorem Hq{H:Hp}{Bd C Fr:Addr}{z:Str}{o:Obj}{ct:List (List Int×Int)}{cs:List Int}{j:Nat}{σ:L2.St}{G:Hp}(h:iR2 H Bd C Fr z o ct cs j σ G):G C=some (.frz o (.dT (bO ct))):=by
 obtain⟨_,_,_,_,_,_,h,_⟩:=h;exact h
theorem Ho{H:Hp}{Bd C Fo:Addr}{o:Obj}{ct:List (List Int×Int)}{fnd:Nat->List Int}{j:Nat}{σ:L2.St}{G:Hp}(h:iR4 H Bd C Fo o ct fnd j σ G):G C=some (.frz o (.dT (bO ct))):=by
 obtain⟨_,_,_,_,_,_,_,h,_⟩:=h;exact h
theorem FH{K:W.Frag}{mg:Str->Option Value}{f:Addr}{fd:FuncData}(hdi:mg "dict"=none)(hle:mg "len"=none)(hra:mg "range"=none)(hso:mg "sorted"=none)(htu:mg "tuple"=none)(D:Def K mg "_law_row" Dg ["_law_board_here"] f fd)(p:Program)(w:World)(base:Heap)(k:Nat)(_:∀y g,F.lookup y=some g->∃b gd qs,mg y=some (.ref b)/\W.keepIn K (.ref b)=true/\Binds K gd qs []/\cY p w K mg base oE k b gd qs (AN K (aG P k g))):cY p w K mg base oE (k+1) f fd ["_law_board_here"] (AN K (aG P (k+1) 64)):=by
 refine D.fn.ok Gy (fun vs H Q E h=> ?_) (fun cdv A outer s H vs Q E hr h=> ?_)
 ·obtain⟨pvs,r,h1,h2,_⟩:=h
  rw[<- h1.len];exact Du (xi rfl h2)
 obtain⟨pvs,r,h1,h2,q⟩:=h
 replace h2:=xi rfl h2
 unfold iu at h2
 split at h2
 case h_2=>cases h2
 rename_i ls;cases e1:ir ls with
 | none=>rw[e1]at h2;cases h2
 | some rows =>
 rw[e1]at h2;dsimp only[Option.bind]at h2
 split at h2
 case isFalse=>cases h2
 rename_i hz;cases h2;obtain⟨z1,z2⟩:=hz;have z2:∀z∈rows,z.length<=8:=fun z hz=>by simpa using Jf.mp z2 z hz
 have els:=jd e1;subst els;unfold aH at h1;obtain⟨u1,_,rfl,r1,h1⟩:=h1;unfold aH at h1;subst h1;obtain⟨Bd,us,rfl,sqB,rb⟩:=Rp.tup.mp r1;have eb:=uM rb;subst eb;have nd:=Gy.nd;have hu:=DA hr;have hu2:(ql oE p w K mg base N64 "_law_row" (aA Dg) f cdv A outer s H E).nox.A.units+64<cLine:=hr.units;have hs:sizeLine=16777216:=KC
 refine⟨_,az (dq (i:=1) nd rfl (Or.inl rfl) (wA hu (sQ af) cR))
  (az (eN Kd rfl (sN (pv 0)) (ay (i:=2) nd rfl (Or.inl rfl))
   (az (dq (i:=3) nd rfl (Or.inl rfl) (cK qw rfl hdi boot_dict (aR (pv 1) af)))
   (az (pP (eN Kd rfl (uV (pv 1)) (ay (i:=4) nd rfl (Or.inl rfl))
    (bS (eN Kd rfl (mD rfl hra (aR (bi gh (by rfl) hle LJ (aR (pv 2) af)) af)) (ay (i:=5) nd rfl (Or.inl rfl))
     (bS (yB (PW.pt (xt (gM ud (pY yv (pv 2) (pv 5) (fun _ _=>rfl)) sR (sd _)) (uQ (gM (uc (Hi:=H) hu2) (pv 5) (pv 4) rfl))))
      (az (dq (i:=6) nd rfl (Or.inl rfl) (cK fQ rfl htu boot_tuple (aR (bi jL (by rfl) hso boot_sorted (aR (eP ue (pv 4) (sQ (aR (pv 5) af))) af)) af)))
      (bS (uT hu (pv 3) (pv 6) (eP jv (pc hu (pv 3) (pv 6) cR ⟨rfl,rfl,rfl,rfl⟩) (uW hu (pv 1) (pv 4) (fun _ _=>rfl))) rfl))) nJ))))))
   (bS (dq (i:=1) nd rfl (Or.inl rfl) (pv 3))))))
  (az (dq (i:=7) nd rfl (Or.inl rfl) (eP EM (sS (aR cR af)) cR))
  (az (pP (eN Kd rfl (uV (pv 1)) (ay (i:=4) nd rfl (Or.inl rfl))
   (bS (D4 (eP jv (pY fD (pv 7) (bi cF (by rfl) hle LJ (aR (pv 4) af)) (fun _ _=>rfl)) (uW hu (pv 1) (pv 4) (fun _ _=>rfl))) (EE (pv 7) (bi cF (by rfl) hle LJ (aR (pv 4) af)) xc (fun _=>rfl)) rfl rfl rfl))))
  (az (pO Kd (gM ud (pY fD (pv 7) (C2 xM cR) (fun _ _=>rfl)) cR (sd _)) (bS (uS (EI PySem.F.plainAttrs_list PySem.F.slot_list_pop PySem.F.type_list_pop Ed (pv 7)) rfl)))
  (bS (sM (pv 7))))))),?_⟩
 intro C0 hC0;refine⟨by show 0<=sizeLine;exact Js _,fun T0 hT0=> ?_⟩;have hTC:T0≠C0:=fun z=>by rw[z,aC]at hT0;cases hT0
 have hT1:H T0=none:=by rw[aB hTC]at hT0;exact hT0
 refine⟨T0,[],rfl,aC,by rw[aB (Kc hTC)];exact aC,?_⟩;have sG:aD H (L2.upd (L2.upd (L2.upd H C0 (.dT [])) T0 (.tup [])) C0 (.dT [([],.int 1)])):=fun b o z=>by
  rw[aB (aE z hC0),aB (aE z hT1),aB (aE z hC0)];exact z
 have sqB' :∀{G:Hp},aD H G->bX K G Bd (rows.map V.str):=fun s=>s.tup sqB;have okT:∀i,bM (jf (rows.take i)):=fun i=>pH _ fun r hr c hc=>by
  obtain⟨z,hz,rfl⟩:=JW.mp hr;have:=Ju.mp (J7.mp hc).1;have:=z2 z (List.mem_of_mem_take hz);omega
 have neT:∀i,jf (rows.take i)≠[]:=fun i z=>by
  have:=gz ((rows.take i).map aV) (fun r hr c hc=>by
   obtain⟨z,hz,rfl⟩:=JW.mp hr;have:=Ju.mp (J7.mp hc).1;have:=z2 z (List.mem_of_mem_take hz);omega) 0
  rw[show eJ (((rows.take i).map aV).map iC)=jf (rows.take i)from rfl,z,ak]at this;cases this
 refine⟨_,rfl,Bd,rfl,⟨rows.map V.str,sqB' sG⟩,Bx (xs:=rows.map V.str) (iR1 H Bd rows) ⟨C0,_,_,_,_,_,_,rfl,sG,hC0,aC⟩ (fun i σ G _ h=>Hr h sqB') ?_ ?_⟩
 ·rintro i x σ G ex ⟨C,a,b,c,d,e,g,rfl,sH,hC,gC⟩
  obtain⟨z,ez,rfl⟩:∃z,rows[i]? =some z/\x=.str z:=by
   rw[Jc]at ex;cases e:rows[i]? with
   | none=>rw[e]at ex;cases ex
   | some z=>rw[e]at ex;exact⟨z,rfl,(Jl ex).symm⟩
  have zl:=z2 z (Jn ez);obtain⟨ct,hct⟩:∃ct,ct=jf (rows.take i):=⟨_,rfl⟩;have ok:bM ct:=hct▸okT i
  have ne:bO ct≠[]:=fun z=>neT i (by
   have:=Jw List.length z;rw[ga,hct]at this;exact List.length_eq_zero_iff.mp this)
  rw[<- hct]at gC;refine⟨_,rfl,C,_,rfl,gC,ne,AA _ _ ok,fun Fr hFr=> ?_⟩;have hFC:Fr≠C:=fun z=>by rw[z,gC]at hFr;cases hFr
  have hF0:H Fr=none:=sH.free hFr;refine⟨_,rfl,C,bO ct,rfl,by rw[aB (Kc hFC)];exact gC,fun o nf=> ?_⟩;obtain⟨B,hB⟩:∃B:Nat->List Int,B=fun m=>iC ((List.range m).filter fun c=>z.cps.toList.getD c 0==120):=⟨_,rfl⟩;refine qT (iR2 H Bd C Fr z o ct (B z.length)) ⟨_,_,_,_,rfl,fun b o z=> ?_,aC,?_⟩ (fun j σ G _ h=>Hq h) ?_ ?_
  ·rw[aB (aE z hC),aB (aE z hF0)]
   exact sH _ _ z
  ·rw[aB hFC,aC]
   rfl
  ·rintro j kk x b σ G2 ekv hb ⟨d,e,g,h,rfl,s2,c2,f2⟩
   obtain⟨t,n,etc,rfl,rfl⟩:=vL ekv;rw[kI]at hb;have tk:cA t:=ok.2 t (JW.mpr ⟨_,Jn etc,rfl⟩);have tl:=tk.len;obtain⟨fj,hfj⟩:∃fj,fj=(ct.take j).foldl (ji (B z.length)) ct:=⟨_,rfl⟩;rw[<- hfj]at f2;have okj:bM fj:=by
    rw[hfj];refine kP (fun c hc=> ?_) ok fun p hp=>ok.2 _ (JW.mpr ⟨p,List.mem_of_mem_take hp,rfl⟩);rw[hB]at hc;obtain⟨c',hc',rfl⟩:=JW.mp hc;have:=Ju.mp (J7.mp hc').1;omega
   refine⟨_,rfl,z,rfl,by omega,(z.length:Int),rfl,by omega,by omega,?_⟩;rw[LC];refine wU (iR3 H Bd C Fr b z h o ct t n fj B) ⟨_,_,rfl,s2,c2,by rw[hB];exact f2,hb⟩ ?_ ?_
   ·rintro m σ G3 hm ⟨e,g,rfl,s3,c3,f3,b3⟩
    have zlen:z.cps.toList.length=z.length:=by rw[Jv];rfl
    have hat:cX z.cps.toList (0+(m:Int))=some (z.cps.toList.getD m 0):=by
     rw[Lc];exact bK (by rw[List.getD,Ja (by omega)];rfl)
    have Bs:B (m+1)=B m++(if z.cps.toList.getD m 0==120 then[(m:Int)]else[]):=by
     rw[hB];show iC _=iC _++_;rw[K7,K1];unfold iC;rw[Ji,Kb];cases z.cps.toList.getD m 0==120<;>rfl
    refine⟨_,rfl,_,rfl,z,_,_,rfl,rfl,by omega,hat,?_⟩;refine⟨rfl,_,rfl,Bn (fun hx=> ?_) (fun hx=> ?_)⟩
    ·have hx:(z.cps.toList.getD m 0==120)=true:=by
      have:=V.str.inj (Jr hx);have q:=iE (z.cps.toList.getD m 0);rw[Jo this]at q;exact q.symm
     rw[hx]at Bs;have anyC:((t.map PV.int).any fun y=>lG y (.int (0+(m:Int))))=t.contains (m:Int):=by
      rw[Lc,List.any_map,J8,List.any_eq_true,KH]
      constructor
      ·rintro⟨c,hc,e⟩
       have:c=(m:Int):=Jr e;rw[<- this];exact hc
      ·intro hc
       exact⟨_,hc,Jo rfl⟩
     obtain⟨cur,hcur⟩:∃cur,cur=(B m).foldl (cy t n) fj:=⟨_,rfl⟩;have okc:bM cur:=by
      rw[hcur];refine gY tk okj fun c hc=> ?_;rw[hB]at hc;obtain⟨c',hc',rfl⟩:=JW.mp hc;have:=Ju.mp (J7.mp hc').1;omega
     have e7:(B (m+1)).foldl (cy t n) fj=cy t n cur (m:Int):=by rw[Bs,LS,<-hcur];rfl
     rw[<- hcur]at f3;refine⟨_,rfl,_,rfl,PV.int (0+(m:Int)),t.map PV.int,rfl,?_,Rp.int.mpr rfl,.inr (Rp.tup.mpr ⟨b,t.map V.int,rfl,bX.of b3,aH.ints.mpr rfl⟩),_,rfl,Bn (fun hn=> ?_) (fun hn=> ?_)⟩
     ·rw[List.all_map,Jf]
      exact fun _ _=>rfl
     ·rw[anyC]at hn
      have hn:t.contains (m:Int)=false:=by simpa using hn
      refine⟨_,rfl,_,rfl,by show 1<=sizeLine;decide,fun T1 hT1=> ?_⟩;have nb:b≠T1:=aE b3 hT1;refine⟨b,T1,t.map V.int,[.int (0+(m:Int))],rfl,rfl,bX.of (by rw[aB nb];exact b3),bX.of aC,by rw[JM,hs];show _+1<=_;omega,fun P1 G4 s4 q4=> ?_⟩;refine⟨P1,t++[(m:Int)],rfl,by rw[Ji];rw[Lc]at q4;exact q4,by rw[Jj];show _+1<64;omega,fun L1 hL1=> ?_⟩;refine⟨L1,_,rfl,.inl ⟨bG.of aC,fun M1 hM1=> ?_⟩⟩;obtain⟨G5,hG5⟩:∃G5,G5=L2.upd (L2.upd G4 L1 (.lst ((sortI (t++[(m:Int)])).map V.int))) M1 (.tup ((sortI (t++[(m:Int)])).map V.int)):=⟨_,rfl⟩;have sm:aD G3 G5:=by
       rw[hG5];exact(aJ hT1 _).trans (s4.trans ((aJ hL1 _).trans (aJ hM1 _)))
      have hM:G5 M1=some (.tup (((dF t (m:Int)).map (Sum.inl:Int->L2.ae)).map kV)):=by
       rw[hG5,kI];exact aC
      have c5:=sm _ _ c3;have f5:=sm _ _ f3;have b5:=sm _ _ b3;have dC:iR G5 C (.ref b) (some (.int n)):=by
       have e:eA (bO ct) (t.map Sum.inl)=some (.int n):=by rw[kW,qQ ok.1 etc];rfl
       rw[<- e];exact .inr ⟨bO ct,t.map Sum.inl,b,.inr ⟨o,c5⟩,rfl,by rw[kI];exact b5,rfl⟩
      obtain⟨old,hold⟩:∃old,old=(eD cur (dF t (m:Int))).getD 0:=⟨_,rfl⟩;have curl:(bO cur).length<sizeLine:=by
       rw[ga,hs];have:=okc.few;omega
      rw[<- hG5];refine⟨_,rfl,Fr,rfl,.inr ⟨_,.inl f5⟩,_,rfl,_,iR.t (k:=(dF t (m:Int)).map Sum.inl) f5 hM,?_⟩;refine⟨_,rfl,_,rfl,C,.int n,rfl,dC,old,n,?_,rfl,?_⟩
      ·rw[kW,hold]
       cases eD cur (dF t (m:Int))<;>rfl
      refine⟨_,rfl,_,rfl,Fr,_,rfl,rK.t (k:=(dF t (m:Int)).map Sum.inl) f5 hM curl,_,_,rfl,fun b' o' w' => ?_,?_,?_,?_⟩
      ·rw[aB (aE w' hF0)]
       exact sm _ _ (s3 _ _ w')
      ·rw[aB (Kc hFC)]
       exact c5
      ·rw[aC,e7]
       unfold cy;rw[JR (by rw[hn];simp),zT];unfold tf;rw[hold]
      ·rw[aB (yY b5 f5 (fun z=>nomatch z))]
       exact b5
     ·rw[anyC]at hn
      have hn:t.contains (m:Int)=true:=by simpa using hn
      refine⟨_,_,rfl,s3,c3,?_,b3⟩;rw[e7];unfold cy;rw[JS hn];exact f3
    ·have hx:(z.cps.toList.getD m 0==120)=false:=by
      cases hh:z.cps.toList.getD m 0==120 with
      | false=>rfl
      | true =>
       have q:=iE (z.cps.toList.getD m 0);rw[hh]at q;exact absurd (Jo (Jw V.str (Jr q))) hx
     rw[hx]at Bs;refine⟨_,_,rfl,s3,c3,?_,b3⟩;rw[Bs,JR (by simp),KL];exact f3
   ·rintro σ G3 ⟨e,g,rfl,s3,c3,f3,b3⟩
    refine⟨_,_,_,_,rfl,s3,c3,?_⟩;rw[LA,etc,LS,<-hfj];exact f3
  ·rintro σ G2 ⟨d,e,g,h,rfl,s2,c2,f2⟩
   refine⟨C,o,bO ct,c2,nf,?_⟩;refine⟨_,rfl,Fr,_,_,_,_,_,_,rfl,fun b' o' w' => ?_,hF0,?_⟩
   ·rw[aB (aE w' hC)]
    exact s2 _ _ w'
   ·rw[aB hFC,f2,ga,Kl]
    have e9:jf (rows.take (i+1))=mH (iC (aV z)) ct:=by
     unfold jf;rw[LA,ez];show eJ (((rows.take i++[z]).map aV).map iC)=_;rw[Ji,Ji,JZ,Kw,JZ,Kw,fX,hct];rfl
    rw[e9,hB];rfl
 ·rintro σ G ⟨C,a,b,c,d,e,g,rfl,sH,hC,gC⟩
  rw[JM,Kl]at gC;have ok:bM (jf rows):=by have:=okT rows.length;rwa [Kl]at this
  obtain⟨ct,hct⟩:∃ct,ct=jf rows:=⟨_,rfl⟩;rw[<- hct]at gC ok;refine⟨by show 1<=sizeLine;decide,fun L0 hL0=> ?_⟩;refine⟨L0,10,[.int 0],rfl,rfl,aC,by decide,by decide,by rw[hs];decide,fun Fo hFo=> ?_⟩;have hFL:Fo≠L0:=fun z=>by rw[z,aC]at hFo;cases hFo
  have hFo1:G Fo=none:=by rw[aB hFL]at hFo;exact hFo
  have hFo0:H Fo=none:=sH.free hFo1;have hFC:Fo≠C:=fun z=>by rw[z,gC]at hFo1;cases hFo1
  have hCL:C≠L0:=aE gC hL0;obtain⟨fnd,hfnd⟩:∃fnd:Nat->List Int,fnd=fun j=>(List.range 10).map fun q=>wN (fun t=>if t.length=q then 1 else 0) (ct.take j):=⟨_,rfl⟩;refine⟨_,rfl,C,bO ct,rfl,by rw[aB (Kc hFC),aB hCL];exact gC,fun o nf=> ?_⟩;refine qT (iR4 H Bd C Fo o ct fnd) ⟨_,_,_,_,_,rfl,fun b o z=> ?_,aC,?_⟩ (fun j σ G _ h=>Ho h) ?_ ?_
  ·rw[aB (aE z hC),aB (aE z hFo0),aB (aE z (sH.free hL0))]
   exact sH _ _ z
  ·rw[aB hFC,aC,hfnd]
   rfl
  ·rintro j kk x b' σ G2 ekv hb ⟨a,b,c,d,e,rfl,s2,c2,f2⟩
   obtain⟨t,n,etc,rfl,rfl⟩:=vL ekv;rw[kI]at hb;have tk:cA t:=ok.2 t (JW.mpr ⟨_,Jn etc,rfl⟩);have tl:=tk.len;have dC:iR G2 C (.ref b') (some (.int n)):=by
    have e:eA (bO ct) (t.map Sum.inl)=some (.int n):=by rw[kW,qQ ok.1 etc];rfl
    rw[<- e];exact .inr ⟨bO ct,t.map Sum.inl,b',.inr ⟨o,c2⟩,rfl,by rw[kI];exact hb,rfl⟩
   obtain⟨old,hold⟩:∃old,old=wN (fun s=>if s.length=t.length then 1 else 0) (ct.take j):=⟨_,rfl⟩;have fl:(fnd j).length=10:=by rw[hfnd];simp
   have hat:cX ((fnd j).map V.int) (((t.map V.int).length:Nat):Int)=some (.int old):=by
    refine bK ?_;rw[JM,Jc,hfnd,Jc,KB (by omega),hold];rfl
   refine⟨_,rfl,_,rfl,b',t.map V.int,rfl,.inr (bX.of hb),Fo,_,_,_,rfl,rfl,bG.of f2,hat,?_⟩;refine⟨_,rfl,_,rfl,C,.int n,rfl,dC,old,n,rfl,rfl,?_⟩;refine⟨_,rfl,_,rfl,b',t.map V.int,rfl,.inr (bX.of hb),Fo,_,_,t.length,rfl,rfl,f2,?_,?_⟩
   ·rw[JM,JM,fl]
    exact Bm (by omega)
   refine⟨_,_,_,_,_,rfl,fun b o z=> ?_,?_,?_⟩
   ·rw[aB (aE z hFo0)]
    exact s2 _ _ z
   ·rw[aB (Kc hFC)]
    exact c2
   ·rw[aC]
    have e9:fnd (j+1)=(fnd j).set t.length (old+n):=by
     rw[hfnd];refine Lr fun q=> ?_;rw[LR,JM,KO,Jc,Jc]
     by_cases hq:q<10
     ·rw[KB hq]
      have e8:∀φ:List Int->Int,wN φ (ct.take (j+1))=wN φ (ct.take j)+n*φ t:=fun φ=>by
       rw[LA,etc];unfold wN;rw[li];show _+bI [(t,n)] _=_;rw[aT,bx,Int.add_zero]
      show some (wN _ (ct.take (j+1)))=_;rw[e8]
      by_cases hh:t.length=q
      ·subst hh
       rw[JS rfl,JS hq,hold];simp
      ·simp only[JR hh,Int.mul_zero,Int.add_zero]
       rfl
     ·rw[KN (by simpa using hq)]
      rw[JR (by omega)];rfl
    rw[e9,List.map_set]
  ·rintro σ G2 ⟨a,b,c,d,e,rfl,s2,c2,f2⟩
   refine⟨C,o,bO ct,c2,nf,?_⟩;have fe:fnd (bO ct).length=fm ct:=by rw[hfnd,ga];show(List.range 10).map _=_;rw[Kl];rfl
   rw[fe]at f2;have tne:cx (fm ct)≠[]:=fun z=>by
    have h0:wN (fun t=>if t.length=0 then 1 else 0) ct=1:=by
     rw[hct];exact(gz (rows.map aV) (fun r hr c hc=>by
      obtain⟨z,hz,rfl⟩:=JW.mp hr;have:=Ju.mp (J7.mp hc).1;have:=z2 z hz;omega) 0).trans (ak _ _)
    have:=xS _ z 1 (JW.mpr ⟨0,by simp,h0⟩);cases this
   refine⟨iR5 H Bd C Fo ct,⟨_,_,_,_,_,_,fm ct,rfl,fun b o z=> ?_,?_,rfl,rfl⟩,?_⟩
   ·rw[aB (aE z hC)]
    exact s2 _ _ z
   ·rw[aB hFC]
    exact f2
   ·rintro mm σ G3 ⟨a,b,c,d,e,xs,rfl,s3,f3,tr,rfl⟩
    obtain⟨ys,y,rfl⟩:∃ys y,xs=ys++[y]:=by
     rcases List.eq_nil_or_concat xs with z|⟨ys,y,z⟩
     ·rw[z]at tr
      exact absurd (tr.symm.trans (show cx []=[]from rfl)) tne
     ·exact⟨ys,y,by rw[z,List.concat_eq_append]⟩
    have hat:cX ((ys++[y]).map V.int) (-1)=some (.int y):=by
     have e:rN ((ys++[y]).map V.int).length (-1)=some ys.length:=by
      unfold rN;rw[JR (by decide),JS (by simp;omega)];simp;omega
     unfold cX;rw[e];simp
    refine⟨_,rfl,1,rfl,Fo,_,_,_,rfl,rfl,bG.of f3,hat,?_⟩;refine⟨rfl,_,rfl,Bn (fun hy=> ?_) (fun hy=> ?_)⟩
    ·have hy:y=0:=V.int.inj (Jr hy)
     subst hy;rw[fT]at tr;refine⟨fun σ' G' =>∃a b c d e,σ' =[some (.ref Bd),some (.ref C),a,b,c,d,e,some (.ref Fo)]/\aD H G' /\G' Fo=some (.lst (ys.map V.int)),fun σ' G' h=>by
      obtain⟨a,b,c,d,e,h1,h2,h3⟩:=h;exact⟨ys.length,by simp,a,b,c,d,e,ys,h1,h2,h3,tr,rfl⟩,?_⟩
     refine⟨_,rfl,.inl ⟨rfl,_,bG.of f3⟩,Fo,_,.int 0,rfl,rfl,f3,by simp,_,_,_,_,_,rfl,fun b o z=> ?_,?_⟩
     ·rw[aB (aE z hFo0)]
      exact s3 _ _ z
     ·rw[aC,Ji]
      simp
    ·have hy:y≠0:=fun z=>hy (Jo (Jw V.int z))
     rw[fU ys hy,hct]at tr;refine⟨_,rfl,q _ _ s3 ?_⟩;rw[<- tr];exact Rp.lst.mpr ⟨Fo,_,rfl,fun _=>⟨hFo0,f3⟩,bG.of f3,aH.ints.mpr rfl⟩
end
theorem jc(f:Nat->Int)(N:Nat)(hp:∀i,i<N->0<f i)(hz:∀i,N<=i->f i=0):∀M,N<=M->cx ((List.range M).map f)=(List.range N).map f
 | 0,h=>by
  have:N=0:=by omega
  subst this;rfl
 | M+1,h=>by
  rw[K7,Ji]
  by_cases e:N=M+1
  ·subst e
   have:=hp M (by omega);rw[JZ,Kw,fU _ (by omega),K7,Ji];rfl
  ·rw[JZ,Kw,hz M (by omega),fT,jc f N hp hz M (by omega)]
theorem c64(k:Nat)(rows:List Str)(w:Nat)(hw:Wd rows w)(h8:rows.length<=8)(w8:w<=8):aG P (k+1) 64 [.tup (rows.map .str)]=some (.lst ((sF (bo rows)).map .int)):=by
 have hz:∀z∈rows,z.length<=8:=fun z hz=>by rw[hw z hz];exact w8
 have hc:iS (rows.map aV):=fun r hr c hcc=>by
  obtain⟨z,hz',rfl⟩:=JW.mp hr;have:=Ju.mp (J7.mp hcc).1;have:=hz z hz';omega
 refine run rfl rfl ?_;have tx:ir (rows.map PV.str)=some rows:=by
  clear hw h8 hz hc
  induction rows with
  | nil=>rfl
  | cons z r ih=>rw[JZ,ir,ih];rfl
 have e:iu [.tup (rows.map .str)]=some (.lst ((sF (bo rows)).map .int)):=by
  unfold iu;dsimp only;rw[tx,LZ];rw[JS ⟨h8,by rw[Jf];intro z hz';exact Jo (hz z hz')⟩]
  congr 3
  obtain⟨N,e,p,zz⟩:=uO (bo rows) (ki rows h8 hz);have N10:N<=10:=by
   by_cases q:N<=10
   ·exact q
   ·have a:=p 9 (by omega)
    have b:=jp (rows.map aV) 9 0 [];rw[hZ,eX _ _ _ (by rw[JM];omega)]at b;rw[show rk 9 (bo rows)=0 from b]at a;omega
  have fe:fm (jf rows)=(List.range 10).map fun j=>rk j (bo rows):=by
   unfold fm;refine KI fun j _=> ?_;have a:=gz (rows.map aV) hc j;have b:=jp (rows.map aV) j 0 [];rw[hZ]at b;exact a.trans b.symm
  rw[fe,e];exact jc _ N p zz 10 N10
 show eU (bV (aG P k) 1000000 GM.body (entry GM [.tup (rows.map .str)]))=_;simp only[GM,AY,AZ,ik,iV,iU,iZ,ib,iT,iX,ii,ig,il,ie,ij,ia,iW,iY,entry];have e2:((List.map (fun v=>TV.frz v (imm v)) [PV.tup (rows.map .str)]++List.replicate (8-[PV.tup (rows.map .str)].length) TV.un).take 1).map TV.valD=[.tup (rows.map .str)]:=rfl;rw[e2,e];rfl
theorem c8(k:Nat)(i:Int):aG P (k+1) 8 [.int i]=some (.bl true):=by
 refine run rfl rfl ?_;simp only[d8,entry];walk_at "ev"
noncomputable def plain:PV->Bool
 | .non=>true| .int _=>true| .str _=>true
 | .lst xs=>plains xs
 | .tup xs=>plains xs
 | _=>false
where plains:List PV->Bool
 | []=>true
 | x::xs=>plain x&&plains xs
noncomputable def depth:PV->Nat
 | .lst xs=>depths xs+1
 | .tup xs=>depths xs+1
 | _=>1
where depths:List PV->Nat
 | []=>0
 | x::xs=>max (depth x) (depths xs)
theorem jq:∀{xs:List PV}{x:PV},plain.plains xs=true->x∈xs->plain x=true
 | [],_,_,h=>by cases h
 | y::ys,x,h,hx=>by
  rw[plain.plains,JU]at h
  rcases Jg.mp hx with rfl|hx
  ·exact h.1
  ·exact jq h.2 hx
theorem kY:∀{xs:List PV}{x:PV},x∈xs->depth x<=depth.depths xs
 | [],_,h=>by cases h
 | y::ys,x,hx=>by
  rw[depth.depths]
  rcases Jg.mp hx with rfl|hx
  ·exact Nat.le_max_left _ _
  ·exact J2 (kY hx) (Nat.le_max_right _ _)
theorem c10(k:Nat)(xs:List PV)(h:∀x∈xs,aG P k 9 [x,x]=some (.bl true)):aG P (k+1) 10 [.lst xs,.lst xs]=some (.bl true):=by
 refine dB rfl rfl ?_;simp only[d10,entry];walk_at "ev";refine dJ (xs:=List.zipWith uX xs xs) (n:=false) ?_ (fun i τ=>∃a b,τ=[.frz (.lst xs) false,.frz (.lst xs) false,a,b]) ⟨_,_,rfl⟩ ?_ ?_
 ·walk_at "ev"
  simp only[xE,yd,if_true,Option.map_some];rfl
 ·rintro i y τ hy ⟨a,b,rfl⟩
  rw[K3]at hy;cases e:xs[i]? with
  | none=>rw[e]at hy;cases hy
  | some x =>
   rw[e]at hy;cases hy;refine⟨_,rfl,?_⟩;walk_at "ev";rw[h x (Jn e)];walk_at "ev";exact⟨_,_,rfl⟩
 ·rintro τ ⟨a,b,rfl⟩
  walk_at "ev"
theorem c9(n k:Nat)(v:PV)(hd:depth v<=n)(hp:plain v=true):aG P (2*n+k) 9 [v,v]=some (.bl true):=by
 induction n generalizing v with
 | zero =>
  cases v with
  | non=>(simp[depth]at hd)
  | bl b=>cases hp
  | int i=>(simp[depth]at hd)
  | str z=>(simp[depth]at hd)
  | lst xs=>(simp[depth]at hd)
  | tup xs=>(simp[depth]at hd)
  | dK _ _=>cases hp
  | dT _ _=>cases hp
 | succ n ih =>
  have e:2*(n+1)+k=(2*n+k+1)+1:=by omega
  rw[e];have inner:∀xs:List PV,depth.depths xs<=n->plain.plains xs=true->aG P (2*n+k+1) 10 [.lst xs,.lst xs]=some (.bl true):=fun xs h1 h2=>c10 _ xs fun x hx=>ih x (J2 (kY hx) h1) (jq h2 hx);refine run rfl rfl ?_;cases v with
  | non =>
   simp only[d9,entry];walk_at "ev"
  | bl b=>cases hp
  | int i =>
   simp only[d9,entry];walk_at "ev";rw[c8];walk_at "ev"
  | str z =>
   simp only[d9,entry];walk_at "ev"
  | lst xs =>
   simp only[d9,entry];walk_at "ev";rw[inner xs (by simpa [depth]using hd) (by simpa [plain]using hp)];walk_at "ev"
  | tup xs =>
   simp only[d9,entry];walk_at "ev";rw[inner xs (by simpa [depth]using hd) (by simpa [plain]using hp)];walk_at "ev"
  | dK _ _=>cases hp
  | dT _ _=>cases hp
theorem mT:∀p:List (Int×Int),depth.depths (p.map aM)<=2
 | []=>by decide
 | x::p=>by
  show max (depth (aM x)) (depth.depths (p.map aM))<=2;have:=mT p;have h:depth (aM x)=2:=rfl;omega
theorem mB:∀p:List (Int×Int),plain.plains (p.map aM)=true
 | []=>rfl
 | x::p=>by
  show(plain (aM x)&&plain.plains (p.map aM))=true;rw[mB p];rfl
theorem c9p(k:Nat)(p:List (Int×Int)):aG P (k+6) 9 [.tup (p.map aM),.tup (p.map aM)]=some (.bl true):=by
 have:=c9 3 k (.tup (p.map aM)) (Nat.succ_le_succ (mT p)) (mB p);rw[show 2*3+k=k+6 by omega]at this;exact this
theorem BV(rows:List (List Nat))(size:Nat):nS rows size []=cnt rows [] size:=rfl
theorem sZ{rows:List Str}{w:Nat}{p:List (Int×Int)}(hw:Wd rows w)(h8:rows.length<=8)(w8:w<=8)(hp:Pl rows w p):cX ((sF (bo rows)).map PV.int) (p.length:Int)=some (.int (cnt (rows.map aV) [] p.length)):=by
 obtain⟨N,e,h1,h2⟩:=uO (bo rows) (ki rows h8 (wd8 hw w8));have hc:rk p.length (bo rows)=cnt (rows.map aV) [] p.length:=by
  have b:=jp (rows.map aV) p.length 0 [];rw[hZ]at b;exact b
 have hlt:=nF dv ((v5 hw).mp hp);have hN:p.length<N:=by
  by_cases q:p.length<N
  ·exact q
  ·have:=h2 p.length (by omega)
   rw[hc]at this;omega
 refine bK ?_;rw[e,Jc,Jc,KB hN];show some (PV.int (rk p.length (bo rows)))=_;rw[hc]
theorem DF(k:Nat){rows:List Str}{w:Nat}{p:List (Int×Int)}(hw:Wd rows w)(h0:rows≠[])(h8:rows.length<=8)(w8:w<=8)(hp:Pl rows w p):aG P (k+4) 167 [.tup (rows.map .str),.int (p.length:Nat),.int ((bh (rows.map aV) p:Nat):Int)]=some (.tup (p.map aM)):=by
 have hF:=(v5 hw).mp hp;rw[c167 k rows w p.length _ hw h0 h8 w8 (by omega) (by rw[BV];exact nF dv hF),<-qt hw,rX dv hF]
theorem IK(k:Nat)(rows:List Str)(w:Nat)(p:List (Int×Int))(hw:Wd rows w)(h0:rows≠[])(h8:rows.length<=8)(w8:w<=8)(hp:Pl rows w p) :
  aG P (k+7) 171 [.tup (rows.map .str),.tup (p.map aM),.lst ((sF (bo rows)).map .int)]=some (.bl true):=by
 refine dB rfl rfl ?_;simp only[FZ,entry];have im:=bm rows;have i2:imms (p.map aM)=true:=bQ p;have hlt:=nF dv ((v5 hw).mp hp);walk_at "ev";rw[im,i2,CL (k+2) rows w p hw h0 h8 w8 hp];walk_at "ev";rw[c8 (k+5)];walk_at "ev";rw[show decide (((bh (rows.map aV) p:Nat):Int)<0)=false from Jk (by omega)];walk_at "ev";rw[JM,sZ hw h8 w8 hp];walk_at "ev";rw[show decide (cnt (rows.map aV) [] p.length<=((bh (rows.map aV) p:Nat):Int))=false from Jk (by omega)];walk_at "ev";rw[JM,DF (k+2) hw h0 h8 w8 hp];walk_at "ev";rw[c9p k p];walk_at "ev"
theorem yb:∀p q:List (Int×Int),wG (p.map aM) (q.map aM)=some (OD.Be gS p q)
 | [],[]=>rfl
 | [],_::_=>rfl
 | _::_,[]=>rfl
 | x::p,y::q=>by
  show(if lG (aM x) (aM y)=true then wG (p.map aM) (q.map aM)else Ee (aM x) (aM y))=_;rw[jW,yb p q]
  by_cases h:x=y
  ·rw[JS (Jo h)]
   subst h;exact Jw some (JS rfl).symm
  ·rw[JR (by simpa using h),show OD.Be gS (x::p) (y::q)=gS x y from JR h]
   have:=yc x y;have e:ah .Lt (aM x) (aM y)=Ee (aM x) (aM y):=by
    show C8 (aM x) (aM y)=_;unfold C8;rw[show(cq 12 (aM x)&&cq 12 (aM y))=true from rfl,JS rfl]
   rw[<- e];exact this
theorem jV(p:List (Int×Int)):cq 12 (.tup (p.map aM))=true:=by
 show(p.map aM).all (cq 11)=true;rw[Jf];intro y hy;obtain⟨q,_,rfl⟩:=JW.mp hy;rfl
theorem tF(p q:List (Int×Int)):ah .Lt (.tup (p.map aM)) (.tup (q.map aM))=some (OD.Be gS p q):=by
 show C8 (.tup (p.map aM)) (.tup (q.map aM))=_;unfold C8;rw[jV,jV,Bool.and_self,JS rfl];exact yb p q
theorem qb:∀p q:List (Int×Int),iB (p.map aM) (q.map aM)=decide (p=q)
 | [],[]=>rfl
 | [],_::_=>rfl
 | _::_,[]=>rfl
 | x::p,y::q=>by
  show(lG (aM x) (aM y)&&iB (p.map aM) (q.map aM))=_;rw[jW,qb p q,J8,JU,J4,J4,J4,List.cons.injEq]
theorem tM(p q:List (Int×Int)):ah .Eq (.tup (p.map aM)) (.tup (q.map aM))=some (decide (p=q)):=by
 show(if(cq 12 (.tup (p.map aM))&&cq 12 (.tup (q.map aM)))=true then some (iB (p.map aM) (q.map aM))else none)=_;rw[jV,jV,Bool.and_self,JS rfl,qb]
theorem C6(a:Bool):ah .NotEq (.bl a) (.bl a)=some false:=by cases a<;>rfl
theorem Ab:∀m:Nat,1<=m->m<=6->∃v:Nat,cX [PV.int 63,.int 63,.int 40,.int 24,.int 14,.int 8] ((m:Int)-1)=some (.int v)/\v<=63
 | 0,h,_=>by cases h
 | 1,_,_=>⟨63,rfl,by decide⟩
 | 2,_,_=>⟨63,rfl,by decide⟩
 | 3,_,_=>⟨40,rfl,by decide⟩
 | 4,_,_=>⟨24,rfl,by decide⟩
 | 5,_,_=>⟨14,rfl,by decide⟩
 | 6,_,_=>⟨8,rfl,by decide⟩
 | m+7,_,h=>by omega
theorem c20(k:Nat)(c:Int):∃v,aG P (k+2) 20 [.int c]=some v/\∃d:Int,0<=d/\v=.int d:=by
 refine uL rfl rfl ?_;simp only[d20,entry];walk_at "go"
 split
 ·rename_i h
  walk_at "ev";refine⟨_,rfl,_,?_,rfl⟩;have h:=Jr h;omega
 ·walk_at "ev"
  refine dJ (xs:=(List.range 8).map fun i=>.int (0+(i:Nat))) (n:=true) ?_ (fun i τ=>∃(d:Int)(b:TV),τ=[.frz (.int c) true,.frz (.int d) true,b]/\0<=d) ?_ ?_ ?_
  ·rfl
  ·exact⟨0,.un,rfl,by omega⟩
  ·rintro i y τ hy ⟨d,b,rfl,hd⟩
   obtain⟨hi,rfl⟩:=eK hy;refine⟨_,rfl,?_⟩;obtain⟨q,b1,b2,e5⟩:=c5 k c (7*(i:Int)+3) (by omega) (by omega);walk_at "go";rw[e5];walk_at "go";exact⟨_,_,rfl,by omega⟩
  ·rintro τ ⟨d,b,rfl,hd⟩
   walk_at "ev";exact⟨_,rfl,d,hd,rfl⟩
noncomputable def rJ(z:Str)(n:Nat):Prop:=z.length=n/\∀c∈z.cps.toList,c=120\/c=46
theorem rJ.more{z:Str}{n:Nat}(h:rJ z n){y:Str}(hy:y=("x":Str)\/y=(".":Str)):rJ (z++y) (n+1):=by
 refine⟨?_,fun c hc=> ?_⟩
 ·rw[PySem.Str.length_append,h.1]
  rcases hy with rfl|rfl<;>rfl
 ·rw[PySem.Str.cps_append,Array.toList_append,J0]at hc
  rcases hc with hc|hc
  ·exact h.2 c hc
  ·rcases hy with rfl|rfl
   ·have:c∈[120]:=hc
    simp at this;exact .inl this
   ·have:c∈[46]:=hc
    simp at this;exact .inr this
noncomputable def pick(b:Bool):Str:=if b then "x" else "."
theorem BB(b:Bool):cX [PV.str ".",PV.str "x"] (if b then 1 else 0)=some (.str (pick b)):=by cases b<;>rfl
theorem yF(b:Bool):(pick b).length=1:=by cases b<;>rfl
theorem v7(b:Bool):pick b=("x":Str)\/pick b=(".":Str):=by cases b;exact .inr rfl;exact .inl rfl
theorem D6{j:Int}(h0:0<=j)(h1:j<=100):(0:Int)<1*2^j.toNat/\(1:Int)*2^j.toNat<2^200:=by
 have hp:(0:Int)<2^j.toNat:=Int.pow_pos (by decide);refine⟨by omega,?_⟩;have h2:(2:Nat)^j.toNat<2^200:=Nat.pow_lt_pow_right (by decide) (by omega);rw[Int.one_mul]
 exact_mod_cast h2
noncomputable abbrev bI1(x c R C TH:Int)(m i:Nat)(τ:En):Prop:=∃(rs:List Str)(a b d e g:TV),τ=[.frz (.int x) true,.frz (.int c) true,.frz (.int m) true,.frz (.int R) true,.frz (.int C) true,.frz (.int TH) true,.own (rs.map .str) true,a,b,d,e,g]/\rs.length=i/\∀r∈rs,rJ r C.toNat
noncomputable abbrev bI2(x c R C TH:Int)(m:Nat)(rs:List Str)(i:Int)(j:Nat)(τ:En):Prop:=∃(z:Str)(d e g:TV),τ=[.frz (.int x) true,.frz (.int c) true,.frz (.int m) true,.frz (.int R) true,.frz (.int C) true,.frz (.int TH) true,.own (rs.map .str) true,.frz (.int i) true,.frz (.str z) true,d,e,g]/\rJ z j
theorem c62(k:Nat)(x c:Int)(m:Nat)(m1:1<=m)(m8:m<=8):∃v,aG P (k+2) 62 [.int x,.int c,.int m]=some v/\∃rows:List Str,UM.JJ m rows/\v=.tup (rows.map .str):=by
 have r1:0<=x%(m:Int):=Int.emod_nonneg _ (by omega);have r2:x%(m:Int)<m:=MI _ (by omega);have q1:0<=x/8%(m:Int):=Int.emod_nonneg _ (by omega);have q2:x/8%(m:Int)<m:=MI _ (by omega);have hm:(0:Int)<m:=by omega
 refine uL rfl rfl ?_;simp only[d62,entry];walk_at "go";obtain⟨R,hR⟩:∃R,R=1+x%(m:Int):=⟨_,rfl⟩;obtain⟨C,hC⟩:∃C,C=1+x/8%(m:Int):=⟨_,rfl⟩;obtain⟨TH,hT⟩:∃TH,TH=1+x/64%8:=⟨_,rfl⟩;rw[<- hR,<-hC,<-hT];refine dJ (xs:=(List.range R.toNat).map fun i=>.int (0+(i:Nat))) (n:=true) ?_ (bI1 x c R C TH m) ?_ ?_ ?_
 ·walk_at "ev"
  simp only[nB,fA];rw[JS ⟨by omega,by omega⟩];rfl
 ·exact⟨[],.un,.un,.un,.un,.un,rfl,rfl,fun r hr=>by cases hr⟩
 ·rintro i y τ hy ⟨rs,a,b,d,e,g,rfl,hl,hsg⟩
  obtain⟨hi,rfl⟩:=eK hy;refine⟨_,rfl,?_⟩;walk_at "ev";refine dJ (xs:=(List.range C.toNat).map fun i=>.int (0+(i:Nat))) (n:=true) ?_ (bI2 x c R C TH m rs i) ?_ ?_ ?_
  ·walk_at "ev"
   simp only[nB,fA];rw[JS ⟨by omega,by omega⟩];rfl
  ·exact⟨_,d,e,g,rfl,rfl,fun c hc=>by cases hc⟩
  ·rintro j y τ hy ⟨z,d,e,g,rfl,hz⟩
   obtain⟨hj,rfl⟩:=eK hy;refine⟨_,rfl,?_⟩;have hp:0<=C*(i:Int)+(j:Int)/\C*(i:Int)+(j:Int)<=100:=by
    have e1:(0:Int)<=C*(i:Int):=Int.mul_nonneg (by omega) (by omega);have e2:C*(i:Int)<=8*8:=Int.mul_le_mul (by omega) (by omega) (by omega) (by omega);omega
   have hz1:=hz.1;have hzL:∀b,z.length+(pick b).length<=LN:=fun b=>by rw[yF];show z.length+1<=16777216;omega
   have hp2:=D6 hp.1 hp.2;walk_at "go"
   have fin:∀(b:Bool)(τ:En),τ=[.frz (.int x) true,.frz (.int c) true,.frz (.int m) true,.frz (.int R) true,.frz (.int C) true,.frz (.int TH) true,.own (rs.map .str) true,.frz (.int i) true,.frz (.str z) true,.frz (.int j) true,.frz (.int (C*(i:Int)+(j:Int))) true,.frz (.bl b) true] ->
     To (bV (aG P (k+1)) 1000000 (.cons (.asg 8 false [] (.bin .Add (.var 8) (.ix (.lst (.cons (.con (.str ".")) (.cons (.con (.str "x")) .nil))) (.bf .int (.cons (.var 11) .nil))))) .nil) τ) fun f=>match f with
      | .nx τ2=>bI2 x c R C TH m rs i (j+1) τ2
      | _=>False:=by
    rintro b τ rfl;have:=hzL b;walk_at "go";rw[BB];walk_at "go";exact⟨_,_,_,_,rfl,hz.more (v7 b)⟩
   split
   ·obtain⟨q,b1,b2,e5⟩:=c5 k c (C*(i:Int)+(j:Int)) hp.1 (by omega)
    walk_at "ev";rw[e5];walk_at "go";refine(fin _ _ rfl).imp fun f h=> ?_;cases f<;>first|exact h|exact h.elim
   ·walk_at "ev"
    refine(fin _ _ rfl).imp fun f h=> ?_;cases f<;>first|exact h|exact h.elim
  ·rintro τ ⟨z,d,e,g,rfl,hz⟩
   rw[jP]at hz;walk_at "ev";rw[eM rfl (by rw[JM];show rs.length<16777216;omega)];walk_at "ev";refine⟨rs++[z],_,_,_,_,_,by rw[Ji];rfl,by rw[Jj,hl];rfl,fun r hr=> ?_⟩
   rcases J0.mp hr with h|h
   ·exact hsg r h
   ·have e' :r=z:=by simpa using h
    rw[e'];exact hz
 ·rintro τ ⟨rs,a,b,d,e,g,rfl,hl,hsg⟩
  rw[jP]at hl;walk_at "ev";refine⟨_,rfl,rs,⟨?_,by omega,⟨C.toNat,by omega,by omega,fun r hr=>(hsg r hr).1⟩,fun r hr=>(hsg r hr).2⟩,rfl⟩;intro z;rw[z]at hl;simp at hl;omega
theorem Br{rows:List Str}{w:Nat}{p q:List (Int×Int)}(hw:Wd rows w)(h0:rows≠[])(h8:rows.length<=8)(w8:w<=8)(hp:Pl rows w p)(hq:Pl rows w q)(hl:q.length=p.length) :
  OD.Be gS p q=decide (((bh (rows.map aV) p:Nat):Int)<((bh (rows.map aV) q:Nat):Int))/\decide (p=q)=decide (((bh (rows.map aV) p:Nat):Int)=((bh (rows.map aV) q:Nat):Int)):=by
 have f1:=(v5 hw).mp hp;have f2:=(v5 hw).mp hq;refine⟨?_,?_⟩
 ·rw[<- xm dv f1 f2 hl.symm]
  exact Ly.mpr (by omega)
 ·refine Ly.mpr ?_
  rw[<- xo dv f1 f2 hl.symm];omega
theorem pK(rows:List (List Nat)):bh rows []=0:=by
 unfold bh;cases ai 0 rows<;>rfl
noncomputable abbrev Hz(ns:List Int)(rows:List Str)(W:Int)(b:List (Int×Int))(c d e f g h i:TV):En:=[.frz (.lst (ns.map PV.int)) false,.frz (.tup (rows.map PV.str)) true,.frz (.lst ((sF (bo rows)).map .int)) true,.frz (.tup (b.map aM)) true,.frz (.int W) true,c,d,e,f,g,h,i]
theorem yj:∀ns:List Int,ns.length<=63->aG P 40 172 [.lst (ns.map PV.int)]=some (.bl true):=by
 intro ns h63;obtain⟨v6,e6,rows,bd,rfl⟩:=c62 37 (ns.getD 0 0) (ns.getD 1 0) 6 (by decide) (by decide);obtain⟨w,w1,w2,hw⟩:=bd.wide;have h0:=bd.some;have h6:=bd.few;have h8:rows.length<=8:=by omega
 have w8:w<=8:=by omega
 have hr0:1<=rows.length:=by
  cases rows with
  | nil=>exact absurd rfl h0
  | cons z r=>rw[Jh];omega
 have e6:aG P 39 62 [.int (ns.getD 0 0),.int (ns.getD 1 0),.int 6]=some (.tup (rows.map PV.str)):=e6;have a0:aG P 39 4 [.lst (ns.map PV.int),.int 0]=some (.int (ns.getD 0 0)):=c4 38 ns 0;have a1:aG P 39 4 [.lst (ns.map PV.int),.int 1]=some (.int (ns.getD 1 0)):=c4 38 ns 1;have e64:aG P 39 64 [.tup (rows.map .str)]=some (.lst ((sF (bo rows)).map .int)):=c64 38 rows w hw h8 w8;obtain⟨z,hz⟩:∃z,rows[0]? =some z:=⟨_,Ja (by omega)⟩;have hzl:=hw z (Jn hz);obtain⟨W,hW⟩:∃W:Nat,W=max rows.length w:=⟨_,rfl⟩;obtain⟨V,hV1,hV2⟩:=Ab W (by omega) (by omega);refine dB rfl rfl ?_;simp only[FY,entry];walk_at "ev";rw[a0];walk_at "ev";rw[a1];walk_at "ev";rw[e6];walk_at "ev";rw[e64];walk_at "ev";have hz0:cX (rows.map PV.str) 0=some (.str z):=jb (i:=0) hz;rw[hz0];walk_at "ev";have eW:(if(w:Int)>(rows.length:Int)then(w:Int)else(rows.length:Int))=(W:Int):=by split<;>omega
 have lz:eR (.str z)=some w:=by
  show(if z.length<=LN then some z.length else none)=_;rw[JS (by show z.length<=16777216;omega),hzl]
 rw[lz];walk_at "ev";rw[JM,eW];walk_at "ev";obtain⟨hi,hhi⟩:∃hi:Nat,(hi:Int)=min (max (ns.length:Int) 3) V:=⟨(min (max (ns.length:Int) 3) V).toNat,by omega⟩;refine dJ (xs:=(List.range (hi-2)).map fun k=>.int (2+(k:Nat))) (n:=true) ?_ (fun i τ=>∃b c d e f g h i,τ=Hz ns rows W b c d e f g h i/\Pl rows w b) ⟨[],.un,.un,.un,.un,.un,.un,.un,rfl,g9⟩ ?_ ?_
 ·walk_at "ev"
  rw[hV1];walk_at "ev";simp only[nB,fA,JM];have q:(if(V:Int)<(if(3:Int)>(ns.length:Int)then 3 else(ns.length:Int))then(V:Int)else(if(3:Int)>(ns.length:Int)then 3 else(ns.length:Int)))=(hi:Int):=by
   split<;>split at* <;> omega
  rw[q,JS ⟨by decide,by decide,by omega,by omega⟩,show((hi:Int)-2).toNat=hi-2 by omega];rfl
 ·rintro i y τ hy ⟨b,c,d,e,f,g,h,j,rfl,hb⟩
  obtain⟨hi2,rfl⟩:=A2 hy;refine⟨_,rfl,?_⟩;obtain⟨K,hK⟩:∃K:Int,K=2+(i:Nat):=⟨_,rfl⟩;rw[<- hK];have a4:aG P 39 4 [.lst (ns.map PV.int),.int K]=some (.int (ns.getD K.toNat 0)):=by
   have:=c4 38 ns K.toNat;rw[show((K.toNat:Nat):Int)=K by omega]at this;exact this
  obtain⟨v20,e20,D,_,rfl⟩:=c20 37 (ns.getD K.toNat 0);have e20:aG P 39 20 [.int (ns.getD K.toNat 0)]=some (.int D):=e20;obtain⟨v1,e1,p,rfl,hp⟩:=IL 37 rows w (D/7) (D%7) hw h0 h8 w8;have e1:aG P 39 170 [.tup (rows.map .str),.int (D/7),.int (D%7)]=some (.tup (p.map aM)):=e1;obtain⟨v2,e2,q,rfl,hq⟩:=IL 37 rows w (D/11) (p.length:Nat) hw h0 h8 w8;have e2:aG P 39 170 [.tup (rows.map .str),.int (D/11),.int (p.length:Nat)]=some (.tup (q.map aM)):=e2;have g1:aG P 39 171 _=_:=IK 32 rows w p hw h0 h8 w8 hp;have g2:aG P 39 171 _=_:=IK 32 rows w q hw h0 h8 w8 hq;have n1:aG P 39 169 _=_:=CL 35 rows w p hw h0 h8 w8 hp;rw[mR];walk_at "ev";rw[a4];walk_at "ev";rw[e20];walk_at "ev";rw[e1];walk_at "ev";rw[JM,e2];walk_at "ev";rw[g1];walk_at "ev";rw[g2];walk_at "ev";refine dJ (xs:=[.tup (q.map aM),.tup (b.map aM)]) (n:=true) ?_ (fun _ τ=>∃c d g h i,τ=Hz ns rows W b c d (.frz (.tup (p.map aM)) true) (.frz (.tup (q.map aM)) true) g h i) ⟨_,_,_,_,_,rfl⟩ ?_ ?_
  ·walk_at "ev"
  ·rintro i y τ hy ⟨c,d,g,h,j,rfl⟩
   obtain⟨o,rfl,ho⟩:∃o:List (Int×Int),y=.tup (o.map aM)/\Pl rows w o:=by
    match i,hy with
    | 0,hy=>cases hy;exact⟨q,rfl,hq⟩
    | 1,hy=>cases hy;exact⟨b,rfl,hb⟩
    | i+2,hy=>simp at hy
   refine⟨_,rfl,?_⟩;have io:imms (o.map aM)=true:=bQ o;walk_at "ev";rw[JM,JM];cases hl:decide ((o.length:Int)=(p.length:Int))with
   | false =>
    walk_at "ev";exact⟨_,_,_,_,_,rfl⟩
   | true =>
    have hl:=Jr hl;have n2:aG P 39 169 _=_:=CL 35 rows w o hw h0 h8 w8 ho;obtain⟨i1,i2⟩:=Br hw h0 h8 w8 hp ho (by omega);walk_at "ev";rw[n1];walk_at "ev";rw[n2];walk_at "ev";rw[tF,tM];walk_at "ev";rw[i1,C6,i2,C6];walk_at "ev";exact⟨_,_,_,_,_,rfl⟩
  ·rintro τ ⟨c,d,g,h,j,rfl⟩
   walk_at "ev";exact⟨_,_,_,_,_,_,_,_,rfl,hp⟩
 ·rintro τ ⟨b,c,d,e,f,g,h,i,rfl,hb⟩
  have f1:aG P 39 169 [.tup (rows.map .str),.tup []]=some (.int 0):=by
   have:=CL 35 rows w [] hw h0 h8 w8 g9;rw[pK]at this;exact this
  have f2:aG P 39 167 [.tup (rows.map .str),.int 0,.int 0]=some (.tup []):=by
   have:=DF 35 hw h0 h8 w8 (g9 (rows:=rows) (w:=w));rw[pK]at this;exact this
  have f3:aG P 39 9 [.int 0,.int 0]=some (.bl true):=c9 1 37 (.int 0) (JV _) rfl;have f4:aG P 39 9 [.tup [],.tup []]=some (.bl true):=c9p 33 [];walk_at "ev";rw[f1];walk_at "ev";rw[f3];walk_at "ev";rw[f2];walk_at "ev";rw[f4];walk_at "ev"
noncomputable abbrev jE(nm:Str)(ps:List Str)(st:Stmt):Prop:=∀(kV doc pm:Value)(an:Option Addr)(cdv ct:Value)(us:List Value),us.length=ps.length->bindArgs (W.fnOf nm nm (aK st) (aF st) (aA st) .none kV doc pm an cdv ct) ⟨us,[]⟩=pure (ps.zip us)
theorem sc3:aS N3 ["board"] (aA s3):=⟨rfl,rfl,rfl,by decide +kernel,rfl,by decide +kernel,by decide +kernel⟩
theorem bd3:jE "cells_of" ["board"] s3 :=
 fun _ _ _ _ _ _ us hl=>by
  obtain⟨_,rfl⟩:=hU hl;rfl
theorem tr3:aw 80 ⟨N3,(aA s3).names,F,G,B,[1]⟩ (aF s3)=d3.body:=by kernel_rfl
theorem sc24:aS N24 ["thing"] (aA Dl):=⟨rfl,rfl,rfl,by decide +kernel,rfl,by decide +kernel,by decide +kernel⟩
theorem bd24:jE "is_number" ["thing"] Dl :=
 fun _ _ _ _ _ _ us hl=>by
  obtain⟨_,rfl⟩:=hU hl;rfl
theorem tr24:aw 80 ⟨N24,(aA Dl).names,F,G,B,[]⟩ (aF Dl)=d24.body:=by kernel_rfl
theorem sc25:aS N25 ["board","thing"] (aA Dk):=⟨rfl,rfl,rfl,by decide +kernel,rfl,by decide +kernel,by decide +kernel⟩
theorem bd25:jE "is_cell" ["board","thing"] Dk :=
 fun _ _ _ _ _ _ us hl=>by
  obtain⟨_,_,rfl⟩:=kD hl;rfl
theorem tr25:aw 80 ⟨N25,(aA Dk).names,F,G,B,[]⟩ (aF Dk)=d25.body:=by kernel_rfl
theorem sc26:aS N26 ["board","thing"] (aA Dj):=⟨rfl,rfl,rfl,by decide +kernel,rfl,by decide +kernel,by decide +kernel⟩
theorem bd26:jE "is_placing" ["board","thing"] Dj :=
 fun _ _ _ _ _ _ us hl=>by
  obtain⟨_,_,rfl⟩:=kD hl;rfl
theorem tr26:aw 80 ⟨N26,(aA Dj).names,F,G,B,[]⟩ (aF Dj)=d26.body:=by kernel_rfl
theorem sc46:aS N46 ["line"] (aA Di):=⟨rfl,rfl,rfl,by decide +kernel,rfl,by decide +kernel,by decide +kernel⟩
theorem bd46:jE "bits_of" ["line"] Di :=
 fun _ _ _ _ _ _ us hl=>by
  obtain⟨_,rfl⟩:=hU hl;rfl
theorem tr46:aw 80 ⟨N46,(aA Di).names,F,G,B,[1]⟩ (aF Di)=d46.body:=by kernel_rfl
theorem bd47:jE "with_line" ["levels","bits"] GJ :=
 fun _ _ _ _ _ _ us hl=>by
  obtain⟨_,_,rfl⟩:=kD hl;rfl
theorem HE:aS Iz ["board"] (aA sE):=⟨rfl,rfl,rfl,by decide +kernel,rfl,by decide +kernel,by decide +kernel⟩
theorem Ib:jE "tails_of" ["board"] sE :=
 fun _ _ _ _ _ _ us hl=>by
  obtain⟨_,rfl⟩:=hU hl;rfl
theorem Ge:aw 80 ⟨Iz,(aA sE).names,F,G,B,[]⟩ (aF sE)=Fh.body:=by kernel_rfl
theorem HD:aS Iy ["begun"] (aA sD):=⟨rfl,rfl,rfl,by decide +kernel,rfl,by decide +kernel,by decide +kernel⟩
theorem Ia:jE "row_behind" ["begun"] sD :=
 fun _ _ _ _ _ _ us hl=>by
  obtain⟨_,rfl⟩:=hU hl;rfl
theorem Gd:aw 80 ⟨Iy,(aA sD).names,F,G,B,[]⟩ (aF sD)=Fg.body:=by kernel_rfl
theorem HC:aS Ix ["begun"] (aA sC):=⟨rfl,rfl,rfl,by decide +kernel,rfl,by decide +kernel,by decide +kernel⟩
theorem IZ:jE "columns_taken" ["begun"] sC :=
 fun _ _ _ _ _ _ us hl=>by
  obtain⟨_,rfl⟩:=hU hl;rfl
theorem Gc:aw 80 ⟨Ix,(aA sC).names,F,G,B,[]⟩ (aF sC)=Ff.body:=by kernel_rfl
theorem HB:aS Iw ["tails","begun","size"] (aA sB):=⟨rfl,rfl,rfl,by decide +kernel,rfl,by decide +kernel,by decide +kernel⟩
theorem IY:jE "number_beginning" ["tails","begun","size"] sB :=
 fun _ _ _ _ _ _ us hl=>by
  obtain⟨_,_,_,rfl⟩:=yg hl;rfl
theorem Gb:aw 80 ⟨Iw,(aA sB).names,F,G,B,[]⟩ (aF sB)=Fe.body:=by kernel_rfl
theorem HA:aS Iv ["board","size","number"] (aA sA):=⟨rfl,rfl,rfl,by decide +kernel,rfl,by decide +kernel,by decide +kernel⟩
theorem IW:jE "placing_at" ["board","size","number"] sA :=
 fun _ _ _ _ _ _ us hl=>by
  obtain⟨_,_,_,rfl⟩:=yg hl;rfl
theorem Ga:aw 80 ⟨Iv,(aA sA).names,F,G,B,[]⟩ (aF sA)=Fd.body:=by kernel_rfl
theorem G9:aS Iu ["placing","cell"] (aA rq):=⟨rfl,rfl,rfl,by decide +kernel,rfl,by decide +kernel,by decide +kernel⟩
theorem IV:jE "start_at" ["placing","cell"] rq :=
 fun _ _ _ _ _ _ us hl=>by
  obtain⟨_,_,rfl⟩:=kD hl;rfl
theorem GZ:aw 80 ⟨Iu,(aA rq).names,F,G,B,[]⟩ (aF rq)=Fc.body:=by kernel_rfl
theorem G8:aS Ir ["board","placing"] (aA rm):=⟨rfl,rfl,rfl,by decide +kernel,rfl,by decide +kernel,by decide +kernel⟩
theorem IU:jE "number_of" ["board","placing"] rm :=
 fun _ _ _ _ _ _ us hl=>by
  obtain⟨_,_,rfl⟩:=kD hl;rfl
theorem GY:aw 80 ⟨Ir,(aA rm).names,F,G,B,[]⟩ (aF rm)=Fb.body:=by kernel_rfl
theorem sc4:aS N4 ["_law_script","_law_k"] (aA s4):=⟨rfl,rfl,rfl,by decide +kernel,rfl,by decide +kernel,by decide +kernel⟩
theorem bd4:jE "_law_cell" ["_law_script","_law_k"] s4 :=
 fun _ _ _ _ _ _ us hl=>by
  obtain⟨_,_,rfl⟩:=kD hl;rfl
theorem tr4:aw 80 ⟨N4,(aA s4).names,F,G,B,[]⟩ (aF s4)=d4.body:=by kernel_rfl
theorem sc5:aS N5 ["_law_cell_here","_law_k"] (aA s5):=⟨rfl,rfl,rfl,by decide +kernel,rfl,by decide +kernel,by decide +kernel⟩
theorem bd5:jE "_law_mixed" ["_law_cell_here","_law_k"] s5 :=
 fun _ _ _ _ _ _ us hl=>by
  obtain⟨_,_,rfl⟩:=kD hl;rfl
theorem tr5:aw 80 ⟨N5,(aA s5).names,F,G,B,[]⟩ (aF s5)=d5.body:=by kernel_rfl
theorem sc20:aS N20 ["_law_cell_here"] (aA Dm):=⟨rfl,rfl,rfl,by decide +kernel,rfl,by decide +kernel,by decide +kernel⟩
theorem bd20:jE "_law_deep" ["_law_cell_here"] Dm :=
 fun _ _ _ _ _ _ us hl=>by
  obtain⟨_,rfl⟩:=hU hl;rfl
theorem tr20:aw 80 ⟨N20,(aA Dm).names,F,G,B,[]⟩ (aF Dm)=d20.body:=by kernel_rfl
theorem sc62:aS N62 ["_law_head","_law_cell_here","_law_most"] (aA Dh):=⟨rfl,rfl,rfl,by decide +kernel,rfl,by decide +kernel,by decide +kernel⟩
theorem bd62:jE "_law_board" ["_law_head","_law_cell_here","_law_most"] Dh :=
 fun _ _ _ _ _ _ us hl=>by
  obtain⟨_,_,_,rfl⟩:=yg hl;rfl
theorem tr62:aw 80 ⟨N62,(aA Dh).names,F,G,B,[6]⟩ (aF Dh)=d62.body:=by kernel_rfl
theorem sc66:aS N66 ["_law_board_here"] (aA Df):=⟨rfl,rfl,rfl,by decide +kernel,rfl,by decide +kernel,by decide +kernel⟩
theorem bd66:jE "_law_cells" ["_law_board_here"] Df :=
 fun _ _ _ _ _ _ us hl=>by
  obtain⟨_,rfl⟩:=hU hl;rfl
theorem tr66:aw 80 ⟨N66,(aA Df).names,F,G,B,[1]⟩ (aF Df)=d66.body:=by kernel_rfl
theorem sc8:aS N8 ["_law_found"] (aA s8):=⟨rfl,rfl,rfl,by decide +kernel,rfl,by decide +kernel,by decide +kernel⟩
theorem bd8:jE "_law_whole" ["_law_found"] s8 :=
 fun _ _ _ _ _ _ us hl=>by
  obtain⟨_,rfl⟩:=hU hl;rfl
theorem tr8:aw 80 ⟨N8,(aA s8).names,F,G,B,[]⟩ (aF s8)=d8.body:=by kernel_rfl
theorem sc9:aS N9 ["_law_found","_law_due"] (aA s9):=⟨rfl,rfl,rfl,by decide +kernel,rfl,by decide +kernel,by decide +kernel⟩
theorem bd9:jE "_law_same" ["_law_found","_law_due"] s9 :=
 fun _ _ _ _ _ _ us hl=>by
  obtain⟨_,_,rfl⟩:=kD hl;rfl
theorem tr9:aw 80 ⟨N9,(aA s9).names,F,G,B,[]⟩ (aF s9)=d9.body:=by kernel_rfl
theorem sc10:aS N10 ["_law_found","_law_due"] (aA Do):=⟨rfl,rfl,rfl,by decide +kernel,rfl,by decide +kernel,by decide +kernel⟩
theorem bd10:jE "_law_all_same" ["_law_found","_law_due"] Do :=
 fun _ _ _ _ _ _ us hl=>by
  obtain⟨_,_,rfl⟩:=kD hl;rfl
theorem tr10:aw 80 ⟨N10,(aA Do).names,F,G,B,[]⟩ (aF Do)=d10.body:=by kernel_rfl
theorem G7:aS Iq ["_law_board_here","_law_cell_here","_law_size"] (aA rj):=⟨rfl,rfl,rfl,by decide +kernel,rfl,by decide +kernel,by decide +kernel⟩
theorem IQ:jE "_law_placing" ["_law_board_here","_law_cell_here","_law_size"] rj :=
 fun _ _ _ _ _ _ us hl=>by
  obtain⟨_,_,_,rfl⟩:=yg hl;rfl
theorem GX:aw 80 ⟨Iq,(aA rj).names,F,G,B,[3]⟩ (aF rj)=Fa.body:=by kernel_rfl
theorem bd64:jE "_law_row" ["_law_board_here"] Dg :=
 fun _ _ _ _ _ _ us hl=>by
  obtain⟨_,rfl⟩:=hU hl;rfl
theorem G6:aS Ip ["_law_board_here","_law_placing_here","_law_numbers"] (aA rh):=⟨rfl,rfl,rfl,by decide +kernel,rfl,by decide +kernel,by decide +kernel⟩
theorem IP:jE "_law_good" ["_law_board_here","_law_placing_here","_law_numbers"] rh :=
 fun _ _ _ _ _ _ us hl=>by
  obtain⟨_,_,_,rfl⟩:=yg hl;rfl
theorem GW:aw 80 ⟨Ip,(aA rh).names,F,G,B,[]⟩ (aF rh)=FZ.body:=by kernel_rfl
theorem Gz:aS Io ["_law_script"] (aA lJ):=⟨rfl,rfl,rfl,by decide +kernel,rfl,by decide +kernel,by decide +kernel⟩
theorem IN:jE "law" ["_law_script"] lJ :=
 fun _ _ _ _ _ _ us hl=>by
  obtain⟨_,rfl⟩:=hU hl;rfl
theorem GV:aw 80 ⟨Io,(aA lJ).names,F,G,B,[]⟩ (aF lJ)=FY.body:=by kernel_rfl
theorem nO{K:W.Frag}{h:Heap}{mg:Str->Option Value}{x:Str}(X:K.In h)(Gh:h.Ns mainGlobals mg)(z:W.nsIn K mainGlobals x=some none):mg x=none:=W.mg_none_of X Gh z
section
variable{K:W.Frag}{h:Heap}{mg:Str->Option Value}{nm:Str}{ps N:List Str}{st:Stmt}{f:Addr}{k:Nat}{d:FD}{M:List Nat}{oc kV doc pm cd ct:Value}{od an:Option Addr}{sl:Array (Option Value)}(X:K.In h)(Gh:h.Ns mainGlobals mg)(a:W.nsIn K mainGlobals nm=some (some (.ref f)))(l:K.lookup f=some ⟨oc,od,.func (W.fnOf nm nm (aK st) (aF st) (aA st) .none kV doc pm an cd ct),sl⟩)(c:W.codeIn K cd nm=true)(kp:W.keepIn K (.ref f)=true)(b:jE nm ps st)
include X Gh a l c kp b
theorem mkD:Def K mg nm st ps f (W.fnOf nm nm (aK st) (aF st) (aA st) .none kV doc pm an cd ct):=⟨zE l c kp,W.mg_of X Gh a,(zE l c kp).binds b⟩
theorem j3{body:wy}(sc:aS N ps (aA st))(e:P k=some ⟨N.length,ps.length,body⟩)(tr:aw 80 ⟨N,(aA st).names,F,G,B,M⟩ (aF st)=body):wz K mg P F G B nm k f (W.fnOf nm nm (aK st) (aF st) (aA st) .none kV doc pm an cd ct) ps:=⟨.inr ⟨st,N,M,80,body,mkD X Gh a l c kp b,sc,e,tr⟩⟩
end
theorem F4{l:W.OpenLaw}{w:World}{K:W.Frag}{h:Heap}{mg:Str->Option Value}{fa f0 f1 f2 f3 f4 f5 f6 f7 f8 f9 f10 f11 f12 f13 f14 f15 f16 f17 f18 f19 f20 f21 f22 f23 f24:Addr}(X:K.In h)(Gh:h.Ns mainGlobals mg)(hfa:mg "law"=some (.ref fa))
  {q0 x0 q1 x1 q2 x2 q3 x3 q4 x4 q5 x5 q6 x6 q7 x7 q8 x8 q9 x9 q10 x10 q11 x11 q12 x12 q13 x13 q14 x14 q15 x15 q16 x16 q17 x17 q18 x18 q19 x19 q20 x20 q21 x21 q22 x22 q23 x23 q24 x24:Option Addr} {r0 r1 r2 r3 r4 r5 r6 r7 r8 r9 r10 r11 r12 r13 r14 r15 r16 r17 r18 r19 r20 r21 r22 r23 r24:Array (Option Value)} {p0 t0 u0 w0 y0 m0 p1 t1 u1 w1 y1 m1 p2 t2 u2 w2 y2 m2 p3 t3 u3 w3 y3 m3 p4 t4 u4 w4 y4 m4 p5 t5 u5 w5 y5 m5 p6 t6 u6 w6 y6 m6 p7 t7 u7 w7 y7 m7 p8 t8 u8 w8 y8 m8 p9 t9 u9 w9 y9 m9 p10 t10 u10 w10 y10 m10 p11 t11 u11 w11 y11 m11 p12 t12 u12 w12 y12 m12 p13 t13 u13 w13 y13 m13 p14 t14 u14 w14 y14 m14 p15 t15 u15 w15 y15 m15 p16 t16 u16 w16 y16 m16 p17 t17 u17 w17 y17 m17 p18 t18 u18 w18 y18 m18 p19 t19 u19 w19 y19 m19 p20 t20 u20 w20 y20 m20 p21 t21 u21 w21 y21 m21 p22 t22 u22 w22 y22 m22 p23 t23 u23 w23 y23 m23 p24 t24 u24 w24 y24 m24:Value}
  {tk0:Tok}
  (a0:W.nsIn K mainGlobals "cells_of"=some (some (.ref f0))) (l0:K.lookup f0=some ⟨p0,q0,.func (W.fnOf "cells_of" "cells_of" (aK s3) (aF s3) (aA s3) .none t0 u0 w0 x0 y0 m0),r0⟩) (c0:W.codeIn K y0 "cells_of"=true) (k0:W.keepIn K (.ref f0)=true)
  (a1:W.nsIn K mainGlobals "is_number"=some (some (.ref f1))) (l1:K.lookup f1=some ⟨p1,q1,.func (W.fnOf "is_number" "is_number" (aK Dl) (aF Dl) (aA Dl) .none t1 u1 w1 x1 y1 m1),r1⟩) (c1:W.codeIn K y1 "is_number"=true) (k1:W.keepIn K (.ref f1)=true)
  (a2:W.nsIn K mainGlobals "is_cell"=some (some (.ref f2))) (l2:K.lookup f2=some ⟨p2,q2,.func (W.fnOf "is_cell" "is_cell" (aK Dk) (aF Dk) (aA Dk) .none t2 u2 w2 x2 y2 m2),r2⟩) (c2:W.codeIn K y2 "is_cell"=true) (k2:W.keepIn K (.ref f2)=true)
  (a3:W.nsIn K mainGlobals "is_placing"=some (some (.ref f3))) (l3:K.lookup f3=some ⟨p3,q3,.func (W.fnOf "is_placing" "is_placing" (aK Dj) (aF Dj) (aA Dj) .none t3 u3 w3 x3 y3 m3),r3⟩) (c3:W.codeIn K y3 "is_placing"=true) (k3:W.keepIn K (.ref f3)=true)
  (a4:W.nsIn K mainGlobals "bits_of"=some (some (.ref f4))) (l4:K.lookup f4=some ⟨p4,q4,.func (W.fnOf "bits_of" "bits_of" (aK Di) (aF Di) (aA Di) .none t4 u4 w4 x4 y4 m4),r4⟩) (c4:W.codeIn K y4 "bits_of"=true) (k4:W.keepIn K (.ref f4)=true)
  (a5:W.nsIn K mainGlobals "with_line"=some (some (.ref f5))) (l5:K.lookup f5=some ⟨p5,q5,.func (W.fnOf "with_line" "with_line" (aK GJ) (aF GJ) (aA GJ) .none t5 u5 w5 x5 y5 m5),r5⟩) (c5:W.codeIn K y5 "with_line"=true) (k5:W.keepIn K (.ref f5)=true)
  (a6:W.nsIn K mainGlobals "tails_of"=some (some (.ref f6))) (l6:K.lookup f6=some ⟨p6,q6,.func (W.fnOf "tails_of" "tails_of" (aK sE) (aF sE) (aA sE) .none t6 u6 w6 x6 y6 m6),r6⟩) (c6:W.codeIn K y6 "tails_of"=true) (k6:W.keepIn K (.ref f6)=true)
  (a7:W.nsIn K mainGlobals "row_behind"=some (some (.ref f7))) (l7:K.lookup f7=some ⟨p7,q7,.func (W.fnOf "row_behind" "row_behind" (aK sD) (aF sD) (aA sD) .none t7 u7 w7 x7 y7 m7),r7⟩) (c7:W.codeIn K y7 "row_behind"=true) (k7:W.keepIn K (.ref f7)=true)
  (a8:W.nsIn K mainGlobals "columns_taken"=some (some (.ref f8))) (l8:K.lookup f8=some ⟨p8,q8,.func (W.fnOf "columns_taken" "columns_taken" (aK sC) (aF sC) (aA sC) .none t8 u8 w8 x8 y8 m8),r8⟩) (c8:W.codeIn K y8 "columns_taken"=true) (k8:W.keepIn K (.ref f8)=true)
  (a9:W.nsIn K mainGlobals "number_beginning"=some (some (.ref f9))) (l9:K.lookup f9=some ⟨p9,q9,.func (W.fnOf "number_beginning" "number_beginning" (aK sB) (aF sB) (aA sB) .none t9 u9 w9 x9 y9 m9),r9⟩) (c9:W.codeIn K y9 "number_beginning"=true) (k9:W.keepIn K (.ref f9)=true)
  (a10:W.nsIn K mainGlobals "placing_at"=some (some (.ref f10))) (l10:K.lookup f10=some ⟨p10,q10,.func (W.fnOf "placing_at" "placing_at" (aK sA) (aF sA) (aA sA) .none t10 u10 w10 x10 y10 m10),r10⟩) (c10:W.codeIn K y10 "placing_at"=true) (k10:W.keepIn K (.ref f10)=true)
  (a11:W.nsIn K mainGlobals "start_at"=some (some (.ref f11))) (l11:K.lookup f11=some ⟨p11,q11,.func (W.fnOf "start_at" "start_at" (aK rq) (aF rq) (aA rq) .none t11 u11 w11 x11 y11 m11),r11⟩) (c11:W.codeIn K y11 "start_at"=true) (k11:W.keepIn K (.ref f11)=true)
  (a12:W.nsIn K mainGlobals "number_of"=some (some (.ref f12))) (l12:K.lookup f12=some ⟨p12,q12,.func (W.fnOf "number_of" "number_of" (aK rm) (aF rm) (aA rm) .none t12 u12 w12 x12 y12 m12),r12⟩) (c12:W.codeIn K y12 "number_of"=true) (k12:W.keepIn K (.ref f12)=true)
  (a13:W.nsIn K mainGlobals "_law_cell"=some (some (.ref f13))) (l13:K.lookup f13=some ⟨p13,q13,.func (W.fnOf "_law_cell" "_law_cell" (aK s4) (aF s4) (aA s4) .none t13 u13 w13 x13 y13 m13),r13⟩) (c13:W.codeIn K y13 "_law_cell"=true) (k13:W.keepIn K (.ref f13)=true)
  (a14:W.nsIn K mainGlobals "_law_mixed"=some (some (.ref f14))) (l14:K.lookup f14=some ⟨p14,q14,.func (W.fnOf "_law_mixed" "_law_mixed" (aK s5) (aF s5) (aA s5) .none t14 u14 w14 x14 y14 m14),r14⟩) (c14:W.codeIn K y14 "_law_mixed"=true) (k14:W.keepIn K (.ref f14)=true)
  (a15:W.nsIn K mainGlobals "_law_deep"=some (some (.ref f15))) (l15:K.lookup f15=some ⟨p15,q15,.func (W.fnOf "_law_deep" "_law_deep" (aK Dm) (aF Dm) (aA Dm) .none t15 u15 w15 x15 y15 m15),r15⟩) (c15:W.codeIn K y15 "_law_deep"=true) (k15:W.keepIn K (.ref f15)=true)
  (a16:W.nsIn K mainGlobals "_law_board"=some (some (.ref f16))) (l16:K.lookup f16=some ⟨p16,q16,.func (W.fnOf "_law_board" "_law_board" (aK Dh) (aF Dh) (aA Dh) .none t16 u16 w16 x16 y16 m16),r16⟩) (c16:W.codeIn K y16 "_law_board"=true) (k16:W.keepIn K (.ref f16)=true)
  (a17:W.nsIn K mainGlobals "_law_cells"=some (some (.ref f17))) (l17:K.lookup f17=some ⟨p17,q17,.func (W.fnOf "_law_cells" "_law_cells" (aK Df) (aF Df) (aA Df) .none t17 u17 w17 x17 y17 m17),r17⟩) (c17:W.codeIn K y17 "_law_cells"=true) (k17:W.keepIn K (.ref f17)=true)
  (a18:W.nsIn K mainGlobals "_law_whole"=some (some (.ref f18))) (l18:K.lookup f18=some ⟨p18,q18,.func (W.fnOf "_law_whole" "_law_whole" (aK s8) (aF s8) (aA s8) .none t18 u18 w18 x18 y18 m18),r18⟩) (c18:W.codeIn K y18 "_law_whole"=true) (k18:W.keepIn K (.ref f18)=true)
  (a19:W.nsIn K mainGlobals "_law_same"=some (some (.ref f19))) (l19:K.lookup f19=some ⟨p19,q19,.func (W.fnOf "_law_same" "_law_same" (aK s9) (aF s9) (aA s9) .none t19 u19 w19 x19 y19 m19),r19⟩) (c19:W.codeIn K y19 "_law_same"=true) (k19:W.keepIn K (.ref f19)=true)
  (a20:W.nsIn K mainGlobals "_law_all_same"=some (some (.ref f20))) (l20:K.lookup f20=some ⟨p20,q20,.func (W.fnOf "_law_all_same" "_law_all_same" (aK Do) (aF Do) (aA Do) .none t20 u20 w20 x20 y20 m20),r20⟩) (c20:W.codeIn K y20 "_law_all_same"=true) (k20:W.keepIn K (.ref f20)=true)
  (a21:W.nsIn K mainGlobals "_law_placing"=some (some (.ref f21))) (l21:K.lookup f21=some ⟨p21,q21,.func (W.fnOf "_law_placing" "_law_placing" (aK rj) (aF rj) (aA rj) .none t21 u21 w21 x21 y21 m21),r21⟩) (c21:W.codeIn K y21 "_law_placing"=true) (k21:W.keepIn K (.ref f21)=true)
  (a22:W.nsIn K mainGlobals "_law_row"=some (some (.ref f22))) (l22:K.lookup f22=some ⟨p22,q22,.func (W.fnOf "_law_row" "_law_row" (aK Dg) (aF Dg) (aA Dg) .none t22 u22 w22 x22 y22 m22),r22⟩) (c22:W.codeIn K y22 "_law_row"=true) (k22:W.keepIn K (.ref f22)=true)
  (a23:W.nsIn K mainGlobals "_law_good"=some (some (.ref f23))) (l23:K.lookup f23=some ⟨p23,q23,.func (W.fnOf "_law_good" "_law_good" (aK rh) (aF rh) (aA rh) .none t23 u23 w23 x23 y23 m23),r23⟩) (c23:W.codeIn K y23 "_law_good"=true) (k23:W.keepIn K (.ref f23)=true)
  (a24:W.nsIn K mainGlobals "law"=some (some (.ref f24))) (l24:K.lookup f24=some ⟨p24,q24,.func (W.fnOf "law" "law" (aK lJ) (aF lJ) (aA lJ) .none t24 u24 w24 x24 y24 m24),r24⟩) (c24:W.codeIn K y24 "law"=true) (k24:W.keepIn K (.ref f24)=true)
  (z0:W.nsIn K mainGlobals "len"=some none)
  (z1:W.nsIn K mainGlobals "int"=some none)
  (z2:W.nsIn K mainGlobals "list"=some none)
  (z3:W.nsIn K mainGlobals "tuple"=some none)
  (z4:W.nsIn K mainGlobals "all"=some none)
  (z5:W.nsIn K mainGlobals "min"=some none)
  (z6:W.nsIn K mainGlobals "max"=some none)
  (z7:W.nsIn K mainGlobals "isinstance"=some none)
  (z8:W.nsIn K mainGlobals "str"=some none)
  (z9:W.nsIn K mainGlobals "bool"=some none)
  (z10:W.nsIn K mainGlobals "range"=some none)
  (z11:W.nsIn K mainGlobals "zip"=some none)
  (z12:W.nsIn K mainGlobals "enumerate"=some none)
  (z13:W.nsIn K mainGlobals "sorted"=some none)
  (z14:W.nsIn K mainGlobals "set"=some none)
  (z15:W.nsIn K mainGlobals "sum"=some none)
  (z16:W.nsIn K mainGlobals "reversed"=some none)
  (z17:W.nsIn K mainGlobals "dict"=some none)
  (v0:W.nsIn K mainGlobals "CELL"=some (some (.str "x" tk0)))
  :
  ∃fd:FuncData,(∀(s:Shared)(v:Value),BindsTo s fd ⟨[v],[]⟩ [("_law_script",v)])/\∀base:Heap,K.In base->base.Ns mainGlobals mg->cY l.prog w K mg base oE 40 fa fd ["_law_script"] (uH K):=by
 have hB:∀x,B.contains x=true->mg x=none:=br (nO X Gh z0) (br (nO X Gh z1) (br (nO X Gh z2) (br (nO X Gh z3) (br (nO X Gh z4) (br (nO X Gh z5) (br (nO X Gh z6) (br (nO X Gh z7) (br (nO X Gh z8) (br (nO X Gh z9) (br (nO X Gh z10) (br (nO X Gh z11) (br (nO X Gh z12) (br (nO X Gh z13) (br (nO X Gh z14) (br (nO X Gh z15) (br (nO X Gh z16) (br (nO X Gh z17) (bnil))))))))))))))))));have e:=hfa.symm.trans (W.mg_of X Gh a24);cases e;have hG:∀x v,G.lookup x=some v->∃u w,mg x=some u/\RelV w u/\∀Hi n H,Rp K Hi n v H w:=Hu ⟨_,(.str "x"),W.mg_of X Gh v0,⟨_,rfl⟩,fun _ _ _=>Rp.str.mpr rfl⟩ (gnil);have E0:=j3 (k:=3) X Gh a0 l0 c0 k0 bd3 sc3 rfl tr3;have E1:=j3 (k:=24) X Gh a1 l1 c1 k1 bd24 sc24 rfl tr24;have E2:=j3 (k:=25) X Gh a2 l2 c2 k2 bd25 sc25 rfl tr25;have E3:=j3 (k:=26) X Gh a3 l3 c3 k3 bd26 sc26 rfl tr26;have E4:=j3 (k:=46) X Gh a4 l4 c4 k4 bd46 sc46 rfl tr46;have D5:=mkD X Gh a5 l5 c5 k5 bd47;have E5:wz K mg P F G B "with_line" 47 f5 _ ["levels","bits"]:=⟨.inl ⟨D5.nm,D5.fn.kp,D5.bd,fun p w b k z=>FI (hB "dict" rfl) (hB "enumerate" rfl) D5 p w b k (z k (JV k))⟩⟩;have E6:=j3 (k:=163) X Gh a6 l6 c6 k6 Ib HE rfl Ge;have E7:=j3 (k:=164) X Gh a7 l7 c7 k7 Ia HD rfl Gd;have E8:=j3 (k:=165) X Gh a8 l8 c8 k8 IZ HC rfl Gc;have E9:=j3 (k:=166) X Gh a9 l9 c9 k9 IY HB rfl Gb;have E10:=j3 (k:=167) X Gh a10 l10 c10 k10 IW HA rfl Ga;have E11:=j3 (k:=168) X Gh a11 l11 c11 k11 IV G9 rfl GZ;have E12:=j3 (k:=169) X Gh a12 l12 c12 k12 IU G8 rfl GY;have E13:=j3 (k:=4) X Gh a13 l13 c13 k13 bd4 sc4 rfl tr4;have E14:=j3 (k:=5) X Gh a14 l14 c14 k14 bd5 sc5 rfl tr5;have E15:=j3 (k:=20) X Gh a15 l15 c15 k15 bd20 sc20 rfl tr20;have E16:=j3 (k:=62) X Gh a16 l16 c16 k16 bd62 sc62 rfl tr62;have E17:=j3 (k:=66) X Gh a17 l17 c17 k17 bd66 sc66 rfl tr66;have E18:=j3 (k:=8) X Gh a18 l18 c18 k18 bd8 sc8 rfl tr8;have E19:=j3 (k:=9) X Gh a19 l19 c19 k19 bd9 sc9 rfl tr9;have E20:=j3 (k:=10) X Gh a20 l20 c20 k20 bd10 sc10 rfl tr10;have E21:=j3 (k:=170) X Gh a21 l21 c21 k21 IQ G7 rfl GX;have D22:=mkD X Gh a22 l22 c22 k22 bd64;have E22:wz K mg P F G B "_law_row" 64 f22 _ ["_law_board_here"]:=⟨.inl ⟨D22.nm,D22.fn.kp,D22.bd,fun p w b k z=>FH (hB "dict" rfl) (hB "len" rfl) (hB "range" rfl) (hB "sorted" rfl) (hB "tuple" rfl) D22 p w b k (z k (JV k))⟩⟩;have E23:=j3 (k:=171) X Gh a23 l23 c23 k23 IP G6 rfl GW;have E24:=j3 (k:=172) X Gh a24 l24 c24 k24 IN Gz rfl GV;have hF:∀x f,F.lookup x=some f->∃a fd ps,wz K mg P F G B x f a fd ps:=bA ⟨_,_,_,E0⟩ (bA ⟨_,_,_,E1⟩ (bA ⟨_,_,_,E2⟩ (bA ⟨_,_,_,E3⟩ (bA ⟨_,_,_,E4⟩ (bA ⟨_,_,_,E5⟩ (bA ⟨_,_,_,E6⟩ (bA ⟨_,_,_,E7⟩ (bA ⟨_,_,_,E8⟩ (bA ⟨_,_,_,E9⟩ (bA ⟨_,_,_,E10⟩ (bA ⟨_,_,_,E11⟩ (bA ⟨_,_,_,E12⟩ (bA ⟨_,_,_,E13⟩ (bA ⟨_,_,_,E14⟩ (bA ⟨_,_,_,E15⟩ (bA ⟨_,_,_,E16⟩ (bA ⟨_,_,_,E17⟩ (bA ⟨_,_,_,E18⟩ (bA ⟨_,_,_,E19⟩ (bA ⟨_,_,_,E20⟩ (bA ⟨_,_,_,E21⟩ (bA ⟨_,_,_,E22⟩ (bA ⟨_,_,_,E23⟩ (bA ⟨_,_,_,E24⟩ (fnil)))))))))))))))))))))))));exact⟨W.fnOf "law" "law" (aK lJ) (aF lJ) (aA lJ) .none t24 u24 w24 x24 y24 m24,fun s v=>.of_eq rfl,fun base _ _=>Eo (FN hG hB hF 40 "law" 172 fa _ _ E24) yj⟩
theorem walk{l:W.OpenLaw}{q:Program}{loose:List Str}{XP:(Str->Option Value)->Heap->Prop}{YP:World->Heap->Prop}{d:DefRec}{K:Params->W.Frag}(hn:l.most=some 63)(hdf:d.params.defaults=[])
  (hY:∀(w:World)(h:Heap),YP w h->(K w.params).In h)
  (F:∀(w:World)(mg:Str->Option Value)(fa:Addr)(h:Heap),(K w.params).In h->h.Ns mainGlobals mg->mg d.name=some (.ref fa) ->
   ∃fd:FuncData,(∀(s:Shared)(u:Value),BindsTo s fd ⟨[u],[]⟩ [("_law_script",u)])/\∀base:Heap,(K w.params).In base->base.Ns mainGlobals mg->cY l.prog w (K w.params) mg base oE 40 fa fd ["_law_script"] (uH (K w.params))) :
  W.WalkO q loose XP YP l.row.toRowW d [] (fun f vs=>PySem.call f vs) :=
 L2.Ad (n:=63) (k:=40) (x:="_law_script") (CX:=fun _=>oE) (sp:=fun w=>uH (K w.params)) hn (by decide) hdf ⟨rfl,by decide,by decide⟩ hY F (fun _ _ a ns hl _ hS=>⟨a,ns,rfl,hS,hl,fun _=>rfl⟩) fun _ _ _ _ _ z=>z
end Law
open PySem PySem.W PyProof.Rows
noncomputable def LH.vw:Program:={ PySem.Challenge.pw_unstruck_k51_there_and_back with main:={ PySem.Challenge.pw_unstruck_k51_there_and_back.main with body:=((PySem.Challenge.pw_unstruck_k51_there_and_back.main.body.drop 1).take 5)++((PySem.Challenge.pw_unstruck_k51_there_and_back.main.body.drop 7).take 2)++((PySem.Challenge.pw_unstruck_k51_there_and_back.main.body.drop 10).take 2)++((PySem.Challenge.pw_unstruck_k51_there_and_back.main.body.drop 13).take 7)++((PySem.Challenge.pw_unstruck_k51_there_and_back.main.body.drop 21).take 12) } }
theorem LH.two {A B C:Type} {o:Option A} {f:A→B} {g:A→C} {a:B} {b:C} (h:o.map f=some a) (k:o.map g=some b):o.map (fun s=>(f s, g s))=some (a, b):=by
  cases o with
  | none => cases h
  | some x => cases h; cases k; rfl
noncomputable abbrev LH.xt (s:Shared):Bool:=xlAt LH.vw [] s&&recOk [] s
theorem LH.h1 (w:World):(openEnds treeTable PySem.Challenge.pw_unstruck_k51_there_and_back w 9999).map (fun s=>openSeen LH.vw [] (importedModules PySem.Challenge.pw_unstruck_k51_there_and_back.main.body) LH.xt true s)=some (openGood LH.vw []):=by kernel_rfl
local macro_rules|`(tactic|o_head $H)=>do
  let hw:=Lean.mkIdent `hw
  let hc:=Lean.mkIdent `hc
  `(tactic|(refine holds_open (q:=LH.vw) (loose:=[]) (Xt:=LH.xt) (XP:=XL LH.vw []) (Yf:=Hook.obs $H) (Ya:=Hook.val $H) (YP:=Hook.says $H) (N:=9999) (fun w=>LH.two (LH.h1 w) (by kernel_rfl)) (Hook.of $H) (Hook.keeps $H) (fun s e=>xl_of s (Bool.and_eq_true_iff.mp e).1) XL.keeps rfl rfl rfl (fun s e=>recFacts_of (Bool.and_eq_true_iff.mp e).2) rfl (by first|assumption|decide +kernel) (by decide +kernel) ⟨rfl, rfl, rfl, rfl, rfl, by decide +kernel⟩ ?$hw ?$hc))
set_option maxRecDepth 100000 in
set_option maxHeartbeats 0 in
theorem PySem.Challenge.cw_unstruck_k51_there_and_back_holds : PySem.Challenge.rw_unstruck_k51_there_and_back.Holds := by
 w_on;o_law;k_head;(case hw=>w_witness2)
 k_fill
 refine Law.walk (l:=PySem.Challenge.rw_unstruck_k51_there_and_back) rfl rfl (fun w h Y=>PySem.W.kIn_of Y) ?F
 case F =>
  intro w mg fa h KX G hmg;refine' Law.F4 KX G hmg ?a0 ?l0 ?c0 ?k0 ?a1 ?l1 ?c1 ?k1 ?a2 ?l2 ?c2 ?k2 ?a3 ?l3 ?c3 ?k3 ?a4 ?l4 ?c4 ?k4 ?a5 ?l5 ?c5 ?k5 ?a6 ?l6 ?c6 ?k6 ?a7 ?l7 ?c7 ?k7 ?a8 ?l8 ?c8 ?k8 ?a9 ?l9 ?c9 ?k9 ?a10 ?l10 ?c10 ?k10 ?a11 ?l11 ?c11 ?k11 ?a12 ?l12 ?c12 ?k12 ?a13 ?l13 ?c13 ?k13 ?a14 ?l14 ?c14 ?k14 ?a15 ?l15 ?c15 ?k15 ?a16 ?l16 ?c16 ?k16 ?a17 ?l17 ?c17 ?k17 ?a18 ?l18 ?c18 ?k18 ?a19 ?l19 ?c19 ?k19 ?a20 ?l20 ?c20 ?k20 ?a21 ?l21 ?c21 ?k21 ?a22 ?l22 ?c22 ?k22 ?a23 ?l23 ?c23 ?k23 ?a24 ?l24 ?c24 ?k24 ?z0 ?z1 ?z2 ?z3 ?z4 ?z5 ?z6 ?z7 ?z8 ?z9 ?z10 ?z11 ?z12 ?z13 ?z14 ?z15 ?z16 ?z17 ?v0
  (case a0|l0|c0|k0|a1|l1|c1|k1|a2|l2|c2|k2=>k_is)
  (case a3|l3|c3|k3|a4|l4|c4|k4|a5|l5|c5|k5=>k_is)
  (case a6|l6|c6|k6|a7|l7|c7|k7|a8|l8|c8|k8=>k_is)
  (case a9|l9|c9|k9|a10|l10|c10|k10|a11|l11|c11|k11=>k_is)
  (case a12|l12|c12|k12|a13|l13|c13|k13|a14|l14|c14|k14=>k_is)
  (case a15|l15|c15|k15|a16|l16|c16|k16|a17|l17|c17|k17=>k_is)
  (case a18|l18|c18|k18|a19|l19|c19|k19|a20|l20|c20|k20=>k_is)
  (case a21|l21|c21|k21|a22|l22|c22|k22|a23|l23|c23|k23=>k_is)
  (case a24|l24|c24|k24|z0|z1|z2|z3|z4|z5|z6|z7=>k_is)
  (case z8|z9|z10|z11|z12|z13|z14|z15|z16|z17|v0=>k_is)
#print axioms PySem.Challenge.cw_unstruck_k51_there_and_back_holds
