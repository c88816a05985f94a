import PyProof.Rows.All
import Wide.All
import OpenK.AllK
import Wide.FinOn
import Lean
import PyProof.EqAt
import PyProof.EqKinds
import PyProof.TupleCall
import PyProof.StrLawsTight
import PyProof.StrLawsChain
import PyProof.StrLawsOcc
import PyProof.Cells
import OpenK.KLine
import PyProof.SumAny
import PyProof.Rows.SortShell
import PyProof.DictItems
import PyProof.DictWalks
import KE.KRevIter
import PyProof.JoinWalk
import PyProof.CollectIter
import PyProof.StrLawsIn
import PyProof.Rows.SetFrom
import PyProof.CollectWalk
import PyProof.Rows.SortWalk
import KE.KSortTup
import KE.KxPercent
import PyProof.TupleOfGen
import KE.KDictList
import PyProof.P3In
import PyProof.NeData
import PyProof.FactsAll.tuple_2
import KE.KTryMore
import PyProof.ExcArgsOwn
import PyProof.ExcAttrAll.ValueError
import PyProof.ExcBaseAll.ValueError
import PySem.Challenge.RW_unstruck_k42_bare_part
set_option genSizeOf false
set_option genSizeOfSpec false
local macro_rules | `(tactic| omega) => `(tactic| first | lia | omega (config := {}))
set_option Elab.async false
set_option linter.all false
set_option maxRecDepth 100000
def HX:=@List.length_map
def HY:=@PySem.wpAny_bind
def HZ:=@List.mem_cons_of_mem
def Ha:=@PySem.Heap.get?_push_of_some
def Hb:=@Bool.and_eq_true
def Hc:=@List.getD_eq_getElem?_getD
def Hd:=@List.getElem?_eq_getElem
def He:=@List.mem_cons_self
def Hf:=@List.map_cons
def Hg:=@Nat.le_refl
def Hh:=@List.getElem?_eq_some_iff
def Hk:=@Bool.false_ne_true
def Hl:=@if_neg
def Hm:=@List.mem_cons
def Hn:=@List.mem_map
def Ho:=@List.getElem?_map
def Hq:=@PySem.wpAny_pure
def Hr:=@if_pos
def Hs:=@PySem.Heap.lt_size
def Hu:=@List.size_toArray
def Hv:=@PySem.Heap.get?_push_size
def Hw:=@Option.bind_some
def Hx:=@List.all_eq_true
def Hy:=@Nat.ne_of_lt
def Hz:=@List.mem_of_getElem?
def IA:=@List.length_append
def IB:=@Option.some.inj
def ID:=@List.mem_append
def IF:=@LawfulBEq.eq_of_beq
def IG:=@List.mem_append_left
def II:=@List.getElem?_set_ne
def IJ:=@List.map_append
def IK:=@List.contains_iff_mem
def IL:=@List.length_cons
def IM:=@List.mem_append_right
def IN:=@Nat.zero_le
def IP:=@Option.map_some
def IQ:=@List.nodup_cons
def IU:=@List.length_range
def IV:=@List.getElem?_eq_none
def IW:=@decide_eq_true
def IY:=@PySem.mem_of_lookup
def IZ:=@List.mem_singleton
def Ia:=@List.map_map
def Ib:=@of_decide_eq_true
def Ic:=@Nat.lt_of_lt_of_le
def Ie:=@List.not_mem_nil
def Ig:=@Array.length_toList
def Ih:=@List.mem_filter
def Ii:=@List.mem_range
def Ij:=@decide_eq_false
def Ik:=@Nat.le_trans
def Il:=@List.lookup_cons
def Im:=@PySem.sizeLine_eq
def Io:=@List.find?_cons
def Ip:=@List.map_nil
def Iq:=@List.length_set
def Ir:=@PyProof.Rows.callWith_type1
def Iu:=@PySem.Heap.get?_update_other
def Iv:=@PySem.wpAny_holding
def Iw:=@Nat.lt_succ_of_lt
def Ix:=@congrArg
def Iy:=@List.getElem?_range
def Iz:=@Array.getD_eq_getD_getElem?
def JA:=@List.getElem?_set_self
def JB:=@List.getElem?_append_left
def JC:=@List.length_filter_le
def JD:=@PySem.Heap.get?_update_self
def JE:=@List.getElem?_cons_succ
def JF:=@PySem.wpAny_call_entry
def JG:=@List.nodup_append
def JH:=@List.map_congr_left
def JI:=@List.drop_eq_getElem_cons
def JJ:=@Classical.byContradiction
def JK:=@PySem.wpAny_mono
def JL:=@Array.getElem?_toList
def JM:=@List.take_length
def JN:=@List.getElem_mem
def JO:=@decide_eq_true_eq
def JP:=@List.take_add_one
def JQ:=@Bool.eq_false_iff
def JR:=@List.append_nil
def JS:=@Bool.or_eq_true
def JT:=@PySem.Heap.size_push
def JU:=@Nat.ne_of_gt
def JV:=@PySem.wpAny_truthy_bool
def JW:=@PySem.PassesOwn.never
def JX:=@List.length_take
def JY:=@or_false
def JZ:=@List.lookup_append
def Ja:=@Ne.symm
def Jb:=@List.length_replicate
def Jc:=@Bool.eq_iff_iff
def Jd:=@Nat.le_of_lt
def Je:=@List.getElem?_set
def Jf:=@List.ext_getElem?
def Jg:=@Nat.lt_irrefl
def Jh:=@List.sum_cons
def Ji:=@PySem.wpAny_loadPart'
def Jj:=@List.filter_sublist
def Jk:=@PySem.wpAny_newObj_type
def Jl:=@List.any_eq_true
def Jm:=@decide_false
def Jn:=@beq_iff_eq
def Jo:=@Nat.lt_trans
def Jp:=@PySem.W.kia_one
def Jq:=@List.length_singleton
def Jr:=@List.getElem?_zipWith
def Js:=@List.pairwise_map
def Jt:=@PySem.Obj.data_mapFields
def Ju:=@PySem.wpAny_passesOwn
def Jv:=@List.mem_iff_getElem
def Jw:=@List.getElem?_append_right
def Jx:=@List.perm_middle
def Jy:=@PyProof.Rows.F.plain_set_update_loop
def Jz:=@List.length_zipWith
def J0:=@PySem.Around.under_plainId
def J1:=@List.any_cons
def J2:=@PySem.wpAny_askSetting
def J3:=@List.contains_cons
def J4:=@Bool.false_eq_true
def J5:=@PySem.F.plainAttrs_list
def J6:=@PySem.F.plainAttrs_dict
def J7:=@PySem.Heap.SameBut.update
def J8:=@Nat.lt_or_ge
def J9:=@Int.toNat_natCast
def KA:=@PySem.codeAny_builtin
def KB:=@PyProof.Rows.mirror_perm
def KC:=@PySem.wpAny_callSpecial?_slot
def KD:=@List.take_append_drop
def KF:=@Bool.beq_eq_decide_eq
def KG:=@List.filter_cons
def KH:=@List.all_cons
def KI:=@PySem.wpAny_setState_of
def KJ:=@PySem.wpAny_pyIter_list
def KL:=@PySem.Calls.callWith_builtin
def KM:=@Nat.le_succ
def KN:=@List.eq_nil_of_length_eq_zero
def KO:=@Int.le_refl
def KP:=@Array.Perm.refl
def KQ:=@beq_eq_false_iff_ne
def KR:=@if_true
def KS:=@Nat.zero_add
def KU:=@Nat.min_self
def KW:=@not_or
def KY:=@PySem.boot_len
def KZ:=@Nat.lt_of_le_of_lt
def Ka:=@Int.emod_lt_of_pos
def Kb:=@Bool.false_and
def Kc:=@List.mem_or_eq_of_mem_set
def Kd:=@PySem.F.slot_dict_values
def Ke:=@List.Perm.eq_of_pairwise
def Kf:=@PySem.wpAny_setField
def Kg:=@PySem.wpAny_pyIter_tuple
def Kh:=@PySem.tupleKind_room_in1
def Ki:=@PySem.wpAny_pyIter_enum
namespace L2
open PySem PySem.Spec PyProof.Rows
noncomputable abbrev ag:=Sum Int Str
noncomputable def lF:ag->Value->Bool
 | .inl k,v=>Value.isInt k v
 | .inr x,v=>Value.isStrOf x v
noncomputable def keyH(w:World):ag->Int
 | .inl k=>hashInt k
 | .inr x=>hashStr w x
theorem au:∀{k:ag}{v:Value},lF k v=true->(∃i t,k=Sum.inl i/\v=Value.int i t)\/(∃x t,k=Sum.inr x/\v=Value.str x t)
 | .inl i,v,h=>by
  obtain⟨t,e⟩:=Value.isInt_shape (k:=i) (v:=v) h;exact .inl ⟨i,t,rfl,e⟩
 | .inr x,v,h=>by
  obtain⟨t,e⟩:=Value.isStrOf_shape (x:=x) (v:=v) h;exact .inr ⟨x,t,rfl,e⟩
theorem ug(i:Int)(t:Tok):lF (.inl i) (.int i t)=true:=by simp[lF,Value.isInt]
theorem uf(x:Str)(t:Tok):lF (.inr x) (.str x t)=true:=by simp[lF,Value.isStrOf]
theorem DO(a b:Int):decide ((Sum.inl a:ag)=Sum.inl b)=(a==b):=by
 by_cases e:a=b
 ·subst e;simp
 ·have h:¬(Sum.inl a:ag)=Sum.inl b:=fun q=>e (Sum.inl.inj q)
  rw[Ij h];exact(KQ.mpr e).symm
theorem DL(a b:Str):decide ((Sum.inr a:ag)=Sum.inr b)=decide (a=b):=by
 by_cases e:a=b
 ·subst e;simp
 ·have h:¬(Sum.inr a:ag)=Sum.inr b:=fun q=>e (Sum.inr.inj q)
  rw[Ij h,Ij e]
theorem DN(a:Int)(b:Str):decide ((Sum.inl a:ag)=Sum.inr b)=false:=Ij (fun q=>nomatch q)
theorem DM(a:Str)(b:Int):decide ((Sum.inr a:ag)=Sum.inl b)=false:=Ij (fun q=>nomatch q)
noncomputable def ac(prog:Program)(w:World):PySem.KeyKind prog w ag where
 is:=lF
 hash:=keyH w
 inj:=fun v a b ha hb=>by
  rcases au ha with⟨i,t,rfl,rfl⟩|⟨x,t,rfl,rfl⟩
  ·rcases au hb with⟨j,u,rfl,e⟩|⟨y,u,rfl,e⟩
   ·injection e with e1 _;rw[e1]
   ·exact nomatch e
  ·rcases au hb with⟨j,u,rfl,e⟩|⟨y,u,rfl,e⟩
   ·exact nomatch e
   ·injection e with e1 _;rw[e1]
 byValue:=fun k v h=>by
  rcases au h with⟨i,t,rfl,rfl⟩|⟨x,t,rfl,rfl⟩<;>rfl
 pyHash:=fun hv h=>by
  rcases au hv with⟨i,t,rfl,rfl⟩|⟨x,t,rfl,rfl⟩
  ·exact wpAny_pyHash_int h
  ·exact wpAny_pyHash_str h
 eqBool:=fun hu hv h=>by
  rcases au hu with⟨i,t,rfl,rfl⟩|⟨x,t,rfl,rfl⟩
  ·rcases au hv with⟨j,u,rfl,rfl⟩|⟨y,u,rfl,rfl⟩
   ·rw[DO]at h;exact wpAny_eqBool_int h
   ·rw[DN]at h;exact SeqAt.EqAt.int_str i t y u _ _ _ _ h
  ·rcases au hv with⟨j,u,rfl,rfl⟩|⟨y,u,rfl,rfl⟩
   ·rw[DM]at h;exact SeqAt.EqAt.str_int x t j u _ _ _ _ h
   ·rw[DL]at h;exact wpAny_eqBool_str h
 «strs»:=fun k x t v h=>by
  rcases au h with⟨i,u,rfl,e⟩|⟨y,u,rfl,e⟩
  ·exact nomatch e
  ·injection e with e1 _
   subst e1;cases v<;>rfl
theorem oi(prog:Program)(w:World)(i:Int)(t:Tok):(ac prog w).is (.inl i) (.int i t)=true:=ug i t
theorem oh(prog:Program)(w:World)(x:Str)(t:Tok):(ac prog w).is (.inr x) (.str x t)=true:=uf x t
inductive V where
 | non|bl (b:Bool)|int (i:Int)|str (x:Str)|byt (b:Array UInt8)|flt (b:UInt64)|ref (a:Addr)|ty (n:String)
 deriving DecidableEq
noncomputable def RelV:V->Value->Prop
 | .non,u=>u=Value.none
 | .bl b,u=>u=Value.bool b
 | .int i,u=>∃t,u=Value.int i t
 | .str x,u=>∃t,u=Value.str x t
 | .byt b,u=>∃t,u=Value.bytes b t
 | .flt b,u=>∃t,u=Value.float b t
 | .ref a,u=>u=Value.ref a
 | .ty n,u=>u=Value.type n
noncomputable abbrev aT:List V->List Value->Prop:=Paired RelV
theorem aT.length{xs:List V}{us:List Value}(r:aT xs us):xs.length=us.length:=Paired.length r
theorem aT.get:∀{xs:List V}{us:List Value}{i:Nat}{x:V},aT xs us->xs[i]? =some x->∃u,us[i]? =some u/\RelV x u
 | _,_,_,_,.nil,e=>by simp at e
 | _,_,0,_,.cons r _,e=>by simp at e;subst e;exact⟨_,rfl,r⟩
 | _,_,i+1,x,.cons _ t,e=>by
  obtain⟨u,h1,h2⟩:=aT.get (i:=i) (x:=x) t (by simpa using e);exact⟨u,by simpa using h1,h2⟩
theorem aT.set{x:V}{u:Value}(r:RelV x u):∀{xs:List V}{us:List Value}(i:Nat),aT xs us->aT (xs.set i x) (us.set i u)
 | _,_,_,.nil=>.nil
 | _,_,0,.cons _ t=>.cons r t
 | _,_,i+1,.cons q t=>.cons q (aT.set r i t)
theorem aT.append{xs ys:List V}{us ws:List Value}(h:aT xs us)(k:aT ys ws):aT (xs++ys) (us++ws):=by
 induction h with
 | nil=>exact k
 | cons r t ih=>exact .cons r ih
theorem aT.take:∀{xs:List V}{us:List Value}(n:Nat),aT xs us->aT (xs.take n) (us.take n)
 | _,_,0,_=>.nil
 | _,_,_+1,.nil=>.nil
 | _,_,n+1,.cons r t=>.cons r (aT.take n t)
theorem aT.drop:∀{xs:List V}{us:List Value}(n:Nat),aT xs us->aT (xs.drop n) (us.drop n)
 | _,_,0,r=>r
 | _,_,_+1,.nil=>.nil
 | _,_,n+1,.cons _ t=>aT.drop n t
noncomputable def ig:Option V->Option Value->Prop
 | some v,some u=>RelV v u
 | none,none=>True
 | _,_=>False
noncomputable def KV{κ:Type}:List (κ×V)->List (κ×Value)->Prop:=Paired fun(p:κ×V)(q:κ×Value)=>p.1=q.1/\RelV p.2 q.2
noncomputable def kV:ag->V
 | .inl i=>.int i
 | .inr x=>.str x
inductive HO where
 | lst (xs:List V)
 | tup (xs:List V)
 | dK (kvs:List (ag×V))|dT (kvs:List (List ag×V))
 | set (S:Int->Bool) (n:Nat)
 | ins (C dx:Addr) (fs:List (Str×V))
 | own (x:Addr)
 | xd (fs:List (Str×V))
 | met (f x:Addr)
 | rng (lo hi:Int)
 | frz (o:Obj) (u:HO)
 | tbl (ps:Array Value)
 | ext (φ:Heap->Prop)
noncomputable abbrev Hp:=Addr->Option HO
noncomputable def upd(H:Hp)(a:Addr)(o:HO):Hp:=fun b=>if b=a then some o else H b
theorem aD{H:Hp}{a:Addr}{o:HO}:upd H a o a=some o:=by unfold upd;rw[Hr rfl]
theorem aB{H:Hp}{a b:Addr}{o:HO}(h:b≠a):upd H a o b=H b:=by unfold upd;rw[Hl h]
theorem zD{H:Hp}{a:Addr}{o u:HO}:upd (upd H a o) a u=upd H a u:=by
 funext b;unfold upd;split<;>rfl
theorem GG{H:Hp}{a b:Addr}{o u:HO}(h:H a=some o)(h' :H b=some u)(d:o≠u):a≠b:=by
 intro e;subst e;rw[h]at h';exact d (IB h')
theorem aK{H:Hp}{a b:Addr}{o:HO}(h:H a=some o)(h' :H b=none):a≠b:=by
 intro e;subst e;rw[h]at h';cases h'
noncomputable def ii(h:Heap)(a:Addr)(its:Array Value):Prop:=∃o,h.get? a=some o/\o.cls=.type "tuple"/\∃n,o.data=.seq its n/\o.dict=none
theorem ii.tup{h:Heap}{a:Addr}{its:Array Value}(x:ii h a its):IsTup h a its:=let⟨o,e,c,n,d,_⟩:=x;⟨o,e,c,n,d⟩
theorem ii.new(h:Heap)(its:Array Value):ii (h.push {cls:=.type "tuple",data:=.seq its}) h.objs.size its:=⟨_,Hv _ rfl,rfl,_,rfl,rfl⟩
section
variable(P:Program)(w:World)
noncomputable def am(H:Hp)(h:Heap)(a:Addr):HO->Prop
 | .lst xs=>xs.length<=sizeLine/\∃(its:List Value)(n:Nat),aT xs its/\h.get? a=some {cls:=.type "list",data:=.seq its.toArray n}
 | .tup xs=>xs.length<=sizeLine/\∃its:List Value,aT xs its/\ii h a its.toArray
 | .dK kvs=>kvs.length<=sizeLine/\(a==sysModules)=false/\∃vs,KV kvs vs/\h.DictOf (ac P w) a vs
 | .dT kvs=>kvs.length<=sizeLine/\(a==sysModules)=false/\∃xs:List (List ag×Addr×Value),
   Paired (fun(p:List ag×V) (q:List ag×Addr×Value)=>p.1=q.1/\H q.2.1=some (.tup (p.1.map kV))/\RelV p.2 q.2.2) kvs xs /\
   ∃o es ep,h.get? a=some o/\o.ExactDict/\o.data=.dict es ep/\es.toList=xs.map (entryOfKey (tupleKind (ac P w)))/\(xs.map (·.1)).Nodup
 | .set S n=>h.SetOf (intKind P w) a S n
 | .ins C dx fs=>H dx=some (.own a)/\fs.length<=1000/\dx≠a/\h.get? a=some (W.instObj C dx) /\
   ∃mA,h.Ns1 dx mA/\(∀f,ig (fs.lookup f) (mA f))/\PySem.Within mA (fs.map (·.1))
 | .own _=>∃o,h.get? a=some o
 | .xd fs=>∃mA,h.Ns1 a mA/\∀f,ig (fs.lookup f) (mA f)
 | .rng lo hi=>∃t u v,h.get? a=some {cls:=.type "range",data:=.fields #[.int lo t,.int hi u,.int 1 v]}
 | .frz o u=>h.get? a=some o/\am H h a u
 | .tbl ps=>h.get? a=some {cls:=.none,data:=.fields ps}
 | .met f x=>h.get? a=some (W.methodObj (.ref f) (.ref x))
 | .ext φ=>φ h/\(∃o,h.get? a=some o)/\∀h1 h2:Heap,φ h1->(∀o,h1.get? a=some o->h2.get? a=some o)->φ h2
noncomputable def eU(H:Hp)(h:Heap):Prop:=∀a o,H a=some o->am P w H h a o
end
section
variable{P:Program}{w:World}{H H' :Hp}{h h' :Heap}{a:Addr}{o:HO}
theorem am.lt(x:am P w H h a o):a<h.objs.size:=by
 cases o with
 | lst xs=>obtain⟨_,_,_,_,e⟩:=x;exact Hs e
 | tup xs=>obtain⟨_,_,_,p⟩:=x;exact p.tup.lt
 | dK kvs=>obtain⟨_,_,_,_,o,_,_,e,_⟩:=x;exact Hs e
 | dT kvs=>obtain⟨_,_,_,_,o,_,_,e,_⟩:=x;exact Hs e
 | set S n=>obtain⟨o,_,_,_,e,_⟩:=x;exact Hs e
 | ins C dx fs=>obtain⟨_,_,_,e,_⟩:=x;exact Hs e
 | own y=>obtain⟨_,e⟩:=x;exact Hs e
 | xd fs=>obtain⟨_,⟨_,_,_,e,_⟩,_⟩:=x;exact Hs e
 | rng lo hi=>obtain⟨_,_,_,e⟩:=x;exact Hs e
 | frz ob u=>obtain⟨e,_⟩:=x;exact Hs e
 | tbl ps=>exact Hs (show h.get? a=some _ from x)
 | met f y=>exact Hs (show h.get? a=some _ from x)
 | ext φ=>obtain⟨_,⟨_,e⟩,_⟩:=x;exact Hs e
theorem Paired.mapP{α β:Type}{F G:α->β->Prop}{l₁:List α}{l₂:List β}(h:Paired F l₁ l₂)(f:∀a b,F a b->G a b):Paired G l₁ l₂:=by
 induction h with
 | nil=>exact .nil
 | cons r t ih=>exact .cons (f _ _ r) ih
theorem am.stay(x:am P w H h a o)(k:∀b u,(b=a\/H b=some (.own a))->h.get? b=some u->h'.get? b=some u)
  (ho:∀b,H b=some (.own a)->H' b=some (.own a)) (ht:∀b xs,H b=some (.tup xs)->H' b=some (.tup xs)):am P w H' h' a o:=by
 induction o with
 | lst xs=>obtain⟨z,its,n,r,e⟩:=x;exact⟨z,its,n,r,k _ _ (.inl rfl) e⟩
 | tup xs=>obtain⟨z,its,r,ob,e,c⟩:=x;exact⟨z,its,r,ob,k _ _ (.inl rfl) e,c⟩
 | dK kvs=>obtain⟨z,y,vs,r,ob,es,ep,e,c⟩:=x;exact⟨z,y,vs,r,ob,es,ep,k _ _ (.inl rfl) e,c⟩
 | dT kvs =>
  obtain⟨z,y,xs,r,ob,es,ep,e,c⟩:=x;exact⟨z,y,xs,Paired.mapP r fun p q z=>⟨z.1,ht _ _ z.2.1,z.2.2⟩,ob,es,ep,k _ _ (.inl rfl) e,c⟩
 | set S n=>obtain⟨ob,es,ep,t,e,c⟩:=x;exact⟨ob,es,ep,t,k _ _ (.inl rfl) e,c⟩
 | ins C dx fs =>
  obtain⟨d,z,ne,e,mA,⟨od,es,ep,e2,c⟩,r⟩:=x;exact⟨ho _ d,z,ne,k _ _ (.inl rfl) e,mA,⟨od,es,ep,k _ _ (.inr d) e2,c⟩,r⟩
 | own y=>obtain⟨ob,e⟩:=x;exact⟨ob,k _ _ (.inl rfl) e⟩
 | xd fs=>obtain⟨mA,⟨od,es,ep,e,c⟩,r⟩:=x;exact⟨mA,⟨od,es,ep,k _ _ (.inl rfl) e,c⟩,r⟩
 | rng lo hi=>obtain⟨t,u,v,e⟩:=x;exact⟨t,u,v,k _ _ (.inl rfl) e⟩
 | frz ob u ih=>obtain⟨e,q⟩:=x;exact⟨k _ _ (.inl rfl) e,ih q⟩
 | tbl ps =>
  have e:h.get? a=some {cls:=.none,data:=.fields ps}:=x;show h'.get? a=some {cls:=.none,data:=.fields ps};exact k a _ (.inl rfl) e
 | met f y =>
  have e:h.get? a=some (W.methodObj (.ref f) (.ref y)):=x;show h'.get? a=some (W.methodObj (.ref f) (.ref y));exact k a _ (.inl rfl) e
 | ext φ=>obtain⟨p,⟨o,e⟩,st⟩:=x;exact⟨st _ _ p fun o q=>k _ _ (.inl rfl) q,⟨o,k _ _ (.inl rfl) e⟩,st⟩
theorem eU.lt(x:eU P w H h)(e:H a=some o):a<h.objs.size:=(x a o e).lt
theorem eU.fresh(x:eU P w H h)(e:h.objs.size<=a):H a=none:=by
 cases q:H a with
 | none=>rfl
 | some u=>exact absurd (Ic (x.lt q) e) (Jg _)
theorem eU.kept(x:eU P w H h)(k:∀b u,h.get? b=some u->h'.get? b=some u):eU P w H h' :=fun a o e =>
 (x a o e).stay (fun b u _ q=>k b u q) (fun _ q=>q) fun _ _ q=>q
theorem eU.laid(x:eU P w H h)(k:∀b u,h.get? b=some u->h'.get? b=some u)(hp:h.objs.size<=a)(new:am P w (upd H a o) h' a o):eU P w (upd H a o) h' :=fun b u e=>by
 have hn:=x.fresh hp
 by_cases hb:b=a
 ·subst hb;rw[aD]at e;cases e;exact new
 ·rw[aB hb]at e
  exact(x b u e).stay (fun c v _ q=>k c v q) (fun c q=>by rw[aB (aK q hn)];exact q) fun c xs q=>by rw[aB (aK q hn)];exact q
end
noncomputable def Rd(H:Hp)(a:Addr)(u:HO):Prop:=H a=some u\/∃o,H a=some (.frz o u)
theorem Rd.ok{P:Program}{w:World}{H:Hp}{h:Heap}{a:Addr}{u:HO}(r:Rd H a u)(x:eU P w H h):am P w H h a u:=by
 rcases r with r|⟨o,r⟩
 ·exact x a u r
 ·obtain⟨_,q⟩:=x a _ r
  exact q
noncomputable def HN:Option HO->Prop
 | some (.lst _)=>True
 | some (.dK _)=>True
 | some (.dT _)=>True
 | some (.set _ _)=>True
 | some (.ins _ _ _)=>True
 | some (.ext _)=>True
 | _=>False
section
variable{P:Program}{w:World}{H:Hp}{h h' :Heap}{x e:Addr}{o' :HO}
theorem eU.write(ok:eU P w H h)(mu:HN (H x))(he:e=x\/H e=some (.own x))(k:∀b u,b≠e->h.get? b=some u->h'.get? b=some u)(heo:∃u,h'.get? e=some u)
  (new:am P w (upd H x o') h' x o'):eU P w (upd H x o') h' :=fun b u q=>by
 have nown:∀c y,H c=some (.own y)->c≠x:=fun c y r z=>by subst z;rw[r]at mu;exact mu
 have ntup:∀c xs,H c=some (.tup xs)->c≠x:=fun c xs r z=>by subst z;rw[r]at mu;exact mu
 by_cases hb:b=x
 ·subst hb;rw[aD]at q;cases q;exact new
 ·rw[aB hb]at q
  by_cases hbe:b=e
  ·have q' :H b=some (.own x):=by
    rcases he with z|z
    ·exact absurd (hbe.trans z) hb
    ·rw[hbe];exact z
   rw[q]at q';cases q';obtain⟨v,hv⟩:=heo;exact⟨v,by rw[hbe];exact hv⟩
  ·refine(ok b u q).stay (fun c v hc r=>k c v ?_ r) (fun c r=>by rw[aB (nown c b r)];exact r) fun c xs r=>by rw[aB (ntup c xs r)];exact r
   rcases hc with rfl|hc
   ·exact hbe
   ·rintro rfl
    rcases he with z|z
    ·exact nown c b hc z
    ·rw[hc]at z;cases z;exact hb rfl
end
structure Un(fs ex:List Addr)(H H' :Hp)(h h' :Heap):Prop where
 keep:∀b o,h.get? b=some o->H b=none->b∉fs->b∉ex->h'.get? b=some o
 slot:∀b o,h.get? b=some o->H b=none->b∈fs->b∉ex->∃sl,h'.get? b=some {o with slots:=sl}
 free:∀b o,h.get? b=some o->H b=none->b∉ex->H' b=none
 there:∀b o,h.get? b=some o->b∉ex->∃o',h'.get? b=some o'
 tups:∀b xs,H b=some (.tup xs)->H' b=some (.tup xs)
 frzs:∀b o u,H b=some (.frz o u)->H' b=some (.frz o u)
 tbls:∀b ps,H b=some (.tbl ps)->∃more,H' b=some (.tbl (ps++more))
section
variable{fs fs' ex ex' :List Addr}{H H1 H2:Hp}{h h1 h2 h' :Heap}{a x e:Addr}{o:HO}
theorem Un.any(u:Un fs ex H H1 h h1){b:Addr}{ob:Obj}(q:h.get? b=some ob)(n:H b=none)(hx:b∉ex):∃sl,h1.get? b=some {ob with slots:=sl}:=by
 by_cases hb:b∈fs
 ·exact u.slot b ob q n hb hx
 ·exact⟨ob.slots,u.keep b ob q n hb hx⟩
theorem Un.kept(k:∀b u,h.get? b=some u->h'.get? b=some u):Un fs ex H H h h' :=
 ⟨fun b ob q _ _ _=>k b ob q,fun b ob q _ _ _=>⟨ob.slots,k b ob q⟩,fun _ _ _ n _=>n,fun b ob q _=>⟨ob,k b ob q⟩,fun _ _ q=>q,fun _ _ _ q=>q,fun _ ps q=>⟨#[],by rw[q];simp⟩⟩
theorem Un.refl:Un fs ex H H h h:=Un.kept fun _ _ q=>q
theorem Un.laid(k:∀b u,h.get? b=some u->h'.get? b=some u)(hp:h.objs.size<=a)(hn:H a=none):Un fs ex H (upd H a o) h h' where
 keep:=fun b u q _ _ _=>k b u q
 slot:=fun b u q _ _ _=>⟨u.slots,k b u q⟩
 free:=fun b u q n _=>by rw[aB (Hy (Ic (Hs q) hp))];exact n
 there:=fun b u q _=>⟨u,k b u q⟩
 tups:=fun b xs q=>by rw[aB (aK q hn)];exact q
 frzs:=fun b u xs q=>by rw[aB (aK q hn)];exact q
 tbls:=fun b ps q=>⟨#[],by rw[aB (aK q hn),q];simp⟩
theorem Un.write(mu:HN (H x))(he:e=x\/H e=some (.own x))(k:∀b u,b≠e->h.get? b=some u->h'.get? b=some u)(heo:∃u,h'.get? e=some u):Un fs ex H (upd H x o) h h' :=by
 have hx:∀b,H b=none->b≠x:=fun b n z=>by subst z;rw[n]at mu;exact mu
 have hb:∀b,H b=none->b≠e:=fun b n z=>by
  subst z
  rcases he with r|r
  ·exact hx b n r
  ·rw[n]at r;cases r
 have hm:∀b u,H b=some u->¬HN (some u)->b≠x:=fun b u q nm z=>by subst z;rw[q]at mu;exact nm mu
 refine⟨fun b u q n _ _=>k b u (hb b n) q,fun b u q n _ _=>⟨u.slots,k b u (hb b n) q⟩,fun b u q n _=>by rw[aB (hx b n)];exact n,fun b u q _=> ?_,
  fun b xs q=>by rw[aB (hm b _ q fun z=>z)];exact q,fun b u xs q=>by rw[aB (hm b _ q fun z=>z)];exact q,fun b ps q=>⟨#[],by rw[aB (hm b _ q fun z=>z),q];simp⟩⟩
 by_cases hbe:b=e
 ·subst hbe;exact heo
 ·exact⟨u,k b u hbe q⟩
end
noncomputable def trk(h:Heap)(H:Hp):List Addr:=(List.range h.objs.size).filter fun a=>(H a).isSome
noncomputable def mh(h:Heap)(H:Hp):Heap:=W.hideAll h (trk h H)
theorem uj(h:Heap)(H:Hp):(mh h H).objs.size=h.objs.size:=W.hideAll_size _ _
theorem xo{h:Heap}{H:Hp}{b:Addr}{o:Obj}(e:h.get? b=some o)(n:H b=none):(mh h H).get? b=some o :=
 W.hideAll_get _ e fun hm=>by
  have q:(H b).isSome=true:=(Ih.mp hm).2;rw[n]at q;simp at q
theorem AH{h:Heap}{H:Hp}{b:Addr}{o:Obj}(e:(mh h H).get? b=some o):h.get? b=some o/\H b=none:=by
 have e' :h.get? b=some o:=W.of_hideAll (trk h H) e;refine⟨e',?_⟩;cases q:H b with
 | none=>rfl
 | some x =>
  have hm:b∈trk h H:=Ih.mpr ⟨Ii.mpr (Hs e'),by simp[q]⟩;have z:(mh h H).get? b=none:=W.hideAll_none (trk h H) hm;rw[z]at e;cases e
noncomputable def BL(g h:Heap)(L:Addr):List (Addr×Obj):=(List.range h.objs.size).filterMap fun a=>if a=L\/(g.get? a).isSome=true then none else(h.get? a).map fun o=>(a,o)
noncomputable def aU(g h:Heap)(L d:Addr):List (Addr×Obj):=(BL g h L).filter fun p=>decide (p.1≠d)
structure Mod(K:W.Frag)(mg:Str->Option Value)(base:Heap):Prop where
 kin:K.In base
 glob:base.Ns mainGlobals mg
 blt:∃mb,base.Ns builtinsNs mb/\∀x:Str,x≠"__name__"->mb x=bootBuiltins x
 nolimit:base.NoLimit
structure Cx where
 prog:Program
 w:World
 K:W.Frag
 mg:Str->Option Value
 base:Heap
 A:Around
 N:List Str
 s₀:Shared
 H₀:Hp
 env:Env
 outer:List Env
 stack:List Env
 ex:List Addr
 fn:Str->Bool
 calm:Bool
 pn:List (Addr×Obj)
 xe:Value->Shared->Prop
noncomputable def qv(l:List Env):List Addr:=l.filterMap (·.frame)
noncomputable abbrev Cx.fs(X:Cx):List Addr:=qv X.outer
noncomputable def Et(sc:Scope)(x:Str):Prop:=sc.names.lookup x=some .local\/sc.names.lookup x=some .cell\/sc.names.lookup x=some .free
noncomputable def Loc(sc:Scope)(x:Str):Prop:=sc.names.lookup x=some .local\/sc.names.lookup x=some .cell
noncomputable def Look(env:Env)(h:Heap)(m:Str->Option Value)(x:Str)(u:Value):Prop :=
 (env.kindOf x=some .local/\m x=some u)\/((env.kindOf x=some .cell\/env.kindOf x=some .free)/\∃c,env.cells.lookup x=some c/\h.IsCell c (some u))
structure Cx.Ok(X:Cx):Prop where
 mod:Mod X.K X.mg X.base
 kind:X.env.scope.kind=.function
 glob:X.env.globals=mainGlobals
 blt:X.env.builtins=builtinsNs
 above:X.s₀.heap.objs.size<=X.env.locals
 inj:∀x y c,X.env.cells.lookup x=some c->X.env.cells.lookup y=some c->x=y
 has:∀x,(X.env.kindOf x=some .cell\/X.env.kindOf x=some .free)->∃c,X.env.cells.lookup x=some c
 cab:∀x c,X.fn x=true->X.env.cells.lookup x=some c->X.s₀.heap.objs.size<=c
 hd:X.calm=true->X.A.handled=none
 frames:X.A.frames=some X.stack
 stk:X.stack=X.outer\/(X.stack=X.env::X.outer/\X.env.frame=some X.env.locals)
 exf:∀b∈X.ex,b≠X.env.locals/\∀x c,X.env.cells.lookup x=some c->c≠b
 bs:∀b o,X.base.get? b=some o->X.s₀.heap.get? b=some o/\X.H₀ b=none
 bsz:X.base.objs.size<=X.s₀.heap.objs.size
 noex:∀b o,X.base.get? b=some o->b∉X.ex
 exfs:∀b∈X.ex,b∉X.fs
 funs:X.s₀.heap.FunFrames X.base X.outer
 frf:∀b∈X.fs,X.H₀ b=none
structure Inv(X:Cx)(pins:List (Addr×Obj))(σ:List (Option V))(H:Hp)(s:Shared):Prop where
 ok:X.Ok
 os:s.os=X.s₀.os
 bare:AllBare s.gens
 base:Un X.fs X.ex X.H₀ H X.s₀.heap s.heap
 loc:∃m,s.heap.Ns X.env.locals m/\∀(i:Nat)(x:Str)(v:V),X.N[i]? =some x->σ[i]? =some (some v)->Et X.env.scope x->∃u,RelV v u/\Look X.env s.heap m x u
 cell:∀x c,X.env.cells.lookup x=some c->∃v,s.heap.IsCell c v
 free:H X.env.locals=none
 freeC:∀x c,X.env.cells.lookup x=some c->H c=none
 pin:∀p∈X.pn++pins,s.heap.get? p.1=some p.2/\H p.1=none/\p.1≠X.env.locals/\p.1∉X.fs/\∀v,p.2.data≠.cell v
 hok:eU X.prog X.w H s.heap
 len:σ.length=X.N.length
section
variable{X:Cx}{pins:List (Addr×Obj)}{σ:List (Option V)}{H H' :Hp}{s:Shared}{h' :Heap}
theorem Cx.Ok.nofr(ok:X.Ok){b:Addr}{o:Obj}(e:X.base.get? b=some o):b∉X.fs:=fun hb=>by
 have:=(ok.funs.mem hb).1;rw[e]at this;cases this
theorem Inv.bs(I:Inv X pins σ H s):∀b o,X.base.get? b=some o->s.heap.get? b=some o/\H b=none:=fun b o e =>
 ⟨I.base.keep b o (I.ok.bs b o e).1 (I.ok.bs b o e).2 (I.ok.nofr e) (I.ok.noex b o e),I.base.free b o (I.ok.bs b o e).1 (I.ok.bs b o e).2 (I.ok.noex b o e)⟩
theorem Inv.bk(I:Inv X pins σ H s):∀b o,X.base.get? b=some o->s.heap.get? b=some o:=fun b o e=>(I.bs b o e).1
theorem Inv.mod(I:Inv X pins σ H s):Mod X.K X.mg X.base:=I.ok.mod
theorem Inv.kIn(I:Inv X pins σ H s):X.K.In s.heap:=I.ok.mod.kin.keeps I.bk
theorem Inv.lt(I:Inv X pins σ H s):X.env.locals<s.heap.objs.size:=let⟨_,hn,_⟩:=I.loc;hn.lt
theorem Inv.sz(I:Inv X pins σ H s):X.s₀.heap.objs.size<=s.heap.objs.size:=Ik I.ok.above (Jd I.lt)
theorem Inv.nofs(I:Inv X pins σ H s){a:Addr}(h:s.heap.objs.size<=a):a∉X.fs:=fun hb=>by
 obtain⟨_,o,ho,_⟩:=I.ok.funs.mem hb;exact absurd (Ic (Hs ho) (Ik I.sz h)) (Jg _)
theorem Inv.cne(I:Inv X pins σ H s):∀x c,X.env.cells.lookup x=some c->c≠X.env.locals:=fun x c e z=>by
 obtain⟨v,o,ho,hd⟩:=I.cell x c e;obtain⟨m,⟨o',es,ep,ho',hd',_⟩,_⟩:=I.loc;rw[z,ho']at ho;cases ho;rw[hd']at hd;cases hd
theorem Inv.funs(I:Inv X pins σ H s):s.heap.FunFrames X.base X.outer:=by
 have all:∀(l:List Env),(∀b∈qv l,b∈X.fs)->X.s₀.heap.FunFrames X.base l->s.heap.FunFrames X.base l:=by
  intro l
  induction l with
  | nil=>intro _ _;trivial
  | cons env r ih =>
   intro hs hl;obtain⟨hk,⟨L,o,hf,hn,ho,hd⟩,hr⟩:=hl;have hL:L∈X.fs:=hs L (by unfold qv;rw[List.filterMap_cons,hf];exact He);obtain⟨sl,e⟩:=I.base.slot L o ho (I.ok.frf L hL) hL fun z=>I.ok.exfs L z hL;exact⟨hk,⟨L,_,hf,hn,e,hd⟩,ih (fun b hb=>hs b (by unfold qv;rw[List.filterMap_cons,hf];exact HZ _ hb)) hr⟩
 exact all X.outer (fun _ hb=>hb) I.ok.funs
theorem Inv.stack(I:Inv X pins σ H s):s.heap.FunFrames X.base X.stack:=by
 rcases I.ok.stk with e|⟨e,hf⟩
 ·rw[e];exact I.funs
 ·rw[e]
  obtain⟨m,hn,_⟩:=I.loc;refine .cons (by rw[I.ok.kind];decide) hf hn ?_ I.funs;exact Heap.get?_none_of_le (Ik I.ok.bsz I.ok.above)
theorem Inv.stkSub(I:Inv X pins σ H s):∀b∈qv X.stack,b∈X.env.locals::X.fs:=fun b hb=>by
 rcases I.ok.stk with e|⟨e,hf⟩
 ·rw[e]at hb;exact HZ _ hb
 ·rw[e]at hb
  unfold qv at hb;rw[List.filterMap_cons,hf]at hb;exact hb
theorem Inv.stkFree(I:Inv X pins σ H s):∀b∈qv X.stack,H b=none:=fun b hb=>by
 rcases Hm.mp (I.stkSub b hb)with e|hb
 ·rw[e];exact I.free
 ·obtain⟨_,o,ho,_⟩:=I.ok.funs.mem hb
  exact I.base.free b o ho (I.ok.frf b hb) fun z=>I.ok.exfs b z hb
theorem Inv.step{g' :Array GenState}{t' :Nat}{d' :Drawn}{ch:List Addr}(I:Inv X pins σ H s)
  (hch:∀b∈ch,(b∈X.ex\/X.s₀.heap.objs.size<=b)/\b≠X.env.locals/\(∀x c,X.env.cells.lookup x=some c->c≠b)/\∀p∈X.pn++pins,p.1≠b)
  (keep:∀b o,b≠X.env.locals->b∉X.fs->b∉ch->s.heap.get? b=some o->H b=none->h'.get? b=some o)
  (slot:∀b o,b≠X.env.locals->b∈X.fs->b∉ch->s.heap.get? b=some o->H b=none->∃sl,h'.get? b=some {o with slots:=sl}) (free:∀b o,b∉ch->s.heap.get? b=some o->H b=none->H' b=none)
  (there:∀b o,b∉ch->s.heap.get? b=some o->∃o',h'.get? b=some o')
  (tups:∀b xs,H b=some (.tup xs)->H' b=some (.tup xs)) (frzs:∀b o u,H b=some (.frz o u)->H' b=some (.frz o u)) (tbls:∀b ps,H b=some (.tbl ps)->∃more,H' b=some (.tbl (ps++more)))
  (ns:∀m,s.heap.Ns X.env.locals m->h'.Ns X.env.locals m) (hok:eU X.prog X.w H' h') (hg:AllBare g') :
  Inv X pins σ H' {s with heap:=h',gens:=g',drawn:=d',toks:=t'}:=by
 have neL:∀b o,X.s₀.heap.get? b=some o->b≠X.env.locals:=fun b o e=>Hy (Ic (Hs e) I.ok.above);have neC:∀b o,X.s₀.heap.get? b=some o->b∉X.ex->b∉ch:=fun b o e hx hb=>by
  rcases(hch b hb).1 with z|z
  ·exact hx z
  ·exact absurd (Ic (Hs e) z) (Jg _)
 have cellK:∀x c,X.env.cells.lookup x=some c->∀v,s.heap.IsCell c v->h'.IsCell c v:=fun x c e v ⟨o,ho,hd⟩=>by
  have nch:c∉ch:=fun z=>(hch c z).2.2.1 x c e rfl
  by_cases hc:c∈X.fs
  ·obtain⟨sl,q⟩:=slot c o (I.cne x c e) hc nch ho (I.freeC x c e)
   exact⟨_,q,hd⟩
  ·exact⟨o,keep c o (I.cne x c e) hc nch ho (I.freeC x c e),hd⟩
 refine⟨I.ok,I.os,hg,⟨fun b o e n hb hx=> ?_,fun b o e n hb hx=> ?_,fun b o e n hx=> ?_,fun b o e hx=> ?_,fun b xs e=>tups b xs (I.base.tups b xs e),fun b o xs e=>frzs b o xs (I.base.frzs b o xs e),fun b ps e=> ?_⟩,?_,fun x c e=> ?_,?_,fun x c e=> ?_,fun p hp=> ?_,hok,I.len⟩
 ·exact keep b o (neL b o e) hb (neC b o e hx) (I.base.keep b o e n hb hx) (I.base.free b o e n hx)
 ·obtain⟨sl,e1⟩:=I.base.slot b o e n hb hx
  obtain⟨sl',e2⟩:=slot b _ (neL b o e) hb (neC b o e hx) e1 (I.base.free b o e n hx);exact⟨sl',e2⟩
 ·obtain⟨o',e1⟩:=I.base.there b o e hx
  exact free b o' (neC b o e hx) e1 (I.base.free b o e n hx)
 ·obtain⟨o',e1⟩:=I.base.there b o e hx
  exact there b o' (neC b o e hx) e1
 ·obtain⟨m1,e1⟩:=I.base.tbls b ps e
  obtain⟨m2,e2⟩:=tbls b _ e1;exact⟨m1++m2,by rw[e2,Array.append_assoc]⟩
 ·obtain⟨m,hn,hl⟩:=I.loc
  refine⟨m,ns m hn,fun i x v e1 e2 e3=> ?_⟩;obtain⟨u,r,l⟩:=hl i x v e1 e2 e3;refine⟨u,r,?_⟩
  rcases l with l|⟨k,c,e,z⟩
  ·exact .inl l
  ·exact .inr ⟨k,c,e,cellK x c e _ z⟩
 ·obtain⟨v,z⟩:=I.cell x c e
  exact⟨v,cellK x c e v z⟩
 ·obtain⟨m,⟨o,_,_,ho,_⟩,_⟩:=I.loc
  exact free _ o (fun z=>(hch _ z).2.1 rfl) ho I.free
 ·obtain⟨v,o,ho,hd⟩:=I.cell x c e
  exact free c o (fun z=>(hch c z).2.2.1 x c e rfl) ho (I.freeC x c e)
 ·obtain⟨e,n,ne,nf,d⟩:=I.pin p hp
  have nch:p.1∉ch:=fun z=>(hch p.1 z).2.2.2 p hp rfl;exact⟨keep p.1 p.2 ne nf nch e n,free p.1 p.2 nch e n,ne,nf,d⟩
theorem Inv.un{t' :Nat}(I:Inv X pins σ H s)(u:Un X.fs [] H H' s.heap h')(hok:eU X.prog X.w H' h'):Inv X pins σ H' {s with heap:=h',toks:=t'}:=by
 obtain⟨m,⟨o,es,ep,ho,r⟩,_⟩:=id I.loc;obtain⟨sl,hL⟩:=u.any ho I.free (by simp);exact I.step (g' :=s.gens) (d' :=s.drawn) (ch:=[]) (fun _ z=>nomatch z) (fun b o _ hb _ e n=>u.keep b o e n hb (by simp)) (fun b o _ hb _ e n=>u.slot b o e n hb (by simp)) (fun b o _ e n=>u.free b o e n (by simp)) (fun b o _ e=>u.there b o e (by simp)) u.tups u.frzs u.tbls (fun m' hm=>by
  obtain⟨o',es',ep',ho',r'⟩:=hm;rw[ho]at ho';cases ho';exact⟨_,es',ep',hL,r'⟩) hok I.bare
theorem Inv.call{g' :Array GenState}{t' :Nat}{d' :Drawn}{ch:List Addr}(I:Inv X pins σ H s)(u:Un (qv X.stack) ch H H' s.heap h')(hok:eU X.prog X.w H' h')(hg:AllBare g')
  (hch:∀b∈ch,(b∈X.ex\/X.s₀.heap.objs.size<=b)/\b≠X.env.locals/\(∀x c,X.env.cells.lookup x=some c->c≠b)/\∀p∈X.pn++pins,p.1≠b) :
  Inv X pins σ H' {s with heap:=h',gens:=g',drawn:=d',toks:=t'}:=by
 obtain⟨m,⟨o,es,ep,ho,r⟩,_⟩:=id I.loc;obtain⟨sl,hL⟩:=u.any ho I.free fun z=>(hch _ z).2.1 rfl;exact I.step (ch:=ch) hch (fun b o hL hb hc e n=>u.keep b o e n (fun z=>(Hm.mp (I.stkSub b z)).elim hL hb) hc) (fun b o _ _ hc e n=>u.any e n hc) (fun b o hc e n=>u.free b o e n hc) (fun b o hc e=>u.there b o e hc) u.tups u.frzs u.tbls (fun m' hm=>by
  obtain⟨o',es',ep',ho',r'⟩:=hm;rw[ho]at ho';cases ho';exact⟨_,es',ep',hL,r'⟩) hok hg
theorem Inv.turned{t' :Nat}{it:Addr}(I:Inv X pins σ H s)(k:∀b o,b≠it->s.heap.get? b=some o->h'.get? b=some o)(hn:H it=none)(hL:it≠X.env.locals)
  (h1:it∈X.ex\/X.s₀.heap.objs.size<=it) (h2:∀x c,X.env.cells.lookup x=some c->c≠it) (h3:∀p∈X.pn++pins,p.1≠it):Inv X pins σ H {s with heap:=h',toks:=t'}:=by
 have nit:∀b u,H b=some u->b≠it:=fun b u e z=>by rw[z,hn]at e;cases e
 refine I.step (g' :=s.gens) (d' :=s.drawn) (ch:=[it]) (fun b hb=> ?_) (fun b o _ _ hc e _=>k b o (fun z=>hc (by simp[z])) e) (fun b o _ _ hc e _=>⟨o.slots,k b o (fun z=>hc (by simp[z])) e⟩) (fun _ _ _ _ n=>n)
  (fun b o hc e=>⟨o,k b o (fun z=>hc (by simp[z])) e⟩) (fun _ _ e=>e) (fun _ _ _ e=>e) (fun b ps e=>⟨#[],by rw[e];simp⟩) (fun m hm=> ?_) (fun b u e=> ?_) I.bare
 ·have e:b=it:=by simpa using hb
  subst e;exact⟨h1,hL,h2,h3⟩
 ·obtain⟨o,es,ep,ho,r⟩:=hm
  exact⟨o,es,ep,k _ o (Ja hL) ho,r⟩
 ·refine(I.hok b u e).stay (fun c v hc q=>k c v ?_ q) (fun _ q=>q) fun _ _ q=>q
  rcases hc with z|z
  ·rw[z];exact nit b u e
  ·exact nit c _ z
theorem Inv.tok(I:Inv X pins σ H s)(t:Nat):Inv X pins σ H {s with toks:=t}:=I.un (h' :=s.heap) (t' :=t) Un.refl I.hok
theorem Inv.kept{t' :Nat}(I:Inv X pins σ H s)(k:∀b u,s.heap.get? b=some u->h'.get? b=some u):Inv X pins σ H {s with heap:=h',toks:=t'}:=I.un (Un.kept k) (I.hok.kept k)
theorem Inv.laid{a:Addr}{o:HO}{t' :Nat}(I:Inv X pins σ H s)(k:∀b u,s.heap.get? b=some u->h'.get? b=some u)(hp:s.heap.objs.size<=a)(new:am X.prog X.w (upd H a o) h' a o) :
  Inv X pins σ (upd H a o) {s with heap:=h',toks:=t'}:=I.un (Un.laid k hp (I.hok.fresh hp)) (I.hok.laid k hp new)
theorem Inv.write{x e:Addr}{o:HO}{t' :Nat}(I:Inv X pins σ H s)(mu:HN (H x))(he:e=x\/H e=some (.own x))(k:∀b u,b≠e->s.heap.get? b=some u->h'.get? b=some u)(heo:∃u,h'.get? e=some u)
  (new:am X.prog X.w (upd H x o) h' x o):Inv X pins σ (upd H x o) {s with heap:=h',toks:=t'}:=I.un (Un.write mu he k heo) (I.hok.write mu he k heo new)
theorem Inv.weak{σ' :List (Option V)}(I:Inv X pins σ H s)(hl:σ'.length=σ.length)(w:∀(i:Nat) v,σ'[i]? =some (some v)->σ[i]? =some (some v)):Inv X pins σ' H s :=
 ⟨I.ok,I.os,I.bare,I.base,let⟨m,hn,hl'⟩:=I.loc;⟨m,hn,fun i x v e1 e2 e3=>hl' i x v e1 (w i v e2) e3⟩,I.cell,I.free,I.freeC,I.pin,I.hok,hl.trans I.len⟩
theorem Inv.pins_of{pins' :List (Addr×Obj)}(I:Inv X pins σ H s)(h:∀p∈pins',s.heap.get? p.1=some p.2/\H p.1=none/\p.1≠X.env.locals/\p.1∉X.fs/\∀v,p.2.data≠.cell v):Inv X pins' σ H s :=
 ⟨I.ok,I.os,I.bare,I.base,I.loc,I.cell,I.free,I.freeC,fun p hp=>(ID.mp hp).elim (fun z=>I.pin p (IG _ z)) (h p),I.hok,I.len⟩
theorem gi{N:List Str}(hN:N.Nodup){i j:Nat}{x:Str}(a:N[i]? =some x)(b:N[j]? =some x):i=j:=by
 obtain⟨h1,e1⟩:=Hh.mp a;obtain⟨h2,e2⟩:=Hh.mp b;exact(List.getElem_inj hN).mp (e1.trans e2.symm)
theorem kl{M:Model}{A:Around}{E:Value->Shared->Prop}{i:Nat}{x:Str}{v:V}{u:Value}{Q:Unit->Shared->Prop}(I:Inv X pins σ H s)(hN:X.N.Nodup)(hi:X.N[i]? =some x)(hx:Loc X.env.scope x)(r:RelV v u)
  (h:∀s',Inv X pins (σ.set i (some v)) H s' ->(∃a,Heap.SameBut a s.heap s'.heap/\(a=X.env.locals\/X.env.cells.lookup x=some a))->Q () s') (hf:X.fn x=true\/X.env.scope.names.lookup x=some .local:=by first|exact .inl rfl|exact .inr rfl|assumption):wpAny M A (storeName X.env x u) Q E s:=by
 obtain⟨m,hn,hl⟩:=id I.loc;have hcls:(X.env.scope.kind== .class||(X.env.scope.kind== .module&&X.env.locals !=X.env.globals))=false:=by rw[I.ok.kind];rfl
 have hiσ:i<σ.length:=by rw[I.len];exact(Hh.mp hi).1
 have cne:=I.cne;have tracked:∀{a:Addr}{h' :Heap},(∃o,s.heap.get? a=some o/\H a=none)->Heap.SameBut a s.heap h' ->eU X.prog X.w H h' :=fun{a h'} ha hs b ob e=>by
  obtain⟨_,_,hfree⟩:=ha;refine(I.hok b ob e).stay (fun c w' hc q=>(hs.2 c ?_).trans q) (fun _ q=>q) fun _ _ q=>q;rintro rfl
  rcases hc with rfl|hc
  ·rw[hfree]at e;cases e
  ·rw[hfree]at hc;cases hc
 rcases hx with hk|hk
 ·refine wpAny_storeName_local hk hn (fun h' hn' hs=> ?_) hcls
  obtain⟨oL,_,_,hoL,_⟩:=id hn;refine h _ ⟨I.ok,I.os,I.bare,⟨fun b o e n hb hx=> ?_,fun b o e n hb hx=> ?_,I.base.free,fun b o e hx=> ?_,I.base.tups,I.base.frzs,I.base.tbls⟩,⟨_,hn',fun j y v' e1 e2 e3=> ?_⟩,fun y c e=> ?_,I.free,I.freeC,fun p hp=> ?_,tracked ⟨oL,hoL,I.free⟩ hs,by simpa using I.len⟩ ⟨_,hs,.inl rfl⟩
  ·exact(hs.2 b (Hy (Ic (Hs e) I.ok.above))).trans (I.base.keep b o e n hb hx)
  ·obtain⟨sl,e1⟩:=I.base.slot b o e n hb hx
   exact⟨sl,(hs.2 b (Hy (Ic (Hs e) I.ok.above))).trans e1⟩
  ·obtain⟨o',e1⟩:=I.base.there b o e hx
   exact⟨o',(hs.2 b (Hy (Ic (Hs e) I.ok.above))).trans e1⟩
  ·by_cases hj:j=i
   ·subst hj
    rw[hi]at e1;cases e1;rw[JA hiσ]at e2;cases e2;exact⟨u,r,.inl ⟨hk,by simp⟩⟩
   ·rw[II (Ja hj)]at e2
    obtain⟨u',r',q⟩:=hl j y v' e1 e2 e3;refine⟨u',r',?_⟩
    rcases q with⟨k,e⟩|⟨k,c,e,z⟩
    ·refine .inl ⟨k,?_⟩
     have:y≠x:=fun e=>hj (gi hN e1 (e▸hi));simp[this,e]
    ·exact .inr ⟨k,c,e,z.sameBut hs (cne y c e)⟩
  ·obtain⟨w',z⟩:=I.cell y c e
   exact⟨w',z.sameBut hs (cne y c e)⟩
  ·obtain⟨e,n,ne,nf,d⟩:=I.pin p hp
   exact⟨(hs.2 p.1 ne).trans e,n,ne,nf,d⟩
 ·have hfn:X.fn x=true:=by
   rcases hf with z|z
   ·exact z
   ·rw[z]at hk;cases hk
  obtain⟨c,hc⟩:=I.ok.has x (.inl hk);obtain⟨w',z⟩:=I.cell x c hc;refine wpAny_storeName_cell I.ok.kind hk hc z (fun h' hc' hs=> ?_);obtain⟨oc,hoc,hocd⟩:=id z;refine h {s with heap:=h'} ⟨I.ok,I.os,I.bare,⟨fun b o e n hb hx=> ?_,fun b o e n hb hx=> ?_,I.base.free,fun b o e hx=> ?_,I.base.tups,I.base.frzs,I.base.tbls⟩,⟨m,hn.sameBut hs (Ja (cne x c hc)),fun j y v' e1 e2 e3=> ?_⟩,fun y c' e=> ?_,I.free,I.freeC,fun p hp=> ?_,tracked ⟨oc,hoc,I.freeC x c hc⟩ hs,by simpa using I.len⟩ ⟨c,hs,.inr hc⟩
  ·exact(hs.2 b (Hy (Ic (Hs e) (I.ok.cab x c hfn hc)))).trans (I.base.keep b o e n hb hx)
  ·obtain⟨sl,e1⟩:=I.base.slot b o e n hb hx
   exact⟨sl,(hs.2 b (Hy (Ic (Hs e) (I.ok.cab x c hfn hc)))).trans e1⟩
  ·obtain⟨o',e1⟩:=I.base.there b o e hx
   exact⟨o',(hs.2 b (Hy (Ic (Hs e) (I.ok.cab x c hfn hc)))).trans e1⟩
  ·by_cases hj:j=i
   ·subst hj
    rw[hi]at e1;cases e1;rw[JA hiσ]at e2;cases e2;exact⟨u,r,.inr ⟨.inl hk,c,hc,hc'⟩⟩
   ·rw[II (Ja hj)]at e2
    obtain⟨u',r',q⟩:=hl j y v' e1 e2 e3;refine⟨u',r',?_⟩
    rcases q with q|⟨k,c',e,z'⟩
    ·exact .inl q
    ·refine .inr ⟨k,c',e,z'.sameBut hs ?_⟩
     rintro rfl;exact hj (gi hN e1 (I.ok.inj _ _ _ e hc▸hi))
  ·by_cases hcc:c' =c
   ·subst hcc;exact⟨_,hc'⟩
   ·obtain⟨w2,z2⟩:=I.cell y c' e
    exact⟨w2,z2.sameBut hs hcc⟩
  ·obtain⟨e,n,ne,nf,d⟩:=I.pin p hp
   refine⟨(hs.2 p.1 ?_).trans e,n,ne,nf,d⟩;intro q;rw[q,hoc]at e;have q' :oc=p.2:=IB e;exact d w' (by rw[<- q'];exact hocd)
theorem jU{M:Model}{A:Around}{E:Value->Shared->Prop}{i:Nat}{x:Str}{v:V}{u:Value}{Q:Unit->Shared->Prop}(I:Inv X pins σ H s)(hN:X.N.Nodup)(hi:X.N[i]? =some x)(hx:Loc X.env.scope x)(r:RelV v u)
  (h:∀s',Inv X pins (σ.set i (some v)) H s' ->Q () s') (hf:X.fn x=true\/X.env.scope.names.lookup x=some .local:=by first|exact .inl rfl|exact .inr rfl|assumption):wpAny M A (storeName X.env x u) Q E s :=
 kl I hN hi hx r (fun s' I' _=>h s' I') hf
theorem Inv.call'{s' :Shared}{ch:List Addr}(I:Inv X pins σ H s)(ho:s'.os=s.os)(u:Un (qv X.stack) ch H H' s.heap s'.heap)(hok:eU X.prog X.w H' s'.heap)(hg:AllBare s'.gens)
  (hch:∀b∈ch,(b∈X.ex\/X.s₀.heap.objs.size<=b)/\b≠X.env.locals/\(∀x c,X.env.cells.lookup x=some c->c≠b)/\∀p∈X.pn++pins,p.1≠b):Inv X pins σ H' s' :=by
 obtain⟨h',g',d',t',o'⟩:=s';have e:o' =s.os:=ho;subst e;exact I.call (g' :=g') (t' :=t') (d' :=d') u hok hg hch
end
noncomputable abbrev XK:=Value->Option Addr->Hp->Prop
noncomputable abbrev St:=List (Option V)
noncomputable abbrev VK:=V->Hp->Prop
noncomputable abbrev TE:=St->Hp->VK->Prop
noncomputable abbrev TT:=St->Hp->(Bool->Hp->Prop)->Prop
noncomputable abbrev TA:=St->Hp->(List V->Hp->Prop)->Prop
structure cu where
 nx:St->Hp->Prop
 rt:VK
 bk:St->Hp->Prop:=fun _ _=>False
 ct:St->Hp->Prop:=fun _ _=>False
noncomputable abbrev TS:=cu->St->Hp->Prop
noncomputable def EP(X:Cx)(pins:List (Addr×Obj))(σ:St)(Q:VK)(u:Value)(s' :Shared):Prop:=∃v H',Inv X pins σ H' s' /\RelV v u/\Q v H'
noncomputable def TP(X:Cx)(pins:List (Addr×Obj))(σ:St)(Q:Bool->Hp->Prop)(b:Bool)(s' :Shared):Prop:=∃H',Inv X pins σ H' s' /\Q b H'
noncomputable def AP(X:Cx)(pins:List (Addr×Obj))(σ:St)(Q:List V->Hp->Prop)(us:List Value)(s' :Shared):Prop:=∃vs H',Inv X pins σ H' s' /\aT vs us/\Q vs H'
noncomputable def SP(X:Cx)(pins:List (Addr×Obj))(D:cu)(f:Flow)(s' :Shared):Prop :=
 match f with
 | .next=>∃σ' H',Inv X pins σ' H' s' /\D.nx σ' H'
 | .brk=>∃σ' H',Inv X pins σ' H' s' /\D.bk σ' H'
 | .cont=>∃σ' H',Inv X pins σ' H' s' /\D.ct σ' H'
 | .ret u=>∃v σ' H',Inv X pins σ' H' s' /\RelV v u/\D.rt v H'
noncomputable def PE(X:Cx)(e:Expr)(t:TE):Prop :=
 ∀(pins:List (Addr×Obj))(s:Shared)(σ:St)(H:Hp)(Q:VK),Inv X pins σ H s->t σ H Q->wpAny (model X.prog X.w) X.A (eval e X.env) (EP X pins σ Q) X.xe s
noncomputable def PT(X:Cx)(e:Expr)(t:TT):Prop :=
 ∀(pins:List (Addr×Obj))(s:Shared)(σ:St)(H:Hp)(Q:Bool->Hp->Prop),Inv X pins σ H s->t σ H Q->wpAny (model X.prog X.w) X.A (isTrue e X.env (eval e X.env)) (TP X pins σ Q) X.xe s
noncomputable def PW(X:Cx)(e:Expr)(t:TT):Prop :=
 ∀(whole:Sem Value)(pins:List (Addr×Obj))(s:Shared)(σ:St)(H:Hp)(Q:Bool->Hp->Prop),Inv X pins σ H s->t σ H Q->wpAny (model X.prog X.w) X.A (isTrue e X.env whole) (TP X pins σ Q) X.xe s
theorem PW.pt{X:Cx}{e:Expr}{t:TT}(h:PW X e t):PT X e t:=h _
noncomputable def PA(X:Cx)(es:List Expr)(t:TA):Prop :=
 ∀(pos:Pos)(pins:List (Addr×Obj))(s:Shared)(σ:St)(H:Hp)(Q:List V->Hp->Prop),Inv X pins σ H s->t σ H Q->wpAny (model X.prog X.w) X.A (spliced (backTo pos (starEach es X.env))) (AP X pins σ Q) X.xe s
noncomputable def PS(X:Cx)(st:Stmt)(t:TS):Prop :=
 ∀(pins:List (Addr×Obj))(s:Shared)(σ:St)(H:Hp)(D:cu),Inv X pins σ H s->t D σ H->wpAny (model X.prog X.w) X.A (exec st X.env) (SP X pins D) X.xe s
noncomputable def rh(X:Cx)(st:List Stmt)(t:TS):Prop :=
 ∀(pins:List (Addr×Obj))(s:Shared)(σ:St)(H:Hp)(D:cu),Inv X pins σ H s->t D σ H->wpAny (model X.prog X.w) X.A (execs st X.env) (SP X pins D) X.xe s
theorem al{α:Type}{t:Sem α}{Q Q' :α->Shared->Prop}{M:Model}{A:Around}{E:Value->Shared->Prop}{s:Shared}(h:wpAny M A t Q E s)(hQ:∀a s,Q a s->Q' a s):wpAny M A t Q' E s:=JK h hQ fun _ _ x=>x
section
variable{X:Cx}
theorem bin{a b:Expr}{ta tb:TE}(ha:PE X a ta)(hb:PE X b tb){pins:List (Addr×Obj)}{s:Shared}{σ:St}{H:Hp}{R:V->V->Hp->Prop}(I:Inv X pins σ H s)(h:ta σ H fun x H1=>tb σ H1 fun y H2=>R x y H2)
  {α:Type} {Q:α->Shared->Prop} {f:Value->Value->Sem α}
  (hf:∀v u s2 x y H2,Inv X pins σ H2 s2->RelV x v->RelV y u->R x y H2->wpAny (model X.prog X.w) X.A (f v u) Q X.xe s2) :
  wpAny (model X.prog X.w) X.A (eval a X.env) (fun v s₁=>wpAny (model X.prog X.w) X.A (eval b X.env) (fun u s₂=>wpAny (model X.prog X.w) X.A (f v u) Q X.xe s₂) X.xe s₁) X.xe s:=by
 refine al (ha pins s σ H _ I h) fun v s1 hpq=> ?_;obtain⟨x,H1,I1,r1,q1⟩:=hpq;refine al (hb pins s1 σ H1 _ I1 q1) fun u s2 hpq=> ?_;obtain⟨y,H2,I2,r2,q2⟩:=hpq;exact hf v u s2 x y H2 I2 r1 r2 q2
noncomputable def FO(i:Nat):TE:=fun σ H Q=>∃v,σ[i]? =some (some v)/\Q v H
noncomputable def tC(v:V):TE:=fun _ H Q=>Q v H
theorem je{i:Nat}{x:Str}{pos:Pos}(hN:X.N[i]? =some x)(hv:Et X.env.scope x)(hd:(x==("__debug__":Str))=false:=by decide)(hcd:(x==("__classdict__":Str))=false:=by decide):PE X (.Name x pos) (FO i):=by
 intro pins s σ H Q I h;obtain⟨v,e,h⟩:=h;obtain⟨m,hn,hl⟩:=I.loc;obtain⟨u,r,l⟩:=hl i x v hN e hv;have fin:EP X pins σ Q u s:=⟨v,H,I,r,h⟩
 rcases l with⟨hk,hm⟩|⟨hk,c,hc,hcell⟩
 ·exact wpAny_Name (wpAny_loadName_local I.ok.kind hk hn hm fin) hd
 ·rcases hk with hk|hk
  ·exact wpAny_Name (wpAny_loadName_cell I.ok.kind hk hc hcell fin) hd
  ·exact wpAny_Name (wpAny_loadName_free I.ok.kind hk hc hcell fin hcd) hd
theorem dC{i j pos}:PE X (.Constant (.int i) j pos) (tC (.int i)):=fun _ _ _ H _ I h=>wpAny_Constant_int ⟨.int i,H,I.tok _,⟨_,rfl⟩,h⟩
theorem oU{b j pos}:PE X (.Constant (.bool b) j pos) (tC (.bl b)):=fun _ _ _ H _ I h=>Constant_bool ⟨.bl b,H,I,rfl,h⟩
theorem Cr{j pos}:PE X (.Constant .none j pos) (tC .non):=fun _ _ _ H _ I h=>Constant_none ⟨.non,H,I,rfl,h⟩
theorem mP{x j pos}:PE X (.Constant (.str x) j pos) (tC (.str x)):=fun _ _ _ H _ I h=>Calls.Constant_str ⟨.str x,H,I.tok _,⟨_,rfl⟩,h⟩
noncomputable def Gl(X:Cx)(x:Str):Prop:=X.env.kindOf x=some .globalImplicit
theorem sx{E:Value->Shared->Prop}{pins:List (Addr×Obj)}{s:Shared}{σ:St}{H:Hp}{x:Str}{u:Value}{pos:Pos}{Q:Value->Shared->Prop}(I:Inv X pins σ H s)(hg:Gl X x)(hm:X.mg x=some u)(h:Q u s)
  (hd:(x==("__debug__":Str))=false:=by decide):wpAny (model X.prog X.w) X.A (eval (.Name x pos) X.env) Q E s :=
 Calls.Name_function_global I.ok.kind hg (Calls.loadGlobal_global (by rw[I.ok.glob];exact I.mod.glob.keeps I.bk) hm h) hd
theorem dF{E:Value->Shared->Prop}{pins:List (Addr×Obj)}{s:Shared}{σ:St}{H:Hp}{x:Str}{u:Value}{pos:Pos}{Q:Value->Shared->Prop}(I:Inv X pins σ H s)(hg:Gl X x)(hm:X.mg x=none)(hv:bootBuiltins x=some u)(h:Q u s)
  (hn:x≠"__name__":=by decide) (hd:(x==("__debug__":Str))=false:=by decide):wpAny (model X.prog X.w) X.A (eval (.Name x pos) X.env) Q E s:=by
 obtain⟨mb,h1,h2⟩:=I.mod.blt;exact Calls.Name_function_global I.ok.kind hg (Calls.loadGlobal_builtin (by rw[I.ok.glob];exact I.mod.glob.keeps I.bk) hm (by rw[I.ok.blt];exact h1.keeps I.bk) ((h2 x hn).trans hv) h) hd
theorem zw{x:Str}{v:V}{u:Value}{pos:Pos}(hg:Gl X x)(hm:X.mg x=some u)(r:RelV v u)(hd:(x==("__debug__":Str))=false:=by decide):PE X (.Name x pos) (tC v) :=
 fun _ _ _ H _ I h=>sx I hg hm ⟨v,H,I,r,h⟩ hd
theorem zz{x:Str}{v:V}{u:Value}{pos:Pos}(hg:Gl X x)(hm:X.mg x=none)(hv:bootBuiltins x=some u)(r:RelV v u)(hn:x≠"__name__":=by decide)(hd:(x==("__debug__":Str))=false:=by decide):PE X (.Name x pos) (tC v) :=
 fun _ _ _ H _ I h=>dF I hg hm hv ⟨v,H,I,r,h⟩ hn hd
variable{a b:Expr}{ta tb:TE}{pos:Pos}
noncomputable def PC(X:Cx)(op:CmpOp)(a b:Expr)(t:TE):Prop :=
 ∀(pins:List (Addr×Obj))(s:Shared)(σ:St)(H:Hp)(Q:VK),Inv X pins σ H s->t σ H Q ->
  wpAny (model X.prog X.w) X.A (eval a X.env) (fun v s₁=>wpAny (model X.prog X.w) X.A (eval b X.env) (fun u s₂=>wpAny (model X.prog X.w) X.A (compareOp op v u) (EP X pins σ Q) X.xe s₂) X.xe s₁) X.xe s
theorem xK(b:Expr){op:CmpOp}(h:op≠.In)(h2:op≠.NotIn):behindInMarks op b=false:=by
 have e1:(op==CmpOp.In)=false:=by cases op<;>first|rfl|exact absurd rfl h
 have e2:(op==CmpOp.NotIn)=false:=by cases op<;>first|rfl|exact absurd rfl h2
 cases b<;>simp[behindInMarks,e1,e2]
noncomputable def tB(t:TE):TT:=fun σ H Q=>t σ H fun x H1=>∃c,x=.bl c/\Q c H1
theorem wc{op:CmpOp}{t:TE}(h:PC X op a b t)(h1:behindInMarks op b=false:=by first|exact xK _ (by decide) (by decide)|rfl):PT X (.Compare a [op] [b] pos) (tB t):=by
 intro pins s σ H Q I hw;refine wpAny_isTrue_Compare1 (al (h pins s σ H _ I hw) fun v s1 h1=>al h1 fun u s2 h2=>al h2 fun c s3 ⟨x,H1,I1,r1,q1⟩=> ?_) h1;obtain⟨d,rfl,q⟩:=q1;cases r1;exact JV ⟨H1,I1,q⟩
theorem Cg{e:Expr}{t:TE}(h:PE X e t)(he:∀whole,isTrue e X.env whole=(do let v<-whole;standAt e.pos;holding [v] (truthy v)):=by intro _;rfl):PT X e (tB t):=by
 intro pins s σ H Q I hw;refine isTrue_plain (al (h pins s σ H _ I hw) fun v s1 ⟨x,H1,I1,r1,q1⟩=> ?_) (he _);obtain⟨d,rfl,q⟩:=q1;cases r1;exact JV ⟨H1,I1,q⟩
variable{tA tB' :TT}{aU:List Expr}
noncomputable def tAnd(t u:TT):TT:=fun σ H Q=>t σ H fun c H1=>if c=true then u σ H1 Q else Q false H1
noncomputable def tOr(t u:TT):TT:=fun σ H Q=>t σ H fun c H1=>if c=true then Q true H1 else u σ H1 Q
noncomputable def tNot(t:TT):TT:=fun σ H Q=>t σ H fun c H1=>Q (!c) H1
theorem zi(ha:PT X a tA):PW X (.BoolOp .And [a] pos) tA:=by
 intro wh pins s σ H Q I h;refine isTrue_and (al (ha pins s σ H Q I h) fun c s1 e=> ?_);cases c with
 | true=>exact isTrue_and_nil e
 | false=>exact e
theorem wW(ha:PT X a tA):PW X (.BoolOp .Or [a] pos) tA:=by
 intro wh pins s σ H Q I h;refine isTrue_or (al (ha pins s σ H Q I h) fun c s1 e=> ?_);cases c with
 | false=>exact isTrue_or_nil e
 | true=>exact e
theorem Ca(ha:PT X a tA)(hb:PW X (.BoolOp .And (b::aU) pos) tB'):PW X (.BoolOp .And (a::b::aU) pos) (tAnd tA tB'):=by
 intro wh pins s σ H Q I h;refine isTrue_and (al (ha pins s σ H _ I h) fun c s1 hpq=> ?_);obtain⟨H1,I1,q1⟩:=hpq;cases c with
 | true=>exact hb wh pins s1 σ H1 Q I1 q1
 | false=>exact⟨H1,I1,q1⟩
theorem Bc(ha:PT X a tA)(hb:PW X (.BoolOp .Or (b::aU) pos) tB'):PW X (.BoolOp .Or (a::b::aU) pos) (tOr tA tB'):=by
 intro wh pins s σ H Q I h;refine isTrue_or (al (ha pins s σ H _ I h) fun c s1 hpq=> ?_);obtain⟨H1,I1,q1⟩:=hpq;cases c with
 | true=>exact⟨H1,I1,q1⟩
 | false=>exact hb wh pins s1 σ H1 Q I1 q1
theorem wb(ha:PT X a tA):PT X (.UnaryOp .Not a pos) (tNot tA):=by
 intro pins s σ H Q I h;exact isTrue_not (ha pins s σ H (fun c H1=>Q (!c) H1) I h)
noncomputable def Fa(ta tb:TE):TE:=fun σ H Q=>ta σ H fun x H1=>∃c,x=.bl c/\if c=true then tb σ H1 Q else Q (.bl false) H1
noncomputable def tOrV(ta tb:TE):TE:=fun σ H Q=>ta σ H fun x H1=>∃c,x=.bl c/\if c=true then Q (.bl true) H1 else tb σ H1 Q
noncomputable def FT(ta:TE):TE:=fun σ H Q=>ta σ H fun x H1=>∃c,x=.bl c/\Q (.bl (!c)) H1
theorem Cp{op}{t:TE}(h:PE X a t):PE X (.BoolOp op [a] pos) t:=fun pins s σ H Q I hw=>BoolOp_one (h pins s σ H Q I hw)
theorem xB(ha:PE X a ta)(hb:PE X (.BoolOp .And (b::aU) pos) tb):PE X (.BoolOp .And (a::b::aU) pos) (Fa ta tb):=by
 intro pins s σ H Q I h;refine BoolOp_and (al (ha pins s σ H _ I h) fun v s1 hpq=> ?_);obtain⟨x,H1,I1,r1,q1⟩:=hpq;obtain⟨c,rfl,q1⟩:=q1;cases r1;refine JV ?_;cases c with
 | true=>exact hb pins s1 σ H1 Q I1 q1
 | false=>exact⟨.bl false,H1,I1,rfl,q1⟩
theorem Be(ha:PE X a ta)(hb:PE X (.BoolOp .Or (b::aU) pos) tb):PE X (.BoolOp .Or (a::b::aU) pos) (tOrV ta tb):=by
 intro pins s σ H Q I h;refine BoolOp_or (al (ha pins s σ H _ I h) fun v s1 hpq=> ?_);obtain⟨x,H1,I1,r1,q1⟩:=hpq;obtain⟨c,rfl,q1⟩:=q1;cases r1;refine JV ?_;cases c with
 | false=>exact hb pins s1 σ H1 Q I1 q1
 | true=>exact⟨.bl true,H1,I1,rfl,q1⟩
theorem Cq(ha:PE X a ta):PE X (.UnaryOp .Not a pos) (FT ta):=by
 intro pins s σ H Q I h;refine UnaryOp_ (al (ha pins s σ H _ I h) fun v s1 hpq=> ?_);obtain⟨x,H1,I1,r1,q1⟩:=hpq;obtain⟨c,rfl,q1⟩:=q1;cases r1;exact not_of (JV ⟨.bl (!c),H1,I1,rfl,q1⟩)
noncomputable def tIf(t:TT)(ta tb:TE):TE:=fun σ H Q=>t σ H fun c H1=>if c=true then ta σ H1 Q else tb σ H1 Q
theorem wz{c:Expr}(hc:PT X c tA)(ha:PE X a ta)(hb:PE X b tb):PE X (.IfExp c a b pos) (tIf tA ta tb):=by
 intro pins s σ H Q I h;refine wpAny_IfExp (al (hc pins s σ H _ I h) fun d s1 hpq=> ?_);obtain⟨H1,I1,q1⟩:=hpq;cases d with
 | true=>exact ha pins s1 σ H1 Q I1 q1
 | false=>exact hb pins s1 σ H1 Q I1 q1
end
noncomputable def bB(K:W.Frag)(H:Hp)(a:Addr)(xs:List V):Prop :=
 Rd H a (.lst xs) \/
  ∃(o:Obj)(its:Array Value)(n:Nat),K.lookup a=some o/\o.cls=.type "list"/\o.dict=none/\o.data=.seq its n/\its.size<=sizeLine/\aT xs its.toList
noncomputable def cT(K:W.Frag)(H:Hp)(a:Addr)(xs:List V):Prop :=
 Rd H a (.tup xs) \/
  ∃(o:Obj)(its:Array Value)(n:Nat),K.lookup a=some o/\o.cls=.type "tuple"/\o.dict=none/\o.data=.seq its n/\its.size<=sizeLine/\aT xs its.toList
noncomputable def absV:Value->Option V
 | .none=>some .non
 | .bool b=>some (.bl b)
 | .int i _=>some (.int i)
 | .str x _=>some (.str x)
 | .bytes b _=>some (.byt b)
 | .float b _=>some (.flt b)
 | .ref a=>some (.ref a)
 | .type n=>some (.ty n)
 | _=>none
theorem RelV.abs{x:V}{u:Value}(r:RelV x u):absV u=some x:=by
 cases x with
 | non=>cases r;rfl
 | bl _=>cases r;rfl
 | int _=>obtain⟨t,rfl⟩:=r;rfl
 | str _=>obtain⟨t,rfl⟩:=r;rfl
 | byt _=>obtain⟨t,rfl⟩:=r;rfl
 | flt _=>obtain⟨t,rfl⟩:=r;rfl
 | ref _=>cases r;rfl
 | ty _=>cases r;rfl
theorem RelV.inj{x y:V}{u:Value}(r:RelV x u)(q:RelV y u):x=y:=IB (r.abs.symm.trans q.abs)
theorem aT.inj{xs ys:List V}{us:List Value}(h:aT xs us)(k:aT ys us):xs=ys:=by
 induction h generalizing ys with
 | nil=>cases k;rfl
 | cons r t ih =>
  cases k with
  | cons r' t' =>rw[r.inj r',ih t']
section
variable{X:Cx}{pins:List (Addr×Obj)}{σ:St}{H:Hp}{s:Shared}{a:Addr}{xs ys:List V}
theorem bB.of{K:W.Frag}(h:H a=some (.lst xs)):bB K H a xs:=.inl (.inl h)
theorem cT.of{K:W.Frag}(h:H a=some (.tup xs)):cT K H a xs:=.inl (.inl h)
theorem Inv.list(I:Inv X pins σ H s)(h:bB X.K H a xs):∃its:List Value,aT xs its/\PlainL s.heap a its.toArray/\xs.length<=sizeLine:=by
 rcases h with h|⟨o,its,n,hk,hc,hd,hs,hz,r⟩
 ·obtain⟨z,its,n,r,e⟩:=h.ok I.hok
  exact⟨its,r,⟨_,n,e,rfl,rfl,rfl⟩,z⟩
 ·refine⟨its.toList,r,⟨o,n,I.kIn a o hk,hc,hd,by simpa using hs⟩,?_⟩
  have e:=r.length;simp only[Ig]at e;omega
theorem Inv.tuple(I:Inv X pins σ H s)(h:cT X.K H a xs):∃its:List Value,aT xs its/\IsTup s.heap a its.toArray/\xs.length<=sizeLine:=by
 rcases h with h|⟨o,its,n,hk,hc,_,hs,hz,r⟩
 ·obtain⟨z,its,r,p⟩:=h.ok I.hok
  exact⟨its,r,p.tup,z⟩
 ·refine⟨its.toList,r,⟨o,I.kIn a o hk,hc,n,by simpa using hs⟩,?_⟩
  have e:=r.length;simp only[Ig]at e;omega
theorem Inv.tupleD(I:Inv X pins σ H s)(h:cT X.K H a xs):∃o,s.heap.get? a=some o/\o.cls=.type "tuple"/\o.dict=none:=by
 rcases h with h|⟨o,its,n,hk,hc,hd,_⟩
 ·obtain⟨z,its,r,o,e,c,n,_,d⟩:=h.ok I.hok
  exact⟨o,e,c,d⟩
 ·exact⟨o,I.kIn a o hk,hc,hd⟩
theorem Inv.list_inj(I:Inv X pins σ H s)(h:bB X.K H a xs)(h' :bB X.K H a ys):xs=ys:=by
 obtain⟨its,r,⟨o,n,e,_,_,d⟩,_⟩:=I.list h;obtain⟨its',r',⟨o',n',e',_,_,d'⟩,_⟩:=I.list h';rw[e]at e';cases e';rw[d]at d'
 injection d' with d1 _
 have:its=its' :=by simpa using Ix Array.toList d1
 subst this;exact r.inj r'
theorem Inv.tuple_inj(I:Inv X pins σ H s)(h:cT X.K H a xs)(h' :cT X.K H a ys):xs=ys:=by
 obtain⟨its,r,⟨o,e,_,n,d⟩,_⟩:=I.tuple h;obtain⟨its',r',⟨o',e',_,n',d'⟩,_⟩:=I.tuple h';rw[e]at e';cases e';rw[d]at d'
 injection d' with d1 _
 have:its=its' :=by simpa using Ix Array.toList d1
 subst this;exact r.inj r'
end
noncomputable abbrev Cx.wish(X:Cx)(E:Value->Shared->Prop):Cx:={X with xe:=E}
noncomputable abbrev Cx.nox(X:Cx):Cx:=X.wish fun _ _=>False
theorem Cx.Ok.wish{X:Cx}(ok:X.Ok)(E:Value->Shared->Prop):(X.wish E).Ok :=
 ⟨ok.mod,ok.kind,ok.glob,ok.blt,ok.above,ok.inj,ok.has,ok.cab,ok.hd,ok.frames,ok.stk,ok.exf,ok.bs,ok.bsz,ok.noex,ok.exfs,ok.funs,ok.frf⟩
theorem Cx.Ok.unwish{X:Cx}{E:Value->Shared->Prop}(ok:(X.wish E).Ok):X.Ok :=
 ⟨ok.mod,ok.kind,ok.glob,ok.blt,ok.above,ok.inj,ok.has,ok.cab,ok.hd,ok.frames,ok.stk,ok.exf,ok.bs,ok.bsz,ok.noex,ok.exfs,ok.funs,ok.frf⟩
section
variable{X:Cx}{pins:List (Addr×Obj)}{σ:St}{H:Hp}{s:Shared}{E:Value->Shared->Prop}
theorem Inv.wish(I:Inv X pins σ H s)(E:Value->Shared->Prop):Inv (X.wish E) pins σ H s:=⟨I.ok.wish E,I.os,I.bare,I.base,I.loc,I.cell,I.free,I.freeC,I.pin,I.hok,I.len⟩
theorem Inv.unwish(I:Inv (X.wish E) pins σ H s):Inv X pins σ H s:=⟨I.ok.unwish,I.os,I.bare,I.base,I.loc,I.cell,I.free,I.freeC,I.pin,I.hok,I.len⟩
theorem SP.unwish{D:cu}{f:Flow}{s' :Shared}(h:SP (X.wish E) pins D f s'):SP X pins D f s' :=by
 cases f with
 | next=>obtain⟨σ',H',I,q⟩:=h;exact⟨σ',H',I.unwish,q⟩
 | brk=>obtain⟨σ',H',I,q⟩:=h;exact⟨σ',H',I.unwish,q⟩
 | cont=>obtain⟨σ',H',I,q⟩:=h;exact⟨σ',H',I.unwish,q⟩
 | ret u=>obtain⟨v,σ',H',I,r,q⟩:=h;exact⟨v,σ',H',I.unwish,r,q⟩
theorem rh.nox{st:List Stmt}{t:TS}(h:rh X.nox st t):rh X st t:=fun pins s σ H D I hw =>
 JK (h pins s σ H D (I.wish _) hw) (fun _ _ q=>q.unwish) fun _ _ z=>False.elim z
end
section
variable{X:Cx}{st:Stmt}{aU:List Stmt}{t u:TS}{e:Expr}{te:TE}{pos:Pos}
noncomputable def BY:TS:=fun D σ H=>D.nx σ H
noncomputable def tSeq(t u:TS):TS:=fun D σ H=>t {D with nx:=u D} σ H
theorem ee:rh X [] BY:=fun _ _ σ H _ I h=>wpAny_execs_nil ⟨σ,H,I,h⟩
theorem aa(h1:PS X st t)(h2:rh X aU u):rh X (st::aU) (tSeq t u):=by
 intro pins s σ H D I h;refine wpAny_execs_cons (al (h1 pins s σ H {D with nx:=u D} I h) fun f s1 q=> ?_);cases f with
 | next =>
  obtain⟨σ',H',I',q⟩:=q;exact h2 pins s1 σ' H' D I' q
 | ret v=>exact q
 | brk=>exact q
 | cont=>exact q
theorem ao(h1:PS X st t):rh X [st] t:=by
 intro pins s σ H D I h;refine wpAny_execs_cons (al (h1 pins s σ H D I h) fun f s1 q=> ?_);cases f with
 | next=>exact wpAny_execs_nil q
 | ret v=>exact q
 | brk=>exact q
 | cont=>exact q
noncomputable def CH:TS:=fun D σ H=>D.bk σ H
noncomputable def FX:TS:=fun D σ H=>D.ct σ H
theorem zm:PS X (.Pass pos) BY:=fun _ _ σ H _ I h=>wpAny_Pass ⟨σ,H,I,h⟩
theorem wg:PS X (.Break pos) CH:=fun _ _ σ H _ I h=>wpAny_Break ⟨σ,H,I,h⟩
theorem oP:PS X (.Continue pos) FX:=fun _ _ σ H _ I h=>wpAny_Continue ⟨σ,H,I,h⟩
theorem Inv.quiet{pins:List (Addr×Obj)}{σ:St}{H:Hp}{s:Shared}(I:Inv X pins σ H s):interactive X.env=false:=by simp[interactive,I.ok.kind]
noncomputable def FU(te:TE):TS:=fun D σ H=>te σ H fun _ H1=>D.nx σ H1
theorem ef(he:PE X e te)(hs:swapsWith e none pos.line X.env=pure false:=by rfl):PS X (.Expr e pos) (FU te):=by
 intro pins s σ H D I h;exact wpAny_Expr_any (al (he pins s σ H _ I h) fun v s1 ⟨x,H1,I1,r1,q1⟩=>⟨σ,H1,I1,q1⟩) I.quiet hs
noncomputable def tRet(te:TE):TS:=fun D σ H=>te σ H D.rt
theorem fz(he:PE X e te):PS X (.Return (some e) pos) (tRet te):=by
 intro pins s σ H D I h;exact wpAny_Return_some (al (he pins s σ H _ I h) fun v s1 ⟨x,H1,I1,r1,q1⟩=>⟨x,σ,H1,I1,r1,q1⟩)
noncomputable def FQ:TS:=fun D _ H=>D.rt .non H
theorem zk:PS X (.Return none pos) FQ:=fun _ _ σ H _ I h=>wpAny_Return_none ⟨.non,σ,H,I,rfl,h⟩
noncomputable def tIfS(c:TT)(t u:TS):TS:=fun D σ H=>c σ H fun b H1=>if b=true then t D σ H1 else u D σ H1
theorem kw{c:Expr}{a b:List Stmt}{tc:TT}(hc:PT X c tc)(ha:rh X a t)(hb:rh X b u):PS X (.If c a b pos) (tIfS tc t u):=by
 intro pins s σ H D I h;refine wpAny_If (al (hc pins s σ H _ I h) fun d s1 hpq=> ?_);obtain⟨H1,I1,q1⟩:=hpq;cases d with
 | true=>exact ha pins s1 σ H1 D I1 q1
 | false=>exact hb pins s1 σ H1 D I1 q1
end
noncomputable abbrev TG:=V->St->Hp->(St->Hp->Prop)->Prop
noncomputable abbrev BO:=List V->St->Hp->(St->Hp->Prop)->Prop
noncomputable def PG(X:Cx)(target:Expr)(t:TG):Prop :=
 ∀(pins:List (Addr×Obj))(s:Shared)(σ:St)(H:Hp)(v:V)(u:Value)(Q:St->Hp->Prop),Inv X pins σ H s->RelV v u->t v σ H Q ->
  wpAny (model X.prog X.w) X.A (assign target X.env u) (fun _ s' =>∃σ' H',Inv X pins σ' H' s' /\Q σ' H') X.xe s
noncomputable def Eu(X:Cx)(ts:List Expr)(t:BO):Prop :=
 ∀(pins:List (Addr×Obj))(s:Shared)(σ:St)(H:Hp)(vs:List V)(us:List Value)(Q:St->Hp->Prop),Inv X pins σ H s->aT vs us->t vs σ H Q ->
  wpAny (model X.prog X.w) X.A (assignInOrder ((assignEach ts X.env).map (·.2)) us) (fun _ s' =>∃σ' H',Inv X pins σ' H' s' /\Q σ' H') X.xe s
noncomputable abbrev Ea:=V->V->V->Hp->(Hp->Prop)->Prop
noncomputable def HC(X:Cx)(t:Ea):Prop :=
 ∀(pins:List (Addr×Obj))(s:Shared)(σ:St)(H:Hp)(o i v:V)(ov iv u:Value)(Q:Hp->Prop),Inv X pins σ H s->RelV o ov->RelV i iv->RelV v u->t o i v H Q ->
  wpAny (model X.prog X.w) X.A (setItem ov iv u) (fun _ s' =>∃H',Inv X pins σ H' s' /\Q H') X.xe s
noncomputable abbrev TIp:=V->V->Hp->VK->Prop
noncomputable def PIp(X:Cx)(op:Operator)(t:TIp):Prop :=
 ∀(pins:List (Addr×Obj))(s:Shared)(σ:St)(H:Hp)(x y:V)(v u:Value)(Q:VK),Inv X pins σ H s->RelV x v->RelV y u->t x y H Q ->
  wpAny (model X.prog X.w) X.A (inplaceOp op v u) (EP X pins σ Q) X.xe s
section
variable{X:Cx}{pos:Pos}
noncomputable def lK(i:Nat):TG:=fun v σ H Q=>Q (σ.set i (some v)) H
theorem ar{i:Nat}{x:Str}(hN:X.N.Nodup)(hi:X.N[i]? =some x)(hx:Loc X.env.scope x)(hf:X.fn x=true\/X.env.scope.names.lookup x=some .local:=by first|exact .inl rfl|exact .inr rfl|assumption):PG X (.Name x pos) (lK i):=by
 intro pins s σ H v u Q I r h;exact wpAny_assign_Name (jU I hN hi hx r (fun s' I' =>⟨_,H,I',h⟩) hf)
noncomputable def gNil:BO:=fun vs σ H Q=>vs=[]/\Q σ H
noncomputable def GQ(t:TG)(u:BO):BO:=fun vs σ H Q=>∃v r,vs=v::r/\t v σ H fun σ' H' =>u r σ' H' Q
theorem ge:Eu X [] gNil:=by
 intro pins s σ H vs us Q I r h;obtain⟨e,h⟩:=h;subst e;cases r;exact assignInOrder_nil ⟨σ,H,I,h⟩
theorem bW{e:Expr}{es:List Expr}{t:TG}{u:BO}(h1:PG X e t)(h2:Eu X es u)
  (hs:(assignEach (e::es) X.env).map (·.2)=assign e X.env::(assignEach es X.env).map (·.2):=by rfl):Eu X (e::es) (GQ t u):=by
 intro pins s σ H vs us Q I r h;obtain⟨v,vr,e1,h⟩:=h;subst e1;cases r with
 | cons r rr =>
  rw[hs];refine assignInOrder_cons (al (h1 pins s σ H _ _ _ I r h) fun _ s1 hpq=> ?_);obtain⟨σ1,H1,I1,q1⟩:=hpq;exact h2 pins s1 σ1 H1 _ _ Q I1 rr q1
noncomputable def gTup(K:W.Frag)(n:Nat)(t:BO):TG:=fun v σ H Q=>∃a xs,v=.ref a/\cT K H a xs/\xs.length=n/\t xs σ H Q
theorem jd{es:List Expr}{k:Nat}{t:BO}{n:Nat}(hc:X.calm=true)(h:Eu X es t)
  (hn:(assignEach es X.env).length=n:=by rfl) (hst:(assignEach es X.env).findIdx? (·.1)=none:=by rfl):PG X (.Tuple es k pos) (gTup X.K n t):=by
 intro pins s σ H v u Q I r hw;obtain⟨a,xs,e1,hq,hl,hw⟩:=hw;subst e1;cases r;obtain⟨its,rv,ht,hz⟩:=I.tuple hq;refine assign_Tuple_tuple (I.ok.hd hc) ht (by simp[hn,<-hl,rv.length]) hst fun h' hx=> ?_;have I1:Inv X pins σ H {s with heap:=h'}:=I.kept (t' :=s.toks) fun b o e=>hx b o (Hy (Hs e)) e;exact h pins _ σ H xs _ Q I1 (by simpa using rv) hw
noncomputable def gSub(to ti:TE)(t:Ea):TG:=fun v σ H Q=>to σ H fun o H1=>ti σ H1 fun i H2=>t o i v H2 fun H3=>Q σ H3
theorem Cn{o i:Expr}{to ti:TE}{t:Ea}(ho:PE X o to)(hi:PE X i ti)(hs:HC X t)
  (ha:∀v,assign (.Subscript o i pos) X.env v=(do
   let ov<-holding [v] (eval o X.env)
   let iv<-holding [v,ov] (eval i X.env)
   standAt pos
   holding [v,ov,iv] (setItem ov iv v)
   release [v,ov,iv] []):=by intro _;rfl):PG X (.Subscript o i pos) (gSub to ti t):=by
 intro pins s σ H v u Q I r h;rw[ha];refine HY (Iv (al (ho pins s σ H _ I h) fun ov s1 hpq=> ?_));obtain⟨x,H1,I1,r1,q1⟩:=hpq;refine HY (Iv (al (hi pins s1 σ H1 _ I1 q1) fun iv s2 hpq=> ?_));obtain⟨y,H2,I2,r2,q2⟩:=hpq;refine HY (wpAny_standAt (HY (Iv (al (hs pins s2 σ H2 x y v ov iv u _ I2 r1 r2 r q2) fun _ s3 hpq=> ?_))));obtain⟨H3,I3,q3⟩:=hpq;exact wpAny_release ⟨σ,H3,I3,q3⟩
noncomputable def CI(te:TE)(g:TG):TS:=fun D σ H=>te σ H fun x H1=>g x σ H1 D.nx
theorem qX{tg e:Expr}{te:TE}{g:TG}(he:PE X e te)(hg:PG X tg g)(hs:swapsWithSole [tg] e pos.line X.env=pure false:=by rfl)(hw:swappedStores [tg] e X.env=pure none:=by rfl)
  (h1:(assignEach [tg] X.env).map (·.2)=[assign tg X.env]:=by rfl):PS X (.Assign [tg] e pos) (CI te g):=by
 intro pins s σ H D I h;refine wpAny_Assign_stores (al (he pins s σ H _ I h) fun v s1 ⟨x,H1,I1,r1,q1⟩=> ?_) hs hw;rw[h1];exact al (hg pins s1 σ H1 x v _ I1 r1 q1) fun _ s2 q=>q
theorem dW{i:Nat}{x:Str}{e:Expr}{te:TE}{pos' :Pos}(hN:X.N.Nodup)(hi:X.N[i]? =some x)(hx:Loc X.env.scope x)(he:PE X e te)(hs:swapsWith e (some (.Name x pos')) pos.line X.env=pure false:=by rfl)(hf:X.fn x=true\/X.env.scope.names.lookup x=some .local:=by first|exact .inl rfl|exact .inr rfl|assumption) :
  PS X (.Assign [.Name x pos'] e pos) (CI te (lK i)):=by
 intro pins s σ H D I h;refine wpAny_Assign_Name (al (he pins s σ H _ I h) fun v s1 ⟨y,H1,I1,r1,q1⟩=> ?_) hs;exact jU I1 hN hi hx r1 (fun s2 I2=>⟨_,H1,I2,q1⟩) hf
noncomputable def tAug(i:Nat)(te:TE)(ti:TIp):TS:=fun D σ H=>∃x,σ[i]? =some (some x)/\te σ H fun y H1=>ti x y H1 fun z H2=>D.nx (σ.set i (some z)) H2
theorem Ch{i:Nat}{x:Str}{e:Expr}{te:TE}{op:Operator}{ti:TIp}{pos' :Pos}(hN:X.N.Nodup)(hi:X.N[i]? =some x)(hx:Loc X.env.scope x)(he:PE X e te)(ho:PIp X op ti)(hf:X.fn x=true\/X.env.scope.names.lookup x=some .local:=by first|exact .inl rfl|exact .inr rfl|assumption) :
  PS X (.AugAssign (.Name x pos') op e pos) (tAug i te ti):=by
 intro pins s σ H D I h;obtain⟨v,e1,h⟩:=h;obtain⟨m,hn,hl⟩:=I.loc;have B2:Et X.env.scope x:=by rcases hx with k|k;exact .inl k;exact .inr (.inl k)
 obtain⟨u,r,l⟩:=hl i x v hi e1 B2;refine wpAny_AugAssign_Name ?_;have go:wpAny (model X.prog X.w) X.A (eval e X.env) (fun w s₂=>wpAny (model X.prog X.w) X.A (inplaceOp op u w) (fun r s₃=>wpAny (model X.prog X.w) X.A (storeName X.env x r) (fun _=>SP X pins D .next) X.xe s₃) X.xe s₂) X.xe s:=by
  refine al (he pins s σ H _ I h) fun w s1 hpq=> ?_;obtain⟨y,H1,I1,r1,q1⟩:=hpq;refine al (ho pins s1 σ H1 v y u w _ I1 r r1 q1) fun z s2 hpq=> ?_;obtain⟨zv,H2,I2,r2,q2⟩:=hpq;exact jU I2 hN hi hx r2 (fun s3 I3=>⟨_,H2,I3,q2⟩) hf
 rcases l with⟨hk,hm⟩|⟨hk,c,hc,hcell⟩
 ·exact wpAny_loadName_local I.ok.kind hk hn hm go
 ·rcases hk with hk|hk
  ·exact wpAny_loadName_cell I.ok.kind hk hc hcell go
  ·rcases hx with k|k
   ·have:X.env.scope.names.lookup x=some .free:=hk
    rw[k]at this;cases this
   ·have:X.env.scope.names.lookup x=some .free:=hk
    rw[k]at this;cases this
noncomputable def ipI(f:Int->Int->Int):TIp:=fun x y H Q=>∃i j,x=.int i/\y=.int j/\Q (.int (f i j)) H
theorem DX:PIp X .Add (ipI fun i j=>i+j):=by
 intro pins s σ H x y v u Q I r1 r2 h;obtain⟨i,j,e1,e2,q⟩:=h;subst e1;subst e2;obtain⟨t,rfl⟩:=r1;obtain⟨t',rfl⟩:=r2;exact iadd_int ⟨.int _,H,I.tok _,⟨_,rfl⟩,q⟩
theorem DW:PIp X .Sub (ipI fun i j=>i-j):=by
 intro pins s σ H x y v u Q I r1 r2 h;obtain⟨i,j,e1,e2,q⟩:=h;subst e1;subst e2;obtain⟨t,rfl⟩:=r1;obtain⟨t',rfl⟩:=r2;exact isub_int ⟨.int _,H,I.tok _,⟨_,rfl⟩,q⟩
noncomputable def CC(c:TT)(tb:TS):TS:=fun D σ H=>∃W:Nat->St->Hp->Prop,(∃m,W m σ H)/\∀m σ H,W m σ H ->
 c σ H fun b H1=>if b=true then∃N:St->Hp->Prop,(∀σ' H',N σ' H' ->∃m',m' <m/\W m' σ' H')/\tb {D with nx:=N,ct:=N,bk:=D.nx} σ H1 else D.nx σ H1
theorem wf{c:Expr}{body:List Stmt}{tc:TT}{tb:TS}(hp:PassesOwn (model X.prog X.w) X.A X.env X.xe)(hc:PT X c tc)(hb:rh X body tb):PS X (.While c body [] pos) (CC tc tb):=by
 intro pins s σ H D I h;obtain⟨W,⟨m0,w0⟩,n6⟩:=h;refine wpAny_While (codeAny_whileLoop (fun n s' =>∃σ' H',Inv X pins σ' H' s' /\W n σ' H') ?_ m0 ⟨σ,H,I,w0⟩);rintro n s1 ⟨σ1,H1,I1,w1⟩;refine Ju hp (al (hc pins s1 σ1 H1 _ I1 (n6 n σ1 H1 w1)) fun b s2 hpq=> ?_);obtain⟨H2,I2,q2⟩:=hpq;cases b with
 | true =>
  obtain⟨N,hN,q2⟩:=q2;rw[Hr rfl];refine Ju hp (al (hb pins s2 σ1 H2 _ I2 q2) fun f s3 q3=> ?_);cases f with
  | next =>
   obtain⟨σ3,H3,I3,n3⟩:=q3;obtain⟨m',hm,w3⟩:=hN σ3 H3 n3;exact⟨m',hm,σ3,H3,I3,w3⟩
  | cont =>
   obtain⟨σ3,H3,I3,n3⟩:=q3;obtain⟨m',hm,w3⟩:=hN σ3 H3 n3;exact⟨m',hm,σ3,H3,I3,w3⟩
  | brk=>exact q3
  | ret v=>exact q3
 | false =>
  rw[Hl Hk];exact wpAny_execs_nil ⟨σ1,H2,I2,q2⟩
end
structure It where
 go:Nat->Hp->Prop
 yld:Nat->Hp->V->Hp->Prop
 stop:Nat->Hp->Prop
noncomputable def ij(X:Cx)(pins:List (Addr×Obj))(H:Hp)(b:Addr):Prop :=
 H b=none/\b≠X.env.locals/\b∉X.fs/\(b∈X.ex\/X.s₀.heap.objs.size<=b)/\(∀x c,X.env.cells.lookup x=some c->c≠b)/\∀p∈X.pn++pins,p.1≠b
theorem Inv.fpOk{X:Cx}{pins:List (Addr×Obj)}{σ:St}{H H' :Hp}{s:Shared}{b:Addr}(I:Inv X pins σ H s)(hb:s.heap.objs.size<=b)(hn:H' b=none):ij X pins H' b:=by
 refine⟨hn,JU (Ic I.lt hb),I.nofs hb,.inr (Ik I.sz hb),fun x c e z=> ?_,fun p hp z=> ?_⟩
 ·obtain⟨v,q⟩:=I.cell x c e
  exact absurd (Ic q.lt (by rw[z];exact hb)) (Jg _)
 ·exact absurd (Ic (Hs (I.pin p hp).1) (by rw[z];exact hb)) (Jg _)
structure pZ(P:Program)(w:World)(K:W.Frag)(tg:Expr)(J:It)(fp:List Addr)(it:Addr)(tn:Nat->Heap->Prop):Prop where
 mem:it∈fp
 obj:∀i h,tn i h->∀b∈fp,∃o,h.get? b=some o/\∀v,o.data≠.cell v
 keep:∀i h h',tn i h->(∀b∈fp,∀o,h.get? b=some o->h'.get? b=some o)->tn i h'
 item:∀(X:Cx),X.prog=P->X.w=w->X.K=K->X.calm=true->∀(i:Nat)(pins:List (Addr×Obj))(s:Shared)(σ:St)(H:Hp)(E:Value->Shared->Prop),Inv X pins σ H s->(∀b∈fp,ij X pins H b)->tn i s.heap->J.go i H ->
  wpAny (model P w) X.A (pyNext (.ref it)) (fun r s1=>∃u,r=some u /\
   wpAny (model P w) X.A (letOwnedTupleGo tg (.ref it) u) (fun _ s2=>∃x H',Inv X pins σ H' s2/\RelV x u/\J.yld i H x H' /\tn (i+1) s2.heap/\∀b∈fp,H' b=none) E s1) E s
 done:∀(X:Cx),X.prog=P->X.w=w->X.K=K->X.calm=true->∀(i:Nat)(pins:List (Addr×Obj))(s:Shared)(σ:St)(H:Hp)(E:Value->Shared->Prop),Inv X pins σ H s->(∀b∈fp,ij X pins H b)->tn i s.heap->J.stop i H ->
  wpAny (model P w) X.A (pyNext (.ref it)) (fun r s1=>r=none/\Inv X pins σ H s1) E s
 self:∀(A:Around)(i:Nat)(s:Shared)(Q:Value->Shared->Prop)(E:Value->Shared->Prop),tn i s.heap->Q (.ref it) s->wpAny (model P w) A (pyIter (.ref it)) Q E s
noncomputable abbrev TI:=St->Hp->(It->Hp->Prop)->Prop
noncomputable def PIE(X:Cx)(pins:List (Addr×Obj))(σ:St)(tg:Expr)(R:It->Hp->Prop)(itv:Value)(s2:Shared):Prop :=
 ∃(it:Addr)(fp:List Addr)(tn:Nat->Heap->Prop)(J:It)(H' :Hp),itv=.ref it/\Inv X pins σ H' s2/\pZ X.prog X.w X.K tg J fp it tn/\tn 0 s2.heap/\(∀b∈fp,ij X pins H' b)/\R J H'
noncomputable def PI(X:Cx)(tg iter:Expr)(wi:TI):Prop :=
 ∀(pins:List (Addr×Obj))(s:Shared)(σ:St)(H:Hp)(R:It->Hp->Prop),Inv X pins σ H s->wi σ H R ->
  wpAny (model X.prog X.w) X.A (eval iter X.env) (fun v s1=>wpAny (model X.prog X.w) X.A (pyIter v) (PIE X pins σ tg R) X.xe s1) X.xe s
theorem tL{M:Model}{A:Around}{E:Value->Shared->Prop}{s:Shared}{tg:Expr}{it:Addr}{u:Value}{o:Obj}{n:String}{vs:Array Value}{Q:Unit->Shared->Prop}(ho:s.heap.get? it=some o)(hc:o.cls=.type n)(hd:o.data=.fields vs)
    (hn:["enumerate","zip","dict_itemiterator","dict_reverseitemiterator","odict_iterator","itertools.zip_longest","itertools.pairwise"].contains n=false) (hQ:Q () s):wpAny M A (letOwnedTupleGo tg (.ref it) u) Q E s:=by
  unfold letOwnedTupleGo
  cases tg<;>first
    | exact Hq hQ
    | (cases u<;>first
        | exact Hq hQ
        | (refine HY (wpAny_load ho ?_)
           rw[hc,hd];show wpAny M A (if(["enumerate","zip","dict_itemiterator","dict_reverseitemiterator","odict_iterator","itertools.zip_longest","itertools.pairwise"].contains n&&vs[0]? ==some (rawInt _))=true then _ else _) Q E s;rw[Hl (by intro h;rw[hn,Kb]at h;cases h)];exact Hq hQ))
noncomputable def Eh(K:W.Frag)(a:Addr):It :=
 ⟨fun i H=>∃xs x,bB K H a xs/\xs[i]? =some x,fun i H x H' =>H' =H/\∀xs,bB K H a xs->xs[i]? =some x,fun i H=>∃xs,bB K H a xs/\xs.length<=i⟩
noncomputable def Itt(K:W.Frag)(a:Addr):It :=
 ⟨fun i H=>∃xs x,cT K H a xs/\xs[i]? =some x,fun i H x H' =>H' =H/\∀xs,cT K H a xs->xs[i]? =some x,fun i H=>∃xs,cT K H a xs/\xs.length<=i⟩
noncomputable def Bv(lo:Int)(n:Nat):It:=⟨fun i _=>i<n,fun i H x H' =>H' =H/\x=.int (lo+i),fun i _=>n<=i⟩
theorem uB{P:Program}{w:World}{K:W.Frag}{tg:Expr}(a it:Addr):pZ P w K tg (Eh K a) [it] it (fun i h=>h.IsListIter it a i) where
 mem:=by simp
 obj:=fun i h st b hb=>by
  have e:b=it:=by simpa using hb
  subst e;obtain⟨o,e,c,d⟩:=st;exact⟨o,e,fun v z=>by rw[d]at z;cases z⟩
 keep:=fun i h h' st k=>st.at fun o e=>k it (by simp) o e
 item:=by
  intro X hP hw hK hc i pins s σ H E I hf st hg;subst hP hw hK;obtain⟨xs,x,hq,hx⟩:=hg;obtain⟨its,rv,p,hz⟩:=I.list hq;obtain⟨u,hu,ru⟩:=rv.get hx;obtain⟨f0,f1,f2,f3,f4,f5⟩:=hf it (by simp);refine wpAny_pyNext_list_item st p.isList (x:=u) (by simpa using hu) fun h' st' sb=> ?_;have I1:Inv X pins σ H {s with heap:=h'}:=I.turned (t' :=s.toks) (fun b o hb e=>(sb.2 b hb).trans e) f0 f1 f3 f4 f5;obtain⟨o,e,c,d⟩:=id st';exact⟨u,rfl,tL (s:={s with heap:=h'}) e c d (by decide) ⟨x,H,I1,ru,⟨rfl,fun ys hy=>by rw[I.list_inj hy hq];exact hx⟩,st',fun b hb=>(hf b hb).1⟩⟩
 done:=by
  intro X hP hw hK hc i pins s σ H E I hf st hg;subst hP hw hK;obtain⟨xs,hq,hx⟩:=hg;obtain⟨its,rv,p,hz⟩:=I.list hq;obtain⟨f0,f1,f2,f3,f4,f5⟩:=hf it (by simp);have hl:=rv.length;exact wpAny_pyNext_list_end (I.ok.hd hc) st p.isList (by simp;omega) fun h' eb=>⟨rfl,I.turned (t' :=s.toks) (fun b o hb e=>eb b o hb e) f0 f1 f3 f4 f5⟩
 self:=fun _ _ _ _ _ st h=>wpAny_pyIter_listiter st h
theorem qB{P:Program}{w:World}{K:W.Frag}{tg:Expr}(a it:Addr):pZ P w K tg (Itt K a) [it] it (fun i h=>h.IsTupleIter it a i) where
 mem:=by simp
 obj:=fun i h st b hb=>by
  have e:b=it:=by simpa using hb
  subst e;obtain⟨o,e,c,d⟩:=st;exact⟨o,e,fun v z=>by rw[d]at z;cases z⟩
 keep:=fun i h h' st k=>st.at fun o e=>k it (by simp) o e
 item:=by
  intro X hP hw hK hc i pins s σ H E I hf st hg;subst hP hw hK;obtain⟨xs,x,hq,hx⟩:=hg;obtain⟨its,rv,p,hz⟩:=I.tuple hq;obtain⟨u,hu,ru⟩:=rv.get hx;obtain⟨f0,f1,f2,f3,f4,f5⟩:=hf it (by simp);refine wpAny_pyNext_tuple_item st (show s.heap.IsTuple a its.toArray from p) (x:=u) (by simpa using hu) fun h' st' sb=> ?_;have I1:Inv X pins σ H {s with heap:=h'}:=I.turned (t' :=s.toks) (fun b o hb e=>(sb.2 b hb).trans e) f0 f1 f3 f4 f5;obtain⟨o,e,c,d⟩:=id st';exact⟨u,rfl,tL (s:={s with heap:=h'}) e c d (by decide) ⟨x,H,I1,ru,⟨rfl,fun ys hy=>by rw[I.tuple_inj hy hq];exact hx⟩,st',fun b hb=>(hf b hb).1⟩⟩
 done:=by
  intro X hP hw hK hc i pins s σ H E I hf st hg;subst hP hw hK;obtain⟨xs,hq,hx⟩:=hg;obtain⟨its,rv,p,hz⟩:=I.tuple hq;obtain⟨f0,f1,f2,f3,f4,f5⟩:=hf it (by simp);have hl:=rv.length;exact wpAny_pyNext_tuple_end (I.ok.hd hc) st (show s.heap.IsTuple a its.toArray from p) (by simp;omega) fun h' eb=>⟨rfl,I.turned (t' :=s.toks) (fun b o hb e=>eb b o hb e) f0 f1 f3 f4 f5⟩
 self:=fun _ _ _ _ _ st h=>wpAny_pyIter_tupleiter st h
theorem qC{P:Program}{w:World}{K:PySem.W.Frag}{tg:Expr}(it:Addr)(lo:Int)(n:Nat):pZ P w K tg (Bv lo n) [it] it (fun i h=>IsRangeIter h it (lo+(i:Nat)*1) ((n:Int)-(i:Nat)) 1) where
 mem:=by simp
 obj:=fun i h st b hb=>by
  have e:b=it:=by simpa using hb
  subst e;exact⟨_,st,fun v z=>by
   have z' :Data.fields _=Data.cell v:=z;cases z'⟩
 keep:=fun i h h' st k=>k it (by simp) _ st
 item:=by
  intro X hP hw hK hc i pins s σ H E I hf st hg;subst hP hw hK;obtain⟨f0,f1,f2,f3,f4,f5⟩:=hf it (by simp);have W:=Walks.range (prog:=X.prog) (w:=X.w) (I.ok.hd hc) it lo 1 n;refine W.item i s _ _ hg st fun v h' tk hv st' kk=> ?_;obtain⟨t,rfl⟩:=hv;have I1:Inv X pins σ H {s with heap:=h',toks:=tk}:=I.turned (fun b o hb e=>kk b o (by simpa using hb) e) f0 f1 f3 f4 f5;refine⟨_,rfl,tL (s:={s with heap:=h',toks:=tk}) (n:="range_iterator") st' rfl rfl (by decide) ⟨.int (lo+i),H,I1,⟨t,?_⟩,⟨rfl,rfl⟩,st',fun b hb=>(hf b hb).1⟩⟩;rw[Int.mul_one]
 done:=by
  intro X hP hw hK hc i pins s σ H E I hf st hg;subst hP hw hK;obtain⟨f0,f1,f2,f3,f4,f5⟩:=hf it (by simp);exact wpAny_pyNext_range_end (I.ok.hd hc) st (by have:n<=i:=hg;omega) fun h' eb=>⟨rfl,I.turned (t' :=s.toks) (fun b o hb e=>eb b o hb e) f0 f1 f3 f4 f5⟩
 self:=fun _ _ _ _ _ st h=>wpAny_pyIter_rangeiter st h
section
variable{X:Cx}{tg:Expr}
noncomputable def GO(K:W.Frag)(tl:TE):TI:=fun σ H R=>tl σ H fun x H1=>∃a,x=.ref a/\(∃xs,bB K H1 a xs)/\R (Eh K a) H1
noncomputable def iTup(K:W.Frag)(tl:TE):TI:=fun σ H R=>tl σ H fun x H1=>∃a,x=.ref a/\(∃xs,cT K H1 a xs)/\R (Itt K a) H1
theorem eh{l:Expr}{tl:TE}(hl:PE X l tl):PI X tg l (GO X.K tl):=by
 intro pins s σ H R I h;refine al (hl pins s σ H _ I h) fun v s1 hpq=> ?_;obtain⟨x,H1,I1,r1,q1⟩:=hpq;obtain⟨a,e,⟨xs,hq⟩,q⟩:=q1;subst e;cases r1;obtain⟨its,rv,p,hz⟩:=I1.list hq;refine KJ p.isList ?_;refine⟨s1.heap.objs.size,[s1.heap.objs.size],_,_,H1,rfl,I1.kept (t' :=s1.toks) fun b o e=>Ha _ e,uB a _,⟨_,Hv _ rfl,rfl,rfl⟩,fun b hb=> ?_,q⟩;have e:b=s1.heap.objs.size:=by simpa using hb
 subst e;exact I1.fpOk (Hg _) (I1.hok.fresh (Hg _))
theorem wo{l:Expr}{tl:TE}(hl:PE X l tl):PI X tg l (iTup X.K tl):=by
 intro pins s σ H R I h;refine al (hl pins s σ H _ I h) fun v s1 hpq=> ?_;obtain⟨x,H1,I1,r1,q1⟩:=hpq;obtain⟨a,e,⟨xs,hq⟩,q⟩:=q1;subst e;cases r1;obtain⟨its,rv,p,hz⟩:=I1.tuple hq;refine Kg (show s1.heap.IsTuple a its.toArray from p) ?_;refine⟨s1.heap.objs.size,[s1.heap.objs.size],_,_,H1,rfl,I1.kept (t' :=s1.toks) fun b o e=>Ha _ e,qB a _,⟨_,Hv _ rfl,rfl,rfl⟩,fun b hb=> ?_,q⟩;have e:b=s1.heap.objs.size:=by simpa using hb
 subst e;exact I1.fpOk (Hg _) (I1.hok.fresh (Hg _))
theorem oJ{pins:List (Addr×Obj)}{σ:St}{H:Hp}{s:Shared}{R:It->Hp->Prop}{E:Value->Shared->Prop}{lo hi:Int}{t u v:Tok}{tk:Nat}(I:Inv X pins σ H s)(h1: -(2^62)<=lo)(h2:lo<2^62)(h3: -(2^62)<=hi)(h4:hi<2^62)
  (q:R (Bv lo (hi-lo).toNat) H):wpAny (model X.prog X.w) X.A (pyIter (.ref s.heap.objs.size)) (PIE X pins σ tg R) E {s with heap:=s.heap.push {cls:=.type "range",data:=.fields #[.int lo t,.int hi u,.int 1 v]},toks:=tk}:=by
 refine wpAny_pyIter_range (IsRange.new ..) (small_one h1 h2 h3 h4) ?_;have I1:Inv X pins σ H {s with heap:=s.heap.push {cls:=.type "range",data:=.fields #[.int lo t,.int hi u,.int 1 v]},toks:=tk}:=I.kept fun b o e=>Ha _ e
 refine⟨(s.heap.push {cls:=.type "range",data:=.fields #[.int lo t,.int hi u,.int 1 v]}).objs.size,[(s.heap.push {cls:=.type "range",data:=.fields #[.int lo t,.int hi u,.int 1 v]}).objs.size],_,_,H,rfl,
  I1.kept (t' :=tk) fun b o e=>Ha _ e,qC _ lo (hi-lo).toNat,?_,fun b hb=> ?_,q⟩
 ·have e1:lo+((0:Nat):Int)*1=lo:=by simp
  have e2:(((hi-lo).toNat:Nat):Int)-((0:Nat):Int)=Builtin.Range.rangeSize lo hi 1:=by rw[rangeSize_one];split<;>omega
  show IsRangeIter _ _ (lo+((0:Nat):Int)*1) ((((hi-lo).toNat:Nat):Int)-((0:Nat):Int)) 1;rw[e1,e2];exact Hv _ rfl
 ·have e:b=(s.heap.push {cls:=.type "range",data:=.fields #[.int lo t,.int hi u,.int 1 v]}).objs.size:=by simpa using hb
  subst e;exact I1.fpOk (Hg _) (I1.hok.fresh (Hg _))
noncomputable def GN(ta:TA):TI:=fun σ H R=>ta σ H fun vs H1=>∃j:Int,vs=[.int j]/\ -(2^62)<=j/\j<2^62/\R (Bv 0 j.toNat) H1
noncomputable def GM(ta:TA):TI:=fun σ H R=>ta σ H fun vs H1=>∃i j:Int,vs=[.int i,.int j]/\(-(2^62)<=i/\i<2^62/\ -(2^62)<=j/\j<2^62)/\R (Bv i (j-i).toNat) H1
theorem kz{a:Expr}{ta:TA}{p pos:Pos}(hg:Gl X "range")(hm:X.mg "range"=none)(ha:PA X [a] ta)(hs:starEach [a] X.env=[(false,eval a X.env)]:=by rfl):PI X tg (.Call (.Name "range" p) [a] [] pos) (GN ta):=by
 intro pins s σ H R I h;refine Call_ (dF I hg hm boot_range (Ir (al (ha pos pins s σ H _ I h) fun us s1 ⟨vs,H1,I1,r1,q1⟩=> ?_) hs rfl));obtain⟨j,e,q1,q2,q⟩:=q1;subst e;cases r1 with
 | cons r rr =>
  cases rr;obtain⟨t,rfl⟩:=r;exact call_range_1 (oJ I1 (by omega) (by omega) q1 q2 (by simpa using q))
theorem uU{a b:Expr}{ta:TA}{p pos:Pos}(hg:Gl X "range")(hm:X.mg "range"=none)(ha:PA X [a,b] ta)(hs:starEach [a,b] X.env=[(false,eval a X.env),(false,eval b X.env)]:=by rfl)(hs2:starEach [b] X.env=[(false,eval b X.env)]:=by rfl) :
  PI X tg (.Call (.Name "range" p) [a,b] [] pos) (GM ta):=by
 intro pins s σ H R I h;refine Call_ (dF I hg hm boot_range (Ir (al (ha pos pins s σ H _ I h) fun us s1 ⟨vs,H1,I1,r1,q1⟩=> ?_) (by rw[hs,hs2]) (by rw[hs2];rfl)));obtain⟨i,j,e,⟨q1,q2,q3,q4⟩,q⟩:=q1;subst e;cases r1 with
 | cons r rr =>
  cases rr with
  | cons r' rr =>
   cases rr;obtain⟨t,rfl⟩:=r;obtain⟨t',rfl⟩:=r';exact call_range_2 (oJ I1 q1 q2 q3 q4 q)
noncomputable def tFor(wi:TI)(g:TG)(tb:TS):TS:=fun D σ H=>wi σ H fun J H1=>∃W:Nat->Nat->St->Hp->Prop,(∃m,W 0 m σ H1)/\∀i m σ H,W i m σ H ->
 (J.stop i H/\D.nx σ H)\/(J.go i H/\∃N:St->Hp->Prop,(∀σ' H',N σ' H' ->∃m',m' <m/\W (i+1) m' σ' H')/\∀x H',J.yld i H x H' ->g x σ H' fun σ2 H2=>tb {D with nx:=N,ct:=N,bk:=D.nx} σ2 H2)
noncomputable def jc(fp:List Addr)(h:Heap):List (Addr×Obj):=fp.filterMap fun b=>(h.get? b).map fun o=>(b,o)
theorem dZ{fp:List Addr}{h:Heap}{b:Addr}{o:Obj}(hb:b∈fp)(e:h.get? b=some o):(b,o)∈jc fp h:=List.mem_filterMap.mpr ⟨b,hb,by rw[e];rfl⟩
theorem uW{fp:List Addr}{h:Heap}{p:Addr×Obj}(hp:p∈jc fp h):p.1∈fp/\h.get? p.1=some p.2:=by
 obtain⟨b,hb,e⟩:=List.mem_filterMap.mp hp;cases q:h.get? b with
 | none=>rw[q]at e;cases e
 | some o =>
  rw[q]at e;have e' :(b,o)=p:=IB e;subst e';exact⟨hb,q⟩
theorem Inv.pinned{pins:List (Addr×Obj)}{σ:St}{H:Hp}{s:Shared}{fp:List Addr}(I:Inv X pins σ H s)(hf:∀b∈fp,ij X pins H b)(ho:∀b∈fp,∃o,s.heap.get? b=some o/\∀v,o.data≠.cell v):Inv X (pins++jc fp s.heap) σ H s :=
 I.pins_of fun p hp=>(ID.mp hp).elim (fun z=>I.pin p (IM _ z)) fun z=>by
  obtain⟨hb,e⟩:=uW z;obtain⟨f0,f1,f2,_⟩:=hf p.1 hb;obtain⟨o,e',d⟩:=ho p.1 hb;rw[e]at e';cases e';exact⟨e,f0,f1,f2,d⟩
theorem Inv.unpinned{pins pl:List (Addr×Obj)}{σ:St}{H:Hp}{s:Shared}(I:Inv X (pins++pl) σ H s):Inv X pins σ H s:=I.pins_of fun p hp=>I.pin p (IM _ (IG _ hp))
theorem gB{iter:Expr}{body:List Stmt}{wi:TI}{g:TG}{tb:TS}{pos:Pos}(hp:PassesOwn (model X.prog X.w) X.A X.env X.xe)(hc:X.calm=true)(hi:PI X tg iter wi)(hg:PG X tg g)(hb:rh X body tb)
  (hs:∀x,foldedSetIterable iter X.env x=pure x:=by intro _;rfl):PS X (.For tg iter body [] pos) (tFor wi g tb):=by
 intro pins s σ H D I h;refine wpAny_For (al (hi pins s σ H _ I h) fun v s1 h1=>al h1 fun itv s2 h2=> ?_) hs;obtain⟨it,fp,tn,J,H2,e,I2,T,st2,f2,W,⟨m0,w0⟩,n6⟩:=h2;subst e;have stat:∀{H' :Hp},(∀b∈fp,H' b=none)->∀b∈fp,ij X pins H' b:=fun hn b hb=>⟨hn b hb,(f2 b hb).2⟩;refine codeAny_forLoop_any (fun n s' =>∃i σ' H',Inv X pins σ' H' s' /\tn i s'.heap/\(∀b∈fp,H' b=none)/\W i n σ' H') ?_ m0 ⟨0,σ,H2,I2,st2,fun b hb=>(f2 b hb).1,w0⟩;rintro n s3 ⟨i,σ3,H3,I3,st3,fr3,w3⟩
 rcases n6 i n σ3 H3 w3 with⟨stop,qn⟩|⟨go,N,hN,step⟩
 ·refine Ju hp (al (T.done X rfl rfl rfl hc i pins s3 σ3 H3 X.xe I3 (stat fr3) st3 stop) fun r s4 hpq=> ?_)
  obtain⟨hr,I4⟩:=hpq;subst hr;exact wpAny_execs_nil ⟨σ3,H3,I4,qn⟩
 ·refine Ju hp (al (T.item X rfl rfl rfl hc i pins s3 σ3 H3 X.xe I3 (stat fr3) st3 go) fun r s4 hpq=> ?_)
  obtain⟨u,hr,h4⟩:=hpq;subst hr;refine Ju hp (al h4 fun _ s5 hpq=> ?_);obtain⟨x,H5,I5,r5,y5,st5,fr5⟩:=hpq;have I5' :=I5.pinned (stat fr5) (T.obj _ _ st5);refine Ju hp (al (hg _ s5 σ3 H5 x u _ I5' r5 (step x H5 y5)) fun _ s6 hpq=> ?_);obtain⟨σ6,H6,I6,q6⟩:=hpq;refine Ju hp (al (hb _ s6 σ6 H6 _ I6 q6) fun f s7 q7=> ?_);have again:∀{σ7:St}{H7:Hp},Inv X (pins++jc fp s5.heap) σ7 H7 s7->N σ7 H7->∃m,m<n/\∃i σ' H',Inv X pins σ' H' s7/\tn i s7.heap/\(∀b∈fp,H' b=none)/\W i m σ' H' :=fun{σ7 H7} I7 n7=>by
   obtain⟨m',hm,w7⟩:=hN σ7 H7 n7;refine⟨m',hm,i+1,σ7,H7,I7.unpinned,T.keep _ _ _ st5 fun b hb o e=>(I7.pin (b,o) (IM _ (IM _ (dZ hb e)))).1,fun b hb=> ?_,w7⟩;obtain⟨o,e,d⟩:=T.obj _ _ st5 b hb;exact(I7.pin (b,o) (IM _ (IM _ (dZ hb e)))).2.1
  cases f with
  | next=>obtain⟨σ7,H7,I7,n7⟩:=q7;exact again I7 n7
  | cont=>obtain⟨σ7,H7,I7,n7⟩:=q7;exact again I7 n7
  | brk=>obtain⟨σ7,H7,I7,q7⟩:=q7;exact⟨σ7,H7,I7.unpinned,q7⟩
  | ret v=>obtain⟨x7,σ7,H7,I7,r7,q7⟩:=q7;exact⟨x7,σ7,H7,I7.unpinned,r7,q7⟩
end
theorem o9{K:PySem.W.Frag}{a:Addr}{xs:List V}{g:TG}{tb:TS}{D:cu}{σ:St}{H:Hp}(Pv:Nat->St->Hp->Prop)(h0:Pv 0 σ H)(hl:∀i σ H,i<=xs.length->Pv i σ H->bB K H a xs)
  (hs:∀i x σ H,xs[i]? =some x->Pv i σ H->g x σ H fun σ2 H2=>tb {D with nx:=Pv (i+1),ct:=Pv (i+1),bk:=D.nx} σ2 H2) (hd:∀σ H,Pv xs.length σ H->D.nx σ H) :
  ∃W:Nat->Nat->St->Hp->Prop,(∃m,W 0 m σ H)/\∀i m σ H,W i m σ H ->
   ((Eh K a).stop i H/\D.nx σ H)\/((Eh K a).go i H/\∃N:St->Hp->Prop,(∀σ' H',N σ' H' ->∃m',m' <m/\W (i+1) m' σ' H')/\∀x H',(Eh K a).yld i H x H' ->g x σ H' fun σ2 H2=>tb {D with nx:=N,ct:=N,bk:=D.nx} σ2 H2):=by
 refine⟨fun i m σ H=>m=xs.length-i/\i<=xs.length/\Pv i σ H,⟨xs.length,by simp,IN _,h0⟩,?_⟩;rintro i m σ H ⟨rfl,hi,p⟩;have q:=hl i σ H hi p
 by_cases hlt:i<xs.length
 ·refine .inr ⟨⟨xs,xs[i],q,by simp[hlt]⟩,Pv (i+1),fun σ' H' p' =>⟨xs.length-(i+1),by omega,rfl,hlt,p'⟩,fun x H' y=> ?_⟩
  obtain⟨e,y⟩:=y;subst e;exact hs i x σ _ (y xs q) p
 ·have e:i=xs.length:=by omega
  subst e;exact .inl ⟨⟨xs,q,Hg _⟩,hd σ H p⟩
theorem uk{lo:Int}{n:Nat}{g:TG}{tb:TS}{D:cu}{σ:St}{H:Hp}(Pv:Nat->St->Hp->Prop)(h0:Pv 0 σ H)
  (hs:∀i σ H,i<n->Pv i σ H->g (.int (lo+i)) σ H fun σ2 H2=>tb {D with nx:=Pv (i+1),ct:=Pv (i+1),bk:=D.nx} σ2 H2) (hd:∀σ H,Pv n σ H->D.nx σ H) :
  ∃W:Nat->Nat->St->Hp->Prop,(∃m,W 0 m σ H)/\∀i m σ H,W i m σ H ->
   ((Bv lo n).stop i H/\D.nx σ H)\/((Bv lo n).go i H/\∃N:St->Hp->Prop,(∀σ' H',N σ' H' ->∃m',m' <m/\W (i+1) m' σ' H')/\∀x H',(Bv lo n).yld i H x H' ->g x σ H' fun σ2 H2=>tb {D with nx:=N,ct:=N,bk:=D.nx} σ2 H2):=by
 refine⟨fun i m σ H=>m=n-i/\i<=n/\Pv i σ H,⟨n,by simp,IN _,h0⟩,?_⟩;rintro i m σ H ⟨rfl,hi,p⟩
 by_cases hlt:i<n
 ·refine .inr ⟨hlt,Pv (i+1),fun σ' H' p' =>⟨n-(i+1),by omega,rfl,hlt,p'⟩,fun x H' y=> ?_⟩
  obtain⟨e,y⟩:=y;subst e y;exact hs i σ _ hlt p
 ·have e:i=n:=by omega
  subst e;exact .inl ⟨Hg _,hd σ H p⟩
noncomputable abbrev R2:=V->V->Hp->VK->Prop
noncomputable def fG(X:Cx)(f:Value->Value->Sem Value)(r:R2):Prop :=
 ∀(pins:List (Addr×Obj))(s:Shared)(σ:St)(H:Hp)(x y:V)(v u:Value)(Q:VK),Inv X pins σ H s->RelV x v->RelV y u->r x y H Q ->
  wpAny (model X.prog X.w) X.A (f v u) (EP X pins σ Q) X.xe s
noncomputable def UnR(X:Cx)(f:Value->Sem Value)(r:V->Hp->VK->Prop):Prop :=
 ∀(pins:List (Addr×Obj))(s:Shared)(σ:St)(H:Hp)(x:V)(v:Value)(Q:VK),Inv X pins σ H s->RelV x v->r x H Q ->
  wpAny (model X.prog X.w) X.A (f v) (EP X pins σ Q) X.xe s
noncomputable def bI(X:Cx)(f:Value)(r:List V->Hp->VK->Prop):Prop :=
 ∀(pins:List (Addr×Obj))(s:Shared)(σ:St)(H:Hp)(xs:List V)(us:List Value)(Q:VK),Inv X pins σ H s->aT xs us->r xs H Q ->
  wpAny (model X.prog X.w) X.A (call f us) (EP X pins σ Q) X.xe s
noncomputable def TruR(X:Cx)(r:V->Hp->(Bool->Hp->Prop)->Prop):Prop :=
 ∀(pins:List (Addr×Obj))(s:Shared)(σ:St)(H:Hp)(x:V)(v:Value)(Q:Bool->Hp->Prop),Inv X pins σ H s->RelV x v->r x H Q ->
  wpAny (model X.prog X.w) X.A (truthy v) (TP X pins σ Q) X.xe s
noncomputable def tOp(r:R2)(ta tb:TE):TE:=fun σ H Q=>ta σ H fun x H1=>tb σ H1 fun y H2=>r x y H2 Q
noncomputable def tUn(r:V->Hp->VK->Prop)(ta:TE):TE:=fun σ H Q=>ta σ H fun x H1=>r x H1 Q
noncomputable def rI(C:Int->Int->Prop)(g:Int->Int->V):R2:=fun x y H Q=>∃i j,x=.int i/\y=.int j/\C i j/\Q (g i j) H
noncomputable def wV(g:Int->Int->V):R2:=fun x y H Q=>∃i j,x=.int i/\y=.int j/\Q (g i j) H
noncomputable def rU(g:Int->V):V->Hp->VK->Prop:=fun x H Q=>∃i,x=.int i/\Q (g i) H
section
variable{X:Cx}{a b c:Expr}{ta tb tc:TE}{pos:Pos}
theorem EM(ha:PE X a ta)(hb:PE X b tb){pins:List (Addr×Obj)}{s:Shared}{σ:St}{H:Hp}{R:V->V->Hp->Prop}(I:Inv X pins σ H s)
  (h:ta σ H fun x H1=>tb σ H1 fun y H2=>R x y H2) {Q:Value->Shared->Prop} {f:Value->Value->Sem Value}
  (hf:∀v u s2 x y H2,Inv X pins σ H2 s2->RelV x v->RelV y u->R x y H2->wpAny (model X.prog X.w) X.A (f v u) Q X.xe s2) :
  wpAny (model X.prog X.w) X.A (eval a X.env) (fun v s₁=>wpAny (model X.prog X.w) X.A (eval b X.env) (fun u s₂=>wpAny (model X.prog X.w) X.A (f v u) Q X.xe s₂) X.xe s₁) X.xe s:=by
 refine al (ha pins s σ H _ I h) fun v s1 hpq=> ?_;obtain⟨x,H1,I1,r1,q1⟩:=hpq;refine al (hb pins s1 σ H1 _ I1 q1) fun u s2 hpq=> ?_;obtain⟨y,H2,I2,r2,q2⟩:=hpq;exact hf v u s2 x y H2 I2 r1 r2 q2
theorem jf{op:Operator}{r:R2}(ho:fG X (binaryOp op) r)(ha:PE X a ta)(hb:PE X b tb):PE X (.BinOp a op b pos) (tOp r ta tb):=by
 intro pins s σ H Q I h;exact wpAny_BinOp (EM ha hb I h fun v u s2 x y H2 I2 rx ry q=>ho pins s2 σ H2 x y v u Q I2 rx ry q)
theorem F4{op:UnaryOp}{r:V->Hp->VK->Prop}(ho:UnR X (unaryOp op) r)(ha:PE X a ta):PE X (.UnaryOp op a pos) (tUn r ta):=by
 intro pins s σ H Q I h;exact UnaryOp_ (al (ha pins s σ H _ I h) fun v s1 ⟨x,H1,I1,r1,q1⟩=>ho pins s1 σ H1 x v Q I1 r1 q1)
theorem GD{f:Value->Value->Sem Value}{C:Int->Int->Prop}{g:Int->Int->Int}
  (rule:∀(i j:Int)(t u:Tok)(s:Shared)(Q:Value->Shared->Prop)(E:Value->Shared->Prop),C i j->Q (.int (g i j) s.toks) {s with toks:=s.toks+1}->wpAny (model X.prog X.w) X.A (f (.int i t) (.int j u)) Q E s) :
  fG X f (rI C fun i j=>.int (g i j)):=by
 intro pins s σ H x y v u Q I rx ry h;obtain⟨i,j,rfl,rfl,hc,q⟩:=h;obtain⟨t,rfl⟩:=rx;obtain⟨t',rfl⟩:=ry;exact rule i j t t' s _ _ hc ⟨.int (g i j),H,I.tok _,⟨_,rfl⟩,q⟩
theorem AD{f:Value->Value->Sem Value}{g:Int->Int->Int}
  (rule:∀(i j:Int)(t u:Tok)(s:Shared)(Q:Value->Shared->Prop)(E:Value->Shared->Prop),Q (.int (g i j) s.toks) {s with toks:=s.toks+1}->wpAny (model X.prog X.w) X.A (f (.int i t) (.int j u)) Q E s) :
  fG X f (wV fun i j=>.int (g i j)):=by
 intro pins s σ H x y v u Q I rx ry h;obtain⟨i,j,rfl,rfl,q⟩:=h;obtain⟨t,rfl⟩:=rx;obtain⟨t',rfl⟩:=ry;exact rule i j t t' s _ _ ⟨.int (g i j),H,I.tok _,⟨_,rfl⟩,q⟩
theorem AE{f:Value->Value->Sem Value}{g:Int->Int->Bool}
  (rule:∀(i j:Int)(t u:Tok)(s:Shared)(Q:Value->Shared->Prop)(E:Value->Shared->Prop),Q (.bool (g i j)) s->wpAny (model X.prog X.w) X.A (f (.int i t) (.int j u)) Q E s) :
  fG X f (wV fun i j=>.bl (g i j)):=by
 intro pins s σ H x y v u Q I rx ry h;obtain⟨i,j,rfl,rfl,q⟩:=h;obtain⟨t,rfl⟩:=rx;obtain⟨t',rfl⟩:=ry;exact rule i j t t' s _ _ ⟨.bl (g i j),H,I,rfl,q⟩
noncomputable def CPow(i j:Int):Prop:=0<=j/\j<=1000000/\i.natAbs<2^64
noncomputable def Ek(i j:Int):Prop:=(-(2^64)<i/\i<2^64)\/(-(2^64)<j/\j<2^64)
theorem Ek.ok{i j:Int}(h:Ek i j):IntMulOk i j:=by
 rcases h with⟨h1,h2⟩|⟨h1,h2⟩
 ·exact .of_left (intBits_le_64 h1 h2)
 ·exact .of_right (intBits_le_64 h1 h2)
theorem qg:fG X (binaryOp .Add) (wV fun i j=>.int (i+j)):=AD fun _ _ _ _ _ _ _ q=>add_int q
theorem Cs:fG X (binaryOp .Sub) (wV fun i j=>.int (i-j)):=AD fun _ _ _ _ _ _ _ q=>sub_int q
theorem Cw:fG X (binaryOp .Mult) (rI Ek fun i j=>.int (i*j)):=GD fun _ _ _ _ _ _ _ hc q=>mul_int q hc.ok
theorem Cy:fG X (binaryOp .Mod) (rI (fun _ j=>0<j) fun i j=>.int (i%j)):=GD fun i j _ _ _ _ _ hc q=>by
 have h1:(0:Int)<j:=hc;exact mod_int' (by omega) (by rw[Int.fmod_eq_emod_of_nonneg i (by omega)];exact q)
theorem Cu:fG X (binaryOp .LShift) (rI CPow fun i j=>.int (i*2^j.toNat)):=GD fun _ _ _ _ _ _ _ hc q=>lshift_int_small hc.1 hc.2.1 hc.2.2 q
theorem C2:fG X (binaryOp .BitAnd) (wV fun i j=>.int (Builtin.bitAnd i j)):=AD fun _ _ _ _ _ _ _ q=>and_int q
theorem Bh:fG X (binaryOp .BitOr) (wV fun i j=>.int (Builtin.bitOr i j)):=AD fun _ _ _ _ _ _ _ q=>or_int q
theorem unI{f:Value->Sem Value}{g:Int->Int}
  (rule:∀(i:Int)(t:Tok)(s:Shared)(Q:Value->Shared->Prop)(E:Value->Shared->Prop),Q (.int (g i) s.toks) {s with toks:=s.toks+1}->wpAny (model X.prog X.w) X.A (f (.int i t)) Q E s) :
  UnR X f (rU fun i=>.int (g i)):=by
 intro pins s σ H x v Q I rx h;obtain⟨i,rfl,q⟩:=h;obtain⟨t,rfl⟩:=rx;exact rule i t s _ _ ⟨.int (g i),H,I.tok _,⟨_,rfl⟩,q⟩
theorem B5:UnR X (unaryOp .USub) (rU fun i=>.int (-i)):=unI fun _ _ _ _ _ q=>neg_int q
end
noncomputable def CK:V->V->Bool
 | .non,.non=>true| .non,.int _=>true| .int _,.non=>true| .non,.bl _=>true| .bl _,.non=>true| .non,.str _=>true| .str _,.non=>true
 | .int _,.int _=>true| .bl _,.bl _=>true| .str _,.str _=>true| .byt _,.byt _=>true
 | .int _,.str _=>true| .str _,.int _=>true| .bl _,.str _=>true| .str _,.bl _=>true
 | _,_=>false
noncomputable def rEq:R2:=fun x y H Q=>CK x y=true/\Q (.bl (decide (x=y))) H
noncomputable def rNe:R2:=fun x y H Q=>CK x y=true/\Q (.bl (!decide (x=y))) H
theorem tT{i j:Int}:decide (V.int i=V.int j)=(i==j):=by
 rw[Jc];simp
theorem yG{i j:Bool}:decide (V.bl i=V.bl j)=(i==j):=by
 rw[Jc];simp
theorem tS{i j:Str}:decide (V.str i=V.str j)=(i==j):=by
 rw[Jc];simp
theorem tU{i j:Array UInt8}:decide (V.byt i=V.byt j)=(i.toList==j.toList):=by
 rw[Jc];cases i;cases j;simp
section
variable{X:Cx}{a b c:Expr}{ta tb tc:TE}{pos:Pos}
theorem ae{pins:List (Addr×Obj)}{σ:St}{H:Hp}{s:Shared}{Q:VK}{k k' :Bool}(I:Inv X pins σ H s)(q:Q (.bl k) H)(e:k=k'):EP X pins σ Q (.bool k') s:=by
 subst e;exact⟨.bl k,H,I,rfl,q⟩
theorem Bi:fG X (compareOp .Eq) rEq:=by
 intro pins s σ H x y v u Q I rx ry h;obtain⟨hs,q⟩:=h;cases x with
 | non =>
  cases rx;cases y with
  | non=>cases ry;exact PySem.EqNone.eq_none_none (ae I q (by simp))
  | bl j=>cases ry;exact PySem.EqNone.eq_none_bool (ae I q (by simp))
  | int j=>obtain⟨t',rfl⟩:=ry;exact PySem.EqNone.eq_none_int (ae I q (by simp))
  | str j=>obtain⟨t',rfl⟩:=ry;exact PySem.EqNone.eq_none_str (ae I q (by simp))
  | _=>exact absurd (show false=true from hs) Hk
 | bl i =>
  cases rx;cases y with
  | non=>cases ry;exact PySem.EqNone.eq_bool_none (ae I q (by simp))
  | bl j=>cases ry;exact eq_bool (ae I q yG)
  | str j=>obtain⟨t',rfl⟩:=ry;exact PySem.EqMixed.eq_bool_str (ae I q (by simp))
  | _=>exact absurd (show false=true from hs) Hk
 | int i =>
  obtain⟨t,rfl⟩:=rx;cases y with
  | non=>cases ry;exact PySem.EqNone.eq_int_none (ae I q (by simp))
  | int j=>obtain⟨t',rfl⟩:=ry;exact eq_int (ae I q tT)
  | str j=>obtain⟨t',rfl⟩:=ry;exact PySem.EqMixed.eq_int_str (ae I q (by simp))
  | _=>exact absurd (show false=true from hs) Hk
 | str i =>
  obtain⟨t,rfl⟩:=rx;cases y with
  | non=>cases ry;exact PySem.EqNone.eq_str_none (ae I q (by simp))
  | bl j=>cases ry;exact PySem.EqMixed.eq_str_bool (ae I q (by simp))
  | int j=>obtain⟨t',rfl⟩:=ry;exact PySem.EqMixed.eq_str_int (ae I q (by simp))
  | str j=>obtain⟨t',rfl⟩:=ry;exact eq_str (ae I q tS)
  | _=>exact absurd (show false=true from hs) Hk
 | byt i =>
  obtain⟨t,rfl⟩:=rx;cases y with
  | byt j=>obtain⟨t',rfl⟩:=ry;exact W.eq_bytes (ae I q tU)
  | _=>exact absurd (show false=true from hs) Hk
 | _=>cases y<;>exact absurd (show false=true from hs) Hk
theorem F8:fG X (compareOp .NotEq) rNe:=by
 intro pins s σ H x y v u Q I rx ry h;obtain⟨hs,q⟩:=h;cases x with
 | non =>
  cases rx;cases y with
  | non=>cases ry;exact PySem.EqNone.ne_none_none (ae I q (by simp))
  | bl j=>cases ry;exact PySem.EqNone.ne_none_bool (ae I q (by simp))
  | int j=>obtain⟨t',rfl⟩:=ry;exact PySem.EqNone.ne_none_int (ae I q (by simp))
  | str j=>obtain⟨t',rfl⟩:=ry;exact PySem.EqNone.ne_none_str (ae I q (by simp))
  | _=>exact absurd (show false=true from hs) Hk
 | bl i =>
  cases rx;cases y with
  | non=>cases ry;exact PySem.EqNone.ne_bool_none (ae I q (by simp))
  | bl j=>cases ry;exact ne_bool (ae I q (Ix not yG))
  | str j=>obtain⟨t',rfl⟩:=ry;exact PySem.EqMixed.ne_bool_str (ae I q (by simp))
  | _=>exact absurd (show false=true from hs) Hk
 | int i =>
  obtain⟨t,rfl⟩:=rx;cases y with
  | non=>cases ry;exact PySem.EqNone.ne_int_none (ae I q (by simp))
  | int j=>obtain⟨t',rfl⟩:=ry;exact ne_int (ae I q (Ix not tT))
  | str j=>obtain⟨t',rfl⟩:=ry;exact PySem.EqMixed.ne_int_str (ae I q (by simp))
  | _=>exact absurd (show false=true from hs) Hk
 | str i =>
  obtain⟨t,rfl⟩:=rx;cases y with
  | non=>cases ry;exact PySem.EqNone.ne_str_none (ae I q (by simp))
  | bl j=>cases ry;exact PySem.EqMixed.ne_str_bool (ae I q (by simp))
  | int j=>obtain⟨t',rfl⟩:=ry;exact PySem.EqMixed.ne_str_int (ae I q (by simp))
  | str j=>obtain⟨t',rfl⟩:=ry;exact ne_str (ae I q (Ix not tS))
  | _=>exact absurd (show false=true from hs) Hk
 | byt i =>
  obtain⟨t,rfl⟩:=rx;cases y with
  | byt j=>obtain⟨t',rfl⟩:=ry;exact W.ne_bytes (ae I q (Ix not tU))
  | _=>exact absurd (show false=true from hs) Hk
 | _=>cases y<;>exact absurd (show false=true from hs) Hk
theorem F9:fG X (compareOp .Lt) (wV fun i j=>.bl (decide (i<j))):=AE fun _ _ _ _ _ _ _ q=>lt_int q
theorem GA:fG X (compareOp .LtE) (wV fun i j=>.bl (decide (i<=j))):=AE fun _ _ _ _ _ _ _ q=>le_int q
theorem GB:fG X (compareOp .Gt) (wV fun i j=>.bl (decide (j<i))):=AE fun _ _ _ _ _ _ _ q=>gt_int q
theorem GC:fG X (compareOp .GtE) (wV fun i j=>.bl (decide (j<=i))):=AE fun _ _ _ _ _ _ _ q=>ge_int q
theorem xC:fG X (compareOp .Is) (fun x y H Q=>y=.non/\Q (.bl (decide (x=.non))) H):=by
 intro pins s σ H x y v u Q I rx ry h;obtain⟨rfl,q⟩:=h;cases ry;refine is_none_gen (ae I q ?_)
 cases x<;>first
  | (cases rx;rfl)
  | (obtain⟨t,rfl⟩:=rx;rfl)
theorem C9(b:Expr){op:CmpOp}(h:op≠.In:=by decide)(h2:op≠.NotIn:=by decide):behindInMarks op b=false:=by
 have e1:(op==CmpOp.In)=false:=by cases op<;>first|rfl|exact absurd rfl h
 have e2:(op==CmpOp.NotIn)=false:=by cases op<;>first|rfl|exact absurd rfl h2
 cases b<;>simp[behindInMarks,e1,e2]
theorem zy{op:CmpOp}{r:R2}(ho:fG X (compareOp op) r)(ha:PE X a ta)(hb:PE X b tb)(hm:behindInMarks op b=false):PE X (.Compare a [op] [b] pos) (tOp r ta tb):=by
 intro pins s σ H Q I h;exact wpAny_Compare1 (EM ha hb I h fun v u s2 x y H2 I2 rx ry q=>ho pins s2 σ H2 x y v u Q I2 rx ry q) hm
noncomputable def FP(t:TE):TT:=fun σ H Q=>t σ H fun x H' =>∃k,x=.bl k/\Q k H'
theorem sd{op:CmpOp}{r:R2}(ho:fG X (compareOp op) r)(ha:PE X a ta)(hb:PE X b tb)(hm:behindInMarks op b=false):PT X (.Compare a [op] [b] pos) (FP (tOp r ta tb)):=by
 intro pins s σ H Q I h
 refine wpAny_isTrue_Compare1 (al (ha pins s σ H _ I h) fun v s1 ⟨x,H1,I1,r1,q1⟩=>al (hb pins s1 σ H1 _ I1 q1) fun u s2 ⟨y,H2,I2,r2,q2⟩ =>
  al (ho pins s2 σ H2 x y v u _ I2 r1 r2 q2) fun c s3 ⟨z,H3,I3,r3,k,e,q3⟩=> ?_) hm
 subst e;cases r3;exact JV ⟨H3,I3,q3⟩
noncomputable def EZ(K:W.Frag)(x:V)(H:Hp)(k:Bool):Prop :=
 match x with
 | .non=>k=false
 | .bl b=>k=b
 | .int i=>k=(i !=0)
 | .str y=>y.length<=sizeLine/\k=((y.length:Int) !=0)
 | .byt y=>y.size<=sizeLine/\k=((y.size:Int) !=0)
 | .ref p=>(∃xs,bB K H p xs/\k= !xs.isEmpty)\/(∃xs,cT K H p xs/\k= !xs.isEmpty)\/∃kvs,H p=some (.dK kvs)/\k= !kvs.isEmpty
 | _=>False
theorem qt{κ:Type}{kvs:List (κ×V)}{vs:List (κ×Value)}(r:KV kvs vs):(!vs.isEmpty)= !kvs.isEmpty:=by
 cases r<;>rfl
theorem jr{xs:List V}{its:List Value}(r:aT xs its):(!its.toArray.isEmpty)= !xs.isEmpty:=by
 cases r<;>simp
theorem gE:(sizeLine:Nat)<2^63:=by rw[Im];decide
theorem B6:TruR X (fun x H Q=>∃k,EZ X.K x H k/\Q k H):=by
 intro pins s σ H x v Q I rx h;obtain⟨k,e,q⟩:=h;have hl:=gE;have hs:sizeLine=16777216:=Im;cases x with
 | non =>
  cases rx;have e' :k=false:=e;subst e';exact truthy_none ⟨H,I,q⟩
 | bl b =>
  cases rx;have e' :k=b:=e;subst e';exact JV ⟨H,I,q⟩
 | int i =>
  obtain⟨t,rfl⟩:=rx;have e' :k=(i !=0):=e;subst e';exact PySem.P.truthy_int ⟨H,I,q⟩
 | str y =>
  obtain⟨t,rfl⟩:=rx;obtain⟨hy,e'⟩:y.length<=sizeLine/\k=((y.length:Int) !=0):=e;subst e';exact PySem.P.truthy_str (by omega) ⟨H,I.tok _,q⟩
 | byt y =>
  obtain⟨t,rfl⟩:=rx;obtain⟨hy,e'⟩:y.size<=sizeLine/\k=((y.size:Int) !=0):=e;subst e';exact W.truthy_bytes (by omega) ⟨H,I.tok _,q⟩
 | ref p =>
  cases rx;have e' :(∃xs,bB X.K H p xs/\k= !xs.isEmpty)\/(∃xs,cT X.K H p xs/\k= !xs.isEmpty)\/∃kvs,H p=some (.dK kvs)/\k= !kvs.isEmpty:=e
  rcases e' with⟨xs,hx,e'⟩|⟨xs,hx,e'⟩|⟨kvs,hx,e'⟩
  ·subst e'
   obtain⟨its,r,pl,hz⟩:=I.list hx;have hlen:=r.length;exact wpAny_truthy_list pl.isList (by simp only[Hu];omega) ⟨H,I.tok _,by rw[jr r];exact q⟩
  ·subst e'
   obtain⟨its,r,pl,hz⟩:=I.tuple hx;have hlen:=r.length;exact truthy_tuple pl (by simp only[Hu];omega) ⟨H,I.tok _,by rw[jr r];exact q⟩
  ·subst e'
   obtain⟨hz,hS,vs,r,m⟩:kvs.length<=sizeLine/\(p==sysModules)=false/\∃vs,KV kvs vs/\s.heap.DictOf (ac X.prog X.w) p vs:=I.hok p _ hx;have hlen:kvs.length=vs.length:=Paired.length r;exact wpAny_truthy_dict hS m (by omega) ⟨H,I.tok _,by rw[qt r];exact q⟩
 | _=>exact(show False from e).elim
theorem oN(ha:PE X a ta)(he:∀whole,isTrue a X.env whole=(do let v<-whole;standAt a.pos;holding [v] (truthy v))) :
  PT X a (fun σ H Q=>ta σ H fun x H' =>∃k,EZ X.K x H' k/\Q k H'):=by
 intro pins s σ H Q I h;exact isTrue_plain (al (ha pins s σ H _ I h) fun v s1 ⟨x,H1,I1,r1,q1⟩=>B6 pins s1 σ H1 x v Q I1 r1 q1) (he _)
theorem qf:fG X (binaryOp .Add) (fun x y H Q=>∃i j,x=.str i/\y=.str j/\i.length+j.length<=sizeLine/\Q (.str (i++j)) H):=by
 intro pins s σ H x y v u Q I rx ry h;obtain⟨i,j,rfl,rfl,hz,q⟩:=h;obtain⟨t,rfl⟩:=rx;obtain⟨t',rfl⟩:=ry;exact add_str (fun t' tk=>⟨.str (i++j),H,I.tok _,⟨_,rfl⟩,q⟩) hz
theorem vals1{x:V}{us:List Value}(r:aT [x] us):∃u,us=[u]/\RelV x u:=by
 cases r with
 | cons r1 r2=>cases r2;exact⟨_,rfl,r1⟩
theorem vals2{x y:V}{us:List Value}(r:aT [x,y] us):∃u w',us=[u,w']/\RelV x u/\RelV y w' :=by
 cases r with
 | cons r1 r2 =>
  cases r2 with
  | cons r3 r4=>cases r4;exact⟨_,_,rfl,r1,r3⟩
theorem vE(hc:X.calm=true):bI X (.builtin "max") (fun xs H Q=>∃i j,xs=[.int i,.int j]/\Q (.int (if j>i then j else i)) H):=by
 intro pins s σ H xs us Q I r h;obtain⟨i,j,rfl,q⟩:=h;obtain⟨u,w',rfl,⟨t,rfl⟩,⟨t',rfl⟩⟩:=vals2 r;refine max_two_ints (I.ok.hd hc) fun h' tk k=>⟨_,H,I.kept k,?_,q⟩
 by_cases hj:j>i
 ·rw[Hr hj,Hr hj];exact⟨_,rfl⟩
 ·rw[Hl hj,Hl hj];exact⟨_,rfl⟩
theorem vD(hc:X.calm=true):bI X (.builtin "min") (fun xs H Q=>∃i j,xs=[.int i,.int j]/\Q (.int (if j<i then j else i)) H):=by
 intro pins s σ H xs us Q I r h;obtain⟨i,j,rfl,q⟩:=h;obtain⟨u,w',rfl,⟨t,rfl⟩,⟨t',rfl⟩⟩:=vals2 r;refine min_two_ints (I.ok.hd hc) fun h' tk k=>⟨_,H,I.kept k,?_,q⟩
 by_cases hj:j<i
 ·rw[Hr hj,Hr hj];exact⟨_,rfl⟩
 ·rw[Hl hj,Hl hj];exact⟨_,rfl⟩
theorem lW:bI X (.type "int") (fun xs H Q=>(∃i,xs=[.int i]/\Q (.int i) H)\/∃k,xs=[.bl k]/\Q (.int (if k then 1 else 0)) H):=by
 intro pins s σ H xs us Q I r h
 rcases h with⟨i,rfl,q⟩|⟨k,rfl,q⟩
 ·obtain⟨u,rfl,t,rfl⟩:=vals1 r
  exact call_int_int ⟨.int i,H,I,⟨_,rfl⟩,q⟩
 ·obtain⟨u,rfl,r1⟩:=vals1 r
  cases r1;exact call_int_bool ⟨.int (if k then 1 else 0),H,I.tok _,⟨_,rfl⟩,q⟩
end
structure Ee(h:Heap)(x dx C:Addr)(mA:Str->Option Value):Prop where
 obj:h.get? x=some (W.instObj C dx)
 ns:h.Ns1 dx mA
 ne:dx≠x
theorem ud{h:Heap}{dx:Addr}{mA:Str->Option Value}(n:h.Ns1 dx mA):∃od,h.get? dx=some od/\∀name,W.lookIn name od=some (mA name):=by
 obtain⟨o,es,ep,ho,hd,hk,_,hm⟩:=n;refine⟨o,ho,fun name=> ?_⟩;have e:=hm name;unfold nsFind findBy at e;rw[<- Array.find?_toList]at e;unfold W.lookIn;rw[hd];dsimp only
 split
 ·rename_i y q
  rw[q]at e;exact Ix some e
 ·rename_i q
  rw[q]at e;have a:es.toList.any (·.refKey)=false:=by
   rw[List.any_eq_false];intro y hy;obtain⟨z,t,hkey⟩:=hk y (Array.mem_toList_iff.mp hy);simp[DictEntry.refKey,hkey]
  have a' :¬es.toList.any (·.refKey)=true:=by rw[a];exact Hk
  rw[Hl a'];exact Ix some e
theorem Ee.look{h:Heap}{x dx C:Addr}{mA:Str->Option Value}(I:Ee h x dx C mA):∃od,W.InstAt h x (W.instObj C dx) C (some od)/\∀name,W.lookIn name od=some (mA name) :=
 let⟨od,ho,hl⟩:=ud I.ns
 ⟨od,⟨I.obj,rfl,rfl,ho⟩,hl⟩
section
variable{prog:Program}{w:World}{A:Around}{E:Value->Shared->Prop}{s:Shared}{K:W.Frag}{x dx C f:Addr}{mA:Str->Option Value}{name:Str}{v:Value}
end
theorem ig.some_of{v:V}{o:Option Value}(r:ig (some v) o):∃u,o=some u/\RelV v u:=by
 cases o with
 | none=>exact(show False from r).elim
 | some u=>exact⟨u,rfl,r⟩
section
variable{P:Program}{w:World}{H H' :Hp}{h h' :Heap}{a C dx:Addr}{fs fs' :List (Str×V)}
theorem AZ(hok:eU P w H h)(e:H a=some (.ins C dx fs)):∃mA,Ee h a dx C mA/\(∀f,ig (fs.lookup f) (mA f))/\PySem.Within mA (fs.map (·.1))/\fs.length<=1000/\H dx=some (.own a):=by
 obtain⟨d,z,ne,ob,mA,n,r,q⟩:=(show am P w H h a (.ins C dx fs)from hok a _ e);exact⟨mA,⟨ob,n,ne⟩,r,q,z,d⟩
end
structure Cls(K:W.Frag)(C:Addr):Prop where
 pg:W.plainGet K C Str.empty=true
 hd:W.hasDictIn K C=true
 po:W.plainOver K C=true
 sa:W.findIn K (.ref C) "__setattr__"=some (some (.builtin "object.__setattr__"))
theorem Cls.get{K:W.Frag}{C:Addr}(c:Cls K C)(f:Str):W.plainGet K C f=true:=c.pg
section
variable{X:Cx}{pins:List (Addr×Obj)}{σ:St}{H:Hp}{s:Shared}{a C dx:Addr}{fs:List (Str×V)}{f:Str}{v:V}{A:Around}{E:Value->Shared->Prop}
end
section
variable{X:Cx}{o e value:Expr}{f:Str}{pos pos' tpos:Pos}{ta tv:TE}
end
section
variable{X:Cx}{pins:List (Addr×Obj)}{σ:St}{H:Hp}{s:Shared}{A:Around}{E:Value->Shared->Prop}{Q:Value->Shared->Prop}{c:Value}{b:Bool}
inductive ie(K:W.Frag)(H:Hp):V->Value->Prop where
 | non:ie K H .non (.type "NoneType")
 | bl (x:Bool):ie K H (.bl x) (.type "bool")
 | int (i:Int):ie K H (.int i) (.type "int")
 | str (x:Str):ie K H (.str x) (.type "str")
 | flt (x:UInt64):ie K H (.flt x) (.type "float")
 | lst {a:Addr} {xs:List V} (e:H a=some (.lst xs)):ie K H (.ref a) (.type "list")
 | frz {a:Addr} {o:Obj} {xs:List V} (e:H a=some (.frz o (.lst xs))):ie K H (.ref a) (.type "list")
 | tup {a:Addr} {xs:List V} (e:H a=some (.tup xs)):ie K H (.ref a) (.type "tuple")
 | dK {a:Addr} {kvs:List (ag×V)} (e:H a=some (.dK kvs)):ie K H (.ref a) (.type "dict")
 | dT {a:Addr} {kvs:List (List ag×V)} (e:H a=some (.dT kvs)):ie K H (.ref a) (.type "dict")
 | ins {a C dx:Addr} {fs:List (Str×V)} (e:H a=some (.ins C dx fs)) (cl:Cls K C) (ha:W.findIn K (.ref C) "__class__"=some (some (.builtin "object.__class__")))
   (hn:W.specialIn K (.builtin "object.__class__") "__get__"=some (some (.builtin "getset_descriptor.__get__"))) (htk:W.takesIn K (.builtin "object.__class__")=some true)
   (hm:W.mroIn K C (.type "object")=some true):ie K H (.ref a) (.ref C)
theorem uh{x:V}{u t:Value}(I:Inv X pins σ H s)(rx:RelV x u)(ty:ie X.K H x t)(e:W.kitOne X.K t c=some b)(h:∀tk,Q (.bool b) {s with toks:=tk}) :
  wpAny (model X.prog X.w) A (call (.builtin "isinstance") [u,c]) Q E s:=by
 cases ty with
 | non=>cases(show u=Value.none from rx);exact Jp W.kitx_none I.kIn True.intro e (fun z=>nomatch z) h
 | bl y=>cases(show u=Value.bool y from rx);exact Jp W.kitx_bool I.kIn True.intro e (fun z=>nomatch z) h
 | int i=>obtain⟨t,q⟩:=(show∃t,u=Value.int i t from rx);cases q;exact Jp W.kitx_int I.kIn True.intro e (fun z=>nomatch z) h
 | str y=>obtain⟨t,q⟩:=(show∃t,u=Value.str y t from rx);cases q;exact Jp W.kitx_str I.kIn True.intro e (fun z=>nomatch z) h
 | flt y=>obtain⟨t,q⟩:=(show∃t,u=Value.float y t from rx);cases q;exact Jp W.kitx_float I.kIn True.intro e (fun z=>nomatch z) h
 | @lst a xs ea =>
  cases(show u=Value.ref a from rx);obtain⟨_,_,n,_,h1⟩:=(show am X.prog X.w H s.heap a (.lst xs)from I.hok a _ ea);exact Jp W.kitx_list I.kIn ⟨_,h1,rfl⟩ e (fun z=>nomatch z) h
 | @frz a ob xs ea =>
  cases(show u=Value.ref a from rx);obtain⟨_,_,_,n,_,h1⟩:=(show am X.prog X.w H s.heap a (.frz ob (.lst xs))from I.hok a _ ea);exact Jp W.kitx_list I.kIn ⟨_,h1,rfl⟩ e (fun z=>nomatch z) h
 | @tup a xs ea =>
  cases(show u=Value.ref a from rx);obtain⟨_,_,_,p⟩:=(show am X.prog X.w H s.heap a (.tup xs)from I.hok a _ ea);obtain⟨o,h1,h2,_⟩:=p;exact Jp W.kitx_tuple I.kIn ⟨o,h1,h2⟩ e (fun z=>nomatch z) h
 | @dK a kvs ea =>
  cases(show u=Value.ref a from rx);obtain⟨_,_,vs,_,p⟩:=(show am X.prog X.w H s.heap a (.dK kvs)from I.hok a _ ea);obtain⟨o,es,ep,h1,h2,_⟩:=p;exact Jp W.kitx_dict I.kIn ⟨o,h1,h2.1⟩ e (fun z=>nomatch z) h
 | @dT a kvs ea =>
  cases(show u=Value.ref a from rx);obtain⟨_,_,xs,_,o,es,ep,h1,h2,_⟩:=(show am X.prog X.w H s.heap a (.dT kvs)from I.hok a _ ea);exact Jp W.kitx_dict I.kIn ⟨o,h1,h2.1⟩ e (fun z=>nomatch z) h
 | @ins a C dx fs ea cl ha hn htk hm =>
  cases(show u=Value.ref a from rx);obtain⟨mA,O,_⟩:=AZ I.hok ea;obtain⟨od,J,_⟩:=O.look;exact Jp (W.kitx_own (cl.get _) cl.hd ha hn htk hm) I.kIn J e (fun z=>nomatch z) h
end
structure dr(k:Nat)(A:Around):Prop where
 hd:A.handled=none
 dp:A.depth+3*k+5<recursionLimit
 un:A.units+16*k+200<cLine
theorem dr.mono{j k:Nat}{A:Around}(r:dr k A)(h:j<=k):dr j A:=⟨r.hd,by have:=r.dp;omega,by have:=r.un;omega⟩
theorem dr.deeper{k:Nat}{A:Around}(r:dr (k+1) A)(env:Env):dr k (A.deeper env) :=
 ⟨r.hd,by have:=r.dp;show A.depth+1+3*k+5<_;omega,by have:=r.un;show A.units+3+16*k+200<_;omega⟩
theorem dr.depth{k:Nat}{A:Around}(r:dr k A):A.depth<recursionLimit:=by have:=r.dp;omega
theorem dr.units{k:Nat}{A:Around}(r:dr k A):A.units+64<cLine:=by have:=r.un;omega
noncomputable def tNil:TA:=fun _ H Q=>Q [] H
noncomputable def FY(ta:TE)(tr:TA):TA:=fun σ H Q=>ta σ H fun x H1=>tr σ H1 fun xs H2=>Q (x::xs) H2
section
variable{X:Cx}{e:Expr}{es:List Expr}{te:TE}{t:TA}{pos:Pos}
theorem aX:PA X [] tNil:=fun _ _ _ _ H Q I h=>Calls.spliced_nil ⟨[],H,I,.nil,h⟩
theorem aH(ha:PE X e te)(hr:PA X es t)(hs:starEach (e::es) X.env=(false,eval e X.env)::starEach es X.env:=by rfl):PA X (e::es) (FY te t):=by
 intro pos pins s σ H Q I h;rw[hs];show wpAny _ _ (spliced ((false,eval e X.env)::backTo pos (starEach es X.env))) _ _ s;refine Calls.spliced_cons (al (ha pins s σ H _ I h) fun u s1 hpq=> ?_);obtain⟨x,H1,I1,r1,q1⟩:=hpq;exact al (hr pos pins s1 σ H1 _ I1 q1) fun us s2 ⟨xs,H2,I2,r2,q2⟩=>⟨x::xs,H2,I2,.cons r1 r2,q2⟩
noncomputable def tTup(t:TA):TE:=fun σ H Q=>t σ H fun xs H1=>xs.length<=sizeLine/\∀p,H1 p=none->Q (.ref p) (upd H1 p (.tup xs))
noncomputable def tLst(t:TA):TE:=fun σ H Q=>t σ H fun xs H1=>xs.length<=sizeLine/\∀p,H1 p=none->Q (.ref p) (upd H1 p (.lst xs))
theorem qZ{x1}(h:PA X es t):PE X (.Tuple es x1 pos) (tTup t):=by
 intro pins s σ H Q I hq;refine wpAny_Tuple_spliced (al (h pos pins s σ H _ I hq) fun us s1 ⟨xs,H1,I1,r,z,q⟩=>⟨by rw[<- r.length];exact z,?_⟩);have hf:H1 s1.heap.objs.size=none:=I1.hok.fresh (Hg _);refine⟨.ref s1.heap.objs.size,upd H1 s1.heap.objs.size (.tup xs),I1.laid (t' :=s1.toks) (fun b u e=>Ha _ e) (Hg _) ?_,rfl,q _ hf⟩;exact⟨z,us,r,⟨_,Hv _ rfl,rfl,_,rfl,rfl⟩⟩
theorem wx(h:PA X es t):PE X (.List es pos) (tLst t):=by
 intro pins s σ H Q I hq;refine wpAny_List_spliced (al (h pos pins s σ H _ I hq) fun us s1 ⟨xs,H1,I1,r,z,q⟩=>⟨by rw[<- r.length];exact z,?_⟩);have hf:H1 s1.heap.objs.size=none:=I1.hok.fresh (Hg _);refine⟨.ref s1.heap.objs.size,upd H1 s1.heap.objs.size (.lst xs),I1.laid (t' :=s1.toks) (fun b u e=>Ha _ e) (Hg _) ?_,rfl,q _ hf⟩;exact⟨z,us,0,r,Hv _ rfl⟩
end
noncomputable abbrev Sp:=List V->Hp->VK->XK->Prop
noncomputable abbrev vR:=List Env->Hp->Shared->XK->Value->Shared->Prop
structure BQ(P:Program)(w:World)(K:W.Frag)(mg:Str->Option Value)(base:Heap)(A:Around)(outer:List Env)(s:Shared)(H:Hp):Prop where
 frames:A.frames=some outer
 mod:Mod K mg base
 bs:∀b o,base.get? b=some o->s.heap.get? b=some o/\H b=none
 bsz:base.objs.size<=s.heap.objs.size
 funs:s.heap.FunFrames base outer
 frf:∀b∈qv outer,H b=none
 hok:eU P w H s.heap
 bare:AllBare s.gens
noncomputable def CE(outer:List Env)(P:Program)(w:World)(H:Hp)(s:Shared)(Q:VK)(u:Value)(s' :Shared):Prop :=
 ∃v H',s'.os=s.os/\AllBare s'.gens/\Un (qv outer) [] H H' s.heap s'.heap/\eU P w H' s'.heap/\RelV v u/\Q v H'
noncomputable def CR(CX:vR)(outer:List Env)(P:Program)(w:World)(H:Hp)(s:Shared)(Q:VK)(E:XK)(r:Result)(s' :Shared):Prop :=
 match r with
 | .ok (.ret u)=>CE outer P w H s Q u s'
 | .ok _=>False
 | .error e=>CX outer H s E e s'
structure bN(P:Program)(w:World)(K:W.Frag)(mg:Str->Option Value)(base:Heap)(CX:vR)(k:Nat)(f:Addr)(fd:FuncData)(ps:List Str)(sp:Sp):Prop where
 len:∀vs H Q E,sp vs H Q E->vs.length=ps.length
 run:∀(A:Around)(outer:List Env)(s:Shared)(H:Hp)(args:Args)(us:List Value)(vs:List V)(Q:VK)(E:XK),dr k A->BQ P w K mg base A outer s H->BindsTo s fd args (ps.zip us)->aT vs us->sp vs H Q E ->
  codeAny (model P w) A (.call (.ref f) args) (CR CX outer P w H s Q E) s
theorem bN.mono{P:Program}{w:World}{K:W.Frag}{mg:Str->Option Value}{base:Heap}{CX:vR}{j k:Nat}{f:Addr}{fd:FuncData}{ps:List Str}{sp:Sp}(F:bN P w K mg base CX j f fd ps sp)(h:j<=k) :
  bN P w K mg base CX k f fd ps sp:=⟨F.len,fun A outer s H args us vs Q E hr=>F.run A outer s H args us vs Q E (hr.mono h)⟩
theorem bN.imp{P:Program}{w:World}{K:W.Frag}{mg:Str->Option Value}{base:Heap}{CX:vR}{k:Nat}{f:Addr}{fd:FuncData}{ps:List Str}{sp sp' :Sp}(F:bN P w K mg base CX k f fd ps sp)
  (h:∀vs H Q E,sp' vs H Q E->sp vs H Q E):bN P w K mg base CX k f fd ps sp' :=
 ⟨fun vs H Q E q=>F.len vs H Q E (h _ _ _ _ q),fun A outer s H args us vs Q E hr he hb hv hs=>F.run A outer s H args us vs Q E hr he hb hv (h _ _ _ _ hs)⟩
section
variable{X:Cx}{pins:List (Addr×Obj)}{σ:St}{H:Hp}{s s' :Shared}
theorem Inv.env0(I:Inv X pins σ H s):BQ X.prog X.w X.K X.mg X.base X.A X.stack s H :=
 ⟨I.ok.frames,I.ok.mod,I.bs,Ik I.ok.bsz I.sz,I.stack,I.stkFree,I.hok,I.bare⟩
theorem Inv.after{Q:VK}{u:Value}(I:Inv X pins σ H s)(h:CE X.stack X.prog X.w H s Q u s'):EP X pins σ Q u s' :=by
 obtain⟨v,H',os,bare,un,hok,r,q⟩:=h;obtain⟨hh,g,d,t,os'⟩:=s';obtain rfl:os' =s.os:=os;exact⟨v,H',I.call (h' :=hh) (g' :=g) (d' :=d) (t' :=t) (ch:=[]) un hok bare (fun b z=>absurd z (by simp)),r,q⟩
end
noncomputable def FZ(sp:Sp)(dvs:List V)(E:XK)(t:TA):TE:=fun σ H Q=>t σ H fun vs H1=>sp (vs++dvs) H1 Q E
noncomputable def Binds(K:W.Frag)(fd:FuncData)(ps:List Str)(ds:List Value):Prop :=
 ∀(s:Shared)(us:List Value),K.In s.heap->(us++ds).length=ps.length->BindsTo s fd ⟨us,[]⟩ (ps.zip (us++ds))
theorem Binds.all{K:W.Frag}{fd:FuncData}{ps:List Str}(h:∀us:List Value,us.length=ps.length->bindArgs fd ⟨us,[]⟩=pure (ps.zip us)):Binds K fd ps []:=fun s us _ hl=>by
 rw[JR]at hl ⊢;exact .of_eq (h us hl)
noncomputable def rf(CX:vR)(X:Cx)(E:XK):Prop:=∀(pins:List (Addr×Obj))(σ:St)(H:Hp)(s:Shared)(e:Value)(s' :Shared),Inv X pins σ H s->CX X.stack H s E e s' ->X.xe e s'
section
variable{X:Cx}{CX:vR}{k:Nat}{f C:Addr}{fd:FuncData}{ps:List Str}{sp:Sp}{dvs:List V}{ds:List Value}{E:XK}{x m:Str}{p pos apos:Pos}{e o:Expr}{es:List Expr}{ta:TE}{t:TA}
theorem CS{pins:List (Addr×Obj)}{σ:St}{H:Hp}{s:Shared}{Q:VK}{us:List Value}{vs:List V}(F:bN X.prog X.w X.K X.mg X.base CX k f fd ps sp)(hr:dr k X.A)(hb:Binds X.K fd ps ds)(hd:aT dvs ds)(hx:rf CX X E)
  (I:Inv X pins σ H s) (r:aT vs us) (h:sp (vs++dvs) H Q E):wpAny (model X.prog X.w) X.A (call (.ref f) us) (EP X pins σ Q) X.xe s:=by
 have r2:aT (vs++dvs) (us++ds):=r.append hd;have hl:(us++ds).length=ps.length:=by rw[<- r2.length];exact F.len _ _ _ _ h
 refine wpAny_call (codeAny_mono (F.run X.A X.stack s H ⟨us,[]⟩ (us++ds) (vs++dvs) Q E hr I.env0 (hb s us I.kIn hl) r2 h) fun r s' hq=> ?_);cases r with
 | error e=>exact hx pins σ H s e s' I hq
 | ok fl =>
  cases fl with
  | ret u=>exact I.after hq
  | next=>exact False.elim hq
  | brk=>exact False.elim hq
  | cont=>exact False.elim hq
theorem cw(F:bN X.prog X.w X.K X.mg X.base CX k f fd ps sp)(hr:dr k X.A)(hg:Gl X x)(hm:X.mg x=some (.ref f))(hk:W.keepIn X.K (.ref f)=true)(hb:Binds X.K fd ps ds)(hd:aT dvs ds)(hx:rf CX X E)
  (ha:PA X (e::es) t) (hdb:(x==("__debug__":Str))=false:=by decide) (he:starEach (e::es) X.env=(false,eval e X.env)::starEach es X.env:=by rfl) (hpl:(backTo pos (starEach es X.env)).any (·.1)=false:=by rfl) :
  PE X (.Call (.Name x p) (e::es) [] pos) (FZ sp dvs E t):=by
 intro pins s σ H Q I h;refine wpAny_Call_Name_kw (sx I hg hm ?_ hdb);refine W.callWith_K (h₀:=X.base) I.ok.mod.kin hk (al (ha pos pins s σ H _ I h) fun us s1 ⟨vs,H1,I1,r,q⟩=>⟨I1.kIn,?_⟩) he hpl;exact CS F hr hb hd hx I1 r q
end
section
variable{X:Cx}{CX:vR}{k:Nat}{f C:Addr}{fd:FuncData}{ps ks:List Str}{sp:Sp}{E:XK}{x m:Str}{p pos apos kpos:Pos}{e o:Expr}{es:List Expr}{kws:List Keyword}{te ta:TE}{t tk:TA}{nm:Option Str}
variable{g:List Value->List Value->List Value}{gV:List V->List V->List V}
end
structure aW(N P:List Str)(sc:Scope):Prop where
 kind:sc.kind=.function
 co:sc.isCoroutine=false
 gen:sc.isGenerator=false
 nd:N.Nodup
 pre:N.take P.length=P
 par:∀x∈P,sc.names.lookup x=some .local\/sc.names.lookup x=some .cell
 nofree:∀y∈sc.names,y.2≠.free
theorem la{kindOf:Str->Option NameKind}{x:Str}:∀{binds:List (Str×Value)}{m:Str->Option Value},(∀v,(x,v)∉binds)->bindL kindOf binds m x=m x
 | [],_,_=>rfl
 | (n,v)::r,m,h=>by
  unfold bindL;rw[la fun w hw=>h w (HZ _ hw)]
  split
  ·have:x≠n:=by rintro rfl;exact h v He
   simp[this]
  ·rfl
theorem lf{kindOf:Str->Option NameKind}{x:Str}:∀{binds:List (Str×Value)}{m:Str->Option Value},(∀v,(x,v)∉binds)->bindC kindOf binds m x=m x
 | [],_,_=>rfl
 | (n,v)::r,m,h=>by
  unfold bindC;rw[lf fun w hw=>h w (HZ _ hw)]
  split
  ·rfl
  ·have:x≠n:=by rintro rfl;exact h v He
   simp[this]
theorem lb{kindOf:Str->Option NameKind}{x:Str}{v:Value}:∀{P:List Str}{vs:List Value}{i:Nat}{m:Str->Option Value},P.Nodup->P[i]? =some x->vs[i]? =some v->kindOf x=some .local ->
  bindL kindOf (P.zip vs) m x=some v
 | [],_,_,_,_,h,_,_=>by simp at h
 | _::_,[],_,_,_,_,h,_=>by simp at h
 | p::P,w::vs,0,m,nd,h1,h2,hk=>by
  simp at h1 h2;subst h1;subst h2;show bindL kindOf ((p,w)::P.zip vs) m p=_;unfold bindL;rw[la fun v hv=>(IQ.mp nd).1 (List.of_mem_zip hv).1,Hr hk];simp
 | p::P,w::vs,i+1,m,nd,h1,h2,hk=>by
  show bindL kindOf ((p,w)::P.zip vs) m x=_;unfold bindL;exact lb (i:=i) (IQ.mp nd).2 (by simpa using h1) (by simpa using h2) hk
theorem lg{kindOf:Str->Option NameKind}{x:Str}{v:Value}:∀{P:List Str}{vs:List Value}{i:Nat}{m:Str->Option Value},P.Nodup->P[i]? =some x->vs[i]? =some v->kindOf x≠some .local ->
  bindC kindOf (P.zip vs) m x=some v
 | [],_,_,_,_,h,_,_=>by simp at h
 | _::_,[],_,_,_,_,h,_=>by simp at h
 | p::P,w::vs,0,m,nd,h1,h2,hk=>by
  simp at h1 h2;subst h1;subst h2;show bindC kindOf ((p,w)::P.zip vs) m p=_;unfold bindC;rw[lf fun v hv=>(IQ.mp nd).1 (List.of_mem_zip hv).1,Hl hk];simp
 | p::P,w::vs,i+1,m,nd,h1,h2,hk=>by
  show bindC kindOf ((p,w)::P.zip vs) m x=_;unfold bindC;exact lg (i:=i) (IQ.mp nd).2 (by simpa using h1) (by simpa using h2) hk
noncomputable def start(N:List Str)(vs:List V):St:=vs.map some++List.replicate (N.length-vs.length) none
noncomputable def nB(CX:vR)(P:Program)(w:World)(K:W.Frag)(mg:Str->Option Value)(base:Heap)(N:List Str)(qual:Str)(scope:Scope)(f:Addr)(cd:Value)(A:Around)(outer:List Env)(s:Shared)(H:Hp)(E:XK):Cx where
 prog:=P
 w:=w
 K:=K
 mg:=mg
 base:=base
 A:=A.deeper (envOfC qual scope s.heap.objs.size f cd)
 N:=N
 s₀:=s
 H₀:=H
 env:=envOfC qual scope s.heap.objs.size f cd
 outer:=outer
 stack:=envOfC qual scope s.heap.objs.size f cd::outer
 ex:=[]
 calm:=true
 fn:=fun _=>true
 pn:=[]
 xe:=fun e s' =>wpAny (model P w) (A.deeper (envOfC qual scope s.heap.objs.size f cd)) (leaving (envOfC qual scope s.heap.objs.size f cd) e) (fun _ s'' =>CX outer H s E e s'') (fun e' s'' =>CX outer H s E e' s'') s'
theorem pR{sc:Scope}{n:Nat}{x:Str}(h:sc.names.lookup x=some .cell):∃c,(cellsFrom n sc.names []).lookup x=some c:=by
 have q:=W.cellsFrom_some sc.names n [] (.inl h);exact Option.isSome_iff_exists.mp q
theorem ui{CX:vR}{P:Program}{w:World}{K:W.Frag}{mg:Str->Option Value}{base:Heap}{N ps:List Str}{qual:Str}{scope:Scope}{f:Addr}{cd:Value}{A:Around}{outer:List Env}{s s1:Shared}{H:Hp}{E:XK}{us:List Value}{vs:List V}
  (S:aW N ps scope) (hd:A.handled=none) (e0:BQ P w K mg base A outer s H) (hl:vs.length=ps.length) (r:aT vs us)
  (x:InCallC s s.heap.objs.size (bindL (envOfC qual scope s.heap.objs.size f cd).kindOf (ps.zip us) fun _=>none) (cellsFrom (s.heap.objs.size+1) scope.names []) (bindC (envOfC qual scope s.heap.objs.size f cd).kindOf (ps.zip us) fun _=>none) s1) :
  Inv (nB CX P w K mg base N qual scope f cd A outer s H E) [] (start N vs) H s1:=by
 have hpl:ps.length<=N.length:=by have:=Ix List.length S.pre;rw[JX]at this;omega
 obtain⟨h1,tk,rfl,hk⟩:=x.done;have noA:∀b:Addr,b∉(nB CX P w K mg base N qual scope f cd A outer s H E).ex:=fun b z=>absurd (show b∈([]:List Addr)from z) (by simp)
 refine⟨⟨e0.mod,S.kind,rfl,rfl,Hg _,fun y z c h1 h2=> ?_,fun y hy=> ?_,fun y c _ h=> ?_,fun _=>hd,Around.frames_deeper e0.frames,.inr ⟨rfl,rfl⟩,fun b z=>absurd z (noA b),e0.bs,e0.bsz,fun b _ _=>noA b,fun b z=>absurd z (noA b),e0.funs,e0.frf⟩,
  rfl,e0.bare,Un.kept hk,⟨_,x.toInCall.ns,fun i y v h1 h2 h3=> ?_⟩,fun y c h=>⟨_,x.cell y c h⟩,e0.hok.fresh (Hg _),fun y c h=> ?_,fun p hp=>absurd (show p∈([]:List (Addr×Obj))from hp) (by simp),e0.hok.kept hk,?_⟩
 ·exact name_of_addr x.apart (IY h1) (IY h2)
 ·have hy:scope.names.lookup y=some .cell\/scope.names.lookup y=some .free:=hy
  rcases hy with hy|hy
  ·exact pR hy
  ·exact absurd rfl (S.nofree _ (IY hy))
 ·exact Jd (x.above y c (IY h))
 ·have hi:i<vs.length:=by
   unfold start at h2
   by_cases hi:i<vs.length
   ·exact hi
   ·rw[Jw (by simpa using hi)]at h2
    rw[List.getElem?_replicate]at h2
    split at h2<;>cases h2
  have ha:vs[i]? =some v:=by
   unfold start at h2;rw[JB (by simpa using hi),Ho]at h2;cases e:vs[i]? with
   | none=>rw[e]at h2;cases h2
   | some a=>rw[e]at h2;cases h2;rfl
  obtain⟨u,hu,rv⟩:=r.get ha;have hp:ps[i]? =some y:=by
   rw[<- S.pre,List.getElem?_take_of_lt (by omega)];exact h1
  have ndP:ps.Nodup:=by rw[<- S.pre];exact S.nd.sublist (List.take_sublist _ _)
  refine⟨u,rv,?_⟩
  rcases S.par y (Hz hp)with k|k
  ·exact .inl ⟨k,lb ndP hp hu k⟩
  ·obtain⟨c,e⟩:=pR (n:=s.heap.objs.size+1) k
   refine .inr ⟨.inl k,c,e,?_⟩;have q:=x.cell y c e;rw[lg ndP hp hu (by show scope.names.lookup y≠_;rw[k];decide)]at q;exact q
 ·exact e0.hok.fresh (Jd (x.above y c (IY h)))
 ·unfold start
  show _=N.length;rw[IA,HX,Jb];omega
theorem GR{CX:vR}{P:Program}{w:World}{K:W.Frag}{mg:Str->Option Value}{base:Heap}{k:Nat}{f:Addr}{name qual:Str}{params:Arguments}{body:List Stmt}{scope:Scope}{dV kV doc pm cdv ct oc:Value}{an od:Option Addr}
  {osl:Array (Option Value)} {N ps:List Str} {sp:Sp} (lk:K.lookup f=some ⟨oc,od,.func (W.fnOf name qual params body scope dV kV doc pm an cdv ct),osl⟩) (hcd:W.codeIn K cdv qual=true) (S:aW N ps scope)
  (len:∀vs H Q E,sp vs H Q E->vs.length=ps.length)
  (hbody:∀(A:Around)(outer:List Env)(s:Shared)(H:Hp)(vs:List V)(Q:VK)(E:XK),dr k (A.deeper (envOfC qual scope s.heap.objs.size f cdv))->sp vs H Q E ->
   ∃t,rh (nB CX P w K mg base N qual scope f cdv A outer s H E) body t/\t {nx:=fun _ H' =>Q .non H',rt:=Q} (start N vs) H) :
  bN P w K mg base CX (k+1) f (W.fnOf name qual params body scope dV kV doc pm an cdv ct) ps sp:=by
 refine⟨len,fun A outer s H args us vs Q E hr e0 hb r hsp=> ?_⟩;have hl:=len _ _ _ _ hsp;have KX:K.In s.heap:=e0.mod.kin.keeps fun b o e=>(e0.bs b o e).1;have lim:s.heap.NoLimit:=e0.mod.nolimit.keeps fun b o e=>(e0.bs b o e).1;have hkind:∀y∈ps.zip us,scope.names.lookup y.1=some .local\/(scope.names.lookup y.1=some .cell/\((cellsFrom (s.heap.objs.size+1) scope.names []).lookup y.1).isSome=true):=fun⟨n,v⟩ hy=>by
  rcases S.par n (List.of_mem_zip hy).1 with q|q
  ·exact .inl q
  ·exact .inr ⟨q,W.cellsFrom_some _ _ _ (.inl q)⟩
 refine codeAny_call_function hr.depth (KX _ _ lk) rfl S.co S.gen rfl (W.codeRec_of KX hcd) (hb _ _ _ _ ?_);refine wpAny_newFunctionEnv_cells S.kind hkind fun env he s1 x=> ?_;subst he;refine⟨lim.keeps x.toInCall.keep,codeAny_func ?_⟩;obtain⟨t,ht,hq⟩:=hbody A outer s H vs Q E (hr.deeper _) hsp;have I:Inv (nB CX P w K mg base N qual scope f cdv A outer s H E) [] (start N vs) H s1:=ui S hr.hd e0 hl r x;refine JK (ht [] s1 (start N vs) H _ I hq) (fun fl s' hs=> ?_) fun e s' hs=>hs
 have fin:∀{σ' :St}{H' :Hp}{v:V}{u:Value},Inv (nB CX P w K mg base N qual scope f cdv A outer s H E) [] σ' H' s' ->RelV v u->Q v H' ->CE outer P w H s Q u s' :=
  fun{σ' H' v u} J rv q=>⟨v,H',J.os,J.bare,J.base,J.hok,rv,q⟩
 cases fl with
 | ret u =>
  obtain⟨v,σ',H',J,rv,q⟩:=hs;exact fin J rv q
 | next =>
  obtain⟨σ',H',J,q⟩:=hs;exact fin (v:=V.non) (u:=Value.none) J rfl q
 | brk =>
  obtain⟨_,_,_,q⟩:=hs;exact False.elim q
 | cont =>
  obtain⟨_,_,_,q⟩:=hs;exact False.elim q
section
variable{X:Cx}{x:Str}{p pos:Pos}{e:Expr}{es:List Expr}{t:TA}{id T:String}{r:List V->Hp->VK->Prop}
noncomputable def tCB(r:List V->Hp->VK->Prop)(t:TA):TE:=fun σ H Q=>t σ H fun vs H1=>r vs H1 Q
theorem dN(hc:bI X (.builtin id) r)(hg:Gl X x)(hm:X.mg x=none)(hv:bootBuiltins x=some (.builtin id))(ha:PA X (e::es) t)(hn:x≠"__name__":=by decide)(hdb:(x==("__debug__":Str))=false:=by decide)
  (he:starEach (e::es) X.env=(false,eval e X.env)::starEach es X.env:=by rfl) (hpl:(backTo pos (starEach es X.env)).any (·.1)=false:=by rfl):PE X (.Call (.Name x p) (e::es) [] pos) (tCB r t):=by
 intro pins s σ H Q I h;refine wpAny_Call_Name_kw (dF I hg hm hv ?_ hn hdb);exact PyProof.Rows.callWith_builtin1 (al (ha pos pins s σ H _ I h) fun us s1 ⟨vs,H1,I1,r1,q1⟩=>hc pins s1 σ H1 vs us Q I1 r1 q1) he hpl
theorem cX(hc:bI X (.type T) r)(hg:Gl X x)(hm:X.mg x=none)(hv:bootBuiltins x=some (.type T))(ha:PA X (e::es) t)(hn:x≠"__name__":=by decide)(hdb:(x==("__debug__":Str))=false:=by decide)
  (he:starEach (e::es) X.env=(false,eval e X.env)::starEach es X.env:=by rfl) (hpl:(backTo pos (starEach es X.env)).any (·.1)=false:=by rfl):PE X (.Call (.Name x p) (e::es) [] pos) (tCB r t):=by
 intro pins s σ H Q I h;refine wpAny_Call_Name_kw (dF I hg hm hv ?_ hn hdb);exact Ir (al (ha pos pins s σ H _ I h) fun us s1 ⟨vs,H1,I1,r1,q1⟩=>hc pins s1 σ H1 vs us Q I1 r1 q1) he hpl
end
end L2
namespace HT
open PySem PyProof.Rows
section
open PySem.SeqAt
open PySem.AutoSeq1 (wpAny_loadPart')
open PySem.MeetsSeq PySem.MeetsSeq2 PySem.MeetsSeq3
end
section
variable{prog:Program}{w:World}{A:Around}{E:Value->Shared->Prop}{s:Shared}
noncomputable def kq(n d:Nat):Option Int->Nat
 | none=>d
 | some v=>if v<0 then(v+(n:Int)).toNat else min v.toNat n
theorem wO(n d:Nat):kq n d none=d:=rfl
theorem zT(n d k:Nat):kq n d (some (k:Int))=min k n:=by
 show(if(k:Int)<0 then((k:Int)+(n:Int)).toNat else min (k:Int).toNat n)=min k n;rw[Hl (by omega),J9]
end
end HT
namespace L2
open PySem PySem.Spec PyProof.Rows
noncomputable abbrev TO:=St->Hp->(Option Int->Hp->Prop)->Prop
noncomputable def PO(X:Cx)(e:Option Expr)(t:TO):Prop :=
 ∀(pins:List (Addr×Obj))(s:Shared)(σ:St)(H:Hp)(Q:Option Int->Hp->Prop),Inv X pins σ H s->t σ H Q ->
  wpAny (model X.prog X.w) X.A (evalPart e X.env) (fun u s' =>∃o H',Inv X pins σ H' s' /\IsPart u o/\Q o H') X.xe s
noncomputable def zM:TO:=fun _ H Q=>Q none H
noncomputable def FR(t:TE):TO:=fun σ H Q=>t σ H fun x H1=>∃i,x=.int i/\Q (some i) H1
theorem intsAre_of{ns:List Int}:∀{us:List Value},aT (ns.map V.int) us->IntsAre us ns:=by
 induction ns with
 | nil=>intro us r;rw[Ip]at r;cases r;exact .nil
 | cons n ns ih =>
  intro us r;rw[Hf]at r;cases r with
  | cons r1 r2 =>
   obtain⟨t,e⟩:=r1;subst e;exact .cons n t (ih r2)
section
variable{X:Cx}{e:Expr}{te:TE}{lo hi:Option Expr}{tl th:TO}{pos p2:Pos}
theorem zr:PO X none zM:=by
 intro pins s σ H Q I h;rw[evalPart_none];exact Hq ⟨none,H,I,.none,h⟩
theorem zq(h:PE X e te):PO X (some e) (FR te):=by
 intro pins s σ H Q I hw;rw[evalPart_some];refine al (h pins s σ H _ I hw) fun u s1 hpq=> ?_;obtain⟨x,H1,I1,r1,q1⟩:=hpq;obtain⟨i,rfl,q⟩:=q1;obtain⟨t,rfl⟩:=r1;exact⟨some i,H1,I1,.int i t,q⟩
noncomputable def SlR(X:Cx)(r:V->Option Int->Option Int->Hp->VK->Prop):Prop :=
 ∀(pins:List (Addr×Obj))(s:Shared)(σ:St)(H:Hp)(x:V)(v vl vu:Value)(lo hi:Option Int)(sl:Addr)(Q:VK),Inv X pins σ H s->RelV x v->s.heap.IsSliceOf sl vl vu .none->IsPart vl lo->IsPart vu hi->r x lo hi H Q ->
  ∃T id,typeLookup (.type T) "__getitem__"=pure (some (.builtin id))/\s.TypeIs v T/\wpAny (model X.prog X.w) X.A (getItem v (.ref sl)) (EP X pins σ Q) X.xe s
noncomputable def tSl(r:V->Option Int->Option Int->Hp->VK->Prop)(te:TE)(tl th:TO):TE:=fun σ H Q=>te σ H fun x H1=>tl σ H1 fun l H2=>th σ H2 fun u H3=>r x l u H3 Q
theorem ww{r:V->Option Int->Option Int->Hp->VK->Prop}(hr:SlR X r)(he:PE X e te)(hl:PO X lo tl)(hu:PO X hi th):PE X (.Subscript e (.Slice lo hi none p2) pos) (tSl r te tl th):=by
 intro pins s σ H Q I h;refine Subscript_ (al (he pins s σ H _ I h) fun v s1 hpq=> ?_);obtain⟨x,H1,I1,r1,q1⟩:=hpq;refine wpAny_Slice (al (hl pins s1 σ H1 _ I1 q1) fun vl s2 ⟨l,H2,I2,pl,q2⟩=>al (hu pins s2 σ H2 _ I2 q2) fun vu s3 hpq=> ?_);obtain⟨u,H3,I3,pu,q3⟩:=hpq;rw[evalPart_none];refine Hq ?_;have I4:Inv X pins σ H3 {s3 with heap:=s3.heap.push {cls:=.type "slice",data:=.fields #[vl,vu,.none]}}:=I3.kept (t' :=s3.toks) fun b ob q=>Ha _ q;obtain⟨T,id,hT,ht,hg⟩:=hr pins {s3 with heap:=s3.heap.push {cls:=.type "slice",data:=.fields #[vl,vu,.none]}} σ H3 x v vl vu l u s3.heap.objs.size Q I4 r1 (Heap.IsSliceOf.new ..) pl pu q3;show wpAny (model X.prog X.w) X.A (subscriptTail e (.Slice lo hi none p2) v (.ref s3.heap.objs.size)) (EP X pins σ Q) X.xe {s3 with heap:=s3.heap.push {cls:=.type "slice",data:=.fields #[vl,vu,.none]}};exact tail_any (ops:=[.ref s3.heap.objs.size,v]) ht hT hg (by with_unfolding_all rfl)
noncomputable def uw(xs:List V)(lo hi:Option Int):List V:=(xs.drop (HT.kq xs.length 0 lo)).take (HT.kq xs.length xs.length hi-HT.kq xs.length 0 lo)
theorem pM(xs:List V)(lo hi:Option Int):(uw xs lo hi).length<=xs.length:=by
 unfold uw;rw[JX,List.length_drop];omega
end
noncomputable def xg(n:Nat)(i:Int):Option Nat:=if 0<=i then(if i<n then some i.toNat else none)else if -(n:Int)<=i then some (i+n).toNat else none
noncomputable def dH{α:Type}(xs:List α)(i:Int):Option α:=(xg xs.length i).bind fun j=>xs[j]?
theorem tD{n:Nat}{i:Int}{j:Nat}(h:xg n i=some j):seqIndex? i n=some j/\j<n/\ -(n:Int)<=i/\i<n:=by
 unfold xg at h
 by_cases h0:0<=i
 ·rw[Hr h0]at h
  by_cases h1:i<n
  ·rw[Hr h1]at h
   have e:i.toNat=j:=IB h;exact⟨by rw[seqIndex_of h0 h1,e],by omega,by omega,h1⟩
  ·rw[Hl h1]at h;cases h
 ·rw[Hl h0]at h
  by_cases h1: -(n:Int)<=i
  ·rw[Hr h1]at h
   have e:(i+n).toNat=j:=IB h;exact⟨by rw[seqIndex_neg (by omega) h1,e],by omega,h1,by omega⟩
  ·rw[Hl h1]at h;cases h
theorem nG{α:Type}{xs:List α}{i:Int}{v:α}(h:dH xs i=some v):∃j,seqIndex? i xs.length=some j/\xs[j]? =some v/\j<xs.length/\ -(xs.length:Int)<=i/\i<xs.length:=by
 unfold dH at h;cases e:xg xs.length i with
 | none=>rw[e]at h;cases h
 | some j =>
  rw[e]at h;obtain⟨h1,h2,h3,h4⟩:=tD e;exact⟨j,h1,h,h2,h3,h4⟩
theorem bJ{α:Type}{xs:List α}{j:Nat}{v:α}(h:xs[j]? =some v):dH xs (j:Int)=some v:=by
 have hj:j<xs.length:=(Hh.mp h).1;have e:xg xs.length (j:Int)=some j:=by
  unfold xg;rw[Hr (by omega),Hr (by omega)];simp
 unfold dH;rw[e];exact h
noncomputable def tj(b:Expr):Prop:=∀o i,subscripted b false o i=operate [o,i] (getItem o i)
noncomputable def HQ(X:Cx)(r:R2):Prop :=
 ∀(value slice:Expr)(pins:List (Addr×Obj))(s:Shared)(σ:St)(H:Hp)(x y:V)(v u:Value)(Q:VK),Inv X pins σ H s->RelV x v->RelV y u->r x y H Q ->
  subscripted slice false v u=operate [v,u] (getItem v u)->wpAny (model X.prog X.w) X.A (subscriptTail value slice v u) (EP X pins σ Q) X.xe s
noncomputable def MtR(X:Cx)(id:String)(r:V->List V->Hp->VK->Prop):Prop :=
 ∀(pins:List (Addr×Obj))(s:Shared)(σ:St)(H:Hp)(x:V)(xs:List V)(v:Value)(us:List Value)(Q:VK),Inv X pins σ H s->RelV x v->aT xs us->r x xs H Q ->
  wpAny (model X.prog X.w) X.A (call (.builtin id) (v::us)) (EP X pins σ Q) X.xe s
section
variable{X:Cx}{a b:Expr}{ta tb:TE}{pos:Pos}
theorem io{r:R2}(hr:HQ X r)(ha:PE X a ta)(hb:PE X b tb)(hs:tj b):PE X (.Subscript a b pos) (tOp r ta tb):=by
 intro pins s σ H Q I h;exact Subscript_ (EM ha hb I h fun v u s2 x y H2 I2 rx ry q=>hr a b pins s2 σ H2 x y v u Q I2 rx ry q (hs _ _))
noncomputable def rIxL(K:W.Frag):R2:=fun x y H Q=>∃p xs i v,x=.ref p/\y=.int i/\bB K H p xs/\dH xs i=some v/\Q v H
noncomputable def rIxT(K:W.Frag):R2:=fun x y H Q=>∃p xs i v,x=.ref p/\y=.int i/\cT K H p xs/\dH xs i=some v/\Q v H
noncomputable def rIxS:R2:=fun x y H Q=>∃z i c,x=.str z/\y=.int i/\z.length<=sizeLine/\dH z.cps.toList i=some c/\Q (.str ⟨#[c]⟩) H
theorem fC:HQ X (rIxL X.K):=by
 intro value slice pins s σ H x y v u Q I rx ry h hs;obtain⟨p,xs,i,z,rfl,rfl,hq,he,q⟩:=h;cases rx;obtain⟨t,rfl⟩:=ry;obtain⟨its,r,pl,hz⟩:=I.list hq;obtain⟨j,h1,h2,h3,h4,h5⟩:=nG he;obtain⟨w,ew,rw'⟩:=r.get h2;have hl:=r.length;have hn:=gE;have fin:EP X pins σ Q w s:=⟨z,H,I,rw',q⟩
 by_cases h0:0<=i
 ·have hj:i.toNat=j:=by
   rw[seqIndex_of h0 h5]at h1;exact IB h1
  exact item_listR pl.isList h0 (by omega) (by rw[hj];simpa using ew) fin hs
 ·have hj:(i+(its.toArray.size:Int)).toNat=j:=by
   rw[seqIndex_neg (by omega) h4]at h1;rw[Hu,<-hl];exact IB h1
  exact subscriptTail_builtinR (x:=w) pl.isList.typeIs slot_list_getitem.lookup
   (wpAny_getItem_list_neg (Q:=fun r s' =>r=w/\EP X pins σ Q r s') pl.isList (by omega) (by rw[Hu]<;>omega) (by omega) (by rw[hj];simpa using ew) ⟨rfl,fin⟩) hs
theorem iP:HQ X (rIxT X.K):=by
 intro value slice pins s σ H x y v u Q I rx ry h hs;obtain⟨p,xs,i,z,rfl,rfl,hq,he,q⟩:=h;cases rx;obtain⟨t,rfl⟩:=ry;obtain⟨its,r,pl,hz⟩:=I.tuple hq;obtain⟨j,h1,h2,h3,h4,h5⟩:=nG he;obtain⟨w,ew,rw'⟩:=r.get h2;have hl:=r.length;have hn:=gE;have fin:EP X pins σ Q w s:=⟨z,H,I,rw',q⟩
 exact subscriptTail_builtinR (x:=w) pl.typeIs slot_tuple_getitem.lookup
  (getItem_tuple (j:=j) (Q:=fun r s' =>r=w/\EP X pins σ Q r s') pl (by omega) (by omega) (by rw[Hu,<-hl];exact h1) (by simpa using ew) ⟨rfl,fin⟩) hs
theorem DR:HQ X rIxS:=by
 intro value slice pins s σ H x y v u Q I rx ry h hs;obtain⟨z,i,c,rfl,rfl,hz,he,q⟩:=h;obtain⟨t,rfl⟩:=rx;obtain⟨t',rfl⟩:=ry;obtain⟨j,h1,h2,h3,h4,h5⟩:=nG he;have hl:z.cps.toList.length=z.length:=by simp[Str.length]
 rw[hl]at h1 h4 h5;have hn:=gE
 exact tail_any (typeIs_str s z t) slot_str_getitem.lookup (getItem_str (c:=c) (by
  have e1:decide (i< -(2^63:Int))=false:=Ij (by omega);have e2:decide (i ≥ 2^63)=false:=Ij (by omega);rw[e1,e2,Bool.or_false]) (by rw[h1];simpa using h2) ⟨.str ⟨#[c]⟩,H,I.tok _,⟨_,rfl⟩,q⟩) hs
theorem qo(its:List Value)(n j:Nat)(u:Value):Obj.mapSeq (·.setIfInBounds j u) {cls:=.type "list",data:=.seq its.toArray n}={cls:=.type "list",data:=.seq (its.set j u).toArray n}:=by
 simp[Obj.mapSeq]
theorem Inv.lst{pins:List (Addr×Obj)}{σ:St}{H:Hp}{s:Shared}{p:Addr}{xs:List V}(I:Inv X pins σ H s)(h:H p=some (.lst xs)) :
  ∃(its:List Value)(n:Nat),aT xs its/\s.heap.get? p=some {cls:=.type "list",data:=.seq its.toArray n}/\xs.length<=sizeLine:=by
 obtain⟨z,its,n,r,e⟩:=I.hok p _ h;exact⟨its,n,r,e,z⟩
theorem Inv.lstUpd{pins:List (Addr×Obj)}{σ:St}{H:Hp}{s:Shared}{p:Addr}{xs ys:List V}{its its' :List Value}{n n' :Nat}{f:Obj->Obj}(I:Inv X pins σ H s)(h:H p=some (.lst xs))
  (ho:s.heap.get? p=some {cls:=.type "list",data:=.seq its.toArray n}) (hf:f {cls:=.type "list",data:=.seq its.toArray n}={cls:=.type "list",data:=.seq its'.toArray n'}) (r:aT ys its') (hz:ys.length<=sizeLine) (t:Nat) :
  Inv X pins σ (upd H p (.lst ys)) {s with heap:=s.heap.update p f,toks:=t}:=by
 have e:(s.heap.update p f).get? p=some {cls:=.type "list",data:=.seq its'.toArray n'}:=by
  rw[JD f ho (by rw[hf]<;>rfl),hf]
 refine I.write (x:=p) (e:=p) (by rw[h];trivial) (.inl rfl) (fun b u hb q=>(Iu _ _ (Ja hb)).trans q) ⟨_,e⟩ ?_;exact⟨hz,its',n',r,e⟩
noncomputable def Fv:V->V->V->Hp->(Hp->Prop)->Prop:=fun o i v H Q=>∃p xs k j,o=.ref p/\i=.int k/\H p=some (.lst xs)/\xg xs.length k=some j/\Q (upd H p (.lst (xs.set j v)))
theorem wL:HC X Fv:=by
 intro pins s σ H o i v ov iv u Q I ro ri rv h;obtain⟨p,xs,k,j,rfl,rfl,hp,hj,q⟩:=h;cases ro;obtain⟨t,rfl⟩:=ri;obtain⟨its,n,r,ho,hz⟩:=I.lst hp;obtain⟨h1,h2,h3,h4⟩:=tD hj;have hl:=r.length;have hn:=gE
 have I' :Inv X pins σ (upd H p (.lst (xs.set j v))) {s with heap:=s.heap.update p (Obj.mapSeq (·.setIfInBounds j u))} :=
  I.lstUpd hp ho (qo its n j u) (r.set rv j) (by rw[Iq];exact hz) s.toks
 by_cases h0:0<=k
 ·have hk:k.toNat=j:=by
   rw[seqIndex_of h0 h4]at h1;exact IB h1
  exact W.ki_setAt ho h0 (by omega) (by rw[Hu,<-hl];exact h4) (by rw[hk];exact⟨_,I',q⟩)
 ·have hk:(k+(its.toArray.size:Int)).toNat=j:=by
   rw[seqIndex_neg (by omega) h3]at h1;rw[Hu,<-hl];exact IB h1
  exact W.ki_setBack ho (by omega) (by rw[Hu,<-hl];exact h3) (by omega) (by rw[hk];exact⟨_,I',q⟩)
theorem mH(lo hi:Option Int)(n:Nat):(sliceBounds lo hi none n).1=((HT.kq n 0 lo:Nat):Int)/\(sliceBounds lo hi none n).2.1=((HT.kq n n hi:Nat):Int)/\(sliceBounds lo hi none n).2.2=1:=by
 refine⟨?_,?_,rfl⟩
 ·cases lo with
  | none=>simp[sliceBounds,HT.kq]
  | some i =>
   simp only[sliceBounds,HT.kq,Option.getD_none,show(1:Int)>0 by decide,KR]
   by_cases h:i<0
   ·simp only[h,KR]<;>omega
   ·simp only[h,if_false]<;>omega
 ·cases hi with
  | none=>simp[sliceBounds,HT.kq]
  | some i =>
   simp only[sliceBounds,HT.kq,Option.getD_none,show(1:Int)>0 by decide,KR]
   by_cases h:i<0
   ·simp only[h,KR]<;>omega
   ·simp only[h,if_false]<;>omega
theorem kO(its:List Value)(lo hi:Option Int):slicePick its.toArray lo hi none=((its.drop (HT.kq its.length 0 lo)).take (HT.kq its.length its.length hi-HT.kq its.length 0 lo)).toArray:=by
 obtain⟨h1,h2,h3⟩:=mH lo hi its.toArray.size;unfold slicePick;rw[h1,h2,h3];simp only[sliceRange_one,pick_run,Hu]<;>rfl
noncomputable def rSlL(K:W.Frag):V->Option Int->Option Int->Hp->VK->Prop:=fun x lo hi H Q=>∃a xs,x=.ref a/\bB K H a xs/\∀p,H p=none->Q (.ref p) (upd H p (.lst (uw xs lo hi)))
theorem zQ:SlR X (rSlL X.K):=by
 intro pins s σ H x v vl vu lo hi sl Q I rx hs pl pu h;obtain⟨a,xs,rfl,hx,q⟩:=h;cases rx;obtain⟨its,r,ht,hz⟩:=I.list hx;have hlen:=r.length;refine⟨"list",_,slot_list_getitem.lookup,ht.isList.typeIs,?_⟩;refine wpAny_getItem_list_slice ht.isList hs pl pu .none (by simp) ?_ (by rw[Hu]<;>omega);rw[kO,<-hlen];refine⟨.ref s.heap.objs.size,_,I.laid (t' :=s.toks) (o:=.lst (uw xs lo hi)) (fun b ob q=>Ha _ q) (Hg _) ?_,rfl,q _ (I.hok.fresh (Hg _))⟩;exact⟨Ik (pM xs lo hi) hz,_,0,(r.drop (HT.kq xs.length 0 lo)).take (HT.kq xs.length xs.length hi-HT.kq xs.length 0 lo),Hv _ rfl⟩
noncomputable def fj:V->Bool
 | .non=>true
 | .bl _=>true
 | .int _=>true
 | .str _=>true
 | _=>false
noncomputable def ve:V->V->Bool
 | .non,.non=>true
 | .bl a,.bl b=>a==b
 | .bl a,.int b=>(if a then 1 else 0)==b
 | .int a,.bl b=>a==(if b then 1 else 0)
 | .int a,.int b=>a==b
 | .str a,.str b=>a==b
 | _,_=>false
theorem Dv{A:Around}{s:Shared}{y x:V}{u v:Value}(ry:RelV y u)(rx:RelV x v)(fy:fj y=true)(fx:fj x=true):SeqAt.EqAt A s u v (ve y x):=by
 cases y with
 | non =>
  cases ry;cases x with
  | non=>cases rx;exact SeqAt.EqAt.same _
  | bl b=>cases rx;exact SeqAt.EqAt.none_bool b
  | int b=>obtain⟨t,rfl⟩:=rx;exact SeqAt.EqAt.none_int b t
  | str b=>obtain⟨t,rfl⟩:=rx;exact SeqAt.EqAt.none_str b t
  | _=>exact absurd (show false=true from fx) Hk
 | bl a =>
  cases ry;cases x with
  | non=>cases rx;exact SeqAt.EqAt.bool_none a
  | bl b=>cases rx;exact SeqAt.EqAt.bool_bool a b
  | int b=>obtain⟨t,rfl⟩:=rx;exact SeqAt.EqAt.bool_int a b t
  | str b=>obtain⟨t,rfl⟩:=rx;exact SeqAt.EqAt.bool_str a b t
  | _=>exact absurd (show false=true from fx) Hk
 | int a =>
  obtain⟨t',rfl⟩:=ry;cases x with
  | non=>cases rx;exact SeqAt.EqAt.int_none a t'
  | bl b=>cases rx;exact SeqAt.EqAt.int_bool a t' b
  | int b=>obtain⟨t,rfl⟩:=rx;exact SeqAt.EqAt.int_int a t' b t
  | str b=>obtain⟨t,rfl⟩:=rx;exact SeqAt.EqAt.int_str a t' b t
  | _=>exact absurd (show false=true from fx) Hk
 | str a =>
  obtain⟨t',rfl⟩:=ry;cases x with
  | non=>cases rx;exact SeqAt.EqAt.str_none a t'
  | bl b=>cases rx;exact SeqAt.EqAt.str_bool a t' b
  | int b=>obtain⟨t,rfl⟩:=rx;exact SeqAt.EqAt.str_int a t' b t
  | str b=>obtain⟨t,rfl⟩:=rx;exact SeqAt.EqAt.str_str a t' b t
  | _=>exact absurd (show false=true from fx) Hk
 | _=>exact absurd (show false=true from fy) Hk
noncomputable def qw(x:V)(u:Value):Bool:=match u with
 | .none=>ve .non x
 | .bool b=>ve (.bl b) x
 | .int i _=>ve (.int i) x
 | .str z _=>ve (.str z) x
 | _=>false
theorem yB{x y:V}{u:Value}(r:RelV y u)(f:fj y=true):qw x u=ve y x:=by
 cases y with
 | non=>cases r;rfl
 | bl b=>cases r;rfl
 | int i=>obtain⟨t,rfl⟩:=r;rfl
 | str z=>obtain⟨t,rfl⟩:=r;rfl
 | _=>exact absurd (show false=true from f) Hk
theorem hV{x:V}:∀{xs:List V}{us:List Value},aT xs us->xs.all fj=true->us.any (qw x)=xs.any fun y=>ve y x
 | _,_,.nil,_=>rfl
 | y::xs,u::us,.cons r t,f=>by
  rw[KH,Hb]at f;rw[J1,J1,yB r f.1,hV t f.2]
theorem eI{A:Around}{s:Shared}{x:V}{v:Value}(rx:RelV x v)(fx:fj x=true):∀{xs:List V}{us:List Value},aT xs us->xs.all fj=true->∀u∈us,SeqAt.EqAt A s u v (qw x u)
 | _,_,.nil,_=>fun u hu=>by cases hu
 | y::xs,u::us,.cons r t,f=>fun u' hu=>by
  rw[KH,Hb]at f
  rcases Hm.mp hu with rfl|hu
  ·rw[yB r f.1];exact Dv r rx f.1 fx
  ·exact eI rx fx t f.2 u' hu
noncomputable def inV(x:V)(xs:List V):Bool:=xs.any fun y=>ve y x
noncomputable def rIn(K:W.Frag)(neg:Bool):R2:=fun x y H Q=>∃p xs,y=.ref p/\(bB K H p xs\/cT K H p xs)/\fj x=true/\xs.all fj=true/\Q (.bl (if neg then !inV x xs else inV x xs)) H
theorem uV:fG X (compareOp .In) (rIn X.K false):=by
 intro pins s σ H x y v u Q I rx ry h;obtain⟨p,xs,rfl,hq,fx,fs,q⟩:=h;cases ry
 rcases hq with hq|hq
 ·obtain⟨its,r,pl,hz⟩:=I.list hq
  refine SeqAt.in_listAt (qw x) pl.isList (fun w hw=>eI rx fx r fs w (by simpa using hw)) ⟨.bl _,H,I,rfl,?_⟩;rw[show its.toArray.any (qw x)=its.any (qw x)by simp,hV r fs];exact q
 ·obtain⟨its,r,pl,hz⟩:=I.tuple hq
  refine SeqAt.in_tupleAt (qw x) pl (fun w hw=>eI rx fx r fs w (by simpa using hw)) ⟨.bl _,H,I,rfl,?_⟩;rw[show its.toArray.any (qw x)=its.any (qw x)by simp,hV r fs];exact q
theorem mQ:fG X (compareOp .NotIn) (rIn X.K true):=by
 intro pins s σ H x y v u Q I rx ry h;obtain⟨p,xs,rfl,hq,fx,fs,q⟩:=h;cases ry
 rcases hq with hq|hq
 ·obtain⟨its,r,pl,hz⟩:=I.list hq
  refine SeqAt.notIn_listAt (qw x) pl.isList (fun w hw=>eI rx fx r fs w (by simpa using hw)) ⟨.bl _,H,I,rfl,?_⟩;rw[show its.toArray.any (qw x)=its.any (qw x)by simp,hV r fs];exact q
 ·obtain⟨its,r,pl,hz⟩:=I.tuple hq
  refine SeqAt.notIn_tupleAt (qw x) pl (fun w hw=>eI rx fx r fs w (by simpa using hw)) ⟨.bl _,H,I,rfl,?_⟩;rw[show its.toArray.any (qw x)=its.any (qw x)by simp,hV r fs];exact q
theorem dq:bI X (.builtin "len") (fun xs H Q=>∃p ys,xs=[.ref p]/\(bB X.K H p ys\/cT X.K H p ys)/\Q (.int ys.length) H):=by
 intro pins s σ H xs us Q I r h;obtain⟨p,ys,rfl,hq,q⟩:=h;obtain⟨u,rfl,rx⟩:=vals1 r;cases rx;have hn:=gE
 rcases hq with hq|hq
 ·obtain⟨its,r',pl,hz⟩:=I.list hq
  have hlen:=r'.length;exact Calls.call_len_list pl.isList (by simp only[Hu]<;>omega) ⟨.int ys.length,H,I.tok _,⟨s.toks+1,by rw[Hu,hlen]⟩,q⟩
 ·obtain⟨its,r',pl,hz⟩:=I.tuple hq
  have hlen:=r'.length;exact len_tuple pl (by simp only[Hu]<;>omega) ⟨.int ys.length,H,I.tok _,⟨s.toks+1,by rw[Hu,hlen]⟩,q⟩
theorem nD:bI X (.builtin "len") (fun xs H Q=>∃z,xs=[.str z]/\z.length<=sizeLine/\Q (.int z.length) H):=by
 intro pins s σ H xs us Q I r h;obtain⟨z,rfl,hz,q⟩:=h;obtain⟨u,rfl,t,rfl⟩:=vals1 r;have hn:=gE;exact len_str (by omega) ⟨.int z.length,H,I.tok _,⟨_,rfl⟩,q⟩
theorem dk:bI X (.type "list") (fun xs H Q=>∃p ys,xs=[.ref p]/\(bB X.K H p ys\/cT X.K H p ys)/\∀l,H l=none->Q (.ref l) (upd H l (.lst ys))):=by
 intro pins s σ H xs us Q I r h;obtain⟨p,ys,rfl,hq,q⟩:=h;obtain⟨u,rfl,rx⟩:=vals1 r;cases rx
 have fin:∀(its:List Value),aT ys its->ys.length<=sizeLine->∀(h' :Heap)(c' :Nat),(∀b o',s.heap.get? b=some o' ->h'.get? b=some o') ->
   h'.get? s.heap.objs.size=some {cls:=.type "list",dict:=none,data:=.seq its.toArray c',slots:= #[]}->EP X pins σ Q (.ref s.heap.objs.size) {s with heap:=h'}:=fun its r' hz h' c' kp e =>
  ⟨.ref s.heap.objs.size,_,I.laid (t' :=s.toks) kp (Hg _) (show am X.prog X.w _ h' _ (.lst ys)from⟨hz,its,c',r',e⟩),rfl,q _ (I.hok.fresh (Hg _))⟩
 rcases hq with hq|hq
 ·obtain⟨its,r',pl,hz⟩:=I.list hq
  have hlen:=r'.length;obtain⟨o,ho,hc,n,hd⟩:=pl.isList;exact call_list_seq p (.inl rfl) ho hc hd (fun h' c' kp e=>fin its r' hz h' c' kp e) (by simp only[Hu]<;>omega)
 ·obtain⟨its,r',pl,hz⟩:=I.tuple hq
  have hlen:=r'.length;obtain⟨o,ho,hc,n,hd⟩:=pl;exact call_list_seq p (.inr rfl) ho hc hd (fun h' c' kp e=>fin its r' hz h' c' kp e) (by simp only[Hu]<;>omega)
theorem kZ:bI X (.type "tuple") (fun xs H Q=>∃p ys,xs=[.ref p]/\((bB X.K H p ys/\∀l,H l=none->Q (.ref l) (upd H l (.tup ys)))\/(cT X.K H p ys/\Q (.ref p) H))):=by
 intro pins s σ H xs us Q I r h;obtain⟨p,ys,rfl,h⟩:=h;obtain⟨u,rfl,rx⟩:=vals1 r;cases rx
 rcases h with⟨hq,q⟩|⟨hq,q⟩
 ·obtain⟨its,r',pl,hz⟩:=I.list hq
  have hlen:=r'.length;refine call_tuple_list pl.isList (fun h' kp=> ?_) (by simp only[Hu]<;>omega);have I1:Inv X pins σ H {s with heap:=h'}:=I.kept (t' :=s.toks) kp
  have I2:Inv X pins σ (upd H h'.objs.size (.tup ys)) {s with heap:=h'.push {cls:=.type "tuple",data:=.seq its.toArray}} :=
   I1.laid (t' :=s.toks) (fun b o e=>Ha _ e) (Hg _) (show am X.prog X.w _ _ _ (.tup ys)from⟨hz,its,r',ii.new _ _⟩)
  exact⟨.ref h'.objs.size,_,I2,rfl,q _ (I1.hok.fresh (Hg _))⟩
 ·obtain⟨its,r',pl,hz⟩:=I.tuple hq
  exact call_tuple_same pl ⟨.ref p,H,I,rfl,q⟩
noncomputable def tyV(K:W.Frag)(T:String)(x:V)(H:Hp):Prop:=match x with
 | .str _=>T="str"
 | .int _=>T="int"
 | .ref p=>(T="list"/\∃xs,bB K H p xs)\/(T="tuple"/\∃xs,cT K H p xs) \/
   (T="dict"/\((∃kvs,H p=some (.dK kvs))\/∃kvs,H p=some (.dT kvs)))\/(T="set"/\∃S n,H p=some (.set S n))
 | _=>False
theorem vv{pins:List (Addr×Obj)}{σ:St}{H:Hp}{s:Shared}{T:String}{x:V}{v:Value}(I:Inv X pins σ H s)(r:RelV x v)(ty:tyV X.K T x H) :
  s.TypeIs v T/\∀a,v=.ref a->∃ob,s.heap.get? a=some ob/\ob.dict=none:=by
 cases x with
 | str z =>
  obtain⟨t,rfl⟩:=r;cases(show T="str" from ty);exact⟨typeIs_str s z t,fun _ e=>nomatch e⟩
 | int i =>
  obtain⟨t,rfl⟩:=r;cases(show T="int" from ty);exact⟨typeIs_int s i t,fun _ e=>nomatch e⟩
 | ref p =>
  cases r
  rcases ty with⟨rfl,xs,hq⟩|⟨rfl,xs,hq⟩|⟨rfl,hk⟩|⟨rfl,S,n,hk⟩
  ·obtain⟨its,_,pl,_⟩:=I.list hq
   refine⟨pl.isList.typeIs,fun a e=> ?_⟩;cases e;obtain⟨o,n,e,c,hd,_⟩:=pl;exact⟨o,e,hd⟩
  ·obtain⟨o,e1,e2,e3⟩:=I.tupleD hq
   refine⟨⟨o,e1,e2⟩,fun a e=> ?_⟩;cases e;exact⟨o,e1,e3⟩
  ·have z:∃o,s.heap.get? p=some o/\o.ExactDict:=by
    rcases hk with⟨kvs,hk⟩|⟨kvs,hk⟩
    ·obtain⟨_,_,_,_,o,_,_,e,ex,_⟩:=I.hok p _ hk
     exact⟨o,e,ex⟩
    ·obtain⟨_,_,_,_,o,_,_,e,ex,_⟩:=I.hok p _ hk
     exact⟨o,e,ex⟩
   obtain⟨o,e,ex⟩:=z;refine⟨⟨o,e,ex.1⟩,fun a e2=> ?_⟩;cases e2;exact⟨o,e,ex.2.1⟩
  ·obtain⟨o,_,_,_,e,ex,_⟩:=I.hok p _ hk
   refine⟨⟨o,e,ex.1⟩,fun a e2=> ?_⟩;cases e2;exact⟨o,e,ex.2.1⟩
 | _=>exact False.elim ty
noncomputable def tBM0(K:W.Frag)(T:String)(r:V->List V->Hp->VK->Prop)(to:TE):TE:=fun σ H Q=>to σ H fun x H1=>tyV K T x H1/\r x [] H1 Q
noncomputable def tBM(K:W.Frag)(T:String)(r:V->List V->Hp->VK->Prop)(to:TE)(t:TA):TE:=fun σ H Q=>to σ H fun x H1=>tyV K T x H1/\t σ H1 fun xs H2=>r x xs H2 Q
variable{o e:Expr}{es:List Expr}{to:TE}{t:TA}{name:Str}{apos cpos:Pos}{T id:String}{r:V->List V->Hp->VK->Prop}
theorem qb(pa:PlainAttrs T)(slot:Slot T name id)(hty:typeOf (.builtin id)=pure (.type "method_descriptor"))(hm:MtR X id r)(ho:PE X o to)
  (hbase:attributeBase o name X.env (eval o X.env)=eval o X.env:=by rfl) (hline:(apos.endLine==cpos.line)=true:=by rfl):PE X (.Call (.Attribute o name apos) [] [] cpos) (tBM0 X.K T r to):=by
 intro pins s σ H Q I h;refine wpAny_Call_method0_late hbase hline (al (ho pins s σ H _ I h) fun v s1 hpq=> ?_);obtain⟨x,H1,I1,r1,ty,q1⟩:=hpq;obtain⟨h1,h2⟩:=vv I1 r1 ty;exact⟨T,id,pa,slot,hty,h1,h2,KL rfl (PySem.evalArgs_none (hm pins s1 σ H1 x [] v [] Q I1 r1 .nil q1))⟩
theorem si(pa:PlainAttrs T)(slot:Slot T name id)(hty:typeOf (.builtin id)=pure (.type "method_descriptor"))(hm:MtR X id r)(ho:PE X o to)(ha:PA X (e::es) t)
  (hbase:attributeBase o name X.env (eval o X.env)=eval o X.env:=by rfl)
  (hfew:((backTo cpos (starEach (e::es) X.env)).all (fun x=> !x.1)&&(backToKw cpos (keywordEach [] X.env)).all (fun x=>x.1.isSome)
   && decide ((e::es).length+([]:List Keyword).length+(if([]:List Keyword).isEmpty then 0 else 1)<30))=true:=by rfl)
  (hline:(apos.endLine==cpos.line)=true:=by rfl) (hs:starEach (e::es) X.env=(false,eval e X.env)::starEach es X.env:=by rfl) (hplain:(backTo cpos (starEach es X.env)).any (·.1)=false:=by rfl) :
  PE X (.Call (.Attribute o name apos) (e::es) [] cpos) (tBM X.K T r to t):=by
 intro pins s σ H Q I h;refine wpAny_Call_method_late hbase hfew hline rfl (al (ho pins s σ H _ I h) fun v s1 hpq=> ?_);obtain⟨x,H1,I1,r1,ty,q1⟩:=hpq;obtain⟨h1,h2⟩:=vv I1 r1 ty;refine⟨T,id,pa,slot,hty,h1,h2,?_⟩;have hA:=ha cpos pins s1 σ H1 _ I1 q1;rw[hs]at hA ⊢;refine KL (by show(false||(backTo cpos (starEach es X.env)).any (·.1))=false;rw[hplain]<;>rfl) (Calls.evalArgs_plain ?_);exact al hA fun us s2 ⟨vs,H2,I2,r2,q2⟩=>hm pins s2 σ H2 x vs v us Q I2 r1 r2 q2
end
noncomputable def MtM(X:Cx)(id:String)(r:V->List V->Hp->VK->Prop):Prop :=
 ∀(pins:List (Addr×Obj))(s:Shared)(σ:St)(H:Hp)(x:V)(xs:List V)(v:Value)(us:List Value)(Q:VK),Inv X pins σ H s->RelV x v->aT xs us->r x xs H Q ->
  wpAny (model X.prog X.w) X.A (call (.builtin id) (v::us)) (EP X pins σ Q) X.xe s
theorem aT.one{x:V}{us:List Value}(h:aT [x] us):∃u,us=[u]/\RelV x u:=vals1 h
theorem aT.two{x y:V}{us:List Value}(h:aT [x,y] us):∃u v,us=[u,v]/\RelV x u/\RelV y v:=vals2 h
theorem aT.zero:∀{us:List Value},aT [] us->us=[]
 | _,.nil=>rfl
theorem aT.reverse{xs:List V}{us:List Value}(h:aT xs us):aT xs.reverse us.reverse:=by
 induction h with
 | nil=>exact .nil
 | cons r t ih=>rw[List.reverse_cons,List.reverse_cons];exact aT.append ih (.cons r .nil)
section
variable{X:Cx}{pins:List (Addr×Obj)}{σ:St}{H:Hp}{s:Shared}{l b:Addr}{xs ys zs:List V}
theorem Inv.lset{its its' :List Value}{n:Nat}{f:Array Value->Array Value}{t' :Nat}(I:Inv X pins σ H s)(hH:H l=some (.lst xs))
  (e:s.heap.get? l=some {cls:=.type "list",data:=.seq its.toArray n}) (hf:f its.toArray=its'.toArray) (hv:aT ys its') (hz:ys.length<=sizeLine) :
  Inv X pins σ (upd H l (.lst ys)) {s with heap:=s.heap.update l (Obj.mapSeq f),toks:=t'}:=by
 have q:=PySem.IsL.update e f;rw[hf]at q;refine I.write (x:=l) (e:=l) (by rw[hH];exact trivial) (.inl rfl) (fun b' u hb hu=>(Iu s.heap (Obj.mapSeq f) (Ja hb)).trans hu) ⟨_,q⟩ ?_;exact⟨hz,its',_,hv,q⟩
theorem Inv.lnew{its:List Value}{t' :Nat}(I:Inv X pins σ H s)(hv:aT ys its)(hz:ys.length<=sizeLine) :
  Inv X pins σ (upd H s.heap.objs.size (.lst ys)) {s with heap:=s.heap.push {cls:=.type "list",data:=.seq its.toArray},toks:=t'} :=
 I.laid (fun _ _ q=>Ha _ q) (Hg _) ⟨hz,its,0,hv,Hv _ rfl⟩
theorem Inv.fresh(I:Inv X pins σ H s):H s.heap.objs.size=none:=I.hok.fresh (Hg _)
theorem Inv.lstM(I:Inv X pins σ H s)(hH:H l=some (.lst xs)):xs.length<=sizeLine/\∃(its:List Value)(n:Nat),aT xs its/\xs.length=its.length/\s.heap.get? l=some {cls:=.type "list",data:=.seq its.toArray n}:=by
 obtain⟨z,its,n,r,e⟩:=I.hok l _ hH;exact⟨z,its,n,r,r.length,e⟩
end
section
variable{X:Cx}
noncomputable def zh:V->List V->Hp->VK->Prop:=fun x vs H Q=>∃l xs y,x=.ref l/\vs=[y]/\H l=some (.lst xs)/\xs.length<sizeLine/\Q .non (upd H l (.lst (xs++[y])))
theorem iL:MtM X "list.append" zh:=by
 intro pins s σ H x vs v us Q I rx rv h;obtain⟨l,xs,y,rfl,rfl,hH,hz,q⟩:=h;cases rx;obtain⟨u,rfl,ru⟩:=rv.one;obtain⟨z,its,n,r,hl,e⟩:=I.lstM hH;refine call_meets F.slot_list_append ⟨_,e,rfl⟩ F.entry_list_append (F.args_list_append_2 _ _) (PySem.list_append l its.toArray n u (by rw[Hu];omega)) ⟨e,?_⟩;refine⟨.non,_,I.lset (its' :=its++[u]) hH e (by simp) (r.append (.cons ru .nil)) ?_,rfl,q⟩;rw[IA,Jq];omega
noncomputable def CZ:V->List V->Hp->VK->Prop:=fun x vs H Q=>∃l xs,x=.ref l/\vs=[]/\H l=some (.lst xs)/\Q .non (upd H l (.lst []))
theorem xL:MtM X "list.clear" CZ:=by
 intro pins s σ H x vs v us Q I rx rv h;obtain⟨l,xs,rfl,rfl,hH,q⟩:=h;cases rx;have hus:=rv.zero;subst hus;obtain⟨z,its,n,r,hl,e⟩:=I.lstM hH;refine call_meets F.slot_list_clear ⟨_,e,rfl⟩ F.entry_list_clear (F.args_list_clear_1 _) (AutoSeq1.list_clear_list_0 l its.toArray n (by rw[Hu];omega)) ⟨e,?_⟩;exact⟨.non,_,I.lset (its' :=[]) (ys:=[]) hH e rfl .nil (IN _),rfl,q⟩
noncomputable def rCat:R2:=fun x y H Q=>∃l b xs zs,x=.ref l/\y=.ref b/\H l=some (.lst xs)/\H b=some (.lst zs)/\xs.length+zs.length<=sizeLine/\∀p,H p=none->Q (.ref p) (upd H p (.lst (xs++zs)))
theorem C1:fG X (binaryOp .Add) rCat:=by
 intro pins s σ H x y v u Q I rx ry h;obtain⟨l,b,xs,zs,rfl,rfl,hH,hB,hz,q⟩:=h;cases rx;cases ry;obtain⟨z,its,n,r,hl,e⟩:=I.lstM hH;obtain⟨z2,its2,n2,r2,hl2,e2⟩:=I.lstM hB;refine PySem.P.add_list e e2 ?_ (by rw[Hu,Hu];omega);have ea:its.toArray++its2.toArray=(its++its2).toArray:=by simp
 rw[ea];exact⟨.ref _,_,I.lnew (t' :=s.toks) (r.append r2) (by rw[IA];omega),rfl,q _ I.fresh⟩
end
section
variable{prog:Program}{w:World}{A:Around}{E:Value->Shared->Prop}{s:Shared}
end
section
variable{X:Cx}
end
end L2
namespace Att
open PySem PySem.W PySem.Calls PyProof.Rows
theorem jD{P:Params}{h:Heap}:∀(ns:List Int)(vs:List Value),WellAll P h vs (ns.map WData.int)->IntsAre vs ns:=by
 intro ns
 induction ns with
 | nil =>
  intro vs w;rw[Ip]at w;cases w;exact .nil
 | cons n ns ih =>
  intro vs w;rw[Hf]at w;cases w with
  | cons a b =>
   cases a;exact .cons _ _ (ih _ b)
theorem uO{l:OpenLaw}{n:Nat}(hn:l.most=some n){P:Params}{h:Heap}{args:List WData}{vals:List Value}
  (hpre:l.row.toRowW.claim.pre args=true) (hwl:WellAll P h vals args) :
  ∃a vs ns,vals=[Value.ref a]/\args=[WData.list (ns.map WData.int)]/\h.get? a=some {cls:=.type "list",data:=.seq vs.toArray}/\IntsAre vs ns/\ns.length<=n:=by
 have hsh:WShape.hasAll [] args [.list .int]=true:=(pre_splitW hpre).1;have hc:l.pre.holds [] {args:=args}=true:=(pre_splitW hpre).2;obtain⟨d,r,rfl,h1,h2⟩:=hasAllW_cons hsh;obtain rfl:=hasAllW_nil h2;obtain⟨xs,rfl,h3⟩:=hasW_list h1;obtain⟨ns,rfl⟩:=items_int h3;have hlen:ns.length<=n:=by
  unfold OpenLaw.pre at hc;have h4:(WTm.not (.lt (.lit (.int (n:Int))) (.len (.arg 0)))).holds [] {args:=[.list (ns.map .int)]}=true:=by
   have h4:=(holds_andW hc).1;rw[hn]at h4;exact h4
  have h5:=condW_of h4 (w_not (w_lt w_lit (w_len_list (w_arg rfl))));rw[HX]at h5;refine Nat.le_of_not_lt fun q=> ?_;have q' :(n:Int)<((ns.length:Nat):Int):=by omega
  first
   | (rw[IW q']at h5;exact absurd h5 (by decide))
   | (simp at h5;omega)
 cases hwl with
 | cons w1 w2 =>
  cases w2;cases w1 with
  | list ho hall=>exact⟨_,_,ns,rfl,rfl,ho,jD ns _ hall,hlen⟩
theorem uR(l:OpenLaw)(args:List WData):l.row.toRowW.claim.post args (.bool true) args=true :=
 postW_of (r:=l.row.toRowW) (X:=(true==true))
  (show WShape.has [] (.bool true) .bool=true by first|rfl|decide|simp[WShape.has,WShape.arms,WShape.armsAll])
  (show(WTm.eq .res (.lit (.bool true))).value [] {args:=args,res:=some (.bool true),after:=args}=some (.bool (true==true))from w_eq_bool (w_res rfl) w_lit) rfl
theorem pY{l:OpenLaw}{n:Nat}{q:Program}{loose:List Str}{XP:(Str->Option Value)->Heap->Prop}{YP:World->Heap->Prop}{d:DefRec}
  (hn:l.most=some n) (hdf:d.params.defaults=[])
  (call:∀(w:World)(s₀ s₁:Shared)(mg mb:Str->Option Value)(fa:Addr)(o:Obj)(pm cd doc:Value)(a:Addr)(vs:List Value)(ns:List Int),
   Ground q loose [] XP w s₀ mg mb s₁.heap->YP w s₁.heap ->
   s₁.heap.get? fa=some o->o.data=.func (docDef d.name d.params d.body d.scope pm cd doc)->s₁.heap.CodeRec cd d.name->mg d.name=some (.ref fa) ->
   s₁.heap.get? a=some {cls:=.type "list",data:=.seq vs.toArray}->IntsAre vs ns->ns.length<=n->s₁.gens= #[] ->
   codeAny (model l.prog w) callerA (.call (.ref fa) ⟨[.ref a],[]⟩) (fun r s' =>r=.ok (.ret (.bool true))/\OldK s₁.heap s'.heap/\s'.os=s₁.os/\AllBare s'.gens) s₁) :
  WalkO q loose XP YP l.row.toRowW d [] (fun f vs=>PySem.call f vs):=by
 intro w s₀ s₁ mg mb G Y fa o pm cd doc dV kV ho hd hcd hD hmg hg args vals as hpre hlay hrd hwl hlo;obtain rfl:dV=.none:=Dflts.none hD hdf;obtain rfl:kV=.none:=Dflts.noKw hD;obtain⟨a,vs,ns,rfl,rfl,hobj,hints,hlen⟩:=uO hn hpre hwl;refine enter_call (codeAny_mono (call w s₀ s₁ mg mb fa o pm cd doc a vs ns G Y ho (fd_plain hd) hcd hmg hobj hints hlen hg) fun r s' hq=> ?_);obtain⟨rfl,h2,h3,h4⟩:=hq;exact⟨.inl ⟨.bool true,.bool true,[],rfl,fun _=>rfl,.bool true,uR l _,fun _=>⟨List.Pairwise.nil,fun _ hm=>(nomatch hm)⟩⟩,h2,h3,h4⟩
section
variable{prog:Program}{w:World}{A:Around}{E:Value->Shared->Prop}{s:Shared}{K:Frag}
end
end Att
namespace L2
open PySem PySem.Spec PyProof.Rows
theorem uA{vs:List Value}{ns:List Int}(h:IntsAre vs ns):aT (ns.map V.int) vs:=by
 induction h with
 | nil=>exact .nil
 | cons n t h ih=>exact .cons ⟨t,rfl⟩ ih
noncomputable def Ed(H:Hp):Prop:=∀b,H b=none\/∃o xs,H b=some (.frz o (.lst xs))
theorem xW{P:Program}{w:World}{K:W.Frag}{mg mb:Str->Option Value}{CX:vR}{k:Nat}{fa a:Addr}{fd:FuncData}{x:Str}{sp:Sp}{s₁:Shared}{vs:List Value}{ns:List Int}
  (KX:K.In s₁.heap) (hns:s₁.heap.Ns mainGlobals mg) (hb:s₁.heap.Ns builtinsNs mb) (hbb:∀x:Str,x≠"__name__"->mb x=bootBuiltins x) (hlim:s₁.heap.NoLimit) (hg:s₁.gens= #[])
  (ha:s₁.heap.get? a=some {cls:=.type "list",data:=.seq vs.toArray}) (hi:IntsAre vs ns) (hl:ns.length<=sizeLine) (hr:dr k callerA)
  (F:∀base:Heap,K.In base->base.Ns mainGlobals mg->bN P w K mg base CX k fa fd [x] sp) (hbind:∀(s:Shared)(u:Value),BindsTo s fd ⟨[u],[]⟩ [(x,u)])
  (hsp:∀H:Hp,Ed H->bB K H a (ns.map V.int)->sp [.ref a] H (fun v _=>v=.bl true) fun _ _ _=>False)
  (hCX:∀H e s',CX [] H s₁ (fun _ _ _=>False) e s' ->False) :
  codeAny (model P w) callerA (.call (.ref fa) ⟨[.ref a],[]⟩) (fun r s' =>r=.ok (.ret (.bool true))/\OldK s₁.heap s'.heap/\s'.os=s₁.os/\AllBare s'.gens) s₁:=by
 have rv:=uA hi;have GI:=hi.length
 have core:∀H:Hp,Ed H->bB K H a (ns.map V.int)->eU P w H s₁.heap->(∀b,H b≠none->b=a)->(H a≠none->K.lookup a=none) ->
   codeAny (model P w) callerA (.call (.ref fa) ⟨[.ref a],[]⟩) (fun r s' =>r=.ok (.ret (.bool true))/\OldK s₁.heap s'.heap/\s'.os=s₁.os/\AllBare s'.gens) s₁:=by
  intro H hO hS hok hA hK;have base_of:∀{b:Addr}{o:Obj},s₁.heap.get? b=some o->H b=none->(mh s₁.heap H).get? b=some o:=fun e n=>xo e n;have noA:∀{b:Addr}{o:Obj}{es:Array DictEntry}{ep:Nat},s₁.heap.get? b=some o->o.data=.dict es ep->H b=none:=fun{b o es ep} e d=>by
   cases q:H b with
   | none=>rfl
   | some u =>
    have e' :b=a:=hA b (by rw[q];simp);subst e';rw[ha]at e;cases e;have d' :Data.seq vs.toArray _=Data.dict es ep:=d;cases d'
  have nsK:∀{b:Addr}{m:Str->Option Value},s₁.heap.Ns b m->(mh s₁.heap H).Ns b m:=fun{b m} ⟨o,es,ep,e,d,r⟩=>⟨o,es,ep,base_of e (noA e d),d,r⟩
  have hKb:K.In (mh s₁.heap H):=fun b o e=>base_of (KX b o e) (by
   cases q:H b with
   | none=>rfl
   | some u =>
    have e' :b=a:=hA b (by rw[q];simp);subst e';rw[hK (by rw[q];simp)]at e;cases e)
  have hM:Mod K mg (mh s₁.heap H):=⟨hKb,nsK hns,⟨mb,nsK hb,hbb⟩,let⟨mc,h1,h2⟩:=hlim;⟨mc,nsK h1,h2⟩⟩;have e0:BQ P w K mg (mh s₁.heap H) callerA [] s₁ H:=⟨rfl,hM,fun b o e=>AH e,Nat.le_of_eq (uj _ _),trivial,fun b hb=>absurd (show b∈([]:List Addr)from hb) (by simp),hok,.of_eq hg⟩;refine codeAny_mono ((F _ hKb (nsK hns)).run callerA [] s₁ H ⟨[.ref a],[]⟩ [.ref a] [.ref a] _ _ hr e0 (hbind s₁ (.ref a)) (.cons rfl .nil) (hsp H hO hS)) fun r s' h=> ?_;cases r with
  | error e=>exact(hCX H e s' h).elim
  | ok fl =>
   cases fl with
   | next=>exact False.elim h
   | brk=>exact False.elim h
   | cont=>exact False.elim h
   | ret u =>
    obtain⟨v,H',os,bare,un,hok',r',q⟩:=h;have q' :v=.bl true:=q;subst q';obtain rfl:u=Value.bool true:=r';refine⟨rfl,OldK.of_keep fun b o e=> ?_,os,bare⟩;cases q:H b with
    | none=>exact un.keep b o e q (by intro z;exact absurd (show b∈([]:List Addr)from z) (by simp)) (by simp)
    | some u =>
     rcases hO b with z|⟨ob,xs,z⟩
     ·rw[q]at z;cases z
     ·have z2:=un.frzs b ob _ z
      obtain⟨e1,_⟩:=hok b _ z;obtain⟨e2,_⟩:=hok' b _ z2;rw[e]at e1;cases e1;exact e2
 cases hk:K.lookup a with
 | some o =>
  have e:=KX a o hk;rw[ha]at e;cases e;refine core (fun _=>none) (fun _=>.inl rfl) (.inr ⟨_,vs.toArray,_,hk,rfl,rfl,rfl,by rw[Hu,GI];exact hl,by simpa using rv⟩) (fun b u z=>by have z' :(none:Option HO)=some u:=z;cases z') (fun b z=>absurd rfl z) fun z=>absurd rfl z
 | none =>
  refine core (fun b=>if b=a then some (.frz {cls:=.type "list",data:=.seq vs.toArray} (.lst (ns.map V.int)))else none) (fun b=> ?_) (.inl (.inr ⟨{cls:=.type "list",data:=.seq vs.toArray},Hr rfl⟩)) (fun b u z=> ?_) (fun b z=> ?_) fun _=>hk
  ·by_cases hb:b=a
   ·exact .inr ⟨_,_,Hr hb⟩
   ·exact .inl (Hl hb)
  ·by_cases hb:b=a
   ·have z' :=(Hr hb).symm.trans z
    cases z';subst hb;exact⟨ha,by rw[HX];exact hl,vs,_,rv,ha⟩
   ·have z' :=(Hl hb).symm.trans z
    cases z'
  ·by_cases hb:b=a
   ·exact hb
   ·exact absurd (Hl hb) z
theorem yy{l:W.OpenLaw}{n k:Nat}{q:Program}{loose:List Str}{XP:(Str->Option Value)->Heap->Prop}{YP:World->Heap->Prop}{d:DefRec}{K:Params->W.Frag}{CX:World->vR}{sp:World->Sp}{x:Str}
  (hn:l.most=some n) (hn2:n<=sizeLine) (hdf:d.params.defaults=[]) (hr:dr k callerA)
  (hY:∀(w:World)(h:Heap),YP w h->(K w.params).In h)
  (F:∀(w:World)(mg:Str->Option Value)(fa:Addr)(h:Heap),(K w.params).In h->h.Ns mainGlobals mg->mg d.name=some (.ref fa) ->
   ∃fd:FuncData,(∀(s:Shared)(u:Value),BindsTo s fd ⟨[u],[]⟩ [(x,u)]) /\
    ∀base:Heap,(K w.params).In base->base.Ns mainGlobals mg->bN l.prog w (K w.params) mg base (CX w) k fa fd [x] (sp w))
  (hsp:∀(w:World)(H:Hp)(a:Addr)(ns:List Int),ns.length<=n->Ed H->bB (K w.params) H a (ns.map V.int)->sp w [.ref a] H (fun v _=>v=.bl true) fun _ _ _=>False)
  (hCX:∀(w:World)(H:Hp)(s:Shared)(e:Value)(s' :Shared),CX w [] H s (fun _ _ _=>False) e s' ->False) :
  W.WalkO q loose XP YP l.row.toRowW d [] (fun f vs=>PySem.call f vs):=by
 refine Att.pY hn hdf fun w s₀ s₁ mg mb fa o pm cd doc a vs ns G Y ho hd hcd hmg hobj hints hlen hg=> ?_;have KX:=hY w _ Y;obtain⟨fd,hb,hF⟩:=F w mg fa _ KX G.T.g hmg;exact xW KX G.T.g G.T.b G.T.builtins G.T.nolimit hg hobj hints (Ik hlen hn2) hr hF hb (fun H hO hS=>hsp w H a ns hlen hO hS) fun H e s' =>hCX w H s₁ e s'
noncomputable def aS(s:Stmt):Arguments:=match s with
 | .FunctionDef _ a _ _ _ _ _ _ _ _=>a
 | _=>{posonlyargs:=[],args:=[],vararg:=none,kwonlyargs:=[],kw_defaults:=[],kwarg:=none,defaults:=[]}
noncomputable def aF(s:Stmt):List Stmt:=match s with
 | .FunctionDef _ _ b _ _ _ _ _ _ _=>b
 | _=>[]
noncomputable def aA(s:Stmt):Scope:=match s with
 | .FunctionDef _ _ _ _ _ _ sc _ _ _=>sc
 | _=>{kind:=.function,names:=[],isGenerator:=false,isCoroutine:=false}
noncomputable abbrev iA:vR:=fun _ _ _ _ _ _=>False
noncomputable abbrev E0:XK:=fun _ _ _=>False
theorem ip{X:Cx}:rf iA X E0:=fun _ _ _ _ _ _ _ h=>h.elim
structure Ew(K:W.Frag)(x qual:Str)(st:Stmt)(f:Addr)(fd:FuncData):Prop where
 ex:∃(oc:Value)(od:Option Addr)(kV doc pm:Value)(an:Option Addr)(cdv ct:Value)(osl:Array (Option Value)),
  fd=W.fnOf x qual (aS st) (aF st) (aA st) .none kV doc pm an cdv ct/\K.lookup f=some ⟨oc,od,.func fd,osl⟩/\W.codeIn K cdv qual=true
 kp:W.keepIn K (.ref f)=true
section
variable{P:Program}{w:World}{K:W.Frag}{mg:Str->Option Value}{base:Heap}
theorem Ew.ok{x qual:Str}{st:Stmt}{f:Addr}{fd:FuncData}{N ps:List Str}{k:Nat}{sp:Sp}(F:Ew K x qual st f fd)(S:aW N ps (aA st))(len:∀vs H Q E,sp vs H Q E->vs.length=ps.length)
  (hbody:∀(cdv:Value)(A:Around)(outer:List Env)(s:Shared)(H:Hp)(vs:List V)(Q:VK)(E:XK),dr k (A.deeper (envOfC qual (aA st) s.heap.objs.size f cdv))->sp vs H Q E ->
   ∃t,rh (nB iA P w K mg base N qual (aA st) f cdv A outer s H E).nox (aF st) t/\t {nx:=fun _ H' =>Q .non H',rt:=Q} (start N vs) H):bN P w K mg base iA (k+1) f fd ps sp:=by
 obtain⟨oc,od,kV,doc,pm,an,cdv,ct,osl,rfl,lk,hcd⟩:=F.ex;refine GR lk hcd S len fun A outer s H vs Q E hr hsp=> ?_;obtain⟨t,h,q⟩:=hbody cdv A outer s H vs Q E hr hsp;exact⟨t,h.nox,q⟩
theorem Ew.binds{x qual:Str}{st:Stmt}{f:Addr}{fd:FuncData}{ps:List Str}(F:Ew K x qual st f fd)
  (h:∀(kV doc pm:Value)(an:Option Addr)(cdv ct:Value)(us:List Value),us.length=ps.length->bindArgs (W.fnOf x qual (aS st) (aF st) (aA st) .none kV doc pm an cdv ct) ⟨us,[]⟩=pure (ps.zip us)):Binds K fd ps []:=by
 obtain⟨oc,od,kV,doc,pm,an,cdv,ct,osl,rfl,lk,hcd⟩:=F.ex;exact .all (h kV doc pm an cdv ct)
theorem xq{x qual:Str}{st:Stmt}{f:Addr}{oc:Value}{od an:Option Addr}{osl:Array (Option Value)}{kV doc pm cdv ct:Value}(l:K.lookup f=some ⟨oc,od,.func (W.fnOf x qual (aS st) (aF st) (aA st) .none kV doc pm an cdv ct),osl⟩)
  (c:W.codeIn K cdv qual=true) (k:W.keepIn K (.ref f)=true):Ew K x qual st f (W.fnOf x qual (aS st) (aF st) (aA st) .none kV doc pm an cdv ct):=⟨⟨oc,od,kV,doc,pm,an,cdv,ct,osl,rfl,l,c⟩,k⟩
end
theorem Bo{A:Around}{k:Nat}(hr:dr k A):A.units+1<cLine:=KZ (Nat.add_le_add_left (by decide:1<=64) _) hr.units
section
variable{X:Cx}
theorem pv(i:Nat){x:Str}{pos:Pos}(hN:X.N[i]? =some x:=by rfl)(hv:Et X.env.scope x:=by first|exact Or.inl rfl|exact Or.inr (Or.inl rfl)|exact Or.inr (Or.inr rfl))(hd:(x==("__debug__":Str))=false:=by decide)
  (hcd:(x==("__classdict__":Str))=false:=by decide):PE X (.Name x pos) (FO i):=je hN hv hd hcd
end
theorem jq{A B:Prop}(h:B):if false=true then A else B:=by
 rw[Hl Hk];exact h
theorem jC{A B:Prop}(h:A):if true=true then A else B:=by
 rw[Hr rfl];exact h
theorem ite2{c A B:Prop}[Decidable c](h1:c->A)(h2:¬c->B):if c then A else B:=by
 by_cases h:c
 ·rw[Hr h]
  exact h1 h
 ·rw[Hl h]
  exact h2 h
noncomputable def aC(H H' :Hp):Prop:=∀b o,H b=some o->H' b=some o
theorem aC.refl(H:Hp):aC H H:=fun _ _ h=>h
theorem aC.trans{H H1 H2:Hp}(a:aC H H1)(b:aC H1 H2):aC H H2:=fun c o h=>b c o (a c o h)
theorem aC.free{H H' :Hp}(e:aC H H'){l:Addr}(h:H' l=Option.none):H l=Option.none:=by
 cases q:H l with
 | none=>rfl
 | some o =>
  rw[e l o q]at h;cases h
theorem aC.seq{K:W.Frag}{H H' :Hp}{a:Addr}{xs:List V}(e:aC H H')(h:bB K H a xs):bB K H' a xs:=by
 rcases h with(h|⟨o,h⟩)|h
 ·exact .inl (.inl (e _ _ h))
 ·exact .inl (.inr ⟨o,e _ _ h⟩)
 ·exact .inr h
end L2
set_option maxHeartbeats 4000000
namespace UM
open PySem PySem.Builtin PySem.Builtin.Str
structure HV(m:Nat)(rows:List Str):Prop where
 some:rows≠[]
 few:rows.length<=m
 wide:∃k,1<=k/\k<=m/\∀r∈rows,r.length=k
 signs:∀r∈rows,∀c∈r.cps.toList,c=120\/c=46
end UM
namespace L2
open PySem PySem.Spec PyProof.Rows
noncomputable def g9(env:Env):List (Str×NameKind)->List (Str×Addr)->List (Str×Addr)
 | [],acc=>acc
 | (n,k)::r,acc=>if(k==NameKind.free)=true then g9 env r ((n,(env.cells.lookup n).getD 0)::acc)else g9 env r acc
theorem iV{env:Env}{n:Str}{k:NameKind}{r:List (Str×NameKind)}{acc:List (Str×Addr)}(h:(k==NameKind.free)=true) :
  g9 env ((n,k)::r) acc=g9 env r ((n,(env.cells.lookup n).getD 0)::acc):=by
 show(if(k==NameKind.free)=true then _ else _)=_;rw[Hr h]
theorem gK{env:Env}{n:Str}{k:NameKind}{r:List (Str×NameKind)}{acc:List (Str×Addr)}(h:¬(k==NameKind.free)=true) :
  g9 env ((n,k)::r) acc=g9 env r acc:=by
 show(if(k==NameKind.free)=true then _ else _)=_;rw[Hl h]
theorem pS{env:Env}{n:Str}{c:Addr}(h:env.cells.lookup n=some c):cellOf env n=pure c:=by
 unfold cellOf;rw[h]
theorem rM{scope:Scope}{env:Env}(h:∀x∈scope.names,x.2=.free->∃c,env.cells.lookup x.1=some c):closureFor scope env=pure (g9 env scope.names []):=by
 unfold closureFor
 suffices q:∀(l:List (Str×NameKind))(acc:List (Str×Addr)),(∀x∈l,x.2=.free->∃c,env.cells.lookup x.1=some c) ->
   (forIn l acc (fun(x:Str×NameKind) (r:List (Str×Addr))=>if(x.2==NameKind.free)=true then(do let a<-cellOf env x.1;pure (ForInStep.yield ((x.1,a)::r)))else pure (ForInStep.yield r)):Sem (List (Str×Addr)))=pure (g9 env l acc)by
  exact(Ix (fun m=>m >>= pure) (q scope.names [] h)).trans (by rfl)
 intro l
 induction l with
 | nil=>intro acc _;rfl
 | cons x l ih =>
  intro acc hl;obtain⟨n,k⟩:=x;rw[List.forIn_cons]
  by_cases hk:(k==NameKind.free)=true
  ·obtain⟨c,hc⟩:=hl (n,k) He (by simpa using hk)
   rw[iV hk];simp only[hk,KR];rw[pS hc];have e:(env.cells.lookup n).getD 0=c:=by rw[show env.cells.lookup n=some c from hc];rfl
   rw[e];exact ih _ fun y hy=>hl y (HZ _ hy)
  ·rw[gK hk]
   simp only[hk,if_false];exact ih _ fun y hy=>hl y (HZ _ hy)
theorem dS{env:Env}:∀{l:List (Str×NameKind)}{acc:List (Str×Addr)}{x:Str}{c:Addr},(∀y∈l,y.2=.free->∃c,env.cells.lookup y.1=some c) ->
  (g9 env l acc).lookup x=some c->acc.lookup x=some c\/env.cells.lookup x=some c
 | [],acc,x,c,_,h=>.inl h
 | (n,k)::l,acc,x,c,hl,h=>by
  have hl' :∀y∈l,y.2=.free->∃c,env.cells.lookup y.1=some c:=fun y hy=>hl y (HZ _ hy)
  by_cases hk:(k==NameKind.free)=true
  ·rw[iV hk]at h
   rcases dS hl' h with q|q
   ·rw[Il]at q
    cases hx:(x==n)with
    | true =>
     rw[hx]at q;have hxn:x=n:=by simpa using hx
     subst hxn;obtain⟨c',hc'⟩:=hl (x,k) He (by simpa using hk);have hc2:env.cells.lookup x=some c' :=hc';rw[hc2]at q
     right
     rw[hc2]
     simpa using q
    | false =>
     rw[hx]at q;exact .inl q
   ·exact .inr q
  ·rw[gK hk]at h
   exact dS hl' h
theorem g0{env:Env}:∀{l:List (Str×NameKind)}{acc:List (Str×Addr)}{x:Str},((x,NameKind.free)∈l\/∃c,acc.lookup x=some c)->∃c,(g9 env l acc).lookup x=some c
 | [],acc,x,h=>by
  rcases h with h|h
  ·cases h
  ·exact h
 | (n,k)::l,acc,x,h=>by
  by_cases hk:(k==NameKind.free)=true
  ·rw[iV hk]
   refine g0 ?_
   rcases h with h|⟨c,h⟩
   ·rcases Hm.mp h with e|e
    ·right
     injection e with e1 e2
     subst e1;exact⟨(env.cells.lookup x).getD 0,by rw[Il];simp⟩
    ·exact .inl e
   ·right
    rw[Il];cases hx:(x==n)with
    | true=>exact⟨_,rfl⟩
    | false=>exact⟨c,h⟩
  ·rw[gK hk]
   refine g0 ?_
   rcases h with h|h
   ·rcases Hm.mp h with e|e
    ·injection e with e1 e2
     subst e2;exact absurd rfl hk
    ·exact .inl e
   ·exact .inr h
section
variable{prog:Program}{w:World}{A:Around}{R:Result->Shared->Prop}{s:Shared}
theorem nC{elt target iter:Expr}{ifs:List Expr}{scope:Scope}{pos:Pos}{it acc:Value}{env:Env}(I:Nat->Shared->Prop)
  (n6:∀n s,I n s->wpAny (model prog w) A (pyNext it) (fun r s₁=>match r with
   | none=>R (.ok .next) s₁
   | some v=>wpAny (model prog w) A (letOwnedTupleGo target it v) (fun _ s₁' =>wpAny (model prog w) A (assign target env v) (fun _ s₂ =>
     wpAny (model prog w) A (forIn ifs true fun c r=>if r=true then do let ok<-isTrue c env (eval c env);pure (ForInStep.yield ok)else pure (ForInStep.yield r)) (fun ok s₃ =>
      if ok=true then wpAny (model prog w) A (eval elt env) (fun x s₄ =>
       wpAny (model prog w) A (call (.builtin "list.append") [acc,x]) (fun _ s₅=>∃m,m<n/\I m s₅) (notedBy (model prog w) A env fun e s' =>R (.error e) s') s₄) (notedBy (model prog w) A env fun e s' =>R (.error e) s') s₃
      else∃m,m<n/\I m s₃) (notedBy (model prog w) A env fun e s' =>R (.error e) s') s₂) (notedBy (model prog w) A env fun e s' =>R (.error e) s') s₁')
       (notedBy (model prog w) A env fun e s' =>R (.error e) s') s₁) (notedBy (model prog w) A env fun e s' =>R (.error e) s') s)
  (n:Nat) (h:I n s) :
  codeAny (model prog w) A (.compLoop (.ListComp elt [⟨target,iter,ifs,0⟩] scope pos) 0 it acc env) R s:=by
 refine codeAny_loop rfl I (fun n s hI=> ?_) n h;show wpAny _ A ((compTurn (.ListComp elt [⟨target,iter,ifs,0⟩] scope pos) 0 it acc env).onRaise (fun x=>do noteFrame x env;theTreesLotGoes x)) _ _ s;refine wpAny_noted ?_;rw[compTurn_list];refine HY (wpAny_standAt (HY (JK (n6 n s hI) (fun r s₁ h₁=> ?_) fun _ _ h' =>h')));cases r with
 | none=>exact Hq h₁
 | some v =>
  refine HY (JK h₁ (fun _ s₁' h₁' => ?_) fun _ _ h' =>h');refine HY (JK h₁' (fun _ s₂ h₂=>HY (JK h₂ (fun ok s₃ h₃=> ?_) fun _ _ h' =>h')) fun _ _ h' =>h');cases ok with
  | false=>exact Hq ⟨rfl,h₃⟩
  | true =>
   exact HY (HY (JK h₃ (fun x s₄ h₄=>HY (JK h₄ (fun _ s₅ h₅=>Hq (Hq ⟨rfl,h₅⟩)) fun _ _ h' =>h')) fun _ _ h' =>h'))
end
noncomputable abbrev bD(X:Cx)(N' :List Str)(scope:Scope)(C:Addr)(s2:Shared)(H2:Hp)(fp:List Addr)(cl:List (Str×Addr)):Cx where
 prog:=X.prog
 w:=X.w
 K:=X.K
 mg:=X.mg
 base:=X.base
 A:=X.A
 N:=N'
 s₀:=s2
 H₀:=H2
 env:=compEnvC scope cl C X.env
 outer:=X.stack
 stack:=X.stack
 ex:=fp
 fn:=fun x=>scope.names.lookup x==some .cell
 calm:=X.calm
 pn:=[]
 xe:=fun _ _=>False
noncomputable def bH(X:Cx)(scope:Scope):List Str->List (Option Nat)->Prop
 | [],[]=>True
 | _::ns,none::r=>bH X scope ns r
 | x::ns,some i::r=>(X.N[i]? =some x/\scope.names.lookup x=some .free/\(X.env.scope.names.lookup x=some .cell\/X.env.scope.names.lookup x=some .free))/\bH X scope ns r
 | _,_=>False
noncomputable def bF(src:List (Option Nat))(σ:St):St:=src.map fun o=>match o with
 | none=>none
 | some i=>(σ[i]?).join
theorem bH.len{X:Cx}{scope:Scope}:∀{N' :List Str}{src:List (Option Nat)},bH X scope N' src->src.length=N'.length
 | [],[],_=>rfl
 | _::_,none::_,h=>Ix (·+1) (bH.len (show bH X scope _ _ from h))
 | _::_,some _::_,h=>Ix (·+1) (bH.len h.2)
 | [],_::_,h=>by cases h
 | _::_,[],h=>by cases h
theorem bH.at{X:Cx}{scope:Scope}{σ:St}:∀{N' :List Str}{src:List (Option Nat)}{j:Nat}{x:Str}{v:V},bH X scope N' src->N'[j]? =some x->(bF src σ)[j]? =some (some v) ->
  ∃i:Nat,X.N[i]? =some x/\σ[i]? =some (some v)/\scope.names.lookup x=some .free/\(X.env.scope.names.lookup x=some .cell\/X.env.scope.names.lookup x=some .free)
 | [],[],j,x,v,_,h,_=>by simp at h
 | y::ns,none::r,0,x,v,_,_,h=>by simp[bF]at h
 | y::ns,none::r,j+1,x,v,s,h,h' =>bH.at (N' :=ns) (src:=r) (j:=j) s (by simpa using h) (by simpa [bF]using h')
 | y::ns,some i::r,0,x,v,s,h,h' =>by
  have e:y=x:=by simpa using h
  subst e;have q:(σ[i]?).join=some v:=by simpa [bF]using h'
  refine⟨i,s.1.1,?_,s.1.2.1,s.1.2.2⟩;cases z:σ[i]? with
  | none=>rw[z]at q;cases q
  | some o=>rw[z]at q;exact Ix some q
 | y::ns,some i::r,j+1,x,v,s,h,h' =>bH.at (N' :=ns) (src:=r) (j:=j) s.2 (by simpa using h) (by simpa [bF]using h')
 | [],_::_,_,_,_,s,_,_=>by cases s
 | _::_,[],_,_,_,s,_,_=>by cases s
noncomputable def yd(X:Cx)(ifs:List Expr)(t:TT):Prop :=
 ∀(pins:List (Addr×Obj))(s:Shared)(σ:St)(H:Hp)(Q:Bool->Hp->Prop),Inv X pins σ H s->t σ H Q ->
  wpAny (model X.prog X.w) X.A (forIn ifs true fun c r=>if r=true then do let ok<-isTrue c X.env (eval c X.env);pure (ForInStep.yield ok)else pure (ForInStep.yield r)) (TP X pins σ Q) X.xe s
noncomputable def sO:TT:=fun _ H Q=>Q true H
theorem eF{X:Cx}:yd X [] sO:=fun _ _ _ H _ I h=>wpAny_tests_nil ⟨H,I,h⟩
theorem oR{X:Cx}{c:Expr}{t:TT}(h:PT X c t):yd X [c] t:=fun pins s σ H Q I hw=>wpAny_tests_one (h pins s σ H Q I hw)
noncomputable def Eg(X:Cx)(N' :List Str)(src:List (Option Nat))(scope:Scope)(target:Expr)(ifs:List Expr)(elt:Expr)(D:Addr)(σ:St)(x:V)(ys:List V)(H' :Hp)(N:List V->Hp->Prop):Prop :=
 ∀(C:Addr)(s2:Shared)(H2:Hp)(fp:List Addr)(cl:List (Str×Addr)),∃(g:TG)(tt:TT)(te:TE),PG (bD X N' scope C s2 H2 fp cl) target g/\yd (bD X N' scope C s2 H2 fp cl) ifs tt/\PE (bD X N' scope C s2 H2 fp cl) elt te /\
  g x (bF src σ) H' fun σ2 H3=>(σ2.length=N'.length/\∀(j:Nat)(v:V),(bF src σ)[j]? =some (some v)->σ2[j]? =some (some v)) /\
   tt σ2 H3 fun b H4=>if b=true then te σ2 H4 fun v H5=>H5 D=some (.lst ys)/\ys.length<sizeLine/\N (ys++[v]) (upd H5 D (.lst (ys++[v])))else N ys H4
noncomputable def CD(X:Cx)(N' :List Str)(src:List (Option Nat))(scope:Scope)(target:Expr)(ifs:List Expr)(elt:Expr)(wi:TI):TE:=fun σ H Q=>wi σ H fun J H1=>∀D,H1 D=none ->
 ∃W:Nat->Nat->List V->Hp->Prop,(∃m,W 0 m [] (upd H1 D (.lst [])))/\∀i m ys H,W i m ys H ->
  (J.stop i H/\Q (.ref D) H)\/(J.go i H/\∀x H',J.yld i H x H' ->Eg X N' src scope target ifs elt D σ x ys H' fun ys' H'' =>∃m',m' <m/\W (i+1) m' ys' H'')
section
variable{X:Cx}{pins:List (Addr×Obj)}{σ:St}{H:Hp}{s:Shared}
structure vQ(X:Cx)(scope:Scope)(C:Addr)(cl:List (Str×Addr)):Prop where
 ex:∃own,cl=own++g9 X.env scope.names []/\(∀n c,(n,c)∈own->C<c/\scope.names.lookup n=some .cell)/\(∀x,(x,NameKind.cell)∈scope.names->∃c,own.lookup x=some c)/\own.Pairwise fun x y=>x.2≠y.2
theorem vQ.sub{scope:Scope}{C:Addr}{cl:List (Str×Addr)}(k:vQ X scope C cl)(hfree:∀y∈scope.names,y.2=.free->∃c,X.env.cells.lookup y.1=some c){x:Str}{c:Addr}(e:cl.lookup x=some c) :
  (C<c/\scope.names.lookup x=some .cell)\/(scope.names.lookup x≠some .cell\/True)/\X.env.cells.lookup x=some c:=by
 obtain⟨own,rfl,h1,h2,h3⟩:=k.ex;rw[JZ]at e;cases z:own.lookup x with
 | some c' =>
  rw[z]at e;cases e;exact .inl (h1 x c (IY z))
 | none =>
  rw[z]at e
  rcases dS hfree e with q|q
  ·cases q
  ·exact .inr ⟨.inr trivial,q⟩
theorem As{N' :List Str}{scope:Scope}{C:Addr}{fp:List Addr}{cl:List (Str×Addr)}(I:Inv X pins σ H s)(hkind:scope.kind=.function)(k:vQ X scope C cl)
  (hfree:∀y∈scope.names,y.2=.free->∃c,X.env.cells.lookup y.1=some c) (hC:s.heap.objs.size<=C) (hf:∀b∈fp,ij X pins H b) (hlt:∀b∈fp,b<s.heap.objs.size):(bD X N' scope C s H fp cl).Ok:=by
 have old:∀x c,X.env.cells.lookup x=some c->c<s.heap.objs.size:=fun x c e=>let⟨_,q⟩:=I.cell x c e;q.lt
 obtain⟨own,hcl,h1,h2,h3⟩:=k.ex;have look:∀x c,cl.lookup x=some c->(x,c)∈own\/X.env.cells.lookup x=some c:=fun x c e=>by
  rw[hcl,JZ]at e;cases z:own.lookup x with
  | some c' =>rw[z]at e;cases e;exact .inl (IY z)
  | none =>
   rw[z]at e
   rcases dS hfree e with q|q
   ·cases q
   ·exact .inr q
 refine⟨I.ok.mod,hkind,I.ok.glob,I.ok.blt,hC,fun x y c e1 e2=> ?_,fun x hx=> ?_,fun x c h e=> ?_,I.ok.hd,I.ok.frames,.inl rfl,fun b hb=>⟨?_,fun x c e=> ?_⟩,
  I.bs,Ik I.ok.bsz I.sz,fun b o e hb=> ?_,fun b hb hs=> ?_,I.stack,I.stkFree⟩
 ·rcases look x c e1 with q1|q1<;>rcases look y c e2 with q2|q2
  ·exact PySem.name_of_addr h3 q1 q2
  ·exact absurd (Jo (old y c q2) (KZ hC (h1 x c q1).1)) (Jg _)
  ·exact absurd (Jo (old x c q1) (KZ hC (h1 y c q2).1)) (Jg _)
  ·exact I.ok.inj x y c q1 q2
 ·-- a name of the block's that is no local of it is one that it closes over,or has a cell of its own
  have hx' :(relabel scope X.env).names.lookup x=some .cell\/(relabel scope X.env).names.lookup x=some .free:=hx;have go:∀k,(k=NameKind.cell\/k=NameKind.free)->(relabel scope X.env).names.lookup x=some k->(x,NameKind.free)∈scope.names\/(x,NameKind.cell)∈scope.names:=fun k hk e=>by
   have m:=IY e;obtain⟨⟨n,k'⟩,hm,e'⟩:=Hn.mp m
   by_cases hfr:k' =NameKind.free
   ·subst hfr
    have e'' :(if(NameKind.free==NameKind.free&&X.env.scope.kind== .function&&X.env.kindOf n==some .cell)=true then(n,NameKind.cell)else(n,NameKind.free))=(x,k):=e';have hn:n=x:=by split at e'' <;>exact(Prod.mk.inj e'').1
    rw[<- hn];exact .inl hm
   ·have e'' :(if(k' ==NameKind.free&&X.env.scope.kind== .function&&X.env.kindOf n==some .cell)=true then(n,NameKind.cell)else(n,k'))=(x,k):=e'
    have hkf:(k' ==NameKind.free)=false:=by simpa using hfr
    rw[hkf,Kb,Kb,Hl Hk]at e'';obtain⟨g1,g2⟩:=Prod.mk.inj e'';subst g1 g2
    rcases hk with rfl|rfl
    ·exact .inr hm
    ·exact .inl hm
  have fin:(x,NameKind.free)∈scope.names\/(x,NameKind.cell)∈scope.names->∃c,cl.lookup x=some c:=by
   intro z;rw[hcl]
   rcases z with z|z
   ·obtain⟨c,hc⟩:=g0 (env:=X.env) (l:=scope.names) (acc:=[]) (x:=x) (.inl z)
    rw[JZ];cases own.lookup x with
    | some c' =>exact⟨c',rfl⟩
    | none=>exact⟨c,hc⟩
   ·obtain⟨c,hc⟩:=h2 x z
    exact⟨c,by rw[JZ,hc];rfl⟩
  rcases hx' with e|e
  ·exact fin (go _ (.inl rfl) e)
  ·exact fin (go _ (.inr rfl) e)
 ·have h:scope.names.lookup x=some .cell:=by simpa using h
  obtain⟨c',hc'⟩:=h2 x (IY h);have e:cl.lookup x=some c:=e;rw[hcl,JZ,hc']at e;cases e;exact Ik hC (Jd (h1 x c (IY hc')).1)
 ·exact fun e=>absurd (hlt b hb) (by show¬b<_;rw[e];exact Nat.not_lt.mpr hC)
 ·rcases look x c e with q|q
  ·exact fun z=>absurd (Jo (hlt b hb) (KZ hC (h1 x c q).1)) (by rw[z];exact Jg _)
  ·exact(hf b hb).2.2.2.2.1 x c q
 ·rcases(hf b hb).2.2.2.1 with q|q
  ·exact I.ok.noex b o e q
  ·exact absurd (Hs e) (Nat.not_lt.mpr (Ik I.ok.bsz q))
 ·rcases Hm.mp (I.stkSub b hs)with q|q
  ·exact(hf b hb).2.1 q
  ·exact(hf b hb).2.2.1 q
theorem cD:∀(names:List (Str×NameKind))(n:Nat)(a b:List (Str×Addr)),cellsFrom n names (a++b)=cellsFrom n names a++b
 | [],_,_,_=>rfl
 | (x,k)::r,n,a,b=>by
  unfold cellsFrom
  split
  ·exact cD r (n+1) ((x,n)::a) b
  ·exact cD r n a b
theorem dG:∀(names:List (Str×NameKind))(n:Nat)(acc:List (Str×Addr))(x:Str)(c:Addr),(x,c)∈cellsFrom n names acc->(x,c)∈acc\/(x,NameKind.cell)∈names
 | [],_,_,_,_,h=>.inl h
 | (y,k)::r,n,acc,x,c,h=>by
  unfold cellsFrom at h
  split at h
  ·rename_i hk
   have hk:k=.cell:=by simpa using hk
   rcases dG r (n+1) ((y,n)::acc) x c h with q|q
   ·rcases Hm.mp q with e|e
    ·cases e
     rw[hk];exact .inr He
    ·exact .inl e
   ·exact .inr (HZ _ q)
  ·rcases dG r n acc x c h with q|q
   ·exact .inl q
   ·exact .inr (HZ _ q)
theorem Az{scope:Scope}{C:Addr}(hcn:∀y∈scope.names,y.2=.cell->scope.names.lookup y.1=some .cell)(h:Heap)(hC:h.objs.size=C+1):vQ X scope C (cellsFrom (C+1) scope.names (g9 X.env scope.names [])):=by
 have ok:=cellsFrom_ok scope.names h (C+1) [] ⟨fun _ _ hm=>(nomatch hm),List.Pairwise.nil⟩ (by rw[hC];exact Hg _);rw[hC]at ok;refine⟨cellsFrom (C+1) scope.names [],by rw[<- cD];rfl,fun n c hm=>⟨(ok.empty n c hm).2,?_⟩,fun x hx=> ?_,ok.apart⟩
 ·rcases dG _ _ _ _ _ hm with q|q
  ·cases q
  ·exact hcn _ q rfl
 ·have:=W.cellsFrom_some (x:=x) scope.names (C+1) [] (.inl (hcn _ hx rfl))
  exact Option.isSome_iff_exists.mp this
theorem yC{M:Model}{A:Around}{E:Value->Shared->Prop}{s:Shared}{scope:Scope}{globals:Addr}{cl:List (Str×Addr)}{qual:Str}{env:Env}{Q:Env->Shared->Prop}
  (h:Q {scope:=scope,locals:=s.heap.objs.size,globals:=globals,cells:=cellsFrom (s.heap.objs.size+1) scope.names cl,qual:=qual,func:=none,code:=env.code,frame:=env.frame,builtins:=env.builtins} {s with heap:=pushCells (s.heap.push {cls:=.type "dict",data:=.dict #[]}) scope.names}) :
  wpAny M A (newFunctionEnv scope globals cl [] qual none .none (some env)) Q E s:=by
 simp only[newFunctionEnv,Option.isSome_some,KR];refine HY (wpAny_alloc ?_);refine HY (wpAny_layCells _ (fun name kind cells=>by cases hkc:kind==NameKind.cell<;>simp[hkc]) _ _ _ _ ?_);rw[show({s with heap:=s.heap.push {cls:=.type "dict",data:=.dict #[]}}:Shared).heap.objs.size=s.heap.objs.size+1 from JT ..];rw[List.forIn_nil];exact HY (Hq (Hq h))
end
theorem gX{env:Env}:∀{names:List (Str×NameKind)}{x:Str},names.lookup x=some .free ->
  (names.map fun(n,k)=>if(k==NameKind.free&&env.scope.kind== .function&&env.kindOf n==some .cell)then(n,NameKind.cell)else(n,k)).lookup x=some .cell \/
  (names.map fun(n,k)=>if(k==NameKind.free&&env.scope.kind== .function&&env.kindOf n==some .cell)then(n,NameKind.cell)else(n,k)).lookup x=some .free
 | [],_,h=>by simp at h
 | (n,k)::r,x,h=>by
  have ih:= @gX env r x;show List.lookup x ((if(k==NameKind.free&&env.scope.kind== .function&&env.kindOf n==some .cell)=true then(n,NameKind.cell)else(n,k))::_)=_\/List.lookup x ((if(k==NameKind.free&&env.scope.kind== .function&&env.kindOf n==some .cell)=true then(n,NameKind.cell)else(n,k))::_)=_;cases hx:x==n with
  | true =>
   simp only[Il,hx]at h;cases h
   by_cases hc:(NameKind.free==NameKind.free&&env.scope.kind== .function&&env.kindOf n==some .cell)=true
   ·left;rw[Hr hc];simp only[Il,hx]
   ·right;rw[Hl hc];simp only[Il,hx]
  | false =>
   simp only[Il,hx]at h
   by_cases hc:(k==NameKind.free&&env.scope.kind== .function&&env.kindOf n==some .cell)=true
   ·rw[Hr hc];simp only[Il,hx];exact ih h
   ·rw[Hl hc];simp only[Il,hx];exact ih h
section
variable{X:Cx}{pins:List (Addr×Obj)}{σ:St}{H:Hp}{s:Shared}
theorem rD{N' :List Str}{src:List (Option Nat)}{scope:Scope}{D C:Addr}{fp:List Addr}{cl:List (Str×Addr)}{h₁:Heap}{m:Str->Option Value}{tk:Nat}(I:Inv X pins σ H s)(hkind:scope.kind=.function)(k:vQ X scope C cl)
  (hfree:∀y∈scope.names,y.2=.free->∃c,X.env.cells.lookup y.1=some c) (hsrc:bH X scope N' src) (hf:∀b∈fp,ij X pins H b) (hlt:∀b∈fp,b<s.heap.objs.size)
  (hD:D=s.heap.objs.size) (hC:s.heap.objs.size<C) (hns:h₁.Ns C m) (old:∀b o,s.heap.get? b=some o->h₁.get? b=some o) (hacc:h₁.get? D=some {cls:=.type "list",data:=.seq #[]})
  (hce:∀x c,cl.lookup x=some c->C<c->∃v,h₁.IsCell c v) :
  Inv (bD X N' scope C s H fp cl) [] (bF src σ) (upd H D (.lst [])) {s with heap:=h₁,toks:=tk}:=by
 have hn:H D=none:=by rw[hD];exact I.hok.fresh (Hg _)
 have ok:=As (N' :=N') I hkind k hfree (Jd hC) hf hlt;have hDC:D≠C:=by rw[hD];exact Hy hC
 refine⟨ok,rfl,I.bare,Un.laid old (by rw[hD];exact Hg _) hn,⟨m,hns,fun j x v h1 h2 h3=> ?_⟩,fun x c e=> ?_,?_,fun x c e=> ?_,fun p hp=>(by cases hp),I.hok.laid old (by rw[hD];exact Hg _) ?_,?_⟩
 ·obtain⟨i,e1,e2,e3,e4⟩:=hsrc.at h1 h2
  obtain⟨m0,_,hl⟩:=I.loc;obtain⟨u,r,l⟩:=hl i x v e1 e2 (.inr e4);refine⟨u,r,?_⟩;obtain⟨own,hcl,o1,o2,o3⟩:=k.ex;have hown:own.lookup x=none:=by
   cases z:own.lookup x with
   | none=>rfl
   | some c =>
    have:=(o1 x c (IY z)).2;rw[e3]at this;cases this
  obtain⟨c',hc'⟩:=g0 (env:=X.env) (l:=scope.names) (acc:=[]) (x:=x) (.inl (IY e3));have hcX:X.env.cells.lookup x=some c' :=by
   rcases dS hfree hc' with q|q
   ·cases q
   ·exact q
  have hcl' :cl.lookup x=some c' :=by rw[hcl,JZ,hown];exact hc'
  rcases l with⟨hk,_⟩|⟨hk,c,hc,hcl2⟩
  ·have hk' :X.env.scope.names.lookup x=some .local:=hk
   rcases e4 with e4|e4
   ·rw[hk']at e4;cases e4
   ·rw[hk']at e4;cases e4
  ·have ec:c' =c:=IB (hcX.symm.trans hc)
   subst ec
   right
   exact⟨gX e3,c',hcl',hcl2.keeps old⟩
 ·rcases k.sub hfree (show cl.lookup x=some c from e)with q|q
  ·exact hce x c e q.1
  ·obtain⟨v,z⟩:=I.cell x c q.2
   exact⟨v,z.keeps old⟩
 ·show upd H D (.lst []) C=none
  rw[aB (Ja hDC)];exact I.hok.fresh (Jd hC)
 ·show upd H D (.lst []) c=none
  rcases k.sub hfree (show cl.lookup x=some c from e)with q|q
  ·have:s.heap.objs.size<c:=Jo hC q.1
   rw[aB (by rw[hD];exact JU this)];exact I.hok.fresh (Jd this)
  ·obtain⟨v,z⟩:=I.cell x c q.2
   rw[aB (by rw[hD];exact Hy z.lt)];exact I.freeC x c q.2
 ·exact⟨IN _,[],0,.nil,hacc⟩
 ·show(src.map _).length=N'.length
  rw[HX];exact hsrc.len
theorem eU.but{P:Program}{w:World}{H:Hp}{h h' :Heap}(x:eU P w H h)(k:∀b u,H b≠none->h.get? b=some u->h'.get? b=some u):eU P w H h' :=fun a o e =>
 (x a o e).stay (fun b u hb q=>k b u (by rcases hb with rfl|hb;(rw[e];simp);(rw[hb];simp)) q) (fun _ q=>q) fun _ _ q=>q
noncomputable def ck(sc scope:Scope):Bool:=scope.names.all fun y=> !(y.2==NameKind.free)||(sc.names.lookup y.1==some .cell||sc.names.lookup y.1==some .free)
theorem xt{sc scope:Scope}(h:ck sc scope=true):∀y∈scope.names,y.2=.free->(sc.names.lookup y.1=some .cell\/sc.names.lookup y.1=some .free):=fun y hy hf=>by
 have z:=Hx.mp h y hy;rw[hf]at z
 simpa using z
theorem sy{use:Option (Value->Sem Unit)}{P:Value->Shared->Prop}{Q:VK}{elt target iter:Expr}{ifs:List Expr}{scope:Scope}{pos:Pos}{N' :List Str}{src:List (Option Nat)}{wi:TI}(hc:X.calm=true)(hi:PI X target iter wi)(hsrc:bH X scope N' src)
  (hkind:scope.kind=.function) (hcell:∀y∈scope.names,y.2=.cell->scope.names.lookup y.1=some .cell) (hnames:∀y∈scope.names,y.2=.local->scope.names.lookup y.1=some .local)
  (hfr:ck X.env.scope scope=true)
  (hs:∀x,foldedSetIterable iter X.env x=pure x) (I:Inv X pins σ H s) (h:CD X N' src scope target ifs elt wi σ H Q)
  (fin:∀(C a:Addr)(s2 s4:Shared)(H2 H3:Hp)(fp:List Addr)(cl:List (Str×Addr))(m:Str->Option Value),Inv X pins σ H2 s2->(∀b∈fp,ij X pins H2 b)->(∀b,b<s2.heap.objs.size->b≠C)->s2.heap.objs.size<=C->Inv (bD X N' scope C s2 H2 fp cl) [] (bF src σ) H3 s4->s4.heap.Ns C m->Q (.ref a) H3->∀v,compPost (model X.prog X.w) X.A X.xe use P (.ref a) C (.ok v) s4) :
  wpAny (model X.prog X.w) X.A (comprehension (.ListComp elt [⟨target,iter,ifs,0⟩] scope pos) scope X.env (firstIterPos [⟨target,iter,ifs,0⟩] pos) (newList []) (firstAsync [⟨target,iter,ifs,0⟩]) (firstIter [⟨target,iter,ifs,0⟩] X.env) use) P X.xe s:=by
 have hfree:∀y∈scope.names,y.2=.free->∃c,X.env.cells.lookup y.1=some c:=fun y hy hf=>I.ok.has y.1 (xt hfr y hy hf);refine wpAny_comprehension_free (use:=use) rfl hs (rM hfree) hkind hnames ?_;refine al (hi pins s σ H _ I h) fun xv s1 h1=>al h1 fun itv s2 h2=> ?_;obtain⟨it,fp,tn,J,H2,e,I2,T,st2,f2,q⟩:=h2;subst e;have hlt:∀b∈fp,b<s2.heap.objs.size:=fun b hb=>by
  obtain⟨o,e,_⟩:=T.obj _ _ st2 b hb;exact Hs e
 refine Jk (yC ?_);dsimp only
 generalize hH2:s2.heap.push {cls:=.type "list",dict:=none,data:=.seq ([]:List Value).toArray}=G2
 have hC:G2.objs.size=s2.heap.objs.size+1:=by rw[<- hH2,JT]
 have hCle:s2.heap.objs.size<=G2.objs.size:=by rw[hC];exact KM _
 have hClt:s2.heap.objs.size<G2.objs.size:=by rw[hC];exact Nat.lt_succ_self _
 have below:∀b,b<s2.heap.objs.size->b≠G2.objs.size:=fun b hb=>by rw[hC];exact Hy (Iw hb)
 obtain⟨cl,hcl0⟩:∃cl,cl=cellsFrom (G2.objs.size+1) scope.names (g9 X.env scope.names []):=⟨_,rfl⟩;obtain⟨h₁,hh₁⟩:∃h₁,h₁=pushCells (G2.push {cls:=.type "dict",data:=.dict #[]}) scope.names:=⟨_,rfl⟩;rw[<- hcl0,<-hh₁];have hfr2:(G2.push {cls:=.type "dict",data:=.dict #[]}).objs.size=G2.objs.size+1:=JT ..;have kcl:vQ X scope G2.objs.size cl:=by rw[hcl0];exact Az hcell _ hfr2
 have hns₁:h₁.Ns G2.objs.size (fun _=>none):=by rw[hh₁];exact(Heap.Ns.new G2 (.type "dict")).keeps (pushCells_keeps _ _)
 have old:∀b o,s2.heap.get? b=some o->h₁.get? b=some o:=fun b o e=>by rw[hh₁];exact pushCells_keeps _ _ b o (Ha _ (hH2▸Ha _ e))
 have hacc:h₁.get? s2.heap.objs.size=some {cls:=.type "list",data:=.seq #[]}:=by rw[hh₁];exact pushCells_keeps _ _ _ _ (Ha _ (hH2▸Hv _ rfl))
 have hce:∀x c,cl.lookup x=some c->G2.objs.size<c->∃v,h₁.IsCell c v:=fun x c e hlt' =>by
  have okc:=cellsFrom_ok scope.names (G2.push {cls:=.type "dict",data:=.dict #[]}) (G2.objs.size+1) [] ⟨fun _ _ hm=>(nomatch hm),List.Pairwise.nil⟩ (by rw[hfr2];exact Hg _);rw[hfr2]at okc;have e1:cl=cellsFrom (G2.objs.size+1) scope.names []++g9 X.env scope.names []:=by rw[hcl0,<-cD];rfl
  rw[e1,JZ]at e;cases z:(cellsFrom (G2.objs.size+1) scope.names []).lookup x with
  | some c' =>
   rw[z]at e;cases e;exact⟨none,by rw[hh₁];exact(okc.empty x c (IY z)).1⟩
  | none =>
   rw[z]at e
   rcases dS hfree e with q|q
   ·cases q
   ·obtain⟨v,zc⟩:=I2.cell x c q
    exact absurd (Jo zc.lt hClt) (Nat.not_lt.mpr (Jd hlt'))
 have hDn:H2 s2.heap.objs.size=none:=I2.hok.fresh (Hg _);obtain⟨W,⟨m0,w0⟩,n6⟩:=q s2.heap.objs.size hDn;have st1:tn 0 h₁:=T.keep _ _ _ st2 fun b hb o e=>old b o e;have hsub:∀b∈fp,b∉qv X.stack:=fun b hb hz=>by
  rcases Hm.mp (I2.stkSub b hz)with z|z
  ·exact(f2 b hb).2.1 z
  ·exact(f2 b hb).2.2.1 z
 have hcl:∀x c,cl.lookup x=some c->G2.objs.size<c\/X.env.cells.lookup x=some c:=fun x c e=>by
  rcases kcl.sub hfree e with q|q
  ·exact .inl q.1
  ·exact .inr q.2
 have stat:∀{H' :Hp},(∀b∈fp,H' b=none)->∀b∈fp,ij (bD X N' scope G2.objs.size s2 H2 fp cl) [] H' b:=fun hn b hb =>
  ⟨hn b hb,below b (hlt b hb),hsub b hb,.inl hb,fun x c e=>(by rcases hcl x c e with q|q;(exact fun z=>absurd (Jo (hlt b hb) (Jo hClt q)) (by rw[z];exact Jg _));exact(f2 b hb).2.2.2.2.1 x c q),fun p hp=>by cases hp⟩
 have loop:∀s3:Shared,s3={s2 with heap:=h₁} ->
   codeAny (model X.prog X.w) X.A (.compLoop (.ListComp elt [⟨target,iter,ifs,0⟩] scope pos) 0 (.ref it) (.ref s2.heap.objs.size) (compEnvC scope cl G2.objs.size X.env))
    (compPost (model X.prog X.w) X.A X.xe use P (.ref s2.heap.objs.size) G2.objs.size) s3:=by
  rintro s3 rfl
  refine nC (fun n s' =>∃i ys H',Inv (bD X N' scope G2.objs.size s2 H2 fp cl) [] (bF src σ) H' s' /\tn i s'.heap/\(∀b∈fp,H' b=none)/\W i n ys H') ?_ m0
   ⟨0,[],_,rD I2 hkind kcl hfree hsrc f2 hlt rfl hClt hns₁ old hacc hce,st1,fun b hb=>by rw[aB (Hy (hlt b hb))];exact(f2 b hb).1,w0⟩
  rintro n s' ⟨i,ys,H3,I3,st3,fr3,w3⟩
  rcases n6 i n ys H3 w3 with⟨stop,qn⟩|⟨go,step⟩
  ·refine al (T.done (bD X N' scope G2.objs.size s2 H2 fp cl) rfl rfl rfl hc i [] s' _ H3 _ I3 (stat fr3) st3 stop) fun r s4 hpq=> ?_
   obtain⟨hr,I4⟩:=hpq;subst hr;obtain⟨m,hn,_⟩:=I4.loc;exact fin _ _ s2 s4 H2 H3 fp cl m I2 f2 below hCle I4 hn qn _
  ·refine al (T.item (bD X N' scope G2.objs.size s2 H2 fp cl) rfl rfl rfl hc i [] s' _ H3 _ I3 (stat fr3) st3 go) fun r s4 hpq=> ?_
   obtain⟨u,hr,h4⟩:=hpq;subst hr;refine al h4 fun _ s5 hpq=> ?_;obtain⟨x,H5,I5,r5,y5,st5,fr5⟩:=hpq;obtain⟨g,tt,te,hg,ht,he,rd⟩:=step x H5 y5 G2.objs.size s2 H2 fp cl;have I5' :=I5.pinned (stat fr5) (T.obj _ _ st5);have noE:∀{α:Type}{t:Sem α}{Q' :α->Shared->Prop}{s' :Shared}{E:Value->Shared->Prop},wpAny (model X.prog X.w) X.A t Q' (fun _ _=>False) s' ->wpAny (model X.prog X.w) X.A t Q' E s' :=fun z=>JK z (fun _ _ y=>y) fun _ _ y=>y.elim
   have again:∀{σ7:St}{H7:Hp}{s7:Shared}{ys' :List V},Inv (bD X N' scope G2.objs.size s2 H2 fp cl) ([]++jc fp s5.heap) σ7 H7 s7->(σ7.length=N'.length/\∀(j:Nat)(v:V),(bF src σ)[j]? =some (some v)->σ7[j]? =some (some v)) ->
     (∃m',m' <n/\W (i+1) m' ys' H7)->∃m,m<n/\∃i ys H',Inv (bD X N' scope G2.objs.size s2 H2 fp cl) [] (bF src σ) H' s7/\tn i s7.heap/\(∀b∈fp,H' b=none)/\W i m ys H' :=fun{σ7 H7 s7 ys'} I7 hσ ⟨m',hm,w7⟩=>by
    refine⟨m',hm,i+1,ys',H7,(I7.unpinned).weak (by rw[show(bF src σ).length=N'.length by(show(src.map _).length=_;rw[HX];exact hsrc.len)];exact hσ.1.symm) hσ.2,T.keep _ _ _ st5 fun b hb o e=>(I7.pin (b,o) (IM _ (IM _ (dZ hb e)))).1,fun b hb=> ?_,w7⟩;obtain⟨o,e,d⟩:=T.obj _ _ st5 b hb;exact(I7.pin (b,o) (IM _ (IM _ (dZ hb e)))).2.1
   refine noE (al (hg _ s5 _ H5 x u _ I5' r5 rd) fun _ s6 hpq=> ?_);obtain⟨σ6,H6,I6,hσ,q6⟩:=hpq;refine noE (al (ht _ s6 σ6 H6 _ I6 q6) fun b s7 hpq=> ?_);obtain⟨H7,I7,q7⟩:=hpq;cases b with
   | false=>exact again I7 hσ q7
   | true =>
    rw[Hr rfl]at q7 ⊢;refine noE (al (he _ s7 σ6 H7 _ I7 q7) fun y s8 hpq=> ?_);obtain⟨v,H8,I8,r8,hl8,hz8,q8⟩:=hpq;refine noE (al (iL _ s8 σ6 H8 (.ref s2.heap.objs.size) [v] (.ref s2.heap.objs.size) [y] (fun _ H9=>∃m',m' <n/\W (i+1) m' (ys++[v]) H9) I8 rfl (.cons r8 .nil) ⟨_,_,_,rfl,rfl,hl8,hz8,q8⟩) fun _ s9 hpq=> ?_);obtain⟨_,H9,I9,_,q9⟩:=hpq;exact again I9 hσ q9
 exact codeAny_compStart_list (loop _ rfl) (T.self X.A 0 _ _ _ st1 (loop _ rfl))
theorem oT{elt target iter:Expr}{ifs:List Expr}{scope:Scope}{pos:Pos}{N' :List Str}{src:List (Option Nat)}{wi:TI}(hc:X.calm=true)(hi:PI X target iter wi)(hsrc:bH X scope N' src)
  (hkind:scope.kind=.function) (hcell:∀y∈scope.names,y.2=.cell->scope.names.lookup y.1=some .cell) (hnames:∀y∈scope.names,y.2=.local->scope.names.lookup y.1=some .local)
  (hfr:ck X.env.scope scope=true)
  (hs:∀x,foldedSetIterable iter X.env x=pure x:=by intro _;rfl) :
  PE X (.ListComp elt [⟨target,iter,ifs,0⟩] scope pos) (CD X N' src scope target ifs elt wi):=by
 intro pins s σ H Q I h;rw[eval_ListComp];refine sy hc hi hsrc hkind hcell hnames hfr hs I h fun C a s2 s4 H2 H3 fp cl m I2 f2 below hCle I4 hn qn _=> ?_;refine⟨m,hn,fun h' hs' => ?_⟩;have ne:∀b o,s2.heap.get? b=some o->b≠C:=fun b o e=>below b (Hs e);have hfree4:H3 C=none:=I4.free;have u4:Un (qv X.stack) fp H2 H3 s2.heap s4.heap:=I4.base
 have u5:Un (qv X.stack) fp H2 H3 s2.heap h' :=⟨fun b o e n z1 z2=>(hs'.2 b (ne b o e)).trans (u4.keep b o e n z1 z2),fun b o e n z1 z2=>let⟨sl,z⟩:=u4.slot b o e n z1 z2;⟨sl,(hs'.2 b (ne b o e)).trans z⟩,u4.free,
  fun b o e z=>let⟨o',z'⟩:=u4.there b o e z;⟨o',(hs'.2 b (ne b o e)).trans z'⟩,u4.tups,u4.frzs,u4.tbls⟩
 have hok:eU X.prog X.w H3 h' :=eU.but (h:=s4.heap) I4.hok fun b u hb z=>(hs'.2 b (fun w=>hb (by rw[w];exact hfree4))).trans z;exact⟨.ref a,H3,I2.call' (s' :={s4 with heap:=h'}) (ch:=fp) I4.os u5 hok I4.bare fun b hb=>⟨(f2 b hb).2.2.2.1,(f2 b hb).2.1,(f2 b hb).2.2.2.2.1,(f2 b hb).2.2.2.2.2⟩,rfl,qn⟩
end
section
variable{X:Cx}
theorem all_range(bs:List Bool):(List.range bs.length).all (fun i=>bs.getD i true)=bs.all id:=by
 rw[Jc,Hx,Hx]
 constructor
 ·intro h b hb
  obtain⟨i,hi,e⟩:=Jv.mp hb;have z:=h i (Ii.mpr hi);rw[Hc,Hd hi,e]at z;exact z
 ·intro h i hi
  have hi' :=Ii.mp hi;rw[Hc,Hd hi'];exact h _ (JN hi')
theorem qA{bs:List Bool}{us:List Value}(r:aT (bs.map V.bl) us){i:Nat}{v:Value}(e:us[i]? =some v):v=.bool (bs.getD i true):=by
 have hl:=r.length;rw[HX]at hl;have hi:i<us.length:=(Hh.mp e).1;have hb:(bs.map V.bl)[i]? =some (.bl (bs.getD i true)):=by
  rw[Ho,Hc,Hd (by omega)];rfl
 obtain⟨u,e',ru⟩:=r.get hb;rw[e]at e';cases e';exact ru
theorem pU(hc:X.calm=true):bI X (.builtin "all") (fun xs H Q=>∃(p:Addr)(bs:List Bool),xs=[.ref p]/\bB X.K H p (bs.map V.bl)/\Q (.bl (bs.all id)) H):=by
 intro pins s σ H xs us Q I r h;obtain⟨p,bs,rfl,hq,q⟩:=h;obtain⟨u,rfl,rx⟩:=vals1 r;cases rx;obtain⟨its,r',pl,hz⟩:=I.list hq;have hlen:=r'.length;rw[HX]at hlen;have hp:p<s.heap.objs.size:=by
  obtain⟨o,e,_⟩:=pl.isList;exact Hs e
 refine call_all_walk (KJ pl.isList ?_);refine⟨s.heap.objs.size,_,_,its.toArray.size,_,_,(fun i=>bs.getD i true),rfl,Walks.list (A:=X.A.in1) (I.ok.hd hc) s.heap.objs.size p (Hy hp) its.toArray,⟨⟨_,Hv _ rfl,rfl,rfl⟩,pl.isList.push _⟩,?_,?_⟩
 ·intro i v s' Q' E' hv hQ
  have e:=qA r' (i:=i) (v:=v) (by simpa using hv);subst e;exact JV hQ
 ·intro h' tk hk
  refine⟨.bl (bs.all id),H,I.kept (t' :=tk) (fun b o e=>hk b o (by simpa using Hy (Hs e)) (Ha _ e)),?_,q⟩;rw[Hu,<-hlen,all_range];rfl
theorem ft:∀{ys:List Str}{us:List Value},aT (ys.map V.str) us->StrsAre us ys
 | [],_,r=>by
  rw[Ip]at r;cases r;exact .nil
 | y::ys,_,r=>by
  rw[Hf]at r;cases r with
  | cons r1 r2 =>
   obtain⟨t,e⟩:=r1;subst e;exact .cons y t (ft r2)
noncomputable def Fw(K:W.Frag):V->List V->Hp->VK->Prop:=fun x vs H Q=>∃sep p ys,x=.str sep/\vs=[.ref p]/\(bB K H p (ys.map V.str)\/cT K H p (ys.map V.str))/\(ys.map (·.length)).sum+ys.length*sep.length<=16777216/\Q (.str (Txt.join sep ys)) H
theorem AM:MtR X "str.join" (Fw X.K):=by
 intro pins s σ H x xs v us Q I rx rs h;obtain⟨sep,p,ys,rfl,rfl,hq,hz,q⟩:=h;obtain⟨t,rfl⟩:=rx;obtain⟨u,rfl,ru⟩:=vals1 rs;cases ru
 rcases hq with hq|hq
 ·obtain⟨its,r,pl,_⟩:=I.list hq
  exact join_list pl.isList (ft (by simpa using r)) hz fun t' k=>⟨.str (Txt.join sep ys),H,I.tok _,⟨_,rfl⟩,q⟩
 ·obtain⟨its,r,pl,_⟩:=I.tuple hq
  exact join_tuple pl (ft (by simpa using r)) hz fun t' k=>⟨.str (Txt.join sep ys),H,I.tok _,⟨_,rfl⟩,q⟩
noncomputable def HR(x:Str):It:=⟨fun i _=>i<x.cps.size,fun i H v H' =>H' =H/\∃c,x.cps[i]? =some c/\v=.str ⟨#[c]⟩,fun i _=>i=x.cps.size⟩
noncomputable def iStr(tl:TE):TI:=fun σ H R=>tl σ H fun x H1=>∃z,x=.str z/\R (HR z) H1
theorem fo{P:Program}{w:World}{K:W.Frag}{tg:Expr}{it:Addr}{n:Nat}{Pw:Nat->Value->Prop}{tn:Nat->Heap->Prop}{J:It}(hW:∀A:Around,A.handled=none->Walks P w A it [it] [it] n Pw tn)
  (hob:∀i h,tn i h->∃(o:Obj)(ty:String)(vs:Array Value),h.get? it=some o/\o.cls=.type ty/\o.data=.fields vs/\["enumerate","zip","dict_itemiterator","dict_reverseitemiterator","odict_iterator","itertools.zip_longest","itertools.pairwise"].contains ty=false)
  (hgo:∀i H,J.go i H->i<n) (hst:∀i H,J.stop i H->i=n) (hy:∀i H v,Pw i v->∃x,RelV x v/\J.yld i H x H)
  (hself:∀(A:Around)(i:Nat)(s:Shared)(Q:Value->Shared->Prop)(E:Value->Shared->Prop),tn i s.heap->Q (.ref it) s->wpAny (model P w) A (pyIter (.ref it)) Q E s):pZ P w K tg J [it] it tn where
 mem:=by simp
 obj:=fun i h st b hb=>by
  have e:b=it:=by simpa using hb
  subst e;obtain⟨o,ty,vs,e,_,d,_⟩:=hob i h st;exact⟨o,e,fun v z=>by rw[d]at z;cases z⟩
 keep:=fun i h h' st k=>(hW {callerA with handled:=none} rfl).frame i h h' st k
 item:=by
  intro X hP hw hK hc i pins s σ H E I hf st hg;subst hP hw hK;obtain⟨f0,f1,f2,f3,f4,f5⟩:=hf it (by simp);refine(hW X.A (I.ok.hd hc)).item i s _ _ (hgo i H hg) st fun v h' tk hv st' kk=> ?_;obtain⟨x,rx,y⟩:=hy i H v hv;have I1:Inv X pins σ H {s with heap:=h',toks:=tk}:=I.turned (fun b o hb e=>kk b o (by simpa using hb) e) f0 f1 f3 f4 f5;obtain⟨o,ty,vs,e,c,d,nc⟩:=hob (i+1) h' st';exact⟨_,rfl,tL (s:={s with heap:=h',toks:=tk}) e c d nc ⟨x,H,I1,rx,y,st',fun b hb=>(hf b hb).1⟩⟩
 done:=by
  intro X hP hw hK hc i pins s σ H E I hf st hg;subst hP hw hK;obtain⟨f0,f1,f2,f3,f4,f5⟩:=hf it (by simp);have e:=hst i H hg;subst e;exact(hW X.A (I.ok.hd hc)).done s _ _ st fun h' tk kk=>⟨rfl,I.turned (fun b o hb e=>kk b o (by simpa using hb) e) f0 f1 f3 f4 f5⟩
 self:=hself
theorem Cm{tg:Expr}{l:Expr}{tl:TE}(hl:PE X l tl):PI X tg l (iStr tl):=by
 intro pins s σ H R I h;refine al (hl pins s σ H _ I h) fun v s1 hpq=> ?_;obtain⟨x,H1,I1,r1,q1⟩:=hpq;obtain⟨z,rfl,q⟩:=q1;obtain⟨t,rfl⟩:=r1;have fp:∀b∈[s1.heap.objs.size],ij X pins H1 b:=fun b hb=>by
  have e:b=s1.heap.objs.size:=by simpa using hb
  subst e;exact I1.fpOk (Hg _) (I1.hok.fresh (Hg _))
 have yl:∀(i:Nat)(H:Hp)(v:Value),SignAt z i v->∃x,RelV x v/\(HR z).yld i H x H:=fun i H v hv=>by
  obtain⟨c,u,e,rfl⟩:=hv;exact⟨.str ⟨#[c]⟩,⟨_,rfl⟩,rfl,c,e,rfl⟩
 cases ha:z.cps.all (·<128)with
 | false =>
  refine wpAny_pyIter_wide ha ?_
  refine⟨s1.heap.objs.size,[s1.heap.objs.size],fun i h=>h.IsStrIter s1.heap.objs.size "str_iterator" z t i,HR z,H1,rfl,I1.kept (t' :=s1.toks) fun b o e=>Ha _ e,
   fo (fun A hA=>Walks.strWide hA _ z t) (fun i h st=> ?_) (fun i H g=>g) (fun i H g=>g) yl (fun A i s Q E st h=>wpAny_pyIter_striter_wide st h),⟨_,Hv _ rfl,rfl,rfl⟩,fp,q⟩
  obtain⟨o,e,c,d⟩:=st;exact⟨o,_,_,e,c,d,by decide⟩
 | true =>
  refine wpAny_pyIter_ascii ha ?_
  refine⟨s1.heap.objs.size,[s1.heap.objs.size],fun i h=>h.IsStrIter s1.heap.objs.size "str_ascii_iterator" z t i,HR z,H1,rfl,I1.kept (t' :=s1.toks) fun b o e=>Ha _ e,
   fo (fun A hA=>Walks.strAscii hA _ z t) (fun i h st=> ?_) (fun i H g=>g) (fun i H g=>g) yl (fun A i s Q E st h=>wpAny_pyIter_striter_ascii st h),⟨_,Hv _ rfl,rfl,rfl⟩,fp,q⟩
  obtain⟨o,e,c,d⟩:=st;exact⟨o,_,_,e,c,d,by decide⟩
noncomputable def Itc(lo c:Int)(n:Nat):It:=⟨fun i _=>i<n,fun i H x H' =>H' =H/\x=.int (lo+i*c),fun i _=>i=n⟩
noncomputable def GL(ta:TA):TI:=fun σ H R=>ta σ H fun vs H1=>∃i j c:Int,vs=[.int i,.int j,.int c]/\c≠0/\c.natAbs<1073741824/\Builtin.Range.small i j c=true/\R (Itc i c (Builtin.Range.rangeSize i j c).toNat) H1
theorem mM(i j c:Int):0<=Builtin.Range.rangeSize i j c:=by
 unfold Builtin.Range.rangeSize
 split
 ·split
  ·have:=Int.ediv_nonneg (a:=j-i-1) (b:=c) (by omega) (by omega)
   omega
  ·exact KO _
 ·split
  ·by_cases hc:c=0
   ·subst hc
    simp
   ·have:=Int.ediv_nonneg (a:=i-j-1) (b:= -c) (by omega) (by omega)
    omega
  ·exact KO _
theorem uT{tg:Expr}{a b c:Expr}{ta:TA}{p pos:Pos}(hg:Gl X "range")(hm:X.mg "range"=none)(ha:PA X [a,b,c] ta)(hs:starEach [a,b,c] X.env=(false,eval a X.env)::starEach [b,c] X.env:=by rfl)
  (hs2:(backTo pos (starEach [b,c] X.env)).any (·.1)=false:=by rfl):PI X tg (.Call (.Name "range" p) [a,b,c] [] pos) (GL ta):=by
 intro pins s σ H R I h;refine Call_ (dF I hg hm boot_range (Ir (al (ha pos pins s σ H _ I h) fun us s1 ⟨vs,H1,I1,r1,q1⟩=> ?_) hs hs2));obtain⟨i,j,k,e,hk,hk2,hsm,q⟩:=q1;subst e;cases r1 with
 | cons r rr =>
  cases rr with
  | cons r' rr =>
   cases rr with
   | cons r'' rr =>
    cases rr;obtain⟨t,rfl⟩:=r;obtain⟨t',rfl⟩:=r';obtain⟨t'',rfl⟩:=r'';refine call_range_3 hk ?_ (.inl (PyProof.noPylong_small hk2));refine wpAny_pyIter_range (IsRange.new ..) hsm ?_;have I2:Inv X pins σ H1 {s1 with heap:=s1.heap.push {cls:=.type "range",data:=.fields #[.int i t,.int j t',.int k t'']}}:=I1.kept (t' :=s1.toks) fun b o e=>Ha _ e
    refine⟨_,[_],_,_,H1,rfl,I2.kept (t' :=s1.toks) fun b o e=>Ha _ e,
     fo (fun A hA=>Walks.range hA _ i k (Builtin.Range.rangeSize i j k).toNat) (fun m h st=>⟨_,_,_,st,rfl,rfl,by decide⟩) (fun m H g=>g) (fun m H g=>g) (fun m H v hv=> ?_) (fun A m s Q E st h=>wpAny_pyIter_rangeiter st h),?_,fun b hb=> ?_,q⟩
    ·obtain⟨u,rfl⟩:=hv
     exact⟨.int (i+m*k),⟨_,rfl⟩,rfl,rfl⟩
    ·have e1:i+((0:Nat):Int)*k=i:=by simp
     have e2:(((Builtin.Range.rangeSize i j k).toNat:Nat):Int)-((0:Nat):Int)=Builtin.Range.rangeSize i j k:=by
      have:=mM i j k;omega
     show IsRangeIter _ _ (i+((0:Nat):Int)*k) ((((Builtin.Range.rangeSize i j k).toNat:Nat):Int)-((0:Nat):Int)) k;rw[e1,e2];exact Hv _ rfl
    ·have e:b=(s1.heap.push {cls:=.type "range",data:=.fields #[.int i t,.int j t',.int k t'']}).objs.size:=by simpa using hb
     subst e;exact I2.fpOk (Hg _) (I2.hok.fresh (Hg _))
theorem Inv.drew{pins:List (Addr×Obj)}{σ:St}{H:Hp}{s:Shared}{h' :Heap}{fp:List Addr}{p:Addr}{o:HO}{t' :Nat}(I:Inv X pins σ H s)(hf:∀b∈fp,ij X pins H b)(k:∀b ob,b∉fp->s.heap.get? b=some ob->h'.get? b=some ob)
  (hp:s.heap.objs.size<=p) (new:am X.prog X.w (upd H p o) h' p o):Inv X pins σ (upd H p o) {s with heap:=h',toks:=t'}:=by
 have ne:∀b u,H b=some u->b≠p:=fun b u e=>Hy (Ic (I.hok.lt e) hp);have nf:∀b u,H b=some u->b∉fp:=fun b u e hb=>by rw[(hf b hb).1]at e;cases e
 refine I.step (g' :=s.gens) (d' :=s.drawn) (ch:=fp) (fun b hb=>⟨(hf b hb).2.2.2.1,(hf b hb).2.1,(hf b hb).2.2.2.2.1,(hf b hb).2.2.2.2.2⟩) (fun b ob _ _ hc e _=>k b ob hc e) (fun b ob _ _ hc e _=>⟨ob.slots,k b ob hc e⟩)
  (fun b ob hc e n=>by rw[aB (Hy (Ic (Hs e) hp))];exact n) (fun b ob hc e=>⟨ob,k b ob hc e⟩) (fun b xs e=>by rw[aB (ne b _ e)];exact e) (fun b ob u e=>by rw[aB (ne b _ e)];exact e)
  (fun b ps e=>⟨#[],by rw[aB (ne b _ e),e];simp⟩) (fun m hm=> ?_) (fun b u e=> ?_) I.bare
 ·obtain⟨ob,es,ep,ho,r⟩:=hm
  exact⟨ob,es,ep,k _ _ (fun hb=>(hf _ hb).2.1 rfl) ho,r⟩
 ·by_cases hb:b=p
  ·subst hb
   rw[aD]at e;cases e;exact new
  ·rw[aB hb]at e
   refine(I.hok b u e).stay (fun c v hc q=>k c v ?_ q) (fun c q=>by rw[aB (ne c _ q)];exact q) (fun c xs q=>by rw[aB (ne c _ q)];exact q)
   rcases hc with rfl|hc
   ·exact nf _ _ e
   ·exact nf _ _ hc
theorem Inv.drew0{pins:List (Addr×Obj)}{σ:St}{H:Hp}{s:Shared}{h' :Heap}{fp:List Addr}{t' :Nat}(I:Inv X pins σ H s)(hf:∀b∈fp,ij X pins H b)(k:∀b ob,b∉fp->s.heap.get? b=some ob->h'.get? b=some ob) :
  Inv X pins σ H {s with heap:=h',toks:=t'}:=by
 have nf:∀b u,H b=some u->b∉fp:=fun b u e hb=>by rw[(hf b hb).1]at e;cases e
 refine I.step (g' :=s.gens) (d' :=s.drawn) (ch:=fp) (fun b hb=>⟨(hf b hb).2.2.2.1,(hf b hb).2.1,(hf b hb).2.2.2.2.1,(hf b hb).2.2.2.2.2⟩) (fun b ob _ _ hc e _=>k b ob hc e) (fun b ob _ _ hc e _=>⟨ob.slots,k b ob hc e⟩)
  (fun b ob hc e n=>n) (fun b ob hc e=>⟨ob,k b ob hc e⟩) (fun b xs e=>e) (fun b ob u e=>e) (fun b ps e=>⟨#[],by rw[e];simp⟩) (fun m hm=> ?_) (fun b u e=> ?_) I.bare
 ·obtain⟨ob,es,ep,ho,r⟩:=hm
  exact⟨ob,es,ep,k _ _ (fun hb=>(hf _ hb).2.1 rfl) ho,r⟩
 ·refine(I.hok b u e).stay (fun c v hc q=>k c v ?_ q) (fun c q=>q) (fun c xs q=>q)
  rcases hc with rfl|hc
  ·exact nf _ _ e
  ·exact nf _ _ hc
noncomputable def Itz(K:W.Frag)(a b:Addr):It :=
  ⟨fun i H=>∃xs ys x y,bB K H a xs/\bB K H b ys/\xs[i]? =some x/\ys[i]? =some y,
   fun i H v H' =>∃p,H p=none/\v=.ref p/\∀xs ys x y,bB K H a xs->bB K H b ys->xs[i]? =some x->ys[i]? =some y->H' =upd H p (.tup [x,y]),
   fun i H=>∃xs ys,bB K H a xs/\bB K H b ys/\(xs.length<=i\/ys.length<=i)⟩
noncomputable def G8(z TI TO i1 i2 a b:Addr)(i:Nat)(h:Heap):Prop:=IsZip h z TI TO .none/\IsPair h TI (.ref i1) (.ref i2)/\(∃u v,IsPair h TO u v)/\h.IsListIter i1 a i/\h.IsListIter i2 b i
theorem vy{P:Program}{w:World}{K:W.Frag}{es:List Expr}{kt:Nat}{tpos:Pos}{z TI TO i1 i2 a b:Addr}(D:ZipApart z TI TO i1 i2 a b) :
  pZ P w K (.Tuple es kt tpos) (Itz K a b) [z,TI,TO,i1,i2] z (G8 z TI TO i1 i2 a b) where
 mem:=by simp
 obj:=fun i h st c hc=>by
  obtain⟨hz,hTI,⟨u,v,hTO⟩,⟨o1,e1,_,d1⟩,⟨o2,e2,_,d2⟩⟩:=st;simp only[Hm,Ie,JY]at hc
  rcases hc with rfl|rfl|rfl|rfl|rfl
  ·exact⟨_,hz,fun v z=>by cases z⟩
  ·exact⟨_,hTI,fun v z=>by cases z⟩
  ·exact⟨_,hTO,fun v z=>by cases z⟩
  ·exact⟨_,e1,fun v z=>by rw[d1]at z;cases z⟩
  ·exact⟨_,e2,fun v z=>by rw[d2]at z;cases z⟩
 keep:=fun i h h' st k=>by
  obtain⟨hz,hTI,⟨u,v,hTO⟩,h1,h2⟩:=st;exact⟨k z (by simp) _ hz,k TI (by simp) _ hTI,⟨u,v,k TO (by simp) _ hTO⟩,h1.at fun o e=>k i1 (by simp) o e,h2.at fun o e=>k i2 (by simp) o e⟩
 item:=by
  intro X hP hw hK hc i pins s σ H E I hf st hg;subst hP hw hK;obtain⟨xs,ys,x,y,sa,sb,ex,ey⟩:=hg;obtain⟨its,ra,pa,_⟩:=I.list sa;obtain⟨its',rb,pb,_⟩:=I.list sb;obtain⟨u,eu,ru⟩:=ra.get ex;obtain⟨v,ev,rv⟩:=rb.get ey;obtain⟨hz,hTI,⟨u0,v0,hTO⟩,h1,h2⟩:=st;refine wpAny_pyNext_zip_item D hz hTI hTO h1 h2 pa.isList pb.isList (x:=u) (y:=v) (by simpa using eu) (by simpa using ev) fun h' a1 a2 a3 a4 a5 a6 hk=> ?_;refine⟨_,rfl,wpAny_letOwnedTupleGo_zip a1 fun h'' hz' hs' => ?_⟩;have zlt:z<s.heap.objs.size:=Hs hz;have kk:∀c o,c∉[z,TI,TO,i1,i2]->s.heap.get? c=some o->h''.get? c=some o:=fun c o hc e=>by
   simp only[Hm,Ie,JY,KW]at hc;obtain⟨c1,c2,c3,c4,c5⟩:=hc;exact(hs'.2 c c1).trans (hk c o c1 c3 c4 c5 e)
  have tI:h''.get? TI=some _:=(hs'.2 TI D.TIz).trans (hk TI _ D.TIz D.TITO D.TIi1 D.TIi2 hTI);have new:h''.get? s.heap.objs.size=some {cls:=.type "tuple",data:=.seq #[u,v]}:=(hs'.2 _ (JU zlt)).trans a5;have I1:Inv X pins σ (upd H s.heap.objs.size (.tup [x,y])) {s with heap:=h''}:=I.drew (t' :=s.toks) hf kk (Hg _) ⟨by show 2<=sizeLine;decide,[u,v],.cons ru (.cons rv .nil),⟨_,new,rfl,_,rfl,rfl⟩⟩;refine⟨.ref s.heap.objs.size,upd H s.heap.objs.size (.tup [x,y]),I1,rfl,⟨s.heap.objs.size,I.hok.fresh (Hg _),rfl,fun xs' ys' x' y' sa' sb' ex' ey' => ?_⟩,⟨hz',tI,⟨_,_,(hs'.2 TO D.TOz).trans a2⟩,a3.at fun o e=>(hs'.2 i1 D.i1z).trans e,a4.at fun o e=>(hs'.2 i2 D.i2z).trans e⟩,fun c hc=> ?_⟩
  ·have q1:=I.list_inj sa sa'
   have q2:=I.list_inj sb sb';subst q1 q2;rw[ex]at ex';rw[ey]at ey';cases ex';cases ey';rfl
  ·rw[aB ?_]
   ·exact(hf c hc).1
   ·intro e
    have lt:c<s.heap.objs.size:=by
     simp only[Hm,Ie,JY]at hc;obtain⟨o1,e1,_⟩:=id h1;obtain⟨o2,e2,_⟩:=id h2
     rcases hc with rfl|rfl|rfl|rfl|rfl
     ·exact zlt
     ·exact Hs hTI
     ·exact Hs hTO
     ·exact Hs e1
     ·exact Hs e2
    exact absurd e (Hy lt)
 done:=by
  intro X hP hw hK hc i pins s σ H E I hf st hg;subst hP hw hK;obtain⟨xs,ys,sa,sb,hend⟩:=hg;obtain⟨its,ra,pa,_⟩:=I.list sa;obtain⟨its',rb,pb,_⟩:=I.list sb;obtain⟨hz,hTI,⟨u0,v0,hTO⟩,h1,h2⟩:=st;have l1:=ra.length;have l2:=rb.length;refine wpAny_pyNext_zip_end (I.ok.hd hc) D hz hTI hTO h1 h2 pa.isList pb.isList ?_ fun h' hk=>⟨rfl,I.drew0 (t' :=s.toks) hf fun c o hc e=> ?_⟩
  ·rcases hend with q|q
   ·exact .inl (by simp;omega)
   ·exact .inr (by simp;omega)
  ·simp only[Hm,Ie,JY,KW]at hc
   exact hk c o hc.1 hc.2.2.1 hc.2.2.2.1 hc.2.2.2.2 e
 self:=fun _ _ _ _ _ st h=>wpAny_pyIter_zip st.1 h
noncomputable def iZip(K:W.Frag)(ta:TA):TI:=fun σ H R=>ta σ H fun vs H1=>∃a b xs ys,vs=[.ref a,.ref b]/\bB K H1 a xs/\bB K H1 b ys/\R (Itz K a b) H1
theorem Ck{es:List Expr}{kt:Nat}{tpos:Pos}{a b:Expr}{ta:TA}{p pos:Pos}(hg:Gl X "zip")(hm:X.mg "zip"=none)(ha:PA X [a,b] ta)(hs:starEach [a,b] X.env=(false,eval a X.env)::starEach [b] X.env:=by rfl)
  (hs2:(backTo pos (starEach [b] X.env)).any (·.1)=false:=by rfl):PI X (.Tuple es kt tpos) (.Call (.Name "zip" p) [a,b] [] pos) (iZip X.K ta):=by
 intro pins s σ H R I h;refine Call_ (dF I hg hm boot_zip (Ir (al (ha pos pins s σ H _ I h) fun us s1 ⟨vs,H1,I1,r1,q1⟩=> ?_) hs hs2));obtain⟨l1,l2,xs,ys,e,sa,sb,q⟩:=q1;subst e;obtain⟨u,v,rfl,ru,rv⟩:=vals2 r1;cases ru;cases rv;obtain⟨its,ra,pa,_⟩:=I1.list sa;obtain⟨its',rb,pb,_⟩:=I1.list sb;have lt1:l1<s1.heap.objs.size:=by obtain⟨o,e,_⟩:=pa.isList;exact Hs e
 have lt2:l2<s1.heap.objs.size:=by obtain⟨o,e,_⟩:=pb.isList;exact Hs e
 refine call_zip_2 pa.isList pb.isList fun h' hz hTI hTO hit1 hit2 hsz hk=> ?_;refine wpAny_pyIter_zip hz ?_;have I2:Inv X pins σ H1 {s1 with heap:=h'}:=I1.kept (t' :=s1.toks) hk;refine⟨s1.heap.objs.size+4,[s1.heap.objs.size+4,s1.heap.objs.size+2,s1.heap.objs.size+3,s1.heap.objs.size,s1.heap.objs.size+1],_,_,H1,rfl,I2,vy (zipApart_new lt1 lt2),⟨hz,hTI,⟨_,_,hTO⟩,hit1,hit2⟩,fun c hc=> ?_,q⟩;have le:s1.heap.objs.size<=c:=by
  simp only[Hm,Ie,JY]at hc
  rcases hc with rfl|rfl|rfl|rfl|rfl<;>omega
 exact I1.fpOk le (I1.hok.fresh le)
theorem xD:fG X (binaryOp .FloorDiv) (rI (fun _ j=>0<j/\j.natAbs.log2<9000) fun i j=>.int (i/j)):=GD fun i j _ _ _ _ _ hc q=>by
 have h1:(0:Int)<j:=hc.1;exact floordiv_int (by omega) (by rw[Int.fdiv_eq_ediv_of_nonneg i (by omega)];exact q) (.inl (PyProof.noPylong_of_log2 hc.2))
end
theorem aC.tup{K:W.Frag}{H H' :Hp}{a:Addr}{xs:List V}(e:aC H H')(h:cT K H a xs):cT K H' a xs:=by
 rcases h with(h|⟨o,h⟩)|h
 ·exact .inl (.inl (e _ _ h))
 ·exact .inl (.inr ⟨o,e _ _ h⟩)
 ·exact .inr h
theorem aI{H:Hp}{p:Addr}(h:H p=none)(o:HO):aC H (upd H p o):=fun b u q=>by rw[aB (aK q h)];exact q
theorem aC.upd{H H' :Hp}{D:Addr}{o:HO}(e:aC H H')(h:H D=none):aC H (upd H' D o):=fun b u q=>by rw[aB (aK q h)];exact e b u q
noncomputable def cg(z:Str):List V:=z.cps.toList.map fun c=>V.str ⟨#[c]⟩
theorem jW(z:Str):(cg z).length=z.length:=by
 unfold cg;rw[HX,Ig];rfl
noncomputable def Bn(n:Nat):List V:=(List.range n).map fun i=>V.int (i:Nat)
section
variable{X:Cx}{N' :List Str}{scope:Scope}{elt:Expr}{σ:St}{H1:Hp}{J:It}{xs:List V}
theorem kG{r:List (Option Nat)}{σ:St}{x:V}(h:r.length+1=N'.length) :
  ((bF (none::r) σ).set 0 (some x)).length=N'.length/\∀(j:Nat)(v:V),(bF (none::r) σ)[j]? =some (some v)->((bF (none::r) σ).set 0 (some x))[j]? =some (some v):=by
 refine⟨by rw[Iq];simp[bF,h],fun j v e=> ?_⟩;cases j with
 | zero=>simp[bF]at e
 | succ j=>simpa [bF]using e
end
structure BR(K:W.Frag)(mg:Str->Option Value)(x:Str)(st:Stmt)(ps:List Str)(f:Addr)(fd:FuncData):Prop where
 fn:Ew K x x st f fd
 nm:mg x=some (.ref f)
 bd:Binds K fd ps []
theorem F5{X:Cx}{x:Str}{n:String}{pos:Pos}(hg:Gl X x)(hm:X.mg x=none)(hv:bootBuiltins x=some (.type n))(hn:x≠"__name__":=by decide)(hd:(x==("__debug__":Str))=false:=by decide):PE X (.Name x pos) (tC (.ty n)) :=
 zz (v:=.ty n) hg hm hv rfl hn hd
section
variable{K:W.Frag}
theorem eK(n:String):W.kitOne K (.type n) (.type n)=some true:=by
 unfold W.kitOne;rw[Hr (by simp)]
end
noncomputable def GI:V->Nat
 | .str z=>z.length
 | _=>0
noncomputable def sV(K:W.Frag):Sp:=fun vs H Q _=>∃(a:Addr)(ns:List Int),vs=[.ref a]/\bB K H a (ns.map V.int)/\ns.length<=63/\∀H',Q (.bl true) H'
section
variable{X:Cx}{e st:Expr}{te ts:TE}{pos p2:Pos}
noncomputable def zg:V->List V->Hp->VK->Prop:=fun x vs H Q=>∃(l:Addr)(xs:List V)(i:Int)(y:V),x=.ref l/\vs=[.int i,y]/\H l=some (.lst xs)/\0<=i/\i<=xs.length/\xs.length<sizeLine/\Q .non (upd H l (.lst (xs.take i.toNat++y::xs.drop i.toNat)))
theorem ub:MtM X "list.insert" zg:=by
 intro pins s σ H x vs v us Q I rx rv h;obtain⟨l,xs,i,y,rfl,rfl,hH,h0,h1,hz,q⟩:=h;cases rx;obtain⟨u,w',rfl,⟨t,rfl⟩,ry⟩:=rv.two;obtain⟨z,its,n,r,hl,e⟩:=I.lstM hH;have hs:sizeLine=16777216:=Im;refine call_meets F.slot_list_insert ⟨_,e,rfl⟩ F.entry_list_insert (F.args_list_insert_3 _ _ _) (AutoListH.list_insert_list_int_val_1 l its.toArray n i t w' ?_ (by rw[Hu];omega)) ⟨e,?_⟩
 ·unfold Builtin.List.listFitsIndex
  simp;omega
 ·refine⟨.non,_,I.lset (its' :=its.take i.toNat++w' ::its.drop i.toNat) hH e ?_ ((r.take i.toNat).append (.cons ry (r.drop i.toNat))) ?_,rfl,q⟩
  ·have k:(if i<0 then(i+((its.toArray.size:Nat):Int)).toNat else min i.toNat its.toArray.size)=i.toNat:=by
    rw[Hl (by omega),Hu];omega
   simp only[k];simp;rw[List.take_of_length_le (by simp)]
  ·simp only[IA,JX,IL,List.length_drop]
   omega
end
section
variable{κ:Type}[DecidableEq κ]
noncomputable def d7(kvs:List (κ×V))(k:κ):Option V:=(kvs.find? fun kv=>decide (kv.1=k)).map (·.2)
noncomputable def dB(kvs:List (κ×V))(k:κ)(v:V):List (κ×V) :=
 if(kvs.any fun kv=>decide (kv.1=k))=true then kvs.map (fun kv=>if kv.1=k then(kv.1,v)else kv)else kvs++[(k,v)]
theorem gQ{p:κ×V}{r:List (κ×V)}{k:κ}(e:p.1=k):d7 (p::r) k=some p.2:=by simp[d7,Io,e]
theorem gR{p:κ×V}{r:List (κ×V)}{k:κ}(e:¬p.1=k):d7 (p::r) k=d7 r k:=by simp[d7,Io,e]
theorem nr(k:κ):∀kvs:List (κ×V),(kvs.any fun kv=>decide (kv.1=k))=(d7 kvs k).isSome
 | []=>rfl
 | p::r=>by
  rw[J1]
  by_cases e:p.1=k
  ·simp only[gQ e,IW e,Bool.true_or,Option.isSome_some]
  ·rw[gR e,Ij e,Bool.false_or];exact nr k r
theorem eJ(kvs:List (κ×V))(k:κ)(v:V):(dB kvs k v).length<=kvs.length+1:=by
 unfold dB
 split
 ·rw[HX];omega
 ·rw[IA,IL,List.length_nil];omega
theorem ig.isSome_eq{o:Option V}{u:Option Value}(r:ig o u):o.isSome=u.isSome:=by
 cases o with
 | none=>cases u with
  | none=>rfl
  | some _=>exact(show False from r).elim
 | some _=>cases u with
  | none=>exact(show False from r).elim
  | some _=>rfl
theorem ig.getD{o:Option V}{u:Option Value}{d:V}{d' :Value}(r:ig o u)(rd:RelV d d'):RelV (o.getD d) (u.getD d'):=by
 cases o with
 | none=>cases u with
  | none=>exact rd
  | some _=>exact(show False from r).elim
 | some _=>cases u with
  | none=>exact(show False from r).elim
  | some _=>exact r
theorem KV.val{kvs:List (κ×V)}{vs:List (κ×Value)}(r:KV kvs vs)(k:κ):ig (d7 kvs k) (valueAt vs k):=by
 unfold KV at r
 induction r with
 | nil=>exact True.intro
 | @cons p q ps qs h t ih =>
  obtain⟨h1,h2⟩:=h
  by_cases e:p.1=k
  ·have e' :q.1=k:=h1.symm.trans e
   have b:valueAt (q::qs) k=some q.2:=by simp[valueAt,Io,e']
   rw[gQ e,b];exact h2
  ·have e' :¬q.1=k:=fun z=>e (h1.trans z)
   have b:valueAt (q::qs) k=valueAt qs k:=by simp[valueAt,Io,e']
   rw[gR e,b];exact ih
theorem KV.any{kvs:List (κ×V)}{vs:List (κ×Value)}(r:KV kvs vs)(k:κ):(kvs.any fun kv=>decide (kv.1=k))=vs.any fun kv=>decide (kv.1=k):=by
 unfold KV at r
 induction r with
 | nil=>rfl
 | cons h t ih=>rw[J1,J1,ih,h.1]
theorem KV.repl{kvs:List (κ×V)}{vs:List (κ×Value)}(r:KV kvs vs)(k:κ){y:V}{u:Value}(ry:RelV y u) :
  KV (kvs.map fun kv=>if kv.1=k then(kv.1,y)else kv) (vs.map fun kv=>if kv.1=k then(kv.1,u)else kv):=by
 unfold KV at r ⊢
 induction r with
 | nil=>exact .nil
 | @cons p q ps qs h t ih =>
  rw[Hf,Hf];refine .cons ?_ ih;obtain⟨h1,h2⟩:=h
  by_cases e:p.1=k
  ·rw[Hr e,Hr (h1.symm.trans e)];exact⟨h1,ry⟩
  ·rw[Hl e,Hl (fun z=>e (h1.trans z))];exact⟨h1,h2⟩
theorem KV.put{kvs:List (κ×V)}{vs:List (κ×Value)}(r:KV kvs vs)(k:κ){y:V}{u:Value}(ry:RelV y u):KV (dB kvs k y) (stored vs k u):=by
 unfold dB stored;rw[r.any k]
 by_cases e:(vs.any fun kv=>decide (kv.1=k))=true
 ·rw[Hr e,Hr e];exact r.repl k ry
 ·rw[Hl e,Hl e];exact Paired.snoc r ⟨rfl,ry⟩
theorem KV.length{kvs:List (κ×V)}{vs:List (κ×Value)}(r:KV kvs vs):kvs.length=vs.length:=Paired.length r
end
theorem lG{P:Program}{w:World}{k:ag}{u:Value}(r:RelV (kV k) u):(ac P w).is k u=true:=by
 cases k with
 | inl i=>obtain⟨t,e⟩:=(show∃t,u=Value.int i t from r);subst e;exact oi P w i t
 | inr x=>obtain⟨t,e⟩:=(show∃t,u=Value.str x t from r);subst e;exact oh P w x t
theorem lH{P:Program}{w:World}:∀{ks:List ag}{us:List Value},aT (ks.map kV) us->ItemsAre (ac P w) ks us
 | [],_,r=>by rw[Ip]at r;cases r;exact .nil
 | k::ks,_,r=>by
  rw[Hf]at r;cases r with
  | cons h t=>exact .cons (lG h) (lH t)
noncomputable abbrev KT(H:Hp):List (List ag×V)->List (List ag×Addr×Value)->Prop:=Paired fun p q=>p.1=q.1/\H q.2.1=some (.tup (p.1.map kV))/\RelV p.2 q.2.2
theorem KT.val{H:Hp}{kvs:List (List ag×V)}{xs:List (List ag×Addr×Value)}(r:KT H kvs xs)(k:List ag):ig (d7 kvs k) ((atKey xs k).map (·.2)):=by
 induction r with
 | nil=>exact True.intro
 | @cons p q ps qs h t ih =>
  obtain⟨h1,_,h2⟩:=h
  by_cases e:p.1=k
  ·have e' :q.1=k:=h1.symm.trans e
   have b:atKey (q::qs) k=some q.2:=by simp[atKey,Io,e']
   rw[gQ e,b];exact h2
  ·have e' :¬q.1=k:=fun z=>e (h1.trans z)
   have b:atKey (q::qs) k=atKey qs k:=by simp[atKey,Io,e']
   rw[gR e,b];exact ih
theorem KT.repl{H:Hp}{kvs:List (List ag×V)}{xs:List (List ag×Addr×Value)}(r:KT H kvs xs)(k:List ag){y:V}{u:Value}(ry:RelV y u) :
  KT H (kvs.map fun kv=>if kv.1=k then(kv.1,y)else kv) (xs.map (putAt k u)):=by
 induction r with
 | nil=>exact .nil
 | @cons p q ps qs h t ih =>
  rw[Hf,Hf];refine .cons ?_ ih;obtain⟨h1,h2,h3⟩:=h;unfold putAt
  by_cases e:p.1=k
  ·rw[Hr e,Hr (h1.symm.trans e)];exact⟨h1,h2,ry⟩
  ·rw[Hl e,Hl (fun z=>e (h1.trans z))];exact⟨h1,h2,h3⟩
theorem KT.put{H:Hp}{kvs:List (List ag×V)}{xs:List (List ag×Addr×Value)}(r:KT H kvs xs)(k:List ag){b:Addr}{y:V}{u:Value}(hb:H b=some (.tup (k.map kV)))(ry:RelV y u) :
  KT H (dB kvs k y) (storedH xs k b u):=by
 have e:(kvs.any fun kv=>decide (kv.1=k))=(atKey xs k).isSome:=by
  rw[nr,(r.val k).isSome_eq,Option.isSome_map]
 unfold dB storedH;rw[e]
 by_cases q:(atKey xs k).isSome=true
 ·rw[Hr q,Hr q];exact r.repl k ry
 ·rw[Hl q,Hl q];exact Paired.snoc r ⟨rfl,hb,ry⟩
theorem KT.keeps{H H' :Hp}{kvs:List (List ag×V)}{xs:List (List ag×Addr×Value)}(r:KT H kvs xs)(ht:∀b ys,H b=some (.tup ys)->H' b=some (.tup ys)):KT H' kvs xs :=
 Paired.mapP r fun _ _ z=>⟨z.1,ht _ _ z.2.1,z.2.2⟩
section
variable{P:Program}{w:World}{H:Hp}{h:Heap}{a:Addr}
theorem Ba{u:HO}(ok:eU P w H h)(e:Rd H a u):am P w H h a u:=e.ok ok
theorem iu{kvs:List (ag×V)}(ok:eU P w H h)(e:Rd H a (.dK kvs)):kvs.length<=sizeLine/\(a==sysModules)=false/\∃vs,KV kvs vs/\h.DictOf (ac P w) a vs :=
 show am P w H h a (.dK kvs)from Ba ok e
theorem lT{kvs:List (ag×V)}(ok:eU P w H h)(e:H a=some (.dK kvs)):kvs.length<=sizeLine/\(a==sysModules)=false/\∃vs,KV kvs vs/\h.DictOf (ac P w) a vs:=iu ok (.inl e)
theorem jo{ks:List ag}(ok:eU P w H h)(e:H a=some (.tup (ks.map kV))):(tupleKind (ac P w)).is h ks a:=by
 obtain⟨_,its,r,o,h1,h2,n,h3,_⟩:=(show am P w H h a (.tup (ks.map kV))from ok a _ e);exact⟨o,its.toArray,n,h1,h2,h3,by simpa using lH r⟩
theorem lQ{kvs:List (List ag×V)}(ok:eU P w H h)(e:Rd H a (.dT kvs)):kvs.length<=sizeLine/\(a==sysModules)=false /\
  ∃xs,KT H kvs xs/\h.DictOfH (tupleKind (ac P w)) a xs:=by
 obtain⟨z,y,xs,r,o,es,ep,h1,h2,h3,h4,h5⟩:=(show am P w H h a (.dT kvs)from Ba ok e);refine⟨z,y,xs,r,o,es,ep,h1,h2,h3,h4,fun x hx=> ?_,h5⟩;have all:∀{l:List (List ag×V)}{m:List (List ag×Addr×Value)},KT H l m->∀x∈m,(tupleKind (ac P w)).is h x.1 x.2.1:=by
  intro l m q
  induction q with
  | nil=>intro x hx;exact nomatch hx
  | @cons p q ps qs hq t ih =>
   intro x hx
   rcases Hm.mp hx with e|hx
   ·subst e
    exact jo ok (by rw[<- hq.1];exact hq.2.1)
   ·exact ih x hx
 exact all r x hx
theorem GU{kvs:List (List ag×V)}(ok:eU P w H h)(e:H a=some (.dT kvs)):kvs.length<=sizeLine/\(a==sysModules)=false /\
  ∃xs,KT H kvs xs/\h.DictOfH (tupleKind (ac P w)) a xs:=lQ ok (.inl e)
end
noncomputable def fI(H:Hp)(a:Addr)(y:V)(r:Option V):Prop :=
 (∃kvs k,Rd H a (.dK kvs)/\y=kV k/\r=d7 kvs k)\/∃kvs k b,Rd H a (.dT kvs)/\y=.ref b/\H b=some (.tup (k.map kV))/\r=d7 kvs k
noncomputable def rj(H:Hp)(a:Addr)(y v:V)(H' :Hp):Prop :=
 (∃kvs k,H a=some (.dK kvs)/\y=kV k/\kvs.length<sizeLine/\H' =upd H a (.dK (dB kvs k v))) \/
 ∃kvs k b,H a=some (.dT kvs)/\y=.ref b/\H b=some (.tup (k.map kV))/\kvs.length<sizeLine/\H' =upd H a (.dT (dB kvs k v))
theorem fI.k{H:Hp}{a:Addr}{kvs:List (ag×V)}{k:ag}(e:H a=some (.dK kvs)):fI H a (kV k) (d7 kvs k):=.inl ⟨kvs,k,.inl e,rfl,rfl⟩
theorem fI.t{H:Hp}{a b:Addr}{kvs:List (List ag×V)}{k:List ag}(e:H a=some (.dT kvs))(eb:H b=some (.tup (k.map kV))):fI H a (.ref b) (d7 kvs k):=.inr ⟨kvs,k,b,.inl e,rfl,eb,rfl⟩
theorem rj.k{H:Hp}{a:Addr}{kvs:List (ag×V)}{k:ag}{v:V}(e:H a=some (.dK kvs))(hl:kvs.length<sizeLine):rj H a (kV k) v (upd H a (.dK (dB kvs k v))):=.inl ⟨kvs,k,e,rfl,hl,rfl⟩
theorem rj.t{H:Hp}{a b:Addr}{kvs:List (List ag×V)}{k:List ag}{v:V}(e:H a=some (.dT kvs))(eb:H b=some (.tup (k.map kV)))(hl:kvs.length<sizeLine) :
  rj H a (.ref b) v (upd H a (.dT (dB kvs k v))):=.inr ⟨kvs,k,b,e,rfl,eb,hl,rfl⟩
section
variable{X:Cx}{pins:List (Addr×Obj)}{σ:St}{H:Hp}{s:Shared}{a:Addr}{y v:V}{u r:Value}{o:Option V}{A:Around}{E:Value->Shared->Prop}
theorem Inv.big(I:Inv X pins σ H s):sysModules<s.heap.objs.size:=by
 have h:mainGlobals<s.heap.objs.size:=(I.mod.glob.keeps I.bk).lt;exact Jo (by decide) h
theorem uv{Q:Value->Shared->Prop}(hu:A.units+1<cLine)(I:Inv X pins σ H s)(g:fI H a y (some v))(ry:RelV y u)(h:∀w' s',Inv X pins σ H s' ->RelV v w' ->Q w' s') :
  wpAny (model X.prog X.w) A (getItem (.ref a) u) Q E s:=by
 rcases g with⟨kvs,k,e,ey,l⟩|⟨kvs,k,b,e,ey,eb,l⟩
 ·subst ey
  obtain⟨z,hd,vs,rel,dd⟩:=iu I.hok e;obtain⟨w',hw,rw'⟩:=ig.some_of (v:=v) (o:=valueAt vs k) (by rw[l];exact rel.val k);exact wpAny_getItem_of (lG ry) dd.mapOf hw (h w' _ (I.tok _) rw')
 ·subst ey
  cases(show u=Value.ref b from ry);obtain⟨z,hd,xs,rel,dd⟩:=lQ I.hok e;obtain⟨w',hw,rw'⟩:=ig.some_of (v:=v) (o:=(atKey xs k).map (·.2)) (by rw[l];exact rel.val k);obtain⟨p,hp,hp2⟩:=Option.map_eq_some_iff.mp hw;refine wpAny_getItem_heap (Kh hu) (jo I.hok eb) dd hp ?_;rw[hp2];exact h w' _ (I.tok _) rw'
theorem Aq{Q:Value->Shared->Prop}(hu:A.units+1<cLine)(I:Inv X pins σ H s)(g:fI H a y o)(ry:RelV y u)(h:∀s',Inv X pins σ H s' ->Q (.bool (!o.isSome)) s') :
  wpAny (model X.prog X.w) A (compareOp .NotIn u (.ref a)) Q E s:=by
 rcases g with⟨kvs,k,e,ey,l⟩|⟨kvs,k,b,e,ey,eb,l⟩
 ·subst ey
  obtain⟨z,hd,vs,rel,dd⟩:=iu I.hok e;refine wpAny_notIn_of (lG ry) hd dd.mapOf ?_;rw[<- (rel.val k).isSome_eq,<-l];exact h _ (I.tok _)
 ·subst ey
  cases(show u=Value.ref b from ry);obtain⟨z,hd,xs,rel,dd⟩:=lQ I.hok e;refine wpAny_notIn_heap (Kh hu) (jo I.hok eb) hd dd ?_;have q:=(rel.val k).isSome_eq;rw[Option.isSome_map]at q;rw[<- q,<-l];exact h _ (I.tok _)
theorem mz{h' :Heap}{t' :Nat}{ob:HO}(I:Inv X pins σ H s)(mu:HN (H a))(hs:Heap.SameBut a s.heap h')(he:∃q,h'.get? a=some q)(new:am X.prog X.w (upd H a ob) h' a ob) :
  Inv X pins σ (upd H a ob) {s with heap:=h',toks:=t'} :=
 I.write (x:=a) (e:=a) mu (.inl rfl) (fun b q hb z=>(hs.2 b hb).trans z) he new
theorem rB{P:Program}{w:World}{H' :Hp}{h' :Heap}{kvs:List (ag×V)}{vs:List (ag×Value)}(z:kvs.length<=sizeLine)(hd:(a==sysModules)=false)(rel:KV kvs vs)(dd:h'.DictOf (ac P w) a vs) :
  am P w H' h' a (.dK kvs):=⟨z,hd,vs,rel,dd⟩
theorem uu{H' :Hp}{Q:Unit->Shared->Prop}(hu:A.units+1<cLine)(I:Inv X pins σ H s)(g:rj H a y v H')(ry:RelV y u)(rv:RelV v r)(h:∀s',Inv X pins σ H' s' ->Q () s') :
  wpAny (model X.prog X.w) A (setItem (.ref a) u r) Q E s:=by
 rcases g with⟨kvs,k,e,ey,l,eH⟩|⟨kvs,k,b,e,ey,eb,l,eH⟩
 ·subst ey eH
  obtain⟨z,hd,vs,rel,dd⟩:=lT I.hok e;have hz:vs.length<=sizeLine:=by rw[<- rel.length];exact z
  have hl:(dB kvs k v).length<=sizeLine:=by have:=eJ kvs k v;omega
  refine wpAny_setItem_pairs (hsz:=hz) (lG ry) dd fun h' dd' hs=>h _ ?_;have he:∃q,h'.get? a=some q:=let⟨q,_,_,hq,_⟩:=dd';⟨q,hq⟩
  exact mz I (by rw[e];exact True.intro) hs he (rB hl hd (rel.put k rv) dd')
 ·subst ey eH
  cases(show u=Value.ref b from ry);obtain⟨z,hd,xs,rel,dd⟩:=GU I.hok e;have hz:xs.length<=sizeLine:=by rw[<- Paired.length rel];exact z
  have hl:(dB kvs k v).length<=sizeLine:=by have:=eJ kvs k v;omega
  refine wpAny_setItem_heap (hsz:=hz) (Kh hu) (jo I.hok eb) dd fun h' dd' hs=>h _ ?_;obtain⟨q,es,ep,hq,h2,h3,h4,_,h5⟩:=dd';refine mz I (by rw[e];exact True.intro) hs ⟨q,hq⟩ ⟨hl,hd,_,(rel.put k eb rv).keeps fun c ys ec=> ?_,q,es,ep,hq,h2,h3,h4,h5⟩;rw[aB (GG ec e (fun z=>nomatch z))];exact ec
end
section
variable{X:Cx}{pins:List (Addr×Obj)}{σ:St}{H:Hp}{s:Shared}{a:Addr}{kvs:List (ag×V)}{k:ag}{u:Value}{A:Around}{E:Value->Shared->Prop}
theorem GW{Q:Value->Shared->Prop}(I:Inv X pins σ H s)(e:Rd H a (.dK kvs))(h:∀t s',Inv X pins σ H s' ->Q (.int kvs.length t) s'):wpAny (model X.prog X.w) A (call (.builtin "len") [.ref a]) Q E s:=by
 obtain⟨z,hd,vs,rel,dd⟩:=iu I.hok e;refine call_len_dict hd dd (by rw[<- rel.length];rw[Im]at z;omega) ?_;rw[<- rel.length];exact h _ _ (I.tok _)
end
noncomputable def Ef(i:Expr):Prop:=∀ov iv,subscripted i false ov iv=operate [ov,iv] (getItem ov iv)
theorem zO{prog:Program}{w:World}{A:Around}{E:Value->Shared->Prop}{s:Shared}{env:Env}{value slice:Expr}{pos:Pos}{T id:String}{Q:Value->Shared->Prop}
  (hl:typeLookup (.type T) "__getitem__"=pure (some (.builtin id))) (hs:Ef slice)
  (h:wpAny (model prog w) A (eval value env) (fun o s₁=>wpAny (model prog w) A (eval slice env) (fun i s₂=>s₂.TypeIs o T/\wpAny (model prog w) A (getItem o i) Q E s₂) E s₁) E s) :
  wpAny (model prog w) A (eval (.Subscript value slice pos) env) Q E s:=by
 refine Subscript_ (JK h (fun o s₁ h₁=>JK h₁ (fun i s₂ h₂=> ?_) fun _ _ x=>x) fun _ _ x=>x);obtain⟨hT,h₂⟩:=h₂;unfold subscriptTail;refine HY ?_;rw[getitemInPython_of_ne hT.not_modules];refine HY (wpAny_specialOf hT hl ?_);have fin:wpAny (model prog w) A (subscripted slice false o i) (fun r s₃=>wpAny (model prog w) A (letTemporaryGo value o r >>= fun _=>pure r) Q E s₃) E s₂:=by
  rw[hs o i];exact wpAny_operating (JK h₂ (fun r s₃ h₃=>HY (wpAny_letTemporaryGo (Hq h₃))) fun _ _ x=>x)
 first
  | exact Hq (HY fin)
  | exact HY (Hq (HY fin))
  | exact HY fin
theorem pK{X:Cx}{pins:List (Addr×Obj)}{σ:St}{H:Hp}{s:Shared}{a:Addr}{y:V}{o:Option V}(I:Inv X pins σ H s)(g:fI H a y o):s.TypeIs (.ref a) "dict":=by
 rcases g with⟨kvs,k,e,_,_⟩|⟨kvs,k,b,e,_,_,_⟩
 ·obtain⟨_,_,vs,_,dd⟩:=iu I.hok e
  exact dd.typeIs
 ·obtain⟨_,_,xs,_,dd⟩:=lQ I.hok e
  exact dd.typeIs
noncomputable def FW(td ty:TE):TE:=fun σ H Q=>td σ H fun x H1=>ty σ H1 fun y H2=>∃a v,x=.ref a/\fI H2 a y (some v)/\Q v H2
noncomputable def zN(ty td:TE):TE:=fun σ H Q=>ty σ H fun y H1=>td σ H1 fun x H2=>∃a o,x=.ref a/\fI H2 a y o/\Q (.bl (!o.isSome)) H2
noncomputable def Fs(td ty tv:TE):TS:=fun D σ H=>tv σ H fun v H1=>td σ H1 fun x H2=>ty σ H2 fun y H3=>∃a H4,x=.ref a/\rj H3 a y v H4/\D.nx σ H4
section
variable{X:Cx}{o i e value:Expr}{pos pos' tpos:Pos}{td ty tv:TE}
theorem sg(hu:X.A.units+1<cLine)(ho:PE X o td)(hi:PE X i ty)(hs:Ef i):PE X (.Subscript o i pos) (FW td ty):=by
 intro pins s σ H Q I h;refine zO PySem.F.slot_dict_getitem.lookup hs (al (ho pins s σ H _ I h) fun u s1 ⟨x,H1,I1,rx,q1⟩=>al (hi pins s1 σ H1 _ I1 q1) fun iv s2 hpq=> ?_);obtain⟨y,H2,I2,ry,a,v,ex,g,q2⟩:=hpq;subst ex;obtain rfl:u=Value.ref a:=rx;exact⟨pK I2 g,uv hu I2 g ry fun w' s3 I3 rw' =>⟨v,H2,I3,rw',q2⟩⟩
theorem lA(hu:X.A.units+1<cLine)(hi:PE X i ty)(ho:PE X o td):PC X .NotIn i o (zN ty td):=by
 intro pins s σ H Q I h;refine al (hi pins s σ H _ I h) fun iv s1 ⟨y,H1,I1,ry,q1⟩=>al (ho pins s1 σ H1 _ I1 q1) fun u s2 hpq=> ?_;obtain⟨x,H2,I2,rx,a,ov,ex,g,q2⟩:=hpq;subst ex;obtain rfl:u=Value.ref a:=rx;exact Aq hu I2 g ry fun s3 I3=>⟨.bl (!ov.isSome),H2,I3,rfl,q2⟩
theorem mO(hu:X.A.units+1<cLine)(ho:PE X o td)(hi:PE X i ty)(hv:PE X value tv)(hs:swapsWith value (some (.Subscript o i pos')) pos.line X.env=pure false) :
  PS X (.Assign [.Subscript o i pos'] value pos) (Fs td ty tv):=by
 intro pins s σ H D I h;refine wpAny_Assign_Subscript (al (hv pins s σ H _ I h) fun r s1 ⟨v,H1,I1,rv,q1⟩=>al (ho pins s1 σ H1 _ I1 q1) fun u s2 ⟨x,H2,I2,rx,q2⟩=>al (hi pins s2 σ H2 _ I2 q2) fun iv s3 ⟨y,H3,I3,ry,a,H4,ex,g,q3⟩=> ?_) hs;subst ex;obtain rfl:u=Value.ref a:=rx;exact uu hu I3 g ry rv fun s4 I4=>⟨σ,H4,I4,q3⟩
end
theorem pJ{P:Program}{w:World}{H:Hp}(h:Heap)(hb:sysModules<h.objs.size):am P w H (h.push {cls:=.type "dict",data:=.dict #[]}) h.objs.size (.dK []) :=
 ⟨IN _,KQ.mpr (Ja (Hy hb)),[],.nil,Heap.DictOf.new h⟩
noncomputable def CF:TE:=fun _ H Q=>∀p,H p=none->Q (.ref p) (upd H p (.dK []))
section
variable{X:Cx}{pos:Pos}
theorem gf:PE X (.Dict [] [] pos) CF:=fun pins s σ H Q I h =>
 wpAny_Dict_empty ⟨.ref s.heap.objs.size,_,I.laid (a:=s.heap.objs.size) (o:=.dK []) (t' :=s.toks) (fun _ _ q=>Ha _ q) (Hg _) (pJ s.heap I.big),rfl,h _ (I.hok.fresh (Hg _))⟩
end
noncomputable def qJ:List (TE×TE)->St->Hp->(List (V×V)->Hp->Prop)->Prop
 | [],_,H,Q=>Q [] H
 | (tk,tv)::r,σ,H,Q=>tk σ H fun x H1=>tv σ H1 fun y H2=>qJ r σ H2 fun ps H3=>Q ((x,y)::ps) H3
noncomputable abbrev VV:List (V×V)->List (Value×Value)->Prop:=Paired fun p q=>RelV p.1 q.1/\RelV p.2 q.2
noncomputable def PPs(X:Cx)(pos:Pos)(keys:List (Option Expr))(values:List Expr)(trs:List (TE×TE)):Prop :=
 ∀(pins:List (Addr×Obj))(s:Shared)(σ:St)(H:Hp)(Q:List (V×V)->Hp->Prop),Inv X pins σ H s->qJ trs σ H Q ->
  wpAny (model X.prog X.w) X.A (evalPairs (pairTrees keys values X.env pos)) (fun vs s' =>∃ps H',Inv X pins σ H' s' /\VV ps vs/\Q ps H') X.xe s
theorem zo{X:Cx}{pos:Pos}:PPs X pos [] [] []:=fun pins s σ H Q I h=>pairTrees_nil_walk ⟨[],H,I,.nil,h⟩
theorem wk{X:Cx}{pos:Pos}{k v:Expr}{ks:List (Option Expr)}{vs:List Expr}{tk tv:TE}{trs:List (TE×TE)}(hk:PE X k tk)(hv:PE X v tv)(hr:PPs X pos ks vs trs) :
  PPs X pos (some k::ks) (v::vs) ((tk,tv)::trs):=fun pins s σ H Q I h =>
 pairTrees_cons_walk (al (hk pins s σ H _ I h) fun u s1 ⟨x,H1,I1,rx,q1⟩=>al (hv pins s1 σ H1 _ I1 q1) fun w2 s2 ⟨y,H2,I2,ry,q2⟩ =>
  al (hr pins s2 σ H2 _ I2 q2) fun ws s3 ⟨ps,H3,I3,rel,q3⟩=>⟨(x,y)::ps,H3,I3,.cons ⟨rx,ry⟩ rel,q3⟩)
noncomputable def gC(kvs more:List (ag×V)):List (ag×V):=more.foldl (fun acc kv=>dB acc kv.1 kv.2) kvs
theorem KV.merge:∀{more:List (ag×V)}{rs:List (ag×Value)}{kvs:List (ag×V)}{vs:List (ag×Value)},KV more rs->KV kvs vs->KV (gC kvs more) (merged vs rs):=by
 intro more rs kvs vs r;unfold KV at r
 induction r generalizing kvs vs with
 | nil=>intro q;exact q
 | @cons p q ps qs h t ih =>
  intro r0;have e:KV (dB kvs p.1 p.2) (stored vs q.1 q.2):=by
   have:=r0.put p.1 h.2;rw[<- h.1];exact this
  exact ih e
theorem fh:∀(more kvs:List (ag×V)),(gC kvs more).length<=kvs.length+more.length
 | [],kvs=>by show kvs.length<=kvs.length+0;omega
 | p::r,kvs=>by
  have h1:=fh r (dB kvs p.1 p.2);have h2:=eJ kvs p.1 p.2;show(gC (dB kvs p.1 p.2) r).length<=_;rw[IL];omega
theorem kE{P:Program}{w:World}:∀{kvs:List (ag×V)}{ws:List (Value×Value)},VV (kvs.map fun kv=>(kV kv.1,kv.2)) ws->∃rs,Carries (ac P w) ws rs/\KV kvs rs
 | [],_,r=>by rw[Ip]at r;cases r;exact⟨[],True.intro,.nil⟩
 | p::kvs,_,r=>by
  rw[Hf]at r;cases r with
  | @cons a b as bs h t =>
   obtain⟨rs,c,q⟩:=kE (P:=P) (w:=w) t;obtain⟨b1,b2⟩:=b;exact⟨(p.1,b2)::rs,⟨lG h.1,rfl,c⟩,.cons ⟨rfl,h.2⟩ q⟩
noncomputable def FV(trs:List (TE×TE)):TE:=fun σ H Q=>∀p,H p=none->qJ trs σ (upd H p (.dK [])) fun ps H2=>H2 p=some (.dK [])/\∃kvs:List (ag×V),ps=kvs.map (fun kv=>(kV kv.1,kv.2))/\kvs.length<=15/\Q (.ref p) (upd H2 p (.dK (gC [] kvs)))
theorem zx{X:Cx}{pos:Pos}{keys:List (Option Expr)}{values:List Expr}{trs:List (TE×TE)}(h:PPs X pos keys values trs)(hall:keys.all (·.isSome)=true)(hl:keys.length=values.length)(h0:keys≠[])
  (h15:keys.length<=15):PE X (.Dict keys values pos) (FV trs):=by
 intro pins s σ H Q I q;have hn:=I.hok.fresh (Hg s.heap.objs.size);have I1:=I.laid (a:=s.heap.objs.size) (o:=.dK []) (h' :=s.heap.push {cls:=.type "dict",data:=.dict #[]}) (t' :=s.toks) (fun _ _ q=>Ha _ q) (Hg _) (pJ s.heap I.big);refine wpAny_Dict_walk (knd:=ac X.prog X.w) hall hl h0 h15 (al (h pins _ σ _ _ I1 (q _ hn)) fun ws s2 hpq=> ?_);obtain⟨ps,H2,I2,rel,e,kvs,ep,lk,q2⟩:=hpq;subst ep;obtain⟨rs,c,rk⟩:=kE (P:=X.prog) (w:=X.w) rel;obtain⟨z,hd,vs0,r0,dd⟩:=lT I2.hok e;cases r0;refine⟨rs,c,dd,fun h' dd' hs=>⟨.ref s.heap.objs.size,_,?_,rfl,q2⟩⟩;have hz:(gC [] kvs).length<=sizeLine:=by
  have h1:=fh kvs [];rw[List.length_nil]at h1;rw[Im];omega
 have he:∃q,h'.get? s.heap.objs.size=some q:=let⟨q,_,_,hq,_⟩:=dd';⟨q,hq⟩
 exact mz I2 (by rw[e];exact True.intro) hs he (rB hz hd (rk.merge .nil) dd')
structure M2(X:Cx)(o:Expr)(m:Str)(apos:Pos)(e f:Expr)(cpos:Pos):Prop where
 base:attributeBase o m X.env (eval o X.env)=eval o X.env
 few:((backTo cpos (starEach [e,f] X.env)).all (fun x=> !x.1)&&(backToKw cpos (keywordEach [] X.env)).all (fun x=>x.1.isSome)
  && decide (([e,f]:List Expr).length+([]:List Keyword).length+(if([]:List Keyword).isEmpty then 0 else 1)<30))=true
 line:(apos.endLine==cpos.line)=true
 trees:backTo cpos (starEach [e,f] X.env)=[(false,eval e X.env),(false,eval f X.env)]
noncomputable def IsD(H:Hp)(a:Addr):Prop:=(∃kvs,Rd H a (.dK kvs))\/∃kvs,Rd H a (.dT kvs)
theorem DV{X:Cx}{pins:List (Addr×Obj)}{σ:St}{H:Hp}{s:Shared}{a:Addr}(I:Inv X pins σ H s)(d:IsD H a) :
  s.TypeIs (.ref a) "dict"/\(∀b,Value.ref a=.ref b->∃ob,s.heap.get? b=some ob/\ob.dict=none)/\(a==sysModules)=false:=by
 rcases d with⟨kvs,e⟩|⟨kvs,e⟩
 ·obtain⟨_,hd,vs,_,dd⟩:=iu I.hok e
  refine⟨dd.typeIs,fun b q=> ?_,hd⟩;cases q;obtain⟨ob,_,_,h1,h2,_⟩:=dd;exact⟨ob,h1,h2.2.1⟩
 ·obtain⟨_,hd,xs,_,dd⟩:=lQ I.hok e
  refine⟨dd.typeIs,fun b q=> ?_,hd⟩;cases q;obtain⟨ob,_,_,h1,h2,_⟩:=dd;exact⟨ob,h1,h2.2.1⟩
section
variable{X:Cx}{pins:List (Addr×Obj)}{σ:St}{H:Hp}{s:Shared}{a:Addr}{y d:V}{u r:Value}{o:Option V}{A:Around}{E:Value->Shared->Prop}
theorem Dy{Q:Value->Shared->Prop}(hu:A.units+1<cLine)(I:Inv X pins σ H s)(g:fI H a y o)(ry:RelV y u)(rd:RelV d r)(h:∀w' s',Inv X pins σ H s' ->RelV (o.getD d) w' ->Q w' s') :
  wpAny (model X.prog X.w) A (call (.builtin "dict.get") [.ref a,u,r]) Q E s:=by
 rcases g with⟨kvs,k,e,ey,l⟩|⟨kvs,k,b,e,ey,eb,l⟩
 ·subst ey
  obtain⟨z,hd,vs,rel,dd⟩:=iu I.hok e;refine call_meetsIn PySem.F.slot_dict_get dd.typeIs PySem.F.entry_dict_get (PySem.F.args_dict_get_3 _ _ _) (meets_dict_get_default (ac X.prog X.w) a (lG ry) hd r) ⟨_,dd.mapOf,h _ _ (I.tok _) ?_⟩;rw[l];exact(rel.val k).getD rd
 ·subst ey
  cases(show u=Value.ref b from ry);obtain⟨z,hd,xs,rel,dd⟩:=lQ I.hok e;refine call_meetsIn PySem.F.slot_dict_get dd.typeIs PySem.F.entry_dict_get (PySem.F.args_dict_get_3 _ _ _) (meetsH_dict_get_default (tupleKind (ac X.prog X.w)) a b hd r) ⟨Kh hu,k,xs,jo I.hok eb,dd,h _ _ (I.tok _) ?_⟩;rw[l];exact(rel.val k).getD rd
end
noncomputable def CG(td ty tx:TE):TE:=fun σ H Q=>td σ H fun x H1=>∃a,x=.ref a/\IsD H1 a/\ty σ H1 fun y H2=>tx σ H2 fun z H3=>∃o,fI H3 a y o/\Q (o.getD z) H3
section
variable{X:Cx}{o e f:Expr}{apos cpos:Pos}{td ty tx:TE}
theorem xA(hu:X.A.units+1<cLine)(ho:PE X o td)(he:PE X e ty)(hf:PE X f tx)(m:M2 X o "get" apos e f cpos):PE X (.Call (.Attribute o "get" apos) [e,f] [] cpos) (CG td ty tx):=by
 intro pins s σ H Q I h;refine wpAny_Call_method m.base m.few m.line J6 PySem.F.slot_dict_get PySem.F.type_dict_get (al (ho pins s σ H _ I h) fun u s1 hpq=> ?_);obtain⟨x,H1,I1,rx,a,ex,d,q1⟩:=hpq;subst ex;obtain rfl:u=Value.ref a:=rx;obtain⟨t1,t2,_⟩:=DV I1 d;refine⟨t1,t2,?_⟩;rw[m.trees]
 refine KL rfl (Calls.evalArgs_plain (Calls.spliced_cons (al (he pins s1 σ H1 _ I1 q1) fun iv s2 ⟨y,H2,I2,ry,q2⟩ =>
  Calls.spliced_cons (al (hf pins s2 σ H2 _ I2 q2) fun fv s3 ⟨z,H3,I3,rz,ov,g,q3⟩=>Calls.spliced_nil ?_))))
 exact Dy hu I3 g ry rz fun w' s4 I4 rw' =>⟨_,H3,I4,rw',q3⟩
end
section
variable{X:Cx}{pins:List (Addr×Obj)}{σ:St}{H:Hp}{s:Shared}{a:Addr}{kvs:List (ag×V)}{A:Around}{E:Value->Shared->Prop}
theorem yH{Q:Value->Shared->Prop}(I:Inv X pins σ H s)(e:Rd H a (.dK kvs))(h:∀p s',H p=none->Inv X pins σ (upd H p (.dK kvs)) s' ->Q (.ref p) s'):wpAny (model X.prog X.w) A (call (.type "dict") [.ref a]) Q E s:=by
 obtain⟨z,hd,vs,rel,dd⟩:=iu I.hok e;refine kt_call_dict hd dd (by rw[<- rel.length];exact z) fun h' dd' hs=> ?_;refine h _ _ (I.hok.fresh (Hg _)) (I.laid (a:=s.heap.objs.size) (o:=.dK kvs) (t' :=s.toks) (fun b q hq=> ?_) (Hg _) (rB z (KQ.mpr (Ja (Hy I.big))) rel dd'));exact(hs.2 b (Hy (Hs hq))).trans (Ha _ hq)
end
section
variable{X:Cx}{pins:List (Addr×Obj)}{σ:St}{H:Hp}{s:Shared}{a:Addr}{y:V}{u:Value}{A:Around}{E:Value->Shared->Prop}
end
section
variable{κ:Type}[DecidableEq κ]
end
noncomputable def cd(rows:List Str)(i j:Nat):Nat:=((rows.getD i ⟨#[]⟩).cps.toList).getD j 0
noncomputable def fl(c:Nat):Nat:=if c=120 then 46 else 120
noncomputable def Wd(rows:List Str)(w:Nat):Prop:=∀r∈rows,r.length=w
theorem Gb{rows:List Str}{w i j:Nat}(hw:Wd rows w)(hi:i<rows.length)(hj:j<w):∃z,rows[i]? =some z/\z.cps.toList[j]? =some (cd rows i j)/\z.length=w:=by
 have e:rows[i]? =some rows[i]:=Hd hi;have hl:=hw rows[i] (JN hi);have hj' :j<rows[i].cps.toList.length:=by
  rw[Ig];show j<rows[i].length;omega
 refine⟨rows[i],e,?_,hl⟩;unfold cd;rw[Hc,Hc,e,Option.getD_some,Hd hj',Option.getD_some]
open AutoSeq1 (wpAny_loadPart')
section
variable{X:Cx}
end
open AutoSeq1 (wpAny_loadPart')
section
variable{X:Cx}
end
section
variable{P:Program}{w:World}{A:Around}{E:Value->Shared->Prop}{s:Shared}
theorem C5{it a:Addr}{i:Nat}{its:Array Value}{v:Value}{Q:Value->Shared->Prop}(ti:s.heap.IsTupleIter it a i)(ta:s.heap.IsTuple a its)(hv:its[i]? =some v)
  (k:∀h',h'.IsTupleIter it a (i+1)->Heap.SameBut it s.heap h' ->Q v {s with heap:=h'}):wpAny (model P w) A (Builtin.SmallTypes.nextOf (.ref it)) Q E s:=by
 obtain⟨r,hr,rc,rd⟩:=id ti;obtain⟨q,hq,_,nq,qd⟩:=ta;unfold Builtin.SmallTypes.nextOf;refine HY (KC (name:=Str.ofString "__next__") ti.typeIs F.slot_tuple_iterator_next (JF F.slot_tuple_iterator_next ti.typeIs F.entry_tuple_iterator_next ?_ (F.args_tuple_iterator_next_1 _)));show wpAny _ _ (field (.ref it) 0 >>= fun _=>_) _ _ s;refine HY (wpAny_field hr rd (x:=.ref a) rfl ?_);show wpAny _ _ (if(Value.ref a==Value.none)=true then _ else _) _ _ s;rw[Hl (by exact Hk)];show wpAny _ _ (field (.ref it) 1 >>= fun _=>_) _ _ s;refine HY (wpAny_field hr rd (x:=.int i 0) rfl ?_);show wpAny _ _ (seqItems? (.ref a) >>= fun _=>_) _ _ s;refine HY (wpAny_seqItems hq qd ?_);simp only[J9,hv];refine HY (Kf hr rd (by simp) (Hq ⟨v,rfl,Hq (k _ ?_ (J7 ..))⟩));exact⟨_,JD _ hr (Obj.isFreed_of_fields (Jt rd _)),(Obj.cls_mapFields ..).trans rc,by rw[Jt rd];simp[rawInt]⟩
theorem qm{it a:Addr}{i:Nat}{its:Array Value}{Q:Value->Shared->Prop}(hd:A.handled=none)(ti:s.heap.IsTupleIter it a i)(ta:s.heap.IsTuple a its)(hv:its[i]? =none)
  (k:∀h' e,Heap.ExtBut it s.heap h' ->(∃o,h'.get? e=some o/\o.cls=.type "StopIteration")->E (.ref e) {s with heap:=h'}):wpAny (model P w) A (Builtin.SmallTypes.nextOf (.ref it)) Q E s:=by
 obtain⟨r,hr,rc,rd⟩:=id ti;obtain⟨q,hq,_,nq,qd⟩:=ta;unfold Builtin.SmallTypes.nextOf;refine HY (KC (name:=Str.ofString "__next__") ti.typeIs F.slot_tuple_iterator_next (JF F.slot_tuple_iterator_next ti.typeIs F.entry_tuple_iterator_next ?_ (F.args_tuple_iterator_next_1 _)));show wpAny _ _ (field (.ref it) 0 >>= fun _=>_) _ _ s;refine HY (wpAny_field hr rd (x:=.ref a) rfl ?_);show wpAny _ _ (if(Value.ref a==Value.none)=true then _ else _) _ _ s;rw[Hl (by exact Hk)];show wpAny _ _ (field (.ref it) 1 >>= fun _=>_) _ _ s;refine HY (wpAny_field hr rd (x:=.int i 0) rfl ?_);show wpAny _ _ (seqItems? (.ref a) >>= fun _=>_) _ _ s;refine HY (wpAny_seqItems hq qd ?_);simp only[J9,hv];refine HY (wpAny_rule (HY (Kf hr rd (by simp) ?_)));show wpAny _ _ (newExc (.type "StopIteration") [] >>= fun _=>_) _ _ _;refine HY ?_;simp only[newExc,newTuple];refine HY (Jk ?_ (by size_fits));refine HY (m:=firstArgMember _ _) (wpAny_of_eq (a:=Value.none) (by first|(simp only[firstArgMember];rfl)|rfl) ?_);refine Jk ?_ (by size_fits);simp only[raiseNew];refine HY (wpAny_handled ?_)
 first|rw[hd]|rw[show A.in1.handled=none by exact hd]
 refine HY (Hq (wpAny_throw ?_));exact k _ _ (((J7 ..).extBut.push _).push _) ⟨_,Hv _ rfl,rfl⟩
end
theorem ut{P:Program}{w:World}{A:Around}(hd:A.handled=none)(it a:Addr)(ne:a≠it)(its:Array Value) :
  Draws P w A it [it,a] its.size (fun i v=>its[i]? =some v) (fun i h=>h.IsTupleIter it a i/\h.IsTuple a its) where
 live:=fun _ _ st=>by obtain⟨⟨r,hr,_⟩,_⟩:=st;exact⟨r,hr⟩
 frame:=fun _ _ _ st k=>⟨st.1.at fun o e=>k it (by simp) o e,st.2.at fun o e=>k a (by simp) o e⟩
 item:=fun i s Q E hi st q=>by
  refine C5 st.1 st.2 (v:=its[i]) (by simp[hi]) fun h' t' sb=>q _ h' s.toks (by simp[hi]) ⟨t',st.2.extBut sb.extBut ne⟩ sb
 done:=fun s Q E st q=>qm hd st.1 st.2 (by simp) q
open AutoSeq1 (wpAny_loadPart')
theorem oj(a:Addr)(its:Array Value)(n:Nat)(dd:Option Addr)(sl:Array (Option Value)) :
  Meets (Builtin.«enumerate.__new__» ⟨[.type "enumerate",.ref a],[]⟩) (fun _ R s=>s.heap.get? a=some {cls:=.type "tuple",dict:=dd,data:=.seq its n,slots:=sl} /\
   R (.ok (.ret (.ref (s.heap.push {cls:=.type "tuple_iterator",data:=.fields #[.ref a,.int 0 0]}).objs.size)))
    {s with heap:=(s.heap.push {cls:=.type "tuple_iterator",data:=.fields #[.ref a,.int 0 0]}).push {cls:=.type "enumerate",data:=.fields #[.none,.bool false,.ref s.heap.objs.size,rawInt 0,.none,.none]}}) :=
 .of_wp fun prog w A R s h=>by
  obtain⟨hp,g,d,tk,os⟩:=s;obtain⟨ha,h⟩:=h;have hsub:=sub_enumerate;have hT:Heap.IsTuple (Shared.heap ⟨hp,g,d,tk,os⟩) a its:=⟨_,ha,rfl,n,rfl⟩
  wp_walk using Ji ha
  refine wpAny_stack_any fun _=>Hq ?_
  split
  ·rename_i c _ _ _ _ _
   cases(c==Value.type "enumerate")
   ·wp_walk using Ji ha,Kg hT
    exact⟨_,rfl,h⟩
   ·wp_walk using Ji ha,Kg hT
    exact⟨_,rfl,h⟩
  ·wp_walk using Ji ha,Kg hT
   exact⟨_,rfl,h⟩
theorem rQ{P:Program}{w:World}{A:Around}{E:Value->Shared->Prop}{s:Shared}{a:Addr}{its:Array Value}{Q:Value->Shared->Prop}(hT:s.heap.IsTuple a its)
  (k:∀h',IsEnum h' (s.heap.objs.size+1) s.heap.objs.size 0 .none->h'.IsTupleIter s.heap.objs.size a 0->(∀b o,s.heap.get? b=some o->h'.get? b=some o)->Q (.ref (s.heap.objs.size+1)) {s with heap:=h'}) :
  wpAny (model P w) A (call (.type "enumerate") [.ref a]) Q E s:=by
 obtain⟨⟨c,dd,dt,sl⟩,ha,hc,n,hd⟩:=hT;simp only at hc hd;subst hc hd;refine callType_new F.called_enumerate (by decide) (F.typeCall_enumerate_1 _) (F.newCall_enumerate_1 _) (fun ob=>F.args_object_init_2 ob _) F.entry_enumerate_new (oj a its n dd sl) ⟨ha,?_⟩;have hz:(s.heap.push {cls:=.type "tuple_iterator",data:=.fields #[.ref a,.int 0 0]}).objs.size=s.heap.objs.size+1:=JT ..;show _/\_;rw[hz];have he:IsEnum ((s.heap.push {cls:=.type "tuple_iterator",data:=.fields #[.ref a,.int 0 0]}).push {cls:=.type "enumerate",data:=.fields #[.none,.bool false,.ref s.heap.objs.size,rawInt 0,.none,.none]}) (s.heap.objs.size+1) s.heap.objs.size 0 .none:=by
  have q:=Hv (s.heap.push {cls:=.type "tuple_iterator",data:=.fields #[.ref a,.int 0 0]}) (o:={cls:=.type "enumerate",data:=.fields #[.none,.bool false,.ref s.heap.objs.size,rawInt 0,.none,.none]}) rfl;rw[hz]at q;exact q
 exact⟨⟨_,he,rfl⟩,k _ he ⟨_,Ha _ (Hv _ rfl),rfl,rfl⟩ fun b o y=>Ha _ (Ha _ y)⟩
noncomputable def Ei(src:Hp->List V->Prop):It :=
 ⟨fun i H=>∃xs x,src H xs/\xs[i]? =some x,fun i H v H' =>∃p,H p=none/\v=.ref p/\∀xs x,src H xs->xs[i]? =some x->H' =upd H p (.tup [.int (i:Nat),x]),fun i H=>∃xs,src H xs/\xs.length=i⟩
structure tm(P:Program)(w:World)(K:W.Frag)(src:Hp->List V->Prop)(e it:Addr)(tn:Nat->Heap->Prop):Prop where
 ne:e≠it
 obj:∀i h,tn i h->∃o,h.get? it=some o/\∀v,o.data≠.cell v
 keep:∀i h h',tn i h->(∀o,h.get? it=some o->h'.get? it=some o)->tn i h'
 inj:∀(X:Cx) pins s σ H xs ys,X.K=K->Inv X pins σ H s->src H xs->src H ys->xs=ys
 draws:∀(X:Cx) pins s σ H xs (i:Nat),X.prog=P->X.w=w->X.K=K->X.calm=true->Inv X pins σ H s->src H xs->tn i s.heap->∃(fp:List Addr)(Pw:Nat->Value->Prop)(St:Nat->Heap->Prop),
  Draws P w X.A.in1 it fp xs.length Pw St/\e∉fp/\St i s.heap/\(∀j v x,Pw j v->xs[j]? =some x->RelV x v)/\∀j h,St j h->tn j h
theorem iD{P:Program}{w:World}{K:W.Frag}{es:List Expr}{kt:Nat}{tpos:Pos}{src:Hp->List V->Prop}{e it:Addr}{tn:Nat->Heap->Prop}(S:tm P w K src e it tn) :
  pZ P w K (.Tuple es kt tpos) (Ei src) [e,it] e (fun i h=>(∃old,IsEnum h e it (i:Nat) old)/\tn i h) where
 mem:=by simp
 obj:=fun i h st c hc=>by
  obtain⟨⟨old,he⟩,ht⟩:=st;simp only[Hm,Ie,JY]at hc
  rcases hc with rfl|rfl
  ·exact⟨_,he,fun v z=>by cases z⟩
  ·exact S.obj i h ht
 keep:=fun i h h' st k=>by
  obtain⟨⟨old,he⟩,ht⟩:=st;exact⟨⟨old,k e (by simp) _ he⟩,S.keep i h h' ht fun o q=>k it (by simp) o q⟩
 item:=by
  intro X hP hw hK hc i pins s σ H E I hf st hg;obtain⟨⟨old,he⟩,ht⟩:=st;obtain⟨xs,x,hs,hx⟩:=hg;obtain⟨fp,Pw,St,D,hef,hst,hrel,hback⟩:=S.draws X pins s σ H xs i hP hw hK hc I hs ht;subst hP hw hK;have hlt:i<xs.length:=(Hh.mp hx).1;have elt:e<s.heap.objs.size:=Hs he;have ilt:it<s.heap.objs.size:=by obtain⟨o,ho,_⟩:=S.obj i _ ht;exact Hs ho
  refine wpAny_pyNext_enum_itemD D he hst hlt S.ne hef fun u h' tk hu ho hst' hT hsz hk=> ?_;refine⟨_,rfl,wpAny_letOwnedTupleGo_enum ho fun h'' he' hs' => ?_⟩;have kk:∀c o,c∉[e,it]->s.heap.get? c=some o->h''.get? c=some o:=fun c o hc' y=>by
   simp only[Hm,Ie,JY,KW]at hc';exact(hs'.2 c hc'.1).trans (hk c o hc'.1 hc'.2 y)
  have new:h''.get? s.heap.objs.size=some {cls:=.type "tuple",data:=.seq #[.int i tk,u]}:=(hs'.2 _ (JU elt)).trans hT
  have I1:Inv X pins σ (upd H s.heap.objs.size (.tup [.int (i:Nat),x])) {s with heap:=h'',toks:=tk+1} :=
   I.drew (t' :=tk+1) hf kk (Hg _) ⟨by show 2<=sizeLine;decide,[.int i tk,u],.cons ⟨tk,rfl⟩ (.cons (hrel i u x hu hx) .nil),⟨_,new,rfl,_,rfl,rfl⟩⟩
  refine⟨.ref s.heap.objs.size,_,I1,rfl,⟨s.heap.objs.size,I.hok.fresh (Hg _),rfl,fun xs' x' hs2 hx2=> ?_⟩,⟨⟨u,by simpa using he'⟩,S.keep _ _ _ (hback _ _ hst') fun o y=>(hs'.2 it S.ne.symm).trans y⟩,fun c hc' => ?_⟩
  ·have q:=S.inj X pins s σ H _ _ rfl I hs hs2
   subst q;rw[hx]at hx2;cases hx2;rfl
  ·rw[aB ?_]
   ·exact(hf c hc').1
   ·simp only[Hm,Ie,JY]at hc'
    rcases hc' with rfl|rfl
    ·exact Hy elt
    ·exact Hy ilt
 done:=by
  intro X hP hw hK hc i pins s σ H E I hf st hg;obtain⟨⟨old,he⟩,ht⟩:=st;obtain⟨xs,hs,hx⟩:=hg;obtain⟨fp,Pw,St,D,hef,hst,hrel,hback⟩:=S.draws X pins s σ H xs i hP hw hK hc I hs ht;subst hP hw hK;subst hx;exact wpAny_pyNext_enum_endD D he hst fun h' hk=>⟨rfl,I.drew0 (t' :=s.toks) hf fun c o hc' y=>hk c o (by simp only[Hm,Ie,JY,KW]at hc';exact hc'.2) y⟩
 self:=fun _ _ _ _ _ st h=>by
  obtain⟨⟨old,he⟩,_⟩:=st;exact Ki he h
theorem uq{P:Program}{w:World}{K:W.Frag}{a e it:Addr}(h1:e≠it)(h2:a≠it)(h3:a≠e):tm P w K (fun H xs=>cT K H a xs) e it (fun i h=>h.IsTupleIter it a i) where
 ne:=h1
 obj:=fun i h st=>by
  obtain⟨o,ho,_,d⟩:=st;exact⟨o,ho,fun v z=>by rw[d]at z;cases z⟩
 keep:=fun i h h' st k=>st.at k
 inj:=fun X pins s σ H xs ys hK I h1 h2=>by
  subst hK;exact I.tuple_inj h1 h2
 draws:=fun X pins s σ H xs i hP hw hK hc I hs ht=>by
  subst hP hw hK;obtain⟨its,r,p,_⟩:=I.tuple hs;have l:=r.length;have D:=ut (P:=X.prog) (w:=X.w) (A:=X.A.in1) (I.ok.hd hc) it a h2 its.toArray;rw[Hu,<-l]at D;refine⟨_,_,_,D,by simp[h1,h3.symm],⟨ht,p⟩,fun j v x hv hx=> ?_,fun j h st=>st.1⟩;obtain⟨u,hu,ru⟩:=r.get hx;have e:its[j]? =some v:=by simpa using hv
  rw[hu]at e;cases e;exact ru
theorem ur{P:Program}{w:World}{K:W.Frag}{z:Str}{t:Tok}{e it:Addr}(h1:e≠it):tm P w K (fun _ xs=>xs=cg z) e it (fun i h=>h.IsStrIter it (strIterType z) z t i) where
 ne:=h1
 obj:=fun i h st=>by
  obtain⟨o,ho,_,d⟩:=st;exact⟨o,ho,fun v z=>by rw[d]at z;cases z⟩
 keep:=fun i h h' st k=>by
  obtain⟨o,ho,r⟩:=st;exact⟨o,k o ho,r⟩
 inj:=fun X pins s σ H xs ys hK I h1 h2=>by rw[h1,h2]
 draws:=fun X pins s σ H xs i hP hw hK hc I hs ht=>by
  subst hP hw hK hs;have l:(cg z).length=z.cps.size:=by rw[jW];rfl
  have rel:∀(j:Nat)(v:Value)(x:V),(∃c u,z.cps[j]? =some c/\v=.str ⟨#[c]⟩ u)->(cg z)[j]? =some x->RelV x v:=fun j v x hv hx=>by
   obtain⟨c,u,hc',rfl⟩:=hv;unfold cg at hx;rw[Ho,JL,hc']at hx;cases hx;exact⟨u,rfl⟩
  rw[l];cases ha:z.cps.all (·<128)with
  | true =>
   have e:strIterType z="str_ascii_iterator":=by unfold strIterType;rw[Hr ha]
   rw[e]at ht ⊢;exact⟨_,_,_,Draws.strAscii (prog:=X.prog) (w:=X.w) (A:=X.A.in1) (I.ok.hd hc) it z t,by simp[h1],ht,rel,fun j h st=>st⟩
  | false =>
   have e:strIterType z="str_iterator":=by unfold strIterType;rw[Hl (by rw[ha];exact Hk)]
   rw[e]at ht ⊢;exact⟨_,_,_,Draws.strWide (prog:=X.prog) (w:=X.w) (A:=X.A.in1) (I.ok.hd hc) it z t,by simp[h1],ht,rel,fun j h st=>st⟩
section
variable{X:Cx}
noncomputable def De(K:W.Frag)(ta:TA):TI:=fun σ H R=>ta σ H fun vs H1=>∃a xs,vs=[.ref a]/\cT K H1 a xs/\R (Ei fun H xs=>cT K H a xs) H1
noncomputable def Df(ta:TA):TI:=fun σ H R=>ta σ H fun vs H1=>∃z,vs=[.str z]/\R (Ei fun _ xs=>xs=cg z) H1
theorem wq{es:List Expr}{kt:Nat}{tpos:Pos}{a:Expr}{ta:TA}{p pos:Pos}(hg:Gl X "enumerate")(hm:X.mg "enumerate"=none)(ha:PA X [a] ta)(hs:starEach [a] X.env=[(false,eval a X.env)]:=by rfl) :
  PI X (.Tuple es kt tpos) (.Call (.Name "enumerate" p) [a] [] pos) (De X.K ta):=by
 intro pins s σ H R I h;refine Call_ (dF I hg hm boot_enumerate (Ir (al (ha pos pins s σ H _ I h) fun us s1 ⟨vs,H1,I1,r1,q1⟩=> ?_) hs rfl));obtain⟨l,xs,e,sa,q⟩:=q1;subst e;obtain⟨u,rfl,ru⟩:=vals1 r1;cases ru;obtain⟨its,r,pt,_⟩:=I1.tuple sa;have lt:l<s1.heap.objs.size:=by obtain⟨o,e,_⟩:=id pt;exact Hs e
 refine rQ pt fun h' he gP hk=> ?_;refine Ki he ?_;have I2:Inv X pins σ H1 {s1 with heap:=h'}:=I1.kept (t' :=s1.toks) hk;refine⟨s1.heap.objs.size+1,[s1.heap.objs.size+1,s1.heap.objs.size],_,_,H1,rfl,I2,iD (uq (Nat.succ_ne_self _) (Hy lt) (Hy (Iw lt))),⟨⟨_,he⟩,gP⟩,fun c hc=> ?_,q⟩;have le:s1.heap.objs.size<=c:=by
  simp only[Hm,Ie,JY]at hc
  rcases hc with rfl|rfl<;>omega
 exact I1.fpOk le (I1.hok.fresh le)
theorem wu{es:List Expr}{kt:Nat}{tpos:Pos}{a:Expr}{ta:TA}{p pos:Pos}(hg:Gl X "enumerate")(hm:X.mg "enumerate"=none)(ha:PA X [a] ta)(hs:starEach [a] X.env=[(false,eval a X.env)]:=by rfl) :
  PI X (.Tuple es kt tpos) (.Call (.Name "enumerate" p) [a] [] pos) (Df ta):=by
 intro pins s σ H R I h;refine Call_ (dF I hg hm boot_enumerate (Ir (al (ha pos pins s σ H _ I h) fun us s1 ⟨vs,H1,I1,r1,q1⟩=> ?_) hs rfl));obtain⟨z,e,q⟩:=q1;subst e;obtain⟨u,rfl,t,rfl⟩:=vals1 r1;refine call_enumerate_str fun h' he gP _ hk=> ?_;refine Ki he ?_;have I2:Inv X pins σ H1 {s1 with heap:=h'}:=I1.kept (t' :=s1.toks) hk;refine⟨s1.heap.objs.size+1,[s1.heap.objs.size+1,s1.heap.objs.size],_,_,H1,rfl,I2,iD (ur (Nat.succ_ne_self _)),⟨⟨_,he⟩,gP⟩,fun c hc=> ?_,q⟩;have le:s1.heap.objs.size<=c:=by
  simp only[Hm,Ie,JY]at hc
  rcases hc with rfl|rfl<;>omega
 exact I1.fpOk le (I1.hok.fresh le)
theorem xu{src:Hp->List V->Prop}{xs:List V}{g:TG}{tb:TS}{D:cu}{σ:St}{H:Hp}(Pv:Nat->St->Hp->Prop)(h0:Pv 0 σ H)(ha:∀i σ H,i<=xs.length->Pv i σ H->src H xs)
  (hs:∀i x p σ H,xs[i]? =some x->H p=none->Pv i σ H->g (.ref p) σ (upd H p (.tup [.int (i:Nat),x])) fun σ2 H2=>tb {D with nx:=Pv (i+1),ct:=Pv (i+1),bk:=D.nx} σ2 H2) (hd:∀σ H,Pv xs.length σ H->D.nx σ H) :
  ∃W:Nat->Nat->St->Hp->Prop,(∃m,W 0 m σ H)/\∀i m σ H,W i m σ H ->
   ((Ei src).stop i H/\D.nx σ H)\/((Ei src).go i H/\∃N:St->Hp->Prop,(∀σ' H',N σ' H' ->∃m',m' <m/\W (i+1) m' σ' H')/\∀x H',(Ei src).yld i H x H' ->g x σ H' fun σ2 H2=>tb {D with nx:=N,ct:=N,bk:=D.nx} σ2 H2):=by
 refine⟨fun i m σ H=>m=xs.length-i/\i<=xs.length/\Pv i σ H,⟨xs.length,by simp,IN _,h0⟩,?_⟩;rintro i m σ H ⟨rfl,hi,p⟩;have qa:=ha i σ H hi p
 by_cases hlt:i<xs.length
 ·have ex:xs[i]? =some xs[i]:=by simp[hlt]
  refine .inr ⟨⟨xs,_,qa,ex⟩,Pv (i+1),fun σ' H' p' =>⟨xs.length-(i+1),by omega,rfl,hlt,p'⟩,fun x H' y=> ?_⟩;obtain⟨pp,hn,rfl,y⟩:=y;have e:=y xs _ qa ex;subst e;exact hs i _ pp σ H ex hn p
 ·have e:i=xs.length:=by omega
  subst e;exact .inl ⟨⟨xs,qa,rfl⟩,hd σ H p⟩
theorem il{ns:List Int}{us:List Value}{i:Nat}{v:Value}(r:aT (ns.map V.int) us)(h:us[i]? =some v):∃t,v=.int (ns.getD i 0) t:=by
 have hl:=r.length;rw[HX]at hl;have hi:i<us.length:=(Hh.mp h).1;obtain⟨u,hu,ru⟩:=r.get (i:=i) (x:=.int (ns[i]'(by omega))) (by simp[show i<ns.length by omega]);rw[hu]at h;cases h;obtain⟨t,e⟩:=ru;refine⟨t,?_⟩;rw[e];simp[List.getD,show i<ns.length by omega]
theorem eE(ns:List Int):∀k,k<=ns.length->preSum (fun i=>ns.getD i 0) k=(ns.take k).sum
 | 0,_=>by simp[preSum]
 | k+1,h=>by
  have e:ns.take (k+1)=ns.take k++[ns[k]'(by omega)]:=by rw[JP];simp[show k<ns.length by omega]
  rw[preSum,eE ns k (by omega),e,List.sum_append];simp[List.getD,show k<ns.length by omega]
theorem kd(hc:X.calm=true):bI X (.builtin "sum") (fun xs H Q=>∃(p:Addr)(ns:List Int),xs=[.ref p]/\bB X.K H p (ns.map V.int)/\Q (.int ns.sum) H):=by
 intro pins s σ H xs us Q I r h;obtain⟨p,ns,rfl,hq,q⟩:=h;obtain⟨u,rfl,rx⟩:=vals1 r;cases rx;obtain⟨its,r',pl,hz⟩:=I.list hq;have hlen:=r'.length;rw[HX]at hlen;have hp:p<s.heap.objs.size:=by
  obtain⟨o,e,_⟩:=pl.isList;exact Hs e
 refine call_sum_walkAnyS (KJ pl.isList ?_);refine⟨s.heap.objs.size,_,_,_,its.toArray.size,_,_,(fun i=>ns.getD i 0),rfl,(Walks.list (A:=X.A.in1) (I.ok.hd hc) s.heap.objs.size p (Hy hp) its.toArray).toS,⟨⟨_,Hv _ rfl,rfl,rfl⟩,pl.isList.push _⟩,?_,?_,?_⟩
 ·intro b hb
  simp at hb
  rcases hb with rfl|rfl
  ·rw[size_push'];exact Nat.lt_succ_self _
  ·rw[size_push'];exact Iw hp
 ·intro i v hv
  exact il r' (by simpa using hv)
 ·intro s' t' hm
  obtain⟨m1,m2,m3,m4,m5⟩:=hm;have e:s' ={s with heap:=s'.heap,toks:=s'.toks}:=by
   cases s';simp only at m2 m3 m4;subst m2 m3 m4;rfl
  rw[e];refine⟨.int ns.sum,H,I.kept (t' :=s'.toks) (fun b o z=>m1 b o (by simpa using Hy (Hs z)) (Ha _ z)),⟨t',?_⟩,q⟩;rw[Hu,<-hlen,eE ns _ (Hg _),JM]
theorem dU:∀{us:List Value}{ns:List Int},IntsAre us ns->aT (ns.map V.int) us
 | _,_,.nil=>.nil
 | _,_,.cons n t r=>.cons ⟨t,rfl⟩ (dU r)
noncomputable def sortI(ns:List Int):List Int:=ns.mergeSort (fun a b=>decide (a<=b))
theorem sortI_perm(ns:List Int):(sortI ns).Perm ns:=List.mergeSort_perm _ _
theorem wH(ns:List Int):(sortI ns).Pairwise (·<=·):=by
 have:=List.pairwise_mergeSort (le:=fun a b:Int=>decide (a<=b)) (fun a b c h1 h2=>by simp at *;omega) (fun a b=>by simp;omega) ns;exact this.imp fun h=>by simpa using h
theorem mG{ns ms:List Int}(h:ms.Perm ns)(s:ms.Pairwise (·<=·)):ms=sortI ns :=
 Ke (le:=(·<=·)) (fun a b _ _ h1 h2=>Int.le_antisymm h1 h2) s (wH ns) (h.trans (sortI_perm ns).symm)
theorem iX:bI X (.builtin "sorted") (fun xs H Q=>∃(p:Addr)(ns:List Int),xs=[.ref p]/\bB X.K H p (ns.map V.int)/\ns.length<64/\∀a,H a=none->Q (.ref a) (upd H a (.lst ((sortI ns).map V.int)))):=by
 intro pins s σ H xs us Q I r h;obtain⟨p,ns,rfl,hq,h64,q⟩:=h;obtain⟨u,rfl,rx⟩:=vals1 r;cases rx;obtain⟨its,r',pl,hz⟩:=I.list hq;have hlen:=r'.length;rw[HX]at hlen;refine sorted_ints pl.isList (intsAre_of r') (by omega) fun out ns' a1 a2 a3=> ?_;have e:=mG a2 a3;subst e;obtain⟨c,hc⟩:=sortedAll_at s.heap its out;refine⟨.ref (s.heap.objs.size+1),_,I.laid (t' :=s.toks) (o:=.lst ((sortI ns).map V.int)) (fun b o z=>sortedAll_old z) (KM _) ?_,rfl,q _ (I.hok.fresh (KM _))⟩;refine⟨?_,out.toList,c,dU a1,by simpa [seqObj]using hc⟩;rw[HX,(sortI_perm ns).length_eq];have:=Im;omega
theorem rA{P:Program}{w:World}{K:W.Frag}{a e it:Addr}(h1:e≠it)(h2:a≠it)(h3:a≠e):tm P w K (fun H xs=>bB K H a xs) e it (fun i h=>h.IsListIter it a i) where
 ne:=h1
 obj:=fun i h st=>by
  obtain⟨o,ho,_,d⟩:=st;exact⟨o,ho,fun v z=>by rw[d]at z;cases z⟩
 keep:=fun i h h' st k=>st.at k
 inj:=fun X pins s σ H xs ys hK I h1 h2=>by
  subst hK;exact I.list_inj h1 h2
 draws:=fun X pins s σ H xs i hP hw hK hc I hs ht=>by
  subst hP hw hK;obtain⟨its,r,p,_⟩:=I.list hs;have l:=r.length;have D:=Draws.list (prog:=X.prog) (w:=X.w) (A:=X.A.in1) (I.ok.hd hc) it a h2 its.toArray;rw[Hu,<-l]at D;refine⟨_,_,_,D,by simp[h1,h3.symm],⟨ht,p.isList⟩,fun j v x hv hx=> ?_,fun j h st=>st.1⟩;obtain⟨u,hu,ru⟩:=r.get hx;have e:its[j]? =some v:=by simpa using hv
  rw[hu]at e;cases e;exact ru
noncomputable def Dg(K:W.Frag)(ta:TA):TI:=fun σ H R=>ta σ H fun vs H1=>∃a xs,vs=[.ref a]/\bB K H1 a xs/\R (Ei fun H xs=>bB K H a xs) H1
theorem oS{es:List Expr}{kt:Nat}{tpos:Pos}{a:Expr}{ta:TA}{p pos:Pos}(hg:Gl X "enumerate")(hm:X.mg "enumerate"=none)(ha:PA X [a] ta)(hs:starEach [a] X.env=[(false,eval a X.env)]:=by rfl) :
  PI X (.Tuple es kt tpos) (.Call (.Name "enumerate" p) [a] [] pos) (Dg X.K ta):=by
 intro pins s σ H R I h;refine Call_ (dF I hg hm boot_enumerate (Ir (al (ha pos pins s σ H _ I h) fun us s1 ⟨vs,H1,I1,r1,q1⟩=> ?_) hs rfl));obtain⟨l,xs,e,sa,q⟩:=q1;subst e;obtain⟨u,rfl,ru⟩:=vals1 r1;cases ru;obtain⟨its,r,pt,_⟩:=I1.list sa;have lt:l<s1.heap.objs.size:=by obtain⟨o,e,_⟩:=pt.isList;exact Hs e
 refine call_enumerate_list pt.isList fun h' he gP hl hk=> ?_;refine Ki he ?_;have I2:Inv X pins σ H1 {s1 with heap:=h'}:=I1.kept (t' :=s1.toks) hk;refine⟨s1.heap.objs.size+1,[s1.heap.objs.size+1,s1.heap.objs.size],_,_,H1,rfl,I2,iD (rA (Nat.succ_ne_self _) (Hy lt) (Hy (Iw lt))),⟨⟨_,he⟩,gP⟩,fun c hc=> ?_,q⟩;have le:s1.heap.objs.size<=c:=by
  simp only[Hm,Ie,JY]at hc
  rcases hc with rfl|rfl<;>omega
 exact I1.fpOk le (I1.hok.fresh le)
noncomputable def yg(i j:Int):Prop:=i.natAbs<2^2000/\j.natAbs<2^2000
theorem intBits_le{k:Int}(h:k.natAbs<2^2000):Builtin.Int.intBits k<=2000:=by
 unfold Builtin.Int.intBits
 split
 ·exact IN _
 ·have:k.natAbs.log2<2000:=by
   rcases Nat.eq_zero_or_pos k.natAbs with h0|hp
   ·rw[h0];decide
   ·exact(Nat.log2_lt (JU hp)).mpr h
  omega
theorem yg.ok{i j:Int}(h:yg i j):IntMulOk i j:=by
 unfold IntMulOk;have h1:=intBits_le h.1;have h2:=intBits_le h.2;have h3:Builtin.Int.intTooBig (Builtin.Int.intBits i+Builtin.Int.intBits j)=false:=by
  unfold Builtin.Int.intTooBig;have:((4000:Nat):Int)<=(bitsLine:Nat):=by decide
  exact Ij (by omega)
 rw[h3];simp
theorem AC:fG X (binaryOp .Mult) (rI yg fun i j=>.int (i*j)):=GD fun _ _ _ _ _ _ _ hc q=>mul_int q hc.ok
theorem rO:bI X (.builtin "len") (fun xs H Q=>∃a kvs,xs=[V.ref a]/\Rd H a (.dK kvs)/\Q (.int kvs.length) H):=by
 intro pins s σ H xs us Q I r h;obtain⟨a,kvs,rfl,ha,q⟩:=h;obtain⟨u,rfl,ru⟩:=vals1 r;cases ru;exact GW I ha fun t s' I' =>⟨.int kvs.length,H,I',⟨t,rfl⟩,q⟩
theorem pT:bI X (.type "dict") (fun xs H Q=>∃a kvs,xs=[V.ref a]/\Rd H a (.dK kvs)/\∀p,H p=none->Q (.ref p) (upd H p (.dK kvs))):=by
 intro pins s σ H xs us Q I r h;obtain⟨a,kvs,rfl,ha,q⟩:=h;obtain⟨u,rfl,ru⟩:=vals1 r;cases ru;exact yH I ha fun p s' hp I' =>⟨.ref p,_,I',rfl,q p hp⟩
noncomputable def kI(v d:Addr):HO:=.ext fun h=>h.IsValuesView v d
theorem lE:MtR X "dict.values" (fun x vs H Q=>∃a kvs,x=.ref a/\vs=[]/\H a=some (.dK kvs)/\∀p,H p=none->Q (.ref p) (upd H p (kI p a))):=by
 intro pins s σ H x xs v us Q I rx rs h;obtain⟨a,kvs,rfl,rfl,ha,q⟩:=h;cases rx;cases rs;obtain⟨z,hd,vs,rel,dd⟩:=lT I.hok ha;refine call_meetsIn Kd dd.typeIs PySem.F.entry_dict_values (PySem.F.args_dict_values_1 _) (meets_dict_values (ac X.prog X.w) a hd) ⟨⟨vs,dd⟩,?_⟩;refine⟨.ref s.heap.objs.size,_,I.laid (a:=s.heap.objs.size) (o:=kI s.heap.objs.size a) (t' :=s.toks) (fun b u e=>Ha _ e) (Hg _) ?_,rfl,q _ (I.hok.fresh (Hg _))⟩;refine⟨⟨_,Hv _ rfl,rfl,rfl⟩,⟨_,Hv _ rfl⟩,fun h1 h2 p k=> ?_⟩;obtain⟨o,e,r⟩:=p;exact⟨o,k o e,r⟩
theorem oq{kvs:List (ag×V)}{vs:List (ag×Value)}{ns:List Int}(r:KV kvs vs)(e:kvs.map (·.2)=ns.map V.int){i:Nat}{k:ag}{v:Value}(h:vs[i]? =some (k,v)):∃t,v=.int (ns.getD i 0) t:=by
 have hl:kvs.length=vs.length:=r.length;have hi:i<vs.length:=(Hh.mp h).1;have hn:ns.length=kvs.length:=by have:=Ix List.length e;simpa using this.symm
 have key:∀{kvs:List (ag×V)}{vs:List (ag×Value)}{i:Nat}{q:ag×Value},KV kvs vs->vs[i]? =some q->∃p,kvs[i]? =some p/\RelV p.2 q.2:=by
  intro kvs vs i q r
  induction r generalizing i with
  | nil=>intro e;simp at e
  | cons a t ih =>
   intro e;cases i with
   | zero=>simp at e;subst e;exact⟨_,by simp,a.2⟩
   | succ i=>simpa using ih (by simpa using e)
 obtain⟨p,hp,rp⟩:=key r h;have e2:(kvs.map (·.2))[i]? =(ns.map V.int)[i]? :=by rw[e]
 rw[Ho,Ho,hp,Hd (by omega)]at e2;have e3:p.2=V.int (ns[i]'(by omega)):=by simpa using e2
 rw[e3]at rp;obtain⟨t,e4⟩:=rp;refine⟨t,?_⟩;have e5:v=.int (ns[i]'(by omega)) t:=e4;rw[e5];simp[List.getD,show i<ns.length by omega]
theorem kc(hc:X.calm=true):bI X (.builtin "sum") (fun xs H Q=>∃(p a:Addr)(kvs:List (ag×V))(ns:List Int),xs=[.ref p]/\H p=some (kI p a)/\H a=some (.dK kvs)/\kvs.map (·.2)=ns.map V.int/\Q (.int ns.sum) H):=by
 intro pins s σ H xs us Q I r h;obtain⟨p,a,kvs,ns,rfl,hp,ha,en,q⟩:=h;obtain⟨u,rfl,rx⟩:=vals1 r;cases rx;obtain⟨z,hd,vs,rel,dd⟩:=lT I.hok ha;obtain⟨ep,da⟩:=dd.dictAt;obtain⟨hv,_⟩:=(show am X.prog X.w H s.heap p (kI p a)from I.hok p _ hp);have hl:kvs.length=vs.length:=rel.length;have hn:ns.length=kvs.length:=by have:=Ix List.length en;simpa using this.symm
 have lt:a<s.heap.objs.size:=da.lt_size;refine call_sum_walkAnyS (wpAny_pyIter_values hv da ?_);refine⟨s.heap.objs.size,_,_,_,vs.length,_,_,(fun i=>ns.getD i 0),rfl,(Walks.dictValues (A:=X.A.in1) (knd:=ac X.prog X.w) (I.ok.hd hc) s.heap.objs.size a (Hy lt) vs ep).toS,⟨⟨_,Hv _ rfl,rfl,rfl⟩,da.push _⟩,?_,?_,?_⟩
 ·intro b hb
  simp at hb
  rcases hb with rfl|rfl
  ·rw[size_push'];exact Nat.lt_succ_self _
  ·rw[size_push'];exact Iw lt
 ·rintro i v ⟨k,hv⟩
  exact oq rel en hv
 ·intro s' t' hm
  obtain⟨m1,m2,m3,m4,m5⟩:=hm;have e:s' ={s with heap:=s'.heap,toks:=s'.toks}:=by
   cases s';simp only at m2 m3 m4;subst m2 m3 m4;rfl
  rw[e];refine⟨.int ns.sum,H,I.kept (t' :=s'.toks) (fun b o z=>m1 b o (by simpa using Hy (Hs z)) (Ha _ z)),⟨t',?_⟩,q⟩;rw[<- hl,<-hn,eE ns _ (Hg _),JM]
theorem Inv.known{pins:List (Addr×Obj)}{σ:St}{H:Hp}{s:Shared}{a:Addr}{kvs:List (ag×V)}{o:Obj}(I:Inv X pins σ H s)(ha:H a=some (.dK kvs))(ho:s.heap.get? a=some o):Inv X pins σ (upd H a (.frz o (.dK kvs))) s:=by
 have nt:∀b xs,H b=some (.tup xs)->upd H a (.frz o (.dK kvs)) b=some (.tup xs):=fun b xs e=>by rw[aB (fun z=>by subst z;rw[ha]at e;cases e)];exact e
 refine⟨I.ok,I.os,I.bare,⟨I.base.keep,I.base.slot,fun b ob e n hx=> ?_,I.base.there,fun b xs e=>nt b xs (I.base.tups b xs e),fun b ob u e=> ?_,fun b ps e=> ?_⟩,I.loc,I.cell,?_,fun x c e=> ?_,fun p hp=> ?_,fun b u e=> ?_,I.len⟩
 ·have:=I.base.free b ob e n hx
  rw[aB (fun z=>by subst z;rw[ha]at this;cases this)];exact this
 ·have:=I.base.frzs b ob u e
  rw[aB (fun z=>by subst z;rw[ha]at this;cases this)];exact this
 ·obtain⟨m,e⟩:=I.base.tbls b ps e
  exact⟨m,by rw[aB (fun z=>by subst z;rw[ha]at e;cases e)];exact e⟩
 ·rw[aB (fun z=>by have:=I.free;rw[z,ha]at this;cases this)]
  exact I.free
 ·have:=I.freeC x c e
  rw[aB (fun z=>by rw[z,ha]at this;cases this)];exact this
 ·obtain⟨h1,h2,h3⟩:=I.pin p hp
  exact⟨h1,by rw[aB (fun z=>by rw[z,ha]at h2;cases h2)];exact h2,h3⟩
 ·by_cases hb:b=a
  ·subst hb
   rw[aD]at e;cases e;refine⟨ho,?_⟩;exact(I.hok b _ ha).stay (fun _ _ _ q=>q) (fun c q=>by rw[aB (fun z=>by subst z;rw[ha]at q;cases q)];exact q) nt
  ·rw[aB hb]at e
   exact(I.hok b u e).stay (fun _ _ _ q=>q) (fun c q=>by rw[aB (fun z=>by subst z;rw[ha]at q;cases q)];exact q) nt
noncomputable def NF(X:Cx)(a:Addr):Prop:=∀o u,X.H₀ a≠some (.frz o u)
theorem Inv.nf{pins:List (Addr×Obj)}{σ:St}{H:Hp}{s:Shared}{a:Addr}{kvs:List (ag×V)}(I:Inv X pins σ H s)(ha:H a=some (.dK kvs)):NF X a:=fun o u e=>by
 have:=I.base.frzs a o u e;rw[ha]at this;cases this
theorem Inv.unknown{pins:List (Addr×Obj)}{σ:St}{H:Hp}{s:Shared}{a:Addr}{kvs:List (ag×V)}{o:Obj}(I:Inv X pins σ H s)(nf:NF X a)(ha:H a=some (.frz o (.dK kvs))):Inv X pins σ (upd H a (.dK kvs)) s:=by
 have nt:∀b xs,H b=some (.tup xs)->upd H a (.dK kvs) b=some (.tup xs):=fun b xs e=>by rw[aB (fun z=>by subst z;rw[ha]at e;cases e)];exact e
 refine⟨I.ok,I.os,I.bare,⟨I.base.keep,I.base.slot,fun b ob e n hx=> ?_,I.base.there,fun b xs e=>nt b xs (I.base.tups b xs e),fun b ob u e=> ?_,fun b ps e=> ?_⟩,I.loc,I.cell,?_,fun x c e=> ?_,fun p hp=> ?_,fun b u e=> ?_,I.len⟩
 ·have:=I.base.free b ob e n hx
  rw[aB (fun z=>by subst z;rw[ha]at this;cases this)];exact this
 ·have:=I.base.frzs b ob u e
  rw[aB (fun z=>by subst z;exact nf _ _ e)];exact this
 ·obtain⟨m,e⟩:=I.base.tbls b ps e
  exact⟨m,by rw[aB (fun z=>by subst z;rw[ha]at e;cases e)];exact e⟩
 ·rw[aB (fun z=>by have:=I.free;rw[z,ha]at this;cases this)]
  exact I.free
 ·have:=I.freeC x c e
  rw[aB (fun z=>by rw[z,ha]at this;cases this)];exact this
 ·obtain⟨h1,h2,h3⟩:=I.pin p hp
  exact⟨h1,by rw[aB (fun z=>by rw[z,ha]at h2;cases h2)];exact h2,h3⟩
 ·by_cases hb:b=a
  ·subst hb
   rw[aD]at e;cases e;exact(I.hok b _ ha).2.stay (fun _ _ _ q=>q) (fun c q=>by rw[aB (fun z=>by subst z;rw[ha]at q;cases q)];exact q) nt
  ·rw[aB hb]at e
   exact(I.hok b u e).stay (fun _ _ _ q=>q) (fun c q=>by rw[aB (fun z=>by subst z;rw[ha]at q;cases q)];exact q) nt
noncomputable def HS(a:Addr)(o:Obj)(kvs:List (ag×V)):It :=
 ⟨fun i H=>H a=some (.frz o (.dK kvs))/\i<kvs.length,fun i H v H' =>∃p,H p=none/\v=.ref p/\∀k x,kvs[i]? =some (k,x)->H' =upd H p (.tup [kV k,x]),fun i H=>H a=some (.frz o (.dK kvs))/\i=kvs.length⟩
theorem DP{k:ag}{v:Value}{P:Program}{w:World}(h:(ac P w).is k v=true):RelV (kV k) v:=by
 cases k with
 | inl i =>
  obtain⟨t,e⟩:=Value.isInt_shape h;exact⟨t,e⟩
 | inr z =>
  obtain⟨t,e⟩:=Value.isStrOf_shape h;exact⟨t,e⟩
theorem fH:entryFor table "dict_itemiterator.__iter__"=some Builtin.«dict_keyiterator.__iter__» :=
 entryFor_alias (id' :="dict_keyiterator.__iter__") (by kernel_rfl) rfl (by decide +kernel) (by kernel_rfl)
theorem qD{P:Program}{w:World}{K:W.Frag}{es:List Expr}{kt:Nat}{tpos:Pos}{a it:Addr}{o:Obj}{kvs:List (ag×V)}{vs:List (ag×Value)}{ep:Nat}{h0:Heap}(hne:a≠it)(rel:KV kvs vs)(hat:h0.DictAt (ac P w) a vs ep)(ho:h0.get? a=some o) :
  pZ P w K (.Tuple es kt tpos) (HS a o kvs) [it] it (fun i h=>∃ok ov,IsItemIter h it a i vs.length ep ok ov) where
 mem:=by simp
 obj:=fun i h st b hb=>by
  have e:b=it:=by simpa using hb
  subst e;obtain⟨ok,ov,e⟩:=st;exact⟨_,e,fun v z=>by cases z⟩
 keep:=fun i h h' st k=>by
  obtain⟨ok,ov,e⟩:=st;exact⟨ok,ov,k it (by simp) _ e⟩
 item:=by
  intro X hP hw hK hc i pins s σ H E I hf st hg;subst hP hw hK;obtain⟨hfr,hlt⟩:=hg;obtain⟨ok,ov,he⟩:=st;have so:s.heap.get? a=some o:=(I.hok a _ hfr).1;have hat' :s.heap.DictAt (ac X.prog X.w) a vs ep:=hat.at' fun o' e=>by rw[ho]at e;cases e;exact so
  have hl:kvs.length=vs.length:=rel.length;obtain⟨⟨k,x⟩,hx⟩:∃q,kvs[i]? =some q:=⟨kvs[i],by simp[hlt]⟩;have key:∀{kvs:List (ag×V)}{vs:List (ag×Value)}{i:Nat}{q:ag×V},KV kvs vs->kvs[i]? =some q->∃v,vs[i]? =some (q.1,v)/\RelV q.2 v:=by
   intro kvs vs i q r
   induction r generalizing i with
   | nil=>intro e;simp at e
   | cons a t ih =>
    intro e;cases i with
    | zero =>
     simp at e;subst e;rename_i c _ _;exact⟨c.2,by simp[a.1],a.2⟩
    | succ i=>simpa using ih (by simpa using e)
  obtain⟨v,hv,rv⟩:=key rel hx;have ilt:it<s.heap.objs.size:=Hs he;refine wpAny_pyNext_items_item he hat' hv fun kv h' hkey hout hT hsz hk=> ?_;refine⟨_,rfl,wpAny_letOwnedTupleGo_items (s:={s with heap:=h'}) hout fun h'' he' hs' => ?_⟩;have kk:∀c o,c∉[it]->s.heap.get? c=some o->h''.get? c=some o:=fun c o hc' y=>by
   have hc2:c≠it:=by simpa using hc'
   exact(hs'.2 c hc2).trans (hk c o hc2 y)
  have new:h''.get? s.heap.objs.size=some {cls:=.type "tuple",data:=.seq #[kv,v]}:=(hs'.2 _ (JU ilt)).trans hT
  have I1:Inv X pins σ (upd H s.heap.objs.size (.tup [kV k,x])) {s with heap:=h''} :=
   I.drew (t' :=s.toks) hf kk (Hg _) ⟨by show 2<=sizeLine;decide,[kv,v],.cons (DP hkey) (.cons rv .nil),⟨_,new,rfl,_,rfl,rfl⟩⟩
  refine⟨.ref s.heap.objs.size,_,I1,rfl,⟨s.heap.objs.size,I.hok.fresh (Hg _),rfl,fun k' x' hx' => ?_⟩,⟨_,_,he'⟩,fun c hc' => ?_⟩
  ·rw[hx]at hx'
   cases hx';rfl
  ·have hc2:c=it:=by simpa using hc'
   subst hc2;rw[aB (Hy ilt)];exact(hf c (by simp)).1
 done:=by
  intro X hP hw hK hc i pins s σ H E I hf st hg;subst hP hw hK;obtain⟨hfr,rfl⟩:=hg;obtain⟨ok,ov,he⟩:=st;have so:s.heap.get? a=some o:=(I.hok a _ hfr).1;have hat' :s.heap.DictAt (ac X.prog X.w) a vs ep:=hat.at' fun o' e=>by rw[ho]at e;cases e;exact so
  have hl:kvs.length=vs.length:=rel.length;exact wpAny_pyNext_items_end (I.ok.hd hc) he hat' (by rw[hl];simp) fun h' hk=>⟨rfl,I.drew0 (t' :=s.toks) hf fun c o hc' y=>hk c o (by simpa using hc') y⟩
 self:=fun A i s Q E st h=>by
  obtain⟨ok,ov,he⟩:=st;refine wpAny_pyIter_slot ⟨_,he,rfl⟩ PySem.F.slot_dict_itemiterator_iter (JF PySem.F.slot_dict_itemiterator_iter ⟨_,he,rfl⟩ fH ?_ (PySem.F.args_dict_itemiterator_iter_1 _));show wpAny _ _ (ret (.ref it)) _ _ s;exact Hq ⟨_,rfl,"dict_itemiterator",_,⟨_,he,rfl⟩,PySem.F.slot_dict_itemiterator_next.lookup,h⟩
noncomputable def Dd(X:Cx)(td:TE):TI:=fun σ H R=>td σ H fun x H1=>∃a kvs,x=.ref a/\H1 a=some (.dK kvs)/\∀o,NF X a->R (HS a o kvs) (upd H1 a (.frz o (.dK kvs)))
theorem oa{es:List Expr}{kt:Nat}{tpos:Pos}{o:Expr}{to:TE}{apos cpos:Pos}(ho:PE X o to)(hbase:attributeBase o "items" X.env (eval o X.env)=eval o X.env:=by rfl)(hline:(apos.endLine==cpos.line)=true:=by rfl) :
  PI X (.Tuple es kt tpos) (.Call (.Attribute o "items" apos) [] [] cpos) (Dd X to):=by
 intro pins s σ H R I h;refine wpAny_Call_method0_late hbase hline (al (ho pins s σ H _ I h) fun v s1 hpq=> ?_);obtain⟨x,H1,I1,r1,q1⟩:=hpq;obtain⟨a,kvs,rfl,ha,q⟩:=q1;cases r1;obtain⟨z,hd,vs,rel,dd⟩:=lT I1.hok ha;obtain⟨ep,da⟩:=dd.dictAt;obtain⟨o1,es1,hob,hex,_⟩:=id da;refine⟨"dict","dict.items",J6,PySem.F.slot_dict_items,PySem.F.type_dict_items,dd.typeIs,fun b e=> ?_,KL rfl (PySem.evalArgs_none ?_)⟩
 ·cases e
  exact⟨o1,hob,hex.2.1⟩
 refine call_meetsIn PySem.F.slot_dict_items dd.typeIs PySem.F.entry_dict_items (PySem.F.args_dict_items_1 _) (meets_dict_items (ac X.prog X.w) a hd) ⟨⟨vs,dd⟩,?_⟩;have I2:Inv X pins σ H1 {s1 with heap:=s1.heap.push {cls:=.type "dict_items",data:=.fields #[.ref a]}}:=I1.kept (t' :=s1.toks) fun b u e=>Ha _ e;have da2:=da.push {cls:=.type "dict_items",data:=.fields #[.ref a]};refine wpAny_pyIter_items ⟨_,Hv _ rfl,rfl,rfl⟩ da2 ?_;have lt:a<s1.heap.objs.size:=Hs hob;have I3:=I2.kept (t' :=s1.toks) (h' :=(s1.heap.push {cls:=.type "dict_items",data:=.fields #[.ref a]}).push {cls:=.type "dict_itemiterator",data:=.fields #[.none,.bool false,.ref a,.int 0 0,.int vs.length 0,.int ep 0,.none,.none]}) fun b u e=>Ha _ e;have hob3:((s1.heap.push {cls:=.type "dict_items",data:=.fields #[.ref a]}).push {cls:=.type "dict_itemiterator",data:=.fields #[.none,.bool false,.ref a,.int 0 0,.int vs.length 0,.int ep 0,.none,.none]}).get? a=some o1:=Ha _ (Ha _ hob);have I4:=I3.known ha hob3;refine⟨(s1.heap.push {cls:=.type "dict_items",data:=.fields #[.ref a]}).objs.size,[(s1.heap.push {cls:=.type "dict_items",data:=.fields #[.ref a]}).objs.size],_,_,_,rfl,I4,qD (o:=o1) (h0:=s1.heap) (Hy (by rw[size_push'];exact Iw lt)) rel da hob,⟨_,_,Hv _ rfl⟩,fun c hc=> ?_,q o1 (I1.nf ha)⟩;have e:c=(s1.heap.push {cls:=.type "dict_items",data:=.fields #[.ref a]}).objs.size:=by simpa using hc
 subst e;refine(I2.fpOk (Hg _) ?_);rw[aB (JU (by rw[size_push'];exact Iw lt))];exact I2.hok.fresh (Hg _)
noncomputable def thaw(X:Cx)(D:cu):cu where
 nx:=fun σ H=>∃a o kvs,H a=some (.frz o (.dK kvs))/\NF X a/\D.nx σ (upd H a (.dK kvs))
 bk:=fun σ H=>∃a o kvs,H a=some (.frz o (.dK kvs))/\NF X a/\D.bk σ (upd H a (.dK kvs))
 ct:=fun σ H=>∃a o kvs,H a=some (.frz o (.dK kvs))/\NF X a/\D.ct σ (upd H a (.dK kvs))
 rt:=fun v H=>∃a o kvs,H a=some (.frz o (.dK kvs))/\NF X a/\D.rt v (upd H a (.dK kvs))
theorem zj{st:Stmt}{t:TS}(h:PS X st t):PS X st (fun D σ H=>t (thaw X D) σ H):=by
 intro pins s σ H D I hr;refine al (h pins s σ H _ I hr) fun f s1 q=> ?_;cases f with
 | next =>
  obtain⟨σ',H',I',a,o,kvs,ha,nf,q⟩:=q;exact⟨σ',_,I'.unknown nf ha,q⟩
 | brk =>
  obtain⟨σ',H',I',a,o,kvs,ha,nf,q⟩:=q;exact⟨σ',_,I'.unknown nf ha,q⟩
 | cont =>
  obtain⟨σ',H',I',a,o,kvs,ha,nf,q⟩:=q;exact⟨σ',_,I'.unknown nf ha,q⟩
 | ret v =>
  obtain⟨σ',x,H',I',rx,a,o,kvs,ha,nf,q⟩:=q;exact⟨σ',x,_,I'.unknown nf ha,rx,q⟩
theorem um{a:Addr}{o:Obj}{kvs:List (ag×V)}{g:TG}{tb:TS}{D:cu}{σ:St}{H:Hp}(Pv:Nat->St->Hp->Prop)(h0:Pv 0 σ H)(ha:∀i σ H,i<=kvs.length->Pv i σ H->H a=some (.frz o (.dK kvs)))
  (hs:∀i k x p σ H,kvs[i]? =some (k,x)->H p=none->Pv i σ H->g (.ref p) σ (upd H p (.tup [kV k,x])) fun σ2 H2=>tb {D with nx:=Pv (i+1),ct:=Pv (i+1),bk:=D.nx} σ2 H2) (hd:∀σ H,Pv kvs.length σ H->D.nx σ H) :
  ∃W:Nat->Nat->St->Hp->Prop,(∃m,W 0 m σ H)/\∀i m σ H,W i m σ H ->
   ((HS a o kvs).stop i H/\D.nx σ H)\/((HS a o kvs).go i H/\∃N:St->Hp->Prop,(∀σ' H',N σ' H' ->∃m',m' <m/\W (i+1) m' σ' H')/\∀x H',(HS a o kvs).yld i H x H' ->g x σ H' fun σ2 H2=>tb {D with nx:=N,ct:=N,bk:=D.nx} σ2 H2):=by
 refine⟨fun i m σ H=>m=kvs.length-i/\i<=kvs.length/\Pv i σ H,⟨kvs.length,by simp,IN _,h0⟩,?_⟩;rintro i m σ H ⟨rfl,hi,p⟩;have qa:=ha i σ H hi p
 by_cases hlt:i<kvs.length
 ·have ex:kvs[i]? =some kvs[i]:=by simp[hlt]
  refine .inr ⟨⟨qa,hlt⟩,Pv (i+1),fun σ' H' p' =>⟨kvs.length-(i+1),by omega,rfl,hlt,p'⟩,fun x H' y=> ?_⟩;obtain⟨pp,hn,rfl,y⟩:=y;have e:=y kvs[i].1 kvs[i].2 ex;subst e;exact hs i _ _ pp σ H ex hn p
 ·have e:i=kvs.length:=by omega
  subst e;exact .inl ⟨⟨qa,rfl⟩,hd σ H p⟩
end
namespace RV
section
variable{prog:Program}{w:World}{A:Around}{E:Value->Shared->Prop}{s:Shared}{x:Str}{t:Tok}
end
end RV
end L2
namespace L2
open PySem PySem.Spec PyProof.Rows
namespace RV
noncomputable def HU(h:Heap)(a:Addr)(x:Str)(t:Tok)(i:Int):Prop:=∃o,h.get? a=some o/\o.cls=.type "reversed"/\o.data=.fields #[.str x t,rawInt i]
section
variable{prog:Program}{w:World}{A:Around}{E:Value->Shared->Prop}{s:Shared}{x:Str}{t:Tok}{a:Addr}
theorem HU.ty{i:Int}(r:HU s.heap a x t i):s.TypeIs (.ref a) "reversed":=by
 obtain⟨o,e,c,_⟩:=r;exact⟨o,e,c⟩
end
end RV
end L2
namespace L2
open PySem PySem.Spec PyProof.Rows
namespace RV
section
variable{prog:Program}{w:World}{A:Around}{E:Value->Shared->Prop}{s:Shared}{x:Str}{t:Tok}{a:Addr}
end
end RV
end L2
namespace L2
open PySem PySem.Spec PyProof.Rows
namespace RV
open Builtin Builtin.Str Builtin.Int
section
variable{prog:Program}{w:World}{A:Around}{E:Value->Shared->Prop}{s:Shared}{x sep:Str}{t u:Tok}{a:Addr}
end
end RV
section
variable{X:Cx}
end
end L2
namespace L2
open PySem PySem.Spec PyProof.Rows
section
variable{X:Cx}
section
variable{prog:Program}{w:World}{A:Around}{E:Value->Shared->Prop}{s:Shared}{d:Addr}{od:Obj}{es:Array DictEntry}{ep:Nat}
end
section
variable{prog:Program}{w:World}{A:Around}{E:Value->Shared->Prop}{s:Shared}
end
end
section
variable{prog:Program}{w:World}{A:Around}{E:Value->Shared->Prop}{s:Shared}
theorem lR{it t:Addr}{items:Array Value}(hne:t≠it):∀(n i:Nat)(s:Shared)(Q:List Value->Shared->Prop),s.heap.IsListIter it t i->s.heap.IsList t items->i+n<=items.size ->
  (∀h',h'.IsListIter it t (i+n)->Heap.SameBut it s.heap h' ->Q ((items.toList.drop i).take n) {s with heap:=h'})->wpAny (model prog w) A (draw (.ref it) n) Q E s
 | 0,i,s,Q,gP,_,_,hQ=>by
  show wpAny _ _ (pure []) Q E s;exact Hq (by simpa using hQ s.heap gP (Heap.SameBut.refl ..))
 | n+1,i,s,Q,gP,ht,hle,hQ=>by
  have hlt:i<items.size:=by omega
  show wpAny _ _ (pyNext (.ref it) >>= _) Q E s;refine HY (wpAny_pyNext_list_item gP ht (x:=items[i]) (by simp[hlt]) fun h₁ hit₁ hs₁=> ?_);refine HY (Iv (lR hne n (i+1) _ _ hit₁ (ht.at fun o e=>(hs₁.2 t hne).trans e) (by omega) fun h₂ hit₂ hs₂=>Hq ?_));have hd:items.toList.drop i=items[i]::items.toList.drop (i+1):=by simp[JI,hlt]
  have:=hQ h₂ (by rw[show i+(n+1)=i+1+n by omega];exact hit₂) (hs₁.trans hs₂);rw[hd,List.take_succ_cons]at this;exact this
theorem iC{t:Addr}{items:Array Value}{Q:List Value->Shared->Prop}(hh:A.handled=none)(ht:s.heap.IsList t items)
  (hQ:∀h',Heap.ExtBut s.heap.objs.size s.heap h' ->Q items.toList {s with heap:=h'}):wpAny (model prog w) A (unpackItems (.ref t) items.size none) Q E s:=by
 have hlt:t≠s.heap.objs.size:=by obtain⟨o,ho,_⟩:=ht;exact Hy (Hs ho)
 unfold unpackItems;refine HY ?_
 ·unfold notIterableAtAll
  refine HY (wpAny_specialOf ht.typeIs F.slot_list_iter.lookup ?_);refine Hq ?_;simp only[J4,if_false];refine HY (Iv (KJ ht ?_));refine HY (Iv (lR hlt items.size 0 _ _ ⟨_,Hv _ rfl,rfl,rfl⟩ (ht.push _) (by omega) fun h₁ hit₁ hs₁=> ?_));have hall:List.take items.size (List.drop 0 items.toList)=items.toList:=by
   rw[List.drop_zero];exact List.take_of_length_le (by simp)
  rw[hall];rw[Hl (by simp)];have ht₁:h₁.IsList t items:=(ht.push _).at fun o e=>(hs₁.2 t hlt).trans e;refine HY (Iv (wpAny_pyNext_list_end hh hit₁ ht₁ (by simp) fun h₂ he₂=> ?_));simp only[Option.isSome_none,J4,if_false];refine Hq (hQ h₂ fun b o hb e=>he₂ b o hb (hs₁.extBut b o hb (Ha _ e)))
theorem hU{env:Env}{elts:List Expr}{x1}{pos:Pos}{t:Addr}{items:Array Value}{Q:Unit->Shared->Prop}(hh:A.handled=none)(ht:s.heap.IsList t items)
  (hn:(assignEach elts env).length=items.size) (hstar:(assignEach elts env).findIdx? (·.1)=none)
  (h:∀h',Heap.ExtBut s.heap.objs.size s.heap h' ->wpAny (model prog w) A (assignInOrder ((assignEach elts env).map (·.2)) items.toList) Q E {s with heap:=h'}) :
  wpAny (model prog w) A (assign (.Tuple elts x1 pos) env (.ref t)) Q E s:=by
 rw[assign_Tuple];refine HY (wpAny_standAt ?_);unfold unpack;rw[hn,hstar];exact HY (Iv (iC hh ht h))
end
section
variable{X:Cx}
noncomputable def gLst(K:W.Frag)(n:Nat)(t:BO):TG:=fun v σ H Q=>∃a xs,v=.ref a/\bB K H a xs/\xs.length=n/\t xs σ H Q
theorem Co{es:List Expr}{k:Nat}{t:BO}{n:Nat}{pos:Pos}(hc:X.calm=true)(h:Eu X es t)
  (hn:(assignEach es X.env).length=n) (hst:(assignEach es X.env).findIdx? (·.1)=none):PG X (.Tuple es k pos) (gLst X.K n t):=by
 intro pins s σ H v u Q I r hw;obtain⟨a,xs,e1,hq,hl,hw⟩:=hw;subst e1;cases r;obtain⟨its,rv,ht,hz⟩:=I.list hq;refine hU (I.ok.hd hc) ht.isList (by simp[hn,<-hl,rv.length]) hst fun h' hx=> ?_;have I1:Inv X pins σ H {s with heap:=h'}:=I.kept (t' :=s.toks) fun b o e=>hx b o (Hy (Hs e)) e;exact h pins _ σ H xs _ Q I1 (by simpa using rv) hw
end
end L2
namespace SQ
open PySem
noncomputable def lst(m:Nat):List Nat:=(List.range 8).filter fun v=>m/2^v%2==1
noncomputable def put(m v:Nat):Nat:=if m/2^v%2=1 then m else m+2^v
noncomputable def fr(led:Bool)(m:Nat):SetTable:={mask:=if(lst m).length<5 then 7 else 31,place:=(lst m).toArray,dummies:= #[],finger:=0,led:=led,moves:=if(lst m).length<5 then 0 else 1,plain:=true}
noncomputable def jG(m v:Nat):Nat:=((lst m).filter (·<v)).length
noncomputable def cZ(led:Bool)(m v:Nat):SetTable:={fr led m with place:=(lst (put m v)).toArray}
noncomputable def oo(a b:SetTable):Bool:=a.mask==b.mask&&a.place.toList==b.place.toList&&a.dummies.toList==b.dummies.toList&&a.finger==b.finger&&a.led==b.led&&a.moves==b.moves&&a.plain==b.plain
theorem gj{a b:SetTable}(h:oo a b=true):a=b:=by
 obtain⟨a1,⟨a2⟩,⟨a3⟩,a4,a5,a6,a7⟩:=a;obtain⟨b1,⟨b2⟩,⟨b3⟩,b4,b5,b6,b7⟩:=b;simp only[oo,Hb,Jn]at h;obtain⟨⟨⟨⟨⟨⟨h1,h2⟩,h3⟩,h4⟩,h5⟩,h6⟩,h7⟩:=h;subst h1 h2 h3 h4 h5 h6 h7;rfl
noncomputable def mV(led:Bool)(m v:Nat):Bool :=
 if m/2^v%2==1 then true else
 (match(fr led m).freeSlot (v:Int)with
  | some (j,d)=>j==v&& !d
  | none=>false) &&
 oo ((fr led m).put v).1 (cZ led m v)&&((fr led m).put v).2==jG m v&&lst (put m v)==(lst m).take (jG m v)++v::(lst m).drop (jG m v)&&(cZ led m v).fits (lst (put m v)).length &&
 (if(cZ led m v).tooFull then(match(cZ led m v).relaid ((lst (put m v)).map Int.ofNat).toArray (SetTable.grown (lst (put m v)).length)with
  | some (t,o)=>oo t (fr led (put m v))&&o.toList==List.range (lst (put m v)).length&&(fr led (put m v)).fits (lst (put m v)).length
  | none=>false)else oo (cZ led m v) (fr led (put m v)))
theorem xU:(List.range 256).all (fun m=>(List.range 8).all fun v=>mV true m v&&mV false m v&&decide (put m v<256))=true:=by decide +kernel
noncomputable def B1(m:Nat):Bool:=(List.range (lst m).length).all fun i=>SetTable.below (lst m).toArray (if i=0 then 0 else(lst m).getD (i-1) 0+1)==i
theorem vq:(List.range 256).all (fun m=>B1 m&&SetTable.below (lst m).toArray (if(lst m).length=0 then 0 else(lst m).getD ((lst m).length-1) 0+1)==(lst m).length)=true:=by decide +kernel
theorem xw:(List.range 256).all (fun m=>(fr true m).fits (lst m).length&&(fr false m).fits (lst m).length)=true:=by decide +kernel
theorem fits{m:Nat}(hm:m<256)(led:Bool):(fr led m).fits (lst m).length=true:=by
 have h:=Hx.mp xw m (Ii.mpr hm);rw[Hb]at h;cases led
 ·exact h.2
 ·exact h.1
theorem AW{m v:Nat}(hm:m<256)(hv:v<8)(led:Bool):mV led m v=true/\put m v<256:=by
 have h:=Hx.mp (Hx.mp xU m (Ii.mpr hm)) v (Ii.mpr hv);rw[Hb,Hb,JO]at h;refine⟨?_,h.2⟩;cases led
 ·exact h.1.2
 ·exact h.1.1
theorem mS{m v:Nat}:v∈lst m↔v<8/\m/2^v%2=1:=by
 unfold lst;rw[Ih,Ii,Jn]
theorem wX{m v:Nat}(h:v∈lst m):put m v=m:=by
 unfold put;rw[Hr (mS.mp h).2]
theorem jn{m v:Nat}(hm:m<256)(hv:v<8)(hn:v∉lst m)(led:Bool) :
  (fr led m).freeSlot (v:Int)=some (v,false)/\(fr led m).put v=(cZ led m v,jG m v)/\lst (put m v)=(lst m).take (jG m v)++v::(lst m).drop (jG m v)/\(cZ led m v).fits (lst (put m v)).length=true /\
  (if(cZ led m v).tooFull then(cZ led m v).relaid ((lst (put m v)).map Int.ofNat).toArray (SetTable.grown (lst (put m v)).length)=some (fr led (put m v),(List.range (lst (put m v)).length).toArray)/\(fr led (put m v)).fits (lst (put m v)).length=true
   else cZ led m v=fr led (put m v)):=by
 have h:=(AW hm hv led).1;unfold mV at h;have n1:(m/2^v%2==1)=false:=by
  cases e:m/2^v%2==1
  ·rfl
  ·exact absurd (mS.mpr ⟨hv,by simpa using e⟩) hn
 rw[n1]at h;simp only[J4,if_false,Hb,Jn]at h;obtain⟨⟨⟨⟨⟨h1,h2⟩,h3⟩,h4⟩,h5⟩,h6⟩:=h;refine⟨?_,Prod.ext (gj h2) h3,h4,h5,?_⟩
 ·cases e:(fr led m).freeSlot (v:Int)with
  | none=>rw[e]at h1;cases h1
  | some p =>
   obtain⟨j,d⟩:=p;rw[e]at h1;simp only[Hb,Jn,Bool.not_eq_true']at h1;rw[h1.1,h1.2]
 ·by_cases ht:(cZ led m v).tooFull=true
  ·rw[Hr ht]at h6 ⊢
   cases e:(cZ led m v).relaid ((lst (put m v)).map Int.ofNat).toArray (SetTable.grown (lst (put m v)).length)with
   | none=>rw[e]at h6;cases h6
   | some p =>
    obtain⟨t,o⟩:=p;rw[e]at h6;simp only[Hb,Jn]at h6;obtain⟨⟨a,b⟩,c⟩:=h6;refine⟨?_,c⟩;obtain⟨o⟩:=o;rw[gj a];have b:o=_:=b;rw[b]
  ·rw[Hl ht]at h6 ⊢
   exact gj h6
noncomputable def jA:Value->Option Int
 | .int i _=>some i
 | _=>none
theorem lB{x:Value}{i:Int}(h:jA x=some i):∃t,x=.int i t:=by
 cases x<;>simp[jA]at h;subst h;exact⟨_,rfl⟩
noncomputable def eV(es:List (Int×Value))(m:Nat):Prop:=es.map (fun e=>(e.1,jA e.2))=(lst m).map fun v:Nat=>((v:Int),some (v:Int))
noncomputable def SX(w:World)(a:Addr)(m:Nat)(h:Heap):Prop:=∃o es ep,h.get? a=some o/\o.ExactSet/\o.data=.set es ep (fr (!w.params.followText "set-order") m)/\eV es.toList m
theorem jt:∀v,v<8->hashInt (v:Nat)=(v:Nat):=by decide +kernel
theorem eV.len{es:List (Int×Value)}{m:Nat}(h:eV es m):es.length=(lst m).length:=by
 have:=Ix List.length h
 simpa using this
theorem DG{m v:Nat}(h:v∈lst m):v<8:=(mS.mp h).1
theorem eV.at{es:List (Int×Value)}{m:Nat}(h:eV es m){e:Int×Value}(he:e∈es):∃v t,v∈lst m/\e=((v:Int),.int (v:Int) t):=by
 have:(e.1,jA e.2)∈es.map (fun e=>(e.1,jA e.2)):=Hn.mpr ⟨e,he,rfl⟩;rw[h]at this;obtain⟨v,hv,q⟩:=Hn.mp this;obtain⟨e1,e2⟩:=e;simp only[Prod.mk.injEq]at q;obtain⟨t,z⟩:=lB q.2.symm;exact⟨v,t,hv,by rw[z,<-q.1]⟩
theorem eV.has{es:List (Int×Value)}{m:Nat}(h:eV es m){v:Nat}(hv:v∈lst m):∃t,((v:Int),Value.int (v:Int) t)∈es:=by
 have:((v:Int),some (v:Int))∈(lst m).map fun v:Nat=>((v:Int),some (v:Int)):=Hn.mpr ⟨v,hv,rfl⟩;rw[<- h]at this;obtain⟨e,he,q⟩:=Hn.mp this;obtain⟨u,t,-,rfl⟩:=h.at he;simp only[jA,Prod.mk.injEq]at q;have:u=v:=by omega
 subst this;exact⟨t,he⟩
section
variable{prog:Program}{w:World}{A:Around}{E:Value->Shared->Prop}{s:Shared}
theorem eV.elems{es:List (Int×Value)}{m:Nat}(h:eV es m):ElemsOf (intKind prog w) es:=by
 intro e he;obtain⟨v,t,hv,rfl⟩:=h.at he;exact⟨⟨v,by simp[intKind,Value.isInt],(jt v (DG hv)).symm⟩,rfl⟩
theorem eV.insert{es:Array (Int×Value)}{m v t:Nat}(h:eV es.toList m)(hm:m<256)(hv:v<8)(hn:v∉lst m):eV (SetTable.insertAt es (jG m v) ((v:Int),.int (v:Int) t)).toList (put m v):=by
 obtain⟨-,-,h3,-,-⟩:=jn hm hv hn true;unfold eV at h ⊢;rw[h3,SetTable.toList_insertAt];rw[IJ,Hf,List.map_take,List.map_drop,h,IJ,Hf,List.map_take,List.map_drop];rfl
theorem G7{a:Addr}{m v:Nat}{tk:Tok}{Q:Bool->Shared->Prop}(hm:m<256)(hv:v<8)(hS:SX w a m s.heap)(h:∀h' b,Heap.SameBut a s.heap h' ->SX w a (put m v) h' ->Q b {s with heap:=h'}) :
  wpAny (model prog w) A (setAddHashed a (.int (v:Int) tk) (hashInt (v:Nat))) Q E s:=by
 obtain⟨o,es,ep,ho,hex,hd,he⟩:=hS
 generalize hled:(!w.params.followText "set-order")=led at hd
 have hsz:es.size=(lst m).length:=he.len;have hf:(fr led m).fits es.size=true:=by rw[hsz];exact fits hm led
 have hel:ElemsOf (intKind prog w) es.toList:=he.elems;have h8:(lst m).length<=8:=by
  unfold lst;exact Ik (JC _ _) (by simp)
 have hb:es.size<scanBound:=by rw[hsz];unfold scanBound;omega
 have hkey:(intKind prog w).is (v:Int) (.int (v:Int) tk)=true:=by simp[intKind,Value.isInt]
 unfold setAddHashed setAddHashedIn;refine Iv (HY (KI ho hd hf ?_));dsimp only;rw[byScan_of (knd:=intKind prog w) rfl hb hel,Hr rfl];unfold setAddByScan;refine HY (HY (wpAny_rule (HY (wpAny_setScan_of (knd:=intKind prog w) hkey ho hd hf hel ?_))));cases hr:List.findIdx? (fun e=>(intKind prog w).is (v:Int) e.2) es.toList with
 | some j =>
  refine Hq (Hq ?_);have hin:v∈lst m:=by
   obtain⟨hj,hp,-⟩:=List.findIdx?_eq_some_iff_getElem.mp hr;obtain⟨u,t,hu,z⟩:=he.at (JN hj);rw[z]at hp;have hp:Value.isInt (v:Int) (.int (u:Int) t)=true:=hp;obtain⟨t',e⟩:=Value.isInt_shape hp;have e2:u=v:=by
    injection e with e1 e2
    omega
   rw[<- e2];exact hu
  have:=h s.heap false (Heap.SameBut.refl a s.heap) (by rw[wX hin];exact⟨o,es,ep,ho,hex,by rw[hled];exact hd,he⟩);exact this
 | none =>
  have hn:v∉lst m:=fun hin=>by
   obtain⟨t,z⟩:=he.has hin;have:=List.findIdx?_eq_none_iff.mp hr _ z;simp[intKind,Value.isInt]at this
  obtain⟨k1,k2,k3,k4,k5⟩:=jn hm hv hn led;have hE:=he.insert (t:=tk) hm hv hn;have hl:=hE.len;have hl2:(lst (put m v)).length<=8:=by
   unfold lst;exact Ik (JC _ _) (by simp)
  have eL:layNew (fr led m) es (hashInt (v:Nat)) (.int (v:Int) tk)=(SetTable.insertAt es (jG m v) ((v:Int),.int (v:Int) tk),cZ led m v,false,false):=by
   unfold layNew;rw[jt v hv,k1];dsimp only;rw[k2];dsimp only;have z:(cZ led m v).fits (SetTable.insertAt es (jG m v) ((v:Int),.int (v:Int) tk)).size=true:=by rw[<- Ig,hl];exact k4
   unfold SetTable.orStandIn;rw[z];rfl
  dsimp only;rw[eL];dsimp only;refine HY ((Hq ?_:wpAny (model prog w) A (pure ()) _ E _));have hplain:(cZ led m v).plain=true:=rfl;rw[hplain,Hr rfl,hashByValue_scannable 8 rfl];refine HY (Hq ?_);have hpk:plainKind (.int (v:Int) tk)=true:=rfl;simp only[hpk,KR];have hz1:(SetTable.insertAt es (jG m v) ((v:Int),.int (v:Int) tk)).size<=sizeLine:=by
   rw[<- Ig,hl,Im];omega
  refine HY (wpAny_storeSet_of ho hd ?_ hz1);have ho1:(s.heap.update a (Obj.putSet (SetTable.insertAt es (jG m v) ((v:Int),.int (v:Int) tk)) (cZ led m v))).get? a=some {o with data:=.set (SetTable.insertAt es (jG m v) ((v:Int),.int (v:Int) tk)) (ep+1) (cZ led m v)}:=by
   have z:=JD (Obj.putSet (SetTable.insertAt es (jG m v) ((v:Int),.int (v:Int) tk)) (cZ led m v)) ho (by rw[putSet_of _ _ hd];rfl);rw[putSet_of _ _ hd]at z;exact z
  have sb1:=J7 s.heap a (Obj.putSet (SetTable.insertAt es (jG m v) ((v:Int),.int (v:Int) tk)) (cZ led m v));have nd:(!false&&(cZ led m v).tooFull)=(cZ led m v).tooFull:=rfl;rw[nd]
  by_cases ht:(cZ led m v).tooFull=true
  ·rw[Hr ht]at k5 ⊢
   have er:relayAll (cZ led m v) (SetTable.insertAt es (jG m v) ((v:Int),.int (v:Int) tk)) (SetTable.grown (SetTable.insertAt es (jG m v) ((v:Int),.int (v:Int) tk)).size)=(SetTable.insertAt es (jG m v) ((v:Int),.int (v:Int) tk),fr led (put m v),false):=by
    generalize hg:SetTable.insertAt es (jG m v) ((v:Int),.int (v:Int) tk)=es1 at hE hl ⊢
    have hm1:es1.map (·.1)=((lst (put m v)).map Int.ofNat).toArray:=by
     apply Array.toList_inj.mp
     rw[Array.toList_map];have:=Ix (List.map Prod.fst) hE;rw[Ia,Ia]at this;exact this
    have hz:es1.size=(lst (put m v)).length:=by rw[<- Ig,hl]
    unfold relayAll;rw[hm1,hz,k5.1];dsimp only;have hf2:(List.range (lst (put m v)).length).toArray.filterMap (es1[·]?)=es1:=by
     apply Array.toList_inj.mp
     rw[Array.toList_filterMap,<-hz];exact filterMap_getElem?_range es1
    rw[hf2,hz,k5.2];have:coversAll (List.range (lst (put m v)).length).toArray (lst (put m v)).length=true:=by
     unfold coversAll;exact List.isPerm_iff.mpr (List.Perm.refl _)
    rw[this];rfl
   rw[er];dsimp only;refine HY ((Hq ?_:wpAny (model prog w) A (pure ()) _ E _));refine HY (wpAny_storeSet_of ho1 rfl ?_ hz1);refine Hq (Hq ?_);have z:=JD (Obj.putSet (SetTable.insertAt es (jG m v) ((v:Int),.int (v:Int) tk)) (fr led (put m v))) ho1 (by rw[putSet_of _ _ rfl];rfl);rw[putSet_of _ _ rfl]at z;exact h _ _ (sb1.trans (J7 _ a _)) ⟨_,_,_,z,hex,by rw[hled],hE⟩
  ·rw[Hl ht]at k5 ⊢
   refine Hq (Hq ?_);exact h _ _ sb1 ⟨_,_,_,ho1,hex,by rw[hled,<-k5],hE⟩
end
noncomputable def mJ(f:Nat->Nat):Nat->Nat->Nat->Nat
 | 0,_,m=>m
 | k+1,i,m=>mJ f k (i+1) (put m (f i))
theorem SX.at{w:World}{a:Addr}{m:Nat}{h h' :Heap}(x:SX w a m h)(k:∀o,h.get? a=some o->h'.get? a=some o):SX w a m h' :=
 let⟨o,es,ep,ho,r⟩:=x
 ⟨o,es,ep,k o ho,r⟩
section
variable{prog:Program}{w:World}{A:Around}{E:Value->Shared->Prop}
theorem DH{R:Result->Shared->Prop}{I:Addr}{fp wr:List Addr}{G:Array GenState->Array GenState->Prop}{n:Nat}{P:Nat->Value->Prop}{St:Nat->Shared->Prop}(W:WalksS prog w A.in1 I fp wr G n P St){D:Addr}(hD:D∉fp)(f:Nat->Nat)(hf:∀i v,P i v->f i<8/\∃t,v=.int (f i:Nat) t) :
  ∀(k i:Nat)(s:Shared)(m:Nat),n-i=k->i<=n->St i s->m<256->SX w D m s.heap->(∀s',Moved (D::wr) G s s' ->SX w D (mJ f k i m) s'.heap->R (.ok (.ret .none)) s') ->
   codeAny (model prog w) A (.builtin "set.update.loop" ⟨[.ref D,.ref I],[]⟩) R s:=by
 have hDw:D∉wr:=fun z=>hD (W.sub _ z);have sub:∀b∈wr,b∈D::wr:=fun b z=>HZ _ z;intro k
 induction k with
 | zero =>
  intro i s m hk hi st hm hS hR;have e:i=n:=by omega
  subst e;refine KA PyProof.Rows.F.entry_set_update_loop ?_;rw[J0 Jy _];show wpAny _ A.in1 (pyNext (.ref I) >>= _) _ _ s;refine HY (W.done s _ _ st fun s' mv=> ?_);show wpAny _ A.in1 (ret Value.none) _ _ s';exact Hq (hR s' (mv.mono sub) (hS.at fun o z=>mv.heap D o hDw z))
 | succ k ih =>
  intro i s m hk hi st hm hS hR;have lt:i<n:=by omega
  refine KA PyProof.Rows.F.entry_set_update_loop ?_;rw[J0 Jy _];show wpAny _ A.in1 (pyNext (.ref I) >>= _) _ _ s;refine HY (W.item i s _ _ lt st fun v s' hP st' mv=> ?_);obtain⟨h8,t,rfl⟩:=hf i v hP;have hS1:SX w D m s'.heap:=hS.at fun o z=>mv.heap D o hDw z;show wpAny _ A.in1 (holding [Value.int (f i:Nat) t] (setAdd D (.int (f i:Nat) t)) >>= _) _ _ s';refine HY (Iv ?_);unfold setAdd;refine Iv (HY ((intKind prog w).pyHash (k:=(f i:Nat)) (by simp[intKind,Value.isInt]) ?_));refine G7 (s:={s' with toks:=s'.toks+1}) hm h8 hS1 fun h' b sb hS2=> ?_;refine Hq ⟨plainId_quiet Jy _,ih (i+1) _ _ (by omega) lt (W.frame _ s' h' _ st' (KM _) fun c hc o z=> ?_) (AW hm h8 true).2 hS2 fun s2 mv2 hS3=> ?_⟩
  ·rw[sb.2 c fun(q:c=D)=>hD (by rw[<- q];exact hc)]
   exact z
  ·refine hR s2 (Moved.trans W.gtrans ((mv.mono sub).then_heap (KM _) fun c o hc z=> ?_) mv2) hS3
   rw[sb.2 c fun(q:c=D)=>hc (by rw[q];exact He)];exact z
variable{s:Shared}
noncomputable def bare(led:Bool):Obj:={cls:=.type "set",dict:=none,data:=.set #[] 0 (.fresh 0 0 led)}
theorem BH{a:Addr}{h:Heap}(e:h.get? a=some (bare (!w.params.followText "set-order"))):SX w a 0 h:=by
 refine⟨_,#[],0,e,⟨rfl,rfl,rfl⟩,?_,by unfold eV;rfl⟩;unfold bare;have:fr (!w.params.followText "set-order") 0=.fresh 0 0 (!w.params.followText "set-order"):=by
  cases w.params.followText "set-order"<;>exact gj (by decide +kernel)
 rw[this]
theorem GF(v:Value){Q:Value->Shared->Prop}(h:Q (.ref s.heap.objs.size) {s with heap:=s.heap.push (bare (!w.params.followText "set-order"))}) :
  codeAny (model prog w) A (.call (.builtin "set.__new__") ⟨[.type "set",v],[]⟩) (wants Q E) s:=by
 refine codeAny_of_tree ?_;show wpAny _ A.in1 (do checkBuiltinCall "set.__new__" ⟨[.type "set",v],[]⟩;again (.builtin "set.__new__" ⟨[.type "set",v],[]⟩)) _ _ s;refine HY (wpAny_of_eq (F.newCall_set_1 v) (Hq ⟨plainId_quiet F.plain_set_new _,KA F.entry_set_new ?_⟩));rw[J0 F.plain_set_new _];unfold Builtin.«set.__new__» Builtin.Frozenset.newClass;have own:=sub_set_self;obtain⟨hp,g,d,tk,os⟩:=s;dsimp only
 wp_walk
 refine J2 (Hq ?_);dsimp only;simp only[newObj];refine HY (wpAny_alloc (Hq ?_));exact Hq h
set_option maxHeartbeats 3200000 in
theorem Fd{l:Addr}{its:Array Value}{f:Nat->Nat}{Q:Value->Shared->Prop}(hh:A.handled=none)(hl:s.heap.IsList l its)(hi:∀i v,its[i]? =some v->f i<8/\∃t,v=.int (f i:Nat) t)
  (h:∀(h' :Heap)(tk:Nat),SX w s.heap.objs.size (mJ f its.size 0 0) h' ->(∀b o,b<s.heap.objs.size->s.heap.get? b=some o->h'.get? b=some o)->Q (.ref s.heap.objs.size) {s with heap:=h',toks:=tk}) :
  wpAny (model prog w) A (call (.type "set") [.ref l]) Q E s:=by
 obtain⟨c,tl,mro⟩:=F.called_set.mro;have made:=F.called_set.made;have sub:=F.called_set.sub;refine wpAny_call (codeAny_of_tree ?_);show wpAny _ _ (callAny (.type "set") _) _ _ _;refine Hq ⟨Code.quiet_builtin _ (by decide +kernel),KA F.entry_type_call ?_⟩;rw[Around.under_plain (weight_type_call_type "set" [.ref l] []) rfl];have n1:=F.called_set.notType;have n2:=F.called_set.canCreate;have n3:=F.typeCall_set_1 (.ref l)
 repeat(any_goals (first|assumption|wp_step))
 refine codeAny_mono (GF (.ref l) (E:=E) (Q:=fun ob s₁=>ob=.ref s.heap.objs.size/\s₁={s with heap:=s.heap.push (bare (!w.params.followText "set-order"))}) ⟨rfl,rfl⟩) fun r s₁ hr=> ?_;cases r with
 | error e=>exact hr
 | ok fl =>
  cases fl with
  | ret ob =>
   obtain⟨rfl,rfl⟩:=hr;have hS:(s.heap.push (bare (!w.params.followText "set-order"))).get? s.heap.objs.size=some (bare (!w.params.followText "set-order")):=Hv _ rfl;have hT:Shared.TypeIs {s with heap:=s.heap.push (bare (!w.params.followText "set-order"))} (.ref s.heap.objs.size) "set":=⟨_,hS,rfl⟩;have m1:=F.called_set.init.lookup;have m2:=F.called_set.init.bind (.ref s.heap.objs.size)
   repeat(any_goals (first|assumption|wp_step))
   refine codeAny_mono (codeAny_call_builtin (R:=wants (fun r s₂=>r=.none/\∃h' tk,s₂={s with heap:=h',toks:=tk}/\SX w s.heap.objs.size (mJ f its.size 0 0) h' /\(∀b o,b<s.heap.objs.size->s.heap.get? b=some o->h'.get? b=some o)) E) F.called_set.init.plain F.entry_set_init (check_set_init_1 hT ?_)) fun r₂ s₂ hr₂=> ?_
   ·obtain⟨ol,hol,cl,nl,dl⟩:=hl
    obtain⟨oc,od,ot,os⟩:=ol;simp only at cl dl;subst cl dl;have hol' :(s.heap.push (bare (!w.params.followText "set-order"))).get? l=some {cls:=.type "list",dict:=od,data:=.seq its nl,slots:=os}:=Ha _ hol;have q1:=F.sub_list_set;have q2:=F.sub_list_frozenset;have q3:(Value.type "list"==Value.type "dict")=false:=by decide
    have hl1:(s.heap.push (bare (!w.params.followText "set-order"))).IsList l its:=⟨_,hol',rfl,nl,rfl⟩;unfold Builtin.«set.__init__» noKeywords Builtin.Frozenset.updateFrom
    generalize hPI:pyIter=PI
    wp_walk
    subst hPI;refine KJ hl1 (HY (wpAny_runValue ?_));have lS:l<s.heap.objs.size:=Hs hol;have h3:A.in1.in1.in1.handled=none:=by simp[hh]
    have nI:l≠(s.heap.push (bare (!w.params.followText "set-order"))).objs.size:=by
     rw[JT];exact Hy (Iw lS)
    have nf:s.heap.objs.size∉[(s.heap.push (bare (!w.params.followText "set-order"))).objs.size,l]:=by
     rw[JT];simp only[Hm,IZ,Ie,JY,KW];exact⟨Hy (Nat.lt_succ_self _),JU lS⟩
    refine DH ((Walks.list h3 _ l nI its).toS) nf f hi its.size 0 _ 0 (by omega) (IN _) ⟨⟨_,Hv _ rfl,rfl,rfl⟩,hl1.push _⟩ (by omega) (BH (Ha _ hS)) ?_;intro s' mv hS';obtain⟨h',g',d',tk',os'⟩:=s';have e1:g' =s.gens:=mv.gens;have e2:d' =s.drawn:=mv.drawn;have e3:os' =s.os:=mv.os;subst e1 e2 e3;show wpAny _ _ _ _ _ _;refine Hq ?_;show wpAny _ _ (ret Value.none) _ _ _;refine Hq ⟨rfl,h',tk',rfl,hS',fun b o hb e=> ?_⟩;refine mv.heap b o ?_ (Ha _ (Ha _ e));have z1:b≠s.heap.objs.size:=Hy hb;have z2:b≠(s.heap.push (bare (!w.params.followText "set-order"))).objs.size:=by
     rw[JT];exact Hy (Iw hb)
    simp only[Hm,IZ,Ie,JY,KW];exact⟨z1,z2⟩
   ·cases r₂ with
    | error e=>exact hr₂
    | ok fl₂ =>
     cases fl₂ with
     | ret r =>
      obtain⟨rfl,h',tk,rfl,hS',hk'⟩:=hr₂
      repeat(any_goals (first|assumption|wp_step))
      exact h _ _ hS' hk'
     | _=>exact hr₂.elim
  | _=>exact hr.elim
end
theorem qz:entryFor table "set.__iter__"=some Builtin.«frozenset.__iter__» :=
 entryFor_alias (id' :="frozenset.__iter__") (by kernel_rfl) rfl (by decide +kernel) (by kernel_rfl)
theorem cV:Slot "set_iterator" "__next__" "set_iterator.__next__" :=
 .of (owner:="set_iterator") (n:="__next__") (by rw[typeLookup_type,builtinLookup_eq_fast];kernel_rfl) (by decide +kernel) (by decide +kernel) (by decide +kernel)
  (by first|exact .inl (by decide +kernel)|exact .inr (by decide +kernel)) (by rw[isSubtype_type];kernel_rfl)
theorem kA:entryFor table "set_iterator.__next__"=some Builtin.«set_iterator.__next__»:=entryFor_of_tree (by kernel_rfl)
theorem lh(a:Value):argsOk "set_iterator.__next__" ⟨[a],[]⟩:=by
 unfold argsOk
 kernel_rfl
theorem sf{α:Type}(f:Nat->Nat):∀(k i:Nat)(l:List α)(o:Array α),l.length=k->(pickOrder.go f k i l o).toList.Perm (o.toList++l)
 | 0,i,l,o,h=>by
  have:l=[]:=KN h;subst this;unfold pickOrder.go;simp
 | k+1,i,l,o,h=>by
  unfold pickOrder.go;have lt:f i%l.length<l.length:=Nat.mod_lt _ (by omega);rw[Hd lt];dsimp only;refine(sf f k (i+1) _ _ (by rw[List.length_eraseIdx,Hr lt];omega)).trans ?_;rw[Array.toList_push,List.append_assoc];refine List.Perm.append_left _ ?_;have e:l=l.take (f i%l.length)++l[f i%l.length]::l.drop (f i%l.length+1):=by
   rw[<- JI lt,KD]
  rw[List.eraseIdx_eq_take_drop_succ];refine List.Perm.trans ?_ (List.Perm.of_eq e.symm);rw[List.singleton_append];exact Jx.symm
theorem ky{α:Type}(f:Nat->Nat)(xs:Array α):(pickOrder f xs).toList.Perm xs.toList:=by
 have:=sf f xs.size 0 xs.toList #[] rfl
 simpa [pickOrder]using this
section
variable{prog:Program}{w:World}{A:Around}{E:Value->Shared->Prop}{s:Shared}
structure Ord(w:World)(a m ep:Nat)(es:Array (Int×Value))(vs:List Value)(sl:Nat->Nat):Prop where
 len:vs.length=es.size
 perm:vs.Perm (es.toList.map (·.2))
 go:∀{prog:Program}{A:Around}{E:Value->Shared->Prop}{s:Shared}{o:Obj}(i:Nat)(Q:Option (Value×Nat)->Shared->Prop),s.heap.get? a=some o->o.data=.set es ep (fr (!w.params.followText "set-order") m) ->
  Q ((vs[i]?).map fun v=>(v,sl (i+1))) s->i<=es.size->wpAny (model prog w) A (setNext a (sl i) i ep) Q E s
theorem FE{m:Nat}(hm:m<256):(∀i,i<(lst m).length->SetTable.below (lst m).toArray (if i=0 then 0 else(lst m).getD (i-1) 0+1)=i)/\SetTable.below (lst m).toArray (if(lst m).length=0 then 0 else(lst m).getD ((lst m).length-1) 0+1)=(lst m).length:=by
 have h:=Hx.mp vq m (Ii.mpr hm);rw[Hb,Jn]at h;refine⟨fun i hi=> ?_,h.2⟩;have:=Hx.mp h.1 i (Ii.mpr hi)
 simpa using this
theorem F6{a m ep:Nat}{es:Array (Int×Value)}(hm:m<256)(he:eV es.toList m):∃vs sl,Ord w a m ep es vs sl/\sl 0=0:=by
 have hz:es.size=(lst m).length:=he.len;cases hb:w.params.followText "set-order" with
 | true =>
  refine⟨(pickOrder (w.params.setOrder a ep) es).toList.map (·.2),fun _=>0,⟨?_,(ky _ _).map _,fun{prog A E s o} i Q ho hd q hi=> ?_⟩,rfl⟩
  ·rw[HX,(ky _ _).length_eq,Ig]
  ·have hf:(fr (!w.params.followText "set-order") m).fits es.size=true:=by rw[hz];exact fits hm _
   unfold setNext;refine HY (KI ho hd hf ?_);dsimp only;unfold setsByText;refine HY (HY (J2 (Hq ?_)));rw[show(model prog w).w.params.followText "set-order"=true from hb,Hr rfl,Hl (by simp)];unfold setWalk;refine HY (HY (KI ho hd hf ?_));dsimp only;unfold setsByText;refine HY (HY (J2 (Hq ?_)));rw[show(model prog w).w.params.followText "set-order"=true from hb,Hr rfl];refine HY (J2 (Hq (Hq ?_)));have:((pickOrder (w.params.setOrder a ep) es)[i]?).map (fun e=>(e.2,0))=(((pickOrder (w.params.setOrder a ep) es).toList.map (·.2))[i]?).map fun v=>(v,0):=by
    rw[Ho,JL];cases(pickOrder (w.params.setOrder a ep) es)[i]? <;>rfl
   rw[<- this]at q;exact q
 | false =>
  refine⟨es.toList.map (·.2),fun i=>if i=0 then 0 else(lst m).getD (i-1) 0+1,⟨by simp,List.Perm.refl _,fun{prog A E s o} i Q ho hd q hi=> ?_⟩,rfl⟩;have hf:(fr (!w.params.followText "set-order") m).fits es.size=true:=by rw[hz];exact fits hm _
  unfold setNext;refine HY (KI ho hd hf ?_);dsimp only;unfold setsByText;refine HY (HY (J2 (Hq ?_)));rw[show(model prog w).w.params.followText "set-order"=false from hb,Hl Hk];rw[hb]
  split
  ·rename_i z
   exact absurd (show(false:Bool)=true from z) Hk
  refine HY ((Hq ?_:wpAny (model prog w) A (pure ()) _ E _));have hw:=FE hm;have hp:(fr (!false) m).place=(lst m).toArray:=rfl;rw[hp];have hbel:SetTable.below (lst m).toArray (if i=0 then 0 else(lst m).getD (i-1) 0+1)=i:=by
   rcases J8 i (lst m).length with h|h
   ·exact hw.1 i h
   ·have e:i=(lst m).length:=by omega
    rw[e];exact hw.2
  rw[hbel]
  have:(match es[i]?,(lst m).toArray[i]? with
   | some (_,x),some j=>some (x,j+1)
   | _,_=>none)=((es.toList.map (·.2))[i]?).map fun v=>(v,if i+1=0 then 0 else(lst m).getD (i+1-1) 0+1):=by
   rw[Ho,JL]
   rcases J8 i es.size with h|h
   ·have h2:i<(lst m).length:=by omega
    rw[Array.getElem?_eq_getElem h,List.getElem?_toArray,Hd h2];simp[h2]
   ·rw[Array.getElem?_eq_none h,List.getElem?_toArray,IV (by omega)]
    rfl
  rw[<- this]at q;exact Hq q
end
theorem km:Slot "set_iterator" "__iter__" "set_iterator.__iter__" :=
 .of (owner:="set_iterator") (n:="__iter__") (by rw[typeLookup_type,builtinLookup_eq_fast];kernel_rfl) (by decide +kernel) (by decide +kernel) (by decide +kernel)
  (by first|exact .inl (by decide +kernel)|exact .inr (by decide +kernel)) (by rw[isSubtype_type];kernel_rfl)
theorem qy:entryFor table "set_iterator.__iter__"=some Builtin.«dict_keyiterator.__iter__» :=
 entryFor_alias (id' :="dict_keyiterator.__iter__") (by kernel_rfl) rfl (by decide +kernel) (by kernel_rfl)
theorem vI(a:Value):argsOk "set_iterator.__iter__" ⟨[a],[]⟩:=by
 unfold argsOk
 kernel_rfl
noncomputable def vO(I a i n ep j:Nat)(h:Heap):Prop:=∃o,h.get? I=some o/\o.cls=.type "set_iterator"/\o.data=.fields #[.int (j:Nat) 0,.int (i:Nat) 0,.ref a,.int (n:Nat) 0,.int (ep:Nat) 0]
theorem vO.typeIs{I a i n ep j:Nat}{s:Shared}(x:vO I a i n ep j s.heap):s.TypeIs (.ref I) "set_iterator":=let⟨o,ho,hc,_⟩:=x;⟨o,ho,hc⟩
theorem vO.keep{I a i n ep j:Nat}{h h' :Heap}(x:vO I a i n ep j h)(k:∀o,h.get? I=some o->h'.get? I=some o):vO I a i n ep j h' :=let⟨o,ho,r⟩:=x;⟨o,k o ho,r⟩
section
variable{prog:Program}{w:World}{A:Around}
set_option maxHeartbeats 3200000 in
theorem Bz(hh:A.handled=none){I a m ep:Nat}{es:Array (Int×Value)}{vs:List Value}{sl:Nat->Nat}{so:Obj}(hne:a≠I)(hm:m<256)(he:eV es.toList m)(hd:so.data=.set es ep (fr (!w.params.followText "set-order") m))(O:Ord w a m ep es vs sl) :
  Walks prog w A I [I,a] [I] vs.length (fun i v=>vs[i]? =some v) (fun i h=>vO I a i es.size ep (sl i) h/\h.get? a=some so) where
 sub:=fun b hb=>by simp at hb;simp[hb]
 frame:=fun _ _ _ st hk=>⟨st.1.keep fun o e=>hk I (by simp) o e,hk a (by simp) so st.2⟩
 item:=fun i s Q E hi st hQ=>by
  obtain⟨it,ha⟩:=st;obtain⟨o,ho,hc,hdt⟩:=id it;have hf:(fr (!w.params.followText "set-order") m).fits es.size=true:=by rw[show es.size=(lst m).length from he.len];exact fits hm _
  have hx:vs[i]? =some vs[i]:=Hd hi;unfold pyNext;refine HY (wpAny_attempt (KC (name:=Str.ofString "__next__") it.typeIs cV (JF cV it.typeIs kA ?_ (lh _))));unfold Builtin.«set_iterator.__next__»;refine HY (m:=slotArgs _ _ _) (Hq ?_);refine HY (wpAny_fieldsOf ho hdt ?_);dsimp only;refine HY (wpAny_setEntries_of ha hd hf ?_);rw[Hl (by simp)];refine HY (O.go i _ ha hd ?_ (by have:=O.len;omega));rw[hx];dsimp only[Option.map];refine HY (Kf ho hdt (by simp) ?_);have e1:=JD (Obj.mapFields (·.setIfInBounds 0 (rawInt (sl (i+1):Nat)))) ho (Obj.isFreed_of_fields (Jt hdt _));have d1:=Jt hdt (·.setIfInBounds 0 (rawInt (sl (i+1):Nat)));refine HY (Kf e1 d1 (by simp) (Hq ⟨_,rfl,Hq ?_⟩));have e2:=JD (Obj.mapFields (·.setIfInBounds 1 (rawInt ((i:Nat)+1)))) e1 (Obj.isFreed_of_fields (Jt d1 _));refine hQ _ _ s.toks hx ⟨⟨_,e2,((Obj.cls_mapFields ..).trans (Obj.cls_mapFields ..)).trans hc,?_⟩,?_⟩ fun b ob hb e=> ?_
  ·rw[Jt d1]
   simp[rawInt]
  ·rw[Iu _ _ (Ja hne),Iu _ _ (Ja hne)]
   exact ha
  ·have nb:I≠b:=fun z=>hb (by simp[z])
   rw[Iu _ _ nb,Iu _ _ nb];exact e
 done:=fun s Q E st hQ=>by
  obtain⟨it,ha⟩:=st;obtain⟨o,ho,hc,hdt⟩:=id it;have hf:(fr (!w.params.followText "set-order") m).fits es.size=true:=by rw[show es.size=(lst m).length from he.len];exact fits hm _
  unfold pyNext;refine HY (wpAny_attempt (KC (name:=Str.ofString "__next__") it.typeIs cV (JF cV it.typeIs kA ?_ (lh _))));unfold Builtin.«set_iterator.__next__»;refine HY (m:=slotArgs _ _ _) (Hq ?_);refine HY (wpAny_fieldsOf ho hdt ?_);dsimp only;refine HY (wpAny_setEntries_of ha hd hf ?_);rw[Hl (by simp)];refine HY (O.go vs.length _ ha hd ?_ (by have:=O.len;omega));rw[IV (Hg _)];dsimp only[Option.map];refine HY (Kf ho hdt (by simp) ?_);refine HY ?_;simp only[newExc,newTuple];refine HY (Jk ?_ (by size_fits));refine HY (m:=firstArgMember _ _) (wpAny_of_eq (a:=Value.none) (by first|rfl|(simp only[firstArgMember];rfl)) ?_);refine Jk ?_ (by size_fits);simp only[raiseNew];refine HY (wpAny_handled ?_);rw[show A.in1.handled=none from hh];refine HY (Hq (wpAny_throw ?_));refine HY (wpAny_isInstance (T:="StopIteration") (b:=true) ⟨_,Hv _ rfl,rfl⟩ isSubtype_stop ?_);refine Hq (hQ _ s.toks fun b ob hb e=> ?_);have nb:b≠I:=fun z=>hb (by simp[z]);exact(((J7 ..).extBut.push _).push _) b ob nb e
 self:=fun i s Q E st hQ=>by
  refine wpAny_pyIter_slot st.1.typeIs km (JF km st.1.typeIs qy ?_ (vI _));exact Hq ⟨_,rfl,"set_iterator",_,st.1.typeIs,cV.lookup,hQ⟩
end
section
variable{prog:Program}{w:World}{A:Around}{E:Value->Shared->Prop}{s:Shared}
theorem DS{a m ep:Nat}{es:Array (Int×Value)}{o:Obj}{Q:Value->Shared->Prop}(hm:m<256)(he:eV es.toList m)(ho:s.heap.get? a=some o)(hex:o.ExactSet)(hd:o.data=.set es ep (fr (!w.params.followText "set-order") m))
  (h:Q (.ref s.heap.objs.size) {s with heap:=s.heap.push {cls:=.type "set_iterator",data:=.fields #[.int (0:Nat) 0,.int (0:Nat) 0,.ref a,.int (es.size:Nat) 0,.int (ep:Nat) 0]}}):wpAny (model prog w) A (pyIter (.ref a)) Q E s:=by
 have hT:s.TypeIs (.ref a) "set":=⟨o,ho,hex.1⟩;have hf:(fr (!w.params.followText "set-order") m).fits es.size=true:=by rw[show es.size=(lst m).length from he.len];exact fits hm _
 refine wpAny_pyIter_slot hT F.slot_set_iter (JF F.slot_set_iter hT qz ?_ (F.args_set_iter_1 _));unfold Builtin.«frozenset.__iter__»;refine HY (m:=Builtin.Frozenset.slot0 _ _) (Hq ?_);unfold Builtin.Frozenset.sizeOf;refine HY (HY (wpAny_setEntries_of ho hd hf (Hq ?_)));have hdr:wpAny (model prog w) A.in1 (setDrawn a) (fun b s1=>b=false/\s1=s) E s:=by
  unfold setDrawn;refine HY (KI ho hd hf ?_);dsimp only;unfold setsByText;refine HY (HY (J2 (Hq (Hq ⟨?_,rfl⟩))));cases(model prog w).w.params.followText "set-order"
  ·rfl
  ·rfl
 refine HY (JK hdr (fun b s1 hb=> ?_) fun _ _ x=>x);obtain⟨rfl,rfl⟩:=hb;rw[Hl Hk];refine HY (Hq (HY (wpAny_setEpoch_of ho hd hf ?_)));refine HY (Jk (Hq ⟨_,rfl,"set_iterator",_,⟨_,Hv _ rfl,rfl⟩,cV.lookup,h⟩))
set_option maxHeartbeats 3200000 in
theorem uz{a m:Nat}{Q:List Value->Shared->Prop}(hh:A.handled=none)(hm:m<256)(hS:SX w a m s.heap)
  (h:∀(s' :Shared)(vs:List Value),vs.map jA=vs.map jA->(vs.map jA).Perm ((lst m).map fun v:Nat=>some (v:Int))->(∀b o,s.heap.get? b=some o->s'.heap.get? b=some o)->s.heap.objs.size<s'.heap.objs.size->s'.gens=s.gens->s'.drawn=s.drawn->s'.os=s.os->Q vs s') :
  wpAny (model prog w) A (collect (.ref a)) Q E s:=by
 obtain⟨o,es,ep,ho,hex,hd,he⟩:=hS;obtain⟨vs,sl,O,hs0⟩:=F6 (w:=w) (a:=a) (ep:=ep) hm he;have ha:a<s.heap.objs.size:=Hs ho;have hz:es.size=(lst m).length:=he.len;have h8:(lst m).length<=8:=by
  unfold lst;exact Ik (JC _ _) (by simp)
 have hvl:vs.length<=8:=by rw[O.len,hz];exact h8
 unfold collect;refine HY (wpAny_runValue (KA F.entry_proto_collect ?_));rw[J0 F.plain_proto_collect _];show wpAny _ A.in1 (newList [] >>= fun l=>again (.builtin "list.__iadd__" ⟨[l,.ref a],[]⟩)) _ _ s;refine HY (Jk (Hq ⟨plainId_quiet F.plain_list_iadd _,KA F.entry_list_iadd ?_⟩));rw[J0 F.plain_list_iadd _]
 generalize hL:({cls:=.type "list",data:=.seq ([]:List Value).toArray}:Obj)=L0
 have k1:(s.heap.push L0).get? a=some o:=Ha _ ho;have k2:(s.heap.push L0).get? s.heap.objs.size=some L0:=Hv _ (by rw[<- hL];rfl);have hT:Shared.TypeIs {s with heap:=s.heap.push L0} (.ref a) "set":=⟨o,k1,hex.1⟩;show wpAny _ A.in1 (Builtin.List.listExtendWith (.ref s.heap.objs.size) (.ref a) (.ref s.heap.objs.size)) _ _ _;unfold Builtin.List.listExtendWith;refine HY (wpAny_typeOf hT ?_);have n1:Builtin.List.listSameRef (.ref s.heap.objs.size) (.ref a)=false:=by
  simp only[Builtin.List.listSameRef,KQ];exact JU ha
 rw[Hl (by rw[n1];decide)];refine HY (DS (s:={s with heap:=s.heap.push L0}) hm he k1 hex hd ?_);dsimp only;rw[show(s.heap.push L0).objs.size=s.heap.objs.size+1 from JT _ _]
 generalize hI:({cls:=.type "set_iterator",data:=.fields #[.int (0:Nat) 0,.int (0:Nat) 0,.ref a,.int (es.size:Nat) 0,.int (ep:Nat) 0]}:Obj)=I0
 have sz:(s.heap.push L0).objs.size=s.heap.objs.size+1:=JT _ _;have j0:((s.heap.push L0).push I0).get? (s.heap.objs.size+1)=some I0:=by rw[<- sz];exact Hv _ (by rw[<- hI];rfl)
 have j1:((s.heap.push L0).push I0).get? a=some o:=Ha _ k1;have j2:((s.heap.push L0).push I0).get? s.heap.objs.size=some L0:=Ha _ k2;have hT2:Shared.TypeIs {s with heap:=(s.heap.push L0).push I0} (.ref a) "set":=⟨o,j1,hex.1⟩;have hhint:wpAny (model prog w) A.in1 (Builtin.List.listLengthHint (.ref a)) (fun b s1=>s1={s with heap:=(s.heap.push L0).push I0}) E {s with heap:=(s.heap.push L0).push I0}:=by
  unfold Builtin.List.listLengthHint;refine HY (wpAny_specialOf hT2 F.slot_set_len.lookup ?_)
  (generalize aM:("set.__len__":String)=id0;(fail_if_success (clear aM id0));wp_delta;rw[show splitId id0=some ("set","__len__")from by subst aM;decide +kernel];subst aM)
  refine HY (wpAny_isInstance (b:=true) hT2 (by rw[isSubtype_type];kernel_rfl) ?_);rw[Hl (show¬((!true)=true)from Hk)];dsimp only;rw[Hr (by decide)];refine HY (wpAny_typeOf hT2 ?_);exact Hq rfl
 refine HY (Iv (JK hhint (fun b s1 hb=> ?_) fun _ _ x=>x));subst hb
 split
 case isFalse z =>
  refine absurd ?_ z;rw[JS];exact .inr (by decide)
 refine HY (wpAny_rule ?_);have hW:=Bz (prog:=prog) (w:=w) (A:=A.in1) hh (I:=s.heap.objs.size+1) (a:=a) (so:=o) (by omega) hm he hd O;have u1:=JD (Obj.mapSeq (·.push Value.none)) j2 (by rw[<- hL];rfl);refine HY ?_;show wpAny _ A.in1 (updateSeq s.heap.objs.size (·.push .none) >>= fun _=>updateSeq s.heap.objs.size (·.pop)) _ _ _;subst hL;refine HY (wpAny_updateSeq j2 rfl ?_);refine wpAny_updateSeq u1 rfl ?_;have u2:=JD (Obj.mapSeq (·.pop)) u1 rfl
 have oth:∀b ob,b≠s.heap.objs.size->((s.heap.push {cls:=.type "list",data:=.seq ([]:List Value).toArray}).push I0).get? b=some ob ->
   ((((s.heap.push {cls:=.type "list",data:=.seq ([]:List Value).toArray}).push I0).update s.heap.objs.size (Obj.mapSeq (·.push Value.none))).update s.heap.objs.size (Obj.mapSeq (·.pop))).get? b=some ob:=fun b ob nb e=>by
  rw[Iu _ _ (Ja nb),Iu _ _ (Ja nb)];exact e
 have nf:s.heap.objs.size∉[s.heap.objs.size+1,a]:=by
  simp only[Hm,IZ,Ie,JY,KW];exact⟨by omega,JU ha⟩
 refine Hq ⟨plainId_quiet F.plain_extend_loop _,codeAny_extend_loopS hW.toS (by rw[Im];omega) _ nf _ vs.length 0 _ _ _ rfl (IN _) ⟨⟨I0,oth _ _ (by omega) j0,by rw[<- hI],by rw[<- hI,hs0]⟩,oth _ _ (Hy ha) j1⟩ u2 (ItemsOf.nil _) fun s' acc c mv hacc his=> ?_⟩;show wpAny _ A (load s.heap.objs.size >>= _) _ _ s';refine HY (wpAny_load hacc ?_);have eacc:acc.toList=vs:=by
  apply Jf
  intro i;rw[JL];cases e:acc[i]? with
  | some v=>exact(his.2 i v e).symm
  | none =>
   have:acc.size<=i:=by simpa using e
   rw[his.1]at this;exact(IV this).symm
 show wpAny _ _ (pure acc.toList) _ _ _;rw[eacc];refine Hq (h s' vs rfl ?_ (fun b ob e=> ?_) (Hs hacc) mv.gens mv.drawn mv.os)
 ·have:=O.perm.map jA
  refine this.trans (List.Perm.of_eq ?_);rw[Ia];have z:=Ix (List.map Prod.snd) he;rw[Ia,Ia]at z;exact z
 ·have hb:=Hs e
  refine mv.heap b ob ?_ (oth b ob (Hy hb) (Ha _ (Ha _ e)));simp only[Hm,IZ,Ie,JY,KW];exact⟨Hy hb,Hy (Iw hb)⟩
end
end SQ
namespace SQ
open PySem PyProof.Rows
theorem tF:∀{vs:List Value}{ns:List Int},vs.map jA=ns.map some->IntsAre vs ns
 | [],[],_=>.nil
 | [],_::_,h=>by cases h
 | _::_,[],h=>by cases h
 | v::vs,n::ns,h=>by
  rw[Hf,Hf]at h
  injection h with h1 h2
  obtain⟨t,rfl⟩:=lB h1;exact .cons n t (tF h2)
theorem jl(m:Nat):(lst m).Pairwise (·<·):=by
 unfold lst;exact List.Pairwise.filter _ (List.pairwise_lt_range)
section
variable{prog:Program}{w:World}{A:Around}{E:Value->Shared->Prop}{s:Shared}
theorem wD{a m:Nat}{Q:Value->Shared->Prop}(hh:A.handled=none)(hm:m<256)(hS:SX w a m s.heap)
  (h:∀(s' :Shared)(D c:Nat)(out:Array Value),IntsAre out.toList ((lst m).map fun v:Nat=>(v:Int))->s.heap.objs.size<=D->s'.heap.get? D=some (seqObj "list" out c)->(∀b o,s.heap.get? b=some o->s'.heap.get? b=some o)->s'.gens=s.gens->s'.drawn=s.drawn->s'.os=s.os->Q (.ref D) s') :
  wpAny (model prog w) A (call (.builtin "sorted") [.ref a]) Q E s:=by
 have h8:(lst m).length<=8:=by
  unfold lst;exact Ik (JC _ _) (by simp)
 refine Calls.call_function_entry kind_sorted plain_sorted entry_sorted (args_sorted1 _) ?_;unfold Builtin.«sorted»;refine HY (m:=checkCount "sorted" 1 1 _) (Hq ?_);refine HY (uz (A:=A.in1) hh hm hS fun s1 vs _ pm old lt g d os=> ?_);obtain⟨ns,en,pn⟩:∃ns:List Int,vs.map jA=ns.map some/\ns.Perm ((lst m).map fun v:Nat=>(v:Int)):=by
  have:∀(ys:List (Option Int))(xs:List Int),ys.Perm (xs.map some)->∃ns:List Int,ys=ns.map some/\ns.Perm xs:=by
   intro ys xs p;refine⟨ys.filterMap id,?_,?_⟩
   ·have hall:∀y∈ys,y.isSome=true:=fun y hy=>by
     obtain⟨x,-,rfl⟩:=Hn.mp (p.mem_iff.mp hy);rfl
    clear p
    induction ys with
    | nil=>rfl
    | cons y r ih =>
     cases y with
     | none=>exact absurd (hall none He) (by simp)
     | some v =>
      rw[List.filterMap_cons_some (by rfl),Hf,<-ih fun z hz=>hall z (HZ _ hz)]
   ·have:=p.filterMap id
    rw[List.filterMap_map]at this
    simpa using this
  refine this _ _ (pm.trans (List.Perm.of_eq ?_));rw[Ia];rfl
 have hI:=tF en;have hl:vs.length<64:=by
  have e1:=Ix List.length en;rw[HX,HX]at e1;have e2:=pn.length_eq;rw[HX]at e2;omega
 refine HY (wpAny_newList ?_);have ho:(s1.heap.push (seqObj "list" vs.toArray 0)).get? s1.heap.objs.size=some (seqObj "list" vs.toArray 0):=Hv _ rfl;refine HY (Iv (JF slot_list_sort ⟨_,ho,rfl⟩ entry_list_sort (list_sort_tree ho hI hl fun out ns' a1 a2 a3=>⟨_,rfl,?_⟩) (args_list_sort _)));have e:ns' =(lst m).map fun v:Nat=>(v:Int):=by
  refine Ke (le:=(·<=·)) (fun a b _ _ h1 h2=>Int.le_antisymm h1 h2) a3 ?_ (a2.trans pn);rw[Js];exact(jl m).imp fun z=>by omega
 subst e;obtain⟨c,hc⟩:=sortedHeap_at (vs:=vs) (out:=out) ho;refine Hq ⟨_,rfl,h _ _ c out a1 (Jd lt) hc (fun b o z=> ?_) g d os⟩;have hb:=Hs (old b o z);rw[sortedHeap_old (Hy hb) (by rw[JT];exact Iw hb)];exact Ha _ (old b o z)
end
end SQ
namespace L2
open PySem PySem.Spec PyProof.Rows
noncomputable def maskOf(ns:List Int):Nat:=SQ.mJ (fun i=>(ns.getD i 0).toNat) ns.length 0 0
noncomputable def dz(ns:List Int):List Int:=(SQ.lst (maskOf ns)).map fun v:Nat=>(v:Int)
theorem sW(f:Nat->Nat):∀(k i m:Nat),(∀j,j<k->f (i+j)<8)->m<256->SQ.mJ f k i m<256
 | 0,_,m,_,h=>h
 | k+1,i,m,hf,h=>by
  unfold SQ.mJ;refine sW f k (i+1) _ (fun j hj=> ?_) (SQ.AW h (hf 0 (by omega)) true).2;have:=hf (j+1) (by omega);rw[show i+1+j=i+(j+1)by omega];exact this
theorem AO{ns:List Int}(h:∀n∈ns,0<=n/\n<8):maskOf ns<256:=by
 unfold maskOf;refine sW _ _ _ _ (fun j hj=> ?_) (by omega);rw[KS];have:ns.getD j 0∈ns:=by
  rw[Hc,Hd hj];exact JN hj
 have:=h _ this;omega
section
variable{X:Cx}
theorem vC(hc:X.calm=true):bI X (.type "set") (fun xs H Q=>∃(p:Addr)(ns:List Int),xs=[.ref p]/\bB X.K H p (ns.map V.int)/\(∀n∈ns,0<=n/\n<8)/\∀a,H a=none->Q (.ref a) (upd H a (.ext (SQ.SX X.w a (maskOf ns))))):=by
 intro pins s σ H xs us Q I r h;obtain⟨p,ns,rfl,hq,h8,q⟩:=h;obtain⟨u,rfl,rx⟩:=vals1 r;cases rx;obtain⟨its,r',pl,hz⟩:=I.list hq;have hlen:=r'.length;rw[HX]at hlen;refine SQ.Fd (f:=fun i=>(ns.getD i 0).toNat) (I.ok.hd hc) pl.isList (fun i v hv=> ?_) fun h' tk hS old=> ?_
 ·have hv:its[i]? =some v:=by simpa using hv
  obtain⟨t,e⟩:=il r' hv;have hi:i<ns.length:=by
   have:=(Hh.mp hv).1;omega
  have hm:ns.getD i 0∈ns:=by
   rw[Hc,Hd hi];exact JN hi
  have:=h8 _ hm;refine⟨by omega,t,?_⟩;rw[e]
  congr 1
  omega
 ·have ez:its.toArray.size=ns.length:=by rw[Hu,hlen]
  rw[ez]at hS;refine⟨.ref s.heap.objs.size,_,I.laid (t' :=tk) (o:=.ext (SQ.SX X.w s.heap.objs.size (maskOf ns))) (fun b o z=>old b o (Hs z) z) (Hg _) ⟨hS,?_,fun h1 h2 x k=>x.at k⟩,rfl,q _ (I.hok.fresh (Hg _))⟩;obtain⟨o,es,ep,ho,_⟩:=hS;exact⟨o,ho⟩
theorem Inv.ext{pins:List (Addr×Obj)}{σ:St}{H:Hp}{s:Shared}{a:Addr}{φ:Heap->Prop}(I:Inv X pins σ H s)(h:H a=some (.ext φ)):φ s.heap:=(show am X.prog X.w H s.heap a (.ext φ)from I.hok a _ h).1
theorem iW(hc:X.calm=true):bI X (.builtin "sorted") (fun xs H Q=>∃(p:Addr)(m:Nat),xs=[.ref p]/\m<256/\H p=some (.ext (SQ.SX X.w p m))/\∀a,H a=none->Q (.ref a) (upd H a (.lst ((SQ.lst m).map fun v:Nat=>V.int (v:Int))))):=by
 intro pins s σ H xs us Q I r h;obtain⟨p,m,rfl,hm,hp,q⟩:=h;obtain⟨u,rfl,rx⟩:=vals1 r;cases rx;refine SQ.wD (I.ok.hd hc) hm (I.ext hp) fun s' D c out a1 le hD old g d os=> ?_;obtain⟨h',g',d',tk',os'⟩:=s';dsimp only at g d os hD old;subst g d os;refine⟨.ref D,_,I.laid (t' :=tk') (o:=.lst ((SQ.lst m).map fun v:Nat=>V.int (v:Int))) (fun b o z=>old b o z) le ?_,rfl,q _ (I.hok.fresh le)⟩;have h8:(SQ.lst m).length<=8:=by
  unfold SQ.lst;exact Ik (JC _ _) (by simp)
 refine⟨by rw[HX,Im];omega,out.toList,c,?_,by simpa [seqObj]using hD⟩;have:=dU a1;rw[Ia]at this;exact this
end
end L2
namespace SW
open PySem.W PyProof.Rows
noncomputable def run{α:Type}(f:Nat->Nat->Bool):KasT α->α
 | .ret a=>a
 | .ask i j k=>run f (k (f i j))
theorem dM{α β:Type}(f:Nat->Nat->Bool)(g:α->KasT β):∀t:KasT α,run f (t.bind g)=run f (g (run f t))
 | .ret _=>rfl
 | .ask i j k=>dM f g (k (f i j))
section
variable(key:Nat->Int)
noncomputable def F:Nat->Nat->Bool:=fun i j=>decide (key i<key j)
noncomputable def K(p:Array Nat)(i:Nat):Int:=key (p.getD i 0)
noncomputable def vf(p:Array Nat)(k:Nat):Prop:=∀i,i+1<k->K key p i<=K key p (i+1)
noncomputable def BP(p:Array Nat)(k:Nat):Prop:=∀i,i+1<k->K key p (i+1)<=K key p i
variable{key}
theorem vf.le{p:Array Nat}{k:Nat}(h:vf key p k):∀(d i:Nat),i+d<k->K key p i<=K key p (i+d)
 | 0,_,_=>KO _
 | d+1,i,hk=>Int.le_trans (vf.le h d i (by omega)) (h (i+d) (by omega))
theorem vf.mono{p:Array Nat}{k:Nat}(h:vf key p k){i j:Nat}(hij:i<=j)(hj:j<k):K key p i<=K key p j:=by
 have:=h.le (j-i) i (by omega)
 rwa [show i+(j-i)=j by omega]at this
theorem BP.le{p:Array Nat}{k:Nat}(h:BP key p k):∀(d i:Nat),i+d<k->K key p (i+d)<=K key p i
 | 0,_,_=>KO _
 | d+1,i,hk=>Int.le_trans (h (i+d) (by omega)) (BP.le h d i (by omega))
theorem BP.mono{p:Array Nat}{k:Nat}(h:BP key p k){i j:Nat}(hij:i<=j)(hj:j<k):K key p j<=K key p i:=by
 have:=h.le (j-i) i (by omega)
 rwa [show i+(j-i)=j by omega]at this
theorem yf{p:Array Nat}{i j:Nat}(hj:j<=p.size)(x:Nat):K key (kas_rev p i j) x=if i<=x/\x<j then K key p (i+j-1-x)else K key p x:=by
 unfold K kas_rev;rw[Iz,getElem?_mirror_all hj]
 split
 ·rw[Iz]
 ·rw[Iz]
theorem asc(p:Array Nat):∀k n,n<=run (F key) (kas_asc p k n)/\run (F key) (kas_asc p k n)<=n+k/\(∀i,n<=i->i<run (F key) (kas_asc p k n)->K key p (i-1)<=K key p i) /\
  (run (F key) (kas_asc p k n)<n+k->K key p (run (F key) (kas_asc p k n))<K key p (run (F key) (kas_asc p k n)-1))
 | 0,n=>⟨Hg _,Hg _,fun i h1 h2=>absurd (show i<n from h2) (by omega),fun h=>absurd (show n<n+0 from h) (by omega)⟩
 | k+1,n=>by
  have e:run (F key) (kas_asc p (k+1) n)=if K key p n<K key p (n-1)then n else run (F key) (kas_asc p k (n+1)):=by
   show run (F key) (if F key (p.getD n 0) (p.getD (n-1) 0)=true then .ret n else kas_asc p k (n+1))=_;unfold F K
   by_cases c:key (p.getD n 0)<key (p.getD (n-1) 0)
   ·rw[Hr (by simpa using c),Hr c]
    rfl
   ·rw[Hl (by simpa using c),Hl c]
  rw[e]
  by_cases c:K key p n<K key p (n-1)
  ·rw[Hr c]
   exact⟨Hg _,by omega,fun i h1 h2=>by omega,fun _=>c⟩
  ·rw[Hl c]
   obtain⟨a1,a2,a3,a4⟩:=asc p k (n+1);refine⟨by omega,by omega,fun i h1 h2=> ?_,fun h=>a4 (by omega)⟩
   rcases J8 n i with h|h
   ·exact a3 i h h2
   ·have:i=n:=by omega
    subst this;omega
structure Dn(p:Array Nat)(n q:Nat):Prop where
 one:q+1<=n
 sz:n<=p.size
 fal:BP key p n
 eqs:∀i,n-(q+1)<=i->i<n->K key p i=K key p (n-1)
theorem gW(p:Array Nat)(i j:Nat):(kas_rev p i j).size=p.size:=mirror_size _ _ _ _
theorem kJ{p:Array Nat}{i j:Nat}(hj:j<=p.size)(h:∀x,i<=x->x<j->K key p x=K key p (j-1))(x:Nat):K key (kas_rev p i j) x=K key p x:=by
 rw[yf hj]
 split
 ·rename_i c
  rw[h (i+j-1-x) (by omega) (by omega),h x c.1 c.2]
 ·rfl
theorem Ap:∀(k:Nat)(p:Array Nat)(n q:Nat),Dn (key:=key) p n q->n+k<=p.size ->
  Dn (key:=key) (run (F key) (kas_desc k p n q)).1 (run (F key) (kas_desc k p n q)).2.1 (run (F key) (kas_desc k p n q)).2.2/\(run (F key) (kas_desc k p n q)).1.Perm p/\(run (F key) (kas_desc k p n q)).2.1<=n+k
 | 0,p,n,q,h,_=>⟨h,KP _,Hg _⟩
 | k+1,p,n,q,h,hk=>by
  have h1:=h.one;have e:run (F key) (kas_desc (k+1) p n q)=if K key p n<K key p (n-1)then(if q>0 then run (F key) (kas_desc k (kas_rev p (n-(q+1)) n) (n+1) 0)else run (F key) (kas_desc k p (n+1) 0))else if K key p (n-1)<K key p n then(p,n,q)else run (F key) (kas_desc k p (n+1) (q+1)):=by
   show run (F key) (if F key (p.getD n 0) (p.getD (n-1) 0)=true then(if q>0 then kas_desc k (kas_rev p (n-(q+1)) n) (n+1) 0 else kas_desc k p (n+1) 0)else .ask (p.getD (n-1) 0) (p.getD n 0) fun d=>if d=true then .ret (p,n,q)else kas_desc k p (n+1) (q+1))=_
   by_cases c:K key p n<K key p (n-1)
   ·rw[Hr (show F key (p.getD n 0) (p.getD (n-1) 0)=true by simpa [F,K]using c),Hr c]
    split<;>rfl
   ·rw[Hl (show¬F key (p.getD n 0) (p.getD (n-1) 0)=true by simpa [F,K]using c),Hl c]
    show run (F key) (if F key (p.getD (n-1) 0) (p.getD n 0)=true then .ret (p,n,q)else kas_desc k p (n+1) (q+1))=_
    by_cases d:K key p (n-1)<K key p n
    ·rw[Hr (show F key (p.getD (n-1) 0) (p.getD n 0)=true by simpa [F,K]using d),Hr d]
     rfl
    ·rw[Hl (show¬F key (p.getD (n-1) 0) (p.getD n 0)=true by simpa [F,K]using d),Hl d]
  have longer:∀p' :Array Nat,p'.size=p.size->(∀x,K key p' x=K key p x)->K key p n<=K key p (n-1)->BP key p' (n+1):=fun p' z kk c i hi=>by
   rw[kk,kk]
   rcases J8 (i+1) n with y|y
   ·exact h.fal i y
   ·have:i=n-1:=by omega
    subst this;rw[show n-1+1=n by omega];exact c
  have new:∀p' :Array Nat,p'.size=p.size->(∀x,K key p' x=K key p x)->K key p n<=K key p (n-1)->Dn (key:=key) p' (n+1) 0:=fun p' z kk c =>
   ⟨by omega,by omega,longer p' z kk c,fun i i1 i2=>by
    have:i=n+1-1:=by omega
    rw[this]⟩
  rw[e]
  by_cases c:K key p n<K key p (n-1)
  ·rw[Hr c]
   by_cases hq:q>0
   ·rw[Hr hq]
    have kk:=kJ (key:=key) (i:=n-(q+1)) h.sz h.eqs;obtain⟨a1,a2,a3⟩:=Ap k (kas_rev p (n-(q+1)) n) (n+1) 0 (new _ (gW _ _ _) kk (by omega)) (by rw[gW];omega);exact⟨a1,a2.trans (KB _ _ _ _),by omega⟩
   ·rw[Hl hq]
    obtain⟨a1,a2,a3⟩:=Ap k p (n+1) 0 (new p rfl (fun _=>rfl) (by omega)) (by omega);exact⟨a1,a2,by omega⟩
  ·rw[Hl c]
   by_cases d:K key p (n-1)<K key p n
   ·rw[Hr d]
    exact⟨h,KP _,by dsimp only;omega⟩
   ·rw[Hl d]
    obtain⟨a1,a2,a3⟩:=Ap k p (n+1) (q+1) ⟨by omega,by omega,longer p rfl (fun _=>rfl) (by omega),fun i i1 i2=>by
     have z:K key p n=K key p (n-1):=by omega
     rw[show n+1-1=n by omega,z]
     rcases J8 i n with y|y
     ·exact h.eqs i (by omega) y
     ·have:i=n:=by omega
      rw[this,z]⟩ (by omega)
    exact⟨a1,a2,by omega⟩
noncomputable def Good(p:Array Nat)(nrem:Nat)(r:Nat×Array Nat):Prop:=1<=r.1/\r.1<=nrem/\vf key r.2 r.1/\r.2.Perm p
theorem tail3{p:Array Nat}{n nrem:Nat}(h1:1<=n)(hn:n<=nrem)(hz:nrem<=p.size)(hf:BP key p n):Good (key:=key) p nrem (run (F key) (kas_tail3 n nrem p)):=by
 unfold kas_tail3;rw[dM];obtain⟨a1,a2,a3,-⟩:=asc (key:=key) (kas_rev p 0 n) (nrem-n) n;refine⟨by show 1<=run (F key) (kas_asc (kas_rev p 0 n) (nrem-n) n);omega,by show run (F key) (kas_asc (kas_rev p 0 n) (nrem-n) n)<=nrem;omega,fun i hi=> ?_,KB _ _ _ _⟩;show K key (kas_rev p 0 n) i<=K key (kas_rev p 0 n) (i+1);have hi:i+1<run (F key) (kas_asc (kas_rev p 0 n) (nrem-n) n):=hi
 rcases J8 (i+1) n with y|y
 ·rw[yf (by omega),yf (by omega),Hr (by omega),Hr (by omega)]
  exact hf.mono (by omega) (by omega)
 ·have:=a3 (i+1) y hi
  rwa [show i+1-1=i by omega]at this
theorem descPart{p:Array Nat}{n nrem:Nat}(h1:1<=n)(hn:n+1<=nrem)(hz:nrem<=p.size)(hf:BP key p (n+1)):Good (key:=key) p nrem (run (F key) (kas_descPart n nrem p)):=by
 unfold kas_descPart;rw[dM];obtain⟨d,pm,le⟩:=Ap (key:=key) (nrem-(n+1)) p (n+1) 0 ⟨by omega,by omega,hf,fun i i1 i2=>by
  have:i=n+1-1:=by omega
  rw[this]⟩ (by omega)
 generalize run (F key) (kas_desc (nrem-(n+1)) p (n+1) 0)=r at d pm le
 obtain⟨p',n',q'⟩:=r;dsimp only at d pm le ⊢;have h1' :=d.one;have hz' :p'.size=p.size:=pm.size_eq
 split
 ·have kk:=kJ (key:=key) (i:=n' -(q' +1)) d.sz d.eqs
  obtain⟨b1,b2,b3,b4⟩:=tail3 (key:=key) (p:=kas_rev p' (n' -(q' +1)) n') (n:=n') (nrem:=nrem) (by omega) (by omega) (by rw[gW];omega) (fun i hi=>by rw[kk,kk];exact d.fal i hi);exact⟨b1,b2,b3,(b4.trans (KB _ _ _ _)).trans pm⟩
 ·obtain⟨b1,b2,b3,b4⟩:=tail3 (key:=key) (p:=p') (n:=n') (nrem:=nrem) (by omega) (by omega) (by omega) d.fal
  exact⟨b1,b2,b3,b4.trans pm⟩
theorem count{p:Array Nat}{nrem:Nat}(h1:1<=nrem)(hz:nrem<=p.size):Good (key:=key) p nrem (run (F key) (kas_count nrem p)):=by
 unfold kas_count;rw[dM];obtain⟨a1,a2,a3,a4⟩:=asc (key:=key) p (nrem-1) 1
 generalize run (F key) (kas_asc p (nrem-1) 1)=n at a1 a2 a3 a4
 have srt:vf key p n:=fun i hi=>by
  have:=a3 (i+1) (by omega) hi
  rwa [show i+1-1=i by omega]at this
 by_cases e:n=nrem
 ·rw[Hr (by simpa using e)]
  exact⟨a1,by show n<=nrem;omega,srt,KP _⟩
 ·rw[Hl (by simpa using e)]
  have lt:=a4 (by omega)
  by_cases h:n>1
  ·rw[Hr h]
   show Good p nrem (run (F key) (if F key (p.getD 0 0) (p.getD (n-1) 0)=true then .ret (n,p)else kas_descPart n nrem (kas_rev p 0 n)))
   by_cases c:K key p 0<K key p (n-1)
   ·rw[Hr (show F key (p.getD 0 0) (p.getD (n-1) 0)=true by simpa [F,K]using c)]
    exact⟨a1,by show n<=nrem;omega,srt,KP _⟩
   ·rw[Hl (show¬F key (p.getD 0 0) (p.getD (n-1) 0)=true by simpa [F,K]using c)]
    have alike:∀x,0<=x->x<n->K key p x=K key p (n-1):=fun x _ hx=>by
     have y1:=srt.mono (show 0<=x by omega) hx;have y2:=srt.mono (show x<=n-1 by omega) (by omega);omega
    have kk:=kJ (key:=key) (i:=0) (j:=n) (by omega) alike;obtain⟨b1,b2,b3,b4⟩:=descPart (key:=key) (p:=kas_rev p 0 n) (n:=n) (nrem:=nrem) a1 (by omega) (by rw[gW];omega) (fun i hi=>by
     rw[kk,kk]
     rcases J8 (i+1) n with y|y
     ·rw[alike (i+1) (by omega) y,alike i (by omega) (by omega)]
      exact KO _
     ·have:i=n-1:=by omega
      subst this;rw[show n-1+1=n by omega];omega)
    exact⟨b1,b2,b3,b4.trans (KB _ _ _ _)⟩
  ·rw[Hl h]
   have:n=1:=by omega
   subst this;exact descPart (key:=key) (by omega) (by omega) hz (fun i hi=>by
    have:i=0:=by omega
    subst this;have lt:K key p (0+1)<K key p 0:=lt;exact Int.le_of_lt lt)
theorem place{p:Array Nat}{n:Nat}(hs:vf key p n):∀(k l r:Nat),l<=r->r<=n->r-l<=k->(∀i,i<l->K key p i<=K key p n)->(∀i,r<=i->i<n->K key p n<K key p i) ->
  run (F key) (kas_place p n k l r)<=n/\(∀i,i<run (F key) (kas_place p n k l r)->K key p i<=K key p n)/\∀i,run (F key) (kas_place p n k l r)<=i->i<n->K key p n<K key p i
 | 0,l,r,lr,rn,hk,h1,h2=>by
  have:l=r:=by omega
  subst this;exact⟨rn,h1,h2⟩
 | k+1,l,r,lr,rn,hk,h1,h2=>by
  unfold kas_place
  by_cases e:l ≥ r
  ·have:l=r:=by omega
   subst this;rw[Hr e];exact⟨rn,h1,h2⟩
  ·rw[Hl e]
   have hm:(l+r)/2<r:=by omega
   have hm2:l<=(l+r)/2:=by omega
   show run (F key) (if F key (p.getD n 0) (p.getD ((l+r)/2) 0)=true then kas_place p n k l ((l+r)/2)else kas_place p n k ((l+r)/2+1) r)<=n/\_;show(fun t=>run (F key) t<=n/\(∀i,i<run (F key) t->K key p i<=K key p n)/\∀i,run (F key) t<=i->i<n->K key p n<K key p i) (if F key (p.getD n 0) (p.getD ((l+r)/2) 0)=true then kas_place p n k l ((l+r)/2)else kas_place p n k ((l+r)/2+1) r)
   by_cases c:K key p n<K key p ((l+r)/2)
   ·rw[Hr (show F key (p.getD n 0) (p.getD ((l+r)/2) 0)=true by simpa [F,K]using c)]
    refine place hs k l ((l+r)/2) hm2 (by omega) (by omega) h1 fun i i1 i2=> ?_;exact Int.lt_of_lt_of_le c (hs.mono i1 i2)
   ·rw[Hl (show¬F key (p.getD n 0) (p.getD ((l+r)/2) 0)=true by simpa [F,K]using c)]
    refine place hs k ((l+r)/2+1) r (by omega) rn (by omega) (fun i hi=> ?_) h2;exact Int.le_trans (hs.mono (show i<=(l+r)/2 by omega) (by omega)) (by omega)
theorem HP{p:Array Nat}{n L:Nat}(hn:n<p.size)(hL:L<=n)(x:Nat):K key (bubble p n (n-L)) x=if x=L then K key p n else if L<x/\x<=n then K key p (x-1)else K key p x:=by
 unfold K;rw[Iz,getElem?_bubble hn _ (by omega),show n-(n-L)=L by omega];rw[Iz (i:=n),Iz (i:=x-1),Iz (i:=x)]
 split
 ·rfl
 ·split
  ·rfl
  ·rfl
theorem bin:∀(k:Nat)(p:Array Nat)(n:Nat),n+k<=p.size->vf key p n->vf key (run (F key) (kas_bin k p n)) (n+k)/\(run (F key) (kas_bin k p n)).Perm p
 | 0,p,n,_,h=>⟨h,KP _⟩
 | k+1,p,n,hk,h=>by
  unfold kas_bin;rw[dM];obtain⟨b1,b2,b3⟩:=place (key:=key) h n 0 n (by omega) (by omega) (by omega) (fun i hi=>by omega) (fun i i1 i2=>by omega)
  generalize run (F key) (kas_place p n n 0 n)=L at b1 b2 b3
  have kb:=HP (key:=key) (p:=p) (n:=n) (L:=L) (by omega) b1;have hs:vf key (bubble p n (n-L)) (n+1):=fun i hi=>by
   rw[kb,kb]
   by_cases e1:i=L
   ·rw[Hr e1,Hl (by omega),Hr (by omega)]
    have:=b3 (i+1-1) (by omega) (by omega);omega
   ·rw[Hl e1]
    by_cases e2:i+1=L
    ·rw[Hr e2,Hl (by omega)]
     exact b2 i (by omega)
    ·rw[Hl e2]
     by_cases e3:L<i/\i<=n
     ·rw[Hr e3,Hr (by omega)]
      exact h.mono (by omega) (by omega)
     ·rw[Hl e3,Hl (by omega)]
      exact h.mono (by omega) (by omega)
  obtain⟨c1,c2⟩:=bin k (bubble p n (n-L)) (n+1) (by rw[bubble_size];omega) hs;exact⟨by rw[show n+(k+1)=n+1+k by omega];exact c1,c2.trans (bubble_perm _ _ _)⟩
theorem sort{n:Nat}(h:1<=n):(run (F key) (kas_sort n)).toList.Perm (List.range n)/\((run (F key) (kas_sort n)).toList.map key).Pairwise (·<=·):=by
 have core:(run (F key) (kas_sort n)).Perm (List.toArray (List.range n))/\vf key (run (F key) (kas_sort n)) n:=by
  unfold kas_sort;rw[dM];obtain⟨a1,a2,a3,a4⟩:=count (key:=key) (p:=List.toArray (List.range n)) h (by simp)
  generalize run (F key) (kas_count n (List.toArray (List.range n)))=r at a1 a2 a3 a4
  have hz:r.2.size=n:=by rw[a4.size_eq];simp
  split
  ·have:max r.1 1=r.1:=by omega
   rw[this];obtain⟨b1,b2⟩:=bin (key:=key) (n-r.1) r.2 r.1 (by omega) a3;exact⟨b2.trans a4,by rw[show n=r.1+(n-r.1)by omega];rw[show r.1+(n-r.1)-r.1=n-r.1 by omega];exact b1⟩
  ·have:r.1=n:=by omega
   exact⟨a4,by rw[<- this];exact a3⟩
 obtain⟨c1,c2⟩:=core;have pm:=Array.perm_iff_toList_perm.mp c1;refine⟨by simpa using pm,?_⟩
 generalize run (F key) (kas_sort n)=p at c1 c2 pm
 have hl:p.toList.length=n:=by rw[pm.length_eq];simp
 rw[List.pairwise_iff_getElem];intro i j hi hj hij;rw[HX]at hi hj;rw[List.getElem_map,List.getElem_map];have:=c2.mono (show i<=j by omega) (by omega);unfold K at this;rw[Ig]at hi hj
 simpa [Array.getD,hi,hj]using this
end
end SW
namespace SW
open PySem PySem.W PyProof.Rows
noncomputable def Ok{α:Type}(n:Nat)(P:α->Prop):KasT α->Prop
 | .ret a=>P a
 | .ask i j k=>i<n/\j<n/\∀b,Ok n P (k b)
theorem Ok.bind{α β:Type}{n:Nat}{P:α->Prop}{R:β->Prop}{g:α->KasT β}(hg:∀a,P a->Ok n R (g a)):∀{t:KasT α},Ok n P t->Ok n R (t.bind g)
 | .ret a,h=>hg a h
 | .ask i j k,h=>⟨h.1,h.2.1,fun b=>Ok.bind hg (h.2.2 b)⟩
theorem Ok.wp{α:Type}{n:Nat}{P:α->Prop}{cmp:Nat->Nat->(Bool->Shared->Prop)->Shared->Prop}{f:Nat->Nat->Bool}{Q:α->Shared->Prop}{s:Shared}(hc:∀i j C,i<n->j<n->C (f i j) s->cmp i j C s) :
  ∀{t:KasT α},Ok n P t->Q (run f t) s->t.kasWp cmp Q s
 | .ret a,_,h=>h
 | .ask i j k,o,h=>hc i j _ o.1 o.2.1 (Ok.wp hc (o.2.2 _) h)
noncomputable def B(n:Nat)(p:Array Nat):Prop:=∀x,p.getD x 0<n
theorem B.perm{n:Nat}{p p' :Array Nat}(hn:0<n)(h:B n p)(pm:p'.Perm p):B n p' :=fun x=>by
 by_cases hx:x<p'.size
 ·have e:p'.getD x 0=p'[x]:=by simp[Array.getD,hx]
  have hm:p'[x]∈p'.toList:=Array.getElem_mem_toList hx;have hm:=(Array.perm_iff_toList_perm.mp pm).mem_iff.mp hm;obtain⟨i,hi,z⟩:=List.getElem_of_mem hm;have:=h i;rw[Ig]at hi;rw[e,<-z]
  simpa [Array.getD,hi]using this
 ·have e:p'.getD x 0=0:=by simp[Array.getD,hx]
  rw[e];exact hn
section
variable{n:Nat}(hn:0<n)
include hn
theorem qk{p:Array Nat}(h:B n p):∀k m,Ok n (fun _=>True) (kas_asc p k m)
 | 0,_=>trivial
 | k+1,m=>⟨h _,h _,fun b=>by cases b<;>first|exact trivial|exact qk h k (m+1)⟩
theorem jI:∀(k:Nat)(p:Array Nat)(m q:Nat),B n p->Ok n (fun r=>B n r.1) (kas_desc k p m q)
 | 0,p,_,_,h=>h
 | k+1,p,m,q,h=>⟨h _,h _,fun b=>by
  cases b with
  | true =>
   show Ok n _ (if q>0 then kas_desc k (kas_rev p (m-(q+1)) m) (m+1) 0 else kas_desc k p (m+1) 0)
   split
   ·exact jI k _ _ _ (h.perm hn (KB _ _ _ _))
   ·exact jI k _ _ _ h
  | false=>exact⟨h _,h _,fun b=>by
    cases b
    ·exact jI k p (m+1) (q+1) h
    ·exact h⟩⟩
theorem oW{p:Array Nat}{m r:Nat}(h:B n p):Ok n (fun r=>B n r.2) (kas_tail3 m r p):=by
 unfold kas_tail3;refine Ok.bind (P:=fun _=>True) (fun _ _=> ?_) (qk hn (h.perm hn (KB _ _ _ _)) _ _);exact h.perm hn (KB _ _ _ _)
theorem iq{p:Array Nat}{m r:Nat}(h:B n p):Ok n (fun r=>B n r.2) (kas_descPart m r p):=by
 unfold kas_descPart;refine Ok.bind (P:=fun r=>B n r.1) (fun a ha=> ?_) (jI hn _ _ _ _ h)
 split
 ·exact oW hn (ha.perm hn (KB _ _ _ _))
 ·exact oW hn ha
theorem xG{p:Array Nat}{r:Nat}(h:B n p):Ok n (fun r=>B n r.2) (kas_count r p):=by
 unfold kas_count;refine Ok.bind (P:=fun _=>True) (fun a _=> ?_) (qk hn h _ _)
 split
 ·exact h
 ·split
  ·exact⟨h _,h _,fun b=>by
    cases b
    ·exact iq hn (h.perm hn (KB _ _ _ _))
    ·exact h⟩
  ·exact iq hn h
theorem ji{p:Array Nat}{m:Nat}(h:B n p):∀k l r,Ok n (fun _=>True) (kas_place p m k l r)
 | 0,_,_=>trivial
 | k+1,l,r=>by
  unfold kas_place
  split
  ·exact trivial
  ·exact⟨h _,h _,fun b=>by
    cases b
    ·exact ji h k _ _
    ·exact ji h k _ _⟩
theorem xH:∀(k:Nat)(p:Array Nat)(m:Nat),B n p->Ok n (fun p=>B n p) (kas_bin k p m)
 | 0,_,_,h=>h
 | k+1,p,m,h=>Ok.bind (fun l _=>xH k _ _ (h.perm hn (bubble_perm _ _ _))) (ji hn h _ _ _)
theorem AG:Ok n (fun p=>B n p) (kas_sort n):=by
 have h0:B n (List.toArray (List.range n)):=fun x=>by
  by_cases hx:x<n
  ·have:(List.toArray (List.range n)).getD x 0=x:=by simp[Array.getD,hx]
   omega
  ·have:(List.toArray (List.range n)).getD x 0=0:=by simp[Array.getD,hx]
   omega
 unfold kas_sort;refine Ok.bind (P:=fun r=>B n r.2) (fun r hr=> ?_) (xG hn h0)
 split
 ·exact xH hn _ _ _ hr
 ·exact hr
end
section
variable{prog:Program}{w:World}{A:Around}{E:Value->Shared->Prop}{s:Shared}
noncomputable def sk(key:Nat->Int)(vs:List Value):List Value:=(run (F key) (kas_sort vs.length)).toList.map fun i=>vs.getD i Value.none
theorem AA{key:Nat->Int}{vs:List Value}(h:1<=vs.length):(sk key vs).length=vs.length:=by
 unfold sk;rw[HX,(sort (key:=key) h).1.length_eq,IU]
theorem AR{a:Addr}{vs:List Value}{n:Nat}{κ:SortKind}{key:Nat->Int}{P:PySem.Fin->Shared->Prop}(ho:s.heap.get? a=some (seqObj "list" vs.toArray n))(h2:2<=vs.length)(h64:vs.length<64)
  (hk:∀(s1:Shared)(Q:SortKind->Shared->Prop),(∀b o,b≠a->s.heap.get? b=some o->s1.heap.get? b=some o)->Q κ s1->wpAny (model prog w) A (keyKind' vs.toArray) Q E s1)
  (hc:∀(s1:Shared) i j C,(∀b o,b≠a->s.heap.get? b=some o->s1.heap.get? b=some o)->i<vs.length->j<vs.length->C (F key i j) s1->kas_ask prog w A κ vs i j C s1)
  (h:P (.done (.ret .none)) {s with heap:=sortedHeap s.heap a vs (sk key vs).toArray}) :
  wpAny (model prog w) A (Builtin.«list.sort» ⟨[.ref a],[]⟩) P E s:=by
 have ha:a<s.heap.objs.size:=Hs ho;rw[list_sort_plain];refine HY (listItems_at ho rfl (HY (listUpdate_at ho rfl ?_ (by rw[Hu,Im];omega) (IN _))));obtain⟨e1,g1⟩:∃e1,(s.heap.update a (Obj.mapSeq fun _=>(#[]:Array Value))).get? a=some (seqObj "list" #[] e1):=⟨_,get?_update_seq ho fun _=> #[]⟩;refine HY (seqEpoch_at g1 rfl (HY (wpAny_newTuple ?_ (by show vs.length<=_;rw[Im];omega))));refine HY (wpAny_newList ?_ (IN _));refine Iv ?_;have g2:(((s.heap.update a (Obj.mapSeq fun _=>(#[]:Array Value))).push (seqObj "tuple" vs.toArray 0)).push (seqObj "list" #[] 0)).get? a=some (seqObj "list" #[] e1):=Ha _ (Ha _ g1)
 have old:∀b o,b≠a->s.heap.get? b=some o->(((s.heap.update a (Obj.mapSeq fun _=>(#[]:Array Value))).push (seqObj "tuple" vs.toArray 0)).push (seqObj "list" #[] 0)).get? b=some o:=fun b o nb e =>
  Ha _ (Ha _ (by rw[Iu _ _ (Ja nb)];exact e))
 show wpAny (model prog w) A _ P E {s with heap:=((s.heap.update a (Obj.mapSeq fun _=>(#[]:Array Value))).push (seqObj "tuple" vs.toArray 0)).push (seqObj "list" #[] 0)};dsimp only;have n2:¬vs.toArray.size<2:=by rw[Hu];omega
 rw[Hl n2,Hl n2];refine HY (hk _ _ old ?_)
 refine HY (JK (kat_run (Q:=fun st' s' =>∃p:Array Nat,p=run (F key) (kas_sort vs.length)/\s' ={s with heap:=((s.heap.update a (Obj.mapSeq fun _=>(#[]:Array Value))).push (seqObj "tuple" vs.toArray 0)).push (seqObj "list" #[] 0)}/\arrOf st' =p.map (kas_item (vs.toArray.zip vs.toArray))/\failedOf st' =none)
  (G:=fun p s' =>p=run (F key) (kas_sort vs.length)/\s' ={s with heap:=((s.heap.update a (Obj.mapSeq fun _=>(#[]:Array Value))).push (seqObj "tuple" vs.toArray 0)).push (seqObj "list" #[] 0)})
  rfl h2 h64 (fun p' st' s' _ a2 a3 a4=>⟨p',a4.1,a4.2,a2,a3⟩) ((AG (by omega)).wp (fun i j C hi hj q=>hc _ i j C old hi hj q) ⟨rfl,rfl⟩)) ?_ fun _ _ e=>e)
 rintro⟨⟨⟩,st'⟩ s' ⟨p,rfl,rfl,har,hf⟩;dsimp only;have hout:(arrOf st').map (·.2)=(sk key vs).toArray:=kat_snds rfl har;rw[hout];refine HY (seqEpoch_at g2 rfl ?_);refine HY (listUpdate_at g2 rfl ?_ (IN _) (by rw[Hu,AA (by omega),Im];omega));rw[hf];simp only[bne_self_eq_false,J4,if_false];exact Hq h
end
end SW
set_option maxHeartbeats 400000
namespace SW
open PySem PySem.W PyProof.Rows
noncomputable def dI(h:Heap)(v:Value)(q:Int×Int):Prop:=∃a t u,v=.ref a/\IsTup h a #[.int q.1 t,.int q.2 u]
theorem dI.keep{h h' :Heap}{v:Value}{q:Int×Int}(x:dI h v q)(k:∀b o,h.get? b=some o->h'.get? b=some o):dI h' v q:=by
 obtain⟨a,t,u,e,z⟩:=x;exact⟨a,t,u,e,z.keeps k⟩
noncomputable def dO(q:Int×Int):Int:=1000*q.1+q.2
section
variable{prog:Program}{w:World}{A:Around}{E:Value->Shared->Prop}{s:Shared}
theorem AQ{x y:Value}{p q:Int×Int}{C:Bool->Shared->Prop}(hx:dI s.heap x p)(hy:dI s.heap y q)(bp:0<=p.2/\p.2<1000)(bq:0<=q.2/\q.2<1000)(h:C (decide (dO p<dO q)) s):wpAny (model prog w) A (keyLt' (tuples' true) x y) C E s:=by
 obtain⟨a,t,u,rfl,o,ho,-,n,hd⟩:=hx;obtain⟨b,t',u',rfl,o',ho',-,n',hd'⟩:=hy;refine kat_lt ho hd ho' hd' ?_;unfold dO at h;refine kat_cons (wpAny_eqBool_int (kat_go (fun e=>kat_yes (kat_cons (wpAny_eqBool_int (kat_go (fun e2=>kat_yes (kat_nil ?_)) fun e2=>kat_no (kat_one _ _ (lt_int ?_)))))) fun e=>kat_no (oneLt_int ?_)))
 ·have e:=Jn.mp e
  have e2:=Jn.mp e2;rw[show decide (1000*p.1+p.2<1000*q.1+q.2)=false from Ij (by omega)]at h;exact h
 ·have e:=Jn.mp e
  show C (decide (p.2<q.2)) s;rw[show decide (1000*p.1+p.2<1000*q.1+q.2)=decide (p.2<q.2)from decide_eq_decide.mpr (by omega)]at h;exact h
 ·have e:p.1≠q.1:=fun z=>by rw[z]at e;simp at e
  rw[show decide (1000*p.1+p.2<1000*q.1+q.2)=decide (p.1<q.1)from decide_eq_decide.mpr (by omega)]at h;exact h
theorem qr{vs:List Value}{ps:List (Int×Int)}{Q:SortKind->Shared->Prop}(h1:1<=vs.length)(hp:Paired (dI s.heap) vs ps)(h:Q (tuples' true) s):wpAny (model prog w) A (keyKind' vs.toArray) Q E s:=by
 obtain⟨fs,hf,hl,hi⟩:∃fs,KatTups s.heap vs fs/\fs.length=vs.length/\∀v∈fs,∃i t,v=.int i t:=by
  clear h1 h
  induction hp with
  | nil=>exact⟨[],.nil,rfl,fun v hv=>by cases hv⟩
  | cons r _ ih =>
   obtain⟨fs,a1,a2,a3⟩:=ih;obtain⟨a,t,u,rfl,o,ho,hc,n,hd⟩:=r;refine⟨_,KatTups.cons ho hc hd rfl a1,by simp[a2],fun v hv=> ?_⟩
   rcases Hm.mp hv with z|z
   ·exact⟨_,_,z⟩
   ·exact a3 v z
 refine kat_kind (T:=.type "int") hf (by omega) (fun v hv=> ?_) (by decide) h;obtain⟨i,t,rfl⟩:=hi v hv;exact .now
theorem uN:∀{vs:List Value},vs.length<2->(vs.toArray.zip vs.toArray).map (·.2)=vs.toArray
 | [],_=>by simp
 | [_],_=>by simp
 | _::_::_,h=>absurd h (by simp)
theorem qN:∀{vs:List Value},vs.length<2->(List.range vs.length).map (fun i=>vs.getD i Value.none)=vs
 | [],_=>rfl
 | [_],_=>rfl
 | _::_::_,h=>absurd h (by simp)
theorem wK{f:Nat->Int}:∀{n:Nat},n<2->((List.range n).map f).Pairwise (·<=·)
 | 0,_=>.nil
 | 1,_=>by show([f 0]:List Int).Pairwise (·<=·);exact List.pairwise_singleton _ _
 | _+2,h=>absurd h (by omega)
theorem om{a:Addr}{vs:List Value}{n:Nat}{P:PySem.Fin->Shared->Prop}(ho:s.heap.get? a=some (seqObj "list" vs.toArray n))(h2:vs.length<2)
  (h:P (.done (.ret .none)) {s with heap:=sortedHeap s.heap a vs vs.toArray}):wpAny (model prog w) A (Builtin.«list.sort» ⟨[.ref a],[]⟩) P E s:=by
 rw[list_sort_plain];refine HY (listItems_at ho rfl (HY (listUpdate_at ho rfl ?_ (by rw[Hu,Im];omega) (IN _))));obtain⟨e1,g1⟩:∃e1,(s.heap.update a (Obj.mapSeq fun _=>(#[]:Array Value))).get? a=some (seqObj "list" #[] e1):=⟨_,get?_update_seq ho fun _=> #[]⟩;refine HY (seqEpoch_at g1 rfl (HY (wpAny_newTuple ?_ (by show vs.length<=_;rw[Im];omega))));refine HY (wpAny_newList ?_ (IN _));refine Iv ?_;have g2:(((s.heap.update a (Obj.mapSeq fun _=>(#[]:Array Value))).push (seqObj "tuple" vs.toArray 0)).push (seqObj "list" #[] 0)).get? a=some (seqObj "list" #[] e1):=Ha _ (Ha _ g1);show wpAny (model prog w) A _ P E {s with heap:=((s.heap.update a (Obj.mapSeq fun _=>(#[]:Array Value))).push (seqObj "tuple" vs.toArray 0)).push (seqObj "list" #[] 0)};dsimp only;have n2:vs.toArray.size<2:=by rw[Hu];exact h2
 rw[Hr n2,Hr n2];refine HY (Hq ?_);rw[StateT.run_pure];refine HY (Hq ?_);dsimp only;have hout:(arrOf (SortSt.mk' general' (vs.toArray.zip vs.toArray) #[] 7 none)).map (·.2)=vs.toArray:=by
  exact uN h2
 rw[hout];refine HY (seqEpoch_at g2 rfl ?_);refine HY (listUpdate_at g2 rfl ?_ (IN _) (by rw[Hu,Im];omega));simp only[bne_self_eq_false,J4,if_false];exact Hq h
theorem iJ{F:Value->Int×Int->Prop}:∀{vs:List Value}{ps:List (Int×Int)},Paired F vs ps->∀i,i<vs.length->F (vs.getD i Value.none) (ps.getD i (0,0))/\ps.getD i (0,0)∈ps
 | _,_,.cons r _,0,_=>⟨r,He⟩
 | _,_,.cons _ t,i+1,h=>by
  have:=iJ t i (by simpa using h);exact⟨this.1,HZ _ this.2⟩
theorem mE{l:Addr}{vs:List Value}{ps:List (Int×Int)}{Q:Value->Shared->Prop}(hl:s.heap.IsList l vs.toArray)(hp:Paired (dI s.heap) vs ps)(hb:∀q∈ps,0<=q.2/\q.2<1000)(h64:vs.length<64)
  (h:∀js:List Nat,js.Perm (List.range vs.length)->(js.map fun i=>dO (ps.getD i (0,0))).Pairwise (·<=·)->Q (.ref (s.heap.objs.size+1)) {s with heap:=sortedAll s.heap vs (js.map fun i=>vs.getD i Value.none).toArray}) :
  wpAny (model prog w) A (call (.builtin "sorted") [.ref l]) Q E s:=by
 refine Calls.call_function_entry kind_sorted plain_sorted entry_sorted (args_sorted1 _) ?_;unfold Builtin.«sorted»;refine HY (m:=checkCount "sorted" 1 1 _) (Hq ?_);refine HY (collect_list hl ?_ (by rw[Im];omega));refine HY (wpAny_newList ?_ (by rw[Im];omega));have hsz:((s.heap.push (seqObj "list" #[] 0)).update s.heap.objs.size (Obj.mapSeq (·++vs.toArray))).objs.size=s.heap.objs.size+1:=by rw[Heap.size_update,size_push']
 have hoL:(((s.heap.push (seqObj "list" #[] 0)).update s.heap.objs.size (Obj.mapSeq (·++vs.toArray))).push (seqObj "list" vs.toArray 0)).get? (s.heap.objs.size+1)=some (seqObj "list" vs.toArray 0):=by
  rw[<- hsz];exact Hv _ rfl
 have keep:∀b o,s.heap.get? b=some o->(((s.heap.push (seqObj "list" #[] 0)).update s.heap.objs.size (Obj.mapSeq (·++vs.toArray))).push (seqObj "list" vs.toArray 0)).get? b=some o:=fun b o e=>by
  have lt:b<s.heap.objs.size:=Hs e;refine Ha _ ?_;rw[Iu _ _ (JU lt)];exact Ha _ e
 show wpAny _ _ _ _ _ {s with heap:=((s.heap.push (seqObj "list" #[] 0)).update s.heap.objs.size (Obj.mapSeq (·++vs.toArray))).push (seqObj "list" vs.toArray 0)};rw[hsz]
 by_cases h2:vs.length<2
 ·refine HY (Iv (JF slot_list_sort ⟨_,hoL,rfl⟩ entry_list_sort (om hoL h2 ⟨_,rfl,?_⟩) (args_list_sort _)))
  have q:=h (List.range vs.length) (List.Perm.refl _) (wK h2);rw[qN h2]at q;exact Hq ⟨_,rfl,q⟩
 ·have hp2:∀s1:Shared,(∀b o,b≠s.heap.objs.size+1->(((s.heap.push (seqObj "list" #[] 0)).update s.heap.objs.size (Obj.mapSeq (·++vs.toArray))).push (seqObj "list" vs.toArray 0)).get? b=some o->s1.heap.get? b=some o)->∀{v:Value}{q:Int×Int},dI s.heap v q->dI s1.heap v q:=fun s1 k v q x =>
   x.keep fun b o e=>k b o (Hy (Iw (Hs e))) (keep b o e)
  refine HY (Iv (JF slot_list_sort ⟨_,hoL,rfl⟩ entry_list_sort (AR (κ:=tuples' true) (key:=fun i=>dO (ps.getD i (0,0))) hoL (by omega) h64 (fun s1 Q1 k q1=> ?_) (fun s1 i j C k hi hj c=> ?_) ⟨_,rfl,?_⟩) (args_list_sort _)))
  ·exact qr (ps:=ps) (by omega) (L2.Paired.mapP hp fun _ _ x=>hp2 s1 k x) q1
  ·obtain⟨x1,m1⟩:=iJ hp i hi
   obtain⟨x2,m2⟩:=iJ hp j hj;exact AQ (hp2 s1 k x1) (hp2 s1 k x2) (hb _ m1) (hb _ m2) c
  ·obtain⟨z1,z2⟩:=sort (key:=fun i=>dO (ps.getD i (0,0))) (n:=vs.length) (by omega)
   exact Hq ⟨_,rfl,h _ z1 z2⟩
end
end SW
namespace L2
open PySem PySem.Spec PyProof.Rows
inductive Ec(K:W.Frag)(H:Hp):List V->List (Int×Int)->Prop
 | nil:Ec K H [] []
 | cons {a:Addr} {q:Int×Int} {us:List V} {ps:List (Int×Int)} (h:cT K H a [.int q.1,.int q.2]) (t:Ec K H us ps):Ec K H (.ref a::us) (q::ps)
theorem Ec.len{K:W.Frag}{H:Hp}{us:List V}{ps:List (Int×Int)}(h:Ec K H us ps):us.length=ps.length:=by
 induction h with
 | nil=>rfl
 | cons _ _ ih=>simp[ih]
theorem aT.pick{us:List V}{vs:List Value}(r:aT us vs):∀{js:List Nat},(∀j∈js,j<us.length)->aT (js.map fun i=>us.getD i .non) (js.map fun i=>vs.getD i Value.none)
 | [],_=>.nil
 | j::js,h=>by
  have hj:=h j He;obtain⟨v,hv,rv⟩:=r.get (i:=j) (x:=us[j]) (Hd hj);refine .cons ?_ (aT.pick r fun i hi=>h i (HZ _ hi));dsimp only;rw[Hc,Hd hj,Hc,hv];exact rv
section
variable{X:Cx}
theorem hJ:bI X (.builtin "sorted") (fun xs H Q=>∃(p:Addr)(us:List V)(ps:List (Int×Int)),xs=[.ref p]/\bB X.K H p us/\Ec X.K H us ps/\us.length<64/\(∀q∈ps,0<=q.2/\q.2<1000) /\
  ∀a (js:List Nat),H a=none->js.Perm (List.range us.length)->(js.map fun i=>SW.dO (ps.getD i (0,0))).Pairwise (·<=·)->Q (.ref a) (upd H a (.lst (js.map fun i=>us.getD i .non)))):=by
 intro pins s σ H xs us Q I r h;obtain⟨p,ws,ps,rfl,hq,hp,h64,hb,q⟩:=h;obtain⟨u,rfl,rx⟩:=vals1 r;cases rx;obtain⟨its,r',pl,hz⟩:=I.list hq;have hlen:=r'.length;have pr:Paired (SW.dI s.heap) its ps:=by
  clear q hb h64 hq pl hz hlen
  induction hp generalizing its with
  | nil =>
   cases r';exact .nil
  | cons ht _ ih =>
   cases r' with
   | cons rv t =>
    refine .cons ?_ (ih _ t);cases rv;obtain⟨ys,ry,tp,_⟩:=I.tuple ht;obtain⟨y1,y2,rfl,e1,e2⟩:=vals2 ry;obtain⟨t1,rfl⟩:=e1;obtain⟨t2,rfl⟩:=e2;exact⟨_,t1,t2,rfl,tp⟩
 refine SW.mE pl.isList pr hb (by omega) fun js pm pw=> ?_;obtain⟨c,hc⟩:=sortedAll_at s.heap its (js.map fun i=>its.getD i Value.none).toArray;rw[<- hlen]at pm;refine⟨.ref (s.heap.objs.size+1),_,I.laid (t' :=s.toks) (o:=.lst (js.map fun i=>ws.getD i .non)) (fun b o z=>sortedAll_old z) (KM _) ?_,rfl,q _ js (I.hok.fresh (KM _)) pm pw⟩;refine⟨?_,js.map fun i=>its.getD i Value.none,c,aT.pick r' fun j hj=>Ii.mp (pm.mem_iff.mp hj),by simpa [seqObj]using hc⟩;rw[HX,pm.length_eq,IU,Im];omega
end
end L2
namespace SR
open PySem PyProof.Rows
section
variable{prog:Program}{w:World}{A:Around}{E:Value->Shared->Prop}{s:Shared}
end
end SR
set_option maxHeartbeats 800000
namespace SR
open PySem PyProof.Rows
noncomputable def yb(I t:Addr)(i:Int)(h:Heap):Prop:=∃o,h.get? I=some o/\o.cls=.type "reversed"/\o.data=.fields #[.ref t,rawInt i]
theorem yb.typeIs{I t:Addr}{i:Int}{s:Shared}(x:yb I t i s.heap):s.TypeIs (.ref I) "reversed":=let⟨o,ho,hc,_⟩:=x;⟨o,ho,hc⟩
theorem yb.keep{I t:Addr}{i:Int}{h h' :Heap}(x:yb I t i h)(k:∀o,h.get? I=some o->h'.get? I=some o):yb I t i h' :=let⟨o,ho,r⟩:=x;⟨o,k o ho,r⟩
section
variable{prog:Program}{w:World}{A:Around}{E:Value->Shared->Prop}{s:Shared}
end
end SR
namespace L2
open PySem PySem.Spec PyProof.Rows
section
variable{X:Cx}
end
end L2
set_option maxHeartbeats 4000000
namespace L2
open PySem PySem.Spec PyProof.Rows
section
variable{X:Cx}
end
end L2
namespace L2
open PySem PySem.Spec PyProof.Rows PySem.W
section
variable{X:Cx}
theorem AX{kvs:List (ag×V)}{vs:List (ag×Value)}(r:KV kvs vs):aT (kvs.map (·.2)) (vs.map (·.2)):=by
 induction r with
 | nil=>exact .nil
 | cons a t ih=>exact .cons a.2 ih
theorem kF(hc:X.calm=true):bI X (.type "list") (fun xs H Q=>∃(p a:Addr)(kvs:List (ag×V)),xs=[.ref p]/\H p=some (kI p a)/\H a=some (.dK kvs)/\kvs.length<=sizeLine/\∀b,H b=none->Q (.ref b) (upd H b (.lst (kvs.map (·.2))))):=by
 intro pins s σ H xs us Q I r h;obtain⟨p,a,kvs,rfl,hp,ha,hz,q⟩:=h;obtain⟨u,rfl,rx⟩:=vals1 r;cases rx;obtain⟨z,hd,vs,rel,dd⟩:=lT I.hok ha;obtain⟨ep,da⟩:=dd.dictAt;obtain⟨hv,_⟩:=(show am X.prog X.w H s.heap p (kI p a)from I.hok p _ hp);have hl:kvs.length=vs.length:=rel.length;refine kdl_call (kdl_values (r:=p) (d:=a) (kvs:=vs) (ep:=ep)) (I.ok.hd hc) ⟨hv,da⟩ (by omega) fun h' tk acc' c' hk hD hacc=> ?_;have e:acc'.toList=vs.map (·.2):=by
  refine Jf fun i=> ?_;rw[Ho]
  by_cases hi:i<acc'.size
  ·obtain⟨k,e⟩:=hacc.2 i acc'[i] (by simp[hi])
   rw[e,JL,Array.getElem?_eq_getElem hi];rfl
  ·have:=hacc.1
   rw[IV (by rw[Ig];omega),IV (by omega)];rfl
 refine⟨.ref s.heap.objs.size,_,I.laid (a:=s.heap.objs.size) (o:=.lst (kvs.map (·.2))) (t' :=tk) (fun b o z=>hk b o z) (Hg _) ⟨by rw[HX];exact hz,vs.map (·.2),c',AX rel,?_⟩,rfl,q _ (I.hok.fresh (Hg _))⟩;rw[<- e,hD]
end
end L2
set_option genInjectivity false
namespace IR
open PySem
noncomputable abbrev ag:=L2.ag
inductive PV where
 | non|bl (b:Bool)|int (i:Int)|str (z:Str)|lst (xs:List PV)|tup (xs:List PV)|dK (ks:List ag) (vs:List PV)|dT (ks:List (List ag)) (vs:List PV)
instance:Inhabited PV:=⟨.non⟩
mutual
noncomputable def imm:PV->Bool
 | .non=>true| .bl _=>true| .int _=>true| .str _=>true
 | .lst _=>false
 | .tup xs=>imms xs
 | .dK _ _=>false| .dT _ _=>false
noncomputable def imms:List PV->Bool
 | []=>true
 | x::xs=>imm x&&imms xs
end
inductive Bf where
 | len|int|str|list|tuple|sorted|min|max|sum|abs|all|any|lrange|lrange2|isin (t:String)|sumv|sset|lset|trev|lvals
inductive Bm where
 | join|split|count|index|get|jrev
mutual
inductive IE where
 | con (v:PV)|var (i:Nat)|bin (op:Operator) (a b:IE)|neg (a:IE)|cmp (op:CmpOp) (a b:IE)
 | and (a b:IE)|or (a b:IE)|not (a:IE)|ite (c:IC) (a b:IE)
 | call (f:Nat) (es:yr)|bf (f:Bf) (es:yr)|mth (m:Bm) (o:IE) (es:yr)
 | lst (es:yr)|tup (es:yr)|dnew|dlit (k:ag) (e:IE)|ix (a i:IE)|sl (a:IE) (lo hi:IO)
 | lc (elt:IE) (src:IT) (ifs:Ej) (caps:List Nat)|lc2 (elt:IE) (src:IT) (ifs:Ej) (caps:List Nat)|lcs (a:IE)|never
inductive yr where
 | nil|cons (e:IE) (es:yr)
inductive IO where
 | no|yes (e:IE)
inductive IC where
 | val (e:IE)|not (c:IC)|and (c d:IC)|or (c d:IC)
inductive Ej where
 | no|yes (c:IC)
inductive IT where
 | seq (e:IE)|rng (es:yr)|zip (a b:IE)|enum (a:IE)|never
end
mutual
inductive IS where
 | asg (i:Nat) (o:Bool) (cap:List Nat) (e:IE)|unp (is:List Nat) (cap:List Nat) (e:IE)|ret (cap:List Nat) (e:IE)|retN|ife (c:IC) (a b:vP)
 | forr (is:List Nat) (one:Bool) (cap:List Nat) (src:IT) (body:vP)|whil (c:IC) (body:vP)|pass|brk|cont
 | app (i:Nat) (cap:List Nat) (e:IE)|ins (i:Nat) (k e:IE)|drop (e:IE)|aug (i:Nat) (op:Operator) (e:IE)|hand (m:Nat) (g:List PV->Option PV)|never
inductive vP where
 | nil|cons (s:IS) (ss:vP)
end
inductive Bd where
 | lst|dK (ks:List ag)|dT (ks:List (List ag))
noncomputable def Bd.pv:Bd->List PV->PV
 | .lst,xs=>.lst xs
 | .dK ks,xs=>.dK ks xs
 | .dT ks,xs=>.dT ks xs
section
variable{κ α:Type}[DecidableEq κ]
noncomputable def i8:List κ->List α->κ->Option α
 | k' ::ks,x::xs,k=>if k' =k then some x else i8 ks xs k
 | _,_,_=>none
noncomputable def Fu:List κ->List α->κ->α->List α
 | k' ::ks,x::xs,k,y=>(if k' =k then y else x)::Fu ks xs k y
 | _,xs,_,_=>xs
noncomputable def putL(ks:List κ)(xs:List α)(k:κ)(y:α):List α:=if k∈ks then Fu ks xs k y else xs++[y]
noncomputable def F2(ks:List κ)(k:κ):List κ:=if k∈ks then ks else ks++[k]
end
noncomputable def jp:PV->Option ag
 | .int i=>some (.inl i)
 | .str z=>some (.inr z)
 | _=>none
noncomputable def xX:List PV->Option (List ag)
 | []=>some []
 | x::xs=>(jp x).bind fun k=>(xX xs).map (k::·)
inductive TV where
 | un|frz (v:PV) (n:Bool)|own (xs:List PV) (n:Bool)|owd (b:Bd) (xs:List PV) (n:Bool)
noncomputable def TV.ob:TV->Option (Bd×List PV×Bool)
 | .own xs n=>some (.lst,xs,n)
 | .owd b xs n=>some (b,xs,n)
 | _=>none
noncomputable abbrev En:=List TV
noncomputable def TV.valD:TV->PV
 | .frz v _=>v
 | _=>.non
inductive RV where
 | frz (v:PV) (n:Bool)|bor (v:PV)|own (xs:List PV) (n:Bool)|owd (b:Bd) (xs:List PV) (n:Bool)
noncomputable def RV.val:RV->PV
 | .frz v _=>v
 | .bor v=>v
 | .own xs _=>.lst xs
 | .owd b xs _=>b.pv xs
noncomputable abbrev sc(v:PV):RV:=.frz v true
noncomputable def RV.keep:RV->Option (PV×Bool)
 | .frz v n=>some (v,n)
 | .bor v=>if imm v then some (v,true)else none
 | .own xs n=>some (.lst xs,n)
 | .owd b xs n=>some (b.pv xs,n)
noncomputable def jm(v:PV):RV:=if imm v then .frz v true else .bor v
noncomputable def RV.its:RV->Option (List PV×Bool)
 | .frz (.lst xs) n=>some (xs,n)
 | .frz (.tup xs) n=>some (xs,n)
 | .own xs n=>some (xs,n)
 | .bor (.lst xs)=>if imms xs then some (xs,true)else none
 | .bor (.tup xs)=>if imms xs then some (xs,true)else none
 | _=>none
noncomputable abbrev LN:Nat:=16777216
open L2 (xg dH)
noncomputable def signs(z:Str):List PV:=z.cps.toList.map fun c=>.str ⟨#[c]⟩
noncomputable def uY(xs:List PV)(n:Bool):Option RV:=if xs.length<=LN then some (.own xs n)else none
noncomputable def uX(xs:List PV)(n:Bool):Option RV:=if xs.length<=LN then some (.frz (.tup xs) n)else none
noncomputable def rY(a b:RV):Option RV :=
 match a.val,b.val with
 | .int i,.int j=>some (sc (.int (i+j)))
 | .str x,.str y=>if x.length+y.length<=LN then some (sc (.str (x++y)))else none
 | _,_=>none
noncomputable def rW(a b:RV):Option RV :=
 match a.val,b.val with
 | .int i,.int j=>some (sc (.int (i-j)))
 | _,_=>none
noncomputable def nF(a b:RV):Option RV :=
 match a.val,b.val with
 | .int i,.int j=>if(-(2^64)<i/\i<2^64)\/(-(2^64)<j/\j<2^64)then some (sc (.int (i*j)))else if i.natAbs<2^2000/\j.natAbs<2^2000 then some (sc (.int (i*j)))else none
 | _,_=>none
noncomputable def eS(a b:RV):Option RV :=
 match a.val,b.val with
 | .int i,.int j=>if 0<j/\j<2^200 then some (sc (.int (i/j)))else none
 | _,_=>none
noncomputable def rX(a b:RV):Option RV :=
 match a.val,b.val with
 | .int i,.int j=>if 0<j then some (sc (.int (i%j)))else none
 | _,_=>none
noncomputable def iZ(a b:RV):Option RV :=
 match a.val,b.val with
 | .int i,.int j=>if 0<=j/\j<=1000000/\i.natAbs<2^64 then some (sc (.int (i*2^j.toNat)))else none
 | _,_=>none
noncomputable def fm(op:Operator)(a b:RV):Option RV:=match op with
 | .Add=>rY a b
 | .Sub=>rW a b
 | .Mult=>nF a b
 | .FloorDiv=>eS a b
 | .Mod=>rX a b
 | .LShift=>iZ a b
 | _=>none
noncomputable def pE:PV->Bool
 | .non=>true| .bl _=>true| .int _=>true| .str _=>true|_=>false
noncomputable def eqs:PV->PV->Option Bool
 | .int i,.int j=>some (decide (i=j))
 | .str i,.str j=>some (decide (i=j))
 | .bl i,.bl j=>some (decide (i=j))
 | .non,.non=>some true
 | .non,.int _=>some false| .non,.bl _=>some false| .non,.str _=>some false| .int _,.non=>some false| .bl _,.non=>some false| .str _,.non=>some false
 | .int _,.str _=>some false| .str _,.int _=>some false| .bl _,.str _=>some false| .str _,.bl _=>some false
 | _,_=>none
noncomputable def Ak:PV->PV->Bool
 | .int i,.int j=>decide (i=j)
 | .str i,.str j=>decide (i=j)
 | .bl i,.bl j=>decide (i=j)
 | .bl b,.int j=>decide ((if b then 1 else 0:Int)=j)
 | .int j,.bl b=>decide (j=(if b then 1 else 0:Int))
 | .non,.non=>true
 | _,_=>false
mutual
noncomputable def pL:PV->PyData
 | .non=>.none
 | .bl b=>.bool b
 | .int i=>.int i
 | .str z=>.str z
 | .lst xs=>.list (eA xs)
 | .tup xs=>.tuple (eA xs)
 | .dK _ _=>.dict []
 | .dT _ _=>.dict []
noncomputable def eA:List PV->List PyData
 | []=>[]
 | x::xs=>pL x::eA xs
end
mutual
noncomputable def nM:PV->PV->Bool
 | .lst xs,.lst ys=>mw xs ys
 | .tup xs,.tup ys=>mw xs ys
 | a,b=>Ak a b
noncomputable def mw:List PV->List PV->Bool
 | [],[]=>true
 | x::xs,y::ys=>nM x y&&mw xs ys
 | [],_::_=>false
 | _::_,[]=>false
end
noncomputable def lO:Nat->PV->Bool
 | _,.non=>true
 | _,.bl _=>true
 | _,.int _=>true
 | _,.str z=>PyData.strOk z
 | 0,.lst _=>false
 | 0,.tup _=>false
 | n+1,.lst xs=>xs.all (lO n)
 | n+1,.tup xs=>xs.all (lO n)
 | _,.dK _ _=>false
 | _,.dT _ _=>false
noncomputable def Bp(x y:PV):Option Bool:=match eqs x y with
 | some b=>some b
 | none=>if lO 12 x&&lO 12 y then some (nM x y)else none
noncomputable def xk(x:PV)(ys:List PV):Option Bool :=
 if pE x/\ys.all pE then some (ys.any fun y=>Ak y x)else if lO 12 x&&ys.all (lO 12)then some (ys.any fun y=>nM y x)else none
noncomputable def yL(a b:PV):Option Bool :=
 match a,b with
 | .int i,.int j=>some (decide (i<j))
 | _,_=>none
noncomputable def rK(a b:PV):Option Bool :=
 match a,b with
 | .int i,.int j=>some (decide (i<=j))
 | _,_=>none
noncomputable def yO(a b:PV):Option Bool :=
 match a,b with
 | .int i,.int j=>some (decide (j<i))
 | _,_=>none
noncomputable def rL(a b:PV):Option Bool :=
 match a,b with
 | .int i,.int j=>some (decide (j<=i))
 | _,_=>none
noncomputable def yM(a b:PV):Option Bool :=
 match a,b with
 | .non,.non=>some true
 | x,.non=>some false
 | _,_=>none
noncomputable def yN(a b:PV):Option Bool :=
 match a,b with
 | x,.lst ys=>xk x ys
 | _,_=>none
noncomputable def kD(a b:PV):Option Bool :=
 match a,b with
 | x,.lst ys=>(xk x ys).map (!·)
 | _,_=>none
noncomputable def bX(op:CmpOp)(a b:PV):Option Bool:=match op with
 | .Lt=>yL a b
 | .LtE=>rK a b
 | .Gt=>yO a b
 | .GtE=>rL a b
 | .Eq=>Bp a b
 | .NotEq=>(Bp a b).map (!·)
 | .Is=>yM a b
 | .In=>yN a b
 | .NotIn=>kD a b
 | _=>none
noncomputable def n9:PV->Option Bool
 | .non=>some false
 | .bl b=>some b
 | .int i=>some (i !=0)
 | .str z=>if z.length<=LN then some ((z.length:Int) !=0)else none
 | .lst xs=>some !xs.isEmpty
 | .tup xs=>some !xs.isEmpty
 | .dK ks _=>some !ks.isEmpty
 | .dT _ _=>none
noncomputable def gk:PV->Option Nat
 | .str z=>if z.length<=LN then some z.length else none
 | .lst xs=>some xs.length
 | .tup xs=>some xs.length
 | .dK ks _=>some ks.length
 | _=>none
noncomputable def fD(t:String):PV->Option Bool
 | .non=>if t="int"\/t="str"\/t="list"\/t="tuple"\/t="bool" then some false else none
 | .bl _=>if t="int"\/t="bool" then some true else if t="str"\/t="list"\/t="tuple" then some false else none
 | .int _=>if t="int" then some true else if t="bool"\/t="str"\/t="list"\/t="tuple" then some false else none
 | .str _=>if t="str" then some true else if t="bool"\/t="int"\/t="list"\/t="tuple" then some false else none
 | .lst _=>if t="list" then some true else if t="bool"\/t="int"\/t="str"\/t="tuple" then some false else none
 | .tup _=>if t="tuple" then some true else if t="bool"\/t="int"\/t="str"\/t="list" then some false else none
 | .dK _ _=>if t="bool"\/t="int"\/t="str"\/t="list"\/t="tuple" then some false else none
 | .dT _ _=>none
noncomputable def lX:List PV->Option (List Bool)
 | []=>some []
 | .bl b::r=>(lX r).map (b::·)
 | _::_=>none
noncomputable def bV:List PV->Option (List Str)
 | []=>some []
 | .str z::r=>(bV r).map (z::·)
 | _::_=>none
noncomputable def aN:List PV->Option (List Int)
 | []=>some []
 | .int i::r=>(aN r).map (i::·)
 | _::_=>none
noncomputable def gG(sep:Str):List Str->Str
 | []=>⟨#[]⟩
 | [x]=>x
 | x::y::r=>x++sep++gG sep (y::r)
noncomputable def lrng(n:Nat):List PV:=(List.range n).map fun i=>.int (i:Nat)
noncomputable def wj:PV->Option (Int×Int)
 | .tup xs=>(aN xs).bind fun ns=>match ns with
  | [a,b]=>some (a,b)
  | _=>none
 | _=>none
noncomputable def gc:List PV->Option (List (Int×Int))
 | []=>some []
 | x::r=>(wj x).bind fun q=>(gc r).map (q::·)
noncomputable def kM(q:Int×Int):PV:=.tup [.int q.1,.int q.2]
noncomputable def dL(ps:List (Int×Int)):List (Int×Int):=ps.mergeSort fun a b=>decide (SW.dO a<=SW.dO b)
noncomputable def oC(xs:List PV):Option RV:=(gc xs).bind fun ps=>if ps.length<64/\ps.all (fun q=>decide (0<=q.2)&&decide (q.2<1000))=true then some (.own ((dL ps).map kM) true)else none
noncomputable def fZ(xs:List PV):Option RV:=match aN xs with
 | some ns=>if ns.length<64 then some (.own ((L2.sortI ns).map PV.int) true)else none
 | none=>oC xs
noncomputable def iH:PV->Option (List Int)
 | .lst xs=>(aN xs).bind fun ns=>if ns.all (fun n=>decide (0<=n)&&decide (n<8))=true then some ns else none
 | _=>none
noncomputable def revT(a:RV):Option RV:=match a.val with
 | .tup _=>(match a.its with
  | some (xs,n)=>if xs.isEmpty then none else some (.frz (.tup xs.reverse) n)
  | none=>none)
 | _=>none
noncomputable def strI:PV->Option RV
 | .int i=>if i.natAbs.log2<1920 then some (sc (.str (Str.ofString (toString i))))else none
 | _=>none
noncomputable def Db(x:PV)(xs:List PV):Option RV:=if xs.all (lO 12)&&lO 12 x then(xs.findIdx? fun y=>nM y x).map fun j=>sc (.int (j:Nat))else none
noncomputable def Bl:PV->Option RV
 | .dK ks vs=>if ks.length<=LN then(aN vs).map fun ns=>.own (ns.map PV.int) true else none
 | _=>none
noncomputable def ia(f:Bf)(as:List RV):Option RV :=
 match f,as with
 | .len,[a]=>(gk a.val).map fun n=>sc (.int (n:Nat))
 | .int,[a]=>match a.val with
  | .int i=>some (sc (.int i))
  | .bl b=>some (sc (.int (if b then 1 else 0)))
  | _=>none
 | .list,[a]=>match a.its with
  | some (xs,n)=>some (.own xs n)
  | none=>none
 | .tuple,[a]=>match a.its with
  | some (xs,n)=>some (.frz (.tup xs) n)
  | none=>none
 | .all,[a]=>match a.val with
  | .lst xs=>(lX xs).map fun bs=>sc (.bl (bs.all id))
  | _=>none
 | .sum,[a]=>match a.val with
  | .lst xs=>(aN xs).map fun ns=>sc (.int ns.sum)
  | _=>none
 | .sorted,[a]=>match a.val with
  | .lst xs=>fZ xs
  | _=>none
 | .sumv,[a]=>match a.val with
  | .dK _ vs=>(aN vs).map fun ns=>sc (.int ns.sum)
  | _=>none
 | .sset,[a]=>(iH a.val).map fun ns=>.own ((L2.dz ns).map PV.int) true
 | .lset,[a]=>(iH a.val).map fun ns=>sc (.int ((L2.dz ns).length:Nat))
 | .trev,[a]=>revT a
 | .lvals,[a]=>Bl a.val
 | .str,[a]=>strI a.val
 | .isin t,[a]=>(fD t a.val).map fun b=>sc (.bl b)
 | .min,[a,b]=>match a.val,b.val with
  | .int i,.int j=>some (sc (.int (if j<i then j else i)))
  | _,_=>none
 | .max,[a,b]=>match a.val,b.val with
  | .int i,.int j=>some (sc (.int (if j>i then j else i)))
  | _,_=>none
 | .lrange,[a]=>match a.val with
  | .int i=>if 0<=i/\i<=1000 then some (.own (lrng i.toNat) true)else none
  | _=>none
 | .lrange2,[a,b]=>match a.val,b.val with
  | .int i,.int j=>if -1000<=i/\j<=1000/\i<=j then some (.own ((List.range (j-i).toNat).map fun k=>.int (i+(k:Nat))) true)else none
  | _,_=>none
 | _,_=>none
noncomputable def uZ(m:Bm)(o:RV)(as:List RV):Option RV :=
 match m,o.val,as with
 | .join,.str sep,[a]=>match a.val with
  | .lst xs=>(bV xs).bind fun ys=>if(ys.map (·.length)).sum+ys.length*sep.length<=LN then some (sc (.str (gG sep ys)))else none
  | .tup xs=>(bV xs).bind fun ys=>if(ys.map (·.length)).sum+ys.length*sep.length<=LN then some (sc (.str (gG sep ys)))else none
  | _=>none
 | .jrev,.str sep,[a]=>match a.val with
  | .str z=>if sep.cps= #[]/\0<z.length/\z.length<=LN then some (sc (.str ⟨z.cps.toList.reverse.toArray⟩))else none
  | _=>none
 | .count,.str z,[a]=>match a.val with
  | .str y=>some (sc (.int (Txt.count z y)))
  | _=>none
 | .index,.tup xs,[a]=>Db a.val xs
 | .get,.dK ks vs,[a,d]=>(jp a.val).bind fun k=>match i8 ks vs k with
  | some e=>(match o with
   | .frz _ n=>some (.frz e (n||imm e))
   | .bor _=>some (jm e)
   | _=>none)
  | none=>some d
 | _,_,_=>none
noncomputable def index(a i:RV):Option RV :=
 match a,i.val with
 | .frz (.lst xs) n,.int k=>(dH xs k).map fun e=>.frz e (n||imm e)
 | .frz (.tup xs) n,.int k=>(dH xs k).map fun e=>.frz e (n||imm e)
 | .own xs n,.int k=>(dH xs k).map fun e=>.frz e (n||imm e)
 | .bor (.lst xs),.int k=>(dH xs k).map jm
 | .bor (.tup xs),.int k=>(dH xs k).map jm
 | .frz (.str z) _,.int k=>if z.length<=LN then(dH z.cps.toList k).map fun c=>sc (.str ⟨#[c]⟩)else none
 | .frz (.dK ks vs) n,y=>(jp y).bind fun k=>(i8 ks vs k).map fun e=>.frz e (n||imm e)
 | _,_=>none
noncomputable def cut{α:Type}(xs:List α)(lo hi:Option Int):List α:=(xs.drop (HT.kq xs.length 0 lo)).take (HT.kq xs.length xs.length hi-HT.kq xs.length 0 lo)
noncomputable def slice(a:RV)(lo hi:Option Int):Option RV :=
 match a.val with
 | .lst _=>match a.its with
  | some (xs,n)=>some (.own (cut xs lo hi) (n||imms xs))
  | none=>none
 | _=>none
noncomputable def keeps:List RV->Option (List PV×Bool)
 | []=>some ([],true)
 | r::rs=>r.keep.bind fun(v,n)=>(keeps rs).map fun(vs,m)=>(v::vs,n&&m)
noncomputable def mj(τ:En)(i:Nat):Option RV :=
 match τ[i]? with
 | some (.frz v n)=>some (.frz v n)
 | some (.own xs _)=>some (.bor (.lst xs))
 | some (.owd b xs _)=>some (.bor (b.pv xs))
 | _=>none
noncomputable def oz:Option RV->Option (Option Int)
 | none=>some none
 | some r=>match r.val with
  | .int i=>some (some i)
  | _=>none
noncomputable def bL(f:PV->Option (Option (PV×Bool))):List PV->Option (List PV×Bool)
 | []=>some ([],true)
 | x::xs=>(f x).bind fun r=>(bL f xs).map fun(vs,m)=>match r with
  | none=>(vs,m)
  | some (v,n)=>(v::vs,n&&m)
noncomputable def jg:PV->Option (PV×PV)
 | .tup [a,b]=>some (a,b)
 | _=>none
noncomputable def iI:List RV->Option (List PV)
 | [a]=>match a.val with
  | .int j=>if -(2^62)<=j/\j<2^62 then some ((List.range j.toNat).map fun i=>.int (0+(i:Nat)))else none
  | _=>none
 | [a,b]=>match a.val,b.val with
  | .int i,.int j=>if -(2^62)<=i/\i<2^62/\ -(2^62)<=j/\j<2^62 then some ((List.range (j-i).toNat).map fun k=>.int (i+(k:Nat)))else none
  | _,_=>none
 | [a,b,c]=>match a.val,b.val,c.val with
  | .int i,.int j,.int k=>if k≠0/\k.natAbs<1073741824/\Builtin.Range.small i j k=true then some ((List.range (Builtin.Range.rangeSize i j k).toNat).map fun m=>.int (i+(m:Nat)*k))else none
  | _,_,_=>none
 | _=>none
noncomputable def DY:PV->Option Int
 | .int i=>some i
 | _=>none
noncomputable def iz:PV->Option Bool
 | .bl b=>some b
 | _=>none
noncomputable def ko(x:RV):Option (List PV×Bool×Bool):=match x with
  | .frz (.str z) _=>some (signs z,true,false)
  | .bor (.lst xs)=>if imms xs then some (xs,true,true)else none
  | .bor (.tup xs)=>if imms xs then some (xs,true,true)else none
  | .bor _=>none
  | r=>r.its.map fun(xs,n)=>(xs,n,false)
noncomputable def sj(x y:PV):PV:=.tup [x,y]
noncomputable def jB(i:Nat)(x:PV):PV:=.tup [.int (i:Nat),x]
noncomputable def xP:RV->Option (List PV×Bool)
 | .frz (.lst xs) n=>some (xs,n)
 | .own xs n=>some (xs,n)
 | _=>none
noncomputable def vg(x y:RV):Option (List PV×Bool) :=
 match xP x,xP y with
 | some (xs,n),some (ys,m)=>if xs.length=ys.length then some (List.zipWith sj xs ys,n&&m)else none
 | _,_=>none
noncomputable def pH(x:RV):Option (List PV×Bool) :=
 match x with
 | .frz (.str z) _=>some (List.zipWith jB (List.range z.length) (signs z),true)
 | .frz (.tup xs) n=>some (List.zipWith jB (List.range xs.length) xs,n)
 | x=>match xP x with
  | some (xs,n)=>some (List.zipWith jB (List.range xs.length) xs,n)
  | none=>none
noncomputable def yq:List ag->List PV->Option (List (Int×Int))
 | [],[]=>some []
 | .inl k::ks,.int v::vs=>(yq ks vs).map ((k,v)::·)
 | _,_=>none
noncomputable def ue:RV->Option RV
 | .frz (.dK ks vs) _=>if ks.length<=LN then(yq ks vs).map fun qs=>.own (qs.map fun q=>.tup [.int q.2,.int q.1]) true else none
 | _=>none
section
variable(cd:Nat->List PV->Option PV)
noncomputable def told:PV->RV
 | .lst xs=>.own xs true
 | v=>.frz v true
mutual
noncomputable def aV:IE->En->Option RV
 | .con v,_=>some (sc v)
 | .var i,τ=>mj τ i
 | .bin op a b,τ=>(aV a τ).bind fun x=>(aV b τ).bind fun y=>fm op x y
 | .neg a,τ=>(aV a τ).bind fun x=>(DY x.val).map fun i=>sc (.int (-i))
 | .cmp op a b,τ=>(aV a τ).bind fun x=>(aV b τ).bind fun y=>(bX op x.val y.val).map fun r=>sc (.bl r)
 | .and a b,τ=>(aV a τ).bind fun x=>(iz x.val).bind fun t=>if t then aV b τ else some (sc (.bl false))
 | .or a b,τ=>(aV a τ).bind fun x=>(iz x.val).bind fun t=>if t then some (sc (.bl true))else aV b τ
 | .not a,τ=>(aV a τ).bind fun x=>(iz x.val).map fun b=>sc (.bl !b)
 | .ite c a b,τ=>(eO c τ).bind fun r=>if r then aV a τ else aV b τ
 | .call f es,τ=>(bg es τ).bind fun rs=>(cd f (rs.map RV.val)).map told
 | .bf f es,τ=>(bg es τ).bind fun rs=>ia f rs
 | .mth m o es,τ=>(aV o τ).bind fun x=>(bg es τ).bind fun rs=>uZ m x rs
 | .lst es,τ=>(bg es τ).bind fun rs=>(keeps rs).bind fun(vs,n)=>uY vs n
 | .tup es,τ=>(bg es τ).bind fun rs=>(keeps rs).bind fun(vs,n)=>uX vs n
 | .dnew,_=>some (.owd (.dK []) [] true)
 | .dlit k e,τ=>(aV e τ).bind fun r=>r.keep.bind fun(v,_)=>if imm v then some (.owd (.dK [k]) [v] true)else none
 | .ix a i,τ=>(aV a τ).bind fun x=>(aV i τ).bind fun y=>index x y
 | .sl a lo hi,τ=>(aV a τ).bind fun x=>(Dt lo τ).bind fun l=>(Dt hi τ).bind fun h=>(oz l).bind fun l' =>(oz h).bind fun h' =>slice x l' h'
 | .lc elt src ifs caps,τ=>(mr src τ).bind fun(xs,n,_)=>if xs.length<=LN then(bL (fun x=>(iS ifs (.frz x (n||imm x)::caps.map fun i=>τ.getD i .un)).bind fun b =>
   if b then(aV elt (.frz x (n||imm x)::caps.map fun i=>τ.getD i .un)).bind fun r=>r.keep.map some else some none) xs).map fun(vs,m)=>.own vs m else none
 | .lc2 elt src ifs caps,τ=>(mr src τ).bind fun(xs,n,_)=>if xs.length<=LN then(bL (fun x=>(jg x).bind fun(a,b)=>(iS ifs (.frz a (n||imm a)::.frz b (n||imm b)::caps.map fun i=>τ.getD i .un)).bind fun t =>
   if t then(aV elt (.frz a (n||imm a)::.frz b (n||imm b)::caps.map fun i=>τ.getD i .un)).bind fun r=>r.keep.map some else some none) xs).map fun(vs,m)=>.own vs m else none
 | .lcs a,τ=>(aV a τ).bind fun x=>ue x
 | .never,_=>none
noncomputable def bg:yr->En->Option (List RV)
 | .nil,_=>some []
 | .cons e es,τ=>(aV e τ).bind fun x=>(bg es τ).map (x::·)
noncomputable def Dt:IO->En->Option (Option RV)
 | .no,_=>some none
 | .yes e,τ=>(aV e τ).map some
noncomputable def eO:IC->En->Option Bool
 | .val e,τ=>(aV e τ).bind fun x=>n9 x.val
 | .not c,τ=>(eO c τ).map (!·)
 | .and c d,τ=>(eO c τ).bind fun r=>if r then eO d τ else some false
 | .or c d,τ=>(eO c τ).bind fun r=>if r then some true else eO d τ
noncomputable def iS:Ej->En->Option Bool
 | .no,_=>some true
 | .yes c,τ=>eO c τ
noncomputable def mr:IT->En->Option (List PV×Bool×Bool)
 | .seq e,τ=>(aV e τ).bind ko
 | .rng es,τ=>(bg es τ).bind fun rs=>(iI rs).map fun xs=>(xs,true,false)
 | .zip a b,τ=>(aV a τ).bind fun x=>(aV b τ).bind fun y=>(vg x y).map fun(xs,n)=>(xs,n,false)
 | .enum a,τ=>(aV a τ).bind fun x=>(pH x).map fun(xs,n)=>(xs,n,false)
 | .never,_=>none
end
inductive Fl where
 | nx (τ:En)|bk (τ:En)|ct (τ:En)|rt (v:PV)
noncomputable def gU(f:Fl)(k:En->Option Fl):Option Fl:=match f with
 | .nx τ=>k τ
 | .bk τ=>some (.bk τ)
 | .ct τ=>some (.ct τ)
 | .rt v=>some (.rt v)
noncomputable def mn(τ:En)(i:Nat):En :=
 match τ[i]? with
 | some (.own xs n)=>τ.set i (.frz (.lst xs) n)
 | some (.owd b xs n)=>τ.set i (.frz (b.pv xs) n)
 | _=>τ
noncomputable def bA(cap:List Nat)(τ:En):En:=cap.foldl mn τ
noncomputable def mN(o:Bool)(i:Nat)(r:RV)(τ:En):Option En :=
 match o,r with
 | true,.own xs n=>some (τ.set i (.own xs n))
 | true,.owd b xs n=>some (τ.set i (.owd b xs n))
 | _,r=>r.keep.map fun(v,n)=>τ.set i (.frz v n)
noncomputable def bc(n:Bool):List Nat->List PV->En->Option En
 | [],[],τ=>some τ
 | i::is,x::xs,τ=>bc n is xs (τ.set i (.frz x (n||imm x)))
 | _,_,_=>none
noncomputable def kP(is:List Nat)(one n:Bool)(x:PV)(τ:En):Option En :=
 if one then bc n is [x] τ else match x with
  | .tup xs=>bc n is xs τ
  | _=>none
noncomputable def wM(is:List Nat)(n:Bool)(x:PV)(τ:En):Option En:=match x with
 | .tup xs=>bc n is xs τ
 | .lst xs=>bc n is xs τ
 | _=>none
noncomputable def jx(set:PV->En->Option En)(body:En->Option Fl):List PV->En->Option Fl
 | [],τ=>some (.nx τ)
 | x::xs,τ=>(set x τ).bind fun τ1=>(body τ1).bind fun f=>match f with
  | .nx τ2=>jx set body xs τ2
  | .ct τ2=>jx set body xs τ2
  | .bk τ2=>some (.nx τ2)
  | .rt v=>some (.rt v)
noncomputable def yn(c:En->Option Bool)(body:En->Option Fl):Nat->En->Option Fl
 | 0,_=>none
 | k+1,τ=>(c τ).bind fun b=>if b then(body τ).bind fun f=>(match f with
  | .nx τ2=>yn c body k τ2
  | .ct τ2=>yn c body k τ2
  | .bk τ2=>some (.nx τ2)
  | .rt v=>some (.rt v))else some (.nx τ)
variable(fu:Nat)
mutual
noncomputable def eN:IS->En->Option Fl
 | .asg i o cap e,τ=>let τ1:=bA cap τ;(aV cd e τ1).bind fun r=>(mN o i r τ1).map .nx
 | .unp is cap e,τ=>let τ1:=bA cap τ;(aV cd e τ1).bind fun r=>r.keep.bind fun(v,n)=>(wM is n v τ1).map .nx
 | .ret cap e,τ=>let τ1:=bA cap τ;(aV cd e τ1).bind fun r=>r.keep.bind fun(v,n)=>if n then some (.rt v)else none
 | .retN,_=>some (.rt .non)
 | .ife c a b,τ=>(eO cd c τ).bind fun r=>if r then bP a τ else bP b τ
 | .forr is one cap src body,τ=>let τ1:=bA cap τ;(mr cd src τ1).bind fun(xs,n,b)=>if b then none else jx (kP is one n) (fun τ=>bP body τ) xs τ1
 | .whil c body,τ=>yn (fun τ=>eO cd c τ) (fun τ=>bP body τ) fu τ
 | .pass,τ=>some (.nx τ)
 | .brk,τ=>some (.bk τ)
 | .cont,τ=>some (.ct τ)
 | .app i cap e,τ=>let τ1:=bA cap τ;(aV cd e τ1).bind fun r=>r.keep.bind fun(v,m)=>match τ1[i]? with
  | some (.own xs n)=>if xs.length<LN then some (.nx (τ1.set i (.own (xs++[v]) (n&&m))))else none
  | _=>none
 | .ins i k e,τ=>(aV cd k τ).bind fun x=>(aV cd e τ).bind fun r=>r.keep.bind fun(v,m)=>match x.val,τ[i]? with
  | .int j,some (.own xs n)=>if 0<=j/\j<=xs.length/\xs.length<LN then some (.nx (τ.set i (.own (xs.take j.toNat++v::xs.drop j.toNat) (n&&m))))else none
  | _,_=>none
 | .drop e,τ=>(aV cd e τ).map fun _=>.nx τ
 | .aug i op e,τ=>(aV cd e τ).bind fun r=>match τ[i]?,r.val,op with
  | some (.frz (.int x) _),.int y,.Add=>some (.nx (τ.set i (.frz (.int (x+y)) true)))
  | some (.frz (.int x) _),.int y,.Sub=>some (.nx (τ.set i (.frz (.int (x-y)) true)))
  | _,_,_=>none
 | .hand m g,τ=>(g ((τ.take m).map TV.valD)).map .rt
 | .never,_=>none
noncomputable def bP:vP->En->Option Fl
 | .nil,τ=>some (.nx τ)
 | .cons s ss,τ=>(eN s τ).bind fun f=>gU f (fun τ1=>bP ss τ1)
end
end
structure FD where
 nn:Nat
 np:Nat
 body:vP
noncomputable def entry(d:FD)(vs:List PV):En:=vs.map (fun v=>.frz v (imm v))++List.replicate (d.nn-vs.length) .un
noncomputable def df:Option Fl->Option PV
 | some (.rt v)=>some v
 | some (.nx _)=>some .non
 | _=>none
noncomputable def aE(P:Nat->Option FD):Nat->Nat->List PV->Option PV
 | 0,_,_=>none
 | k+1,f,vs=>(P f).bind fun d=>if vs.length=d.np then df (bP (aE P k) 1000000 d.body (entry d vs))else none
section
set_option autoImplicit true
set_option relaxedAutoImplicit true
variable{cd:Nat->List PV->Option PV}{fu:Nat}{τ:En}
theorem bx:aV cd (.con v) τ=(some (sc v)):=rfl
theorem bh:aV cd (.var i) τ=(mj τ i):=rfl
theorem cA:aV cd (.bin op a b) τ=((aV cd a τ).bind fun x=>(aV cd b τ).bind fun y=>fm op x y):=rfl
theorem cH:aV cd (.neg a) τ=((aV cd a τ).bind fun x=>(DY x.val).map fun i=>sc (.int (-i))):=rfl
theorem bz:aV cd (.cmp op a b) τ=((aV cd a τ).bind fun x=>(aV cd b τ).bind fun y=>(bX op x.val y.val).map fun r=>sc (.bl r)):=rfl
theorem cC:aV cd (.and a b) τ=((aV cd a τ).bind fun x=>(iz x.val).bind fun t=>if t then aV cd b τ else some (sc (.bl false))):=rfl
theorem cF:aV cd (.or a b) τ=((aV cd a τ).bind fun x=>(iz x.val).bind fun t=>if t then some (sc (.bl true))else aV cd b τ):=rfl
theorem bj:aV cd (.not a) τ=((aV cd a τ).bind fun x=>(iz x.val).map fun b=>sc (.bl !b)):=rfl
theorem cI:aV cd (.ite c a b) τ=((eO cd c τ).bind fun r=>if r then aV cd a τ else aV cd b τ):=rfl
theorem b9:aV cd (.call f es) τ=((bg cd es τ).bind fun rs=>(cd f (rs.map RV.val)).map told):=rfl
theorem cB:aV cd (.bf f es) τ=((bg cd es τ).bind fun rs=>ia f rs):=rfl
theorem bm:aV cd (.mth m o es) τ=((aV cd o τ).bind fun x=>(bg cd es τ).bind fun rs=>uZ m x rs):=rfl
theorem bn:aV cd (.lst es) τ=((bg cd es τ).bind fun rs=>(keeps rs).bind fun(vs,n)=>uY vs n):=rfl
theorem bi:aV cd (.tup es) τ=((bg cd es τ).bind fun rs=>(keeps rs).bind fun(vs,n)=>uX vs n):=rfl
theorem cJ:aV cd (.dnew) τ=(some (.owd (.dK []) [] true)):=rfl
theorem bw:aV cd (.dlit k e) τ=((aV cd e τ).bind fun r=>r.keep.bind fun(v,_)=>if imm v then some (.owd (.dK [k]) [v] true)else none):=rfl
theorem bv:aV cd (.ix a i) τ=((aV cd a τ).bind fun x=>(aV cd i τ).bind fun y=>index x y):=rfl
theorem cE:aV cd (.sl a lo hi) τ=((aV cd a τ).bind fun x=>(Dt cd lo τ).bind fun l=>(Dt cd hi τ).bind fun h=>(oz l).bind fun l' =>(oz h).bind fun h' =>slice x l' h'):=rfl
theorem bt:aV cd (.lc elt src ifs caps) τ=((mr cd src τ).bind fun(xs,n,_)=>if xs.length<=LN then(bL (fun x=>(iS cd ifs (.frz x (n||imm x)::caps.map fun i=>τ.getD i .un)).bind fun b =>
   if b then(aV cd elt (.frz x (n||imm x)::caps.map fun i=>τ.getD i .un)).bind fun r=>r.keep.map some else some none) xs).map fun(vs,m)=>.own vs m else none):=rfl
theorem br:aV cd (.lc2 elt src ifs caps) τ=((mr cd src τ).bind fun(xs,n,_)=>if xs.length<=LN then(bL (fun x=>(jg x).bind fun(a,b)=>(iS cd ifs (.frz a (n||imm a)::.frz b (n||imm b)::caps.map fun i=>τ.getD i .un)).bind fun t =>
   if t then(aV cd elt (.frz a (n||imm a)::.frz b (n||imm b)::caps.map fun i=>τ.getD i .un)).bind fun r=>r.keep.map some else some none) xs).map fun(vs,m)=>.own vs m else none):=rfl
theorem bo:aV cd (.lcs a) τ=((aV cd a τ).bind fun x=>ue x):=rfl
theorem cG:aV cd (.never) τ=(none):=rfl
theorem ll:bg cd (.nil) τ=(some []):=rfl
theorem lm:bg cd (.cons e es) τ=((aV cd e τ).bind fun x=>(bg cd es τ).map (x::·)):=rfl
theorem z0u:Dt cd (.no) τ=(some none):=rfl
theorem z0v:Dt cd (.yes e) τ=((aV cd e τ).map some):=rfl
theorem vh:eO cd (.val e) τ=((aV cd e τ).bind fun x=>n9 x.val):=rfl
theorem vj:eO cd (.not c) τ=((eO cd c τ).map (!·)):=rfl
theorem ym:eO cd (.and c d) τ=((eO cd c τ).bind fun r=>if r then eO cd d τ else some false):=rfl
theorem vi:eO cd (.or c d) τ=((eO cd c τ).bind fun r=>if r then some true else eO cd d τ):=rfl
theorem yw:iS cd (.no) τ=(some true):=rfl
theorem yv:iS cd (.yes c) τ=(eO cd c τ):=rfl
theorem yi:mr cd (.seq e) τ=((aV cd e τ).bind ko):=rfl
theorem yj:mr cd (.rng es) τ=((bg cd es τ).bind fun rs=>(iI rs).map fun xs=>(xs,true,false)):=rfl
theorem yh:mr cd (.zip a b) τ=((aV cd a τ).bind fun x=>(aV cd b τ).bind fun y=>(vg x y).map fun(xs,n)=>(xs,n,false)):=rfl
theorem yk:mr cd (.enum a) τ=((aV cd a τ).bind fun x=>(pH x).map fun(xs,n)=>(xs,n,false)):=rfl
theorem yu:mr cd (.never) τ=(none):=rfl
theorem fX:eN cd fu (.asg i o cap e) τ=(let τ1:=bA cap τ;(aV cd e τ1).bind fun r=>(mN o i r τ1).map .nx):=rfl
theorem fK:eN cd fu (.unp is cap e) τ=(let τ1:=bA cap τ;(aV cd e τ1).bind fun r=>r.keep.bind fun(v,n)=>(wM is n v τ1).map .nx):=rfl
theorem fM:eN cd fu (.ret cap e) τ=(let τ1:=bA cap τ;(aV cd e τ1).bind fun r=>r.keep.bind fun(v,n)=>if n then some (.rt v)else none):=rfl
theorem fL:eN cd fu (.retN) τ=(some (.rt .non)):=rfl
theorem fQ:eN cd fu (.ife c a b) τ=((eO cd c τ).bind fun r=>if r then bP cd fu a τ else bP cd fu b τ):=rfl
theorem fS:eN cd fu (.forr is one cap src body) τ=(let τ1:=bA cap τ;(mr cd src τ1).bind fun(xs,n,b)=>if b then none else jx (kP is one n) (fun τ=>bP cd fu body τ) xs τ1):=rfl
theorem fJ:eN cd fu (.whil c body) τ=(yn (fun τ=>eO cd c τ) (fun τ=>bP cd fu body τ) fu τ):=rfl
theorem fN:eN cd fu (.pass) τ=(some (.nx τ)):=rfl
theorem fV:eN cd fu (.brk) τ=(some (.bk τ)):=rfl
theorem fU:eN cd fu (.cont) τ=(some (.ct τ)):=rfl
theorem fY:eN cd fu (.app i cap e) τ=(let τ1:=bA cap τ;(aV cd e τ1).bind fun r=>r.keep.bind fun(v,m)=>match τ1[i]? with
  | some (.own xs n)=>if xs.length<LN then some (.nx (τ1.set i (.own (xs++[v]) (n&&m))))else none
  | _=>none):=rfl
theorem fP:eN cd fu (.ins i k e) τ=((aV cd k τ).bind fun x=>(aV cd e τ).bind fun r=>r.keep.bind fun(v,m)=>match x.val,τ[i]? with
  | .int j,some (.own xs n)=>if 0<=j/\j<=xs.length/\xs.length<LN then some (.nx (τ.set i (.own (xs.take j.toNat++v::xs.drop j.toNat) (n&&m))))else none
  | _,_=>none):=rfl
theorem fT:eN cd fu (.drop e) τ=((aV cd e τ).map fun _=>.nx τ):=rfl
theorem fW:eN cd fu (.aug i op e) τ=((aV cd e τ).bind fun r=>match τ[i]?,r.val,op with
  | some (.frz (.int x) _),.int y,.Add=>some (.nx (τ.set i (.frz (.int (x+y)) true)))
  | some (.frz (.int x) _),.int y,.Sub=>some (.nx (τ.set i (.frz (.int (x-y)) true)))
  | _,_,_=>none):=rfl
theorem fR:eN cd fu (.hand m g) τ=((g ((τ.take m).map TV.valD)).map .rt):=rfl
theorem fO:eN cd fu (.never) τ=(none):=rfl
theorem tq:bP cd fu (.nil) τ=(some (.nx τ)):=rfl
theorem tu:bP cd fu (.cons s ss) τ=((eN cd fu s τ).bind fun f=>gU f (fun τ1=>bP cd fu ss τ1)):=rfl
end
end IR
namespace IR
open PySem PySem.Spec PyProof.Rows L2
noncomputable def del(H:Hp)(p:Addr):Hp:=fun b=>if b=p then none else H b
noncomputable def aM(H:Hp)(O:List Addr):Hp:=fun b=>if b∈O then none else H b
theorem eP{H H' :Hp}{p:Addr}(s:aC H H'):aC (del H p) (del H' p):=fun b o e=>by
 unfold del at e ⊢
 split at e
 ·cases e
 ·rename_i h
  rw[Hl h];exact s b o e
theorem aJ{H H' :Hp}{O:List Addr}(s:aC H H'):aC (aM H O) (aM H' O):=fun b o e=>by
 unfold aM at e ⊢
 split at e
 ·cases e
 ·rename_i h
  rw[Hl h];exact s b o e
theorem bC{H:Hp}{p:Addr}:aC (del H p) H:=fun b o e=>by
 unfold del at e
 split at e
 ·cases e
 ·exact e
theorem aR{H:Hp}{O:List Addr}:aC (aM H O) H:=fun b o e=>by
 unfold aM at e
 split at e
 ·cases e
 ·exact e
theorem mf{H:Hp}{O O' :List Addr}(h:∀b∈O',b∈O):aC (aM H O) (aM H O'):=fun b o e=>by
 unfold aM at e ⊢
 split at e
 ·cases e
 ·rename_i n
  rw[Hl fun z=>n (h b z)];exact e
theorem tH{H:Hp}:aM H []=H:=by funext b;unfold aM;simp
section
variable(K:W.Frag)(Hi:Hp)
mutual
noncomputable def Rp(n:Bool):PV->Hp->V->Prop
 | .non,_,u=>u=.non
 | .bl b,_,u=>u=.bl b
 | .int i,_,u=>u=.int i
 | .str z,_,u=>u=.str z
 | .lst xs,H,u=>∃p us,u=.ref p/\(n=true->Hi p=none/\H p=some (.lst us))/\bB K H p us/\aG n xs (del H p) us
 | .tup xs,H,u=>∃p us,u=.ref p/\cT K H p us/\aG n xs H us
 | .dK ks vs,H,u=>∃p us,u=.ref p/\(n=true->Hi p=none)/\H p=some (.dK (ks.zip us))/\ks.length=us.length/\aG n vs (del H p) us
 | .dT ks vs,H,u=>∃p us,u=.ref p/\(n=true->Hi p=none)/\H p=some (.dT (ks.zip us))/\ks.length=us.length/\aG n vs (del H p) us
noncomputable def aG(n:Bool):List PV->Hp->List V->Prop
 | [],_,us=>us=[]
 | x::xs,H,us=>∃u r,us=u::r/\Rp n x H u/\aG n xs H r
end
end
section
variable{K:W.Frag}{Hi:Hp}
mutual
theorem Rp.mono{n:Bool}:∀{v:PV}{H H' :Hp}{u:V},aC H H' ->Rp K Hi n v H u->Rp K Hi n v H' u
 | .non,_,_,_,_,h=>by unfold Rp at h ⊢;exact h
 | .bl _,_,_,_,_,h=>by unfold Rp at h ⊢;exact h
 | .int _,_,_,_,_,h=>by unfold Rp at h ⊢;exact h
 | .str _,_,_,_,_,h=>by unfold Rp at h ⊢;exact h
 | .lst xs,_,_,_,s,h=>by
  unfold Rp at h ⊢;obtain⟨p,us,e,q,l,r⟩:=h;exact⟨p,us,e,fun z=>⟨(q z).1,s _ _ (q z).2⟩,s.seq l,aG.mono (eP s) r⟩
 | .tup xs,_,_,_,s,h=>by
  unfold Rp at h ⊢;obtain⟨p,us,e,l,r⟩:=h;exact⟨p,us,e,s.tup l,aG.mono s r⟩
 | .dK ks vs,_,_,_,s,h=>by
  unfold Rp at h ⊢;obtain⟨p,us,e,q,l,z,r⟩:=h;exact⟨p,us,e,q,s _ _ l,z,aG.mono (eP s) r⟩
 | .dT ks vs,_,_,_,s,h=>by
  unfold Rp at h ⊢;obtain⟨p,us,e,q,l,z,r⟩:=h;exact⟨p,us,e,q,s _ _ l,z,aG.mono (eP s) r⟩
theorem aG.mono{n:Bool}:∀{xs:List PV}{H H' :Hp}{us:List V},aC H H' ->aG K Hi n xs H us->aG K Hi n xs H' us
 | [],_,_,_,_,h=>by unfold aG at h ⊢;exact h
 | x::xs,_,_,_,s,h=>by
  unfold aG at h ⊢;obtain⟨u,r,e,a,b⟩:=h;exact⟨u,r,e,Rp.mono s a,aG.mono s b⟩
end
mutual
theorem Rp.weak{n:Bool}:∀{v:PV}{H:Hp}{u:V},Rp K Hi n v H u->Rp K Hi false v H u
 | .non,_,_,h=>by unfold Rp at h ⊢;exact h
 | .bl _,_,_,h=>by unfold Rp at h ⊢;exact h
 | .int _,_,_,h=>by unfold Rp at h ⊢;exact h
 | .str _,_,_,h=>by unfold Rp at h ⊢;exact h
 | .lst xs,_,_,h=>by
  unfold Rp at h ⊢;obtain⟨p,us,e,q,l,r⟩:=h;exact⟨p,us,e,(fun z=>absurd z Hk),l,aG.weak r⟩
 | .tup xs,_,_,h=>by
  unfold Rp at h ⊢;obtain⟨p,us,e,l,r⟩:=h;exact⟨p,us,e,l,aG.weak r⟩
 | .dK ks vs,_,_,h=>by
  unfold Rp at h ⊢;obtain⟨p,us,e,q,l,z,r⟩:=h;exact⟨p,us,e,(fun z=>absurd z Hk),l,z,aG.weak r⟩
 | .dT ks vs,_,_,h=>by
  unfold Rp at h ⊢;obtain⟨p,us,e,q,l,z,r⟩:=h;exact⟨p,us,e,(fun z=>absurd z Hk),l,z,aG.weak r⟩
theorem aG.weak{n:Bool}:∀{xs:List PV}{H:Hp}{us:List V},aG K Hi n xs H us->aG K Hi false xs H us
 | [],_,_,h=>by unfold aG at h ⊢;exact h
 | x::xs,_,_,h=>by
  unfold aG at h ⊢;obtain⟨u,r,e,a,b⟩:=h;exact⟨u,r,e,Rp.weak a,aG.weak b⟩
end
theorem Rp.low{n m:Bool}{v:PV}{H:Hp}{u:V}(h:Rp K Hi n v H u)(e:m=true->n=true):Rp K Hi m v H u:=by
 cases n with
 | true=>cases m with
  | true=>exact h
  | false=>exact h.weak
 | false=>cases m with
  | true=>cases e rfl
  | false=>exact h
theorem aG.low{n m:Bool}{v:List PV}{H:Hp}{u:List V}(h:aG K Hi n v H u)(e:m=true->n=true):aG K Hi m v H u:=by
 cases n with
 | true=>cases m with
  | true=>exact h
  | false=>exact h.weak
 | false=>cases m with
  | true=>cases e rfl
  | false=>exact h
mutual
theorem Rp.entry{Hj:Hp}{n:Bool}(k:n=true->∀p,Hi p=none->Hj p=none):∀{v:PV}{H:Hp}{u:V},Rp K Hi n v H u->Rp K Hj n v H u
 | .non,_,_,h=>by unfold Rp at h ⊢;exact h
 | .bl _,_,_,h=>by unfold Rp at h ⊢;exact h
 | .int _,_,_,h=>by unfold Rp at h ⊢;exact h
 | .str _,_,_,h=>by unfold Rp at h ⊢;exact h
 | .lst xs,_,_,h=>by
  unfold Rp at h ⊢;obtain⟨p,us,e,q,l,r⟩:=h;exact⟨p,us,e,fun z=>⟨k z _ (q z).1,(q z).2⟩,l,aG.entry k r⟩
 | .tup xs,_,_,h=>by
  unfold Rp at h ⊢;obtain⟨p,us,e,l,r⟩:=h;exact⟨p,us,e,l,aG.entry k r⟩
 | .dK ks vs,_,_,h=>by
  unfold Rp at h ⊢;obtain⟨p,us,e,q,l,z,r⟩:=h;exact⟨p,us,e,fun z=>k z _ (q z),l,z,aG.entry k r⟩
 | .dT ks vs,_,_,h=>by
  unfold Rp at h ⊢;obtain⟨p,us,e,q,l,z,r⟩:=h;exact⟨p,us,e,fun z=>k z _ (q z),l,z,aG.entry k r⟩
theorem aG.entry{Hj:Hp}{n:Bool}(k:n=true->∀p,Hi p=none->Hj p=none):∀{xs:List PV}{H:Hp}{us:List V},aG K Hi n xs H us->aG K Hj n xs H us
 | [],_,_,h=>by unfold aG at h ⊢;exact h
 | x::xs,_,_,h=>by
  unfold aG at h ⊢;obtain⟨u,r,e,a,b⟩:=h;exact⟨u,r,e,Rp.entry k a,aG.entry k b⟩
end
noncomputable def re(H G:Hp):Prop:=(∀b xs,H b=some (.tup xs)->G b=some (.tup xs))/\∀b o xs,H b=some (.frz o (.tup xs))->G b=some (.frz o (.tup xs))
theorem re.at{H G:Hp}(t:re H G){p:Addr}{xs:List V}(h:cT K H p xs):cT K G p xs:=by
 rcases h with(h|⟨o,h⟩)|h
 ·exact .inl (.inl (t.1 _ _ h))
 ·exact .inl (.inr ⟨o,t.2 _ _ _ h⟩)
 ·exact .inr h
mutual
theorem Rp.imm{n m:Bool}:∀{v:PV}{H G:Hp}{u:V},imm v=true->re H G->Rp K Hi n v H u->Rp K Hi m v G u
 | .non,_,_,_,_,_,h=>by unfold Rp at h ⊢;exact h
 | .bl _,_,_,_,_,_,h=>by unfold Rp at h ⊢;exact h
 | .int _,_,_,_,_,_,h=>by unfold Rp at h ⊢;exact h
 | .str _,_,_,_,_,_,h=>by unfold Rp at h ⊢;exact h
 | .lst xs,_,_,_,i,_,h=>by unfold IR.imm at i;cases i
 | .tup xs,_,_,_,i,t,h=>by
  unfold Rp at h ⊢;unfold IR.imm at i;obtain⟨p,us,e,l,r⟩:=h;exact⟨p,us,e,t.at l,aG.imm i t r⟩
 | .dK ks vs,_,_,_,i,_,h=>by unfold IR.imm at i;cases i
 | .dT ks vs,_,_,_,i,_,h=>by unfold IR.imm at i;cases i
theorem aG.imm{n m:Bool}:∀{xs:List PV}{H G:Hp}{us:List V},imms xs=true->re H G->aG K Hi n xs H us->aG K Hi m xs G us
 | [],_,_,_,_,_,h=>by unfold aG at h ⊢;exact h
 | x::xs,_,_,_,i,t,h=>by
  unfold aG at h ⊢;unfold imms at i;rw[Hb]at i;obtain⟨u,r,e,a,b⟩:=h;exact⟨u,r,e,Rp.imm i.1 t a,aG.imm i.2 t b⟩
end
theorem Rp.up{n:Bool}{v:PV}{H:Hp}{u:V}(h:Rp K Hi n v H u):Rp K Hi (n||IR.imm v) v H u:=by
 cases e:IR.imm v with
 | true=>rw[Bool.or_true];exact Rp.imm e ⟨fun _ _ e=>e,fun _ _ _ e=>e⟩ h
 | false=>rw[Bool.or_false];exact h
theorem aG.up{n:Bool}{v:List PV}{H:Hp}{u:List V}(h:aG K Hi n v H u):aG K Hi (n||IR.imms v) v H u:=by
 cases e:IR.imms v with
 | true=>rw[Bool.or_true];exact aG.imm e ⟨fun _ _ e=>e,fun _ _ _ e=>e⟩ h
 | false=>rw[Bool.or_false];exact h
theorem aG.len{n:Bool}:∀{xs:List PV}{H:Hp}{us:List V},aG K Hi n xs H us->xs.length=us.length
 | [],_,_,h=>by unfold aG at h;rw[h];rfl
 | x::xs,_,_,h=>by
  unfold aG at h;obtain⟨u,r,e,a,b⟩:=h;rw[e,IL,IL,aG.len b]
theorem aG.at{n:Bool}:∀{xs:List PV}{H:Hp}{us:List V}{i:Nat}{x:PV},aG K Hi n xs H us->xs[i]? =some x->∃u,us[i]? =some u/\Rp K Hi n x H u
 | [],_,_,_,_,h,e=>by simp at e
 | y::xs,_,_,i,x,h,e=>by
  unfold aG at h;obtain⟨u,r,rfl,a,b⟩:=h;cases i with
  | zero=>simp at e;subst e;exact⟨u,by simp,a⟩
  | succ i=>simpa using aG.at (i:=i) (x:=x) b (by simpa using e)
theorem aG.at'{n:Bool}:∀{xs:List PV}{H:Hp}{us:List V}{i:Nat}{u:V},aG K Hi n xs H us->us[i]? =some u->∃x,xs[i]? =some x/\Rp K Hi n x H u
 | [],_,_,_,_,h,e=>by unfold aG at h;subst h;simp at e
 | y::xs,_,_,i,x,h,e=>by
  unfold aG at h;obtain⟨u,r,rfl,a,b⟩:=h;cases i with
  | zero=>simp at e;subst e;exact⟨y,by simp,a⟩
  | succ i=>simpa using aG.at' (i:=i) (u:=x) b (by simpa using e)
theorem aG.nil{n:Bool}{H:Hp}:aG K Hi n [] H []:=by unfold aG;rfl
theorem aG.cons{n:Bool}{x:PV}{xs:List PV}{H:Hp}{u:V}{us:List V}(a:Rp K Hi n x H u)(b:aG K Hi n xs H us):aG K Hi n (x::xs) H (u::us):=by unfold aG;exact⟨u,us,rfl,a,b⟩
theorem aG.app{n:Bool}:∀{xs ys:List PV}{H:Hp}{us vs:List V},aG K Hi n xs H us->aG K Hi n ys H vs->aG K Hi n (xs++ys) H (us++vs)
 | [],_,_,_,_,h,g=>by unfold aG at h;subst h;exact g
 | x::xs,_,_,_,_,h,g=>by
  unfold aG at h;obtain⟨u,r,rfl,a,b⟩:=h;exact .cons a (aG.app b g)
theorem aG.take{n:Bool}:∀{xs:List PV}{H:Hp}{us:List V}(k:Nat),aG K Hi n xs H us->aG K Hi n (xs.take k) H (us.take k)
 | [],_,_,_,h=>by unfold aG at h;subst h;simp;exact .nil
 | x::xs,_,_,k,h=>by
  unfold aG at h;obtain⟨u,r,rfl,a,b⟩:=h;cases k with
  | zero=>exact .nil
  | succ k=>exact .cons a (aG.take k b)
theorem aG.drop{n:Bool}:∀{xs:List PV}{H:Hp}{us:List V}(k:Nat),aG K Hi n xs H us->aG K Hi n (xs.drop k) H (us.drop k)
 | [],_,_,_,h=>by unfold aG at h;subst h;simp;exact .nil
 | x::xs,_,_,k,h=>by
  unfold aG at h;obtain⟨u,r,rfl,a,b⟩:=h;cases k with
  | zero=>exact .cons a b
  | succ k=>exact aG.drop k b
theorem aG.set{n:Bool}:∀{xs:List PV}{H:Hp}{us:List V}(k:Nat){x:PV}{u:V},aG K Hi n xs H us->Rp K Hi n x H u->aG K Hi n (xs.set k x) H (us.set k u)
 | [],_,_,_,_,_,h,_=>by unfold aG at h;subst h;exact .nil
 | y::xs,_,_,k,_,_,h,g=>by
  unfold aG at h;obtain⟨u,r,rfl,a,b⟩:=h;cases k with
  | zero=>exact .cons g b
  | succ k=>exact .cons a (aG.set k b g)
theorem Rp.int{n:Bool}{i:Int}{H:Hp}{u:V}:Rp K Hi n (.int i) H u↔u=.int i:=by unfold Rp;rfl
theorem Rp.str{n:Bool}{i:Str}{H:Hp}{u:V}:Rp K Hi n (.str i) H u↔u=.str i:=by unfold Rp;rfl
theorem Rp.bl{n:Bool}{i:Bool}{H:Hp}{u:V}:Rp K Hi n (.bl i) H u↔u=.bl i:=by unfold Rp;rfl
theorem Rp.non{n:Bool}{H:Hp}{u:V}:Rp K Hi n .non H u↔u=.non:=by unfold Rp;rfl
theorem Rp.tup{n:Bool}{xs:List PV}{H:Hp}{u:V}:Rp K Hi n (.tup xs) H u↔∃p us,u=.ref p/\cT K H p us/\aG K Hi n xs H us:=by rw[Rp]
theorem Rp.lst{n:Bool}{xs:List PV}{H:Hp}{u:V}:Rp K Hi n (.lst xs) H u↔∃p us,u=.ref p/\(n=true->Hi p=none/\H p=some (.lst us))/\bB K H p us/\aG K Hi n xs (del H p) us:=by rw[Rp]
theorem aG.ints{n:Bool}{H:Hp}:∀{xs:List Int}{us:List V},aG K Hi n (xs.map PV.int) H us↔us=xs.map V.int
 | [],us=>by unfold aG;rfl
 | x::xs,us=>by
  rw[Hf,Hf,aG]
  constructor
  ·rintro⟨u,r,rfl,a,b⟩
   rw[Rp.int.mp a,aG.ints.mp b]
  ·rintro rfl
   exact⟨_,_,rfl,Rp.int.mpr rfl,aG.ints.mpr rfl⟩
noncomputable def At:Bd->List V->HO->Prop
 | .lst,us,o=>o=.lst us
 | .dK ks,us,o=>o=.dK (ks.zip us)/\ks.length=us.length
 | .dT ks,us,o=>o=.dT (ks.zip us)/\ks.length=us.length
noncomputable def Mo(o:HO):Prop:=∃b us,At b us o
theorem Mo.lst{us:List V}:Mo (.lst us):=⟨.lst,us,rfl⟩
theorem Mo.tup{xs:List V}(h:Mo (.tup xs)):False:=by
 obtain⟨b,us,h⟩:=h;cases b with
 | lst=>cases h
 | dK ks=>cases h.1
 | dT ks=>cases h.1
variable(K Hi)in
structure aZ(O:List Addr)(τ:En)(σ:L2.St)(H:Hp):Prop where
 same:aC Hi H
 own:∀l∈O,Hi l=none/\∃o,H l=some o/\Mo o
 frz:∀(i:Nat)(v:PV)(n:Bool),τ[i]? =some (.frz v n)->∃u,σ[i]? =some (some u)/\Rp K Hi n v (aM H O) u
 obs:∀(i:Nat)(t:TV)(b:Bd)(xs:List PV)(n:Bool),τ[i]? =some t->t.ob=some (b,xs,n)->∃l us o,σ[i]? =some (some (.ref l))/\l∈O/\H l=some o/\At b us o/\aG K Hi n xs (aM H O) us
 dst:∀(i j:Nat)(t t' :TV)(x y:Bd×List PV×Bool)(l:Addr),τ[i]? =some t->t.ob=some x->τ[j]? =some t' ->t'.ob=some y->σ[i]? =some (some (.ref l))->σ[j]? =some (some (.ref l))->i=j
section
variable{O:List Addr}{τ:En}{σ:L2.St}{H H' :Hp}
theorem aZ.owns(R:aZ K Hi O τ σ H)(i:Nat)(xs:List PV)(n:Bool)(e:τ[i]? =some (.own xs n)):∃l us,σ[i]? =some (some (.ref l))/\l∈O/\H l=some (.lst us)/\aG K Hi n xs (aM H O) us:=by
 obtain⟨l,us,o,h1,h2,h3,h4,h5⟩:=R.obs i _ .lst xs n e rfl;cases h4;exact⟨l,us,h1,h2,h3,h5⟩
theorem aZ.ext(R:aZ K Hi O τ σ H)(s:aC H H'):aZ K Hi O τ σ H' where
 same:=R.same.trans s
 own:=fun l hl=>⟨(R.own l hl).1,by obtain⟨o,e,m⟩:=(R.own l hl).2;exact⟨o,s _ _ e,m⟩⟩
 frz:=fun i v n e=>by obtain⟨u,h1,h2⟩:=R.frz i v n e;exact⟨u,h1,h2.mono (aJ s)⟩
 obs:=fun i t b xs n e ht=>by obtain⟨l,us,o,h1,h2,h3,h4,h5⟩:=R.obs i t b xs n e ht;exact⟨l,us,o,h1,h2,s _ _ h3,h4,h5.mono (aJ s)⟩
 dst:=R.dst
theorem aZ.tups(R:aZ K Hi O τ σ H):re H (aM H O):=by
 refine⟨fun b xs e=> ?_,fun b o xs e=> ?_⟩
 ·unfold aM
  rw[Hl fun z=> ?_]
  ·exact e
  ·obtain⟨us,e',m⟩:=(R.own b z).2
   rw[e]at e';cases e';exact m.tup
 ·unfold aM
  rw[Hl fun z=> ?_]
  ·exact e
  ·obtain⟨us,e',m⟩:=(R.own b z).2
   rw[e]at e';cases e';obtain⟨b,us,m⟩:=m;cases b with
   | lst=>cases m
   | dK ks=>cases m.1
   | dT ks=>cases m.1
theorem ai{α:Type}{l:List α}{i j:Nat}{x y:α}(h:(l.set i x)[j]? =some y):(i=j/\y=x)\/(i≠j/\l[j]? =some y):=by
 rw[Je]at h
 split at h
 ·rename_i e
  split at h
  ·exact .inl ⟨e,(IB h).symm⟩
  ·cases h
 ·rename_i e
  exact .inr ⟨e,h⟩
theorem aZ.setF(R:aZ K Hi O τ σ H){i:Nat}{v:PV}{n:Bool}{u:V}(hi:i<σ.length)(r:Rp K Hi n v (aM H O) u):aZ K Hi O (τ.set i (.frz v n)) (σ.set i (some u)) H where
 same:=R.same
 own:=R.own
 frz:=fun j w m e=>by
  rcases ai e with⟨rfl,e'⟩|⟨ne,e'⟩
  ·cases e'
   exact⟨u,by rw[JA hi],r⟩
  ·obtain⟨u',h1,h2⟩:=R.frz j w m e'
   exact⟨u',by rw[II ne];exact h1,h2⟩
 obs:=fun j t b xs m e ht=>by
  rcases ai e with⟨rfl,e'⟩|⟨ne,e'⟩
  ·subst e'
   cases ht
  ·obtain⟨l,us,o,h1,h2⟩:=R.obs j t b xs m e' ht
   exact⟨l,us,o,by rw[II ne];exact h1,h2⟩
 dst:=fun a b t t' x y l e1 ht e2 ht' h1 h2=>by
  rcases ai e1 with⟨_,z⟩|⟨ne1,z1⟩
  ·subst z
   cases ht
  ·rcases ai e2 with⟨_,z⟩|⟨ne2,z2⟩
   ·subst z
    cases ht'
   ·rw[II ne1]at h1
    rw[II ne2]at h2;exact R.dst a b t t' x y l z1 ht z2 ht' h1 h2
theorem aZ.setB(R:aZ K Hi O τ σ H){i:Nat}{t0:TV}{b0:Bd}{xs:List PV}{n:Bool}{p:Addr}{us:List V}{o:HO}(hob:t0.ob=some (b0,xs,n))(hi:i<σ.length)(s:aC H H')(h0:H p=none)(h1:H' p=some o)(ha:At b0 us o)(r:aG K Hi n xs (aM H' (p::O)) us) :
  aZ K Hi (p::O) (τ.set i t0) (σ.set i (some (.ref p))) H' :=by
 have hs:aC (aM H O) (aM H' (p::O)):=fun b o e=>by
  unfold aM at e ⊢
  split at e
  ·cases e
  ·rename_i nb
   have ne:b≠p:=aK e h0;rw[Hl (by simp[ne,nb])];exact s b o e
 have hn:Hi p=none:=R.same.free h0;refine⟨R.same.trans s,fun l hl=> ?_,fun j w m e=> ?_,fun j t b ys m e ht=> ?_,fun a b t t' x y l e1 ht e2 ht' g1 g2=> ?_⟩
 ·rcases Hm.mp hl with rfl|hl
  ·exact⟨hn,o,h1,_,_,ha⟩
  ·obtain⟨q,vs,e,m⟩:=R.own l hl
   exact⟨q,vs,s _ _ e,m⟩
 ·rcases ai e with⟨rfl,e'⟩|⟨ne,e'⟩
  ·rw[<- e']at hob
   cases hob
  ·obtain⟨u',g1,g2⟩:=R.frz j w m e'
   exact⟨u',by rw[II ne];exact g1,g2.mono hs⟩
 ·rcases ai e with⟨rfl,e'⟩|⟨ne,e'⟩
  ·subst e'
   rw[hob]at ht;cases ht;exact⟨p,us,o,by rw[JA hi],He,h1,ha,r⟩
  ·obtain⟨l,vs,o',g1,g2,g3,g4,g5⟩:=R.obs j t b ys m e' ht
   exact⟨l,vs,o',by rw[II ne];exact g1,HZ _ g2,s _ _ g3,g4,g5.mono hs⟩
 ·have old:∀(c:Nat)(t:TV)(x:Bd×List PV×Bool),τ[c]? =some t->t.ob=some x->σ[c]? =some (some (.ref l))->l≠p:=fun c t x e ht g=>by
   obtain⟨b',zs,q⟩:=x;obtain⟨l',vs,o',q1,q2,q3,_⟩:=R.obs c t b' zs q e ht;rw[q1]at g;cases g;exact aK q3 h0
  rcases ai e1 with⟨rfl,z1⟩|⟨ne1,z1⟩
  ·rw[JA hi]at g1
   cases g1
   rcases ai e2 with⟨rfl,_⟩|⟨ne2,z2⟩
   ·rfl
   ·rw[II ne2]at g2
    exact absurd rfl (old b t' y z2 ht' g2)
  ·rw[II ne1]at g1
   rcases ai e2 with⟨rfl,z2⟩|⟨ne2,z2⟩
   ·rw[JA hi]at g2
    cases g2;exact absurd rfl (old a t x z1 ht g1)
   ·rw[II ne2]at g2
    exact R.dst a b t t' x y l z1 ht z2 ht' g1 g2
theorem aZ.setO(R:aZ K Hi O τ σ H){i:Nat}{xs:List PV}{n:Bool}{p:Addr}{us:List V}(hi:i<σ.length)(s:aC H H')(h0:H p=none)(h1:H' p=some (.lst us))(r:aG K Hi n xs (aM H' (p::O)) us) :
  aZ K Hi (p::O) (τ.set i (.own xs n)) (σ.set i (some (.ref p))) H' :=R.setB (b0:=.lst) rfl hi s h0 h1 rfl r
theorem aZ.updB(R:aZ K Hi O τ σ H){i:Nat}{t t1:TV}{b b1:Bd}{xs ys:List PV}{n m:Bool}{l:Addr}{us:List V}{o:HO}(e:τ[i]? =some t)(ht:t.ob=some (b,xs,n))(ht1:t1.ob=some (b1,ys,m))(hl:σ[i]? =some (some (.ref l)))(ha:At b1 us o)(r:aG K Hi m ys (aM H O) us) :
  aZ K Hi O (τ.set i t1) σ (L2.upd H l o):=by
 obtain⟨l',vs,o',g1,g2,g3,g4,g5⟩:=R.obs i t b xs n e ht;rw[hl]at g1;cases g1;have hh:aM (L2.upd H l o) O=aM H O:=by
  funext b
  unfold aM
  split
  ·rfl
  ·rename_i nb
   exact aB fun z=>nb (z▸g2)
 have hn:=(R.own l g2).1;have hi:i<τ.length:=(Hh.mp e).1;refine⟨fun b o q=> ?_,fun k hk=> ?_,fun j w q z=> ?_,fun j t2 b2 zs q z ht2=> ?_,fun a b t2 t3 x y c e1 h2 e2 h3 k1 k2=> ?_⟩
 ·rw[aB (aK q hn)]
  exact R.same b o q
 ·obtain⟨q,ws,z,mo⟩:=R.own k hk
  refine⟨q,?_⟩
  by_cases c:k=l
  ·subst c
   exact⟨o,aD,_,_,ha⟩
  ·exact⟨ws,by rw[aB c];exact z,mo⟩
 ·rw[hh]
  rcases ai z with⟨rfl,z'⟩|⟨ne,z'⟩
  ·rw[<- z']at ht1
   cases ht1
  ·exact R.frz j w q z'
 ·rw[hh]
  rcases ai z with⟨rfl,z'⟩|⟨ne,z'⟩
  ·subst z'
   rw[ht1]at ht2;cases ht2;exact⟨l,us,o,hl,g2,aD,ha,r⟩
  ·obtain⟨l2,ws,o2,q1,q2,q3,q4,q5⟩:=R.obs j t2 b2 zs q z' ht2
   refine⟨l2,ws,o2,q1,q2,?_,q4,q5⟩;rw[aB fun c=> ?_]
   ·exact q3
   ·subst c
    exact ne (R.dst i j t t2 _ _ l2 e ht z' ht2 hl q1)
 ·have back:∀(c:Nat)(t2:TV)(x:Bd×List PV×Bool),(τ.set i t1)[c]? =some t2->t2.ob=some x->∃(t3:TV)(y:Bd×List PV×Bool),τ[c]? =some t3/\t3.ob=some y:=fun c t2 x z h=>by
   rcases ai z with⟨rfl,_⟩|⟨_,z'⟩
   ·exact⟨_,_,e,ht⟩
   ·exact⟨_,_,z',h⟩
  obtain⟨_,_,z1,w1⟩:=back a t2 x e1 h2;obtain⟨_,_,z2,w2⟩:=back b t3 y e2 h3;exact R.dst a b _ _ _ _ c z1 w1 z2 w2 k1 k2
theorem aZ.upd(R:aZ K Hi O τ σ H){i:Nat}{xs ys:List PV}{n m:Bool}{l:Addr}{us:List V}(e:τ[i]? =some (.own xs n))(hl:σ[i]? =some (some (.ref l)))(r:aG K Hi m ys (aM H O) us) :
  aZ K Hi O (τ.set i (.own ys m)) σ (L2.upd H l (.lst us)):=R.updB (b1:=.lst) e rfl rfl hl rfl r
theorem Rp.at{n:Bool}{b:Bd}{xs:List PV}{us:List V}{o:HO}{l:Addr}{G:Hp}(hn:n=true->Hi l=none)(h:G l=some o)(ha:At b us o)(r:aG K Hi n xs (del G l) us):Rp K Hi n (b.pv xs) G (.ref l):=by
 cases b with
 | lst=>cases ha;exact Rp.lst.mpr ⟨l,us,rfl,fun z=>⟨hn z,h⟩,bB.of h,r⟩
 | dK ks =>
  obtain⟨rfl,hl⟩:=ha;show Rp K Hi n (.dK ks xs) G (.ref l);unfold Rp;exact⟨l,us,rfl,hn,h,hl,r⟩
 | dT ks =>
  obtain⟨rfl,hl⟩:=ha;show Rp K Hi n (.dT ks xs) G (.ref l);unfold Rp;exact⟨l,us,rfl,hn,h,hl,r⟩
theorem aZ.freezeB(R:aZ K Hi O τ σ H){i:Nat}{t:TV}{b0:Bd}{xs:List PV}{n:Bool}(e:τ[i]? =some t)(ht:t.ob=some (b0,xs,n)):∃O',aZ K Hi O' (τ.set i (.frz (b0.pv xs) n)) σ H/\∀b∈O',b∈O:=by
 obtain⟨l,us,o,g1,g2,g3,g4,g5⟩:=R.obs i t b0 xs n e ht;refine⟨O.filter fun b=>decide (b≠l),?_,fun b hb=>(Ih.mp hb).1⟩;have mem:∀b,b∈O.filter (fun b=>decide (b≠l))↔b∈O/\b≠l:=fun b=>by simp
 have hs:aC (aM H O) (aM H (O.filter fun b=>decide (b≠l))):=mf fun b hb=>((mem b).mp hb).1;have hd:aC (aM H O) (del (aM H (O.filter fun b=>decide (b≠l))) l):=fun b o z=>by
  unfold aM at z
  split at z
  ·cases z
  ·rename_i nb
   have ne:b≠l:=fun c=>nb (c▸g2);unfold del aM;rw[Hl ne,Hl fun c=>nb ((mem b).mp c).1];exact z
 have hl:aM H (O.filter fun b=>decide (b≠l)) l=some o:=by
  unfold aM;rw[Hl fun c=>((mem l).mp c).2 rfl];exact g3
 refine⟨R.same,fun b hb=>R.own b ((mem b).mp hb).1,fun j w m z=> ?_,fun j t2 b2 ys m z ht2=> ?_,fun a b t2 t3 x y c e1 h2 e2 h3 k1 k2=> ?_⟩
 ·rcases ai z with⟨rfl,z'⟩|⟨ne,z'⟩
  ·cases z'
   exact⟨.ref l,g1,Rp.at (fun _=>(R.own l g2).1) hl g4 (g5.mono hd)⟩
  ·obtain⟨u,q1,q2⟩:=R.frz j w m z'
   exact⟨u,q1,q2.mono hs⟩
 ·rcases ai z with⟨rfl,z'⟩|⟨ne,z'⟩
  ·subst z'
   cases ht2
  ·obtain⟨l2,ws,o2,q1,q2,q3,q4,q5⟩:=R.obs j t2 b2 ys m z' ht2
   exact⟨l2,ws,o2,q1,(mem l2).mpr ⟨q2,fun c=>by subst c;exact ne (R.dst i j _ _ _ _ l2 e ht z' ht2 g1 q1)⟩,q3,q4,q5.mono hs⟩
 ·rcases ai e1 with⟨_,z⟩|⟨_,z1⟩
  ·subst z
   cases h2
  ·rcases ai e2 with⟨_,z⟩|⟨_,z2⟩
   ·subst z
    cases h3
   ·exact R.dst a b t2 t3 x y c z1 h2 z2 h3 k1 k2
theorem aZ.freeze(R:aZ K Hi O τ σ H)(i:Nat):∃O',aZ K Hi O' (mn τ i) σ H/\∀b∈O',b∈O:=by
 unfold mn;cases e:τ[i]? with
 | none=>exact⟨O,R,fun b hb=>hb⟩
 | some t =>
  cases t with
  | un=>exact⟨O,R,fun b hb=>hb⟩
  | frz v n=>exact⟨O,R,fun b hb=>hb⟩
  | own xs n=>exact R.freezeB e rfl
  | owd b xs n=>exact R.freezeB e rfl
theorem aZ.freezes:∀{cap:List Nat}{O:List Addr}{τ:En},aZ K Hi O τ σ H->∃O',aZ K Hi O' (bA cap τ) σ H/\∀b∈O',b∈O
 | [],O,_,R=>⟨O,R,fun b hb=>hb⟩
 | i::cap,_,_,R=>by
  obtain⟨O',R',h'⟩:=R.freeze i;obtain⟨O2,R2,h2⟩:=aZ.freezes (cap:=cap) R';exact⟨O2,R2,fun b hb=>h' b (h2 b hb)⟩
variable(K Hi)in
noncomputable def af(O:List Addr)(H H' :Hp):RV->V->Prop
 | .frz v n,u=>Rp K Hi n v (aM H' O) u
 | .bor v,u=>Rp K Hi false v H' u
 | .own xs n,u=>∃p us,u=.ref p/\H p=none/\H' p=some (.lst us)/\aG K Hi n xs (aM (del H' p) O) us
 | .owd b xs n,u=>∃p us o,u=.ref p/\H p=none/\H' p=some o/\At b us o/\aG K Hi n xs (aM (del H' p) O) us
theorem af.ext{H2:Hp}{r:RV}{u:V}(h:af K Hi O H H' r u)(s:aC H' H2):af K Hi O H H2 r u:=by
 cases r with
 | frz v n=>exact Rp.mono (aJ s) h
 | bor v=>exact Rp.mono s h
 | own xs n =>
  obtain⟨p,us,e,h0,h1,h2⟩:=h;exact⟨p,us,e,h0,s _ _ h1,h2.mono (aJ (eP s))⟩
 | owd b xs n =>
  obtain⟨p,us,o,e,h0,h1,ha,h2⟩:=h;exact⟨p,us,o,e,h0,s _ _ h1,ha,h2.mono (aJ (eP s))⟩
theorem af.back{H0:Hp}{r:RV}{u:V}(h:af K Hi O H H' r u)(s:aC H0 H):af K Hi O H0 H' r u:=by
 cases r with
 | frz v n=>exact h
 | bor v=>exact h
 | own xs n =>
  obtain⟨p,us,e,h0,h1,h2⟩:=h;exact⟨p,us,e,s.free h0,h1,h2⟩
 | owd b xs n =>
  obtain⟨p,us,o,e,h0,h1,ha,h2⟩:=h;exact⟨p,us,o,e,s.free h0,h1,ha,h2⟩
theorem gq{p:Addr}:aM (del H' p) O=del (aM H' O) p:=by
 funext b
 unfold aM del;dsimp only
 split<;>split<;>(try rfl)<;>simp_all
theorem af.keep{r:RV}{u:V}{v:PV}{n:Bool}(R:aZ K Hi O τ σ H)(h:af K Hi O H H' r u)(s:aC H H')(e:r.keep=some (v,n)):Rp K Hi n v (aM H' O) u:=by
 cases r with
 | frz w m =>
  cases e;exact h
 | bor w =>
  have e:(if imm w then some (w,true)else none)=some (v,n):=e
  split at e
  ·rename_i i
   cases e;exact Rp.imm i (R.ext s).tups h
  ·cases e
 | own xs m =>
  cases e;obtain⟨p,us,e,h0,h1,h2⟩:=h;have hl:aM H' O p=some (.lst us):=by
   unfold aM;rw[Hl fun z=> ?_]
   ·exact h1
   ·obtain⟨vs,e',_⟩:=(R.own p z).2
    rw[h0]at e';cases e'
  exact Rp.lst.mpr ⟨p,us,e,fun _=>⟨R.same.free h0,hl⟩,bB.of hl,by rw[<- gq];exact h2⟩
 | owd b xs m =>
  cases e;obtain⟨p,us,o,e,h0,h1,ha,h2⟩:=h;subst e;have hl:aM H' O p=some o:=by
   unfold aM;rw[Hl fun z=> ?_]
   ·exact h1
   ·obtain⟨vs,e',_⟩:=(R.own p z).2
    rw[h0]at e';cases e'
  exact Rp.at (fun _=>R.same.free h0) hl ha (by rw[<- gq];exact h2)
theorem af.val{r:RV}{u:V}(R:aZ K Hi O τ σ H)(h:af K Hi O H H' r u)(s:aC H H'):Rp K Hi false r.val H' u:=by
 cases r with
 | frz w m=>exact(Rp.mono aR h).weak
 | bor w=>exact h
 | own xs m=>exact(Rp.mono aR (h.keep R s rfl)).weak
 | owd b xs m=>exact(Rp.mono aR (h.keep R s rfl)).weak
theorem af.its{r:RV}{u:V}{xs:List PV}{n:Bool}(R:aZ K Hi O τ σ H)(h:af K Hi O H H' r u)(s:aC H H')(e:r.its=some (xs,n)) :
  ∃p us,u=.ref p/\((bB K H' p us/\∃ys,r.val=.lst ys)\/(cT K H' p us/\∃ys,r.val=.tup ys))/\aG K Hi n xs (aM H' O) us:=by
 cases r with
 | frz w m =>
  cases w with
  | lst ys =>
   cases e;obtain⟨p,us,e,_,l,r⟩:=Rp.lst.mp h;exact⟨p,us,e,.inl ⟨(aR (O:=O)).seq l,_,rfl⟩,r.mono bC⟩
  | tup ys =>
   cases e;obtain⟨p,us,e,l,r⟩:=Rp.tup.mp h;exact⟨p,us,e,.inr ⟨(aR (O:=O)).tup l,_,rfl⟩,r⟩
  | _=>cases e
 | bor w =>
  cases w with
  | lst ys =>
   have e:(if imms ys then some (ys,true)else none)=some (xs,n):=e
   split at e
   ·rename_i i
    cases e;obtain⟨p,us,e,_,l,r⟩:=Rp.lst.mp h;exact⟨p,us,e,.inl ⟨l,_,rfl⟩,aG.imm i (R.ext s).tups (r.mono bC)⟩
   ·cases e
  | tup ys =>
   have e:(if imms ys then some (ys,true)else none)=some (xs,n):=e
   split at e
   ·rename_i i
    cases e;obtain⟨p,us,e,l,r⟩:=Rp.tup.mp h;exact⟨p,us,e,.inr ⟨l,_,rfl⟩,aG.imm i (R.ext s).tups r⟩
   ·cases e
  | _=>cases e
 | own ys m =>
  cases e;obtain⟨p,us,e,h0,h1,h2⟩:=h;exact⟨p,us,e,.inl ⟨bB.of h1,_,rfl⟩,h2.mono (aJ bC)⟩
 | owd b ys m=>cases e
end
end
section
variable{K:W.Frag}{Hi:Hp}{κ:Type}[DecidableEq κ]
theorem sI{n:Bool}{G:Hp}{k:κ}:∀{ks:List κ}{vs:List PV}{us:List V},aG K Hi n vs G us->ks.length=us.length->(i8 ks vs k=none->d7 (ks.zip us) k=none)/\∀e,i8 ks vs k=some e->∃w,d7 (ks.zip us) k=some w/\Rp K Hi n e G w
 | [],vs,us,r,hl=>by
  refine⟨fun _=>rfl,fun e h=> ?_⟩;unfold i8 at h;cases h
 | k' ::ks,[],us,r,hl=>by
  unfold aG at r;subst r;cases hl
 | k' ::ks,v::vs,us,r,hl=>by
  unfold aG at r;obtain⟨u,ws,rfl,a,b⟩:=r;have hl:ks.length=ws.length:=by simpa using hl
  obtain⟨h1,h2⟩:=sI (k:=k) b hl;rw[List.zip_cons_cons];unfold i8
  by_cases e:k' =k
  ·rw[Hr e,gQ (p:=(k',u)) e]
   exact⟨fun z=>(by cases z),fun x z=>⟨u,rfl,by cases z;exact a⟩⟩
  ·rw[Hl e,gR (p:=(k',u)) e]
   exact⟨h1,h2⟩
end
end IR
namespace IR
open PySem
structure Ct where
 N:List Str
 S:List (Str×NameKind)
 F:List (Str×Nat)
 G:List (Str×PV)
 B:List Str
 M:List Nat
noncomputable def slot:List Str->Str->Option Nat
 | [],_=>none
 | y::ys,x=>if y==x then some 0 else(slot ys x).map (·+1)
theorem eZ:∀{N:List Str}{x:Str}{i:Nat},slot N x=some i->N[i]? =some x
 | [],_,_,h=>by cases h
 | y::ys,x,i,h=>by
  unfold slot at h
  split at h
  ·rename_i e
   cases h;simp[IF e]
  ·cases e:slot ys x with
   | none=>rw[e]at h;cases h
   | some j =>
    rw[e]at h;cases h
    simpa using eZ e
noncomputable def B2(S:List (Str×NameKind))(x:Str):Bool:=S.lookup x==some .local||S.lookup x==some .cell||S.lookup x==some .free
noncomputable def vd(x:Str):Bool:=x==("__debug__":Str)||x==("__classdict__":Str)||x==("__name__":Str)
noncomputable def cN(ct:Ct)(x:Str):IE :=
 if vd x then .never else if B2 ct.S x then(match slot ct.N x with
  | some i=>.var i
  | none=>.never)else if ct.S.lookup x==some .globalImplicit then(match ct.G.lookup x with
   | some v=>.con v
   | none=>.never)else .never
noncomputable def dP:Expr->Bool
 | .Set .. =>true
 | _=>false
noncomputable def gp:Expr->Bool
 | .Slice .. =>true
 | _=>false
noncomputable def isStar:Expr->Bool
 | .Starred .. =>true
 | _=>false
noncomputable def plainB:Expr->Bool
 | .Name .. =>true
 | .Constant .. =>true
 | _=>false
noncomputable def ly:Const->IE
 | .int i=>.con (.int i)
 | .bool b=>.con (.bl b)
 | .str z=>.con (.str z)
 | .none=>.con .non
 | _=>.never
noncomputable def jz(op:BoolOp):List IE->IE
 | []=>.never
 | [a]=>a
 | a::b::r=>match op with
  | .And=>.and a (jz op (b::r))
  | .Or=>.or a (jz op (b::r))
noncomputable def jy(op:BoolOp):List IC->IC
 | []=>.val .never
 | [a]=>a
 | a::b::r=>match op with
  | .And=>.and a (jy op (b::r))
  | .Or=>.or a (jy op (b::r))
noncomputable def pX(x:Str)(k:Nat):Option Bf :=
 if x==("len":Str)&&k==1 then some .len else if x==("int":Str)&&k==1 then some .int else if x==("list":Str)&&k==1 then some .list else if x==("tuple":Str)&&k==1 then some .tuple
 else if x==("all":Str)&&k==1 then some .all else if x==("min":Str)&&k==2 then some .min else if x==("max":Str)&&k==2 then some .max else if x==("abs":Str)&&k==1 then some .abs
 else if x==("any":Str)&&k==1 then some .any else if x==("sum":Str)&&k==1 then some .sum else if x==("sorted":Str)&&k==1 then some .sorted else none
noncomputable def ic(x:Str)(k:Nat):Option Bf:=pX x k
noncomputable def sv(x y:Str):Option Bf :=
 if x==("sorted":Str)&&y==("set":Str)then some .sset
 else none
noncomputable def vw(x:Str):Option String :=
 if x==("int":Str)then some "int" else if x==("bool":Str)then some "bool" else if x==("str":Str)then some "str" else if x==("list":Str)then some "list" else if x==("tuple":Str)then some "tuple" else none
noncomputable def own(ct:Ct)(x:Str):Bool:=ct.B.contains x&&ct.S.lookup x==some .globalImplicit
noncomputable def nE:Expr->Option (Str×List Expr)
 | .Call (.Name x _) es [] _=>some (x,es)
 | _=>none
noncomputable def ku(S names:List (Str×NameKind)):List (Str×NameKind):=names.map fun(n,k)=>if(k== .free&&true&&S.lookup n==some .cell)then(n,.cell)else(n,k)
noncomputable def frees(scope:Scope):List Str:=(scope.names.filter fun y=>y.2== .free).map (·.1)
noncomputable def slots(N:List Str):List Str->Option (List Nat)
 | []=>some []
 | x::xs=>(slot N x).bind fun i=>(slots N xs).map (i::·)
noncomputable def qp(ct:Ct)(t:Str)(scope:Scope):Bool :=
 scope.kind== .function&&(scope.names.all fun y=> !(y.2== .cell)||scope.names.lookup y.1==some .cell)&&(scope.names.all fun y=> !(y.2== .local)||scope.names.lookup y.1==some .local) &&
 (scope.names.all fun y=> !(y.2== .free)||(ct.S.lookup y.1==some .cell||ct.S.lookup y.1==some .free))&&decide (t::frees scope).Nodup&&(scope.names.lookup t==some .local||scope.names.lookup t==some .cell) &&
 (frees scope).all fun x=>scope.names.lookup x==some .free
noncomputable def blk(ct:Ct)(t:Str)(scope:Scope):Ct:=⟨t::frees scope,ku ct.S scope.names,ct.F,ct.G,ct.B,[]⟩
noncomputable def gn(ct:Ct)(t t2:Str)(scope:Scope):Bool :=
 scope.kind== .function&&(scope.names.all fun y=> !(y.2== .cell)||scope.names.lookup y.1==some .cell)&&(scope.names.all fun y=> !(y.2== .local)||scope.names.lookup y.1==some .local) &&
 (scope.names.all fun y=> !(y.2== .free)||(ct.S.lookup y.1==some .cell||ct.S.lookup y.1==some .free))&&decide (t::t2::frees scope).Nodup&&(scope.names.lookup t==some .local||scope.names.lookup t==some .cell)&&(scope.names.lookup t2==some .local||scope.names.lookup t2==some .cell) &&
 (frees scope).all fun x=>scope.names.lookup x==some .free
noncomputable def blk2(ct:Ct)(t t2:Str)(scope:Scope):Ct:=⟨t::t2::frees scope,ku ct.S scope.names,ct.F,ct.G,ct.B,[]⟩
noncomputable def uc:List IE->yr
 | []=>.nil
 | e::es=>.cons e (uc es)
noncomputable def oY:Expr->Option Str
 | .Name x _=>some x
 | _=>none
noncomputable def lD:Expr->Option (Str×Str)
 | .Tuple es _ _=>(match es with
  | [a,b]=>(oY a).bind fun x=>(oY b).map fun y=>(x,y)
  | _=>none)
 | _=>none
noncomputable def BZ:Expr->Bool
 | .Subscript .. =>true
 | _=>false
noncomputable def nA:Expr->Option Expr
 | .Call f es ks cp=>if es.isEmpty&&ks.isEmpty then(match f with
  | .Attribute o m ap=>if m==("items":Str)&&ap.endLine==cp.line&&(BZ o||plainB o)then some o else none
  | _=>none)else none
 | _=>none
noncomputable def tE:IE->Nat->Bool
 | .var i,j=>i==j
 | _,_=>false
theorem oX{e:Expr}{x:Str}(h:oY e=some x):∃p,e=.Name x p:=by
 unfold oY at h
 split at h
 ·cases h;exact⟨_,rfl⟩
 ·cases h
theorem AJ{a b:Expr}{q:Str×Str}(h:((oY a).bind fun x=>(oY b).map fun y=>(x,y))=some q):∃p p2,a=.Name q.1 p/\b=.Name q.2 p2:=by
 cases ha:oY a with
 | none=>rw[ha]at h;cases h
 | some x =>
  cases hb:oY b with
  | none=>rw[ha,hb]at h;cases h
  | some y =>
   rw[ha,hb]at h;cases h;obtain⟨p,rfl⟩:=oX ha;obtain⟨p2,rfl⟩:=oX hb;exact⟨p,p2,rfl,rfl⟩
theorem lC{e:Expr}{q:Str×Str}(h:lD e=some q):∃p p2 k p3,e=.Tuple [.Name q.1 p,.Name q.2 p2] k p3:=by
 unfold lD at h
 split at h
 ·split at h
  ·obtain⟨p,p2,rfl,rfl⟩:=AJ h
   exact⟨p,p2,_,_,rfl⟩
  ·cases h
 ·cases h
theorem rC{e d:Expr}(h:nA e=some d):∃ap cp,e=.Call (.Attribute d "items" ap) [] [] cp/\(ap.endLine==cp.line)=true/\(BZ d||plainB d)=true:=by
 unfold nA at h
 split at h
 ·rename_i f es ks cp
  split at h
  ·rename_i c
   rw[Hb,List.isEmpty_iff,List.isEmpty_iff]at c;obtain⟨rfl,rfl⟩:=c
   split at h
   ·split at h
    ·rename_i c
     simp only[Hb]at c;cases h;obtain⟨⟨c1,c2⟩,c3⟩:=c;have c1:=IF c1;subst c1;exact⟨_,_,rfl,c2,c3⟩
    ·cases h
   ·cases h
  ·cases h
 ·cases h
theorem lI{e:IE}{j:Nat}(h:tE e j=true):e=.var j:=by
 unfold tE at h
 split at h
 ·have h:=IF h
  subst h;rfl
 ·cases h
noncomputable def sR(f:Str)(ct:Ct)(elt:Expr)(gs:List Comprehension)(scope:Scope):Option Expr:=if f==("sorted":Str)then(match gs with
 | [g]=>(lD g.target).bind fun q=>(nA g.iter).bind fun d=>(lD elt).bind fun z =>
   if plainB d&&g.ifs.isEmpty&&z.1==q.2&&z.2==q.1&&g.is_async==0&&gn ct q.1 q.2 scope&&decide (frees scope=[])&&tE (cN (blk2 ct q.1 q.2 scope) q.1) 0&&tE (cN (blk2 ct q.1 q.2 scope) q.2) 1 then some d else none
 | _=>none)else none
theorem uG{f:Str}{ct:Ct}{elt:Expr}{gs:List Comprehension}{scope:Scope}{d:Expr}(h:sR f ct elt gs scope=some d):f=("sorted":Str)/\plainB d=true/\∃x y p1 p2 k p3 ap cp p4 p5 k2 p6,elt=.Tuple [.Name y p4,.Name x p5] k2 p6 /\
  gs=[⟨.Tuple [.Name x p1,.Name y p2] k p3,.Call (.Attribute d "items" ap) [] [] cp,[],0⟩]/\(ap.endLine==cp.line)=true /\
  gn ct x y scope=true/\frees scope=[]/\cN (blk2 ct x y scope) x=.var 0/\cN (blk2 ct x y scope) y=.var 1:=by
 refine JJ fun no=> ?_;unfold sR at h
 split at h
 ·rename_i hf
  split at h
  ·rename_i g
   obtain⟨tg,it,ifs,as⟩:=g;dsimp only at h;cases h1:lD tg with
   | none=>rw[h1]at h;cases h
   | some q =>
    cases h2:nA it with
    | none=>rw[h1,h2]at h;cases h
    | some d' =>
     cases h3:lD elt with
     | none=>rw[h1,h2,h3]at h;cases h
     | some z =>
      rw[h1,h2,h3]at h;simp only[Hw]at h
      split at h
      ·rename_i c
       cases h;simp only[Hb]at c;obtain⟨⟨⟨⟨⟨⟨⟨⟨c0,c1⟩,c2⟩,c3⟩,c4⟩,c5⟩,c6⟩,c7⟩,c8⟩:=c;obtain⟨q1,q2⟩:=q;obtain⟨z1,z2⟩:=z;have d1:z1=q2:=IF c2;have d2:z2=q1:=IF c3;have d3:as=0:=IF c4;have d4:ifs=[]:=List.isEmpty_iff.mp c1;subst d1;subst d2;subst d3;subst d4;obtain⟨p1,p2,k,p3,rfl⟩:=lC h1;obtain⟨ap,cp,rfl,e1,e2⟩:=rC h2;obtain⟨p4,p5,k2,p6,rfl⟩:=lC h3;exact no ⟨IF hf,c0,_,_,_,_,_,_,_,_,_,_,_,_,rfl,rfl,e1,c5,Ib c6,lI c7,lI c8⟩
      ·cases h
  ·cases h
 ·cases h
mutual
noncomputable def ah:Nat->Ct->Expr->IE
 | 0,_,_=>.never
 | n+1,ct,e=>match e with
  | .Constant c _ _=>ly c
  | .Name x _=>cN ct x
  | .BinOp a op b _=>.bin op (ah n ct a) (ah n ct b)
  | .UnaryOp op a _=>match op with
   | .USub=>.neg (ah n ct a)
   | .Not=>.not (ah n ct a)
   | _=>.never
  | .Compare a ops cs _=>match ops,cs with
   | [op],[b]=>if dP b then .never else .cmp op (ah n ct a) (ah n ct b)
   | _,_=>.never
  | .BoolOp op vs _=>if vs.length<2 then .never else jz op (vs.map (ah n ct))
  | .IfExp c a b _=>.ite (kN n ct c) (ah n ct a) (ah n ct b)
  | .List es _=>.lst (dJ n ct es)
  | .Tuple es _ _=>.tup (dJ n ct es)
  | .Dict ks vs _=>match ks,vs with
   | [],[]=>.dnew
   | [some (.Constant c _ _)],[v]=>match c with
    | .int i=>.dlit (.inl i) (ah n ct v)
    | .str z=>.dlit (.inr z) (ah n ct v)
    | _=>.never
   | _,_=>.never
  | .Subscript a i _=>match i with
   | .Slice lo hi st _=>match st with
    | none=>.sl (ah n ct a) (BV n ct lo) (BV n ct hi)
    | some _=>.never
   | i=>.ix (ah n ct a) (ah n ct i)
  | .Call f es ks cp=>match ks with
   | []=>match f with
    | .Name x _=>iE n ct x es
    | .Attribute o m ap=>if ap.endLine==cp.line then kj n ct o m es else .never
    | _=>.never
   | _=>.never
  | .ListComp elt gs scope _=>match gs with
   | [⟨.Name t _,iter,ifs,0⟩]=>if qp ct t scope then(match slots ct.N (frees scope)with
    | some caps=>.lc (ah n (blk ct t scope) elt) (uD n ct false iter) (match ifs with
     | []=>.no
     | [c]=>.yes (kN n (blk ct t scope) c)
     | _=>.yes (.val .never)) caps
    | none=>.never)else .never
   | [⟨.Tuple [.Name t _,.Name t2 _] _ _,iter,ifs,0⟩]=>if gn ct t t2 scope then(match slots ct.N (frees scope)with
    | some caps=>.lc2 (ah n (blk2 ct t t2 scope) elt) (uD n ct true iter) (match ifs with
     | []=>.no
     | [c]=>.yes (kN n (blk2 ct t t2 scope) c)
     | _=>.yes (.val .never)) caps
    | none=>.never)else .never
   | _=>.never
  | _=>.never
noncomputable def dJ:Nat->Ct->List Expr->yr
 | 0,_,_=>.cons .never .nil
 | n+1,ct,es=>uc (es.map fun e=>if isStar e then .never else ah n ct e)
noncomputable def BV:Nat->Ct->Option Expr->IO
 | 0,_,_=>.yes .never
 | n+1,ct,e=>match e with
  | none=>.no
  | some e=>.yes (ah n ct e)
noncomputable def kN:Nat->Ct->Expr->IC
 | 0,_,_=>.val .never
 | n+1,ct,e=>match e with
  | .UnaryOp op a p=>match op with
   | .Not=>.not (kN n ct a)
   | op=>.val (ah n ct (.UnaryOp op a p))
  | .BoolOp op vs _=>jy op (vs.map (kN n ct))
  | .IfExp _ _ _ _=>.val .never
  | e=>.val (ah n ct e)
noncomputable def iE:Nat->Ct->Str->List Expr->IE
 | 0,_,_,_=>.never
 | n+1,ct,x,es=>if vd x then .never else if ct.S.lookup x==some .globalImplicit then(match ct.F.lookup x with
  | some f=>match es with
   | []=>.never
   | es=>.call f (dJ n ct es)
  | none=>if ct.B.contains x then(if x==("isinstance":Str)then(match es with
    | [a,.Name t _]=>match vw t with
     | some ty=>if isStar a then .never else if own ct t then .bf (.isin ty) (.cons (ah n ct a) .nil)else .never
     | none=>.never
    | _=>.never)else match es with
     | [.Call (.Name y _) [a] [] _]=>(match sv x y with
      | some f=>if isStar a|| !own ct y then .never else .bf f (.cons (ah n ct a) .nil)
      | none=>match ic x es.length with
       | some f=>.bf f (dJ n ct es)
       | none=>.never)
     | [.Call (.Attribute o m ap) [] [] cp]=>if x==("sum":Str)&&m==("values":Str)&&plainB o&&ap.endLine==cp.line then .bf .sumv (.cons (ah n ct o) .nil)else if x==("list":Str)&&m==("values":Str)&&plainB o&&ap.endLine==cp.line then .bf .lvals (.cons (ah n ct o) .nil)else(match ic x es.length with
      | some f=>.bf f (dJ n ct es)
      | none=>.never)
     | [.ListComp elt gs scope _]=>(match sR x ct elt gs scope with
      | some d=>.bf .sorted (.cons (.lcs (ah n ct d)) .nil)
      | none=>match ic x es.length with
       | some f=>.bf f (dJ n ct es)
       | none=>.never)
     | es=>match ic x es.length with
      | some f=>.bf f (dJ n ct es)
      | none=>.never)else .never)else .never
noncomputable def kj:Nat->Ct->Expr->Str->List Expr->IE
 | 0,_,_,_,_=>.never
 | n+1,ct,o,m,es=>if plainB o then(match es with
  | [a]=>if isStar a then .never else if m==("join":Str)then .mth .join (ah n ct o) (.cons (ah n ct a) .nil)else .never
  | _=>.never)else .never
noncomputable def uD:Nat->Ct->Bool->Expr->IT
 | 0,_,_,_=>.never
 | n+1,ct,tp,e=>if dP e then .never else match nE e with
  | some (x,es)=>if x==("range":Str)then(if own ct x then .rng (dJ n ct es)else .never)else if x==("zip":Str)then(match es with
    | [a,b]=>if isStar a||isStar b|| !tp|| !own ct x then .never else .zip (ah n ct a) (ah n ct b)
    | _=>.never)else if x==("enumerate":Str)then(match es with
    | [a]=>if isStar a|| !tp|| !own ct x then .never else .enum (ah n ct a)
    | _=>.never)else .seq (ah n ct e)
  | none=>.seq (ah n ct e)
end
noncomputable def jF:Nat->Ct->Expr->List Nat
 | 0,_,_=>[]
 | n+1,ct,e=>match e with
  | .Name x _=>(slot ct.N x).toList
  | .List es _=>es.flatMap (jF n ct)
  | .Tuple es _ _=>es.flatMap (jF n ct)
  | .IfExp _ a b _=>jF n ct a++jF n ct b
  | _=>[]
noncomputable def kY:Nat->Ct->Expr->List Nat
 | 0,_,_=>[]
 | n+1,ct,e=>match e with
  | .Name x _=>(slot ct.N x).toList
  | .List es _=>es.flatMap (kY n ct)
  | .Tuple es _ _=>es.flatMap (kY n ct)
  | .BinOp a _ b _=>kY n ct a++kY n ct b
  | .IfExp _ a b _=>kY n ct a++kY n ct b
  | .Call (.Name x _) es _ _=>if x==("tuple":Str)||x==("list":Str)||x==("sorted":Str)then es.flatMap (kY n ct)else[]
  | .ListComp _ gs _ _=>gs.flatMap fun g=>kY n ct g.iter
  | _=>[]
noncomputable def Gc(ct:Ct)(x:Str)(e:Expr):List Nat:=match e with
 | .BinOp (.Name y _) .Add _ _=>if y==x then(slot ct.N x).toList else[]
 | _=>[]
noncomputable def Ge(n:Nat)(ct:Ct)(e:Expr):List Nat:=match nE e with
 | some (x,es)=>if x==("zip":Str)||x==("enumerate":Str)||x==("reversed":Str)then es.flatMap (jF n ct)else[]
 | none=>jF n ct e
noncomputable def loc(ct:Ct)(x:Str):Option Nat:=if(ct.S.lookup x==some .local||ct.S.lookup x==some .cell)&& !vd x then slot ct.N x else none
noncomputable def qu:Expr->Bool
 | .ListComp .. =>true
 | .SetComp .. =>true
 | .DictComp .. =>true
 | _=>false
noncomputable def xh:Expr->Bool
 | .Tuple .. =>true
 | _=>false
noncomputable def locs(ct:Ct):List Expr->Option (List Nat)
 | []=>some []
 | .Name x _::es=>(loc ct x).bind fun i=>(locs ct es).map (i::·)
 | _::_=>none
noncomputable def uC(ct:Ct):Expr->Option (List Nat×Bool)
 | .Name x _=>(loc ct x).map fun i=>([i],true)
 | .Tuple es _ _=>(locs ct es).map fun is=>(is,false)
 | _=>none
mutual
noncomputable def oA:Nat->Ct->Stmt->IS
 | 0,_,_=>.never
 | n+1,ct,s=>match s with
  | .Return v _=>match v with
   | some e=>.ret (kY n ct e) (ah n ct e)
   | none=>.retN
  | .Assign ts e _=>match ts with
   | [.Name x _]=>match loc ct x with
    | some i=>.asg i (ct.M.contains i) (Gc ct x e++jF n ct e) (ah n ct e)
    | none=>.never
   | [.Tuple es k p]=>match locs ct es with
    | some is=>if xh e then .never else .unp is (jF n ct e) (ah n ct e)
    | none=>.never
   | _=>.never
  | .If c a b _=>.ife (kN n ct c) (bM n ct a) (bM n ct b)
  | .For tg it body els _=>match els with
   | []=>match uC ct tg with
    | some (is,one)=>.forr is one (Ge n ct it) (uD n ct (!one) it) (bM n ct body)
    | none=>.never
   | _=>.never
  | .While c body els _=>match els with
   | []=>.whil (kN n ct c) (bM n ct body)
   | _=>.never
  | .Pass _=>.pass
  | .Break _=>.brk
  | .Continue _=>.cont
  | .Expr e _=>match e with
   | .Call (.Attribute (.Name x _) m ap) es [] cp=>if ap.endLine==cp.line then(match loc ct x with
    | some i=>(match es with
     | [a]=>if isStar a then .never else if m==("append":Str)then .app i (jF n ct a) (ah n ct a)else .never
     | [a,b]=>if isStar a||isStar b then .never else if m==("insert":Str)then .ins i (ah n ct a) (ah n ct b)else .never
     | _=>.never)
    | none=>.never)else .never
   | _=>.never
  | .AugAssign t op e _=>match t with
   | .Name x _=>match loc ct x with
    | some i=>.aug i op (ah n ct e)
    | none=>.never
   | _=>.never
  | _=>.never
noncomputable def bM:Nat->Ct->List Stmt->vP
 | 0,_,_=>.cons .never .nil
 | n+1,ct,ss=>match ss with
  | []=>.nil
  | s::ss=>.cons (oA n ct s) (bM n ct ss)
end
section
set_option autoImplicit true
set_option relaxedAutoImplicit true
variable{n:Nat}{ct:Ct}
theorem ni:ah 0 w0 w1=.never:=rfl
theorem nY:ah (n+1) ct (.Constant c w1 w2)=(ly c):=rfl
theorem nT:ah (n+1) ct (.Name x w1)=(cN ct x):=rfl
theorem nh:ah (n+1) ct (.BinOp a op b w1)=(.bin op (ah n ct a) (ah n ct b)):=rfl
theorem nQ:ah (n+1) ct (.UnaryOp op a w1)=(match op with
   | .USub=>.neg (ah n ct a)
   | .Not=>.not (ah n ct a)
   | _=>.never):=rfl
theorem nZ:ah (n+1) ct (.Compare a ops cs w1)=(match ops,cs with
   | [op],[b]=>if dP b then .never else .cmp op (ah n ct a) (ah n ct b)
   | _,_=>.never):=rfl
theorem ng:ah (n+1) ct (.BoolOp op vs w1)=(if vs.length<2 then .never else jz op (vs.map (ah n ct))):=rfl
theorem nW:ah (n+1) ct (.IfExp c a b w1)=(.ite (kN n ct c) (ah n ct a) (ah n ct b)):=rfl
theorem nV:ah (n+1) ct (.List es w1)=(.lst (dJ n ct es)):=rfl
theorem nR:ah (n+1) ct (.Tuple es w1 w2)=(.tup (dJ n ct es)):=rfl
theorem nX:ah (n+1) ct (.Dict ks vs w1)=(match ks,vs with
   | [],[]=>.dnew
   | [some (.Constant c _ _)],[v]=>match c with
    | .int i=>.dlit (.inl i) (ah n ct v)
    | .str z=>.dlit (.inr z) (ah n ct v)
    | _=>.never
   | _,_=>.never):=rfl
theorem nS:ah (n+1) ct (.Subscript a i w1)=(match i with
   | .Slice lo hi st _=>match st with
    | none=>.sl (ah n ct a) (BV n ct lo) (BV n ct hi)
    | some _=>.never
   | i=>.ix (ah n ct a) (ah n ct i)):=rfl
theorem na:ah (n+1) ct (.Call f es ks cp)=(match ks with
   | []=>match f with
    | .Name x _=>iE n ct x es
    | .Attribute o m ap=>if ap.endLine==cp.line then kj n ct o m es else .never
    | _=>.never
   | _=>.never):=rfl
theorem nU:ah (n+1) ct (.ListComp elt gs scope w1)=(match gs with
   | [⟨.Name t _,iter,ifs,0⟩]=>if qp ct t scope then(match slots ct.N (frees scope)with
    | some caps=>.lc (ah n (blk ct t scope) elt) (uD n ct false iter) (match ifs with
     | []=>.no
     | [c]=>.yes (kN n (blk ct t scope) c)
     | _=>.yes (.val .never)) caps
    | none=>.never)else .never
   | [⟨.Tuple [.Name t _,.Name t2 _] _ _,iter,ifs,0⟩]=>if gn ct t t2 scope then(match slots ct.N (frees scope)with
    | some caps=>.lc2 (ah n (blk2 ct t t2 scope) elt) (uD n ct true iter) (match ifs with
     | []=>.no
     | [c]=>.yes (kN n (blk2 ct t t2 scope) c)
     | _=>.yes (.val .never)) caps
    | none=>.never)else .never
   | _=>.never):=rfl
theorem z29:dJ 0 w0 w1=.cons .never .nil:=rfl
theorem z2a:dJ (n+1) ct es=(uc (es.map fun e=>if isStar e then .never else ah n ct e)):=rfl
theorem z2d:BV 0 w0 w1=.yes .never:=rfl
theorem z2e:BV (n+1) ct (none)=(.no):=rfl
theorem z2f:BV (n+1) ct (some e)=(.yes (ah n ct e)):=rfl
theorem FA:kN 0 w0 w1=.val .never:=rfl
theorem Ex:kN (n+1) ct (.UnaryOp op a p)=(match op with
   | .Not=>.not (kN n ct a)
   | op=>.val (ah n ct (.UnaryOp op a p))):=rfl
theorem Ez:kN (n+1) ct (.BoolOp op vs w1)=(jy op (vs.map (kN n ct))):=rfl
theorem Ey:kN (n+1) ct (.IfExp w1 w2 w3 w4)=(.val .never):=rfl
theorem z1p:iE 0 w0 w1 w2=.never:=rfl
theorem z1q:iE (n+1) ct x es=(if vd x then .never else if ct.S.lookup x==some .globalImplicit then(match ct.F.lookup x with
  | some f=>match es with
   | []=>.never
   | es=>.call f (dJ n ct es)
  | none=>if ct.B.contains x then(if x==("isinstance":Str)then(match es with
    | [a,.Name t _]=>match vw t with
     | some ty=>if isStar a then .never else if own ct t then .bf (.isin ty) (.cons (ah n ct a) .nil)else .never
     | none=>.never
    | _=>.never)else match es with
     | [.Call (.Name y _) [a] [] _]=>(match sv x y with
      | some f=>if isStar a|| !own ct y then .never else .bf f (.cons (ah n ct a) .nil)
      | none=>match ic x es.length with
       | some f=>.bf f (dJ n ct es)
       | none=>.never)
     | [.Call (.Attribute o m ap) [] [] cp]=>if x==("sum":Str)&&m==("values":Str)&&plainB o&&ap.endLine==cp.line then .bf .sumv (.cons (ah n ct o) .nil)else if x==("list":Str)&&m==("values":Str)&&plainB o&&ap.endLine==cp.line then .bf .lvals (.cons (ah n ct o) .nil)else(match ic x es.length with
      | some f=>.bf f (dJ n ct es)
      | none=>.never)
     | [.ListComp elt gs scope _]=>(match sR x ct elt gs scope with
      | some d=>.bf .sorted (.cons (.lcs (ah n ct d)) .nil)
      | none=>match ic x es.length with
       | some f=>.bf f (dJ n ct es)
       | none=>.never)
     | es=>match ic x es.length with
      | some f=>.bf f (dJ n ct es)
      | none=>.never)else .never)else .never):=rfl
theorem z2b:kj 0 w0 w1 w2 w3=.never:=rfl
theorem z2c:kj (n+1) ct o m es=(if plainB o then(match es with
  | [a]=>if isStar a then .never else if m==("join":Str)then .mth .join (ah n ct o) (.cons (ah n ct a) .nil)else .never
  | _=>.never)else .never):=rfl
theorem z2u:uD 0 w0 w1 w2=.never:=rfl
theorem z2v:uD (n+1) ct tp e=(if dP e then .never else match nE e with
  | some (x,es)=>if x==("range":Str)then(if own ct x then .rng (dJ n ct es)else .never)else if x==("zip":Str)then(match es with
    | [a,b]=>if isStar a||isStar b|| !tp|| !own ct x then .never else .zip (ah n ct a) (ah n ct b)
    | _=>.never)else if x==("enumerate":Str)then(match es with
    | [a]=>if isStar a|| !tp|| !own ct x then .never else .enum (ah n ct a)
    | _=>.never)else .seq (ah n ct e)
  | none=>.seq (ah n ct e)):=rfl
theorem vc:oA 0 w0 w1=.never:=rfl
theorem vT:oA (n+1) ct (.Return v w1)=(match v with
   | some e=>.ret (kY n ct e) (ah n ct e)
   | none=>.retN):=rfl
theorem vb:oA (n+1) ct (.Assign ts e w1)=(match ts with
   | [.Name x _]=>match loc ct x with
    | some i=>.asg i (ct.M.contains i) (Gc ct x e++jF n ct e) (ah n ct e)
    | none=>.never
   | [.Tuple es k p]=>match locs ct es with
    | some is=>if xh e then .never else .unp is (jF n ct e) (ah n ct e)
    | none=>.never
   | _=>.never):=rfl
theorem vV:oA (n+1) ct (.If c a b w1)=(.ife (kN n ct c) (bM n ct a) (bM n ct b)):=rfl
theorem vW:oA (n+1) ct (.For tg it body els w1)=(match els with
   | []=>match uC ct tg with
    | some (is,one)=>.forr is one (Ge n ct it) (uD n ct (!one) it) (bM n ct body)
    | none=>.never
   | _=>.never):=rfl
theorem vS:oA (n+1) ct (.While c body els w1)=(match els with
   | []=>.whil (kN n ct c) (bM n ct body)
   | _=>.never):=rfl
theorem vU:oA (n+1) ct (.Pass w1)=(.pass):=rfl
theorem vZ:oA (n+1) ct (.Break w1)=(.brk):=rfl
theorem vY:oA (n+1) ct (.Continue w1)=(.cont):=rfl
theorem vX:oA (n+1) ct (.Expr e w1)=(match e with
   | .Call (.Attribute (.Name x _) m ap) es [] cp=>if ap.endLine==cp.line then(match loc ct x with
    | some i=>(match es with
     | [a]=>if isStar a then .never else if m==("append":Str)then .app i (jF n ct a) (ah n ct a)else .never
     | [a,b]=>if isStar a||isStar b then .never else if m==("insert":Str)then .ins i (ah n ct a) (ah n ct b)else .never
     | _=>.never)
    | none=>.never)else .never
   | _=>.never):=rfl
theorem va:oA (n+1) ct (.AugAssign t op e w1)=(match t with
   | .Name x _=>match loc ct x with
    | some i=>.aug i op (ah n ct e)
    | none=>.never
   | _=>.never):=rfl
theorem z2g:bM 0 w0 w1=.cons .never .nil:=rfl
theorem z2i:bM (n+1) ct ([])=(.nil):=rfl
theorem z2h:bM (n+1) ct (s::ss)=(.cons (oA n ct s) (bM n ct ss)):=rfl
end
end IR
namespace L2
open PySem PySem.Spec PyProof.Rows
section
variable{X:Cx}
end
end L2
namespace IR
open PySem PySem.Spec PyProof.Rows L2
noncomputable abbrev WE(X:Cx)(e:Expr)(σ:L2.St)(H:Hp)(Q:VK):Prop:=∀(pins:List (Addr×Obj))(s:Shared),Inv X pins σ H s->wpAny (model X.prog X.w) X.A (eval e X.env) (EP X pins σ Q) X.xe s
noncomputable abbrev WT(X:Cx)(e:Expr)(σ:L2.St)(H:Hp)(Q:Bool->Hp->Prop):Prop:=∀(pins:List (Addr×Obj))(s:Shared),Inv X pins σ H s->wpAny (model X.prog X.w) X.A (isTrue e X.env (eval e X.env)) (TP X pins σ Q) X.xe s
noncomputable abbrev WA(X:Cx)(es:List Expr)(σ:L2.St)(H:Hp)(Q:List V->Hp->Prop):Prop:=∀(pos:Pos)(pins:List (Addr×Obj))(s:Shared),Inv X pins σ H s->wpAny (model X.prog X.w) X.A (spliced (backTo pos (starEach es X.env))) (AP X pins σ Q) X.xe s
theorem aY{X:Cx}{e:Expr}:PE X e (fun σ H Q=>WE X e σ H Q):=fun pins s σ H Q I h=>h pins s I
theorem jY{X:Cx}{e:Expr}:PT X e (fun σ H Q=>WT X e σ H Q):=fun pins s σ H Q I h=>h pins s I
theorem qe{X:Cx}{e:List Expr}:PA X e (fun σ H Q=>WA X e σ H Q):=fun pos pins s σ H Q I h=>h pos pins s I
theorem we{X:Cx}{e:Expr}{t:TE}{σ:L2.St}{H:Hp}{Q:VK}(h:PE X e t)(q:t σ H Q):WE X e σ H Q:=fun pins s I=>h pins s σ H Q I q
theorem wt{X:Cx}{e:Expr}{t:TT}{σ:L2.St}{H:Hp}{Q:Bool->Hp->Prop}(h:PT X e t)(q:t σ H Q):WT X e σ H Q:=fun pins s I=>h pins s σ H Q I q
theorem wa{X:Cx}{e:List Expr}{t:TA}{σ:L2.St}{H:Hp}{Q:List V->Hp->Prop}(h:PA X e t)(q:t σ H Q):WA X e σ H Q:=fun pos pins s I=>h pos pins s σ H Q I q
noncomputable def qL(K:W.Frag)(m:List PV->Option PV):Sp:=fun vs H Q _=>∃pvs r,aG K H false pvs H vs/\m pvs=some r/\∀u H',aC H H' ->Rp K H true r H' u->Q u H'
structure bG(cd:Nat->List PV->Option PV)(X:Cx)(ct:Ct):Prop where
 N:X.N=ct.N
 nd:ct.N.Nodup
 S:X.env.scope.names=ct.S
 kind:X.env.scope.kind=.function
 calm:X.calm=true
 glob:∀x v,ct.G.lookup x=some v->∃u w,X.mg x=some u/\RelV w u/\∀Hi n H,Rp X.K Hi n v H w
 bl:∀x,ct.B.contains x=true->X.mg x=none
 fns:∀x f,ct.F.lookup x=some f->∃k a fd ps,bN X.prog X.w X.K X.mg X.base iA k a fd ps (qL X.K (cd f))/\dr k X.A/\X.mg x=some (.ref a)/\W.keepIn X.K (.ref a)=true/\Binds X.K fd ps []
 xe:PassesOwn (model X.prog X.w) X.A X.env X.xe
 un:X.A.units+64<cLine
section
variable{X:Cx}{Hi:Hp}{τ:En}
variable(X Hi τ)in
noncomputable def aL(e:Expr)(r:RV):Prop:=∀(O:List Addr)(σ:L2.St)(H:Hp)(Q:VK),aZ X.K Hi O τ σ H->(∀u H',aC H H' ->af X.K Hi O H H' r u->Q u H')->WE X e σ H Q
variable(X Hi τ)in
noncomputable def eT(e:Expr)(b:Bool):Prop:=∀(O:List Addr)(σ:L2.St)(H:Hp)(Q:Bool->Hp->Prop),aZ X.K Hi O τ σ H->(∀H',aC H H' ->Q b H')->WT X e σ H Q
variable(X Hi)in
noncomputable def cR(O:List Addr)(H H' :Hp):List RV->List V->Prop
 | [],us=>us=[]
 | r::rs,us=>∃u vs,us=u::vs/\af X.K Hi O H H' r u/\cR O H H' rs vs
variable(X Hi τ)in
noncomputable def nL(es:List Expr)(rs:List RV):Prop:=∀(O:List Addr)(σ:L2.St)(H:Hp)(Q:List V->Hp->Prop),aZ X.K Hi O τ σ H->(∀us H',aC H H' ->cR X Hi O H H' rs us->Q us H')->WA X es σ H Q
theorem dv:sizeLine=16777216:=Im
theorem cR.ext{O:List Addr}{H H' H2:Hp}(s:aC H' H2):∀{rs:List RV}{us:List V},cR X Hi O H H' rs us->cR X Hi O H H2 rs us
 | [],_,h=>h
 | r::rs,_,h=>by
  obtain⟨u,vs,e,a,b⟩:=h;exact⟨u,vs,e,a.ext s,cR.ext s b⟩
theorem cR.back{O:List Addr}{H0 H H' :Hp}(s:aC H0 H):∀{rs:List RV}{us:List V},cR X Hi O H H' rs us->cR X Hi O H0 H' rs us
 | [],_,h=>h
 | r::rs,_,h=>by
  obtain⟨u,vs,e,a,b⟩:=h;exact⟨u,vs,e,a.back s,cR.back s b⟩
theorem cR.vals{O:List Addr}{σ:L2.St}{H H' :Hp}(R:aZ X.K Hi O τ σ H)(s:aC H H'):∀{rs:List RV}{us:List V},cR X Hi O H H' rs us->aG X.K Hi false (rs.map RV.val) H' us
 | [],_,h=>by cases h;exact .nil
 | r::rs,_,h=>by
  obtain⟨u,vs,rfl,a,b⟩:=h;exact .cons (a.val R s) (cR.vals R s b)
theorem cR.keeps{O:List Addr}{σ:L2.St}{H H' :Hp}(R:aZ X.K Hi O τ σ H)(s:aC H H'):∀{rs:List RV}{us:List V}{vs:List PV}{n:Bool},cR X Hi O H H' rs us->IR.keeps rs=some (vs,n)->aG X.K Hi n vs (aM H' O) us
 | [],_,_,_,h,e=>by cases h;cases e;exact .nil
 | r::rs,_,vs,n,h,e=>by
  obtain⟨u,ws,rfl,a,b⟩:=h;unfold IR.keeps at e;cases hk:r.keep with
  | none=>rw[hk]at e;cases e
  | some p =>
   obtain⟨v,n1⟩:=p;rw[hk]at e;cases hs:IR.keeps rs with
   | none=>rw[hs]at e;cases e
   | some p =>
    obtain⟨vs',n2⟩:=p;rw[hs]at e;cases e;refine .cons ((a.keep R s hk).low fun z=> ?_) ((cR.keeps R s b hs).low fun z=> ?_)
    ·rw[Hb]at z;exact z.1
    ·rw[Hb]at z;exact z.2
theorem fe{v:PV}{u:V}{O:List Addr}{H H' :Hp}(h:∀G,Rp X.K Hi true v G u):af X.K Hi O H H' (sc v) u:=h _
theorem yK{c:Const}{k:Nat}{pos:Pos}{r:RV}{cd:Nat->List PV->Option PV}(h:aV cd (ly c) τ=some r):aL X Hi τ (.Constant c k pos) r:=by
 intro O σ H Q R q;cases c with
 | int i =>
  cases h;exact we dC (q _ _ (aC.refl _) (fe fun _=>Rp.int.mpr rfl))
 | bool b =>
  cases h;exact we oU (q _ _ (aC.refl _) (fe fun _=>Rp.bl.mpr rfl))
 | str b =>
  cases h;exact we mP (q _ _ (aC.refl _) (fe fun _=>Rp.str.mpr rfl))
 | none =>
  cases h;exact we Cr (q _ _ (aC.refl _) (fe fun _=>Rp.non.mpr rfl))
 | _=>cases h
theorem lw{S:List (Str×NameKind)}{sc:Scope}(e:sc.names=S){x:Str}(h:B2 S x=true):Et sc x:=by
 unfold B2 at h;unfold Et;rw[e]
 simpa [JS,or_assoc]using h
theorem be{x:Str}(h:vd x=false):(x==("__debug__":Str))=false/\(x==("__classdict__":Str))=false/\x≠"__name__":=by
 unfold vd at h;simp only[Bool.or_eq_false_iff]at h;exact⟨h.1.1,h.1.2,fun e=>by rw[e]at h;simp at h⟩
theorem mR{cd:Nat->List PV->Option PV}{ct:Ct}(C:bG cd X ct){x:Str}{pos:Pos}{r:RV}(h:aV cd (cN ct x) τ=some r):aL X Hi τ (.Name x pos) r:=by
 intro O σ H Q R q;unfold cN at h
 split at h
 ·simp[bx,bh,cA,cH,bz,cC,cF,bj,cI,b9,cB,bm,bn,bi,cJ,bw,bv,cE,bt,br,bo,cG]at h
 rename_i ho;obtain⟨o1,o2,o3⟩:=be (JQ.mpr ho)
 split at h
 ·rename_i hv
  cases hs:slot ct.N x with
  | none=>rw[hs]at h;simp[bx,bh,cA,cH,bz,cC,cF,bj,cI,b9,cB,bm,bn,bi,cJ,bw,bv,cE,bt,br,bo,cG]at h
  | some i =>
   rw[hs]at h;have h:mj τ i=some r:=by simpa [bx,bh,cA,cH,bz,cC,cF,bj,cI,b9,cB,bm,bn,bi,cJ,bw,bv,cE,bt,br,bo,cG]using h
   refine we (je (by rw[C.N];exact eZ hs) (lw C.S hv) o1 o2) ?_;unfold mj at h;cases ht:τ[i]? with
   | none=>rw[ht]at h;cases h
   | some t =>
    rw[ht]at h;cases t with
    | un=>cases h
    | frz v n =>
     cases h;obtain⟨u,h1,h2⟩:=R.frz i v n ht;exact⟨u,h1,q u H (aC.refl _) h2⟩
    | own xs n =>
     cases h;obtain⟨l,us,h1,h2,h3,h4⟩:=R.owns i xs n ht;refine⟨_,h1,q _ H (aC.refl _) ?_⟩;refine Rp.lst.mpr ⟨l,us,rfl,(fun z=>absurd z Hk),bB.of h3,h4.weak.mono fun b o e=> ?_⟩;unfold aM at e
     split at e
     ·cases e
     ·rename_i nb
      unfold del;have ne:b≠l:=fun z=>nb (z▸h2);rw[Hl ne];exact e
    | owd b xs n =>
     cases h;obtain⟨l,us,o,h1,h2,h3,ha,h4⟩:=R.obs i _ b xs n ht rfl;refine⟨_,h1,q _ H (aC.refl _) ?_⟩;refine Rp.at (fun z=>absurd z Hk) h3 ha (h4.weak.mono fun c o e=> ?_);unfold aM at e
     split at e
     ·cases e
     ·rename_i nb
      unfold del;have ne:c≠l:=fun z=>nb (z▸h2);rw[Hl ne];exact e
 ·split at h
  ·rename_i hg
   cases hx:ct.G.lookup x with
   | none=>rw[hx]at h;simp[bx,bh,cA,cH,bz,cC,cF,bj,cI,b9,cB,bm,bn,bi,cJ,bw,bv,cE,bt,br,bo,cG]at h
   | some v =>
    rw[hx]at h;have h:some (sc v)=some r:=by simpa [bx,bh,cA,cH,bz,cC,cF,bj,cI,b9,cB,bm,bn,bi,cJ,bw,bv,cE,bt,br,bo,cG]using h
    cases h;obtain⟨u,w,h1,h2,h3⟩:=C.glob x v hx;have g:Gl X x:=by
     show X.env.scope.names.lookup x=_;rw[C.S]
     simpa using hg
    exact we (zw g h1 h2 o1) (q _ _ (aC.refl _) (fe fun _=>h3 _ _ _))
  ·simp[bx,bh,cA,cH,bz,cC,cF,bj,cI,b9,cB,bm,bn,bi,cJ,bw,bv,cE,bt,br,bo,cG]at h
theorem rV{a b:Expr}{op:Operator}{pos:Pos}{x y r:RV}{rr:R2}(ho:fG X (binaryOp op) rr)(ha:aL X Hi τ a x)(hb:aL X Hi τ b y)
  (k:∀(O:List Addr)(σ:L2.St)(H H2:Hp)(u v:V)(Q:VK),aZ X.K Hi O τ σ H->aC H H2->af X.K Hi O H H2 x u->af X.K Hi O H H2 y v->(∀w H3,aC H2 H3->af X.K Hi O H H3 r w->Q w H3)->rr u v H2 Q) :
  aL X Hi τ (.BinOp a op b pos) r:=by
 intro O σ H Q R q;refine we (jf ho aY aY) ?_;refine ha O σ H _ R fun u H1 s1 r1=>hb O σ H1 _ (R.ext s1) fun v H2 s2 r2=> ?_;exact k O σ H H2 u v Q R (s1.trans s2) (r1.ext s2) (r2.back s1) fun w H3 s3 r3=>q w H3 (s1.trans (s2.trans s3)) r3
theorem af.int{O:List Addr}{σ:L2.St}{H H' :Hp}{x:RV}{u:V}{i:Int}(R:aZ X.K Hi O τ σ H)(s:aC H H')(h:af X.K Hi O H H' x u)(e:x.val=.int i):u=.int i:=by
 have z:=h.val R s;rw[e]at z;exact Rp.int.mp z
theorem af.str{O:List Addr}{σ:L2.St}{H H' :Hp}{x:RV}{u:V}{i:Str}(R:aZ X.K Hi O τ σ H)(s:aC H H')(h:af X.K Hi O H H' x u)(e:x.val=.str i):u=.str i:=by
 have z:=h.val R s;rw[e]at z;exact Rp.str.mp z
theorem af.bl{O:List Addr}{σ:L2.St}{H H' :Hp}{x:RV}{u:V}{i:Bool}(R:aZ X.K Hi O τ σ H)(s:aC H H')(h:af X.K Hi O H H' x u)(e:x.val=.bl i):u=.bl i:=by
 have z:=h.val R s;rw[e]at z;exact Rp.bl.mp z
theorem af.tup{O:List Addr}{σ:L2.St}{H H' :Hp}{x:RV}{u:V}{ys:List PV}(R:aZ X.K Hi O τ σ H)(s:aC H H')(h:af X.K Hi O H H' x u)(e:x.val=.tup ys):∃p us,u=.ref p/\cT X.K H' p us/\aG X.K Hi false ys H' us:=by
 have z:=h.val R s;rw[e]at z;exact Rp.tup.mp z
theorem af.lst{O:List Addr}{σ:L2.St}{H H' :Hp}{x:RV}{u:V}{ys:List PV}(R:aZ X.K Hi O τ σ H)(s:aC H H')(h:af X.K Hi O H H' x u)(e:x.val=.lst ys):∃p us,u=.ref p/\bB X.K H' p us/\aG X.K Hi false ys H' us:=by
 have z:=h.val R s;rw[e]at z;obtain⟨p,us,h1,_,h2,h3⟩:=Rp.lst.mp z;exact⟨p,us,h1,h2,h3.mono bC⟩
theorem af.itsL{O:List Addr}{σ:L2.St}{H H' :Hp}{r:RV}{u:V}{xs ys:List PV}{n:Bool}(R:aZ X.K Hi O τ σ H)(s:aC H H')(h:af X.K Hi O H H' r u)(e:r.its=some (xs,n))(ev:r.val=.lst ys) :
  ∃p us,u=.ref p/\bB X.K H' p us/\aG X.K Hi n xs (aM H' O) us:=by
 obtain⟨p,us,h1,h2,h3⟩:=h.its R s e
 rcases h2 with⟨h2,_⟩|⟨_,zs,h2⟩
 ·exact⟨p,us,h1,h2,h3⟩
 ·rw[ev]at h2
  cases h2
theorem dX{O:List Addr}{H H2:Hp}{xs:List PV}{n:Bool}{p:Addr}{us:List V}(s:aC H H2)(hp:H2 p=none)(r:aG X.K Hi n xs (aM H2 O) us):af X.K Hi O H (L2.upd H2 p (.lst us)) (.own xs n) (.ref p):=by
 refine⟨p,us,rfl,s.free hp,aD,r.mono (aJ fun b o e=> ?_)⟩;have ne:=aK e hp;unfold del;rw[Hl ne,aB ne];exact e
theorem tJ{O:List Addr}{σ:L2.St}{H H2:Hp}{p:Addr}{o:HO}(R:aZ X.K Hi O τ σ H)(s:aC H H2)(hp:H2 p=none):aM (L2.upd H2 p o) O p=some o:=by
 unfold aM;rw[Hl fun z=> ?_]
 ·exact aD
 ·obtain⟨us,e,_⟩:=(R.own p z).2
  rw[s _ _ e]at hp;cases hp
theorem Ab{O:List Addr}{σ:L2.St}{H H2:Hp}{p:Addr}{us:List V}(R:aZ X.K Hi O τ σ H)(s:aC H H2)(h:cT X.K H2 p us):cT X.K (aM H2 O) p us:=(R.ext s).tups.at h
theorem GH{n m:Bool}{xs ys:List PV}{H:Hp}{us vs:List V}(a:aG X.K Hi n xs H us)(b:aG X.K Hi m ys H vs):aG X.K Hi (n&&m) (xs++ys) H (us++vs):=by
 refine aG.app (a.low fun z=> ?_) (b.low fun z=> ?_)
 ·rw[Hb]at z;exact z.1
 ·rw[Hb]at z;exact z.2
theorem wN{O:List Addr}{H H' :Hp}{i:Int}:af X.K Hi O H H' (sc (.int i)) (.int i):=fe fun _=>Rp.int.mpr rfl
theorem El{O:List Addr}{H H' :Hp}{i:Bool}:af X.K Hi O H H' (sc (.bl i)) (.bl i):=fe fun _=>Rp.bl.mpr rfl
theorem scS{O:List Addr}{H H' :Hp}{i:Str}:af X.K Hi O H H' (sc (.str i)) (.str i):=fe fun _=>Rp.str.mpr rfl
theorem AL{xs:List PV}{n:Bool}{r:RV}(h:uY xs n=some r):xs.length<=LN/\r=.own xs n:=by
 unfold uY at h
 split at h
 ·rename_i e;cases h;exact⟨e,rfl⟩
 ·cases h
theorem AK{xs:List PV}{n:Bool}{r:RV}(h:uX xs n=some r):xs.length<=LN/\r=.frz (.tup xs) n:=by
 unfold uX at h
 split at h
 ·rename_i e;cases h;exact⟨e,rfl⟩
 ·cases h
theorem binI{a b:Expr}{op:Operator}{pos:Pos}{x y:RV}{i j:Int}{C:Int->Int->Prop}{g:Int->Int->V}{w:PV}(ho:fG X (binaryOp op) (rI C g))(ha:aL X Hi τ a x)(hb:aL X Hi τ b y)(ex:x.val=.int i)(ey:y.val=.int j)(c:C i j)
  (hg:∀G,Rp X.K Hi true w G (g i j)):aL X Hi τ (.BinOp a op b pos) (sc w) :=
 rV ho ha hb fun O σ H H2 u v Q R s ru rv q=>⟨i,j,ru.int R s ex,rv.int R s ey,c,q _ _ (aC.refl _) (fe hg)⟩
theorem Bu{a b:Expr}{op:Operator}{pos:Pos}{x y:RV}{i j:Int}{g:Int->Int->V}{w:PV}(ho:fG X (binaryOp op) (wV g))(ha:aL X Hi τ a x)(hb:aL X Hi τ b y)(ex:x.val=.int i)(ey:y.val=.int j)
  (hg:∀G,Rp X.K Hi true w G (g i j)):aL X Hi τ (.BinOp a op b pos) (sc w) :=
 rV ho ha hb fun O σ H H2 u v Q R s ru rv q=>⟨i,j,ru.int R s ex,rv.int R s ey,q _ _ (aC.refl _) (fe hg)⟩
theorem yR{a b:Expr}{op:Operator}{pos:Pos}{x y r:RV}(ha:aL X Hi τ a x)(hb:aL X Hi τ b y)(h:fm op x y=some r):aL X Hi τ (.BinOp a op b pos) r:=by
 cases op with
 | Add =>
  have h:rY x y=some r:=h;unfold rY at h
  split at h
  case h_1 i j e1 e2=>cases h;exact Bu qg ha hb e1 e2 fun _=>Rp.int.mpr rfl
  case h_2 i j e1 e2 =>
   split at h
   ·rename_i hz
    cases h;exact rV qf ha hb fun O σ H H2 u v Q R s ru rv q=>⟨i,j,ru.str R s e1,rv.str R s e2,by rw[dv];exact hz,q _ _ (aC.refl _) scS⟩
   ·cases h
  case h_3=>cases h
 | Sub =>
  have h:rW x y=some r:=h;unfold rW at h
  split at h
  case h_1 i j e1 e2=>cases h;exact Bu Cs ha hb e1 e2 fun _=>Rp.int.mpr rfl
  case h_2=>cases h
 | Mult =>
  have h:nF x y=some r:=h;unfold nF at h
  split at h
  case h_1 i j e1 e2 =>
   split at h
   ·rename_i c
    cases h;exact binI Cw ha hb e1 e2 c fun _=>Rp.int.mpr rfl
   ·split at h
    ·rename_i c
     cases h;exact binI AC ha hb e1 e2 c fun _=>Rp.int.mpr rfl
    ·cases h
  case h_2=>cases h
 | FloorDiv =>
  have h:eS x y=some r:=h;unfold eS at h
  split at h
  case h_1 i j e1 e2 =>
   split at h
   ·rename_i c
    cases h;exact binI xD ha hb e1 e2 ⟨c.1,Jo ((Nat.log2_lt (n:=j.natAbs) (k:=200) (by omega)).mpr (by omega)) (by decide)⟩ fun _=>Rp.int.mpr rfl
   ·cases h
  case h_2=>cases h
 | Mod =>
  have h:rX x y=some r:=h;unfold rX at h
  split at h
  case h_1 i j e1 e2 =>
   split at h
   ·rename_i c
    cases h;exact binI Cy ha hb e1 e2 c fun _=>Rp.int.mpr rfl
   ·cases h
  case h_2=>cases h
 | LShift =>
  have h:iZ x y=some r:=h;unfold iZ at h
  split at h
  case h_1 i j e1 e2 =>
   split at h
   ·rename_i c
    cases h;exact binI Cu ha hb e1 e2 c fun _=>Rp.int.mpr rfl
   ·cases h
  case h_2=>cases h
 | _=>exact absurd (show(none:Option RV)=some r from h) (by intro z;cases z)
mutual
theorem ax{pins:List (Addr×Obj)}{σ:L2.St}{H:Hp}{s:Shared}(I:Inv X pins σ H s):∀{a:PV}{n:Nat}{u:V}{u' :Value},lO n a=true->Rp X.K Hi false a H u->RelV u u' ->∃as,Reads s.heap u' (pL a) as
 | .non,_,_,_,_,r,e=>by cases Rp.non.mp r;cases e;exact⟨_,.none⟩
 | .bl b,_,_,_,_,r,e=>by cases Rp.bl.mp r;cases e;exact⟨_,.bool b⟩
 | .int i,_,_,_,_,r,e=>by cases Rp.int.mp r;obtain⟨t,rfl⟩:=e;exact⟨_,.int i t⟩
 | .str z,_,_,_,_,r,e=>by cases Rp.str.mp r;obtain⟨t,rfl⟩:=e;exact⟨_,.str z t⟩
 | .lst xs,n,_,_,f,r,e=>by
  obtain⟨p,us,rfl,_,l,r⟩:=Rp.lst.mp r;cases e;cases n with
  | zero=>cases f
  | succ n =>
   obtain⟨its,rv,pl,_⟩:=I.list l;obtain⟨as,z⟩:=gI I (xs:=xs) (n:=n) f (r.mono bC) rv;obtain⟨o,ho,hc,m,hd⟩:=pl.isList;exact⟨_,.list ho hc hd (by simpa using z)⟩
 | .tup xs,n,_,_,f,r,e=>by
  obtain⟨p,us,rfl,l,r⟩:=Rp.tup.mp r;cases e;cases n with
  | zero=>cases f
  | succ n =>
   obtain⟨its,rv,pl,_⟩:=I.tuple l;obtain⟨as,z⟩:=gI I (xs:=xs) (n:=n) f r rv;obtain⟨o,ho,hc,m,hd⟩:=pl;exact⟨_,.tuple ho hc hd (by simpa using z)⟩
 | .dK _ _,n,_,_,f,_,_=>by cases n<;>cases f
 | .dT _ _,n,_,_,f,_,_=>by cases n<;>cases f
theorem gI{pins:List (Addr×Obj)}{σ:L2.St}{H:Hp}{s:Shared}(I:Inv X pins σ H s):∀{xs:List PV}{n:Nat}{us:List V}{us' :List Value},xs.all (lO n)=true->aG X.K Hi false xs H us->aT us us' ->∃as,ReadsAll s.heap us' (eA xs) as
 | [],_,_,_,_,r,e=>by
  unfold aG at r;subst r;cases e;exact⟨_,.nil⟩
 | x::xs,n,_,_,f,r,e=>by
  unfold aG at r;obtain⟨u,us,rfl,r1,r2⟩:=r;cases e with
  | cons e1 e2 =>
   rw[KH,Hb]at f;obtain⟨as,z⟩:=ax I f.1 r1 e1;obtain⟨bs,y⟩:=gI I f.2 r2 e2;exact⟨_,.cons z y⟩
end
mutual
theorem de:∀{a:PV}{n:Nat},lO n a=true->(pL a).canLay0=true/\(pL a).depth<=n
 | .non,n,_=>⟨rfl,IN _⟩
 | .bl _,n,_=>⟨rfl,IN _⟩
 | .int _,n,_=>⟨rfl,IN _⟩
 | .str z,n,h=>⟨by cases n<;>exact h,IN _⟩
 | .lst xs,0,h=>by cases h
 | .lst xs,n+1,h=>⟨(cq (xs:=xs) (n:=n) h).1,Nat.succ_le_succ (cq (xs:=xs) (n:=n) h).2⟩
 | .tup xs,0,h=>by cases h
 | .tup xs,n+1,h=>⟨(cq (xs:=xs) (n:=n) h).1,Nat.succ_le_succ (cq (xs:=xs) (n:=n) h).2⟩
 | .dK _ _,n,h=>by cases n<;>cases h
 | .dT _ _,n,h=>by cases n<;>cases h
theorem cq:∀{xs:List PV}{n:Nat},xs.all (lO n)=true->PyData.canLayAll0 (eA xs)=true/\PyData.depthAll (eA xs)<=n
 | [],n,_=>⟨rfl,IN _⟩
 | x::xs,n,h=>by
  rw[KH,Hb]at h;obtain⟨a,b⟩:=de h.1;obtain⟨c,d⟩:=cq h.2;refine⟨?_,?_⟩
  ·show((pL x).canLay0&&PyData.canLayAll0 (eA xs))=true
   rw[a,c];rfl
  ·show max (pL x).depth (PyData.depthAll (eA xs))<=n
   omega
end
mutual
theorem jK:∀(a b:PV),PyData.eqv (pL a) (pL b)=nM a b
 | .lst xs,b=>by
  cases b with
  | lst ys=>show PyData.eqvAll (eA xs) (eA ys)=mw xs ys;exact j9 xs ys
  | _=>rfl
 | .tup xs,b=>by
  cases b with
  | tup ys=>show PyData.eqvAll (eA xs) (eA ys)=mw xs ys;exact j9 xs ys
  | _=>rfl
 | .non,b=>by cases b<;>rfl
 | .bl x,b=>by cases b<;>first|rfl|exact beq_eq_decide _ _|(unfold nM;simp[pL,PyData.eqv,Ak,KF])
 | .int x,b=>by cases b<;>first|rfl|exact beq_eq_decide _ _|(unfold nM;simp[pL,PyData.eqv,Ak,KF])
 | .str x,b=>by cases b<;>first|rfl|exact beq_eq_decide _ _|(unfold nM;simp[pL,PyData.eqv,Ak,KF])
 | .dK k v,b=>by cases b<;>rfl
 | .dT k v,b=>by cases b<;>rfl
theorem j9:∀(xs ys:List PV),PyData.eqvAll (eA xs) (eA ys)=mw xs ys
 | [],[]=>rfl
 | [],_::_=>rfl
 | _::_,[]=>rfl
 | x::xs,y::ys=>by
  show(PyData.eqv (pL x) (pL y)&&PyData.eqvAll (eA xs) (eA ys))=(nM x y&&mw xs ys);rw[jK x y,j9 xs ys]
end
theorem eQ(x:PV):∀ys:List PV,((eA ys).any fun y=>PyData.eqv y (pL x))=ys.any fun y=>nM y x
 | []=>rfl
 | y::ys=>by
  show(PyData.eqv (pL y) (pL x)||(eA ys).any fun y=>PyData.eqv y (pL x))=(nM y x||ys.any fun y=>nM y x);rw[jK,eQ x ys]
variable(X Hi)in
noncomputable def Fy(g:Bool->Bool):R2:=fun x y H Q=>∃a b,lO 12 a=true/\lO 12 b=true/\Rp X.K Hi false a H x/\Rp X.K Hi false b H y/\Q (.bl (g (nM a b))) H
theorem C0(hu:X.A.units+64<cLine):fG X (compareOp .Eq) (Fy X Hi id):=by
 intro pins s σ H x y u v Q I rx ry h;obtain⟨a,b,fa,fb,ra,rb,q⟩:=h;obtain⟨as,za⟩:=ax I fa ra rx;obtain⟨bs,zb⟩:=ax I fb rb ry;obtain⟨ca,da⟩:=de fa;obtain⟨cb,db⟩:=de fb;refine SeqAt.compareEq_reads za zb ca cb (by omega) ?_;rw[jK];exact⟨.bl _,H,I,rfl,q⟩
theorem Cv(hu:X.A.units+64<cLine):fG X (compareOp .NotEq) (Fy X Hi not):=by
 intro pins s σ H x y u v Q I rx ry h;obtain⟨a,b,fa,fb,ra,rb,q⟩:=h;obtain⟨as,za⟩:=ax I fa ra rx;obtain⟨bs,zb⟩:=ax I fb rb ry;obtain⟨ca,da⟩:=de fa;obtain⟨cb,db⟩:=de fb;refine SeqAt.compareNe_reads za zb ca cb (by omega) ?_;rw[jK];exact⟨.bl _,H,I,rfl,q⟩
variable(X Hi)in
noncomputable def Fx(g:Bool->Bool):R2:=fun x y H Q=>∃a ys,lO 12 a=true/\ys.all (lO 12)=true/\Rp X.K Hi false a H x/\(Rp X.K Hi false (.lst ys) H y\/Rp X.K Hi false (.tup ys) H y)/\Q (.bl (g (ys.any fun y=>nM y a))) H
theorem Cz(hu:X.A.units+64<cLine):fG X (compareOp .In) (Fx X Hi id):=by
 intro pins s σ H x y u v Q I rx ry h;obtain⟨a,ys,fa,fb,ra,rb,q⟩:=h;obtain⟨as,za⟩:=ax I fa ra rx;obtain⟨ca,da⟩:=de fa;obtain⟨cb,db⟩:=cq fb
 rcases rb with rb|rb
 ·obtain⟨bs,zb⟩:=ax I (a:=.lst ys) (n:=13) fb rb ry
  refine SeqAt.in_list_reads zb za cb ca (by omega) ?_;rw[eQ];exact⟨.bl _,H,I,rfl,q⟩
 ·obtain⟨bs,zb⟩:=ax I (a:=.tup ys) (n:=13) fb rb ry
  refine SeqAt.in_tuple_reads zb za cb ca (by omega) ?_;rw[eQ];exact⟨.bl _,H,I,rfl,q⟩
theorem AB(hu:X.A.units+64<cLine):fG X (compareOp .NotIn) (Fx X Hi not):=by
 intro pins s σ H x y u v Q I rx ry h;obtain⟨a,ys,fa,fb,ra,rb,q⟩:=h;obtain⟨as,za⟩:=ax I fa ra rx;obtain⟨ca,da⟩:=de fa;obtain⟨cb,db⟩:=cq fb
 rcases rb with rb|rb
 ·obtain⟨bs,zb⟩:=ax I (a:=.lst ys) (n:=13) fb rb ry
  refine SeqAt.notIn_list_reads zb za cb ca (by omega) ?_;rw[eQ];exact⟨.bl _,H,I,rfl,q⟩
 ·obtain⟨bs,zb⟩:=ax I (a:=.tup ys) (n:=13) fb rb ry
  refine SeqAt.notIn_tuple_reads zb za cb ca (by omega) ?_;rw[eQ];exact⟨.bl _,H,I,rfl,q⟩
theorem xZ{y:PV}{k:ag}{n:Bool}{G:Hp}{v:V}(h:jp y=some k)(r:Rp X.K Hi n y G v):v=kV k:=by
 cases y with
 | int i=>cases h;exact Rp.int.mp r
 | str z=>cases h;exact Rp.str.mp r
 | _=>cases h
theorem Rp.dT{n:Bool}{ks:List (List ag)}{vs:List PV}{G:Hp}{u:V}(h:Rp X.K Hi n (.dT ks vs) G u):∃p us,u=.ref p/\G p=some (.dT (ks.zip us))/\ks.length=us.length/\aG X.K Hi n vs (IR.del G p) us:=by
 unfold Rp at h;obtain⟨p,us,e,_,h1,h2,h3⟩:=h;exact⟨p,us,e,h1,h2,h3⟩
theorem Rp.dK{n:Bool}{ks:List ag}{vs:List PV}{G:Hp}{u:V}(h:Rp X.K Hi n (.dK ks vs) G u):∃p us,u=.ref p/\G p=some (.dK (ks.zip us))/\ks.length=us.length/\aG X.K Hi n vs (IR.del G p) us:=by
 unfold Rp at h;obtain⟨p,us,e,_,h1,h2,h3⟩:=h;exact⟨p,us,e,h1,h2,h3⟩
theorem yA{a b:PV}{t:Bool}{H H' :Hp}{u v:V}(h:eqs a b=some t)(ha:Rp X.K Hi false a H u)(hb:Rp X.K Hi false b H' v):CK u v=true/\decide (u=v)=t:=by
  cases a<;>cases b<;>first
    | exact absurd (show(none:Option Bool)=some t from h) (by intro z;cases z)
    | (have e:=IB (show some _=some t from h)
       subst e
       first
       | rw[Rp.int.mp ha]|rw[Rp.str.mp ha]|rw[Rp.bl.mp ha]|rw[Rp.non.mp ha]
       first
       | rw[Rp.int.mp hb]|rw[Rp.str.mp hb]|rw[Rp.bl.mp hb]|rw[Rp.non.mp hb]
       exact⟨rfl,by simp⟩)
theorem mq{a:PV}{H:Hp}{u:V}(ha:Rp X.K Hi false a H u)(f:pE a=true):fj u=true:=by
 cases a with
 | non=>rw[Rp.non.mp ha];rfl
 | bl b=>rw[Rp.bl.mp ha];rfl
 | int b=>rw[Rp.int.mp ha];rfl
 | str b=>rw[Rp.str.mp ha];rfl
 | _=>cases f
theorem Du{a b:PV}{H H' :Hp}{u v:V}(ha:Rp X.K Hi false a H u)(hb:Rp X.K Hi false b H' v)(fa:pE a=true)(fb:pE b=true):ve u v=Ak a b:=by
 cases a<;>(try cases fa)<;>cases b<;>(try cases fb) <;>
  (first|rw[Rp.int.mp ha]|rw[Rp.str.mp ha]|rw[Rp.bl.mp ha]|rw[Rp.non.mp ha]) <;>
  (first|rw[Rp.int.mp hb]|rw[Rp.str.mp hb]|rw[Rp.bl.mp hb]|rw[Rp.non.mp hb]) <;>
  first|rfl|exact beq_eq_decide _ _|exact(beq_eq_decide _ _).symm|(simp[ve,Ak,KF];done)|(unfold ve Ak;simp only[beq_eq_decide])
theorem j7:∀{xs:List PV}{H:Hp}{us:List V},aG X.K Hi false xs H us->xs.all pE=true->us.all fj=true
 | [],_,_,h,_=>by unfold aG at h;subst h;rfl
 | x::xs,_,_,h,f=>by
  unfold aG at h;obtain⟨u,r,rfl,a,b⟩:=h;rw[KH,Hb]at f ⊢;exact⟨mq a f.1,j7 b f.2⟩
theorem rZ{x:PV}{H' :Hp}{v:V}(hb:Rp X.K Hi false x H' v)(fb:pE x=true):∀{xs:List PV}{H:Hp}{us:List V},aG X.K Hi false xs H us->xs.all pE=true->inV v us=xs.any fun y=>Ak y x
 | [],_,_,h,_=>by unfold aG at h;subst h;rfl
 | y::xs,_,_,h,f=>by
  unfold aG at h;obtain⟨u,r,rfl,a,b⟩:=h;rw[KH,Hb]at f;show(ve u v||inV v r)=_;rw[J1,rZ hb fb b f.2,Du a hb f.1 fb]
theorem C8{a:PV}{H:Hp}{u:V}(ha:Rp X.K Hi false a H u)(h:∀z,a≠z\/z≠PV.non):u≠.non:=by
 intro e;subst e;cases a with
 | non=>rcases h .non with z|z<;>exact z rfl
 | bl b=>cases Rp.bl.mp ha
 | int b=>cases Rp.int.mp ha
 | str b=>cases Rp.str.mp ha
 | lst xs=>obtain⟨p,us,z,_⟩:=Rp.lst.mp ha;cases z
 | tup xs=>obtain⟨p,us,z,_⟩:=Rp.tup.mp ha;cases z
 | dK ks vs=>unfold Rp at ha;obtain⟨p,us,z,_⟩:=ha;cases z
 | dT ks vs=>unfold Rp at ha;obtain⟨p,us,z,_⟩:=ha;cases z
theorem pP(hun:X.A.units+64<cLine){op:CmpOp}{x y:RV}{t:Bool}(h:bX op x.val y.val=some t):∃rr:R2,fG X (compareOp op) rr /\
  ∀(O:List Addr)(σ:L2.St)(H H2:Hp)(u v:V)(Q:VK),aZ X.K Hi O τ σ H->aC H H2->af X.K Hi O H H2 x u->af X.K Hi O H H2 y v->Q (.bl t) H2->rr u v H2 Q:=by
 cases op with
 | Lt =>
  have h:yL x.val y.val=some t:=h;unfold yL at h
  split at h
  case h_1 i j e1 e2=>cases h;exact⟨_,F9,fun O σ H H2 u v Q R s ru rv q=>⟨i,j,ru.int R s e1,rv.int R s e2,q⟩⟩
  case h_2=>cases h
 | LtE =>
  have h:rK x.val y.val=some t:=h;unfold rK at h
  split at h
  case h_1 i j e1 e2=>cases h;exact⟨_,GA,fun O σ H H2 u v Q R s ru rv q=>⟨i,j,ru.int R s e1,rv.int R s e2,q⟩⟩
  case h_2=>cases h
 | Gt =>
  have h:yO x.val y.val=some t:=h;unfold yO at h
  split at h
  case h_1 i j e1 e2=>cases h;exact⟨_,GB,fun O σ H H2 u v Q R s ru rv q=>⟨i,j,ru.int R s e1,rv.int R s e2,q⟩⟩
  case h_2=>cases h
 | GtE =>
  have h:rL x.val y.val=some t:=h;unfold rL at h
  split at h
  case h_1 i j e1 e2=>cases h;exact⟨_,GC,fun O σ H H2 u v Q R s ru rv q=>⟨i,j,ru.int R s e1,rv.int R s e2,q⟩⟩
  case h_2=>cases h
 | Eq =>
  have h:Bp x.val y.val=some t:=h;unfold Bp at h
  split at h
  ·rename_i z
   cases h;refine⟨_,Bi,fun O σ H H2 u v Q R s ru rv q=> ?_⟩;obtain⟨z1,z2⟩:=yA z (ru.val R s) (rv.val R s);exact⟨z1,by rw[z2];exact q⟩
  ·split at h
   ·rename_i c
    rw[Hb]at c;cases h;exact⟨_,C0 (Hi:=Hi) hun,fun O σ H H2 u v Q R s ru rv q=>⟨_,_,c.1,c.2,ru.val R s,rv.val R s,q⟩⟩
   ·cases h
 | NotEq =>
  have h:(Bp x.val y.val).map (!·)=some t:=h;obtain⟨k,e,rfl⟩:∃k,Bp x.val y.val=some k/\t= !k:=by
   cases e:Bp x.val y.val with
   | none=>rw[e]at h;cases h
   | some k=>rw[e]at h;cases h;exact⟨k,rfl,rfl⟩
  unfold Bp at e
  split at e
  ·rename_i z
   cases e;refine⟨_,F8,fun O σ H H2 u v Q R s ru rv q=> ?_⟩;obtain⟨z1,z2⟩:=yA z (ru.val R s) (rv.val R s);exact⟨z1,by rw[z2];exact q⟩
  ·split at e
   ·rename_i c
    rw[Hb]at c;cases e;exact⟨_,Cv (Hi:=Hi) hun,fun O σ H H2 u v Q R s ru rv q=>⟨_,_,c.1,c.2,ru.val R s,rv.val R s,q⟩⟩
   ·cases e
 | Is =>
  have h:yM x.val y.val=some t:=h;unfold yM at h
  split at h
  case h_1 e1 e2 =>
   cases h;refine⟨_,xC,fun O σ H H2 u v Q R s ru rv q=> ?_⟩;have z1:=ru.val R s;have z2:=rv.val R s;rw[e1]at z1;rw[e2]at z2;exact⟨Rp.non.mp z2,by rw[Rp.non.mp z1];exact q⟩
  case h_2 e2 ne =>
   cases h;refine⟨_,xC,fun O σ H H2 u v Q R s ru rv q=> ?_⟩;have z2:=rv.val R s;rw[e2]at z2;have n:u≠.non:=C8 (ru.val R s) fun z=>by
    by_cases c:z=.non
    ·left;intro c2;exact ne (c2.trans c)
    ·right;exact c
   exact⟨Rp.non.mp z2,by rw[Ij n];exact q⟩
  case h_3=>cases h
 | In =>
  have h:yN x.val y.val=some t:=h;unfold yN at h
  split at h
  case h_1 ys e2 =>
   have e:xk x.val ys=some t:=h;unfold xk at e
   split at e
   ·rename_i c
    cases e;refine⟨_,uV,fun O σ H H2 u v Q R s ru rv q=> ?_⟩;obtain⟨p,us,rfl,l,r⟩:=rv.lst R s e2;exact⟨p,us,rfl,.inl l,mq (ru.val R s) c.1,j7 r c.2,by rw[rZ (ru.val R s) c.1 r c.2];exact q⟩
   ·split at e
    ·rename_i c
     rw[Hb]at c;cases e;exact⟨_,Cz (Hi:=Hi) hun,fun O σ H H2 u v Q R s ru rv q=>⟨_,ys,c.1,c.2,ru.val R s,.inl (by have z:=rv.val R s;rw[e2]at z;exact z),q⟩⟩
    ·cases e
  case h_2=>cases h
 | NotIn =>
  have h:kD x.val y.val=some t:=h;unfold kD at h
  split at h
  case h_1 ys e2 =>
   obtain⟨k,e,rfl⟩:∃k,xk x.val ys=some k/\t= !k:=by
    cases e:xk x.val ys with
    | none=>rw[e]at h;cases h
    | some k=>rw[e]at h;cases h;exact⟨k,rfl,rfl⟩
   unfold xk at e
   split at e
   ·rename_i c
    cases e;refine⟨_,mQ,fun O σ H H2 u v Q R s ru rv q=> ?_⟩;obtain⟨p,us,rfl,l,r⟩:=rv.lst R s e2;exact⟨p,us,rfl,.inl l,mq (ru.val R s) c.1,j7 r c.2,by rw[rZ (ru.val R s) c.1 r c.2];exact q⟩
   ·split at e
    ·rename_i c
     rw[Hb]at c;cases e;exact⟨_,AB (Hi:=Hi) hun,fun O σ H H2 u v Q R s ru rv q=>⟨_,ys,c.1,c.2,ru.val R s,.inl (by have z:=rv.val R s;rw[e2]at z;exact z),q⟩⟩
    ·cases e
  case h_2=>cases h
 | _=>exact absurd (show(none:Option Bool)=some t from h) (by intro z;cases z)
theorem Bk{op:CmpOp}{b:Expr}(h:dP b=false):behindInMarks op b=false:=by
 cases b<;>first|rfl|cases h
theorem EC(hun:X.A.units+64<cLine){a b:Expr}{op:CmpOp}{pos:Pos}{x y:RV}{t:Bool}(ha:aL X Hi τ a x)(hb:aL X Hi τ b y)(hs:dP b=false)(h:bX op x.val y.val=some t):aL X Hi τ (.Compare a [op] [b] pos) (sc (.bl t)):=by
 obtain⟨rr,ho,k⟩:=pP (X:=X) (Hi:=Hi) (τ:=τ) hun h;intro O σ H Q R q;refine we (zy ho aY aY (Bk hs)) ?_;refine ha O σ H _ R fun u H1 s1 r1=>hb O σ H1 _ (R.ext s1) fun v H2 s2 r2=> ?_;exact k O σ H H2 u v Q R (s1.trans s2) (r1.ext s2) (r2.back s1) (q _ _ (s1.trans s2) El)
theorem EB(hun:X.A.units+64<cLine){a b:Expr}{op:CmpOp}{pos:Pos}{x y:RV}{t:Bool}(ha:aL X Hi τ a x)(hb:aL X Hi τ b y)(hs:dP b=false)(h:bX op x.val y.val=some t):eT X Hi τ (.Compare a [op] [b] pos) t:=by
 obtain⟨rr,ho,k⟩:=pP (X:=X) (Hi:=Hi) (τ:=τ) hun h;intro O σ H Q R q;refine wt (sd ho aY aY (Bk hs)) ?_;refine ha O σ H _ R fun u H1 s1 r1=>hb O σ H1 _ (R.ext s1) fun v H2 s2 r2=> ?_;exact k O σ H H2 u v _ R (s1.trans s2) (r1.ext s2) (r2.back s1) ⟨t,rfl,q _ (s1.trans s2)⟩
theorem DA{a:Expr}{pos:Pos}{x:RV}{i:Int}(ha:aL X Hi τ a x)(e:x.val=.int i):aL X Hi τ (.UnaryOp .USub a pos) (sc (.int (-i))):=by
 intro O σ H Q R q;refine we (F4 B5 aY) ?_;exact ha O σ H _ R fun u H1 s1 r1=>⟨i,r1.int R s1 e,q _ _ s1 wN⟩
theorem C7{a:Expr}{pos:Pos}{x:RV}{b:Bool}(ha:aL X Hi τ a x)(e:x.val=.bl b):aL X Hi τ (.UnaryOp .Not a pos) (sc (.bl !b)):=by
 intro O σ H Q R q;refine we (Cq aY) ?_;exact ha O σ H _ R fun u H1 s1 r1=>⟨b,r1.bl R s1 e,q _ _ s1 El⟩
theorem C4{op:BoolOp}{a:Expr}{pos:Pos}{x:RV}(ha:aL X Hi τ a x):aL X Hi τ (.BoolOp op [a] pos) x:=by
 intro O σ H Q R q;exact we (Cp aY) (ha O σ H _ R q)
theorem Gz{a b:Expr}{aU:List Expr}{pos:Pos}{x y:RV}(ha:aL X Hi τ a x)(e:x.val=.bl true)(hb:aL X Hi τ (.BoolOp .And (b::aU) pos) y):aL X Hi τ (.BoolOp .And (a::b::aU) pos) y:=by
 intro O σ H Q R q;refine we (xB aY aY) ?_;exact ha O σ H _ R fun u H1 s1 r1=>⟨true,r1.bl R s1 e,jC (hb O σ H1 _ (R.ext s1) fun w H2 s2 r2=>q w H2 (s1.trans s2) (r2.back s1))⟩
theorem G6{a b:Expr}{aU:List Expr}{pos:Pos}{x:RV}(ha:aL X Hi τ a x)(e:x.val=.bl false):aL X Hi τ (.BoolOp .And (a::b::aU) pos) (sc (.bl false)):=by
 intro O σ H Q R q;refine we (xB aY aY) ?_;exact ha O σ H _ R fun u H1 s1 r1=>⟨false,r1.bl R s1 e,jq (q _ _ s1 El)⟩
theorem or_f{a b:Expr}{aU:List Expr}{pos:Pos}{x y:RV}(ha:aL X Hi τ a x)(e:x.val=.bl false)(hb:aL X Hi τ (.BoolOp .Or (b::aU) pos) y):aL X Hi τ (.BoolOp .Or (a::b::aU) pos) y:=by
 intro O σ H Q R q;refine we (Be aY aY) ?_;exact ha O σ H _ R fun u H1 s1 r1=>⟨false,r1.bl R s1 e,jq (hb O σ H1 _ (R.ext s1) fun w H2 s2 r2=>q w H2 (s1.trans s2) (r2.back s1))⟩
theorem or_t{a b:Expr}{aU:List Expr}{pos:Pos}{x:RV}(ha:aL X Hi τ a x)(e:x.val=.bl true):aL X Hi τ (.BoolOp .Or (a::b::aU) pos) (sc (.bl true)):=by
 intro O σ H Q R q;refine we (Be aY aY) ?_;exact ha O σ H _ R fun u H1 s1 r1=>⟨true,r1.bl R s1 e,jC (q _ _ s1 El)⟩
theorem DT{c a b:Expr}{pos:Pos}{t:Bool}{r:RV}(hc:eT X Hi τ c t)(h:aL X Hi τ (if t=true then a else b) r):aL X Hi τ (.IfExp c a b pos) r:=by
 intro O σ H Q R q;refine we (wz jY aY aY) ?_;refine hc O σ H _ R fun H1 s1=> ?_;cases t with
 | true=>exact jC ((show aL X Hi τ a r from h) O σ H1 _ (R.ext s1) fun w H2 s2 r2=>q w H2 (s1.trans s2) (r2.back s1))
 | false=>exact jq ((show aL X Hi τ b r from h) O σ H1 _ (R.ext s1) fun w H2 s2 r2=>q w H2 (s1.trans s2) (r2.back s1))
theorem n8{v:PV}{b:Bool}{H:Hp}{u:V}(h:n9 v=some b)(r:Rp X.K Hi false v H u):EZ X.K u H b:=by
 cases v with
 | non=>cases h;rw[Rp.non.mp r];rfl
 | bl c=>cases h;rw[Rp.bl.mp r];rfl
 | int i=>cases h;rw[Rp.int.mp r];rfl
 | str z =>
  have h:(if z.length<=LN then some ((z.length:Int) !=0)else none)=some b:=h
  split at h
  ·rename_i c
   cases h;rw[Rp.str.mp r];exact⟨by rw[dv];exact c,rfl⟩
  ·cases h
 | lst xs =>
  cases h;obtain⟨p,us,rfl,_,l,r⟩:=Rp.lst.mp r;have:=r.len;exact .inl ⟨us,l,by cases xs<;>cases us<;>simp_all⟩
 | tup xs =>
  cases h;obtain⟨p,us,rfl,l,r⟩:=Rp.tup.mp r;have:=r.len;exact .inr (.inl ⟨us,l,by cases xs<;>cases us<;>simp_all⟩)
 | dK ks vs =>
  cases h;unfold Rp at r;obtain⟨p,us,rfl,_,l,z,r⟩:=r;exact .inr (.inr ⟨_,l,by cases ks<;>cases us<;>simp_all⟩)
 | dT ks vs=>cases h
theorem B3{e:Expr}{x:RV}{b:Bool}(he:aL X Hi τ e x)(h:n9 x.val=some b)(hp:∀whole,isTrue e X.env whole=(do let v<-whole;standAt e.pos;holding [v] (truthy v))):eT X Hi τ e b:=by
 intro O σ H Q R q;refine wt (oN aY hp) ?_;exact he O σ H _ R fun u H1 s1 r1=>⟨b,n8 h (r1.val R s1),q _ s1⟩
theorem C6{a:Expr}{pos:Pos}{b:Bool}(ha:eT X Hi τ a b):eT X Hi τ (.UnaryOp .Not a pos) !b:=by
 intro O σ H Q R q;exact wt (wb jY) (ha O σ H _ R fun H1 s1=>q _ s1)
noncomputable def kf(X:Cx)(Hi:Hp)(τ:En)(e:Expr)(b:Bool):Prop:=∀(O:List Addr)(σ:L2.St)(H:Hp)(Q:Bool->Hp->Prop),aZ X.K Hi O τ σ H->(∀H',aC H H' ->Q b H') ->
 ∀(whole:Sem Value)(pins:List (Addr×Obj))(s:Shared),Inv X pins σ H s->wpAny (model X.prog X.w) X.A (isTrue e X.env whole) (TP X pins σ Q) X.xe s
theorem Fz{e:Expr}:PW X e (fun σ H Q=>∀(whole:Sem Value)(pins:List (Addr×Obj))(s:Shared),Inv X pins σ H s->wpAny (model X.prog X.w) X.A (isTrue e X.env whole) (TP X pins σ Q) X.xe s):=fun wh pins s σ H Q I h=>h wh pins s I
theorem kf.tc{e:Expr}{b:Bool}(h:kf X Hi τ e b):eT X Hi τ e b:=fun O σ H Q R q pins s I=>h O σ H Q R q _ pins s I
theorem C3{op:BoolOp}{a:Expr}{pos:Pos}{b:Bool}(ha:eT X Hi τ a b):kf X Hi τ (.BoolOp op [a] pos) b:=by
 intro O σ H Q R q wh pins s I;cases op with
 | And=>exact zi jY wh pins s σ H Q I (ha O σ H Q R q)
 | Or=>exact wW jY wh pins s σ H Q I (ha O σ H Q R q)
theorem ya{a b:Expr}{aU:List Expr}{pos:Pos}{t u:Bool}(ha:eT X Hi τ a t)(hb:if t=true then kf X Hi τ (.BoolOp .And (b::aU) pos) u else u=false):kf X Hi τ (.BoolOp .And (a::b::aU) pos) u:=by
 intro O σ H Q R q wh pins s I;refine Ca jY Fz wh pins s σ H Q I ?_;refine ha O σ H _ R fun H1 s1=> ?_;cases t with
 | true=>exact jC ((show kf X Hi τ _ u from hb) O σ H1 _ (R.ext s1) fun H2 s2=>q _ (s1.trans s2))
 | false =>
  have hb:u=false:=hb;subst hb;exact jq (q _ s1)
theorem Bg{a b:Expr}{aU:List Expr}{pos:Pos}{t u:Bool}(ha:eT X Hi τ a t)(hb:if t=true then u=true else kf X Hi τ (.BoolOp .Or (b::aU) pos) u):kf X Hi τ (.BoolOp .Or (a::b::aU) pos) u:=by
 intro O σ H Q R q wh pins s I;refine Bc jY Fz wh pins s σ H Q I ?_;refine ha O σ H _ R fun H1 s1=> ?_;cases t with
 | false=>exact jq ((show kf X Hi τ _ u from hb) O σ H1 _ (R.ext s1) fun H2 s2=>q _ (s1.trans s2))
 | true =>
  have hb:u=true:=hb;subst hb;exact jC (q _ s1)
end
end IR
namespace L2
open PySem PySem.Spec PyProof.Rows
section
variable{X:Cx}
inductive HA(K:W.Frag)(H:Hp):V->Value->Prop where
 | of {x:V} {t:Value} (h:ie K H x t):HA K H x t
 | lst {a:Addr} {xs:List V} (e:bB K H a xs):HA K H (.ref a) (.type "list")
 | tup {a:Addr} {xs:List V} (e:cT K H a xs):HA K H (.ref a) (.type "tuple")
theorem rP:bI X (.builtin "isinstance") (fun xs H Q=>∃x c t b,xs=[x,.ty c]/\HA X.K H x t/\W.kitOne X.K t (.type c)=some b/\Q (.bl b) H):=by
 intro pins s σ H xs us Q I r h;obtain⟨x,c,t,b,rfl,ty,e,q⟩:=h;obtain⟨u,w',rfl,rx,ry⟩:=vals2 r;cases ry;cases ty with
 | of ty=>exact uh I rx ty e fun tk=>⟨.bl b,H,I.tok _,rfl,q⟩
 | lst l =>
  cases rx;obtain⟨its,r',pl,hz⟩:=I.list l;obtain⟨o,n,h1,h2,_⟩:=pl;exact Jp W.kitx_list I.kIn ⟨o,h1,h2⟩ e (fun z=>nomatch z) fun tk=>⟨.bl b,H,I.tok _,rfl,q⟩
 | tup l =>
  cases rx;obtain⟨its,r',pl,hz⟩:=I.tuple l;obtain⟨o,h1,h2,_⟩:=pl;exact Jp W.kitx_tuple I.kIn ⟨o,h1,h2⟩ e (fun z=>nomatch z) fun tk=>⟨.bl b,H,I.tok _,rfl,q⟩
end
section
variable{K:W.Frag}
theorem kits:(W.kitOne K (.type "NoneType") (.type "int")=some false/\W.kitOne K (.type "NoneType") (.type "str")=some false/\W.kitOne K (.type "NoneType") (.type "list")=some false/\W.kitOne K (.type "NoneType") (.type "tuple")=some false/\W.kitOne K (.type "NoneType") (.type "bool")=some false) /\
  (W.kitOne K (.type "bool") (.type "int")=some true/\W.kitOne K (.type "bool") (.type "str")=some false/\W.kitOne K (.type "bool") (.type "list")=some false/\W.kitOne K (.type "bool") (.type "tuple")=some false) /\
  (W.kitOne K (.type "int") (.type "bool")=some false/\W.kitOne K (.type "int") (.type "str")=some false/\W.kitOne K (.type "int") (.type "list")=some false/\W.kitOne K (.type "int") (.type "tuple")=some false) /\
  (W.kitOne K (.type "str") (.type "bool")=some false/\W.kitOne K (.type "str") (.type "int")=some false/\W.kitOne K (.type "str") (.type "list")=some false/\W.kitOne K (.type "str") (.type "tuple")=some false) /\
  (W.kitOne K (.type "list") (.type "bool")=some false/\W.kitOne K (.type "list") (.type "int")=some false/\W.kitOne K (.type "list") (.type "str")=some false/\W.kitOne K (.type "list") (.type "tuple")=some false) /\
  (W.kitOne K (.type "tuple") (.type "bool")=some false/\W.kitOne K (.type "tuple") (.type "int")=some false/\W.kitOne K (.type "tuple") (.type "str")=some false/\W.kitOne K (.type "tuple") (.type "list")=some false) /\
  (W.kitOne K (.type "dict") (.type "bool")=some false/\W.kitOne K (.type "dict") (.type "int")=some false/\W.kitOne K (.type "dict") (.type "str")=some false/\W.kitOne K (.type "dict") (.type "list")=some false/\W.kitOne K (.type "dict") (.type "tuple")=some false):=by
 refine⟨⟨?_,?_,?_,?_,?_⟩,⟨?_,?_,?_,?_⟩,⟨?_,?_,?_,?_⟩,⟨?_,?_,?_,?_⟩,⟨?_,?_,?_,?_⟩,⟨?_,?_,?_,?_⟩,⟨?_,?_,?_,?_,?_⟩⟩<;>kernel_rfl
end
end L2
namespace IR
open PySem PySem.Spec PyProof.Rows L2
section
variable{X:Cx}{Hi:Hp}{τ:En}
theorem aP{e:Expr}{es:List Expr}{env:Env}(h:isStar e=false):starEach (e::es) env=(false,eval e env)::starEach es env:=by
 cases e<;>first|rfl|cases h
theorem eo{env:Env}{pos:Pos}:∀{es:List Expr},(∀e∈es,isStar e=false)->(backTo pos (starEach es env)).any (·.1)=false
 | [],_=>rfl
 | e::es,h=>by
  rw[aP (h e He)];show(false||(backTo pos (starEach es env)).any (·.1))=false;rw[eo fun x hx=>h x (HZ _ hx)];rfl
theorem yZ:nL X Hi τ [] []:=by
 intro O σ H Q R q;exact wa aX (q _ _ (aC.refl _) rfl)
theorem nH{e:Expr}{es:List Expr}{r:RV}{rs:List RV}(he:aL X Hi τ e r)(hs:isStar e=false)(hr:nL X Hi τ es rs):nL X Hi τ (e::es) (r::rs):=by
 intro O σ H Q R q;refine wa (aH aY qe (aP hs)) ?_;refine he O σ H _ R fun u H1 s1 r1=>hr O σ H1 _ (R.ext s1) fun us H2 s2 r2=> ?_;exact q _ _ (s1.trans s2) ⟨u,us,rfl,r1.ext s2,r2.back s1⟩
theorem DF{es:List Expr}{pos:Pos}{rs:List RV}{vs:List PV}{n:Bool}{r:RV}(h:nL X Hi τ es rs)(hk:keeps rs=some (vs,n))(hn:uY vs n=some r):aL X Hi τ (.List es pos) r:=by
 obtain⟨hz,rfl⟩:=AL hn;intro O σ H Q R q;refine we (wx qe) ?_;refine h O σ H _ R fun us H1 s1 r1=> ?_;have k:=r1.keeps R s1 hk;have hl:=k.len;exact⟨by rw[dv,<-hl];exact hz,fun p hp=>q _ _ (s1.trans (aI hp _)) (dX s1 hp k)⟩
theorem vz{es:List Expr}{m:Nat}{pos:Pos}{rs:List RV}{vs:List PV}{n:Bool}{r:RV}(h:nL X Hi τ es rs)(hk:keeps rs=some (vs,n))(hn:uX vs n=some r):aL X Hi τ (.Tuple es m pos) r:=by
 obtain⟨hz,rfl⟩:=AK hn;intro O σ H Q R q;refine we (qZ qe) ?_;refine h O σ H _ R fun us H1 s1 r1=> ?_;have k:=r1.keeps R s1 hk;have hl:=k.len;exact⟨by rw[dv,<-hl];exact hz,fun p hp=>q _ _ (s1.trans (aI hp _)) (Rp.tup.mpr ⟨p,us,rfl,cT.of (tJ R s1 hp),k.mono (aJ (aI hp _))⟩)⟩
theorem Ao{pos:Pos}:aL X Hi τ (.Dict [] [] pos) (.owd (.dK []) [] true):=by
 intro O σ H Q R q;refine we gf ?_;intro p hp;exact q _ _ (aI hp _) ⟨p,[],_,rfl,hp,aD,⟨rfl,rfl⟩,.nil⟩
theorem tR{k:ag}{ke v:Expr}{r:RV}{w:PV}{n:Bool}{pos:Pos}{tk:TE}(hk:PE X ke tk)(hk2:∀σ H Q,Q (kV k) H->tk σ H Q)(h:aL X Hi τ v r)(hw:r.keep=some (w,n))(hi:imm w=true):aL X Hi τ (.Dict [some ke] [v] pos) (.owd (.dK [k]) [w] true):=by
 intro O σ H Q R q;refine we (zx (wk hk aY zo) rfl rfl (by intro z;cases z) (by show 1<=15;decide)) ?_;intro p hp;have s0:=aI hp (.dK []);refine hk2 σ _ _ ?_;refine h O σ _ _ (R.ext s0) fun u H2 s2 r2=> ?_;have kp:=r2.keep (R.ext s0) s2 hw;refine⟨s2 _ _ aD,[(k,u)],rfl,by show 1<=15;decide,?_⟩;have e:gC [] [(k,u)]=[(k,u)]:=by simp[gC,dB]
 rw[e];have ss:aC H (L2.upd H2 p (.dK [(k,u)])):=fun b o z=>by rw[aB (aK z hp)];exact s2 _ _ (s0 _ _ z)
 refine q _ _ ss ⟨p,[u],_,rfl,hp,aD,⟨rfl,rfl⟩,.cons (Rp.imm hi ⟨fun b xs z=> ?_,fun b o xs z=> ?_⟩ kp) .nil⟩
 ·have hne:b≠p:=fun c=>by
   subst c;have:=aR _ _ z;rw[s2 _ _ aD]at this;cases this
  unfold aM at z ⊢
  split at z
  ·cases z
  ·rename_i nb
   rw[Hl nb];unfold del;rw[Hl hne,aB hne];exact z
 ·have hne:b≠p:=fun c=>by
   subst c;have:=aR _ _ z;rw[s2 _ _ aD]at this;cases this
  unfold aM at z ⊢
  split at z
  ·cases z
  ·rename_i nb
   rw[Hl nb];unfold del;rw[Hl hne,aB hne];exact z
noncomputable def hX(O:List Addr)(G:Hp):Prop:=∀l∈O,(∀xs,G l≠some (.tup xs))/\∀o xs,G l≠some (.frz o (.tup xs))
theorem Mo.noTup{o:HO}{G:Hp}{l:Addr}(m:Mo o)(e:G l=some o):(∀xs,G l≠some (.tup xs))/\∀o xs,G l≠some (.frz o (.tup xs)):=by
 obtain⟨b,us,m⟩:=m;refine⟨fun xs z=> ?_,fun o xs z=> ?_⟩<;>(rw[e]at z;cases z;cases b<;>first|cases m.1|cases m)
theorem hX.del{O:List Addr}{G:Hp}{p:Addr}(h:hX O G):hX O (IR.del G p):=fun l hl=>by
 refine⟨fun xs e=> ?_,fun o xs e=> ?_⟩
 ·unfold IR.del at e
  split at e
  ·cases e
  ·exact(h l hl).1 xs e
 ·unfold IR.del at e
  split at e
  ·cases e
  ·exact(h l hl).2 o xs e
theorem hX.tups{O:List Addr}{G:Hp}(h:hX O G):re G (aM G O):=by
 refine⟨fun b xs e=> ?_,fun b o xs e=> ?_⟩
 ·unfold aM
  rw[Hl fun z=>(h b z).1 xs e];exact e
 ·unfold aM
  rw[Hl fun z=>(h b z).2 o xs e];exact e
mutual
theorem Rp.avoid{K:W.Frag}{Hj:Hp}{O:List Addr}(hO:∀l∈O,Hj l≠none):∀{v:PV}{G:Hp}{u:V},hX O G->Rp K Hj true v G u->Rp K Hj true v (aM G O) u
 | .non,_,_,_,h=>by unfold Rp at h ⊢;exact h
 | .bl _,_,_,_,h=>by unfold Rp at h ⊢;exact h
 | .int _,_,_,_,h=>by unfold Rp at h ⊢;exact h
 | .str _,_,_,_,h=>by unfold Rp at h ⊢;exact h
 | .lst xs,G,_,t,h=>by
  unfold Rp at h ⊢;obtain⟨p,us,e,q,l,r⟩:=h;obtain⟨q1,q2⟩:=q rfl;have q3:aM G O p=some (.lst us):=by
   unfold aM;rw[Hl fun z=>hO p z q1];exact q2
  exact⟨p,us,e,fun _=>⟨q1,q3⟩,bB.of q3,by rw[<- gq];exact aG.avoid hO t.del r⟩
 | .tup xs,_,_,t,h=>by
  unfold Rp at h ⊢;obtain⟨p,us,e,l,r⟩:=h;exact⟨p,us,e,t.tups.at l,aG.avoid hO t r⟩
 | .dK ks vs,G,_,t,h=>by
  unfold Rp at h ⊢;obtain⟨p,us,e,q,l,z,r⟩:=h;refine⟨p,us,e,q,?_,z,by rw[<- gq];exact aG.avoid hO t.del r⟩;unfold aM;rw[Hl fun z=>hO p z (q rfl)];exact l
 | .dT ks vs,G,_,t,h=>by
  unfold Rp at h ⊢;obtain⟨p,us,e,q,l,z,r⟩:=h;refine⟨p,us,e,q,?_,z,by rw[<- gq];exact aG.avoid hO t.del r⟩;unfold aM;rw[Hl fun z=>hO p z (q rfl)];exact l
theorem aG.avoid{K:W.Frag}{Hj:Hp}{O:List Addr}(hO:∀l∈O,Hj l≠none):∀{xs:List PV}{G:Hp}{us:List V},hX O G->aG K Hj true xs G us->aG K Hj true xs (aM G O) us
 | [],_,_,_,h=>by unfold aG at h ⊢;exact h
 | x::xs,_,_,t,h=>by
  unfold aG at h ⊢;obtain⟨u,r,e,a,b⟩:=h;exact⟨u,r,e,Rp.avoid hO t a,aG.avoid hO t b⟩
end
theorem zH{O:List Addr}{σ:L2.St}{H H1 H' :Hp}{v:PV}{u:V}(R:aZ X.K Hi O τ σ H)(s1:aC H H1)(s:aC H1 H')(h:Rp X.K H1 true v H' u):af X.K Hi O H H' (told v) u:=by
 have e1:∀p,H1 p=none->Hi p=none:=fun p hp=>R.same.free (s1.free hp);have hO:∀l∈O,H1 l≠none:=fun l hl z=>by
  obtain⟨us,e,_⟩:=(R.own l hl).2;rw[s1 _ _ e]at z;cases z
 have hT:hX O H' :=fun l hl=>by
  obtain⟨us,e,mo⟩:=(R.own l hl).2;have e' :=s _ _ (s1 _ _ e);exact mo.noTup e'
 have gen:Rp X.K Hi true v (aM H' O) u:=(Rp.avoid hO hT h).entry fun _=>e1;cases v with
 | lst xs =>
  obtain⟨p,us,e,q,l,r⟩:=Rp.lst.mp h;obtain⟨q1,q2⟩:=q rfl;exact⟨p,us,e,s1.free q1,q2,(aG.avoid hO hT.del r).entry fun _=>e1⟩
 | _=>exact gen
theorem call_ok{cd:Nat->List PV->Option PV}{ct:Ct}(C:bG cd X ct){x:Str}{f:Nat}{e:Expr}{es:List Expr}{p pos:Pos}{rs:List RV}{v:PV}(hx:vd x=false)(hg:ct.S.lookup x=some .globalImplicit)(hf:ct.F.lookup x=some f)
  (hs:∀a∈e::es,isStar a=false) (ha:nL X Hi τ (e::es) rs) (hv:cd f (rs.map RV.val)=some v):aL X Hi τ (.Call (.Name x p) (e::es) [] pos) (told v):=by
 intro O σ H Q R q;obtain⟨k,a,fd,ps,F,hr,hm,kp,bd⟩:=C.fns x f hf;have g:Gl X x:=by
  show X.env.scope.names.lookup x=_;rw[C.S];exact hg
 refine we (cw F hr g hm kp bd .nil ip qe (be hx).1 (aP (hs e He)) (eo fun b hb=>hs b (HZ _ hb))) ?_;refine ha O σ H _ R fun us H1 s1 r1=> ?_;have vs:=r1.vals R s1;rw[JR];exact⟨_,v,vs.entry (fun z=>by cases z),hv,fun u H' s' ru=>q _ _ (s1.trans s') (zH R s1 s' ru)⟩
theorem d0{cd:Nat->List PV->Option PV}{ct:Ct}(C:bG cd X ct){x:Str}(h:own ct x=true):Gl X x/\X.mg x=none:=by
 unfold own at h;rw[Hb]at h;refine⟨?_,C.bl x h.1⟩;show X.env.scope.names.lookup x=_;rw[C.S]
 simpa using h.2
theorem i5{cd:Nat->List PV->Option PV}{ct:Ct}(C:bG cd X ct){x:Str}{id:String}{a:Expr}{p pos:Pos}{ra r:RV}{rr:List V->Hp->VK->Prop}(hc:bI X (.builtin id) rr)(ho:own ct x=true)(hb:bootBuiltins x=some (.builtin id))(hx:vd x=false)(hs:isStar a=false)(ha:aL X Hi τ a ra)
  (k:∀(O:List Addr)(σ:L2.St)(H H2:Hp)(u:V)(Q:VK),aZ X.K Hi O τ σ H->aC H H2->af X.K Hi O H H2 ra u->(∀w H3,aC H2 H3->af X.K Hi O H H3 r w->Q w H3)->rr [u] H2 Q):aL X Hi τ (.Call (.Name x p) [a] [] pos) r:=by
 intro O σ H Q R q;obtain⟨g,hm⟩:=d0 C ho;refine we (dN hc g hm hb (aH aY aX (aP hs)) (be hx).2.2 (be hx).1 (aP hs) rfl) ?_;exact ha O σ H _ R fun u H1 s1 r1=>k O σ H H1 u Q R s1 r1 fun w H3 s3 r3=>q w H3 (s1.trans s3) r3
theorem sQ{cd:Nat->List PV->Option PV}{ct:Ct}(C:bG cd X ct){x:Str}{id:String}{a:Expr}{p pos:Pos}{ra r:RV}{rr:List V->Hp->VK->Prop}(hc:bI X (.type id) rr)(ho:own ct x=true)(hb:bootBuiltins x=some (.type id))(hx:vd x=false)(hs:isStar a=false)(ha:aL X Hi τ a ra)
  (k:∀(O:List Addr)(σ:L2.St)(H H2:Hp)(u:V)(Q:VK),aZ X.K Hi O τ σ H->aC H H2->af X.K Hi O H H2 ra u->(∀w H3,aC H2 H3->af X.K Hi O H H3 r w->Q w H3)->rr [u] H2 Q):aL X Hi τ (.Call (.Name x p) [a] [] pos) r:=by
 intro O σ H Q R q;obtain⟨g,hm⟩:=d0 C ho;refine we (cX hc g hm hb (aH aY aX (aP hs)) (be hx).2.2 (be hx).1 (aP hs) rfl) ?_;exact ha O σ H _ R fun u H1 s1 r1=>k O σ H H1 u Q R s1 r1 fun w H3 s3 r3=>q w H3 (s1.trans s3) r3
theorem b2_go{cd:Nat->List PV->Option PV}{ct:Ct}(C:bG cd X ct){x:Str}{id:String}{a b:Expr}{p pos:Pos}{ra rb r:RV}{rr:List V->Hp->VK->Prop}(hc:bI X (.builtin id) rr)(ho:own ct x=true)(hb:bootBuiltins x=some (.builtin id))(hx:vd x=false)(hs:isStar a=false)(hs2:isStar b=false)(ha:aL X Hi τ a ra)(hb' :aL X Hi τ b rb)
  (k:∀(O:List Addr)(σ:L2.St)(H H2:Hp)(u v:V)(Q:VK),aZ X.K Hi O τ σ H->aC H H2->af X.K Hi O H H2 ra u->af X.K Hi O H H2 rb v->(∀w H3,aC H2 H3->af X.K Hi O H H3 r w->Q w H3)->rr [u,v] H2 Q):aL X Hi τ (.Call (.Name x p) [a,b] [] pos) r:=by
 intro O σ H Q R q;obtain⟨g,hm⟩:=d0 C ho;refine we (dN hc g hm hb (aH aY (aH aY aX (aP hs2)) (aP hs)) (be hx).2.2 (be hx).1 (aP hs) (eo fun c hc=>by simp at hc;subst hc;exact hs2)) ?_;exact ha O σ H _ R fun u H1 s1 r1=>hb' O σ H1 _ (R.ext s1) fun v H2 s2 r2=>k O σ H H2 u v Q R (s1.trans s2) (r1.ext s2) (r2.back s1) fun w H3 s3 r3=>q w H3 (s1.trans (s2.trans s3)) r3
theorem pV:∀{xs:List PV}{bs:List Bool}{H:Hp}{us:List V},lX xs=some bs->aG X.K Hi false xs H us->us=bs.map V.bl
 | [],bs,_,_,h,r=>by cases h;unfold aG at r;exact r
 | x::xs,bs,_,_,h,r=>by
  unfold aG at r;obtain⟨u,ws,rfl,a,b⟩:=r;cases x with
  | bl c =>
   have h:(lX xs).map (c::·)=some bs:=h;cases e:lX xs with
   | none=>rw[e]at h;cases h
   | some ds =>
    rw[e]at h;cases h;rw[Rp.bl.mp a,pV e b];rfl
  | _=>cases h
theorem cY:∀{xs:List PV}{bs:List Int}{H:Hp}{us:List V},aN xs=some bs->aG X.K Hi false xs H us->us=bs.map V.int
 | [],bs,_,_,h,r=>by cases h;unfold aG at r;exact r
 | x::xs,bs,_,_,h,r=>by
  unfold aG at r;obtain⟨u,ws,rfl,a,b⟩:=r;cases x with
  | int c =>
   have h:(aN xs).map (c::·)=some bs:=h;cases e:aN xs with
   | none=>rw[e]at h;cases h
   | some ds =>
    rw[e]at h;cases h;rw[Rp.int.mp a,cY e b];rfl
  | _=>cases h
theorem jQ:∀{xs:List PV}{bs:List Str}{H:Hp}{us:List V},bV xs=some bs->aG X.K Hi false xs H us->us=bs.map V.str
 | [],bs,_,_,h,r=>by cases h;unfold aG at r;exact r
 | x::xs,bs,_,_,h,r=>by
  unfold aG at r;obtain⟨u,ws,rfl,a,b⟩:=r;cases x with
  | str c =>
   have h:(bV xs).map (c::·)=some bs:=h;cases e:bV xs with
   | none=>rw[e]at h;cases h
   | some ds =>
    rw[e]at h;cases h;rw[Rp.str.mp a,jQ e b];rfl
  | _=>cases h
theorem DU{t:String}{v:PV}{b:Bool}{H:Hp}{u:V}(h:fD t v=some b)(r:Rp X.K Hi false v H u):∃c,HA X.K H u c/\W.kitOne X.K c (.type t)=some b:=by
 obtain⟨⟨n1,n2,n3,n4,n5⟩,⟨b1,b2,b3,b4⟩,⟨i1,i2,i3,i4⟩,⟨s1,s2,s3,s4⟩,⟨l1,l2,l3,l4⟩,⟨t1,t2,t3,t4⟩,⟨d1,d2,d3,d4,d5⟩⟩:= @kits X.K;cases v with
 | non =>
  rw[Rp.non.mp r];refine⟨_,.of .non,?_⟩;simp only[fD]at h
  split at h
  ·rename_i c
   cases h
   rcases c with rfl|rfl|rfl|rfl|rfl<;>assumption
  ·cases h
 | bl x =>
  rw[Rp.bl.mp r];refine⟨_,.of (.bl x),?_⟩;simp only[fD]at h
  split at h
  ·rename_i c
   cases h
   rcases c with rfl|rfl
   ·assumption
   ·exact eK _
  ·split at h
   ·rename_i c
    cases h
    rcases c with rfl|rfl|rfl<;>assumption
   ·cases h
 | int x =>
  rw[Rp.int.mp r];refine⟨_,.of (.int x),?_⟩;simp only[fD]at h
  split at h
  ·rename_i c
   cases h;subst c;exact eK _
  ·split at h
   ·rename_i c
    cases h
    rcases c with rfl|rfl|rfl|rfl<;>assumption
   ·cases h
 | str x =>
  rw[Rp.str.mp r];refine⟨_,.of (.str x),?_⟩;simp only[fD]at h
  split at h
  ·rename_i c
   cases h;subst c;exact eK _
  ·split at h
   ·rename_i c
    cases h
    rcases c with rfl|rfl|rfl|rfl<;>assumption
   ·cases h
 | lst x =>
  obtain⟨p,us,rfl,_,l,_⟩:=Rp.lst.mp r;refine⟨_,.lst l,?_⟩;simp only[fD]at h
  split at h
  ·rename_i c
   cases h;subst c;exact eK _
  ·split at h
   ·rename_i c
    cases h
    rcases c with rfl|rfl|rfl|rfl<;>assumption
   ·cases h
 | tup x =>
  obtain⟨p,us,rfl,l,_⟩:=Rp.tup.mp r;refine⟨_,.tup l,?_⟩;simp only[fD]at h
  split at h
  ·rename_i c
   cases h;subst c;exact eK _
  ·split at h
   ·rename_i c
    cases h
    rcases c with rfl|rfl|rfl|rfl<;>assumption
   ·cases h
 | dK ks vs =>
  unfold Rp at r;obtain⟨p,us,rfl,_,l,_⟩:=r;refine⟨_,.of (.dK l),?_⟩;simp only[fD]at h
  split at h
  ·rename_i c
   cases h
   rcases c with rfl|rfl|rfl|rfl|rfl<;>assumption
  ·cases h
 | dT ks vs=>cases h
theorem A3{t:Str}{ty:String}(h:vw t=some ty):bootBuiltins t=some (.type ty)/\vd t=false:=by
 unfold vw at h
 split at h
 ·rename_i c;cases h;rw[IF c];exact⟨PyProof.Rows.boot_int,by decide⟩
 split at h
 ·rename_i c;cases h;rw[IF c];exact⟨PyProof.Rows.boot_bool,by decide⟩
 split at h
 ·rename_i c;cases h;rw[IF c];exact⟨PyProof.Rows.boot_str,by decide⟩
 split at h
 ·rename_i c;cases h;rw[IF c];exact⟨PyProof.Rows.boot_list,by decide⟩
 split at h
 ·rename_i c;cases h;rw[IF c];exact⟨PyProof.Rows.boot_tuple,by decide⟩
 cases h
theorem isin_ok{cd:Nat->List PV->Option PV}{ct:Ct}(C:bG cd X ct){t:Str}{ty:String}{a:Expr}{p pt pos:Pos}{ra:RV}{b:Bool}(ho:own ct ("isinstance":Str)=true)(ht:vw t=some ty)(hot:own ct t=true)(hs:isStar a=false)(ha:aL X Hi τ a ra)(h:fD ty ra.val=some b) :
  aL X Hi τ (.Call (.Name "isinstance" p) [a,.Name t pt] [] pos) (sc (.bl b)):=by
 intro O σ H Q R q;obtain⟨g,hm⟩:=d0 C ho;obtain⟨g2,hm2⟩:=d0 C hot;obtain⟨hb,hod⟩:=A3 ht;refine we (dN rP g hm boot_isinstance (aH aY (aH (F5 g2 hm2 hb (be hod).2.2 (be hod).1) aX) (aP hs)) (by decide) (by decide) (aP hs) rfl) ?_;refine ha O σ H _ R fun u H1 s1 r1=> ?_;obtain⟨c,ty',k⟩:=DU h (r1.val R s1);exact⟨u,ty,c,b,rfl,ty',k,q _ _ s1 El⟩
end
end IR
namespace L2
open PySem PySem.Spec PyProof.Rows
end L2
namespace IR
open PySem L2
section
variable{X:Cx}{Hi:Hp}{τ:En}
theorem zn{x:PV}{q:Int×Int}(h:wj x=some q):x=kM q:=by
 cases x with
 | tup xs =>
  have h:((aN xs).bind fun ns=>match ns with
   | [a,b]=>some (a,b)
   | _=>none)=some q:=h
  cases e:aN xs with
  | none=>rw[e]at h;cases h
  | some ns =>
   rw[e]at h
   match ns,h with
   | [a,b],h =>
    cases h;have:xs=[PV.int a,PV.int b]:=by
     have key:∀(xs:List PV)(ns:List Int),aN xs=some ns->xs=ns.map PV.int:=by
      intro xs
      induction xs with
      | nil=>intro ns z;cases z;rfl
      | cons y r ih =>
       intro ns z;cases y with
       | int i =>
        have z:(aN r).map (i::·)=some ns:=z;cases e2:aN r with
        | none=>rw[e2]at z;cases z
        | some m=>rw[e2]at z;cases z;rw[ih m e2];rfl
       | _=>cases z
     exact key xs _ e
    subst this;rfl
 | _=>cases h
theorem oQ:∀{xs:List PV}{ps:List (Int×Int)},gc xs=some ps->xs=ps.map kM
 | [],_,h=>by cases h;rfl
 | x::r,ps,h=>by
  have h:((wj x).bind fun q=>(gc r).map (q::·))=some ps:=h;cases e:wj x with
  | none=>rw[e]at h;cases h
  | some q =>
   rw[e]at h;have h:(gc r).map (q::·)=some ps:=h;cases e2:gc r with
   | none=>rw[e2]at h;cases h
   | some m =>
    rw[e2]at h;cases h;rw[zn e,oQ e2];rfl
theorem aG.prs{n:Bool}{H:Hp}:∀{ps:List (Int×Int)}{us:List V},aG X.K Hi n (ps.map kM) H us->Ec X.K H us ps
 | [],us,h=>by
  have h:us=[]:=by unfold aG at h;exact h
  subst h;exact .nil
 | q::ps,us,h=>by
  rw[Hf]at h;unfold aG at h;obtain⟨u,r,rfl,h1,h2⟩:=h;obtain⟨p,ws,rfl,l,rr⟩:=Rp.tup.mp h1;have e:ws=[V.int q.1,V.int q.2]:=by
   have:=(aG.ints (K:=X.K) (Hi:=Hi) (n:=n) (H:=H) (xs:=[q.1,q.2]) (us:=ws)).mp rr;exact this
  subst e;exact .cons l (aG.prs h2)
theorem aG.pick{n:Bool}{H:Hp}{xs:List PV}{us:List V}(r:aG X.K Hi n xs H us):∀{js:List Nat},(∀j∈js,j<us.length)->aG X.K Hi n (js.map fun i=>xs.getD i .non) H (js.map fun i=>us.getD i .non)
 | [],_=>.nil
 | j::js,h=>by
  have hj:=h j He;obtain⟨x,hx,rx⟩:=r.at' (i:=j) (u:=us[j]) (Hd hj);refine .cons ?_ (aG.pick r fun i hi=>h i (HZ _ hi));dsimp only;rw[Hc,hx,Hc,Hd hj];exact rx
theorem fw(ps:List (Int×Int)):(dL ps).Perm ps:=List.mergeSort_perm _ _
theorem wG(ps:List (Int×Int)):(dL ps).Pairwise fun a b=>SW.dO a<=SW.dO b:=by
 have:=List.pairwise_mergeSort (le:=fun a b:Int×Int=>decide (SW.dO a<=SW.dO b)) (fun a b c h1 h2=>by simp only[JO]at *;omega) (fun a b=>by simp only[JS,JO];omega) ps;exact this.imp fun h=>by simpa using h
theorem xY{a b:Int×Int}(ha:0<=a.2/\a.2<1000)(hb:0<=b.2/\b.2<1000)(h:SW.dO a=SW.dO b):a=b:=by
 unfold SW.dO at h;exact Prod.ext (by omega) (by omega)
theorem mF{ps qs:List (Int×Int)}(hb:∀q∈ps,0<=q.2/\q.2<1000)(p:qs.Perm ps)(s:qs.Pairwise fun a b=>SW.dO a<=SW.dO b):qs=dL ps :=
 Ke (le:=fun a b=>SW.dO a<=SW.dO b) (fun a b ha hb' h1 h2=>xY (hb _ (p.mem_iff.mp ha)) (hb _ ((fw ps).mem_iff.mp hb')) (by omega)) s (wG ps) (p.trans (fw ps).symm)
theorem qW{α:Type}(d:α)(xs:List α):(List.range xs.length).map (fun i=>xs.getD i d)=xs:=by
 apply List.ext_getElem (by simp)
 intro i h1 h2;simp[h2]
theorem o0:∀ps:List (Int×Int),imms (ps.map kM)=true
 | []=>rfl
 | q::ps=>by
  show(imm (kM q)&&imms (ps.map kM))=true;rw[o0 ps];rfl
theorem wF{cd:Nat->List PV->Option PV}{ct:Ct}(C:bG cd X ct){a:Expr}{p pos:Pos}{ra r:RV}{xs:List PV}(ho:own ct ("sorted":Str)=true)(hs:isStar a=false)(ha:aL X Hi τ a ra)(e:ra.val=.lst xs)(h:oC xs=some r) :
  aL X Hi τ (.Call (.Name "sorted" p) [a] [] pos) r:=by
 unfold oC at h;cases eb:gc xs with
 | none=>rw[eb]at h;cases h
 | some ps =>
  rw[eb]at h;have h:(if ps.length<64/\ps.all (fun q=>decide (0<=q.2)&&decide (q.2<1000))=true then some (RV.own ((dL ps).map kM) true)else none)=some r:=h
  split at h
  ·rename_i c
   cases h;refine i5 C hJ ho PyProof.Rows.boot_sorted (by decide) hs ha fun O σ H H2 u Q R s r q=> ?_;obtain⟨p,us,rfl,l,r⟩:=r.lst R s e;have ex:=oQ eb;subst ex;have pr:=r.prs;have hl:=pr.len;have hb:∀q∈ps,0<=q.2/\q.2<1000:=fun q hq=>by
    have:=Hx.mp c.2 q hq
    simpa using this
   refine⟨p,us,ps,rfl,l,pr,by omega,hb,fun d js hd pm pw=>q _ _ (aI hd _) (dX s hd ?_)⟩;have hj:∀j∈js,j<us.length:=fun j hj=>Ii.mp (pm.mem_iff.mp hj);have e1:js.map (fun i=>ps.getD i (0,0))=dL ps:=by
    refine mF hb ?_ ?_
    ·have:=pm.map fun i=>ps.getD i (0,0)
     rw[hl,qW]at this;exact this
    ·rw[Js]at pw ⊢
     exact pw
   have e2:js.map (fun i=>(ps.map kM).getD i .non)=(dL ps).map kM:=by
    rw[<- e1,Ia];refine JH fun i hi=> ?_;have:=hj i hi;have lt:i<ps.length:=by omega
    simp[lt]
   have rp:=r.pick hj;rw[e2]at rp;exact rp.imm (o0 _) (R.ext s).tups
  ·cases h
end
end IR
namespace IR
open PySem PySem.Spec PyProof.Rows L2
section
variable{X:Cx}{Hi:Hp}{τ:En}
theorem xR{cd:Nat->List PV->Option PV}{ct:Ct}(C:bG cd X ct){a:Expr}{p pos:Pos}{ra:RV}{n:Nat}(ho:own ct ("len":Str)=true)(hs:isStar a=false)(ha:aL X Hi τ a ra)(h:gk ra.val=some n) :
  aL X Hi τ (.Call (.Name "len" p) [a] [] pos) (sc (.int n)):=by
 cases e:ra.val with
 | str z =>
  rw[e]at h;have h:(if z.length<=LN then some z.length else none)=some n:=h
  split at h
  ·rename_i c
   cases h;exact i5 C nD ho KY (by decide) hs ha fun O σ H H2 u Q R s r q=>⟨z,by rw[r.str R s e],by rw[dv];exact c,q _ _ (aC.refl _) wN⟩
  ·cases h
 | lst xs =>
  rw[e]at h;cases h;refine i5 C dq ho KY (by decide) hs ha fun O σ H H2 u Q R s r q=> ?_;obtain⟨p,us,rfl,l,r⟩:=r.lst R s e;exact⟨p,us,rfl,.inl l,by rw[<- r.len];exact q _ _ (aC.refl _) wN⟩
 | tup xs =>
  rw[e]at h;cases h;refine i5 C dq ho KY (by decide) hs ha fun O σ H H2 u Q R s r q=> ?_;obtain⟨p,us,rfl,l,r⟩:=r.tup R s e;exact⟨p,us,rfl,.inr l,by rw[<- r.len];exact q _ _ (aC.refl _) wN⟩
 | dK ks vs =>
  rw[e]at h;cases h;refine i5 C rO ho KY (by decide) hs ha fun O σ H H2 u Q R s r q=> ?_;have z:=r.val R s;rw[e]at z;unfold Rp at z;obtain⟨p,us,rfl,_,hp,hl,_⟩:=z;refine⟨p,_,rfl,.inl hp,?_⟩;have:(ks.zip us).length=ks.length:=by rw[List.length_zip,<-hl,KU]
  rw[this];exact q _ _ (aC.refl _) wN
 | _=>rw[e]at h;cases h
theorem yt:∀(ks:List ag)(us:List V),ks.length=us.length->(ks.zip us).map (·.2)=us:=by
 intro ks
 induction ks with
 | nil=>intro us h;cases us with|nil=>rfl|cons _ _=>cases h
 | cons k ks ih=>intro us h;cases us with|nil=>cases h|cons u us=>simp at h;simp[ih us h]
theorem lvals_ok{cd:Nat->List PV->Option PV}{ct:Ct}(C:bG cd X ct){o:Expr}{p ap cp pos:Pos}{ro r:RV}(ho:own ct ("list":Str)=true)(hp:plainB o=true)(hl:(ap.endLine==cp.line)=true)(h0:aL X Hi τ o ro)(h:ia .lvals [ro]=some r) :
  aL X Hi τ (.Call (.Name "list" p) [.Call (.Attribute o "values" ap) [] [] cp] [] pos) r:=by
 have hbase:attributeBase o "values" X.env (eval o X.env)=eval o X.env:=by
  cases o<;>first|rfl|cases hp
 have h:Bl ro.val=some r:=h;cases e:ro.val with
 | dK ks vs =>
  rw[e]at h;have h:(if ks.length<=LN then(aN vs).map (fun ns=>RV.own (ns.map PV.int) true)else none)=some r:=h
  split at h
  ·rename_i hz
   cases eb:aN vs with
   | none=>rw[eb]at h;cases h
   | some ns =>
    rw[eb]at h;cases h;intro O σ H Q R q;obtain⟨g,hm⟩:=d0 C ho;have hs:isStar (.Call (.Attribute o "values" ap) [] [] cp)=false:=rfl;refine we (cX (kF C.calm) g hm PyProof.Rows.boot_list (aH (qb J6 Kd PySem.F.type_dict_values lE aY hbase hl) aX (aP hs)) (by decide) (by decide) (aP hs) rfl) ?_;refine h0 O σ H _ R fun u H1 s1 r1=> ?_;have z:=r1.val R s1;rw[e]at z;unfold Rp at z;obtain⟨a,us,rfl,_,ha,hlen,rr⟩:=z;refine⟨.inr (.inr (.inl ⟨rfl,.inl ⟨_,ha⟩⟩)),a,_,rfl,rfl,ha,fun v hv=> ?_⟩;have eu:=cY eb rr;have hzz:ks.length<=16777216:=hz;have s2:=s1.trans (aI hv (kI v a));refine⟨v,a,_,rfl,aD,by rw[aB (aK ha hv)];exact ha,by rw[List.length_zip,<-hlen,KU,Im];exact hzz,fun b hb=> ?_⟩;rw[yt ks us hlen];refine q _ _ (s2.trans (aI hb _)) (dX s2 hb (aG.ints.mpr eu))
  ·cases h
 | _=>rw[e]at h;cases h
theorem sumv_ok{cd:Nat->List PV->Option PV}{ct:Ct}(C:bG cd X ct){o:Expr}{p ap cp pos:Pos}{ro r:RV}(ho:own ct ("sum":Str)=true)(hp:plainB o=true)(hl:(ap.endLine==cp.line)=true)(h0:aL X Hi τ o ro)(h:ia .sumv [ro]=some r) :
  aL X Hi τ (.Call (.Name "sum" p) [.Call (.Attribute o "values" ap) [] [] cp] [] pos) r:=by
 have hbase:attributeBase o "values" X.env (eval o X.env)=eval o X.env:=by
  cases o<;>first|rfl|cases hp
 have h:(match ro.val with
   | .dK _ vs=>(aN vs).map fun ns=>sc (.int ns.sum)
   | _=>none)=some r:=h
 cases e:ro.val with
 | dK ks vs =>
  simp only[e]at h;cases eb:aN vs with
  | none=>rw[eb]at h;cases h
  | some ns =>
   rw[eb]at h;cases h;intro O σ H Q R q;obtain⟨g,hm⟩:=d0 C ho;have hs:isStar (.Call (.Attribute o "values" ap) [] [] cp)=false:=rfl;refine we (dN (kc C.calm) g hm boot_sum (aH (qb J6 Kd PySem.F.type_dict_values lE aY hbase hl) aX (aP hs)) (by decide) (by decide) (aP hs) rfl) ?_;refine h0 O σ H _ R fun u H1 s1 r1=> ?_;have z:=r1.val R s1;rw[e]at z;unfold Rp at z;obtain⟨a,us,rfl,_,ha,hlen,rr⟩:=z;refine⟨.inr (.inr (.inl ⟨rfl,.inl ⟨_,ha⟩⟩)),a,_,rfl,rfl,ha,fun v hv=> ?_⟩;have eu:=cY eb rr;refine⟨v,a,_,ns,rfl,aD,by rw[aB (aK ha hv)];exact ha,?_,q _ _ (s1.trans (aI hv _)) wN⟩;rw[<- eu];have key:∀(ks:List ag)(us:List V),ks.length=us.length->(ks.zip us).map (·.2)=us:=by
    intro ks
    induction ks with
    | nil=>intro us h;cases us with|nil=>rfl|cons _ _=>cases h
    | cons k ks ih=>intro us h;cases us with|nil=>cases h|cons u us=>simp at h;simp[ih us h]
   exact key ks us hlen
 | _=>simp only[e]at h;cases h
theorem ib{x:Str}{k:Nat}{f:Bf}(h:pX x k=some f):(x="len"/\k=1/\f=.len)\/(x="int"/\k=1/\f=.int)\/(x="list"/\k=1/\f=.list)\/(x="tuple"/\k=1/\f=.tuple)\/(x="all"/\k=1/\f=.all)\/(x="min"/\k=2/\f=.min)\/(x="max"/\k=2/\f=.max)\/(x="abs"/\k=1/\f=.abs)\/(x="any"/\k=1/\f=.any)\/(x="sum"/\k=1/\f=.sum)\/(x="sorted"/\k=1/\f=.sorted):=by
 unfold pX at h
 split at h
 ·rename_i c;rw[Hb]at c;cases h;exact .inl ⟨IF c.1,IF c.2,rfl⟩
 split at h
 ·rename_i c;rw[Hb]at c;cases h;exact .inr (.inl ⟨IF c.1,IF c.2,rfl⟩)
 split at h
 ·rename_i c;rw[Hb]at c;cases h;exact .inr (.inr (.inl ⟨IF c.1,IF c.2,rfl⟩))
 split at h
 ·rename_i c;rw[Hb]at c;cases h;exact .inr (.inr (.inr (.inl ⟨IF c.1,IF c.2,rfl⟩)))
 split at h
 ·rename_i c;rw[Hb]at c;cases h;exact .inr (.inr (.inr (.inr (.inl ⟨IF c.1,IF c.2,rfl⟩))))
 split at h
 ·rename_i c;rw[Hb]at c;cases h;exact .inr (.inr (.inr (.inr (.inr (.inl ⟨IF c.1,IF c.2,rfl⟩)))))
 split at h
 ·rename_i c;rw[Hb]at c;cases h;exact .inr (.inr (.inr (.inr (.inr (.inr (.inl ⟨IF c.1,IF c.2,rfl⟩))))))
 split at h
 ·rename_i c;rw[Hb]at c;cases h;exact .inr (.inr (.inr (.inr (.inr (.inr (.inr (.inl ⟨IF c.1,IF c.2,rfl⟩)))))))
 split at h
 ·rename_i c;rw[Hb]at c;cases h;exact .inr (.inr (.inr (.inr (.inr (.inr (.inr (.inr (.inl ⟨IF c.1,IF c.2,rfl⟩))))))))
 split at h
 ·rename_i c;rw[Hb]at c;cases h;exact .inr (.inr (.inr (.inr (.inr (.inr (.inr (.inr (.inr (.inl ⟨IF c.1,IF c.2,rfl⟩)))))))))
 split at h
 ·rename_i c;rw[Hb]at c;cases h;exact .inr (.inr (.inr (.inr (.inr (.inr (.inr (.inr (.inr (.inr (⟨IF c.1,IF c.2,rfl⟩))))))))))
 cases h
theorem bf1_ok{cd:Nat->List PV->Option PV}{ct:Ct}(C:bG cd X ct){x:Str}{f:Bf}{a:Expr}{p pos:Pos}{ra r:RV}(ho:own ct x=true)(hb:ic x 1=some f)(hs:isStar a=false)(ha:aL X Hi τ a ra)(h:ia f [ra]=some r) :
  aL X Hi τ (.Call (.Name x p) [a] [] pos) r:=by
 have hb:pX x 1=some f:=hb
 rcases ib hb with⟨rfl,_,rfl⟩|⟨rfl,_,rfl⟩|⟨rfl,_,rfl⟩|⟨rfl,_,rfl⟩|⟨rfl,_,rfl⟩|⟨_,z,_⟩|⟨_,z,_⟩|⟨rfl,_,rfl⟩|⟨rfl,_,rfl⟩|⟨rfl,_,rfl⟩|⟨rfl,_,rfl⟩
 ·have h:(gk ra.val).map (fun n=>sc (.int (n:Nat)))=some r:=h
  cases e:gk ra.val with
  | none=>rw[e]at h;cases h
  | some n =>
   rw[e]at h;cases h;exact xR C ho hs ha e
 ·unfold ia at h
  cases e:ra.val with
  | int i =>
   simp only[e]at h;cases h;exact sQ C lW ho PyProof.Rows.boot_int (by decide) hs ha fun O σ H H2 u Q R s r q=>.inl ⟨i,by rw[r.int R s e],q _ _ (aC.refl _) wN⟩
  | bl i =>
   simp only[e]at h;cases h;exact sQ C lW ho PyProof.Rows.boot_int (by decide) hs ha fun O σ H H2 u Q R s r q=>.inr ⟨i,by rw[r.bl R s e],q _ _ (aC.refl _) wN⟩
  | _=>simp only[e]at h;cases h
 ·have h:(match ra.its with|some (xs,n)=>some (RV.own xs n)|none=>none)=some r:=h
  cases e:ra.its with
  | none=>rw[e]at h;cases h
  | some w =>
   obtain⟨xs,n⟩:=w;rw[e]at h;cases h;refine sQ C dk ho PyProof.Rows.boot_list (by decide) hs ha fun O σ H H2 u Q R s r q=> ?_;obtain⟨p,us,rfl,l,r⟩:=r.its R s e;exact⟨p,us,rfl,l.imp (·.1) (·.1),fun l2 hl=>q _ _ (aI hl _) (dX s hl r)⟩
 ·have h:(match ra.its with|some (xs,n)=>some (RV.frz (.tup xs) n)|none=>none)=some r:=h
  cases e:ra.its with
  | none=>rw[e]at h;cases h
  | some w =>
   obtain⟨xs,n⟩:=w;rw[e]at h;cases h;refine sQ C kZ ho PyProof.Rows.boot_tuple (by decide) hs ha fun O σ H H2 u Q R s r q=> ?_;obtain⟨p,us,rfl,l,r⟩:=r.its R s e;refine⟨p,us,rfl,l.imp (fun l=>⟨l.1,fun l2 hl=> ?_⟩) (fun l=>⟨l.1,?_⟩)⟩
   ·exact q _ _ (aI hl _) (Rp.tup.mpr ⟨l2,us,rfl,cT.of (tJ R s hl),r.mono (aJ (aI hl _))⟩)
   ·exact q _ _ (aC.refl _) (Rp.tup.mpr ⟨p,us,rfl,Ab R s l.1,r⟩)
 ·unfold ia at h
  cases e:ra.val with
  | lst xs =>
   simp only[e]at h;cases eb:lX xs with
   | none=>rw[eb]at h;cases h
   | some bs =>
    rw[eb]at h;cases h;refine i5 C (pU C.calm) ho boot_all (by decide) hs ha fun O σ H H2 u Q R s r q=> ?_;obtain⟨p,us,rfl,l,r⟩:=r.lst R s e;have:=pV eb r;subst this;exact⟨p,bs,rfl,l,q _ _ (aC.refl _) El⟩
  | _=>simp only[e]at h;cases h
 ·cases z
 ·cases z
 ·exact absurd (show(none:Option RV)=some r from h) (by simp)
 ·exact absurd (show(none:Option RV)=some r from h) (by simp)
 ·have h:(match ra.val with
   | .lst xs=>(aN xs).map fun ns=>sc (.int ns.sum)
   | _=>none)=some r:=h
  cases e:ra.val with
  | lst xs =>
   simp only[e]at h;cases eb:aN xs with
   | none=>rw[eb]at h;cases h
   | some bs =>
    rw[eb]at h;cases h;refine i5 C (kd C.calm) ho boot_sum (by decide) hs ha fun O σ H H2 u Q R s r q=> ?_;obtain⟨p,us,rfl,l,r⟩:=r.lst R s e;have:=cY eb r;subst this;exact⟨p,bs,rfl,l,q _ _ (aC.refl _) wN⟩
  | _=>simp only[e]at h;cases h
 ·have h:(match ra.val with
   | .lst xs=>fZ xs
   | _=>none)=some r:=h
  cases e:ra.val with
  | lst xs =>
   simp only[e]at h;unfold fZ at h;cases eb:aN xs with
   | none =>
    rw[eb]at h;exact wF C ho hs ha e h
   | some bs =>
    rw[eb]at h;have h:(if bs.length<64 then some (RV.own ((L2.sortI bs).map PV.int) true)else none)=some r:=h
    split at h
    ·rename_i c
     cases h;refine i5 C iX ho boot_sorted (by decide) hs ha fun O σ H H2 u Q R s r q=> ?_;obtain⟨p,us,rfl,l,r⟩:=r.lst R s e;have:=cY eb r;subst this;exact⟨p,bs,rfl,l,c,fun a ha=>q _ _ (aI ha _) (dX s ha (aG.ints.mpr rfl))⟩
    ·cases h
  | _=>simp only[e]at h;cases h
theorem ER{cd:Nat->List PV->Option PV}{ct:Ct}(C:bG cd X ct){x:Str}{f:Bf}{a b:Expr}{p pos:Pos}{ra rb r:RV}(ho:own ct x=true)(hb:ic x 2=some f)(hs:isStar a=false)(hs2:isStar b=false)(ha:aL X Hi τ a ra)(hb' :aL X Hi τ b rb)(h:ia f [ra,rb]=some r) :
  aL X Hi τ (.Call (.Name x p) [a,b] [] pos) r:=by
 refine JJ fun no=> ?_;have hb:pX x 2=some f:=hb
 rcases ib hb with⟨_,z,_⟩|⟨_,z,_⟩|⟨_,z,_⟩|⟨_,z,_⟩|⟨_,z,_⟩|⟨rfl,_,rfl⟩|⟨rfl,_,rfl⟩|⟨_,z,_⟩|⟨_,z,_⟩|⟨_,z,_⟩|⟨_,z,_⟩
 ·cases z
 ·cases z
 ·cases z
 ·cases z
 ·cases z
 ·unfold ia at h
  cases e1:ra.val with
  | int i =>
   cases e2:rb.val with
   | int j =>
    simp only[e1,e2]at h;cases h;exact no<|b2_go C (vD C.calm) ho boot_min (by decide) hs hs2 ha hb' fun O σ H H2 u v Q R s r r2 q=>⟨i,j,by rw[r.int R s e1,r2.int R s e2],q _ _ (aC.refl _) wN⟩
   | _=>simp only[e1,e2]at h;cases h
  | _=>simp only[e1]at h;cases h
 ·unfold ia at h
  cases e1:ra.val with
  | int i =>
   cases e2:rb.val with
   | int j =>
    simp only[e1,e2]at h;cases h;exact no<|b2_go C (vE C.calm) ho boot_max (by decide) hs hs2 ha hb' fun O σ H H2 u v Q R s r r2 q=>⟨i,j,by rw[r.int R s e1,r2.int R s e2],q _ _ (aC.refl _) wN⟩
   | _=>simp only[e1,e2]at h;cases h
  | _=>simp only[e1]at h;cases h
 ·cases z
 ·cases z
 ·cases z
 ·cases z
theorem aG.lrng{n:Bool}{H:Hp}(k:Nat):aG X.K Hi n (lrng k) H (Bn k):=by
 unfold IR.lrng Bn
 generalize List.range k=l
 induction l with
 | nil=>exact .nil
 | cons x l ih=>exact .cons (Rp.int.mpr rfl) ih
theorem tM(sep:Str):∀ys:List Str,Str.join sep ys=gG sep ys
 | []=>rfl
 | [x]=>rfl
 | x::y::r=>by
  show x++sep++Str.join sep (y::r)=_;rw[tM sep (y::r)];rfl
theorem join_ok{o a:Expr}{apos cpos:Pos}{ro ra r:RV}(hp:plainB o=true)(hl:(apos.endLine==cpos.line)=true)(hs:isStar a=false)(h0:aL X Hi τ o ro)(ha:aL X Hi τ a ra)(h:uZ .join ro [ra]=some r) :
  aL X Hi τ (.Call (.Attribute o "join" apos) [a] [] cpos) r:=by
 have hbase:attributeBase o "join" X.env (eval o X.env)=eval o X.env:=by
  cases o<;>first|rfl|cases hp
 have key:∀(sep:Str)(ys:List Str)(hsep:ro.val=.str sep),(∀(O:List Addr)(σ:L2.St)(H H2:Hp)(u:V),aZ X.K Hi O τ σ H->aC H H2->af X.K Hi O H H2 ra u->∃p,u=.ref p/\(bB X.K H2 p (ys.map V.str)\/cT X.K H2 p (ys.map V.str))) ->
   (ys.map (·.length)).sum+ys.length*sep.length<=LN->aL X Hi τ (.Call (.Attribute o "join" apos) [a] [] cpos) (sc (.str (gG sep ys))):=by
  intro sep ys hsep gP hz O σ H Q R q;refine we (si PySem.F.plainAttrs_str PySem.F.slot_str_join PySem.F.type_str_join AM aY (aH aY aX (aP hs)) hbase (by rw[aP hs];rfl) hl (aP hs) rfl) ?_;refine h0 O σ H _ R fun u H1 s1 r1=> ?_;have e1:=r1.str R s1 hsep;subst e1;refine⟨rfl,ha O σ H1 _ (R.ext s1) fun v H2 s2 r2=> ?_⟩;obtain⟨p,rfl,hq⟩:=gP O σ H H2 v R (s1.trans s2) (r2.back s1);refine⟨sep,p,ys,rfl,rfl,hq,hz,?_⟩;have e:Txt.join sep ys=gG sep ys:=(PySem.StrLaws.glued_eq_join _ _).trans (tM sep ys);rw[e];exact q _ _ (s1.trans s2) scS
 unfold uZ at h;cases e1:ro.val with
 | str sep =>
  cases e2:ra.val with
  | lst xs =>
   simp only[e1,e2]at h;cases et:bV xs with
   | none=>rw[et]at h;cases h
   | some ys =>
    rw[et]at h;have h:(if(ys.map (·.length)).sum+ys.length*sep.length<=LN then some (sc (.str (gG sep ys)))else none)=some r:=h
    split at h
    ·rename_i c
     cases h;refine key sep ys e1 (fun O σ H H2 u R s r=> ?_) c;obtain⟨p,us,rfl,l,r⟩:=r.lst R s e2;have:=jQ et r;subst this;exact⟨p,rfl,.inl l⟩
    ·cases h
  | tup xs =>
   simp only[e1,e2]at h;cases et:bV xs with
   | none=>rw[et]at h;cases h
   | some ys =>
    rw[et]at h;have h:(if(ys.map (·.length)).sum+ys.length*sep.length<=LN then some (sc (.str (gG sep ys)))else none)=some r:=h
    split at h
    ·rename_i c
     cases h;refine key sep ys e1 (fun O σ H H2 u R s r=> ?_) c;obtain⟨p,us,rfl,l,r⟩:=r.tup R s e2;have:=jQ et r;subst this;exact⟨p,rfl,.inr l⟩
    ·cases h
  | _=>simp only[e1,e2]at h;cases h
 | _=>simp only[e1]at h;cases h
theorem noSl{b:Expr}(h:gp b=false):Ef b:=by
 intro o i;cases b<;>first|rfl|cases h
theorem se{b:Expr}(h:gp b=false):tj b:=by
 intro o i;cases b<;>first|rfl|cases h
theorem kH{n:Bool}{xs:List PV}{H:Hp}{us:List V}{k:Int}{e:PV}(r:aG X.K Hi n xs H us)(h:dH xs k=some e):∃u,dH us k=some u/\Rp X.K Hi n e H u:=by
 unfold dH at h ⊢;rw[<- r.len];cases c:xg xs.length k with
 | none=>rw[c]at h;cases h
 | some j =>
  rw[c]at h;exact r.at (i:=j) h
theorem xm(hun:X.A.units+64<cLine){a i:Expr}{pos:Pos}{x y r:RV}(hb:gp i=false)(ha:aL X Hi τ a x)(hi:aL X Hi τ i y)(h:index x y=some r):aL X Hi τ (.Subscript a i pos) r:=by
 have go:∀{rr:R2}(hr:HQ X rr),(∀(O:List Addr)(σ:L2.St)(H H2:Hp)(u v:V)(Q:VK),aZ X.K Hi O τ σ H->aC H H2->af X.K Hi O H H2 x u->af X.K Hi O H H2 y v->(∀w,af X.K Hi O H H2 r w->Q w H2)->rr u v H2 Q)->aL X Hi τ (.Subscript a i pos) r:=by
  intro rr hr k O σ H Q R q;refine we (io hr aY aY (se hb)) ?_;refine ha O σ H _ R fun u H1 s1 r1=>hi O σ H1 _ (R.ext s1) fun v H2 s2 r2=> ?_;exact k O σ H H2 u v Q R (s1.trans s2) (r1.ext s2) (r2.back s1) fun w r3=>q w H2 (s1.trans s2) r3
 unfold index at h
 split at h
 case h_1 xs n k e2 =>
  cases c:dH xs k with
  | none=>rw[c]at h;cases h
  | some e =>
   rw[c]at h;cases h;refine go fC fun O σ H H2 u v Q R s r1 r2 q=> ?_;obtain⟨p,us,rfl,_,l,r⟩:=Rp.lst.mp (show Rp X.K Hi n (.lst xs) (aM H2 O) u from r1);obtain⟨w,hw,rw'⟩:=kH r c;exact⟨p,us,k,w,rfl,r2.int R s e2,(aR (O:=O)).seq l,hw,q w (rw'.mono bC).up⟩
 case h_2 xs n k e2 =>
  cases c:dH xs k with
  | none=>rw[c]at h;cases h
  | some e =>
   rw[c]at h;cases h;refine go iP fun O σ H H2 u v Q R s r1 r2 q=> ?_;obtain⟨p,us,rfl,l,r⟩:=Rp.tup.mp (show Rp X.K Hi n (.tup xs) (aM H2 O) u from r1);obtain⟨w,hw,rw'⟩:=kH r c;exact⟨p,us,k,w,rfl,r2.int R s e2,(aR (O:=O)).tup l,hw,q w rw'.up⟩
 case h_3 xs n k e2 =>
  cases c:dH xs k with
  | none=>rw[c]at h;cases h
  | some e =>
   rw[c]at h;cases h;refine go fC fun O σ H H2 u v Q R s r1 r2 q=> ?_;obtain⟨p,us,rfl,h0,h1,r⟩:=r1;obtain⟨w,hw,rw'⟩:=kH r c;exact⟨p,us,k,w,rfl,r2.int R s e2,bB.of h1,hw,q w (rw'.mono (aJ bC)).up⟩
 case h_4 xs k e2 =>
  cases c:dH xs k with
  | none=>rw[c]at h;cases h
  | some e =>
   rw[c]at h;cases h;refine go fC fun O σ H H2 u v Q R s r1 r2 q=> ?_;obtain⟨p,us,rfl,_,l,r⟩:=Rp.lst.mp (show Rp X.K Hi false (.lst xs) H2 u from r1);obtain⟨w,hw,rw'⟩:=kH r c;refine⟨p,us,k,w,rfl,r2.int R s e2,l,hw,q w ?_⟩;unfold jm
   split
   ·rename_i im
    exact Rp.imm im (R.ext s).tups (rw'.mono bC)
   ·exact rw'.mono bC
 case h_5 xs k e2 =>
  cases c:dH xs k with
  | none=>rw[c]at h;cases h
  | some e =>
   rw[c]at h;cases h;refine go iP fun O σ H H2 u v Q R s r1 r2 q=> ?_;obtain⟨p,us,rfl,l,r⟩:=Rp.tup.mp (show Rp X.K Hi false (.tup xs) H2 u from r1);obtain⟨w,hw,rw'⟩:=kH r c;refine⟨p,us,k,w,rfl,r2.int R s e2,l,hw,q w ?_⟩;unfold jm
   split
   ·rename_i im
    exact Rp.imm im (R.ext s).tups rw'
   ·exact rw'
 case h_6 z n k e2 =>
  split at h
  ·rename_i hz
   cases c:dH z.cps.toList k with
   | none=>rw[c]at h;cases h
   | some e =>
    rw[c]at h;cases h;exact go DR fun O σ H H2 u v Q R s r1 r2 q=>⟨z,k,e,r1.str R s rfl,r2.int R s e2,by rw[dv];exact hz,c,q _ scS⟩
  ·cases h
 case h_7 ks vs n =>
  cases ek:jp y.val with
  | none=>rw[ek]at h;cases h
  | some k =>
   rw[ek]at h;have h:(i8 ks vs k).map (fun e=>RV.frz e (n||imm e))=some r:=h;cases c:i8 ks vs k with
   | none=>rw[c]at h;cases h
   | some e =>
    rw[c]at h;cases h;intro O σ H Q R q;refine we (sg (by omega) aY aY (noSl hb)) ?_;refine ha O σ H _ R fun u H1 s1 r1=>hi O σ H1 _ (R.ext s1) fun v H2 s2 r2=> ?_;obtain⟨p,us,rfl,h1,h2,h3⟩:=Rp.dK (show Rp X.K Hi n (.dK ks vs) (aM H2 O) u from r1.ext s2);obtain⟨w,hw,rw'⟩:=(sI (k:=k) h3 h2).2 e c;rw[xZ ek ((r2.back s1).val R (s1.trans s2))];have g:fI H2 p (kV k) (some w):=by rw[<- hw];exact .k (aR p _ h1)
    exact⟨p,w,rfl,g,q w H2 (s1.trans s2) (rw'.mono bC).up⟩
 case h_8=>cases h
variable(X Hi τ)in
noncomputable def vN(e:Option Expr)(o:Option Int):Prop:=match e,o with
 | none,none=>True
 | some e,some i=>∃r,aL X Hi τ e r/\r.val=.int i
 | _,_=>False
theorem wJ{a:Expr}{lo hi:Option Expr}{l h:Option Int}{p2 pos:Pos}{x r:RV}{rr:V->Option Int->Option Int->Hp->VK->Prop}(hr:SlR X rr)(ha:aL X Hi τ a x)(hl:vN X Hi τ lo l)(hh:vN X Hi τ hi h)
  (k:∀(O:List Addr)(σ:L2.St)(H H2:Hp)(u:V)(Q:VK),aZ X.K Hi O τ σ H->aC H H2->af X.K Hi O H H2 x u->(∀w H3,aC H2 H3->af X.K Hi O H H3 r w->Q w H3)->rr u l h H2 Q):aL X Hi τ (.Subscript a (.Slice lo hi none p2) pos) r:=by
 have part:∀{e:Option Expr}{o:Option Int},vN X Hi τ e o->∃t,PO X e t/\∀(O:List Addr)(σ:L2.St)(H:Hp)(Q:Option Int->Hp->Prop),aZ X.K Hi O τ σ H->(∀H',aC H H' ->Q o H')->t σ H Q:=by
  intro e o he;cases e with
  | none =>
   cases o with
   | none=>exact⟨_,zr,fun O σ H Q R q=>q H (aC.refl _)⟩
   | some i=>cases he
  | some e =>
   cases o with
   | none=>cases he
   | some i =>
    obtain⟨r,h1,h2⟩:=he;exact⟨_,zq aY,fun O σ H Q R q=>h1 O σ H _ R fun u H1 s1 r1=>⟨i,r1.int R s1 h2,q _ s1⟩⟩
 obtain⟨tl,pl,ql⟩:=part hl;obtain⟨th,ph,qh⟩:=part hh;intro O σ H Q R q;refine we (ww hr aY pl ph) ?_;refine ha O σ H _ R fun u H1 s1 r1=>ql O σ H1 _ (R.ext s1) fun H2 s2=>qh O σ H2 _ (R.ext (s1.trans s2)) fun H3 s3=> ?_;exact k O σ H H3 u Q R (s1.trans (s2.trans s3)) (r1.ext (s2.trans s3)) fun w H4 s4 r4=>q w H4 (s1.trans (s2.trans (s3.trans s4))) r4
theorem aG.cut{n:Bool}{xs:List PV}{H:Hp}{us:List V}(r:aG X.K Hi n xs H us)(lo hi:Option Int):aG X.K Hi n (IR.cut xs lo hi) H (uw us lo hi):=by
 unfold IR.cut uw;rw[<- r.len];exact(r.drop _).take _
theorem af.whole{O:List Addr}{σ:L2.St}{H H' :Hp}{x:RV}{u:V}{xs ys:List PV}{n:Bool}(R:aZ X.K Hi O τ σ H)(s:aC H H')(h:af X.K Hi O H H' x u)(e:x.its=some (xs,n))(ev:x.val=.tup ys):af X.K Hi O H H' (.frz (.tup xs) n) u:=by
 cases x with
 | frz w m =>
  obtain rfl:w=.tup ys:=ev;cases e;exact h
 | bor w =>
  obtain rfl:w=.tup ys:=ev;have e:(if imms ys then some (ys,true)else none)=some (xs,n):=e
  split at e
  ·rename_i i
   cases e;exact Rp.imm (by rw[imm];exact i) (R.ext s).tups (show Rp X.K Hi false (.tup _) H' u from h)
  ·cases e
 | own ys m=>cases ev
 | owd b ys m=>cases b<;>cases ev
theorem wI{a:Expr}{lo hi:Option Expr}{l h:Option Int}{p2 pos:Pos}{x r:RV}(ha:aL X Hi τ a x)(hl:vN X Hi τ lo l)(hh:vN X Hi τ hi h)(e:slice x l h=some r):aL X Hi τ (.Subscript a (.Slice lo hi none p2) pos) r:=by
 unfold slice at e
 split at e
 case h_1 ev =>
  cases ei:x.its with
  | none=>rw[ei]at e;cases e
  | some w =>
   obtain⟨xs,n⟩:=w;rw[ei]at e;cases e;refine wJ zQ ha hl hh fun O σ H H2 u Q R s r1 q=> ?_;obtain⟨p,us,rfl,l1,r2⟩:=r1.itsL R s ei ev;exact⟨p,us,rfl,l1,fun p3 hp=>q _ _ (aI hp _) (dX s hp (r2.up.cut _ _))⟩
 case h_2=>cases e
end
end IR
namespace IR
open PySem L2
section
variable{X:Cx}{Hi:Hp}{τ:En}
theorem DE{α β:Type}{o:Option α}{f:α->β}{b:β}(h:o.map f=some b):∃a,o=some a/\f a=b:=by
 cases o with
 | none=>cases h
 | some a=>cases h;exact⟨a,rfl,rfl⟩
theorem uM{v:PV}{ns:List Int}(h:iH v=some ns):∃xs,v=.lst xs/\aN xs=some ns/\∀n∈ns,0<=n/\n<8:=by
 cases v with
 | lst xs =>
  have h:((aN xs).bind fun ns=>if ns.all (fun n=>decide (0<=n)&&decide (n<8))=true then some ns else none)=some ns:=h;cases e:aN xs with
  | none=>rw[e]at h;cases h
  | some ms =>
   rw[e]at h;have h:(if ms.all (fun n=>decide (0<=n)&&decide (n<8))=true then some ms else none)=some ns:=h
   split at h
   ·rename_i c
    cases h;exact⟨xs,rfl,e,fun n hn=>by simpa using Hx.mp c n hn⟩
   ·cases h
 | _=>cases h
theorem nst_ok{cd:Nat->List PV->Option PV}{ct:Ct}(C:bG cd X ct){x y:Str}{f:Bf}{a:Expr}{p p2 pos pos2:Pos}{ra r:RV}(ho:own ct x=true)(ho2:own ct y=true)(hf:sv x y=some f)(hs:isStar a=false)(ha:aL X Hi τ a ra)(h:ia f [ra]=some r) :
  aL X Hi τ (.Call (.Name x p) [.Call (.Name y p2) [a] [] pos2] [] pos) r:=by
 unfold sv at hf
 split at hf
 ·rename_i c
  rw[Hb]at c;have hx:=IF c.1;have hy:=IF c.2;subst hx hy;cases hf;have h:(iH ra.val).map (fun ns=>RV.own ((dz ns).map PV.int) true)=some r:=h;obtain⟨ns,hn,rfl⟩:=DE h;obtain⟨xs,e,eb,h8⟩:=uM hn;intro O σ H Q R q;obtain⟨g,hm⟩:=d0 C ho;obtain⟨g2,hm2⟩:=d0 C ho2;refine we (dN (iW C.calm) g hm PyProof.Rows.boot_sorted (aH (cX (vC C.calm) g2 hm2 PyProof.Rows.boot_set (aH aY aX (aP hs)) (by decide) (by decide) (aP hs) rfl) aX) (by decide) (by decide) rfl rfl) ?_;refine ha O σ H _ R fun u H1 s1 r1=> ?_;obtain⟨l,us,rfl,hl,rr⟩:=r1.lst R s1 e;have eu:=cY eb rr;subst eu;refine⟨l,ns,rfl,hl,h8,fun b hb=>⟨b,maskOf ns,rfl,AO h8,aD,fun d hd=> ?_⟩⟩;have s2:=s1.trans (aI hb (.ext (SQ.SX X.w b (maskOf ns))));refine q _ _ (s2.trans (aI hd _)) (dX s2 hd (aG.ints.mpr ?_));unfold dz;rw[Ia];rfl
 ·cases hf
end
end IR
namespace IR
open PySem PySem.Spec PyProof.Rows L2
section
variable{X:Cx}{Hi:Hp}{τ:En}
noncomputable def WI(X:Cx)(tg iter:Expr)(σ:L2.St)(H:Hp)(R:It->Hp->Prop):Prop:=∃wi,PI X tg iter wi/\wi σ H R
theorem qY{tg iter:Expr}:PI X tg iter (fun σ H R=>WI X tg iter σ H R):=fun pins s σ H R I ⟨wi,h,q⟩=>h pins s σ H R I q
noncomputable def pe(O:List Addr)(H:Hp):Prop:=∀l∈O,∃o,H l=some o/\Mo o
theorem aZ.lsts{K:W.Frag}{O:List Addr}{σ:L2.St}{H:Hp}(R:aZ K Hi O τ σ H):pe O H:=fun l hl=>(R.own l hl).2
noncomputable def ye(B:Hp)(H:Hp)(O:List Addr):Prop:=pe O H/\aC B (aM H O)
noncomputable def HD(B:Hp)(H:Hp)(O:List Addr):Prop:=pe O H/\aC B H
theorem pe.tups{O:List Addr}{H:Hp}(h:pe O H):re H (aM H O):=by
 refine hX.tups fun l hl=> ?_;obtain⟨us,e,mo⟩:=h l hl;exact mo.noTup e
variable(X Hi)in
structure i6(J:It)(Ok:Hp->List Addr->Prop)(xs:List PV)(n:Bool):Prop where
 go:∀(H:Hp)(O:List Addr)(i:Nat),Ok H O->i<xs.length->J.go i H
 stop:∀(H:Hp)(O:List Addr),Ok H O->J.stop xs.length H
 yld:∀(H:Hp)(O:List Addr)(i:Nat)(u:V)(H' :Hp),Ok H O->i<xs.length->J.yld i H u H' ->aC H H' /\∃x,xs[i]? =some x/\Rp X.K Hi n x (aM H' O) u
variable(X Hi τ)in
noncomputable def nJ(tg iter:Expr)(xs:List PV)(n b:Bool):Prop:=∀(O:List Addr)(σ:L2.St)(H:Hp)(R:It->Hp->Prop),aZ X.K Hi O τ σ H ->
 (∀J H1,aC H H1->i6 X Hi J (if b=true then HD H1 else ye (aM H1 O)) xs n->R J H1)->WI X tg iter σ H R
theorem Bq{B:Hp}{p:Addr}{us:List V}{xs:List PV}{n:Bool}(l:bB X.K B p us)(r:aG X.K Hi n xs B us):i6 X Hi (Eh X.K p) (ye B) xs n where
 go:=fun H O i ok hi=>⟨us,us[i]'(by rw[<- r.len];exact hi),(ok.2.trans aR).seq l,by simp⟩
 stop:=fun H O ok=>⟨us,(ok.2.trans aR).seq l,by rw[r.len];exact Hg _⟩
 yld:=fun H O i u H' ok hi y=>by
  obtain⟨e,y⟩:=y;subst e;obtain⟨x,h1,h2⟩:=r.at' (y us ((ok.2.trans aR).seq l));exact⟨aC.refl _,x,h1,h2.mono ok.2⟩
theorem GS{B:Hp}{p:Addr}{us:List V}{xs:List PV}{n:Bool}(l:cT X.K B p us)(r:aG X.K Hi n xs B us):i6 X Hi (Itt X.K p) (ye B) xs n where
 go:=fun H O i ok hi=>⟨us,us[i]'(by rw[<- r.len];exact hi),(ok.2.trans aR).tup l,by simp⟩
 stop:=fun H O ok=>⟨us,(ok.2.trans aR).tup l,by rw[r.len];exact Hg _⟩
 yld:=fun H O i u H' ok hi y=>by
  obtain⟨e,y⟩:=y;subst e;obtain⟨x,h1,h2⟩:=r.at' (y us ((ok.2.trans aR).tup l));exact⟨aC.refl _,x,h1,h2.mono ok.2⟩
theorem Dx{B:Hp}{p:Addr}{us:List V}{xs:List PV}{n m:Bool}(l:bB X.K B p us)(r:aG X.K Hi m xs B us)(im:imms xs=true):i6 X Hi (Eh X.K p) (HD B) xs n where
 go:=fun H O i ok hi=>⟨us,us[i]'(by rw[<- r.len];exact hi),ok.2.seq l,by simp⟩
 stop:=fun H O ok=>⟨us,ok.2.seq l,by rw[r.len];exact Hg _⟩
 yld:=fun H O i u H' ok hi y=>by
  obtain⟨e,y⟩:=y;subst e;have r2:aG X.K Hi n xs (aM H' O) us:=aG.imm im ok.1.tups (r.mono ok.2);obtain⟨x,h1,h2⟩:=r2.at' (y us (ok.2.seq l));exact⟨aC.refl _,x,h1,h2⟩
theorem Dw{B:Hp}{p:Addr}{us:List V}{xs:List PV}{n m:Bool}(l:cT X.K B p us)(r:aG X.K Hi m xs B us)(im:imms xs=true):i6 X Hi (Itt X.K p) (HD B) xs n where
 go:=fun H O i ok hi=>⟨us,us[i]'(by rw[<- r.len];exact hi),ok.2.tup l,by simp⟩
 stop:=fun H O ok=>⟨us,ok.2.tup l,by rw[r.len];exact Hg _⟩
 yld:=fun H O i u H' ok hi y=>by
  obtain⟨e,y⟩:=y;subst e;have r2:aG X.K Hi n xs (aM H' O) us:=aG.imm im ok.1.tups (r.mono ok.2);obtain⟨x,h1,h2⟩:=r2.at' (y us (ok.2.tup l));exact⟨aC.refl _,x,h1,h2⟩
theorem cW(z:Str):(signs z).length=z.cps.size:=by unfold signs;rw[HX,Ig]
theorem signs_at{z:Str}{i:Nat}{c:Nat}(h:z.cps[i]? =some c):(signs z)[i]? =some (.str ⟨#[c]⟩):=by
 unfold signs;rw[Ho,JL,h];rfl
theorem GT{B:Hp}{z:Str}{n:Bool}:i6 X Hi (HR z) (ye B) (signs z) n where
 go:=fun H O i ok hi=>by rw[cW]at hi;exact hi
 stop:=fun H O ok=>by show(signs z).length=z.cps.size;exact cW z
 yld:=fun H O i u H' ok hi y=>by
  obtain⟨e,c,hc,rfl⟩:=y;subst e;exact⟨aC.refl _,_,signs_at hc,Rp.str.mpr rfl⟩
theorem tP{B:Hp}{lo:Int}{k:Nat}{n:Bool}:i6 X Hi (Bv lo k) (ye B) ((List.range k).map fun i=>.int (lo+(i:Nat))) n where
 go:=fun H O i ok hi=>by show i<k;simpa using hi
 stop:=fun H O ok=>by show k<=_;simp
 yld:=fun H O i u H' ok hi y=>by
  obtain⟨e,rfl⟩:=y;subst e;have hi:i<k:=by simpa using hi
  exact⟨aC.refl _,_,by rw[Ho,Iy hi];rfl,Rp.int.mpr rfl⟩
theorem yD{B:Hp}{lo c:Int}{k:Nat}{n:Bool}:i6 X Hi (Itc lo c k) (ye B) ((List.range k).map fun i=>.int (lo+(i:Nat)*c)) n where
 go:=fun H O i ok hi=>by show i<k;simpa using hi
 stop:=fun H O ok=>by show _=k;simp
 yld:=fun H O i u H' ok hi y=>by
  obtain⟨e,rfl⟩:=y;subst e;have hi:i<k:=by simpa using hi
  exact⟨aC.refl _,_,by rw[Ho,Iy hi];rfl,Rp.int.mpr rfl⟩
theorem CJ{tg e:Expr}{r:RV}{xs:List PV}{n b:Bool}(he:aL X Hi τ e r)(h:ko r=some (xs,n,b)):nJ X Hi τ tg e xs n b:=by
 intro O σ H R Rl q;cases r with
 | frz v m =>
  cases v with
  | str z =>
   cases h;refine⟨_,Cm aY,?_⟩;exact he O σ H _ Rl fun u H1 s1 r1=>⟨z,r1.str Rl s1 rfl,q _ _ s1 GT⟩
  | lst ys =>
   cases h;refine⟨_,eh aY,?_⟩;refine he O σ H _ Rl fun u H1 s1 r1=> ?_;obtain⟨p,us,rfl,_,l,r⟩:=Rp.lst.mp (show Rp X.K Hi n (.lst xs) (aM H1 O) u from r1);exact⟨p,rfl,⟨us,(aR (O:=O)).seq l⟩,q _ _ s1 (Bq l (r.mono bC))⟩
  | tup ys =>
   cases h;refine⟨_,wo aY,?_⟩;refine he O σ H _ Rl fun u H1 s1 r1=> ?_;obtain⟨p,us,rfl,l,r⟩:=Rp.tup.mp (show Rp X.K Hi n (.tup xs) (aM H1 O) u from r1);exact⟨p,rfl,⟨us,(aR (O:=O)).tup l⟩,q _ _ s1 (GS l r)⟩
  | _=>cases h
 | bor v =>
  cases v with
  | lst ys =>
   have h:(if imms ys then some (ys,true,true)else none)=some (xs,n,b):=h
   split at h
   ·rename_i im
    cases h;refine⟨_,eh aY,?_⟩;refine he O σ H _ Rl fun u H1 s1 r1=> ?_;obtain⟨p,us,rfl,_,l,r⟩:=Rp.lst.mp (show Rp X.K Hi false (.lst xs) H1 u from r1);exact⟨p,rfl,⟨us,l⟩,q _ _ s1 (Dx l (r.mono bC) im)⟩
   ·cases h
  | tup ys =>
   have h:(if imms ys then some (ys,true,true)else none)=some (xs,n,b):=h
   split at h
   ·rename_i im
    cases h;refine⟨_,wo aY,?_⟩;refine he O σ H _ Rl fun u H1 s1 r1=> ?_;obtain⟨p,us,rfl,l,r⟩:=Rp.tup.mp (show Rp X.K Hi false (.tup xs) H1 u from r1);exact⟨p,rfl,⟨us,l⟩,q _ _ s1 (Dw l r im)⟩
   ·cases h
  | _=>cases h
 | owd bd ys m=>cases h
 | own ys m =>
  cases h;refine⟨_,eh aY,?_⟩;refine he O σ H _ Rl fun u H1 s1 r1=> ?_;obtain⟨p,us,rfl,h0,h1,r⟩:=r1;have hl:aM H1 O p=some (.lst us):=by
   unfold aM;rw[Hl fun z=> ?_]
   ·exact h1
   ·obtain⟨vs,e',_⟩:=(Rl.own p z).2
    rw[h0]at e';cases e'
  exact⟨p,rfl,⟨us,bB.of h1⟩,q _ _ s1 (Bq (bB.of hl) (r.mono (aJ bC)))⟩
theorem CV{cd:Nat->List PV->Option PV}{ct:Ct}(C:bG cd X ct){tg:Expr}{es:List Expr}{p pos:Pos}{rs:List RV}{xs:List PV}(ho:own ct ("range":Str)=true)(hs:∀a∈es,isStar a=false)(ha:nL X Hi τ es rs)(hl:es.length=rs.length)(h:iI rs=some xs) :
  nJ X Hi τ tg (.Call (.Name "range" p) es [] pos) xs true false:=by
 intro O σ H R Rl q;obtain⟨g,hm⟩:=d0 C ho;unfold iI at h
 split at h
 ·rename_i ra
  cases e:ra.val with
  | int j =>
   simp only[e]at h
   split at h
   ·rename_i c
    cases h
    match es,hl with
    | [a],_ =>
     refine⟨_,kz g hm qe (aP (hs a (by simp))),?_⟩;refine ha O σ H _ Rl fun us H1 s1 r1=> ?_;obtain⟨u,vs,rfl,r2,z⟩:=r1;cases z;exact⟨j,by rw[r2.int Rl s1 e],c.1,c.2,q _ _ s1 tP⟩
   ·cases h
  | _=>simp only[e]at h;cases h
 ·rename_i ra rb
  cases e:ra.val with
  | int i =>
   cases e2:rb.val with
   | int j =>
    simp only[e,e2]at h
    split at h
    ·rename_i c
     cases h
     match es,hl with
     | [a,b],_ =>
      have h1:starEach [a,b] X.env=[(false,eval a X.env),(false,eval b X.env)]:=by rw[aP (hs a (by simp)),aP (hs b (by simp))];rfl
      refine⟨_,uU g hm qe h1 (aP (hs b (by simp))),?_⟩;refine ha O σ H _ Rl fun us H1 s1 r1=> ?_;obtain⟨u,vs,rfl,r2,u2,vs2,rfl,r3,z⟩:=r1;cases z;exact⟨i,j,by rw[r2.int Rl s1 e,r3.int Rl s1 e2],c,q _ _ s1 tP⟩
    ·cases h
   | _=>simp only[e,e2]at h;cases h
  | _=>simp only[e]at h;cases h
 ·rename_i ra rb rc
  cases e:ra.val with
  | int i =>
   cases e2:rb.val with
   | int j =>
    cases e3:rc.val with
    | int k =>
     simp only[e,e2,e3]at h
     split at h
     ·rename_i c
      cases h
      match es,hl with
      | [a,b,d],_ =>
       refine⟨_,uT g hm qe (aP (hs a (by simp))) (eo fun z hz=>hs z (by simp at hz ⊢;rcases hz with rfl|rfl<;>simp)),?_⟩;refine ha O σ H _ Rl fun us H1 s1 r1=> ?_;obtain⟨u,vs,rfl,r2,u2,vs2,rfl,r3,u3,vs3,rfl,r4,z⟩:=r1;cases z;exact⟨i,j,k,by rw[r2.int Rl s1 e,r3.int Rl s1 e2,r4.int Rl s1 e3],c.1,c.2.1,c.2.2,q _ _ s1 yD⟩
     ·cases h
    | _=>simp only[e,e2,e3]at h;cases h
   | _=>simp only[e,e2]at h;cases h
  | _=>simp only[e]at h;cases h
 ·cases h
theorem mT{O:List Addr}{σ:L2.St}{H H1:Hp}{r:RV}{xs:List PV}{n:Bool}{u:V}(R:aZ X.K Hi O τ σ H)(s:aC H H1)(h:xP r=some (xs,n))(ok:af X.K Hi O H H1 r u):∃p us,u=.ref p/\bB X.K (aM H1 O) p us/\aG X.K Hi n xs (aM H1 O) us:=by
 cases r with
 | frz v m =>
  cases v with
  | lst ys =>
   cases h;obtain⟨p,us,rfl,_,l,r⟩:=Rp.lst.mp (show Rp X.K Hi n (.lst xs) (aM H1 O) u from ok);exact⟨p,us,rfl,l,r.mono bC⟩
  | _=>cases h
 | bor v=>cases h
 | owd bd ys m=>cases h
 | own ys m =>
  cases h;obtain⟨p,us,rfl,h0,h1,r⟩:=ok;have hl:aM H1 O p=some (.lst us):=by
   unfold aM;rw[Hl fun z=> ?_]
   ·exact h1
   ·obtain⟨vs,e',_⟩:=(R.own p z).2
    rw[h0]at e';cases e'
  exact⟨p,us,rfl,bB.of hl,r.mono (aJ bC)⟩
theorem jJ{O:List Addr}{H:Hp}{p:Addr}{us:List V}{xs:List PV}{n:Bool}(l:pe O H)(hp:H p=none)(r:aG X.K Hi n xs (aM H O) us):Rp X.K Hi n (.tup xs) (aM (L2.upd H p (.tup us)) O) (.ref p):=by
 refine Rp.tup.mpr ⟨p,us,rfl,cT.of ?_,r.mono (aJ (aI hp _))⟩;unfold aM;rw[Hl fun z=> ?_]
 ·exact aD
 ·obtain⟨us,e,_⟩:=l p z
  rw[e]at hp;cases hp
theorem Bw{cd:Nat->List PV->Option PV}{ct:Ct}(C:bG cd X ct){ts:List Expr}{kt:Nat}{tpos:Pos}{a b:Expr}{p pos:Pos}{ra rb:RV}{xs:List PV}{n:Bool}(ho:own ct ("zip":Str)=true)(hs:isStar a=false)(hs2:isStar b=false)(ha:aL X Hi τ a ra)(hb:aL X Hi τ b rb)(h:vg ra rb=some (xs,n)) :
  nJ X Hi τ (.Tuple ts kt tpos) (.Call (.Name "zip" p) [a,b] [] pos) xs n false:=by
 intro O σ H R Rl q;obtain⟨g,hm⟩:=d0 C ho;unfold vg at h
 split at h
 ·rename_i ys n1 zs n2 e1 e2
  split at h
  ·rename_i hlen
   cases h;refine⟨_,Ck g hm (aH aY (aH aY aX (aP hs2)) (aP hs)) (aP hs) (eo fun c hc=>by simp at hc;subst hc;exact hs2),?_⟩;refine ha O σ H _ Rl fun u H1 s1 r1=>hb O σ H1 _ (Rl.ext s1) fun v H2 s2 r2=> ?_;obtain⟨p1,us,rfl,l1,q1⟩:=mT Rl (s1.trans s2) e1 (r1.ext s2);obtain⟨p2,vs,rfl,l2,q2⟩:=mT Rl (s1.trans s2) e2 (r2.back s1);refine⟨p1,p2,us,vs,rfl,(aR (O:=O)).seq l1,(aR (O:=O)).seq l2,q _ _ (s1.trans s2) ?_⟩;have z1:=q1.len;have z2:=q2.len;have zl:(List.zipWith sj ys zs).length=us.length:=by rw[Jz,<-hlen,KU];exact z1
   refine⟨fun G P i ok hi=> ?_,fun G P ok=> ?_,fun G P i w G' ok hi y=> ?_⟩
   ·rw[zl]at hi
    exact⟨us,vs,us[i],vs[i]'(by omega),(ok.2.trans aR).seq l1,(ok.2.trans aR).seq l2,by simp,by simp⟩
   ·exact⟨us,vs,(ok.2.trans aR).seq l1,(ok.2.trans aR).seq l2,.inl (by rw[zl];exact Hg _)⟩
   ·rw[zl]at hi
    obtain⟨p3,hp3,rfl,y⟩:=y;have e:=y us vs us[i] (vs[i]'(by omega)) ((ok.2.trans aR).seq l1) ((ok.2.trans aR).seq l2) (by simp) (by simp);subst e;obtain⟨x1,hx1,rx1⟩:=q1.at' (i:=i) (u:=us[i]) (by simp);obtain⟨x2,hx2,rx2⟩:=q2.at' (i:=i) (u:=vs[i]'(by omega)) (by simp);refine⟨aI hp3 _,sj x1 x2,by rw[Jr,hx1,hx2],jJ ok.1 hp3 (.cons ((rx1.mono ok.2).low fun z=> ?_) (.cons ((rx2.mono ok.2).low fun z=> ?_) .nil))⟩
    ·rw[Hb]at z;exact z.1
    ·rw[Hb]at z;exact z.2
  ·cases h
 ·cases h
theorem Al{cd:Nat->List PV->Option PV}{ct:Ct}(C:bG cd X ct){ts:List Expr}{kt:Nat}{tpos:Pos}{a:Expr}{p pos:Pos}{ra:RV}{xs:List PV}{n:Bool}(ho:own ct ("enumerate":Str)=true)(hs:isStar a=false)(ha:aL X Hi τ a ra)(h:pH ra=some (xs,n)) :
  nJ X Hi τ (.Tuple ts kt tpos) (.Call (.Name "enumerate" p) [a] [] pos) xs n false:=by
 intro O σ H R Rl q;obtain⟨g,hm⟩:=d0 C ho;unfold pH at h
 split at h
 ·rename_i z m
  cases h;refine⟨_,wu g hm (aH aY aX (aP hs)) (aP hs),?_⟩;refine ha O σ H _ Rl fun u H1 s1 r1=>⟨z,by rw[r1.str Rl s1 rfl],q _ _ s1 ?_⟩;have zl:(List.zipWith jB (List.range z.length) (signs z)).length=z.length:=by rw[Jz,cW,IU];exact KU _
  have hsl:(cg z).length=z.length:=jW z;refine⟨fun G P i ok hi=> ?_,fun G P ok=> ?_,fun G P i w G' ok hi y=> ?_⟩
  ·rw[zl]at hi
   exact⟨_,(cg z)[i]'(by omega),rfl,by simp⟩
  ·exact⟨_,rfl,by rw[zl,hsl]⟩
  ·rw[zl]at hi
   obtain⟨p3,hp3,rfl,y⟩:=y;have hz:i<z.cps.size:=hi;obtain⟨c,hc⟩:∃c,z.cps[i]? =some c:=⟨z.cps[i],by simp[hz]⟩;have hv:(cg z)[i]? =some (.str ⟨#[c]⟩):=by
    unfold cg;rw[Ho,JL,hc];rfl
   have e:=y _ (.str ⟨#[c]⟩) rfl hv;subst e;refine⟨aI hp3 _,jB i (.str ⟨#[c]⟩),by rw[Jr,signs_at hc,Iy hi],jJ ok.1 hp3 (.cons (Rp.int.mpr rfl) (.cons (Rp.str.mpr rfl) .nil))⟩
 ·rename_i ys m
  cases h;refine⟨_,wq g hm (aH aY aX (aP hs)) (aP hs),?_⟩;refine ha O σ H _ Rl fun u H1 s1 r1=> ?_;obtain⟨p1,us,rfl,l,r⟩:=Rp.tup.mp (show Rp X.K Hi n (.tup ys) (aM H1 O) u from r1);refine⟨p1,us,rfl,(aR (O:=O)).tup l,q _ _ s1 ?_⟩;have zl:(List.zipWith jB (List.range ys.length) ys).length=ys.length:=by rw[Jz,IU];exact KU _
  have hsl:=r.len;refine⟨fun G P i ok hi=> ?_,fun G P ok=> ?_,fun G P i w G' ok hi y=> ?_⟩
  ·rw[zl]at hi
   exact⟨us,us[i]'(by omega),(ok.2.trans aR).tup l,by simp⟩
  ·exact⟨us,(ok.2.trans aR).tup l,by rw[zl,hsl]⟩
  ·rw[zl]at hi
   obtain⟨p3,hp3,rfl,y⟩:=y;have hv:us[i]? =some (us[i]'(by omega)):=by simp
   have e:=y us _ ((ok.2.trans aR).tup l) hv;subst e;obtain⟨x1,hx1,rx1⟩:=r.at' hv;exact⟨aI hp3 _,jB i x1,by rw[Jr,hx1,Iy hi],jJ ok.1 hp3 (.cons (Rp.int.mpr rfl) (.cons (rx1.mono ok.2) .nil))⟩
 ·split at h
  ·rename_i ys m e1
   cases h;refine⟨_,oS g hm (aH aY aX (aP hs)) (aP hs),?_⟩;refine ha O σ H _ Rl fun u H1 s1 r1=> ?_;obtain⟨p1,us,rfl,l,r⟩:=mT Rl s1 e1 r1;refine⟨p1,us,rfl,(aR (O:=O)).seq l,q _ _ s1 ?_⟩;have zl:(List.zipWith jB (List.range ys.length) ys).length=ys.length:=by rw[Jz,IU];exact KU _
   have hsl:=r.len;refine⟨fun G P i ok hi=> ?_,fun G P ok=> ?_,fun G P i w G' ok hi y=> ?_⟩
   ·rw[zl]at hi
    exact⟨us,us[i]'(by omega),(ok.2.trans aR).seq l,by simp⟩
   ·exact⟨us,(ok.2.trans aR).seq l,by rw[zl,hsl]⟩
   ·rw[zl]at hi
    obtain⟨p3,hp3,rfl,y⟩:=y;have hv:us[i]? =some (us[i]'(by omega)):=by simp
    have e:=y us _ ((ok.2.trans aR).seq l) hv;subst e;obtain⟨x1,hx1,rx1⟩:=r.at' hv;exact⟨aI hp3 _,jB i x1,by rw[Jr,hx1,Iy hi],jJ ok.1 hp3 (.cons (Rp.int.mpr rfl) (.cons (rx1.mono ok.2) .nil))⟩
  ·cases h
theorem eY{N:List Str}:∀{xs:List Str}{is:List Nat},slots N xs=some is->xs.length=is.length
 | [],is,h=>by cases h;rfl
 | x::xs,is,h=>by
  unfold slots at h;cases e:slot N x with
  | none=>rw[e]at h;cases h
  | some i =>
   rw[e]at h;cases e2:slots N xs with
   | none=>simp[e2]at h
   | some js =>
    simp[e2]at h;subst h;simp[eY e2]
theorem oD{N:List Str}:∀{xs:List Str}{is:List Nat}{j i:Nat},slots N xs=some is->is[j]? =some i->∃x,xs[j]? =some x/\N[i]? =some x
 | [],is,j,i,h,hj=>by cases h;simp at hj
 | x::xs,is,j,i,h,hj=>by
  unfold slots at h;cases e:slot N x with
  | none=>rw[e]at h;cases h
  | some i0 =>
   rw[e]at h;cases e2:slots N xs with
   | none=>simp[e2]at h
   | some js =>
    simp[e2]at h;subst h;cases j with
    | zero =>
     simp at hj;subst hj;exact⟨x,by simp,eZ e⟩
    | succ j=>simpa using oD e2 (by simpa using hj)
theorem gm{ct:Ct}{t:Str}{scope:Scope}(h:qp ct t scope=true):scope.kind=.function/\(∀y∈scope.names,y.2=.cell->scope.names.lookup y.1=some .cell)/\(∀y∈scope.names,y.2=.local->scope.names.lookup y.1=some .local) /\
  (∀y∈scope.names,y.2=.free->(ct.S.lookup y.1=some .cell\/ct.S.lookup y.1=some .free))/\(t::frees scope).Nodup/\(scope.names.lookup t=some .local\/scope.names.lookup t=some .cell)/\∀x∈frees scope,scope.names.lookup x=some .free:=by
 unfold qp at h;simp only[Hb]at h;obtain⟨⟨⟨⟨⟨⟨h1,h2⟩,h3⟩,h4⟩,h5⟩,h6⟩,h7⟩:=h;refine⟨IF h1,fun y hy e=> ?_,fun y hy e=> ?_,fun y hy e=> ?_,Ib h5,by simpa using h6,fun x hx=> ?_⟩
 ·have:=Hx.mp h2 y hy
  rw[e]at this
  simpa using this
 ·have:=Hx.mp h3 y hy
  rw[e]at this
  simpa using this
 ·have:=Hx.mp h4 y hy
  rw[e]at this
  simpa using this
 ·have:=Hx.mp h7 x hx
  simpa using this
theorem gY{env:Env}:∀{names:List (Str×NameKind)}{x:Str},names.lookup x=some .cell ->
  (names.map fun(n,k)=>if(k==NameKind.free&&env.scope.kind== .function&&env.kindOf n==some .cell)then(n,NameKind.cell)else(n,k)).lookup x=some .cell
 | [],_,h=>by simp at h
 | (n,k)::r,x,h=>by
  have ih:= @gY env r x;show List.lookup x ((if(k==NameKind.free&&env.scope.kind== .function&&env.kindOf n==some .cell)=true then(n,NameKind.cell)else(n,k))::_)=_;cases hx:x==n with
  | true =>
   simp only[Il,hx]at h;cases h;rw[Hl (by simp)];simp only[Il,hx]
  | false =>
   simp only[Il,hx]at h
   by_cases hc:(k==NameKind.free&&env.scope.kind== .function&&env.kindOf n==some .cell)=true
   ·rw[Hr hc];simp only[Il,hx];exact ih h
   ·rw[Hl hc];simp only[Il,hx];exact ih h
theorem eX{N' :List Str}{scope:Scope}{Cf:Addr}{s2:Shared}{H2:Hp}{fp:List Addr}{cl:List (Str×Addr)}{t:Str}(h:scope.names.lookup t=some .local\/scope.names.lookup t=some .cell):L2.Loc (bD X N' scope Cf s2 H2 fp cl).env.scope t:=by
 rcases h with h|h
 ·exact .inl (lookup_relabel_local h)
 ·exact .inr (gY h)
theorem iF{N' :List Str}{scope:Scope}{Cf:Addr}{s2:Shared}{H2:Hp}{fp:List Addr}{cl:List (Str×Addr)}{t:Str}(h:scope.names.lookup t=some .local\/scope.names.lookup t=some .cell):(bD X N' scope Cf s2 H2 fp cl).fn t=true\/(bD X N' scope Cf s2 H2 fp cl).env.scope.names.lookup t=some .local:=by
 rcases h with h|h
 ·exact .inr (lookup_relabel_local h)
 ·left
  show(scope.names.lookup t==some .cell)=true;rw[h];rfl
theorem bG.blk{cd:Nat->List PV->Option PV}{ct:Ct}(C:bG cd X ct){t:Str}{scope:Scope}(h:qp ct t scope=true)(Cf:Addr)(s2:Shared)(H2:Hp)(fp:List Addr)(cl:List (Str×Addr)):bG cd (bD X (t::frees scope) scope Cf s2 H2 fp cl) (blk ct t scope):=by
 obtain⟨h1,h2,h3,h4,h5,h6,h7⟩:=gm h;refine⟨rfl,h5,?_,h1,C.calm,C.glob,C.bl,C.fns,JW,C.un⟩;show(scope.names.map fun(n,k)=>if(k==NameKind.free&&X.env.scope.kind== .function&&X.env.kindOf n==some .cell)then(n,NameKind.cell)else(n,k))=ku ct.S scope.names;unfold ku;refine JH fun y hy=> ?_;obtain⟨n,k⟩:=y;have e:(X.env.scope.kind==ScopeKind.function)=true:=by rw[C.kind];rfl
 have e2:X.env.kindOf n=ct.S.lookup n:=by
  show X.env.scope.names.lookup n=_;rw[C.S]
 dsimp only;rw[e,e2]
theorem fB{ct:Ct}{t t2:Str}{scope:Scope}(h:gn ct t t2 scope=true):scope.kind=.function/\(∀y∈scope.names,y.2=.cell->scope.names.lookup y.1=some .cell)/\(∀y∈scope.names,y.2=.local->scope.names.lookup y.1=some .local) /\
  (∀y∈scope.names,y.2=.free->(ct.S.lookup y.1=some .cell\/ct.S.lookup y.1=some .free))/\(t::t2::frees scope).Nodup/\(scope.names.lookup t=some .local\/scope.names.lookup t=some .cell)/\(scope.names.lookup t2=some .local\/scope.names.lookup t2=some .cell)/\∀x∈frees scope,scope.names.lookup x=some .free:=by
 unfold gn at h;simp only[Hb]at h;obtain⟨⟨⟨⟨⟨⟨⟨h1,h2⟩,h3⟩,h4⟩,h5⟩,h6⟩,h8⟩,h7⟩:=h;refine⟨IF h1,fun y hy e=> ?_,fun y hy e=> ?_,fun y hy e=> ?_,Ib h5,by simpa using h6,by simpa using h8,fun x hx=> ?_⟩
 ·have:=Hx.mp h2 y hy
  rw[e]at this
  simpa using this
 ·have:=Hx.mp h3 y hy
  rw[e]at this
  simpa using this
 ·have:=Hx.mp h4 y hy
  rw[e]at this
  simpa using this
 ·have:=Hx.mp h7 x hx
  simpa using this
theorem bG.blk2{cd:Nat->List PV->Option PV}{ct:Ct}(C:bG cd X ct){t t2:Str}{scope:Scope}(h:gn ct t t2 scope=true)(Cf:Addr)(s2:Shared)(H2:Hp)(fp:List Addr)(cl:List (Str×Addr)):bG cd (bD X (t::t2::frees scope) scope Cf s2 H2 fp cl) (blk2 ct t t2 scope):=by
 obtain⟨h1,h2,h3,h4,h5,h6,h8,h7⟩:=fB h;refine⟨rfl,h5,?_,h1,C.calm,C.glob,C.bl,C.fns,JW,C.un⟩;show(scope.names.map fun(n,k)=>if(k==NameKind.free&&X.env.scope.kind== .function&&X.env.kindOf n==some .cell)then(n,NameKind.cell)else(n,k))=ku ct.S scope.names;unfold ku;refine JH fun y hy=> ?_;obtain⟨n,k⟩:=y;have e:(X.env.scope.kind==ScopeKind.function)=true:=by rw[C.kind];rfl
 have e2:X.env.kindOf n=ct.S.lookup n:=by
  show X.env.scope.names.lookup n=_;rw[C.S]
 dsimp only;rw[e,e2]
theorem eD{cd:Nat->List PV->Option PV}{ct:Ct}(C:bG cd X ct){scope:Scope}:∀{xs:List Str}{caps:List Nat},slots ct.N xs=some caps->(∀x∈xs,scope.names.lookup x=some .free/\(ct.S.lookup x=some .cell\/ct.S.lookup x=some .free))->bH X scope xs (caps.map some)
 | [],caps,h,_=>by cases h;exact True.intro
 | x::xs,caps,h,k=>by
  unfold slots at h;cases e:slot ct.N x with
  | none=>rw[e]at h;cases h
  | some i0 =>
   rw[e]at h;cases e2:slots ct.N xs with
   | none=>simp[e2]at h
   | some js =>
    simp[e2]at h;subst h;obtain⟨k1,k2⟩:=k x He;exact⟨⟨by rw[C.N];exact eZ e,k1,by rw[C.S];exact k2⟩,eD C e2 fun y hy=>k y (HZ _ hy)⟩
theorem xI{t:TV}{x:Bd×List PV×Bool}(h:t.ob=some x):t≠.un:=fun e=>by subst e;cases h
theorem aZ.block{K:W.Frag}{O:List Addr}{σ:L2.St}{H:Hp}{caps:List Nat}{x:PV}{n:Bool}{u:V}(R:aZ K Hi O τ σ H)(nd:caps.Nodup)(r:Rp K Hi n x (aM H O) u) :
  aZ K Hi O (.frz x n::caps.map fun i=>τ.getD i .un) (some u::bF (caps.map some) σ) H:=by
 have hτ:∀(j:Nat)(v:TV),(caps.map fun i=>τ.getD i .un)[j]? =some v->v≠.un->∃i,caps[j]? =some i/\τ[i]? =some v:=fun j v e hv=>by
  rw[Ho]at e;cases ec:caps[j]? with
  | none=>rw[ec]at e;cases e
  | some i =>
   rw[ec]at e;refine⟨i,rfl,?_⟩;have e:τ.getD i .un=v:=IB e;rw[Hc]at e;cases et:τ[i]? with
   | none=>rw[et]at e;exact absurd e.symm hv
   | some w=>rw[et]at e;exact Ix some e
 have hσ:∀(j i:Nat),caps[j]? =some i->(bF (caps.map some) σ)[j]? =some ((σ[i]?).join):=fun j i e=>by
  unfold bF;rw[Ho,Ho,e];rfl
 refine⟨R.same,R.own,fun j v m e=> ?_,fun j t bd ys m e ht=> ?_,fun a b t t' x1 y1 l e1 ht e2 ht' h1 h2=> ?_⟩
 ·cases j with
  | zero =>
   simp at e;obtain⟨rfl,rfl⟩:=e;exact⟨u,by simp,r⟩
  | succ j =>
   obtain⟨i,h1,h2⟩:=hτ j _ (by simpa using e) (by simp);obtain⟨w,h3,h4⟩:=R.frz i v m h2;exact⟨w,by rw[JE,hσ j i h1,h3];rfl,h4⟩
 ·cases j with
  | zero =>
   simp at e;subst e;cases ht
  | succ j =>
   obtain⟨i,h1,h2⟩:=hτ j _ (by simpa using e) (xI ht);obtain⟨l,us,o,h3,h4⟩:=R.obs i t bd ys m h2 ht;exact⟨l,us,o,by rw[JE,hσ j i h1,h3];rfl,h4⟩
 ·cases a with
  | zero =>
   simp at e1;subst e1;cases ht
  | succ a =>
   cases b with
   | zero =>
    simp at e2;subst e2;cases ht'
   | succ b =>
    obtain⟨i,c1,c2⟩:=hτ a _ (by simpa using e1) (xI ht);obtain⟨j,d1,d2⟩:=hτ b _ (by simpa using e2) (xI ht');rw[JE,hσ a i c1]at h1;rw[JE,hσ b j d1]at h2;obtain⟨b1,xs1,n1⟩:=x1;obtain⟨b2,xs2,n2⟩:=y1;obtain⟨l1,us1,o1,g1,_⟩:=R.obs i t b1 xs1 n1 c2 ht;obtain⟨l2,us2,o2,g2,_⟩:=R.obs j t' b2 xs2 n2 d2 ht';rw[g1]at h1;rw[g2]at h2;cases h1;cases h2;have e:=R.dst i j t t' _ _ l c2 ht d2 ht' g1 g2;subst e
    congr 1
    have ha:a<caps.length:=(Hh.mp c1).1;have hb:b<caps.length:=(Hh.mp d1).1;have e1:caps[a]=i:=by rw[Hd ha]at c1;exact IB c1
    have e2:caps[b]=i:=by rw[Hd hb]at d1;exact IB d1
    exact(List.getElem_inj nd).mp (e1.trans e2.symm)
theorem dj{N:List Str}:∀{xs:List Str}{caps:List Nat},slots N xs=some caps->xs.Nodup->caps.Nodup
 | [],caps,h,_=>by cases h;exact List.nodup_nil
 | x::xs,caps,h,nd=>by
  unfold slots at h;cases e:slot N x with
  | none=>rw[e]at h;cases h
  | some i0 =>
   rw[e]at h;cases e2:slots N xs with
   | none=>simp[e2]at h
   | some js =>
    simp[e2]at h;subst h;refine IQ.mpr ⟨fun hm=> ?_,dj e2 (IQ.mp nd).2⟩;obtain⟨k,hk⟩:=List.mem_iff_getElem?.mp hm;obtain⟨y,h1,h2⟩:=oD e2 hk;rw[eZ e]at h2;cases h2;exact(IQ.mp nd).1 (Hz h1)
theorem aZ.hide{K:W.Frag}{O:List Addr}{σ:L2.St}{H H' :Hp}{D:Addr}{us:List V}(R:aZ K Hi O τ σ H)(s:aC H H')(h0:H D=none)(h1:H' D=some (.lst us)):aZ K Hi (D::O) τ σ H' :=by
 have hs:aC (aM H O) (aM H' (D::O)):=fun b o e=>by
  unfold aM at e ⊢
  split at e
  ·cases e
  ·rename_i nb
   have ne:b≠D:=aK e h0;rw[Hl (by simp[ne,nb])];exact s b o e
 refine⟨R.same.trans s,fun l hl=> ?_,fun i v n e=> ?_,fun i t b xs n e ht=> ?_,R.dst⟩
 ·rcases Hm.mp hl with rfl|hl
  ·exact⟨R.same.free h0,_,h1,.lst⟩
  ·obtain⟨q,vs,e,mo⟩:=R.own l hl
   exact⟨q,vs,s _ _ e,mo⟩
 ·obtain⟨u,g1,g2⟩:=R.frz i v n e
  exact⟨u,g1,g2.mono hs⟩
 ·obtain⟨l,vs,o,g1,g2,g3,g4,g5⟩:=R.obs i t b xs n e ht
  exact⟨l,vs,o,g1,HZ _ g2,s _ _ g3,g4,g5.mono hs⟩
theorem dY{e:Expr}{env:Env}(h:dP e=false):∀x,foldedSetIterable e env x=pure x:=by
 intro x;cases e with
 | Set a b c=>cases h
 | _=>rfl
noncomputable def pN(cd:Nat->List PV->Option PV)(ifs:Ej)(elt:IE)(n:Bool)(aU:En):PV->Option (Option (PV×Bool)):=fun x=>(iS cd ifs (.frz x (n||imm x)::aU)).bind fun b=>if b then(aV cd elt (.frz x (n||imm x)::aU)).bind fun r=>r.keep.map some else some none
theorem AV{cd:Nat->List PV->Option PV}{ct:Ct}(C:bG cd X ct){t:Str}{tp:Pos}{iter elt:Expr}{ifs:List Expr}{ifs' :Ej}{elt' :IE}{scope:Scope}{caps:List Nat}{xs:List PV}{n b:Bool}{VS:List PV}{NN:Bool}
  (h:qp ct t scope=true) (hc:slots ct.N (frees scope)=some caps) (hset:dP iter=false) (gP:nJ X Hi τ (.Name t tp) iter xs n b) (hz:xs.length<=LN)
  (hifs:∀(X' :Cx)(τ' :En)(k:Bool),bG cd X' (blk ct t scope)->iS cd ifs' τ' =some k->∃tt,yd X' ifs tt/\∀(O:List Addr)(σ:L2.St)(H:Hp)(Q:Bool->Hp->Prop),aZ X'.K Hi O τ' σ H->(∀H',aC H H' ->Q k H')->tt σ H Q)
  (helt:∀(X' :Cx)(τ' :En)(r:RV),bG cd X' (blk ct t scope)->aV cd elt' τ' =some r->aL X' Hi τ' elt r)
  (hrun:bL (pN cd ifs' elt' n (caps.map fun i=>τ.getD i .un)) xs=some (VS,NN)):bH X scope (t::frees scope) (none::caps.map some)/\ck X.env.scope scope=true /\
  ∀(O:List Addr)(σ:L2.St)(H:Hp)(Q:VK),aZ X.K Hi O τ σ H->(∀u H',aC H H' ->af X.K Hi O H H' (.own VS NN) u->Q u H')->CD X (t::frees scope) (none::caps.map some) scope (.Name t tp) ifs elt (fun σ H R=>WI X (.Name t tp) iter σ H R) σ H Q:=by
 obtain⟨h1,h2,h3,h4,h5,h6,h7⟩:=gm h;have hmem:∀x∈frees scope,(x,NameKind.free)∈scope.names:=fun x hx=>IY (h7 x hx);have hsrc:bH X scope (t::frees scope) (none::caps.map some):=eD C hc fun x hx=>⟨h7 x hx,h4 _ (hmem x hx) rfl⟩;have hfr:ck X.env.scope scope=true:=by
  unfold ck;rw[Hx];intro y hy;rw[C.S]
  by_cases e:y.2=.free
  ·rcases h4 y hy e with z|z<;>simp[e,z]
  ·simp[e]
 refine⟨hsrc,hfr,fun O σ H Q R q=> ?_⟩;refine gP O σ H _ R fun J H1 s1 En=> ?_;intro D hD;have hlen:=eY hc;have ok:∀(G:Hp)(ys:List V),aC H1 G->G D=some (.lst ys)->(if b=true then HD H1 else ye (aM H1 O)) G (D::O):=by
  intro G ys sG gD;have ls:pe (D::O) G:=fun l hl=>by
   rcases Hm.mp hl with rfl|hl
   ·exact⟨_,gD,.lst⟩
   ·obtain⟨us,e,mo⟩:=(R.own l hl).2
    exact⟨us,sG _ _ (s1 _ _ e),mo⟩
  cases b with
  | true=>exact⟨ls,sG⟩
  | false =>
   refine⟨ls,fun c o e=> ?_⟩;unfold aM at e ⊢
   split at e
   ·cases e
   ·rename_i nb
    have ne:c≠D:=aK e hD;rw[Hl (by simp[ne,nb])];exact sG c o e
 refine⟨fun i m ys G=>m=xs.length-i/\i<=xs.length/\aC H1 G/\G D=some (.lst ys)/\ys.length<=i/\∃dn ws mm,bL (pN cd ifs' elt' n (caps.map fun i=>τ.getD i .un)) (xs.drop i)=some (ws,mm)/\VS=dn++ws/\(NN=true->mm=true)/\aG X.K Hi NN dn (aM G (D::O)) ys,
  ⟨xs.length,by simp,IN _,aI hD _,aD,Hg _,[],VS,NN,hrun,rfl,id,.nil⟩,?_⟩
 rintro i m ys G ⟨rfl,hi,sG,gD,hyl,dn,ws,mm,hc1,hv,hn,hr⟩
 by_cases hlt:i<xs.length
 ·refine .inr ⟨En.go G (D::O) i (ok G ys sG gD) hlt,fun u G' y=> ?_⟩
  obtain⟨sGG,x,hx,rx⟩:=En.yld G (D::O) i u G' (ok G ys sG gD) hlt y;intro Cf s2 H2 fp cl;have C' :=C.blk h Cf s2 H2 fp cl;have hd:xs.drop i=x::xs.drop (i+1):=by
   rw[JI hlt];rw[Hd hlt]at hx;rw[IB hx]
  rw[hd]at hc1;unfold bL at hc1;cases hf:pN cd ifs' elt' n (caps.map fun i=>τ.getD i .un) x with
  | none=>rw[hf]at hc1;cases hc1
  | some r0 =>
   rw[hf]at hc1;cases hcr:bL (pN cd ifs' elt' n (caps.map fun i=>τ.getD i .un)) (xs.drop (i+1))with
   | none=>rw[hcr]at hc1;cases hc1
   | some w =>
    obtain⟨ws',mm'⟩:=w;rw[hcr]at hc1;unfold pN at hf;cases hco:iS cd ifs' (.frz x (n||imm x)::caps.map fun i=>τ.getD i .un)with
    | none=>rw[hco]at hf;cases hf
    | some k =>
     rw[hco]at hf;obtain⟨tt,ptt,qtt⟩:=hifs _ _ _ C' hco;have gD' :G' D=some (.lst ys):=sGG _ _ gD
     have RB:aZ X.K Hi (D::O) (.frz x (n||imm x)::caps.map fun i=>τ.getD i .un) (some u::bF (caps.map some) σ) G' :=
      (R.hide (s1.trans (sG.trans sGG)) (s1.free hD) gD').block (dj hc (IQ.mp h5).2) rx.up
     refine⟨lK 0,tt,_,ar h5 rfl (eX h6) (iF h6),ptt,aY,?_⟩;refine⟨kG (by simp[hlen]),?_⟩;show tt (some u::bF (caps.map some) σ) G' _;refine qtt (D::O) _ G' _ RB fun G4 s4=> ?_;cases k with
     | false =>
      rw[Hl Hk];have hf:(some none:Option (Option (PV×Bool)))=some r0:=hf;cases hf;cases hc1;exact⟨xs.length-(i+1),by omega,rfl,hlt,sG.trans (sGG.trans s4),s4 _ _ gD',by omega,dn,ws,mm,hcr,hv,hn,hr.mono (aJ (sGG.trans s4))⟩
     | true =>
      rw[Hr rfl];have hf:((aV cd elt' (.frz x (n||imm x)::caps.map fun i=>τ.getD i .un)).bind fun r=>r.keep.map some)=some r0:=hf;cases he:aV cd elt' (.frz x (n||imm x)::caps.map fun i=>τ.getD i .un)with
      | none=>rw[he]at hf;cases hf
      | some r =>
       rw[he]at hf;have hf:r.keep.map some=some r0:=hf;cases hk:r.keep with
       | none=>rw[hk]at hf;cases hf
       | some vn =>
        obtain⟨v,nv⟩:=vn;rw[hk]at hf;cases hf;have hc1:some (v::ws',nv&&mm')=some (ws,mm):=hc1;cases hc1;refine helt _ _ _ C' he (D::O) _ G4 _ (RB.ext s4) fun w G5 s5 r5=> ?_;have kp:=r5.keep (RB.ext s4) s5 hk;have gD5:=s5 _ _ (s4 _ _ gD');have sT:=sG.trans (sGG.trans (s4.trans s5));have hz' :xs.length<=16777216:=hz;refine⟨gD5,by rw[dv];omega,xs.length-(i+1),by omega,rfl,hlt,sT.upd hD,aD,by rw[IA];simp;omega,dn++[v],ws',mm',hcr,by rw[hv];simp,fun z=> ?_,?_⟩
        ·have:=hn z
         rw[Hb]at this;exact this.2
        ·have e:aM (L2.upd G5 D (.lst (ys++[w]))) (D::O)=aM G5 (D::O):=by
          funext c
          unfold aM
          split
          ·rfl
          ·rename_i nc
           exact aB fun z=>nc (z▸He)
         rw[e];refine(hr.mono (aJ (sGG.trans (s4.trans s5)))).app (.cons (kp.low fun z=> ?_) .nil);have:=hn z;rw[Hb]at this;exact this.1
 ·have e:i=xs.length:=by omega
  subst e;rw[List.drop_length]at hc1;cases hc1;refine .inl ⟨En.stop G (D::O) (ok G ys sG gD),q _ _ (s1.trans sG) ?_⟩;refine⟨D,ys,rfl,s1.free hD,gD,?_⟩;rw[hv,JR];refine hr.mono fun c o e=> ?_;unfold aM at e;unfold aM del
  split at e
  ·cases e
  ·rename_i nc
   have n1:c≠D:=fun z=>nc (z▸He);have n2:c∉O:=fun z=>nc (HZ _ z);rw[Hl n2,Hl n1];exact e
theorem aZ.consF{K:W.Frag}{O:List Addr}{σ:L2.St}{H:Hp}{x:PV}{n:Bool}{u:V}(R:aZ K Hi O τ σ H)(r:Rp K Hi n x (aM H O) u):aZ K Hi O (.frz x n::τ) (some u::σ) H:=by
 refine⟨R.same,R.own,fun j v m e=> ?_,fun j t bd ys m e ht=> ?_,fun a b t t' x1 y1 l e1 ht e2 ht' h1 h2=> ?_⟩
 ·cases j with
  | zero =>
   simp at e;obtain⟨rfl,rfl⟩:=e;exact⟨u,by simp,r⟩
  | succ j =>
   obtain⟨w,h3,h4⟩:=R.frz j v m (by simpa using e);exact⟨w,by simpa using h3,h4⟩
 ·cases j with
  | zero =>
   simp at e;subst e;cases ht
  | succ j =>
   obtain⟨l,us,o,h3,h4⟩:=R.obs j t bd ys m (by simpa using e) ht;exact⟨l,us,o,by simpa using h3,h4⟩
 ·cases a with
  | zero =>
   simp at e1;subst e1;cases ht
  | succ a =>
   cases b with
   | zero =>
    simp at e2;subst e2;cases ht'
   | succ b=>rw[R.dst a b t t' x1 y1 l (by simpa using e1) ht (by simpa using e2) ht' (by simpa using h1) (by simpa using h2)]
theorem lY{N' :List Str}{r:List (Option Nat)}{σ:L2.St}{x y:V}(h:r.length+2=N'.length) :
  (((bF (none::none::r) σ).set 0 (some x)).set 1 (some y)).length=N'.length/\∀(j:Nat)(v:V),(bF (none::none::r) σ)[j]? =some (some v)->(((bF (none::none::r) σ).set 0 (some x)).set 1 (some y))[j]? =some (some v):=by
 refine⟨by rw[Iq,Iq];simp[bF,h],fun j v e=> ?_⟩;cases j with
 | zero=>simp[bF]at e
 | succ j =>
  cases j with
  | zero=>simp[bF]at e
  | succ j=>simpa [bF]using e
noncomputable def kC(cd:Nat->List PV->Option PV)(ifs:Ej)(elt:IE)(n:Bool)(aU:En):PV->Option (Option (PV×Bool)):=fun x=>(jg x).bind fun(a,b)=>(iS cd ifs (.frz a (n||imm a)::.frz b (n||imm b)::aU)).bind fun t=>if t then(aV cd elt (.frz a (n||imm a)::.frz b (n||imm b)::aU)).bind fun r=>r.keep.map some else some none
theorem xT{cd:Nat->List PV->Option PV}{ct:Ct}(C:bG cd X ct){t t2:Str}{kk:Nat}{tp tp2 tpp:Pos}{iter elt:Expr}{ifs:List Expr}{ifs' :Ej}{elt' :IE}{scope:Scope}{caps:List Nat}{xs:List PV}{n b:Bool}{VS:List PV}{NN:Bool}
  (h:gn ct t t2 scope=true) (hc:slots ct.N (frees scope)=some caps) (hset:dP iter=false) (gP:nJ X Hi τ (.Tuple [.Name t tp,.Name t2 tp2] kk tpp) iter xs n b) (hz:xs.length<=LN)
  (hifs:∀(X' :Cx)(τ' :En)(k:Bool),bG cd X' (blk2 ct t t2 scope)->iS cd ifs' τ' =some k->∃tt,yd X' ifs tt/\∀(O:List Addr)(σ:L2.St)(H:Hp)(Q:Bool->Hp->Prop),aZ X'.K Hi O τ' σ H->(∀H',aC H H' ->Q k H')->tt σ H Q)
  (helt:∀(X' :Cx)(τ' :En)(r:RV),bG cd X' (blk2 ct t t2 scope)->aV cd elt' τ' =some r->aL X' Hi τ' elt r)
  (hrun:bL (kC cd ifs' elt' n (caps.map fun i=>τ.getD i .un)) xs=some (VS,NN)):bH X scope (t::t2::frees scope) (none::none::caps.map some)/\ck X.env.scope scope=true /\
  ∀(O:List Addr)(σ:L2.St)(H:Hp)(Q:VK),aZ X.K Hi O τ σ H->(∀u H',aC H H' ->af X.K Hi O H H' (.own VS NN) u->Q u H')->CD X (t::t2::frees scope) (none::none::caps.map some) scope (.Tuple [.Name t tp,.Name t2 tp2] kk tpp) ifs elt (fun σ H R=>WI X (.Tuple [.Name t tp,.Name t2 tp2] kk tpp) iter σ H R) σ H Q:=by
 obtain⟨h1,h2,h3,h4,h5,h6,h8,h7⟩:=fB h;have hmem:∀x∈frees scope,(x,NameKind.free)∈scope.names:=fun x hx=>IY (h7 x hx);have hsrc:bH X scope (t::t2::frees scope) (none::none::caps.map some):=eD C hc fun x hx=>⟨h7 x hx,h4 _ (hmem x hx) rfl⟩;have hfr:ck X.env.scope scope=true:=by
  unfold ck;rw[Hx];intro y hy;rw[C.S]
  by_cases e:y.2=.free
  ·rcases h4 y hy e with z|z<;>simp[e,z]
  ·simp[e]
 refine⟨hsrc,hfr,fun O σ H Q R q=> ?_⟩;refine gP O σ H _ R fun J H1 s1 En=> ?_;intro D hD;have hlen:=eY hc;have ok:∀(G:Hp)(ys:List V),aC H1 G->G D=some (.lst ys)->(if b=true then HD H1 else ye (aM H1 O)) G (D::O):=by
  intro G ys sG gD;have ls:pe (D::O) G:=fun l hl=>by
   rcases Hm.mp hl with rfl|hl
   ·exact⟨_,gD,.lst⟩
   ·obtain⟨us,e,mo⟩:=(R.own l hl).2
    exact⟨us,sG _ _ (s1 _ _ e),mo⟩
  cases b with
  | true=>exact⟨ls,sG⟩
  | false =>
   refine⟨ls,fun c o e=> ?_⟩;unfold aM at e ⊢
   split at e
   ·cases e
   ·rename_i nb
    have ne:c≠D:=aK e hD;rw[Hl (by simp[ne,nb])];exact sG c o e
 refine⟨fun i m ys G=>m=xs.length-i/\i<=xs.length/\aC H1 G/\G D=some (.lst ys)/\ys.length<=i/\∃dn ws mm,bL (kC cd ifs' elt' n (caps.map fun i=>τ.getD i .un)) (xs.drop i)=some (ws,mm)/\VS=dn++ws/\(NN=true->mm=true)/\aG X.K Hi NN dn (aM G (D::O)) ys,
  ⟨xs.length,by simp,IN _,aI hD _,aD,Hg _,[],VS,NN,hrun,rfl,id,.nil⟩,?_⟩
 rintro i m ys G ⟨rfl,hi,sG,gD,hyl,dn,ws,mm,hc1,hv,hn,hr⟩
 by_cases hlt:i<xs.length
 ·refine .inr ⟨En.go G (D::O) i (ok G ys sG gD) hlt,fun u G' y=> ?_⟩
  obtain⟨sGG,x,hx,rx⟩:=En.yld G (D::O) i u G' (ok G ys sG gD) hlt y;intro Cf s2 H2 fp cl;have C' :=C.blk2 h Cf s2 H2 fp cl;have hd:xs.drop i=x::xs.drop (i+1):=by
   rw[JI hlt];rw[Hd hlt]at hx;rw[IB hx]
  rw[hd]at hc1;unfold bL at hc1;cases hf:kC cd ifs' elt' n (caps.map fun i=>τ.getD i .un) x with
  | none=>rw[hf]at hc1;cases hc1
  | some r0 =>
   rw[hf]at hc1;cases hcr:bL (kC cd ifs' elt' n (caps.map fun i=>τ.getD i .un)) (xs.drop (i+1))with
   | none=>rw[hcr]at hc1;cases hc1
   | some w =>
    obtain⟨ws',mm'⟩:=w;rw[hcr]at hc1;unfold kC at hf;obtain⟨x1,x2,rfl⟩:∃x1 x2,x=.tup [x1,x2]:=by
     cases hp:jg x with
     | none=>rw[hp]at hf;cases hf
     | some w =>
      unfold jg at hp
      split at hp
      ·exact⟨_,_,rfl⟩
      ·cases hp
    have hf:((iS cd ifs' (.frz x1 (n||imm x1)::.frz x2 (n||imm x2)::caps.map fun i=>τ.getD i .un)).bind fun t=>if t then(aV cd elt' (.frz x1 (n||imm x1)::.frz x2 (n||imm x2)::caps.map fun i=>τ.getD i .un)).bind fun r=>r.keep.map some else some none)=some r0:=hf;obtain⟨pa,us,rfl,lt,rt⟩:=Rp.tup.mp rx;unfold aG at rt;obtain⟨u1,us1,rfl,ra,rt⟩:=rt;unfold aG at rt;obtain⟨u2,us2,rfl,rb,rt⟩:=rt;unfold aG at rt;subst rt;cases hco:iS cd ifs' (.frz x1 (n||imm x1)::.frz x2 (n||imm x2)::caps.map fun i=>τ.getD i .un)with
    | none=>rw[hco]at hf;cases hf
    | some k =>
     rw[hco]at hf;obtain⟨tt,ptt,qtt⟩:=hifs _ _ _ C' hco;have gD' :G' D=some (.lst ys):=sGG _ _ gD
     have RB:aZ X.K Hi (D::O) (.frz x1 (n||imm x1)::.frz x2 (n||imm x2)::caps.map fun i=>τ.getD i .un) (some u1::some u2::bF (caps.map some) σ) G' :=
      ((R.hide (s1.trans (sG.trans sGG)) (s1.free hD) gD').block (dj hc (IQ.mp (IQ.mp h5).2).2) rb.up).consF ra.up
     refine⟨_,tt,_,jd C'.calm (bW (ar (i:=0) h5 rfl (eX h6) (iF h6)) (bW (ar (i:=1) h5 rfl (eX h8) (iF h8)) ge rfl) rfl) rfl rfl,ptt,aY,?_⟩;refine⟨pa,_,rfl,(aR (O:=D::O)).tup lt,rfl,u1,_,rfl,u2,_,rfl,rfl,⟨lY (by simp[hlen]),?_⟩⟩;show tt (some u1::some u2::bF (caps.map some) σ) G' _;refine qtt (D::O) _ G' _ RB fun G4 s4=> ?_;cases k with
     | false =>
      rw[Hl Hk];have hf:(some none:Option (Option (PV×Bool)))=some r0:=hf;cases hf;cases hc1;exact⟨xs.length-(i+1),by omega,rfl,hlt,sG.trans (sGG.trans s4),s4 _ _ gD',by omega,dn,ws,mm,hcr,hv,hn,hr.mono (aJ (sGG.trans s4))⟩
     | true =>
      rw[Hr rfl];have hf:((aV cd elt' (.frz x1 (n||imm x1)::.frz x2 (n||imm x2)::caps.map fun i=>τ.getD i .un)).bind fun r=>r.keep.map some)=some r0:=hf;cases he:aV cd elt' (.frz x1 (n||imm x1)::.frz x2 (n||imm x2)::caps.map fun i=>τ.getD i .un)with
      | none=>rw[he]at hf;cases hf
      | some r =>
       rw[he]at hf;have hf:r.keep.map some=some r0:=hf;cases hk:r.keep with
       | none=>rw[hk]at hf;cases hf
       | some vn =>
        obtain⟨v,nv⟩:=vn;rw[hk]at hf;cases hf;have hc1:some (v::ws',nv&&mm')=some (ws,mm):=hc1;cases hc1;refine helt _ _ _ C' he (D::O) _ G4 _ (RB.ext s4) fun w G5 s5 r5=> ?_;have kp:=r5.keep (RB.ext s4) s5 hk;have gD5:=s5 _ _ (s4 _ _ gD');have sT:=sG.trans (sGG.trans (s4.trans s5));have hz' :xs.length<=16777216:=hz;refine⟨gD5,by rw[dv];omega,xs.length-(i+1),by omega,rfl,hlt,sT.upd hD,aD,by rw[IA];simp;omega,dn++[v],ws',mm',hcr,by rw[hv];simp,fun z=> ?_,?_⟩
        ·have:=hn z
         rw[Hb]at this;exact this.2
        ·have e:aM (L2.upd G5 D (.lst (ys++[w]))) (D::O)=aM G5 (D::O):=by
          funext c
          unfold aM
          split
          ·rfl
          ·rename_i nc
           exact aB fun z=>nc (z▸He)
         rw[e];refine(hr.mono (aJ (sGG.trans (s4.trans s5)))).app (.cons (kp.low fun z=> ?_) .nil);have:=hn z;rw[Hb]at this;exact this.1
 ·have e:i=xs.length:=by omega
  subst e;rw[List.drop_length]at hc1;cases hc1;refine .inl ⟨En.stop G (D::O) (ok G ys sG gD),q _ _ (s1.trans sG) ?_⟩;refine⟨D,ys,rfl,s1.free hD,gD,?_⟩;rw[hv,JR];refine hr.mono fun c o e=> ?_;unfold aM at e;unfold aM del
  split at e
  ·cases e
  ·rename_i nc
   have n1:c≠D:=fun z=>nc (z▸He);have n2:c∉O:=fun z=>nc (HZ _ z);rw[Hl n2,Hl n1];exact e
theorem zu{e:Expr}{t:TE}(h:PE X e t):PE X e (fun σ H Q=>t σ H fun v H' =>∃a o kvs,H' a=some (.frz o (.dK kvs))/\NF X a/\Q v (L2.upd H' a (.dK kvs))):=by
 intro pins s σ H Q I hr;refine al (h pins s σ H _ I hr) fun u s1 q=> ?_;obtain⟨v,H',I',rv,a,o,kvs,ha,nf,q⟩:=q;exact⟨v,_,I'.unknown nf ha,rv,q⟩
theorem xS{ra r:RV}(h:ue ra=some r):∃ks vs n qs,ra=.frz (.dK ks vs) n/\ks.length<=LN/\yq ks vs=some qs/\r=.own (qs.map fun q=>.tup [.int q.2,.int q.1]) true:=by
 unfold ue at h
 split at h
 ·split at h
  ·rename_i ks vs n hz
   cases e:yq ks vs with
   | none=>rw[e]at h;cases h
   | some qs=>rw[e]at h;cases h;exact⟨_,_,_,_,rfl,hz,e,rfl⟩
  ·cases h
 ·cases h
theorem sX{n:Bool}:∀{ks:List ag}{vs:List PV}{qs:List (Int×Int)}{G:Hp}{us:List V},yq ks vs=some qs->aG X.K Hi n vs G us->ks.zip us=qs.map (fun q=>(Sum.inl q.1,V.int q.2))/\qs.length=ks.length
 | [],vs,qs,G,us,h,r=>by
  cases vs with
  | nil=>cases h;exact⟨rfl,rfl⟩
  | cons v vs=>cases h
 | k::ks,vs,qs,G,us,h,r=>by
  cases vs with
  | nil=>cases k<;>cases h
  | cons v vs =>
   cases k with
   | inr z=>cases v<;>cases h
   | inl k =>
    cases v with
    | int v =>
     have h:(yq ks vs).map ((k,v)::·)=some qs:=h;cases e:yq ks vs with
     | none=>rw[e]at h;cases h
     | some ms =>
      rw[e]at h;cases h;unfold aG at r;obtain⟨u,us',rfl,r1,r2⟩:=r;obtain⟨e1,e2⟩:=sX e r2;have e4:=Rp.int.mp r1;subst e4;exact⟨by rw[List.zip_cons_cons,e1];rfl,by simp[e2]⟩
    | _=>cases h
theorem zY{K:W.Frag}{G:Hp}{O:List Addr}{a b:Int}(ho:∀l∈O,∃o,G l=some o/\Mo o):aZ K (fun _=>none) O [.frz (.int a) true,.frz (.int b) true] [some (.int a),some (.int b)] G:=by
 refine⟨fun _ _ e=>(by cases e),fun l hl=>⟨rfl,ho l hl⟩,fun j v m e=> ?_,fun j t bd ys m e ht=> ?_,fun i j t t' x y l e1 ht=> ?_⟩
 ·match j,e with
  | 0,e=>cases e;exact⟨_,rfl,Rp.int.mpr rfl⟩
  | 1,e=>cases e;exact⟨_,rfl,Rp.int.mpr rfl⟩
  | j+2,e=>simp at e
 ·match j,e with
  | 0,e=>cases e;cases ht
  | 1,e=>cases e;cases ht
  | j+2,e=>simp at e
 ·match i,e1 with
  | 0,e=>cases e;cases ht
  | 1,e=>cases e;cases ht
  | j+2,e=>simp at e
theorem ki{G G' :Hp}{O:List Addr}{p:Addr}{ob:Obj}{kvs:List (ag×V)}(hp:G p=some (.frz ob (.dK kvs))):∀{qs:List (Int×Int)}{ys:List V},aG X.K Hi true (qs.map fun q=>PV.tup [.int q.2,.int q.1]) (aM G O) ys->(∀c o,aM G O c=some o->c≠p->G' c=some o)->aG X.K Hi true (qs.map fun q=>PV.tup [.int q.2,.int q.1]) G' ys
 | [],ys,h,_=>h
 | q::qs,ys,h,m=>by
  rw[Hf]at h ⊢;unfold aG at h;obtain⟨u,r,rfl,h1,h2⟩:=h;obtain⟨a,us,rfl,sq,r6⟩:=Rp.tup.mp h1;refine .cons (Rp.tup.mpr ⟨a,us,rfl,?_,?_⟩) (ki hp h2 m)
  ·have ne:∀o,aM G O a=some o->(∀ob' kvs',o≠.frz ob' (.dK kvs'))->a≠p:=fun o e hn z=>by
    subst z;have:=aR _ _ e;rw[hp]at this;cases this;exact hn _ _ rfl
   rcases sq with(sq|⟨ob',sq⟩)|sq
   ·exact .inl (.inl (m _ _ sq (ne _ sq fun _ _ z=>by cases z)))
   ·exact .inl (.inr ⟨ob',m _ _ sq (ne _ sq fun _ _ z=>by cases z)⟩)
   ·exact .inr sq
  ·unfold aG at r6 ⊢
   obtain⟨u1,t1,rfl,q1,r6⟩:=r6;refine⟨u1,t1,rfl,Rp.int.mpr (Rp.int.mp q1),?_⟩;unfold aG at r6 ⊢;obtain⟨u2,t2,rfl,q2,r6⟩:=r6;exact⟨u2,t2,rfl,Rp.int.mpr (Rp.int.mp q2),r6⟩
theorem uF{σ:L2.St}{H:Hp}{A B:Hp->Prop}(q:A H):sO σ H (fun b H4=>if b=true then A H4 else B H4):=jC (B:=B H) q
theorem DJ{cd:Nat->List PV->Option PV}{ct:Ct}(C:bG cd X ct){d:Expr}{ra r:RV}{x y:Str}{p1 p2 p3 p4 p5 p6 lp ap cp:Pos}{k k2:Nat}{scope:Scope}(h:gn ct x y scope=true)(hf:frees scope=[])
  (v0:cN (blk2 ct x y scope) x=.var 0) (v1:cN (blk2 ct x y scope) y=.var 1) (hsub:plainB d=true) (hline:(ap.endLine==cp.line)=true) (hd:aL X Hi τ d ra) (hr:ue ra=some r) :
  aL X Hi τ (.ListComp (.Tuple [.Name y p4,.Name x p5] k2 p6) [⟨.Tuple [.Name x p1,.Name y p2] k p3,.Call (.Attribute d "items" ap) [] [] cp,[],0⟩] scope lp) r:=by
 obtain⟨ks,vs,nn,qs,rfl,hz,hs,rfl⟩:=xS hr;obtain⟨h1,h2,h3,h4,h5,h6,h8,h7⟩:=fB h;have hc:slots ct.N (frees scope)=some []:=by rw[hf];rfl
 have hsrc:bH X scope (x::y::frees scope) (none::none::[]):=eD C hc fun z hz=>⟨h7 z hz,h4 _ (IY (h7 z hz)) rfl⟩;have hfr:ck X.env.scope scope=true:=by
  unfold ck;rw[Hx];intro y hy;rw[C.S]
  by_cases e:y.2=.free
  ·rcases h4 y hy e with z|z<;>simp[e,z]
  ·simp[e]
 have hbase:attributeBase d "items" X.env (eval d X.env)=eval d X.env:=by
  cases d<;>first|rfl|cases hsub
 intro O σ H Q R q;refine we (zu (oT C.calm (oa aY hbase hline) hsrc h1 h2 h3 hfr (fun _=>rfl))) ?_;refine hd O σ H _ R fun u H1 s1 r1=> ?_;have r1:Rp X.K Hi nn (.dK ks vs) (aM H1 O) u:=r1;unfold Rp at r1;obtain⟨p,us,rfl,_,hp,hl,rl⟩:=r1;obtain⟨e1,e2⟩:=sX hs rl;have hpO:p∉O:=fun z=>by unfold aM at hp;rw[Hr z]at hp;cases hp
 have hp:=aR _ _ hp;rw[e1]at hp;refine⟨p,_,rfl,hp,fun o nf D hD=> ?_⟩;have hDp:D≠p:=fun e=>by subst e;rw[aD]at hD;cases hD
 have hD1:H1 D=none:=by rw[aB hDp]at hD;exact hD
 have hp' :∀G,aC (L2.upd H1 p (.frz o (.dK (qs.map fun q=>(Sum.inl q.1,V.int q.2))))) G->G p=some (.frz o (.dK (qs.map fun q=>(Sum.inl q.1,V.int q.2)))):=fun G s=>s _ _ aD;have hO:∀G ys,aC (L2.upd H1 p (.frz o (.dK (qs.map fun q=>(Sum.inl q.1,V.int q.2))))) G->G D=some (.lst ys)->∀l∈D::O,∃ob,G l=some ob/\Mo ob:=fun G ys sG gD l hl=>by
  rcases Hm.mp hl with rfl|hl
  ·exact⟨_,gD,.lst⟩
  ·obtain⟨ob,e,mo⟩:=(R.own l hl).2
   exact⟨ob,sG _ _ (by rw[aB (fun z:l=p=>hpO (by rw[<- z];exact hl))];exact s1 _ _ e),mo⟩
 refine⟨fun i m ys G=>m=qs.length-i/\i<=qs.length/\aC (L2.upd H1 p (.frz o (.dK (qs.map fun q=>(Sum.inl q.1,V.int q.2))))) G/\G D=some (.lst ys)/\ys.length=i/\aG X.K Hi true ((qs.take i).map fun q=>PV.tup [.int q.2,.int q.1]) (aM G (D::O)) ys,
  ⟨qs.length,by simp,IN _,aI hD _,aD,rfl,.nil⟩,?_⟩
 rintro j m ys G ⟨rfl,hj,sG,gD,hyl,hv⟩
 by_cases hlt:j<qs.length
 ·refine .inr ⟨⟨hp' G sG,by rw[HX];exact hlt⟩,fun u G' y' => ?_⟩
  obtain⟨a,ha,rfl,y'⟩:=y';have e:=y' (.inl qs[j].1) (.int qs[j].2) (by simp[hlt]);subst e;intro Cf s2 H2 fp cl;have C' :=C.blk2 h Cf s2 H2 fp cl;have sGG:aC G (L2.upd G a (.tup [kV (.inl qs[j].1),.int qs[j].2])):=aI ha _;refine⟨_,_,_,jd C'.calm (bW (ar (i:=0) h5 rfl (eX h6) (iF h6)) (bW (ar (i:=1) h5 rfl (eX h8) (iF h8)) ge rfl) rfl) rfl rfl,eF,aY,?_⟩;refine⟨a,_,rfl,cT.of aD,rfl,_,_,rfl,_,_,rfl,rfl,⟨lY (by rw[hf];rfl),?_⟩⟩;have eσ:((bF (none::none::[]) σ).set 0 (some (kV (.inl qs[j].1)))).set 1 (some (.int qs[j].2))=[some (.int qs[j].1),some (.int qs[j].2)]:=by
   simp[bF,kV]
  rw[eσ];have hn0:aV cd (cN (blk2 ct x y scope) x) [.frz (.int qs[j].1) true,.frz (.int qs[j].2) true]=some (sc (.int qs[j].1)):=by rw[v0];rfl
  have hn1:aV cd (cN (blk2 ct x y scope) y) [.frz (.int qs[j].1) true,.frz (.int qs[j].2) true]=some (sc (.int qs[j].2)):=by rw[v1];rfl
  have gD' :=sGG _ _ gD;have RB:=zY (K:=X.K) (O:=D::O) (a:=qs[j].1) (b:=qs[j].2) (hO _ _ (sG.trans sGG) gD');refine uF ?_
  have hT:aL (bD X (x::y::frees scope) scope Cf s2 H2 fp cl) (fun _=>none) [.frz (.int qs[j].1) true,.frz (.int qs[j].2) true] (.Tuple [.Name y p4,.Name x p5] k2 p6) (.frz (.tup [.int qs[j].2,.int qs[j].1]) true) :=
   vz (nH (mR C' hn1) rfl (nH (mR C' hn0) rfl yZ)) rfl rfl
  refine hT (D::O) _ _ _ RB fun w G5 s5 r5=> ?_;have r5:Rp X.K (fun _=>none) true (.tup [.int qs[j].2,.int qs[j].1]) (aM G5 (D::O)) w:=r5;obtain⟨a5,us5,rfl,sq5,r6⟩:=Rp.tup.mp r5;have r6:us5=[.int qs[j].2,.int qs[j].1]:=by
   unfold aG at r6;obtain⟨u1,t1,rfl,q1,r6⟩:=r6;unfold aG at r6;obtain⟨u2,t2,rfl,q2,r6⟩:=r6;unfold aG at r6;rw[r6,Rp.int.mp q1,Rp.int.mp q2]
  subst r6;have hz' :ks.length<=16777216:=hz;have sT:=sG.trans (sGG.trans s5);refine⟨s5 _ _ gD',by rw[dv];omega,qs.length-(j+1),by omega,rfl,hlt,sT.upd hD,aD,by rw[IA,hyl];rfl,?_⟩;have e:aM (L2.upd G5 D (.lst (ys++[.ref a5]))) (D::O)=aM G5 (D::O):=by
   funext c
   unfold aM
   split
   ·rfl
   ·rename_i nc
    exact aB fun z=>nc (z▸He)
  rw[e,JP,Hd hlt,IJ];exact(hv.mono (aJ (sGG.trans s5))).app (.cons (Rp.tup.mpr ⟨a5,_,rfl,sq5,.cons (Rp.int.mpr rfl) (.cons (Rp.int.mpr rfl) .nil)⟩) .nil)
 ·have e:j=qs.length:=by omega
  subst e;refine .inl ⟨⟨hp' G sG,by rw[HX]⟩,p,o,_,hp' G sG,nf,?_⟩;refine q _ _ (fun b ob e=> ?_) ⟨D,ys,rfl,s1.free hD1,by rw[aB hDp];exact gD,?_⟩
  ·have e' :=s1 _ _ e
   by_cases hb:b=p
   ·subst hb
    rw[hp]at e';cases e';exact aD
   ·rw[aB hb]
    exact sG _ _ (by rw[aB hb];exact e')
  ·rw[JM]at hv
   refine ki (p:=p) (hp' G sG) hv fun c ob e nc=> ?_;unfold aM at e;unfold aM del
   split at e
   ·cases e
   ·rename_i nc2
    have n1:c≠D:=fun z=>nc2 (z▸He);have n2:c∉O:=fun z=>nc2 (HZ _ z);rw[Hl n2,Hl n1,aB nc];exact e
end
theorem bind_some{α β:Type}{o:Option α}{f:α->Option β}{b:β}(h:o.bind f=some b):∃a,o=some a/\f a=some b:=by
 cases o with
 | none=>cases h
 | some a=>exact⟨a,rfl,h⟩
theorem map_some{α β:Type}{o:Option α}{f:α->β}{b:β}(h:o.map f=some b):∃a,o=some a/\f a=b:=by
 cases o with
 | none=>cases h
 | some a=>exact⟨a,rfl,IB h⟩
structure i7(cd:Nat->List PV->Option PV)(n:Nat):Prop where
 e:∀(X:Cx)(ct:Ct)(Hi:Hp)(τ:En)(e:Expr)(r:RV),bG cd X ct->aV cd (ah n ct e) τ=some r->aL X Hi τ e r
 cm:∀(X:Cx)(ct:Ct)(Hi:Hp)(τ:En)(a:Expr)(ops:List CmpOp)(cs:List Expr)(pos:Pos)(r:RV),bG cd X ct->aV cd (ah n ct (.Compare a ops cs pos)) τ=some r->∃t,r=sc (.bl t)/\eT X Hi τ (.Compare a ops cs pos) t
 es:∀(X:Cx)(ct:Ct)(Hi:Hp)(τ:En)(es:List Expr)(rs:List RV),bG cd X ct->bg cd (dJ n ct es) τ=some rs->nL X Hi τ es rs/\(∀a∈es,isStar a=false)/\es.length=rs.length/\∀(i:Nat)(a:Expr)(r:RV),es[i]? =some a->rs[i]? =some r->aL X Hi τ a r
 o:∀(X:Cx)(ct:Ct)(Hi:Hp)(τ:En)(e:Option Expr)(o:Option RV)(i:Option Int),bG cd X ct->Dt cd (BV n ct e) τ=some o->oz o=some i->vN X Hi τ e i
 c:∀(X:Cx)(ct:Ct)(Hi:Hp)(τ:En)(e:Expr)(b:Bool),bG cd X ct->eO cd (kN n ct e) τ=some b->eT X Hi τ e b
 call:∀(X:Cx)(ct:Ct)(Hi:Hp)(τ:En)(x:Str)(es:List Expr)(p pos:Pos)(r:RV),bG cd X ct->aV cd (iE n ct x es) τ=some r->aL X Hi τ (.Call (.Name x p) es [] pos) r
 mth:∀(X:Cx)(ct:Ct)(Hi:Hp)(τ:En)(o:Expr)(m:Str)(es:List Expr)(ap cp:Pos)(r:RV),bG cd X ct->(ap.endLine==cp.line)=true->aV cd (kj n ct o m es) τ=some r->aL X Hi τ (.Call (.Attribute o m ap) es [] cp) r
 t:∀(X:Cx)(ct:Ct)(Hi:Hp)(τ:En)(tp:Bool)(e tg:Expr)(xs:List PV)(k b:Bool),bG cd X ct->(tp=true->∃ts kk p,tg=.Tuple ts kk p)->mr cd (uD n ct tp e) τ=some (xs,k,b)->nJ X Hi τ tg e xs k b/\dP e=false
section
variable{cd:Nat->List PV->Option PV}
theorem iY{v:PV}{b:Bool}(h:iz v=some b):v=.bl b:=by
 cases v<;>first|(cases h;done)|(cases h;rfl)
theorem xi{v:PV}{b:Int}(h:DY v=some b):v=.int b:=by
 cases v<;>first|(cases h;done)|(cases h;rfl)
theorem qi{α:Type}{l:List α}(h:l.length=1):∃a,l=[a]:=by
 cases l with
 | nil=>cases h
 | cons a l =>
  cases l with
  | nil=>exact⟨a,rfl⟩
  | cons b l=>cases h
theorem vx{α:Type}{l:List α}(h:l.length=2):∃a b,l=[a,b]:=by
 cases l with
 | nil=>cases h
 | cons a l =>
  obtain⟨b,rfl⟩:=qi (show l.length=1 from Nat.succ.inj h);exact⟨a,b,rfl⟩
theorem aQ{τ:En}{r:RV}(h:aV cd .never τ=some r){P:Prop}:P:=by simp[bx,bh,cA,cH,bz,cC,cF,bj,cI,b9,cB,bm,bn,bi,cJ,bw,bv,cE,bt,br,bo,cG]at h
theorem pD{X:Cx}{Hi:Hp}{τ:En}{op:BoolOp}{pos:Pos}{f:Expr->IE}(hf:∀e r,aV cd (f e) τ=some r->aL X Hi τ e r):∀{vs:List Expr}{r:RV},aV cd (jz op (vs.map f)) τ=some r->aL X Hi τ (.BoolOp op vs pos) r
 | [],r,h=>aQ h
 | [a],r,h=>C4 (hf a r h)
 | a::b::aU,r,h=>by
  have ih:= @pD X Hi τ op pos f hf (b::aU);cases op with
  | And =>
   have h:aV cd (.and (f a) (jz .And ((b::aU).map f))) τ=some r:=h;simp only[bx,bh,cA,cH,bz,cC,cF,bj,cI,b9,cB,bm,bn,bi,cJ,bw,bv,cE,bt,br,bo,cG]at h;obtain⟨x,hx,h⟩:=bind_some h;have hx:=hf a x hx;obtain⟨t,ht,h⟩:=bind_some h;have e:=iY ht;cases t with
   | true=>exact Gz hx e (ih h)
   | false=>cases h;exact G6 hx e
  | Or =>
   have h:aV cd (.or (f a) (jz .Or ((b::aU).map f))) τ=some r:=h;simp only[bx,bh,cA,cH,bz,cC,cF,bj,cI,b9,cB,bm,bn,bi,cJ,bw,bv,cE,bt,br,bo,cG]at h;obtain⟨x,hx,h⟩:=bind_some h;have hx:=hf a x hx;obtain⟨t,ht,h⟩:=bind_some h;have e:=iY ht;cases t with
   | true=>cases h;exact or_t hx e
   | false=>exact or_f hx e (ih h)
theorem pC{X:Cx}{Hi:Hp}{τ:En}{op:BoolOp}{pos:Pos}{f:Expr->IC}(hf:∀e b,eO cd (f e) τ=some b->eT X Hi τ e b):∀{vs:List Expr}{b:Bool},eO cd (jy op (vs.map f)) τ=some b->kf X Hi τ (.BoolOp op vs pos) b
 | [],r,h=>by
  have h:eO cd (.val .never) τ=some r:=h;simp[vh,vj,ym,vi,bx,bh,cA,cH,bz,cC,cF,bj,cI,b9,cB,bm,bn,bi,cJ,bw,bv,cE,bt,br,bo,cG]at h
 | [a],r,h=>C3 (hf a r h)
 | a::b::aU,r,h=>by
  have ih:= @pC X Hi τ op pos f hf (b::aU);cases op with
  | And =>
   have h:eO cd (.and (f a) (jy .And ((b::aU).map f))) τ=some r:=h;simp only[vh,vj,ym,vi]at h;obtain⟨x,hx,h⟩:=bind_some h;have hx:=hf a x hx;cases x with
   | true=>exact ya hx (ih h)
   | false=>cases h;exact ya hx rfl
  | Or =>
   have h:eO cd (.or (f a) (jy .Or ((b::aU).map f))) τ=some r:=h;simp only[vh,vj,ym,vi]at h;obtain⟨x,hx,h⟩:=bind_some h;have hx:=hf a x hx;cases x with
   | true=>cases h;exact Bg hx rfl
   | false=>exact Bg hx (ih h)
theorem sw{X:Cx}{Hi:Hp}{τ:En}{f:Expr->IE}(hf:∀e r,aV cd (f e) τ=some r->aL X Hi τ e r):∀{es:List Expr}{rs:List RV},bg cd (uc (es.map fun e=>if isStar e then .never else f e)) τ=some rs->nL X Hi τ es rs/\(∀a∈es,isStar a=false)/\es.length=rs.length/\∀(i:Nat)(a:Expr)(r:RV),es[i]? =some a->rs[i]? =some r->aL X Hi τ a r
 | [],rs,h=>by
  have h:some []=some rs:=by simpa [uc,ll,lm]using h
  cases h;exact⟨yZ,fun a ha=>(by cases ha),rfl,fun i a r e=>(by simp at e)⟩
 | e::es,rs,h=>by
  have h:bg cd (.cons (if isStar e then .never else f e) (uc (es.map fun e=>if isStar e then .never else f e))) τ=some rs:=h;simp only[ll,lm]at h;obtain⟨x,hx,h⟩:=bind_some h;obtain⟨ys,hy,h⟩:=map_some h;subst h;obtain⟨i1,i2,i3,i4⟩:=sw hf hy;cases hs:isStar e with
  | true=>rw[hs]at hx;exact aQ hx
  | false =>
   rw[hs]at hx;refine⟨nH (hf e x hx) hs i1,fun a ha=> ?_,by rw[IL,IL,i3],fun i a r e1 e2=> ?_⟩
   ·rcases Hm.mp ha with rfl|ha
    ·exact hs
    ·exact i2 a ha
   ·cases i with
    | zero =>
     simp at e1 e2;subst e1 e2;exact hf _ _ hx
    | succ i=>exact i4 i a r (by simpa using e1) (by simpa using e2)
theorem GY{n:Nat}(IH:i7 cd n){X:Cx}{ct:Ct}{Hi:Hp}{τ:En}{a:Expr}{ops:List CmpOp}{cs:List Expr}{pos:Pos}{r:RV}(C:bG cd X ct)(h:aV cd (ah (n+1) ct (.Compare a ops cs pos)) τ=some r) :
  ∃t,r=sc (.bl t)/\aL X Hi τ (.Compare a ops cs pos) r/\eT X Hi τ (.Compare a ops cs pos) t:=by
 refine JJ fun no=> ?_;simp only[ni,nY,nT,nh,nQ,nZ,ng,nW,nV,nR,nX,nS,na,nU]at h
 split at h
 ·rename_i op b
  split at h
  ·exact aQ h
  ·rename_i hs
   have hs:=JQ.mpr hs;simp only[bx,bh,cA,cH,bz,cC,cF,bj,cI,b9,cB,bm,bn,bi,cJ,bw,bv,cE,bt,br,bo,cG]at h;obtain⟨x,hx,h⟩:=bind_some h;obtain⟨y,hy,h⟩:=bind_some h;obtain⟨t,ht,h⟩:=map_some h;subst h;have ha:=IH.e X ct Hi τ a x C hx;have hb:=IH.e X ct Hi τ b y C hy;exact no<|⟨t,rfl,EC C.un ha hb hs ht,EB C.un ha hb hs ht⟩
 ·exact aQ h
theorem Gf{n:Nat}(IH:i7 cd n){X:Cx}{ct:Ct}{Hi:Hp}{τ:En}{x:Str}{es:List Expr}{p pos:Pos}{r:RV}(C:bG cd X ct)(h:aV cd (iE (n+1) ct x es) τ=some r):aL X Hi τ (.Call (.Name x p) es [] pos) r:=by
 refine JJ fun no=> ?_;simp only[z1p,z1q]at h
 split at h
 ·exact aQ h
 rename_i ho;have ho:=JQ.mpr ho
 split at h
 ·rename_i hg
  have hg:ct.S.lookup x=some .globalImplicit:=by simpa using hg
  cases hf:ct.F.lookup x with
  | some f =>
   rw[hf]at h;dsimp only at h;cases es with
   | nil=>exact aQ h
   | cons e es =>
    simp only[bx,bh,cA,cH,bz,cC,cF,bj,cI,b9,cB,bm,bn,bi,cJ,bw,bv,cE,bt,br,bo,cG]at h;obtain⟨rs,hrs,h⟩:=bind_some h;obtain⟨v,hv,h⟩:=map_some h;subst h;obtain⟨i1,i2,i3,i4⟩:=IH.es X ct Hi τ (e::es) rs C hrs;exact no<|call_ok C ho hg hf i2 i1 hv
  | none =>
   rw[hf]at h;dsimp only at h
   split at h
   ·rename_i hb
    have hown:own ct x=true:=by
     unfold own;rw[hb,hg];rfl
    have plain:∀{es:List Expr}{r:RV},aV cd (match ic x es.length with|some f=>IE.bf f (dJ n ct es)|none=>.never) τ=some r->aL X Hi τ (.Call (.Name x p) es [] pos) r:=by
     intro es r h;cases hbf:ic x es.length with
     | none=>rw[hbf]at h;exact aQ h
     | some f =>
      rw[hbf]at h;simp only[bx,bh,cA,cH,bz,cC,cF,bj,cI,b9,cB,bm,bn,bi,cJ,bw,bv,cE,bt,br,bo,cG]at h;obtain⟨rs,hrs,h⟩:=bind_some h;obtain⟨i1,i2,i3,i4⟩:=IH.es X ct Hi τ es rs C hrs;have one:∀a,es=[a]->aL X Hi τ (.Call (.Name x p) es [] pos) r:=by
       intro a ea;subst ea;obtain⟨ra,rfl⟩:=qi (show rs.length=1 from i3.symm);exact bf1_ok C hown hbf (i2 a (by simp)) (i4 0 a ra rfl rfl) h
      have two:∀a b,es=[a,b]->aL X Hi τ (.Call (.Name x p) es [] pos) r:=by
       intro a b ea;subst ea;obtain⟨ra,rb,rfl⟩:=vx (show rs.length=2 from i3.symm);exact ER C hown hbf (i2 a (by simp)) (i2 b (by simp)) (i4 0 a ra rfl rfl) (i4 1 b rb rfl rfl) h
      have hk:es.length=1\/es.length=2:=by
       rcases ib hbf with⟨_,z,_⟩|⟨_,z,_⟩|⟨_,z,_⟩|⟨_,z,_⟩|⟨_,z,_⟩|⟨_,z,_⟩|⟨_,z,_⟩|⟨_,z,_⟩|⟨_,z,_⟩|⟨_,z,_⟩|⟨_,z,_⟩<;>simp[z]
      rcases hk with hk|hk
      ·obtain⟨a,ha⟩:=qi hk
       exact one a ha
      ·obtain⟨a,b,ha⟩:=vx hk
       exact two a b ha
    split at h
    ·rename_i hi
     have hi:x=("isinstance":Str):=IF hi;subst hi
     split at h
     ·rename_i a t tpos
      split at h
      ·rename_i ty hty
       split at h
       ·exact aQ h
       ·rename_i hs
        have hs:=JQ.mpr hs
        split at h
        ·rename_i hot
         simp only[bx,bh,cA,cH,bz,cC,cF,bj,cI,b9,cB,bm,bn,bi,cJ,bw,bv,cE,bt,br,bo,cG,ll,lm]at h;obtain⟨rs,hrs,h⟩:=bind_some h;obtain⟨ra,hra,h2⟩:=bind_some hrs;cases h2;have h:(fD ty ra.val).map (fun b=>sc (.bl b))=some r:=h;obtain⟨b,hb2,h⟩:=map_some h;subst h;exact no<|isin_ok C hown hty hot hs (IH.e X ct Hi τ a ra C hra) hb2
        ·exact aQ h
      ·exact aQ h
     ·exact aQ h
    ·split at h
     ·rename_i y yp a ypos
      split at h
      ·rename_i f hf
       split at h
       ·exact aQ h
       ·rename_i hs
        simp only[JS,KW,Bool.not_eq_true,Bool.not_eq_false']at hs;simp only[bx,bh,cA,cH,bz,cC,cF,bj,cI,b9,cB,bm,bn,bi,cJ,bw,bv,cE,bt,br,bo,cG,ll,lm]at h;obtain⟨rs,hrs,h⟩:=bind_some h;obtain⟨ra,hra,h2⟩:=bind_some hrs;cases h2;exact no<|nst_ok C hown hs.2 hf hs.1 (IH.e X ct Hi τ a ra C hra) h
      ·exact no<|plain h
     ·rename_i o m ap cp
      split at h
      ·rename_i hc
       simp only[Hb]at hc;obtain⟨⟨⟨hx,hy⟩,hp⟩,hl⟩:=hc;have hx:=IF hx;have hy:=IF hy;subst hx hy;simp only[bx,bh,cA,cH,bz,cC,cF,bj,cI,b9,cB,bm,bn,bi,cJ,bw,bv,cE,bt,br,bo,cG,ll,lm]at h;obtain⟨rs,hrs,h⟩:=bind_some h;obtain⟨ra,hra,h2⟩:=bind_some hrs;cases h2;exact no<|sumv_ok C hown hp hl (IH.e X ct Hi τ o ra C hra) h
      ·split at h
       ·rename_i hc
        simp only[Hb]at hc;obtain⟨⟨⟨hx,hy⟩,hp⟩,hl⟩:=hc;have hx:=IF hx;have hy:=IF hy;subst hx hy;simp only[bx,bh,cA,cH,bz,cC,cF,bj,cI,b9,cB,bm,bn,bi,cJ,bw,bv,cE,bt,br,bo,cG,ll,lm]at h;obtain⟨rs,hrs,h⟩:=bind_some h;obtain⟨ra,hra,h2⟩:=bind_some hrs;cases h2;exact no<|lvals_ok C hown hp hl (IH.e X ct Hi τ o ra C hra) h
       ·exact no<|plain h
     ·rename_i elt gs scope lp
      split at h
      ·rename_i d gP
       obtain⟨rfl,hsub,x,y,p1,p2,k,p3,ap,cp,p4,p5,k2,p6,rfl,rfl,hl,g1,g2,g3,g4⟩:=uG gP;simp only[bx,bh,cA,cH,bz,cC,cF,bj,cI,b9,cB,bm,bn,bi,cJ,bw,bv,cE,bt,br,bo,cG,ll,lm]at h;obtain⟨rs,hrs,h⟩:=bind_some h;obtain⟨rl,hrl,h2⟩:=bind_some hrs;obtain⟨ra,hra,h3⟩:=bind_some hrl;cases h2;exact no<|bf1_ok C hown (show ic ("sorted":Str) 1=some .sorted from rfl) rfl (DJ C g1 g2 g3 g4 hsub hl (IH.e X ct Hi τ d ra C hra) h3) h
      ·exact no<|plain h
     ·exact no<|plain h
   ·exact aQ h
 ·exact aQ h
theorem mthE{n:Nat}(IH:i7 cd n){X:Cx}{ct:Ct}{Hi:Hp}{τ:En}{o:Expr}{m:Str}{es:List Expr}{ap cp:Pos}{r:RV}(C:bG cd X ct)(hl:(ap.endLine==cp.line)=true)(h:aV cd (kj (n+1) ct o m es) τ=some r):aL X Hi τ (.Call (.Attribute o m ap) es [] cp) r:=by
 refine JJ fun no=> ?_;simp only[z2b,z2c]at h
 split at h
 ·rename_i hp
  split at h
  ·rename_i a
   split at h
   ·exact aQ h
   ·rename_i hs
    have hs:=JQ.mpr hs
    split at h
    ·rename_i hm
     have hm:=IF hm;subst hm;simp only[bx,bh,cA,cH,bz,cC,cF,bj,cI,b9,cB,bm,bn,bi,cJ,bw,bv,cE,bt,br,bo,cG,ll,lm]at h;obtain⟨ro,hro,h⟩:=bind_some h;obtain⟨rs,hrs,h⟩:=bind_some h;obtain⟨ra,hra,h2⟩:=bind_some hrs;cases h2;exact no<|join_ok hp hl hs (IH.e X ct Hi τ o ro C hro) (IH.e X ct Hi τ a ra C hra) h
    ·exact aQ h
  ·exact aQ h
 ·exact aQ h
theorem GK{n:Nat}(IH:i7 cd n){X:Cx}{ct:Ct}{Hi:Hp}{τ:En}{tp:Bool}{e tg:Expr}{xs:List PV}{k b:Bool}(C:bG cd X ct)(ht:tp=true->∃ts kk p,tg=.Tuple ts kk p)(h:mr cd (uD (n+1) ct tp e) τ=some (xs,k,b)):nJ X Hi τ tg e xs k b/\dP e=false:=by
 simp only[z2u,z2v]at h
 split at h
 ·simp[yi,yj,yh,yk,yu]at h
 rename_i hset;have hset:=JQ.mpr hset;refine⟨?_,hset⟩;have seq:mr cd (.seq (ah n ct e)) τ=some (xs,k,b)->nJ X Hi τ tg e xs k b:=by
  intro h;simp only[yi,yj,yh,yk,yu]at h;obtain⟨r,hr,h⟩:=bind_some h;exact CJ (IH.e X ct Hi τ e r C hr) h
 have nv:∀{P:Prop},mr cd .never τ=some (xs,k,b)->P:=by
  intro P h;simp[yi,yj,yh,yk,yu]at h
 split at h
 ·rename_i x es hc
  obtain⟨p,pos,rfl⟩:∃p pos,e=.Call (.Name x p) es [] pos:=by
   unfold nE at hc
   split at hc
   ·cases hc;exact⟨_,_,rfl⟩
   ·cases hc
  split at h
  ·rename_i hx
   have hx:=IF hx;subst hx
   split at h
   ·rename_i ho
    simp only[yi,yj,yh,yk,yu]at h;obtain⟨rs,hrs,h⟩:=bind_some h;obtain⟨ys,hy,h⟩:=map_some h;cases h;obtain⟨i1,i2,i3,i4⟩:=IH.es X ct Hi τ es rs C hrs;exact CV C ho i2 i1 i3 hy
   ·exact nv h
  ·split at h
   ·rename_i hx
    have hx:=IF hx;subst hx
    split at h
    ·rename_i a b'
     split at h
     ·exact nv h
     ·rename_i hc
      simp only[JS,KW,Bool.not_eq_true,Bool.not_eq_true']at hc;obtain⟨⟨⟨c1,c2⟩,c3⟩,c4⟩:=hc;obtain⟨ts,kk,tpos,rfl⟩:=ht (by simpa using c3);simp only[yi,yj,yh,yk,yu]at h;obtain⟨ra,hra,h⟩:=bind_some h;obtain⟨rb,hrb,h⟩:=bind_some h;obtain⟨w,hw,h⟩:=map_some h;cases h;exact Bw C (by simpa using c4) c1 c2 (IH.e X ct Hi τ _ ra C hra) (IH.e X ct Hi τ _ rb C hrb) hw
    ·exact nv h
   ·split at h
    ·rename_i hx
     have hx:=IF hx;subst hx
     split at h
     ·rename_i a
      split at h
      ·exact nv h
      ·rename_i hc
       simp only[JS,KW,Bool.not_eq_true,Bool.not_eq_true']at hc;obtain⟨⟨c1,c3⟩,c4⟩:=hc;obtain⟨ts,kk,tpos,rfl⟩:=ht (by simpa using c3);simp only[yi,yj,yh,yk,yu]at h;obtain⟨ra,hra,h⟩:=bind_some h;obtain⟨w,hw,h⟩:=map_some h;cases h;exact Al C (by simpa using c4) c1 (IH.e X ct Hi τ _ ra C hra) hw
     ·exact nv h
    ·exact seq h
 ·exact seq h
theorem lcE{n:Nat}(IH:i7 cd n){X:Cx}{ct:Ct}{Hi:Hp}{τ:En}{elt:Expr}{gs:List Comprehension}{scope:Scope}{pos:Pos}{r:RV}(C:bG cd X ct)(h:aV cd (ah (n+1) ct (.ListComp elt gs scope pos)) τ=some r) :
  ∃tg iter ifs N' src,gs=[⟨tg,iter,ifs,0⟩]/\bH X scope N' src/\scope.kind=.function/\(∀y∈scope.names,y.2=.cell->scope.names.lookup y.1=some .cell)/\(∀y∈scope.names,y.2=.local->scope.names.lookup y.1=some .local)/\ck X.env.scope scope=true/\dP iter=false /\
   ∀(O:List Addr)(σ:L2.St)(H:Hp)(Q:VK),aZ X.K Hi O τ σ H->(∀u H',aC H H' ->af X.K Hi O H H' r u->Q u H')->CD X N' src scope tg ifs elt (fun σ H R=>WI X tg iter σ H R) σ H Q:=by
 refine JJ fun no=> ?_;simp only[ni,nY,nT,nh,nQ,nZ,ng,nW,nV,nR,nX,nS,na,nU]at h
 split at h
 ·rename_i t tp iter ifs
  split at h
  ·rename_i hlc
   cases hc:slots ct.N (frees scope)with
   | none=>rw[hc]at h;exact aQ h
   | some caps =>
    rw[hc]at h;simp only[bx,bh,cA,cH,bz,cC,cF,bj,cI,b9,cB,bm,bn,bi,cJ,bw,bv,cE,bt,br,bo,cG]at h;obtain⟨w,hw,h⟩:=bind_some h;obtain⟨xs,n',b⟩:=w;dsimp only at h
    split at h
    ·rename_i hz
     obtain⟨w2,hw2,h⟩:=map_some h;obtain⟨VS,NN⟩:=w2;subst h;obtain⟨gP,hset⟩:=IH.t X ct Hi τ false iter (.Name t tp) xs n' b C (fun z=>by cases z) hw;obtain⟨g1,g2,g3,g4,g5,g6,g7⟩:=gm hlc;obtain⟨q1,q2,q3⟩:=AV (elt:=elt) (ifs:=ifs) C hlc hc hset gP hz (fun X' τ' k C' hk=>by
      split at hk
      ·simp only[yw,yv]at hk
       cases hk;exact⟨_,eF,fun O σ H Q R q=>q H (aC.refl _)⟩
      ·rename_i c
       simp only[yw,yv]at hk;exact⟨_,oR jY,fun O σ H Q R q=>IH.c X' _ Hi τ' _ k C' hk O σ H Q R q⟩
      ·simp[yw,yv,vh,vj,ym,vi,bx,bh,cA,cH,bz,cC,cF,bj,cI,b9,cB,bm,bn,bi,cJ,bw,bv,cE,bt,br,bo,cG]at hk) (fun X' τ' r' C' hr' =>IH.e X' _ Hi τ' elt r' C' hr') hw2
     exact no<|⟨.Name t tp,iter,ifs,_,_,rfl,q1,g1,g2,g3,q2,hset,q3⟩
    ·cases h
  ·exact aQ h
 ·rename_i t tp t2 tp2 kk tpp iter ifs
  split at h
  ·rename_i hlc
   cases hc:slots ct.N (frees scope)with
   | none=>rw[hc]at h;exact aQ h
   | some caps =>
    rw[hc]at h;simp only[bx,bh,cA,cH,bz,cC,cF,bj,cI,b9,cB,bm,bn,bi,cJ,bw,bv,cE,bt,br,bo,cG]at h;obtain⟨w,hw,h⟩:=bind_some h;obtain⟨xs,n',b⟩:=w;dsimp only at h
    split at h
    ·rename_i hz
     obtain⟨w2,hw2,h⟩:=map_some h;obtain⟨VS,NN⟩:=w2;subst h;obtain⟨gP,hset⟩:=IH.t X ct Hi τ true iter (.Tuple [.Name t tp,.Name t2 tp2] kk tpp) xs n' b C (fun _=>⟨_,_,_,rfl⟩) hw;obtain⟨g1,g2,g3,g4,g5,g6,g8,g7⟩:=fB hlc;obtain⟨q1,q2,q3⟩:=xT (elt:=elt) (ifs:=ifs) C hlc hc hset gP hz (fun X' τ' k C' hk=>by
      split at hk
      ·simp only[yw,yv]at hk
       cases hk;exact⟨_,eF,fun O σ H Q R q=>q H (aC.refl _)⟩
      ·rename_i c
       simp only[yw,yv]at hk;exact⟨_,oR jY,fun O σ H Q R q=>IH.c X' _ Hi τ' _ k C' hk O σ H Q R q⟩
      ·simp[yw,yv,vh,vj,ym,vi,bx,bh,cA,cH,bz,cC,cF,bj,cI,b9,cB,bm,bn,bi,cJ,bw,bv,cE,bt,br,bo,cG]at hk) (fun X' τ' r' C' hr' =>IH.e X' _ Hi τ' elt r' C' hr') hw2
     exact no<|⟨.Tuple [.Name t tp,.Name t2 tp2] kk tpp,iter,ifs,_,_,rfl,q1,g1,g2,g3,q2,hset,q3⟩
    ·cases h
  ·exact aQ h
 ·exact aQ h
theorem expE{n:Nat}(IH:i7 cd n){X:Cx}{ct:Ct}{Hi:Hp}{τ:En}{e:Expr}{r:RV}(C:bG cd X ct)(h:aV cd (ah (n+1) ct e) τ=some r):aL X Hi τ e r:=by
 cases e with
 | Constant c k pos=>simp only[ni,nY,nT,nh,nQ,nZ,ng,nW,nV,nR,nX,nS,na,nU]at h;exact yK h
 | Name x pos=>simp only[ni,nY,nT,nh,nQ,nZ,ng,nW,nV,nR,nX,nS,na,nU]at h;exact mR C h
 | BinOp a op b pos =>
  simp only[ni,nY,nT,nh,nQ,nZ,ng,nW,nV,nR,nX,nS,na,nU,bx,bh,cA,cH,bz,cC,cF,bj,cI,b9,cB,bm,bn,bi,cJ,bw,bv,cE,bt,br,bo,cG]at h;obtain⟨x,hx,h⟩:=bind_some h;obtain⟨y,hy,h⟩:=bind_some h;exact yR (IH.e X ct Hi τ a x C hx) (IH.e X ct Hi τ b y C hy) h
 | UnaryOp op a pos =>
  simp only[ni,nY,nT,nh,nQ,nZ,ng,nW,nV,nR,nX,nS,na,nU]at h;cases op with
  | USub =>
   simp only[bx,bh,cA,cH,bz,cC,cF,bj,cI,b9,cB,bm,bn,bi,cJ,bw,bv,cE,bt,br,bo,cG]at h;obtain⟨x,hx,h⟩:=bind_some h;obtain⟨i,hi,h⟩:=map_some h;subst h;exact DA (IH.e X ct Hi τ a x C hx) (xi hi)
  | Not =>
   simp only[bx,bh,cA,cH,bz,cC,cF,bj,cI,b9,cB,bm,bn,bi,cJ,bw,bv,cE,bt,br,bo,cG]at h;obtain⟨x,hx,h⟩:=bind_some h;obtain⟨i,hi,h⟩:=map_some h;subst h;exact C7 (IH.e X ct Hi τ a x C hx) (iY hi)
  | _=>exact aQ h
 | Compare a ops cs pos =>
  obtain⟨t,_,h1,_⟩:=GY IH (Hi:=Hi) C h;exact h1
 | BoolOp op vs pos =>
  simp only[ni,nY,nT,nh,nQ,nZ,ng,nW,nV,nR,nX,nS,na,nU]at h
  split at h
  ·exact aQ h
  ·exact pD (fun e r h=>IH.e X ct Hi τ e r C h) h
 | IfExp c a b pos =>
  simp only[ni,nY,nT,nh,nQ,nZ,ng,nW,nV,nR,nX,nS,na,nU,bx,bh,cA,cH,bz,cC,cF,bj,cI,b9,cB,bm,bn,bi,cJ,bw,bv,cE,bt,br,bo,cG]at h;obtain⟨t,ht,h⟩:=bind_some h;refine DT (IH.c X ct Hi τ c t C ht) ?_;cases t with
  | true=>exact IH.e X ct Hi τ a r C h
  | false=>exact IH.e X ct Hi τ b r C h
 | List es pos =>
  simp only[ni,nY,nT,nh,nQ,nZ,ng,nW,nV,nR,nX,nS,na,nU,bx,bh,cA,cH,bz,cC,cF,bj,cI,b9,cB,bm,bn,bi,cJ,bw,bv,cE,bt,br,bo,cG]at h;obtain⟨rs,hrs,h⟩:=bind_some h;obtain⟨w,hw,h⟩:=bind_some h;obtain⟨vs,n'⟩:=w;exact DF (IH.es X ct Hi τ es rs C hrs).1 hw h
 | Tuple es k pos =>
  simp only[ni,nY,nT,nh,nQ,nZ,ng,nW,nV,nR,nX,nS,na,nU,bx,bh,cA,cH,bz,cC,cF,bj,cI,b9,cB,bm,bn,bi,cJ,bw,bv,cE,bt,br,bo,cG]at h;obtain⟨rs,hrs,h⟩:=bind_some h;obtain⟨w,hw,h⟩:=bind_some h;obtain⟨vs,n'⟩:=w;exact vz (IH.es X ct Hi τ es rs C hrs).1 hw h
 | Dict ks vs pos =>
  simp only[ni,nY,nT,nh,nQ,nZ,ng,nW,nV,nR,nX,nS,na,nU]at h
  split at h
  ·simp only[bx,bh,cA,cH,bz,cC,cF,bj,cI,b9,cB,bm,bn,bi,cJ,bw,bv,cE,bt,br,bo,cG]at h
   cases h;exact Ao
  ·rename_i c _ _ v
   split at h
   ·simp only[bx,bh,cA,cH,bz,cC,cF,bj,cI,b9,cB,bm,bn,bi,cJ,bw,bv,cE,bt,br,bo,cG]at h
    obtain⟨x,hx,h⟩:=bind_some h;obtain⟨w,hw,h⟩:=bind_some h;obtain⟨v',n'⟩:=w;dsimp only at h
    split at h
    ·rename_i hi
     cases h;exact tR dC (fun _ _ _ q=>q) (IH.e X ct Hi τ v x C hx) hw hi
    ·cases h
   ·simp only[bx,bh,cA,cH,bz,cC,cF,bj,cI,b9,cB,bm,bn,bi,cJ,bw,bv,cE,bt,br,bo,cG]at h
    obtain⟨x,hx,h⟩:=bind_some h;obtain⟨w,hw,h⟩:=bind_some h;obtain⟨v',n'⟩:=w;dsimp only at h
    split at h
    ·rename_i hi
     cases h;exact tR mP (fun _ _ _ q=>q) (IH.e X ct Hi τ v x C hx) hw hi
    ·cases h
   ·exact aQ h
  ·exact aQ h
 | Subscript a i pos =>
  simp only[ni,nY,nT,nh,nQ,nZ,ng,nW,nV,nR,nX,nS,na,nU]at h
  split at h
  ·rename_i lo hi st sp
   cases st with
   | none =>
    simp only[bx,bh,cA,cH,bz,cC,cF,bj,cI,b9,cB,bm,bn,bi,cJ,bw,bv,cE,bt,br,bo,cG]at h;obtain⟨x,hx,h⟩:=bind_some h;obtain⟨l,hl,h⟩:=bind_some h;obtain⟨u,hu,h⟩:=bind_some h;obtain⟨l',hl',h⟩:=bind_some h;obtain⟨u',hu',h⟩:=bind_some h;exact wI (IH.e X ct Hi τ a x C hx) (IH.o X ct Hi τ lo l l' C hl hl') (IH.o X ct Hi τ hi u u' C hu hu') h
   | some st=>exact aQ h
  ·rename_i hns
   simp only[bx,bh,cA,cH,bz,cC,cF,bj,cI,b9,cB,bm,bn,bi,cJ,bw,bv,cE,bt,br,bo,cG]at h;obtain⟨x,hx,h⟩:=bind_some h;obtain⟨y,hy,h⟩:=bind_some h;refine xm C.un ?_ (IH.e X ct Hi τ a x C hx) (IH.e X ct Hi τ i y C hy) h;cases i<;>first|rfl|(exfalso;exact hns _ _ _ _ rfl)
 | Call f es ks cp =>
  simp only[ni,nY,nT,nh,nQ,nZ,ng,nW,nV,nR,nX,nS,na,nU]at h;cases ks with
  | nil =>
   dsimp only at h;cases f with
   | Name x p=>exact IH.call X ct Hi τ x es p cp r C h
   | Attribute o m ap =>
    dsimp only at h
    split at h
    ·rename_i hl
     exact IH.mth X ct Hi τ o m es ap cp r C hl h
    ·exact aQ h
   | _=>exact aQ h
  | cons k ks=>exact aQ h
 | ListComp elt gs scope pos =>
  obtain⟨tg,iter,ifs,N',src,rfl,h1,h2,h3,h4,h5,h6,h7⟩:=lcE IH (Hi:=Hi) C h;intro O σ H Q R q;exact we (oT C.calm qY h1 h2 h3 h4 h5 (dY h6)) (h7 O σ H Q R q)
 | _=>(try simp only[ni,nY,nT,nh,nQ,nZ,ng,nW,nV,nR,nX,nS,na,nU]at h);exact aQ h
theorem tstE{n:Nat}(IH:i7 cd n){X:Cx}{ct:Ct}{Hi:Hp}{τ:En}{e:Expr}{b:Bool}(C:bG cd X ct)(h:eO cd (kN (n+1) ct e) τ=some b):eT X Hi τ e b:=by
 have plain:∀{e:Expr},eO cd (.val (ah n ct e)) τ=some b->(∀whole,isTrue e X.env whole=(do let v<-whole;standAt e.pos;holding [v] (truthy v)))->eT X Hi τ e b:=by
  intro e h hp;simp only[vh,vj,ym,vi]at h;obtain⟨x,hx,h⟩:=bind_some h;exact B3 (IH.e X ct Hi τ e x C hx) h hp
 cases e with
 | UnaryOp op a p =>
  simp only[FA,Ex,Ez,Ey]at h;cases op with
  | Not =>
   simp only[vh,vj,ym,vi]at h;obtain⟨t,ht,h⟩:=map_some h;subst h;exact C6 (IH.c X ct Hi τ a t C ht)
  | _=>exact plain h fun _=>rfl
 | BoolOp op vs p =>
  simp only[FA,Ex,Ez,Ey]at h;exact(pC (fun e b h=>IH.c X ct Hi τ e b C h) h).tc
 | IfExp c a b' p =>
  simp[FA,Ex,Ez,Ey,vh,vj,ym,vi,bx,bh,cA,cH,bz,cC,cF,bj,cI,b9,cB,bm,bn,bi,cJ,bw,bv,cE,bt,br,bo,cG]at h
 | Compare a ops cs pos =>
  have h:eO cd (.val (ah n ct (.Compare a ops cs pos))) τ=some _:=h;simp only[vh,vj,ym,vi]at h;obtain⟨x,hx,h⟩:=bind_some h;obtain⟨t,rfl,ht⟩:=IH.cm X ct Hi τ a ops cs pos x C hx;cases h;exact ht
 | _=>(try simp only[FA,Ex,Ez,Ey]at h);exact plain h fun _=>rfl
theorem bS:∀n:Nat,i7 cd n
 | 0=>by
  refine⟨fun X ct Hi τ e r C h=> ?_,fun X ct Hi τ a ops cs pos r C h=> ?_,fun X ct Hi τ es rs C h=> ?_,fun X ct Hi τ e o i C h=> ?_,fun X ct Hi τ e b C h=> ?_,fun X ct Hi τ x es p pos r C h=> ?_,fun X ct Hi τ o m es ap cp r C hl h=> ?_,fun X ct Hi τ tp e tg xs k b C ht h=> ?_⟩
  ·simp[ni,nY,nT,nh,nQ,nZ,ng,nW,nV,nR,nX,nS,na,nU,bx,bh,cA,cH,bz,cC,cF,bj,cI,b9,cB,bm,bn,bi,cJ,bw,bv,cE,bt,br,bo,cG]at h
  ·simp[ni,nY,nT,nh,nQ,nZ,ng,nW,nV,nR,nX,nS,na,nU,bx,bh,cA,cH,bz,cC,cF,bj,cI,b9,cB,bm,bn,bi,cJ,bw,bv,cE,bt,br,bo,cG]at h
  ·simp[z29,z2a,ll,lm,bx,bh,cA,cH,bz,cC,cF,bj,cI,b9,cB,bm,bn,bi,cJ,bw,bv,cE,bt,br,bo,cG]at h
  ·simp[z2d,z2e,z2f,z0u,z0v,bx,bh,cA,cH,bz,cC,cF,bj,cI,b9,cB,bm,bn,bi,cJ,bw,bv,cE,bt,br,bo,cG]at h
  ·simp[FA,Ex,Ez,Ey,vh,vj,ym,vi,bx,bh,cA,cH,bz,cC,cF,bj,cI,b9,cB,bm,bn,bi,cJ,bw,bv,cE,bt,br,bo,cG]at h
  ·simp[z1p,z1q,bx,bh,cA,cH,bz,cC,cF,bj,cI,b9,cB,bm,bn,bi,cJ,bw,bv,cE,bt,br,bo,cG]at h
  ·simp[z2b,z2c,bx,bh,cA,cH,bz,cC,cF,bj,cI,b9,cB,bm,bn,bi,cJ,bw,bv,cE,bt,br,bo,cG]at h
  ·simp[z2u,z2v,yi,yj,yh,yk,yu]at h
 | n+1=>by
  have IH:=bS n;refine⟨fun X ct Hi τ e r C h=>expE IH C h,fun X ct Hi τ a ops cs pos r C h=> ?_,fun X ct Hi τ es rs C h=> ?_,fun X ct Hi τ e o i C h hi=> ?_,fun X ct Hi τ e b C h=>tstE IH C h,fun X ct Hi τ x es p pos r C h=>Gf IH C h,fun X ct Hi τ o m es ap cp r C hl h=>mthE IH C hl h,fun X ct Hi τ tp e tg xs k b C ht h=>GK IH C ht h⟩
  ·obtain⟨t,h1,_,h2⟩:=GY IH (Hi:=Hi) C h
   exact⟨t,h1,h2⟩
  ·simp only[z29,z2a]at h
   exact sw (fun e r h=>IH.e X ct Hi τ e r C h) h
  ·cases e with
   | none =>
    simp only[z2d,z2e,z2f,z0u,z0v]at h;cases h;cases hi;exact True.intro
   | some e =>
    simp only[z2d,z2e,z2f,z0u,z0v]at h;obtain⟨r,hr,h⟩:=map_some h;subst h;simp only[oz]at hi
    split at hi
    ·rename_i j ej
     cases hi;exact⟨r,IH.e X ct Hi τ e r C hr,ej⟩
    ·cases hi
end
end IR
namespace L2
open PySem PySem.Spec PyProof.Rows
section
variable{X:Cx}{pins:List (Addr×Obj)}{σ:St}{H:Hp}{s:Shared}
theorem oO{xn:Str}{ix:Nat}{xpos apos:Pos}{elt target iter:Expr}{ifs:List Expr}{scope:Scope}{pos:Pos}{N' :List Str}{src:List (Option Nat)}{wi:TI}(hc:X.calm=true)(hi:PI X target iter wi)(hsrc:bH X scope N' src)
  (hkind:scope.kind=.function) (hcell:∀y∈scope.names,y.2=.cell->scope.names.lookup y.1=some .cell) (hnames:∀y∈scope.names,y.2=.local->scope.names.lookup y.1=some .local)
  (hfr:ck X.env.scope scope=true)
  (hs:∀x,foldedSetIterable iter X.env x=pure x) (hN:X.N.Nodup) (hix:X.N[ix]? =some xn) (hxl:Loc X.env.scope xn) (hf:X.fn xn=true\/X.env.scope.names.lookup xn=some .local)
  (hsw:swapsWith (.ListComp elt [⟨target,iter,ifs,0⟩] scope pos) (some (.Name xn xpos)) apos.line X.env=pure true) :
  PS X (.Assign [.Name xn xpos] (.ListComp elt [⟨target,iter,ifs,0⟩] scope pos) apos) (CI (CD X N' src scope target ifs elt wi) (lK ix)):=by
 intro pins s σ H D0 I h;rw[exec_Assign_Name_used xn xpos _ apos hsw];refine HY (wpAny_standAt (HY ?_));show wpAny (model X.prog X.w) X.A (comprehension (.ListComp elt [⟨target,iter,ifs,0⟩] scope pos) scope X.env _ (newList []) false _ (some (assign (.Name xn xpos) X.env)) >>= fun _=>pure ()) _ _ _;refine HY (al (Q:=fun _ s' =>SP X pins D0 .next s') ?_ fun _ s9 h9=>Hq (Hq h9));refine sy (use:=some (assign (.Name xn xpos) X.env)) hc hi hsrc hkind hcell hnames hfr hs I h fun C a' s2 s4 H2 H3 fp cl m I2 f2 below hCle I4 hn qn _=> ?_;have u4:Un (qv X.stack) fp H2 H3 s2.heap s4.heap:=I4.base;have IX:Inv X pins σ H3 s4:=I2.call' (s' :=s4) (ch:=fp) I4.os u4 I4.hok I4.bare fun b hb=>⟨(f2 b hb).2.2.2.1,(f2 b hb).2.1,(f2 b hb).2.2.2.2.1,(f2 b hb).2.2.2.2.2⟩;have hC3:H3 C=none:=I4.free;refine wpAny_assign_Name (kl IX hN hix hxl (v:=.ref a') rfl (fun s5 I5 ⟨a,sb,ha⟩=> ?_) hf);have ane:C≠a:=by
  rcases ha with rfl|ha
  ·exact(below _ I2.lt).symm
  ·obtain⟨v,qc⟩:=I2.cell _ _ ha
   exact(below _ qc.lt).symm
 refine⟨m,?_,fun h' hs' => ?_⟩
 ·obtain⟨ob,es,ep,ho,rr⟩:=hn
  exact⟨ob,es,ep,(sb.2 _ ane).trans ho,rr⟩
 ·refine⟨_,H3,I5.turned (t' :=s5.toks) (it:=C) (fun b o ne e=>(hs'.2 b ne).trans e) hC3 (below _ I2.lt).symm (.inr (Ik I2.sz hCle)) (fun x c e=> ?_) (fun p hp=> ?_),qn⟩
  ·obtain⟨v,qc⟩:=I2.cell x c e
   exact below _ qc.lt
  ·exact below _ (Hs (I2.pin p hp).1)
end
end L2
namespace IR
open PySem PySem.Spec PyProof.Rows L2
section
variable{X:Cx}{Hi:Hp}{τ:En}{cd:Nat->List PV->Option PV}{ct:Ct}
noncomputable abbrev WS(X:Cx)(st:Stmt)(D:cu)(σ:L2.St)(H:Hp):Prop:=∀(pins:List (Addr×Obj))(s:Shared),Inv X pins σ H s->wpAny (model X.prog X.w) X.A (exec st X.env) (SP X pins D) X.xe s
noncomputable abbrev BN(X:Cx)(st:List Stmt)(D:cu)(σ:L2.St)(H:Hp):Prop:=∀(pins:List (Addr×Obj))(s:Shared),Inv X pins σ H s->wpAny (model X.prog X.w) X.A (execs st X.env) (SP X pins D) X.xe s
theorem i9{st:Stmt}:PS X st (fun D σ H=>WS X st D σ H):=fun pins s σ H D I h=>h pins s I
theorem cO{st:List Stmt}:rh X st (fun D σ H=>BN X st D σ H):=fun pins s σ H D I h=>h pins s I
theorem ws{st:Stmt}{t:TS}{σ:L2.St}{H:Hp}{D:cu}(h:PS X st t)(q:t D σ H):WS X st D σ H:=fun pins s I=>h pins s σ H D I q
theorem sC{st:List Stmt}{t:TS}{σ:L2.St}{H:Hp}{D:cu}(h:rh X st t)(q:t D σ H):BN X st D σ H:=fun pins s I=>h pins s σ H D I q
variable(X Hi)in
noncomputable def pq(O:List Addr)(H:Hp)(τ' :En)(P:L2.St->Hp->Prop):Prop:=∀(σ' :L2.St)(H' :Hp)(O' :List Addr),aZ X.K Hi O' τ' σ' H' ->σ'.length=X.N.length->aC (aM H O) (aM H' O')->P σ' H'
variable(X Hi)in
noncomputable def yc(fl:Fl)(O:List Addr)(H:Hp)(D:cu):Prop:=match fl with
 | .nx τ' =>pq X Hi O H τ' D.nx
 | .bk τ' =>pq X Hi O H τ' D.bk
 | .ct τ' =>pq X Hi O H τ' D.ct
 | .rt v=>∀u H',aC Hi H' ->Rp X.K Hi true v H' u->D.rt u H'
variable(X Hi τ)in
noncomputable def jH(st:Stmt)(fl:Fl):Prop:=∀(O:List Addr)(σ:L2.St)(H:Hp)(D:cu),aZ X.K Hi O τ σ H->σ.length=X.N.length->yc X Hi fl O H D->WS X st D σ H
variable(X Hi τ)in
noncomputable def vL(st:List Stmt)(fl:Fl):Prop:=∀(O:List Addr)(σ:L2.St)(H:Hp)(D:cu),aZ X.K Hi O τ σ H->σ.length=X.N.length->yc X Hi fl O H D->BN X st D σ H
theorem pq.from{O O' :List Addr}{H H' :Hp}{τ' :En}{P:L2.St->Hp->Prop}(h:pq X Hi O H τ' P)(s:aC (aM H O) (aM H' O')):pq X Hi O' H' τ' P:=fun σ2 H2 O2 R hl s2=>h σ2 H2 O2 R hl (s.trans s2)
theorem yc.from{O O' :List Addr}{H H' :Hp}{fl:Fl}{D:cu}(h:yc X Hi fl O H D)(s:aC (aM H O) (aM H' O')):yc X Hi fl O' H' D:=by
 cases fl with
 | nx τ' =>exact pq.from (show pq X Hi O H τ' D.nx from h) s
 | bk τ' =>exact pq.from (show pq X Hi O H τ' D.bk from h) s
 | ct τ' =>exact pq.from (show pq X Hi O H τ' D.ct from h) s
 | rt v=>exact h
theorem dc(C:bG cd X ct){x:Str}{i:Nat}(h:loc ct x=some i):X.N[i]? =some x/\L2.Loc X.env.scope x/\vd x=false/\B2 ct.S x=true:=by
 unfold loc at h
 split at h
 ·rename_i c
  rw[Hb]at c;refine⟨by rw[C.N];exact eZ h,?_,by simpa using c.2,?_⟩
  ·unfold L2.Loc
   rw[C.S]
   simpa using c.1
  ·unfold B2
   have:=c.1;simp only[JS]at this ⊢;exact .inl this
 ·cases h
theorem iQ{cap:List Nat}{O:List Addr}{σ:L2.St}{H:Hp}(R:aZ X.K Hi O τ σ H):∃O',aZ X.K Hi O' (bA cap τ) σ H/\aC (aM H O) (aM H O'):=by
 obtain⟨O',R',h⟩:=R.freezes (cap:=cap);exact⟨O',R',mf h⟩
theorem Cb{o:Bool}{i:Nat}{r:RV}{τ' :En}{O:List Addr}{σ:L2.St}{H H' :Hp}{u:V}(R:aZ X.K Hi O τ σ H)(s:aC H H')(hi:i<σ.length)(ok:af X.K Hi O H H' r u)(h:mN o i r τ=some τ') :
  ∃O',aZ X.K Hi O' τ' (σ.set i (some u)) H' /\aC (aM H O) (aM H' O'):=by
 unfold mN at h
 split at h
 ·rename_i xs n
  cases h;obtain⟨p,us,rfl,h0,h1,r1⟩:=ok;have hs:aC (aM (del H' p) O) (aM H' (p::O)):=fun b o e=>by
   unfold aM del at e;unfold aM
   split at e
   ·cases e
   ·rename_i nb
    split at e
    ·cases e
    ·rename_i np
     rw[Hl (by simp[np,nb])];exact e
  refine⟨p::O,R.setO hi s h0 h1 (r1.mono hs),fun b o e=> ?_⟩;unfold aM at e ⊢
  split at e
  ·cases e
  ·rename_i nb
   have ne:b≠p:=aK e h0;rw[Hl (by simp[ne,nb])];exact s b o e
 ·rename_i b xs n
  cases h;obtain⟨p,us,o,rfl,h0,h1,ha,r1⟩:=ok;have hs:aC (aM (del H' p) O) (aM H' (p::O)):=fun b o e=>by
   unfold aM del at e;unfold aM
   split at e
   ·cases e
   ·rename_i nb
    split at e
    ·cases e
    ·rename_i np
     rw[Hl (by simp[np,nb])];exact e
  refine⟨p::O,R.setB rfl hi s h0 h1 ha (r1.mono hs),fun b o e=> ?_⟩;unfold aM at e ⊢
  split at e
  ·cases e
  ·rename_i nb
   have ne:b≠p:=aK e h0;rw[Hl (by simp[ne,nb])];exact s b o e
 ·obtain⟨w,hw,h⟩:=map_some h
  obtain⟨v,n⟩:=w;subst h;exact⟨O,(R.ext s).setF hi (ok.keep R s hw),aJ s⟩
theorem xJ{e:Expr}{x:Str}{p:Pos}{l:Nat}{env:Env}(h:qu e=false\/env.kindOf x≠some .local):swapsWith e (some (.Name x p)) l env=pure false:=by
 rcases h with h|h
 ·cases e<;>first|rfl|cases h
 ·have hk:(env.kindOf x==some NameKind.local)=false:=by simpa using h
  cases e<;>first|rfl|(show(pure (_&&(env.kindOf x==some NameKind.local)&&_&&_):Sem Bool)=pure false;rw[hk,Bool.and_false,Kb,Kb])
theorem EW(C:bG cd X ct)(hfn:X.fn=fun _=>true){n:Nat}{x:Str}{i:Nat}{o:Bool}{cap:List Nat}{e:Expr}{xp pos:Pos}{r:RV}{τ' :En}(hx:loc ct x=some i)(hr:aV cd (ah n ct e) (bA cap τ)=some r)(hp:mN o i r (bA cap τ)=some τ') :
  jH X Hi τ (.Assign [.Name x xp] e pos) (.nx τ'):=by
 intro O σ H D R hl q;obtain⟨h1,h2,h3,h4⟩:=dc C hx;obtain⟨O1,R1,s1⟩:=iQ (cap:=cap) R;have he:=(bS n).e X ct Hi (bA cap τ) e r C hr;have hi:i<σ.length:=by rw[hl];exact(Hh.mp h1).1
 have hN:X.N.Nodup:=by rw[C.N];exact C.nd
 have fin:∀u H',aC H H' ->af X.K Hi O1 H H' r u->D.nx (σ.set i (some u)) H' :=fun u H' s ok=>by
  obtain⟨O2,R2,s2⟩:=Cb R1 s hi ok hp;exact q _ _ O2 R2 (by rw[Iq];exact hl) (s1.trans s2)
 by_cases hc:qu e=false\/X.env.kindOf x≠some .local
 ·refine ws (dW hN h1 h2 aY (xJ hc) (.inl (by rw[hfn]))) ?_
  exact he O1 σ H _ R1 fin
 ·rw[KW]at hc
  obtain⟨c1,c2⟩:=hc;have c2:X.env.kindOf x=some .local:=Classical.not_not.mp c2;cases e with
  | ListComp elt gs scope lp =>
   cases n with
   | zero=>simp[ni,nY,nT,nh,nQ,nZ,ng,nW,nV,nR,nX,nS,na,nU,bx,bh,cA,cH,bz,cC,cF,bj,cI,b9,cB,bm,bn,bi,cJ,bw,bv,cE,bt,br,bo,cG]at hr
   | succ n =>
    obtain⟨tg,iter,ifs,N',src,rfl,g1,g2,g3,g4,g5,g6,g7⟩:=lcE (bS n) (Hi:=Hi) C hr;obtain⟨b,hb⟩:∃b,swapsWith (.ListComp elt [⟨tg,iter,ifs,0⟩] scope lp) (some (.Name x xp)) pos.line X.env=pure b:=⟨_,rfl⟩;cases b with
    | true=>exact ws (oO C.calm qY g1 g2 g3 g4 g5 (dY g6) hN h1 h2 (.inl (by rw[hfn])) hb) (g7 O1 σ H _ R1 fin)
    | false=>exact ws (dW hN h1 h2 aY hb (.inl (by rw[hfn]))) (he O1 σ H _ R1 fin)
  | SetComp a b c d=>exact aQ (by cases n<;>exact hr)
  | DictComp a b c d e=>exact aQ (by cases n<;>exact hr)
  | _=>exact absurd rfl c1
theorem CW(C:bG cd X ct){n:Nat}{cap:List Nat}{e:Expr}{pos:Pos}{r:RV}{v:PV}(hr:aV cd (ah n ct e) (bA cap τ)=some r)(hk:r.keep=some (v,true)):jH X Hi τ (.Return (some e) pos) (.rt v):=by
 intro O σ H D R hl q;obtain⟨O1,R1,s1⟩:=iQ (cap:=cap) R;refine ws (fz aY) ?_;exact(bS n).e X ct Hi _ e r C hr O1 σ H _ R1 fun u H' s ok=>q u H' (R.same.trans s) ((ok.keep R1 s hk).mono aR)
theorem zW{pos:Pos}:jH X Hi τ (.Return none pos) (.rt .non):=by
 intro O σ H D R hl q;exact ws zk (q _ _ R.same (Rp.non.mpr rfl))
theorem Dc{c:Expr}{a b:List Stmt}{pos:Pos}{t:Bool}{fl:Fl}(hc:eT X Hi τ c t)(h:vL X Hi τ (if t=true then a else b) fl):jH X Hi τ (.If c a b pos) fl:=by
 intro O σ H D R hl q;refine ws (kw jY cO cO) ?_;refine hc O σ H _ R fun H1 s1=> ?_;cases t with
 | true=>exact jC ((show vL X Hi τ a fl from h) O σ H1 _ (R.ext s1) hl (q.from (aJ s1)))
 | false=>exact jq ((show vL X Hi τ b fl from h) O σ H1 _ (R.ext s1) hl (q.from (aJ s1)))
theorem mU(C:bG cd X ct)(hfn:X.fn=fun _=>true):∀{es:List Expr}{is:List Nat},locs ct es=some is->∃t,Eu X es t/\(assignEach es X.env).length=is.length/\(assignEach es X.env).findIdx? (·.1)=none /\
  ∀(O:List Addr)(τ τ' :En)(σ:L2.St)(H:Hp)(n:Bool)(xs:List PV)(us:List V)(Q:L2.St->Hp->Prop),aZ X.K Hi O τ σ H->σ.length=X.N.length->aG X.K Hi n xs (aM H O) us->bc n is xs τ=some τ' ->
   (∀σ',aZ X.K Hi O τ' σ' H->σ'.length=X.N.length->Q σ' H)->t us σ H Q
 | [],is,h=>by
  cases h;refine⟨_,ge,rfl,rfl,fun O τ τ' σ H n xs us Q R hl r e q=> ?_⟩;cases xs with
  | nil =>
   unfold aG at r;subst r;cases e;exact⟨rfl,q σ R hl⟩
  | cons x xs=>cases e
 | .Name x p::es,is,h=>by
  have h:(loc ct x).bind (fun i=>(locs ct es).map (i::·))=some is:=h;obtain⟨i,hi,h⟩:=bind_some h;obtain⟨js,hj,h⟩:=map_some h;subst h;obtain⟨h1,h2,h3,h4⟩:=dc C hi;obtain⟨t,pt,hlen,hf,k⟩:=mU C hfn hj;refine⟨_,bW (ar (by rw[C.N];exact C.nd) h1 h2 (.inl (by rw[hfn]))) pt rfl,?_,?_,fun O τ τ' σ H n xs us Q R hl r e q=> ?_⟩
  ·show(assignEach es X.env).length+1=_
   rw[hlen];rfl
  ·show List.findIdx? (·.1) ((false,assign (.Name x p) X.env)::assignEach es X.env)=none
   rw[List.findIdx?_cons,hf];rfl
  ·cases xs with
   | nil=>cases e
   | cons y ys =>
    unfold aG at r;obtain⟨u,vs,rfl,a,b⟩:=r;have hi' :i<σ.length:=by rw[hl];exact(Hh.mp h1).1
    exact⟨u,vs,rfl,k O _ τ' _ H n ys vs Q (R.setF hi' a.up) (by rw[Iq];exact hl) b e q⟩
 | .BoolOp .. ::_,_,h=>by cases h
 | .NamedExpr .. ::_,_,h=>by cases h
 | .BinOp .. ::_,_,h=>by cases h
 | .UnaryOp .. ::_,_,h=>by cases h
 | .Lambda .. ::_,_,h=>by cases h
 | .IfExp .. ::_,_,h=>by cases h
 | .Dict .. ::_,_,h=>by cases h
 | .Set .. ::_,_,h=>by cases h
 | .ListComp .. ::_,_,h=>by cases h
 | .SetComp .. ::_,_,h=>by cases h
 | .DictComp .. ::_,_,h=>by cases h
 | .GeneratorExp .. ::_,_,h=>by cases h
 | .Await .. ::_,_,h=>by cases h
 | .Yield .. ::_,_,h=>by cases h
 | .YieldFrom .. ::_,_,h=>by cases h
 | .Compare .. ::_,_,h=>by cases h
 | .Call .. ::_,_,h=>by cases h
 | .FormattedValue .. ::_,_,h=>by cases h
 | .JoinedStr .. ::_,_,h=>by cases h
 | .Constant .. ::_,_,h=>by cases h
 | .Attribute .. ::_,_,h=>by cases h
 | .Subscript .. ::_,_,h=>by cases h
 | .Starred .. ::_,_,h=>by cases h
 | .List .. ::_,_,h=>by cases h
 | .Tuple .. ::_,_,h=>by cases h
 | .Slice .. ::_,_,h=>by cases h
theorem BX(C:bG cd X ct)(hfn:X.fn=fun _=>true){tg:Expr}{is:List Nat}{one:Bool}(h:uC ct tg=some (is,one)):(one=false->∃ts k p,tg=.Tuple ts k p)/\∃g,PG X tg g /\
  ∀(O:List Addr)(τ τ' :En)(σ:L2.St)(H:Hp)(n:Bool)(x:PV)(u:V)(Q:L2.St->Hp->Prop),aZ X.K Hi O τ σ H->σ.length=X.N.length->Rp X.K Hi n x (aM H O) u->kP is one n x τ=some τ' ->
   (∀σ',aZ X.K Hi O τ' σ' H->σ'.length=X.N.length->Q σ' H)->g u σ H Q:=by
 cases tg with
 | Name x p =>
  obtain⟨i,hi,h⟩:=map_some (show(loc ct x).map (fun i=>([i],true))=some (is,one)from h);cases h;obtain⟨h1,h2,h3,h4⟩:=dc C hi;refine⟨fun z=>(by cases z),_,ar (by rw[C.N];exact C.nd) h1 h2 (.inl (by rw[hfn])),fun O τ τ' σ H n x u Q R hl r e q=> ?_⟩;have e:some (τ.set i (.frz x (n||imm x)))=some τ' :=e;cases e;have hi' :i<σ.length:=by rw[hl];exact(Hh.mp h1).1
  exact q _ (R.setF hi' r.up) (by rw[Iq];exact hl)
 | Tuple es k p =>
  obtain⟨js,hj,h⟩:=map_some (show(locs ct es).map (fun is=>(is,false))=some (is,one)from h);cases h;obtain⟨t,pt,hlen,hf,kk⟩:=mU (Hi:=Hi) C hfn hj;refine⟨fun _=>⟨_,_,_,rfl⟩,_,jd C.calm pt hlen hf,fun O τ τ' σ H n x u Q R hl r e q=> ?_⟩;cases x with
  | tup xs =>
   obtain⟨a,us,rfl,l,r2⟩:=Rp.tup.mp r;have e:bc n is xs τ=some τ' :=e;have hz:∀{is:List Nat}{xs:List PV}{τ τ' :En},bc n is xs τ=some τ' ->xs.length=is.length:=by
    intro is
    induction is with
    | nil=>intro xs τ τ' e;cases xs with
     | nil=>rfl
     | cons _ _=>cases e
    | cons i is ih=>intro xs τ τ' e;cases xs with
     | nil=>cases e
     | cons x xs=>rw[IL,IL,ih (show bc n is xs _=some τ' from e)]
   exact⟨a,us,rfl,(aR (O:=O)).tup l,by rw[<- r2.len];exact hz e,kk O τ τ' σ H n xs us Q R hl r2 e q⟩
  | _=>cases e
 | _=>cases h
theorem Dm(C:bG cd X ct)(hfn:X.fn=fun _=>true){tg it:Expr}{is:List Nat}{one:Bool}{cap:List Nat}{n:Nat}{body:List Stmt}{pos:Pos}{xs:List PV}{k:Bool}{bd:En->Option Fl}{fl:Fl}(ht:uC ct tg=some (is,one))
  (hi:mr cd (uD n ct (!one) it) (bA cap τ)=some (xs,k,false)) (hb:∀τ fl,bd τ=some fl->vL X Hi τ body fl) (h:jx (kP is one k) bd xs (bA cap τ)=some fl):jH X Hi τ (.For tg it body [] pos) fl:=by
 intro O σ H D R hl q;obtain⟨O1,R1,s1⟩:=iQ (cap:=cap) R;obtain⟨htp,g,pg,kg⟩:=BX (Hi:=Hi) C hfn ht;obtain⟨gP,hset⟩:=(bS n).t X ct Hi (bA cap τ) (!one) it tg xs k false C (fun z=>htp (by simpa using z)) hi;refine ws (gB C.xe C.calm qY pg cO (dY hset)) ?_;refine gP O1 σ H _ R1 fun J H1 sJ En=> ?_;rw[Hl Hk]at En;have s2:aC (aM H O) (aM H1 O1):=s1.trans (aJ sJ);refine⟨fun i m σ' G=>m=xs.length-i/\i<=xs.length/\∃(P:List Addr)(υ:IR.En),aZ X.K Hi P υ σ' G/\σ'.length=X.N.length/\aC (aM H1 O1) (aM G P)/\jx (kP is one k) bd (xs.drop i) υ=some fl,⟨xs.length,by simp,IN _,O1,_,R1.ext sJ,hl,aC.refl _,h⟩,?_⟩;rintro i m σ' G ⟨rfl,hi',P,υ,RP,hlP,sP,hrun⟩;have Bj:ye (aM H1 O1) G P:=⟨RP.lsts,sP⟩
 by_cases hlt:i<xs.length
 ·refine .inr ⟨En.go G P i Bj hlt,fun σ2 G2=>∃m',m' <xs.length-i/\(m' =xs.length-(i+1)/\i+1<=xs.length/\∃(P:List Addr)(υ:IR.En),aZ X.K Hi P υ σ2 G2/\σ2.length=X.N.length/\aC (aM H1 O1) (aM G2 P)/\jx (kP is one k) bd (xs.drop (i+1)) υ=some fl),
   fun σ2 G2 h=>h,fun u G' y=> ?_⟩
  obtain⟨sG,x,hx,rx⟩:=En.yld G P i u G' Bj hlt y;have hd:xs.drop i=x::xs.drop (i+1):=by
   rw[JI hlt];rw[Hd hlt]at hx;rw[IB hx]
  rw[hd]at hrun;unfold jx at hrun;obtain⟨υ1,h1,hrun⟩:=bind_some hrun;obtain⟨f,hf,hrun⟩:=bind_some hrun;refine kg P υ υ1 σ' G' k x u _ (RP.ext sG) hlP rx h1 fun σ1 R2 hl1=> ?_;have s3:aC (aM H1 O1) (aM G' P):=sP.trans (aJ sG);refine hb υ1 f hf P σ1 G' _ R2 hl1 ?_;cases f with
  | nx υ2=>exact fun σ3 G3 P3 R3 hl3 s4=>⟨_,by omega,rfl,hlt,P3,υ2,R3,hl3,s3.trans s4,hrun⟩
  | ct υ2=>exact fun σ3 G3 P3 R3 hl3 s4=>⟨_,by omega,rfl,hlt,P3,υ2,R3,hl3,s3.trans s4,hrun⟩
  | bk υ2 =>
   have hrun:some (Fl.nx υ2)=some fl:=hrun;cases hrun;exact fun σ3 G3 P3 R3 hl3 s4=>q σ3 G3 P3 R3 hl3 (s2.trans (s3.trans s4))
  | rt v =>
   have hrun:some (Fl.rt v)=some fl:=hrun;cases hrun;exact q
 ·have e:i=xs.length:=by omega
  subst e;rw[List.drop_length]at hrun;have hrun:some (Fl.nx υ)=some fl:=hrun;cases hrun;exact .inl ⟨En.stop G P Bj,q σ' G P RP hlP (s2.trans sP)⟩
theorem vm(C:bG cd X ct){c:Expr}{body:List Stmt}{pos:Pos}{ce:En->Option Bool}{bd:En->Option Fl}{fl:Fl}(hc:∀τ b,ce τ=some b->eT X Hi τ c b)(hb:∀τ fl,bd τ=some fl->vL X Hi τ body fl){fu:Nat}(h:yn ce bd fu τ=some fl) :
  jH X Hi τ (.While c body [] pos) fl:=by
 intro O σ H D R hl q;refine ws (wf C.xe jY cO) ?_;refine⟨fun m σ' G=>∃(P:List Addr)(υ:IR.En),aZ X.K Hi P υ σ' G/\σ'.length=X.N.length/\aC (aM H O) (aM G P)/\yn ce bd m υ=some fl,⟨fu,O,τ,R,hl,aC.refl _,h⟩,?_⟩;rintro m σ' G ⟨P,υ,RP,hlP,sP,hrun⟩;cases m with
 | zero=>cases hrun
 | succ m =>
  unfold yn at hrun;obtain⟨b,hbv,hrun⟩:=bind_some hrun;refine hc υ b hbv P σ' G _ RP fun G1 s1=> ?_;cases b with
  | false =>
   rw[Hl Hk]at hrun ⊢;cases hrun;exact q σ' G1 P (RP.ext s1) hlP (sP.trans (aJ s1))
  | true =>
   rw[Hr rfl]at hrun ⊢;obtain⟨f,hf,hrun⟩:=bind_some hrun;refine⟨fun σ2 G2=>∃m',m' <m+1/\∃(P:List Addr)(υ:IR.En),aZ X.K Hi P υ σ2 G2/\σ2.length=X.N.length/\aC (aM H O) (aM G2 P)/\yn ce bd m' υ=some fl,fun σ2 G2 h=>h,?_⟩;have s3:aC (aM H O) (aM G1 P):=sP.trans (aJ s1);refine hb υ f hf P σ' G1 _ (RP.ext s1) hlP ?_;cases f with
   | nx υ2=>exact fun σ3 G3 P3 R3 hl3 s4=>⟨m,by omega,P3,υ2,R3,hl3,s3.trans s4,hrun⟩
   | ct υ2=>exact fun σ3 G3 P3 R3 hl3 s4=>⟨m,by omega,P3,υ2,R3,hl3,s3.trans s4,hrun⟩
   | bk υ2 =>
    have hrun:some (Fl.nx υ2)=some fl:=hrun;cases hrun;exact fun σ3 G3 P3 R3 hl3 s4=>q σ3 G3 P3 R3 hl3 (s3.trans s4)
   | rt v =>
    have hrun:some (Fl.rt v)=some fl:=hrun;cases hrun;exact q
theorem sK{i:Nat}{xs ys:List PV}{n m:Bool}{O:List Addr}{σ:L2.St}{H:Hp}{l:Addr}{us:List V}{P:L2.St->Hp->Prop}(R:aZ X.K Hi O τ σ H)(hl:σ.length=X.N.length)(e:τ[i]? =some (.own xs n))(g:σ[i]? =some (some (.ref l)))(r:aG X.K Hi m ys (aM H O) us)
  (q:pq X Hi O H (τ.set i (.own ys m)) P):P σ (L2.upd H l (.lst us)):=by
 have R2:=R.upd e g r;refine q σ _ O R2 hl fun b o z=> ?_;obtain⟨l',vs,g1,g2,_⟩:=R.owns i xs n e;rw[g]at g1;cases g1;unfold aM at z ⊢
 split at z
 ·cases z
 ·rename_i nb
  have ne:b≠l:=fun c=>nb (c▸g2);rw[Hl nb,aB ne];exact z
theorem EX(C:bG cd X ct){n:Nat}{x m:Str}{i:Nat}{cap:List Nat}{a:Expr}{xp ap cp pos:Pos}{r:RV}{v:PV}{k j:Bool}{xs:List PV}(hx:loc ct x=some i)(hm:m="append")(hline:(ap.endLine==cp.line)=true)(hs:isStar a=false)
  (hr:aV cd (ah n ct a) (bA cap τ)=some r) (hk:r.keep=some (v,k)) (ho:(bA cap τ)[i]? =some (.own xs j)) (hz:xs.length<LN) :
  jH X Hi τ (.Expr (.Call (.Attribute (.Name x xp) m ap) [a] [] cp) pos) (.nx ((bA cap τ).set i (.own (xs++[v]) (j&&k)))):=by
 intro O σ H D R hl q;subst hm;obtain⟨h1,h2,h3,h4⟩:=dc C hx;obtain⟨O1,R1,s1⟩:=iQ (cap:=cap) R;obtain⟨o1,o2,o3⟩:=be h3;refine ws (ef (si J5 PySem.F.slot_list_append PySem.F.type_list_append iL (je h1 (lw C.S h4) o1 o2) (aH aY aX (aP hs)) rfl (by rw[aP hs];rfl) hline (aP hs) rfl) rfl) ?_;obtain⟨l,us,g1,g2,g3,g4⟩:=R1.owns i xs j ho;refine⟨_,g1,.inl ⟨rfl,us,bB.of g3⟩,?_⟩;refine(bS n).e X ct Hi _ a r C hr O1 σ H _ R1 fun u H' s ok=> ?_;have kp:=ok.keep R1 s hk;have hlen:=g4.len;refine⟨l,us,u,rfl,rfl,s _ _ g3,by rw[dv,<-hlen];exact hz,?_⟩;exact sK (R1.ext s) hl ho g1 (GH (g4.mono (aJ s)) (.cons kp .nil)) (pq.from q (s1.trans (aJ s)))
theorem DZ(C:bG cd X ct){n:Nat}{x m:Str}{i:Nat}{a b:Expr}{xp ap cp pos:Pos}{rx r:RV}{v:PV}{jj:Int}{k j:Bool}{xs:List PV}(hx:loc ct x=some i)(hm:m="insert")(hline:(ap.endLine==cp.line)=true)(hs:isStar a=false)(hs2:isStar b=false)
  (hrx:aV cd (ah n ct a) τ=some rx) (hjx:rx.val=.int jj) (hr:aV cd (ah n ct b) τ=some r) (hk:r.keep=some (v,k)) (ho:τ[i]? =some (.own xs j)) (hz:0<=jj/\jj<=xs.length/\xs.length<LN) :
  jH X Hi τ (.Expr (.Call (.Attribute (.Name x xp) m ap) [a,b] [] cp) pos) (.nx (τ.set i (.own (xs.take jj.toNat++v::xs.drop jj.toNat) (j&&k)))):=by
 intro O σ H D R hl q;subst hm;obtain⟨h1,h2,h3,h4⟩:=dc C hx;obtain⟨o1,o2,o3⟩:=be h3;refine ws (ef (si J5 PySem.F.slot_list_insert PySem.F.type_list_insert ub (je h1 (lw C.S h4) o1 o2) (aH aY (aH aY aX (aP hs2)) (aP hs)) rfl (by rw[aP hs,aP hs2];rfl) hline (aP hs) (eo fun c hc=>by simp at hc;subst hc;exact hs2)) rfl) ?_;obtain⟨l,us,g1,g2,g3,g4⟩:=R.owns i xs j ho;refine⟨_,g1,.inl ⟨rfl,us,bB.of g3⟩,?_⟩;refine(bS n).e X ct Hi _ a rx C hrx O σ H _ R fun w H1 s1 ok1=>(bS n).e X ct Hi _ b r C hr O σ H1 _ (R.ext s1) fun u H' s ok=> ?_;have kp:=ok.keep (R.ext s1) s hk;have hlen:=g4.len;have ew:=ok1.int R s1 hjx;subst ew;refine⟨l,us,jj,u,rfl,rfl,s _ _ (s1 _ _ g3),hz.1,by rw[<- hlen];exact hz.2.1,by rw[dv,<-hlen];exact hz.2.2,?_⟩;have st:=s1.trans s;have g5:=g4.mono (aJ (O:=O) st);exact sK (R.ext st) hl ho g1 (GH (g5.take _) (aG.low (n:=j&&k) (.cons (kp.low fun z=>by rw[Hb]at z;exact z.2) ((g5.drop _).low fun z=>by rw[Hb]at z;exact z.1)) id) |>.low fun z=>by simpa using z) (pq.from q (aJ st))
theorem B4(C:bG cd X ct)(hfn:X.fn=fun _=>true){n:Nat}{es:List Expr}{is:List Nat}{kk:Nat}{cap:List Nat}{e:Expr}{tp pos:Pos}{r:RV}{v:PV}{m:Bool}{τ' :En}(ht:locs ct es=some is)(hnt:xh e=false)
  (hr:aV cd (ah n ct e) (bA cap τ)=some r) (hk:r.keep=some (v,m)) (hs:wM is m v (bA cap τ)=some τ'):jH X Hi τ (.Assign [.Tuple es kk tp] e pos) (.nx τ'):=by
 intro O σ H D R hl q;cases v with
 | lst xs =>
  obtain⟨O1,R1,s1⟩:=iQ (cap:=cap) R;obtain⟨t,pt,hlen,hf,kk⟩:=mU (Hi:=Hi) C hfn ht;refine ws (qX aY (Co C.calm pt hlen hf) (by cases e<;>rfl) (by cases e<;>first|rfl|cases hnt) rfl) ?_;refine(bS n).e X ct Hi _ e r C hr O1 σ H _ R1 fun u H' s ok=> ?_;obtain⟨a,us,rfl,_,l,r2⟩:=Rp.lst.mp (ok.keep R1 s hk);have e:bc m is xs (bA cap τ)=some τ' :=hs;have hz:∀{is:List Nat}{xs:List PV}{τ τ' :En},bc m is xs τ=some τ' ->xs.length=is.length:=by
   intro is
   induction is with
   | nil=>intro xs τ τ' e;cases xs with
    | nil=>rfl
    | cons _ _=>cases e
   | cons i is ih=>intro xs τ τ' e;cases xs with
    | nil=>cases e
    | cons x xs=>rw[IL,IL,ih (show bc m is xs _=some τ' from e)]
  exact⟨a,us,rfl,(aR (O:=O1)).seq l,by rw[<- r2.len];exact hz e,kk O1 _ τ' σ H' m xs us _ (R1.ext s) hl (r2.mono bC) e fun σ' R' hl' =>q σ' H' O1 R' hl' (s1.trans (aJ s))⟩
 | non=>cases hs
 | bl _=>cases hs
 | int _=>cases hs
 | str _=>cases hs
 | dK _ _=>cases hs
 | dT _ _=>cases hs
 | tup xs =>
 have hs:kP is false m (.tup xs) (bA cap τ)=some τ' :=hs;obtain⟨O1,R1,s1⟩:=iQ (cap:=cap) R;have ht' :uC ct (.Tuple es kk tp)=some (is,false):=by
  show(locs ct es).map (fun is=>(is,false))=_;rw[ht];rfl
 obtain⟨_,g,pg,kg⟩:=BX (Hi:=Hi) C hfn ht';refine ws (qX aY pg (by cases e<;>rfl) (by cases e<;>first|rfl|cases hnt) rfl) ?_;refine(bS n).e X ct Hi _ e r C hr O1 σ H _ R1 fun u H' s ok=> ?_;exact kg O1 _ τ' σ H' m (.tup xs) u _ (R1.ext s) hl (ok.keep R1 s hk) hs fun σ' R' hl' =>q σ' H' O1 R' hl' (s1.trans (aJ s))
theorem yY(C:bG cd X ct)(hfn:X.fn=fun _=>true){n:Nat}{x:Str}{i:Nat}{op:Operator}{e:Expr}{xp pos:Pos}{r:RV}{v w:Int}{k:Bool}{g:Int->Int->Int}(hx:loc ct x=some i)(hop:PIp X op (ipI g))(hr:aV cd (ah n ct e) τ=some r)(hv:τ[i]? =some (.frz (.int v) k))(hw:r.val=.int w) :
  jH X Hi τ (.AugAssign (.Name x xp) op e pos) (.nx (τ.set i (.frz (.int (g v w)) true))):=by
 intro O σ H D R hl q;obtain⟨h1,h2,h3,h4⟩:=dc C hx;have hi:i<σ.length:=by rw[hl];exact(Hh.mp h1).1
 have hN:X.N.Nodup:=by rw[C.N];exact C.nd
 obtain⟨u,hu,ru⟩:=R.frz i _ _ hv;cases Rp.int.mp ru;refine ws (Ch hN h1 h2 aY hop (.inl (by rw[hfn]))) ⟨_,hu,?_⟩;refine(bS n).e X ct Hi _ e r C hr O σ H _ R fun u' H' s ok=>⟨v,w,rfl,ok.int R s hw,?_⟩;exact q _ _ O ((R.ext s).setF hi (Rp.int.mpr rfl)) (by rw[Iq];exact hl) (aJ s)
theorem aZ.setN{K:W.Frag}{O:List Addr}{σ:L2.St}{H:Hp}(R:aZ K Hi O τ σ H){i:Nat}{u:V}:aZ K Hi O (τ.set i .un) (σ.set i (some u)) H where
 same:=R.same
 own:=R.own
 frz:=fun j w m e=>by
  rcases ai e with⟨rfl,e'⟩|⟨ne,e'⟩
  ·cases e'
  ·obtain⟨u',h1,h2⟩:=R.frz j w m e'
   exact⟨u',by rw[II ne];exact h1,h2⟩
 obs:=fun j t b xs m e ht=>by
  rcases ai e with⟨rfl,e'⟩|⟨ne,e'⟩
  ·subst e'
   cases ht
  ·obtain⟨l,us,o,h1,h2⟩:=R.obs j t b xs m e' ht
   exact⟨l,us,o,by rw[II ne];exact h1,h2⟩
 dst:=fun j k t t' x y l e1 ht e2 ht' h1 h2=>by
  rcases ai e1 with⟨rfl,e'⟩|⟨ne,e'⟩
  ·subst e'
   cases ht
  ·rcases ai e2 with⟨rfl,e''⟩|⟨ne2,e''⟩
   ·subst e''
    cases ht'
   ·rw[II ne]at h1
    rw[II ne2]at h2;exact R.dst j k t t' x y l e' ht e'' ht' h1 h2
end
section
variable{cd:Nat->List PV->Option PV}{fu:Nat}
structure HW(cd:Nat->List PV->Option PV)(fu:Nat)(n:Nat):Prop where
 s:∀(X:Cx)(ct:Ct)(Hi:Hp)(τ:En)(st:Stmt)(fl:Fl),bG cd X ct->(X.fn=fun _=>true)->eN cd fu (oA n ct st) τ=some fl->jH X Hi τ st fl
 ss:∀(X:Cx)(ct:Ct)(Hi:Hp)(τ:En)(st:List Stmt)(fl:Fl),bG cd X ct->(X.fn=fun _=>true)->bP cd fu (bM n ct st) τ=some fl->vL X Hi τ st fl
theorem aq{τ:En}{r:Fl}(h:eN cd fu .never τ=some r){P:Prop}:P:=by simp[fX,fK,fM,fL,fQ,fS,fJ,fN,fV,fU,fY,fP,fT,fW,fR,fO]at h
theorem stE{n:Nat}(IH:HW cd fu n){X:Cx}{ct:Ct}{Hi:Hp}{τ:En}{st:Stmt}{fl:Fl}(C:bG cd X ct)(hfn:X.fn=fun _=>true)(h:eN cd fu (oA (n+1) ct st) τ=some fl):jH X Hi τ st fl:=by
 cases st with
 | Return v pos =>
  simp only[vc,vT,vb,vV,vW,vS,vU,vZ,vY,vX,va]at h;cases v with
  | none =>
   simp only[fX,fK,fM,fL,fQ,fS,fJ,fN,fV,fU,fY,fP,fT,fW,fR,fO]at h;cases h;exact zW
  | some e =>
   simp only[fX,fK,fM,fL,fQ,fS,fJ,fN,fV,fU,fY,fP,fT,fW,fR,fO]at h;obtain⟨r,hr,h⟩:=bind_some h;obtain⟨w,hk,h⟩:=bind_some h;obtain⟨v,m⟩:=w;dsimp only at h
   split at h
   ·rename_i hm
    cases h;subst hm;exact CW C hr hk
   ·cases h
 | Assign ts e pos =>
  simp only[vc,vT,vb,vV,vW,vS,vU,vZ,vY,vX,va]at h
  split at h
  ·rename_i x xp
   cases hx:loc ct x with
   | none=>rw[hx]at h;exact aq h
   | some i =>
    rw[hx]at h;dsimp only at h;simp only[fX,fK,fM,fL,fQ,fS,fJ,fN,fV,fU,fY,fP,fT,fW,fR,fO]at h;obtain⟨r,hr,h⟩:=bind_some h;obtain⟨τ',hp',h⟩:=map_some h;subst h;exact EW C hfn hx hr hp'
  ·rename_i es kk tp
   cases hx:locs ct es with
   | none=>rw[hx]at h;exact aq h
   | some is =>
    rw[hx]at h;dsimp only at h
    split at h
    ·exact aq h
    ·rename_i ht
     simp only[fX,fK,fM,fL,fQ,fS,fJ,fN,fV,fU,fY,fP,fT,fW,fR,fO]at h;obtain⟨r,hr,h⟩:=bind_some h;obtain⟨w,hk,h⟩:=bind_some h;obtain⟨v,m⟩:=w;obtain⟨τ',hs,h⟩:=map_some h;subst h;exact B4 C hfn hx (JQ.mpr ht) hr hk hs
  ·exact aq h
 | If c a b pos =>
  simp only[vc,vT,vb,vV,vW,vS,vU,vZ,vY,vX,va,fX,fK,fM,fL,fQ,fS,fJ,fN,fV,fU,fY,fP,fT,fW,fR,fO]at h;obtain⟨t,ht,h⟩:=bind_some h;refine Dc ((bS n).c X ct Hi τ c t C ht) ?_;cases t with
  | true=>exact IH.ss X ct Hi τ a fl C hfn h
  | false=>exact IH.ss X ct Hi τ b fl C hfn h
 | For tg it body els pos =>
  simp only[vc,vT,vb,vV,vW,vS,vU,vZ,vY,vX,va]at h;cases els with
  | cons _ _=>exact aq h
  | nil =>
   dsimp only at h;cases ht:uC ct tg with
   | none=>rw[ht]at h;exact aq h
   | some w =>
    obtain⟨is,one⟩:=w;rw[ht]at h;simp only[fX,fK,fM,fL,fQ,fS,fJ,fN,fV,fU,fY,fP,fT,fW,fR,fO]at h;obtain⟨w,hw,h⟩:=bind_some h;obtain⟨xs,k,b⟩:=w;dsimp only at h;cases b with
    | true=>cases h
    | false=>exact Dm C hfn ht hw (fun τ fl h=>IH.ss X ct Hi τ body fl C hfn h) h
 | While c body els pos =>
  simp only[vc,vT,vb,vV,vW,vS,vU,vZ,vY,vX,va]at h;cases els with
  | cons _ _=>exact aq h
  | nil =>
   simp only[fX,fK,fM,fL,fQ,fS,fJ,fN,fV,fU,fY,fP,fT,fW,fR,fO]at h;exact vm C (fun τ b h=>(bS n).c X ct Hi τ c b C h) (fun τ fl h=>IH.ss X ct Hi τ body fl C hfn h) h
 | Pass pos =>
  simp only[vc,vT,vb,vV,vW,vS,vU,vZ,vY,vX,va,fX,fK,fM,fL,fQ,fS,fJ,fN,fV,fU,fY,fP,fT,fW,fR,fO]at h;cases h;exact fun O σ H D R hl q=>ws zm (q σ H O R hl (aC.refl _))
 | Break pos =>
  simp only[vc,vT,vb,vV,vW,vS,vU,vZ,vY,vX,va,fX,fK,fM,fL,fQ,fS,fJ,fN,fV,fU,fY,fP,fT,fW,fR,fO]at h;cases h;exact fun O σ H D R hl q=>ws wg (q σ H O R hl (aC.refl _))
 | Continue pos =>
  simp only[vc,vT,vb,vV,vW,vS,vU,vZ,vY,vX,va,fX,fK,fM,fL,fQ,fS,fJ,fN,fV,fU,fY,fP,fT,fW,fR,fO]at h;cases h;exact fun O σ H D R hl q=>ws oP (q σ H O R hl (aC.refl _))
 | Expr e pos =>
  simp only[vc,vT,vb,vV,vW,vS,vU,vZ,vY,vX,va]at h
  split at h
  ·rename_i x xp m ap es cp
   split at h
   ·rename_i hline
    cases hx:loc ct x with
    | none=>rw[hx]at h;exact aq h
    | some i =>
     rw[hx]at h;dsimp only at h
     split at h
     ·rename_i a
      split at h
      ·exact aq h
      ·rename_i hs
       split at h
       ·rename_i hm
        simp only[fX,fK,fM,fL,fQ,fS,fJ,fN,fV,fU,fY,fP,fT,fW,fR,fO]at h;obtain⟨r,hr,h⟩:=bind_some h;obtain⟨w,hk,h⟩:=bind_some h;obtain⟨v,k⟩:=w
        split at h
        ·rename_i xs j ho
         split at h
         ·rename_i hz
          cases h;exact EX C hx (IF hm) hline (JQ.mpr hs) hr hk ho hz
         ·cases h
        ·cases h
       ·exact aq h
     ·rename_i a b
      split at h
      ·exact aq h
      ·rename_i hs
       simp only[JS,KW,Bool.not_eq_true]at hs
       split at h
       ·rename_i hm
        simp only[fX,fK,fM,fL,fQ,fS,fJ,fN,fV,fU,fY,fP,fT,fW,fR,fO]at h;obtain⟨rx,hrx,h⟩:=bind_some h;obtain⟨r,hr,h⟩:=bind_some h;obtain⟨w,hk,h⟩:=bind_some h;obtain⟨v,k⟩:=w
        split at h
        ·rename_i jj xs j hj ho
         split at h
         ·rename_i hz
          cases h;exact DZ C hx (IF hm) hline hs.1 hs.2 hrx hj hr hk ho hz
         ·cases h
        ·cases h
       ·exact aq h
     ·exact aq h
   ·exact aq h
  ·exact aq h
 | AugAssign t op e pos =>
  simp only[vc,vT,vb,vV,vW,vS,vU,vZ,vY,vX,va]at h
  split at h
  ·rename_i x xp
   cases hx:loc ct x with
   | none=>rw[hx]at h;exact aq h
   | some i =>
    rw[hx]at h;simp only[fX,fK,fM,fL,fQ,fS,fJ,fN,fV,fU,fY,fP,fT,fW,fR,fO]at h;obtain⟨r,hr,h⟩:=bind_some h
    split at h
    ·rename_i hv hw
     cases h;exact yY C hfn hx DX hr (by assumption) (by assumption)
    ·rename_i hv hw
     cases h;exact yY C hfn hx DW hr (by assumption) (by assumption)
    ·cases h
  ·exact aq h
 | _=>(try simp only[vc,vT,vb,vV,vW,vS,vU,vZ,vY,vX,va]at h);exact aq h
theorem BK:∀n:Nat,HW cd fu n
 | 0=>by
  refine⟨fun X ct Hi τ st fl C hfn h=> ?_,fun X ct Hi τ st fl C hfn h=> ?_⟩
  ·simp[vc,vT,vb,vV,vW,vS,vU,vZ,vY,vX,va,fX,fK,fM,fL,fQ,fS,fJ,fN,fV,fU,fY,fP,fT,fW,fR,fO]at h
  ·simp[z2g,z2i,z2h,tq,tu,fX,fK,fM,fL,fQ,fS,fJ,fN,fV,fU,fY,fP,fT,fW,fR,fO]at h
 | n+1=>by
  have IH:=BK n;refine⟨fun X ct Hi τ st fl C hfn h=>stE IH C hfn h,fun X ct Hi τ st fl C hfn h=> ?_⟩;cases st with
  | nil =>
   simp only[z2g,z2i,z2h,tq,tu]at h;cases h;exact fun O σ H D R hl q=>sC ee (q σ H O R hl (aC.refl _))
  | cons st ss =>
   simp only[z2g,z2i,z2h]at h;simp only[tq,tu]at h;obtain⟨f,hf,h⟩:=bind_some h;have h1:=IH.s X ct Hi τ st f C hfn hf;intro O σ H D R hl q;refine sC (aa i9 cO) ?_;refine h1 O σ H _ R hl ?_;cases f with
   | nx τ1=>exact fun σ1 H1 O1 R1 hl1 s1=>IH.ss X ct Hi τ1 ss fl C hfn h O1 σ1 H1 D R1 hl1 (q.from s1)
   | bk τ1 =>
    have h:some (Fl.bk τ1)=some fl:=h;cases h;exact q
   | ct τ1 =>
    have h:some (Fl.ct τ1)=some fl:=h;cases h;exact q
   | rt v =>
    have h:some (Fl.rt v)=some fl:=h;cases h;exact q
end
structure pi(K:W.Frag)(mg:Str->Option Value)(P:Nat->Option FD)(F:List (Str×Nat))(G:List (Str×PV))(B:List Str)(x:Str)(f:Nat)(a:Addr)(fd:FuncData)(ps:List Str):Prop where
 ex:(mg x=some (.ref a)/\W.keepIn K (.ref a)=true/\Binds K fd ps []/\∀(p:Program)(w:World)(base:Heap)(k:Nat),(∀j,j<=k->∀y g,F.lookup y=some g->∃b gd qs,mg y=some (.ref b)/\W.keepIn K (.ref b)=true/\Binds K gd qs []/\bN p w K mg base iA j b gd qs (qL K (aE P j g)))->bN p w K mg base iA (k+1) a fd ps (qL K (aE P (k+1) f)))\/∃st N M n body,BR K mg x st ps a fd/\aW N ps (aA st)/\P f=some ⟨N.length,ps.length,body⟩/\bM n ⟨N,(aA st).names,F,G,B,M⟩ (aF st)=body
theorem pi.def{K:W.Frag}{mg:Str->Option Value}{P:Nat->Option FD}{F:List (Str×Nat)}{G:List (Str×PV)}{B:List Str}{x:Str}{f:Nat}{a:Addr}{fd:FuncData}{ps:List Str}(d:pi K mg P F G B x f a fd ps):mg x=some (.ref a)/\W.keepIn K (.ref a)=true/\Binds K fd ps []:=by
 rcases d.ex with⟨h1,h2,h3,_⟩|⟨st,N,M,n,body,D,_⟩
 ·exact⟨h1,h2,h3⟩
 ·exact⟨D.nm,D.fn.kp,D.bd⟩
theorem lP{K:W.Frag}{H:Hp}{d:FD}{N:List Str}{pvs:List PV}{vs:List V}(hn:d.nn=N.length)(r:aG K H false pvs H vs):aZ K H [] (entry d pvs) (start N vs) H:=by
 have hl:=r.len;have jG:∀(i:Nat)(t:TV),(entry d pvs)[i]? =some t->t=.un\/∃v u,t=.frz v (imm v)/\(start N vs)[i]? =some (some u)/\Rp K H false v H u:=fun i t e=>by
  unfold entry at e
  by_cases hi:i<pvs.length
  ·rw[JB (by simpa using hi),Ho]at e
   have hv:pvs[i]? =some pvs[i]:=by simp
   rw[hv]at e;cases e;obtain⟨u,hu,ru⟩:=r.at hv;refine .inr ⟨_,u,rfl,?_,ru⟩;unfold L2.start;rw[JB (by rw[HX];omega),Ho,hu];rfl
  ·rw[Jw (by simpa using hi),List.getElem?_replicate]at e
   split at e
   ·cases e
    exact .inl rfl
   ·cases e
 refine⟨aC.refl _,fun l hl=>(by cases hl),fun i v n e=> ?_,fun i t b xs n e ht=> ?_,fun i j t t' x y l e1 ht e2 ht' h1 h2=> ?_⟩
 ·rcases jG i _ e with z|⟨v',u,z,h1,h2⟩
  ·cases z
  ·cases z
   refine⟨u,h1,?_⟩;rw[tH];cases him:imm v with
   | true=>exact Rp.imm him ⟨fun _ _ e=>e,fun _ _ _ e=>e⟩ h2
   | false=>exact h2
 ·rcases jG i _ e with z|⟨v',u,z,h1,h2⟩<;>(subst z;cases ht)
 ·rcases jG i _ e1 with z|⟨v',u,z,h1,h2⟩<;>(subst z;cases ht)
theorem Do{p:Program}{w:World}{K:W.Frag}{mg:Str->Option Value}{base:Heap}{P:Nat->Option FD}{F:List (Str×Nat)}{G:List (Str×PV)}{B:List Str}
  (hG:∀x v,G.lookup x=some v->∃u w,mg x=some u/\RelV w u/\∀Hi n H,Rp K Hi n v H w) (hB:∀x,B.contains x=true->mg x=none) (hF:∀x f,F.lookup x=some f->∃a fd ps,pi K mg P F G B x f a fd ps) :
  ∀(k:Nat)(x:Str)(f:Nat)(a:Addr)(fd:FuncData)(ps:List Str),pi K mg P F G B x f a fd ps->bN p w K mg base iA k a fd ps (qL K (aE P k f)):=by
 have S:∀k j:Nat,j<=k->∀(x:Str)(f:Nat)(a:Addr)(fd:FuncData)(ps:List Str),pi K mg P F G B x f a fd ps->bN p w K mg base iA j a fd ps (qL K (aE P j f)):=by
  intro k
  induction k with
  | zero =>
   intro j hj;have e:=Nat.le_zero.mp hj;subst e;intro x f a fd ps _;exact⟨fun vs H Q E h=>(by obtain⟨_,_,_,z,_⟩:=h;cases z),fun A outer s H args us vs Q E _ _ _ _ h=>(by obtain⟨_,_,_,z,_⟩:=h;cases z)⟩
  | succ k ih =>
  intro j hj
  by_cases hjk:j<=k
  ·exact ih j hjk
  have e:j=k+1:=by omega
  subst e;intro x f a fd ps d
  rcases d.ex with⟨_,_,_,hand⟩|⟨st,N,M,n,body,D,S,hP,hbody⟩
  ·exact hand p w base k fun j hj y g hy=>by
    obtain⟨b,gd,qs,dy⟩:=hF y g hy;obtain⟨z1,z2,z3⟩:=dy.def;exact⟨b,gd,qs,z1,z2,z3,ih j hj y g b gd qs dy⟩
  have run:∀{pvs:List PV}{r:PV},aE P (k+1) f pvs=some r->pvs.length=ps.length/\df (bP (aE P k) 1000000 body (entry ⟨N.length,ps.length,body⟩ pvs))=some r:=fun{pvs r} h=>by
   unfold aE at h;rw[hP]at h;dsimp only[Option.bind]at h
   split at h
   ·rename_i hl
    exact⟨hl,h⟩
   ·cases h
  refine D.fn.ok S (fun vs H Q E h=> ?_) (fun cdv A outer s H vs Q E hr h=> ?_)
  ·obtain⟨pvs,r,h1,h2,_⟩:=h
   rw[<- h1.len];exact(run h2).1
  ·obtain⟨pvs,r,h1,h2,q⟩:=h
   obtain⟨hl,h2⟩:=run h2;have hps:ps.length<=N.length:=by have:=Ix List.length S.pre;rw[JX]at this;omega
   cases he:bP (aE P k) 1000000 body (entry ⟨N.length,ps.length,body⟩ pvs)with
   | none=>rw[he]at h2;cases h2
   | some fl =>
    rw[he]at h2
    have C:bG (aE P k) (nB iA p w K mg base N x (aA st) a cdv A outer s H E).nox ⟨N,(aA st).names,F,G,B,M⟩ :=
     ⟨rfl,S.nd,rfl,S.kind,rfl,hG,hB,fun y g hy=>by
      obtain⟨a',fd',ps',d'⟩:=hF y g hy;obtain⟨z1,z2,z3⟩:=d'.def;exact⟨k,a',fd',ps',ih k (Hg k) y g a' fd' ps' d',hr,z1,z2,z3⟩,JW,hr.units⟩
    rw[<- hbody]at he;have h3:=(BK n).ss _ _ H _ (aF st) fl C rfl he;refine⟨_,cO,h3 [] (start N vs) H _ (lP rfl h1) ?_ ?_⟩
    ·show(start N vs).length=N.length
     unfold L2.start;rw[IA,HX,Jb];have:=h1.len;omega
    ·cases fl with
     | nx τ' =>
      cases h2;exact fun σ' H' O' R' _ _=>q _ _ R'.same (Rp.non.mpr rfl)
     | rt v =>
      cases h2;exact q
     | bk τ' =>cases h2
     | ct τ' =>cases h2
 exact fun k=>S k k (Hg k)
theorem DK{p:Program}{w:World}{K:W.Frag}{mg:Str->Option Value}{base:Heap}{P:Nat->Option FD}{k f:Nat}{a:Addr}{fd:FuncData}{ps:List Str}(F:bN p w K mg base iA k a fd ps (qL K (aE P k f)))
  (h:∀ns:List Int,ns.length<=63->aE P k f [.lst (ns.map PV.int)]=some (.bl true)):bN p w K mg base iA k a fd ps (sV K) :=
 F.imp fun vs H Q E z=>by
  obtain⟨l,ns,rfl,hS,h63,q⟩:=z;refine⟨[.lst (ns.map PV.int)],.bl true,.cons (Rp.lst.mpr ⟨l,_,rfl,(fun z=>by cases z),hS,aG.ints.mpr rfl⟩) .nil,h ns h63,fun u H' s r=> ?_⟩;rw[Rp.bl.mp r];exact q H'
theorem tz{P:Nat->Option FD}{f n m:Nat}(h:P f=some ⟨n,m,.cons .never .nil⟩):∀(k:Nat)(vs:List PV),aE P k f vs=none
 | 0,_=>rfl
 | k+1,vs=>by
  unfold aE;rw[h,Hw]
  split
  ·simp[tq,tu,fX,fK,fM,fL,fQ,fS,fJ,fN,fV,fU,fY,fP,fT,fW,fR,fO,df]
  ·rfl
theorem yz{K:W.Frag}{mg:Str->Option Value}{P:Nat->Option FD}{f:Nat}{a:Addr}{fd:FuncData}{ps:List Str}{A:Program->World->Heap->Nat->Prop}(h:∀(k:Nat) (vs:List PV),aE P k f vs=none)(p:Program)(w:World)(base:Heap)(k:Nat)(_:A p w base k):bN p w K mg base iA (k+1) a fd ps (qL K (aE P (k+1) f)) :=
 ⟨fun vs H Q E z=>(by obtain⟨_,_,_,z,_⟩:=z;rw[h]at z;cases z),fun A outer s H args us vs Q E _ _ _ _ z=>(by obtain⟨_,_,_,z,_⟩:=z;rw[h]at z;cases z)⟩
section
variable{K:W.Frag}{mg:Str->Option Value}{P:Nat->Option FD}{F0:List (Str×Nat)}{G0:List (Str×PV)}{B0:List Str}
theorem fnil:∀(x:Str)(f:Nat),([]:List (Str×Nat)).lookup x=some f->∃a fd ps,pi K mg P F0 G0 B0 x f a fd ps:=fun x f h=>by cases h
theorem bK{x0:Str}{f0:Nat}{r:List (Str×Nat)}(h:∃a fd ps,pi K mg P F0 G0 B0 x0 f0 a fd ps)(hr:∀(x:Str) (f:Nat),r.lookup x=some f->∃a fd ps,pi K mg P F0 G0 B0 x f a fd ps) :
  ∀(x:Str)(f:Nat),((x0,f0)::r).lookup x=some f->∃a fd ps,pi K mg P F0 G0 B0 x f a fd ps:=fun x f e=>by
 rw[Il]at e
 split at e
 ·rename_i c
  cases e;rw[IF c];exact h
 ·exact hr x f e
theorem gnil:∀(x:Str)(v:PV),([]:List (Str×PV)).lookup x=some v->∃u w,mg x=some u/\RelV w u/\∀Hi n H,Rp K Hi n v H w:=fun x f h=>by cases h
theorem GP{x0:Str}{v0:PV}{r:List (Str×PV)}(h:∃u w,mg x0=some u/\RelV w u/\∀Hi n H,Rp K Hi n v0 H w)(hr:∀(x:Str) (v:PV),r.lookup x=some v->∃u w,mg x=some u/\RelV w u/\∀Hi n H,Rp K Hi n v H w) :
  ∀(x:Str)(v:PV),((x0,v0)::r).lookup x=some v->∃u w,mg x=some u/\RelV w u/\∀Hi n H,Rp K Hi n v H w:=fun x f e=>by
 rw[Il]at e
 split at e
 ·rename_i c
  cases e;rw[IF c];exact h
 ·exact hr x f e
theorem bnil:∀(x:Str),([]:List Str).contains x=true->mg x=none:=fun x h=>by simp at h
theorem cP{x0:Str}{r:List Str}(h:mg x0=none)(hr:∀(x:Str),r.contains x=true->mg x=none):∀(x:Str),(x0::r).contains x=true->mg x=none:=fun x e=>by
 rw[J3,JS]at e
 rcases e with e|e
 ·rw[IF e]
  exact h
 ·exact hr x e
end
theorem kR{α:Type}{us:List α}(h:us.length=1):∃a,us=[a]:=by
 cases us with
 | nil=>cases h
 | cons a us=>cases us with
  | nil=>exact⟨a,rfl⟩
  | cons b us=>cases h
theorem gl{α:Type}{us:List α}(h:us.length=2):∃a b,us=[a,b]:=by
 cases us with
 | nil=>cases h
 | cons a us=>obtain⟨b,rfl⟩:=kR (Nat.succ.inj h);exact⟨a,b,rfl⟩
theorem GJ{α:Type}{us:List α}(h:us.length=3):∃a b c,us=[a,b,c]:=by
 cases us with
 | nil=>cases h
 | cons a us=>obtain⟨b,c,rfl⟩:=gl (Nat.succ.inj h);exact⟨a,b,c,rfl⟩
theorem len4{α:Type}{us:List α}(h:us.length=4):∃a b c d,us=[a,b,c,d]:=by
 cases us with
 | nil=>cases h
 | cons a us=>obtain⟨b,c,d,rfl⟩:=GJ (Nat.succ.inj h);exact⟨a,b,c,d,rfl⟩
theorem pB{set:PV->En->Option En}{body:En->Option Fl}(I:Nat->En->Prop)(R:Fl->Prop):∀(xs ys:List PV)(τ:En),I xs.length τ ->
  (∀(i:Nat)(x:PV)(τ:En),(xs++ys)[i]? =some x->xs.length<=i->I i τ->∃τ1 f,set x τ=some τ1/\body τ1=some f/\(match f with| .nx τ2=>I (i+1) τ2| .ct τ2=>I (i+1) τ2| .bk τ2=>R (.nx τ2)| .rt v=>R (.rt v))) ->
  (∀τ,I (xs++ys).length τ->R (.nx τ))->∃fl,jx set body ys τ=some fl/\R fl
 | xs,[],τ,h0,hs,he=>⟨.nx τ,rfl,he τ (by rw[JR];exact h0)⟩
 | xs,y::ys,τ,h0,hs,he=>by
  obtain⟨τ1,f,h1,h2,h3⟩:=hs xs.length y τ (by simp) (Hg _) h0;have e:xs++y::ys=(xs++[y])++ys:=by simp
  have ih:=fun τ2 (h:I (xs.length+1) τ2)=>pB (set:=set) (body:=body) I R (xs++[y]) ys τ2 (by rw[IA];exact h) (fun i x τ hx hi=>hs i x τ (by rw[e];exact hx) (by rw[IA]at hi;omega)) (by rw[<- e];exact he);unfold jx;rw[h1];dsimp only[Option.bind];rw[h2];cases f with
  | nx τ2=>exact ih τ2 h3
  | ct τ2=>exact ih τ2 h3
  | bk τ2=>exact⟨_,rfl,h3⟩
  | rt v=>exact⟨_,rfl,h3⟩
theorem Ai{set:PV->En->Option En}{body:En->Option Fl}{xs:List PV}{τ:En}(I:Nat->En->Prop)(R:Fl->Prop)(h0:I 0 τ)
  (hs:∀(i:Nat)(x:PV)(τ:En),xs[i]? =some x->I i τ->∃τ1 f,set x τ=some τ1/\body τ1=some f/\(match f with| .nx τ2=>I (i+1) τ2| .ct τ2=>I (i+1) τ2| .bk τ2=>R (.nx τ2)| .rt v=>R (.rt v)))
  (he:∀τ,I xs.length τ->R (.nx τ)):∃fl,jx set body xs τ=some fl/\R fl :=
 pB I R [] xs τ h0 (fun i x τ hx _ hI=>hs i x τ hx hI) he
theorem iT{f:PV->Option (Option (PV×Bool))}{g:PV->PV}{n:Bool}:∀{xs:List PV},(∀x∈xs,f x=some (some (g x,true)))->bL f xs=some (xs.map g,true)
 | [],_=>rfl
 | x::xs,h=>by
  unfold bL;rw[h x He,iT (n:=n) fun y hy=>h y (HZ _ hy)];rfl
section
variable{v:PV}{n m:Bool}{xs ys:List PV}{i j:Int}{z y:Str}{a b:RV}{τ:En}{t:TV}{k:Nat}
theorem bE:(RV.frz v n).val=v:=rfl
theorem zC:(RV.bor v).val=v:=rfl
theorem zB:(RV.own xs n).val=.lst xs:=rfl
theorem xc:(RV.frz v n).keep=some (v,n):=rfl
theorem xa:(RV.own xs n).keep=some (.lst xs,n):=rfl
theorem AY{ks:List ag}:(RV.owd (.dK ks) xs n).keep=some (.dK ks xs,n):=rfl
theorem AT:gk (.lst xs)=some xs.length:=rfl
theorem AS:gk (.tup xs)=some xs.length:=rfl
theorem len_str:gk (.str z)=if z.length<=LN then some z.length else none:=rfl
theorem Am:df (some (.rt v))=some v:=rfl
theorem ju:mj (.frz v n::τ) 0=some (.frz v n):=rfl
theorem Dl:mj (.own xs n::τ) 0=some (.bor (.lst xs)):=rfl
theorem jv:mj (t::τ) (k+1)=mj τ k:=rfl
theorem gv:bA [] τ=τ:=rfl
theorem lL{c:List Nat}:bA (k::c) τ=bA c (mn τ k):=rfl
theorem Ah:mn (.own xs n::τ) 0=.frz (.lst xs) n::τ:=rfl
theorem tO:mn (.frz v n::τ) 0=.frz v n::τ:=rfl
theorem xr:mn (t::τ) (k+1)=t::mn τ k:=by
 unfold mn;rw[JE];cases τ[k]? with
 | none=>rfl
 | some t=>cases t<;>rfl
theorem BB:fm .Add (.frz (.int i) n) (.frz (.int j) m)=some (sc (.int (i+j))):=rfl
theorem A6:fm .Sub (.frz (.int i) n) (.frz (.int j) m)=some (sc (.int (i-j))):=rfl
theorem A8:fm .Mult (.frz (.int i) n) (.frz (.int j) m)=if(-(2^64)<i/\i<2^64)\/(-(2^64)<j/\j<2^64)then some (sc (.int (i*j)))else if i.natAbs<2^2000/\j.natAbs<2^2000 then some (sc (.int (i*j)))else none:=rfl
theorem tY:fm .FloorDiv (.frz (.int i) n) (.frz (.int j) m)=if 0<j/\j<2^200 then some (sc (.int (i/j)))else none:=rfl
theorem A9:fm .Mod (.frz (.int i) n) (.frz (.int j) m)=if 0<j then some (sc (.int (i%j)))else none:=rfl
theorem A7:fm .LShift (.frz (.int i) n) (.frz (.int j) m)=if 0<=j/\j<=1000000/\i.natAbs<2^64 then some (sc (.int (i*2^j.toNat)))else none:=rfl
theorem BA:fm .Add (.frz (.str z) n) (.frz (.str y) m)=if z.length+y.length<=LN then some (sc (.str (z++y)))else none:=rfl
theorem ED:bX .Lt (.int i) (.int j)=some (decide (i<j)):=rfl
theorem EE:bX .Gt (.int i) (.int j)=some (decide (j<i)):=rfl
theorem EF:bX .GtE (.int i) (.int j)=some (decide (j<=i)):=rfl
theorem Ay:bX .Eq (.int i) (.int j)=some (decide (i=j)):=rfl
theorem Aw:bX .Eq (.str z) (.str y)=some (decide (z=y)):=rfl
theorem Av:bX .NotEq (.int i) (.int j)=some (!decide (i=j)):=rfl
end
section
variable{cd:Nat->List PV->Option PV}{fu:Nat}{s:IS}{ss:vP}{τ τ1:En}{v:PV}
end
theorem uo{cd:Nat->List PV->Option PV}{fu:Nat}{s:IS}{ss:vP}{τ:En}:bP cd fu (.cons s ss) τ=(eN cd fu s τ).bind fun f=>gU f (bP cd fu ss):=by simp only[tq,tu]
theorem xz{cd:Nat->List PV->Option PV}{fu:Nat}{τ:En}:bP cd fu .nil τ=some (.nx τ):=by simp only[tq,tu]
theorem run{P:Nat->Option FD}{k f:Nat}{d:FD}{vs:List PV}{r:PV}(hP:P f=some d)(hl:vs.length=d.np)(h:df (bP (aE P k) 1000000 d.body (entry d vs))=some r):aE P (k+1) f vs=some r:=by
 show(P f).bind _=_;rw[hP];show(if vs.length=d.np then _ else _)=_;rw[Hr hl];exact h
section
variable{a b:RV}{t:String}{n m:Bool}{xs ys:List PV}{i j:Int}{bl:Bool}
theorem eW{τ:En}{k:En->Option Fl}:gU (.nx τ) k=k τ:=rfl
theorem zL{v:PV}{k:En->Option Fl}:gU (.rt v) k=some (.rt v):=rfl
theorem v2:n9 (.bl bl)=some bl:=rfl
theorem yP:iz (.bl bl)=some bl:=rfl
theorem zS{z:Str}:ko (.frz (.str z) n)=some (signs z,true,false):=rfl
theorem mI:ko (.frz (.lst xs) n)=some (xs,n,false):=rfl
theorem zR:ko (.frz (.tup xs) n)=some (xs,n,false):=rfl
theorem F1{τ:En}{k:Nat}:mN true k (.own xs n) τ=some (τ.set k (.own xs n)):=rfl
theorem Cc{τ:En}{k:Nat}:mN false k (.own xs n) τ=some (τ.set k (.frz (.lst xs) n)):=rfl
theorem Cd{τ:En}{k:Nat}{o:Bool}{v:PV}:mN o k (.frz v n) τ=some (τ.set k (.frz v n)):=by cases o<;>rfl
theorem B8:told (.lst xs)=.own xs true:=rfl
theorem B7:told (.tup xs)=.frz (.tup xs) true:=rfl
theorem B9:told (.int i)=.frz (.int i) true:=rfl
theorem CA:told (.bl bl)=.frz (.bl bl) true:=rfl
theorem EQ:ia .len [a]=(gk a.val).map fun n=>sc (.int (n:Nat)):=rfl
theorem BF:ia .int [.frz (.bl bl) n]=some (sc (.int (if bl then 1 else 0))):=rfl
theorem BE:ia (.isin t) [a]=(fD t a.val).map fun b=>sc (.bl b):=rfl
theorem yU:ia .list [.frz (.tup xs) n]=some (.own xs n):=rfl
theorem yV:ia .list [.frz (.lst xs) n]=some (.own xs n):=rfl
theorem vF:ia .tuple [.own xs n]=some (.frz (.tup xs) n):=rfl
theorem vG:ia .tuple [.frz (.lst xs) n]=some (.frz (.tup xs) n):=rfl
theorem EN:ia .min [.frz (.int i) n,.frz (.int j) m]=some (sc (.int (if j<i then j else i))):=rfl
theorem EO:ia .max [.frz (.int i) n,.frz (.int j) m]=some (sc (.int (if j>i then j else i))):=rfl
theorem yS:ia .sorted [.own xs n]=fZ xs:=rfl
theorem yT:ia .sorted [.frz (.lst xs) n]=fZ xs:=rfl
theorem BD:ia .sset [a]=(iH a.val).map fun ns=>.own ((L2.dz ns).map PV.int) true:=rfl
theorem ix_L(k:Int):index (.frz (.lst xs) n) (.frz (.int k) m)=(dH xs k).map fun e=>.frz e (n||imm e):=rfl
theorem ix_T(k:Int):index (.frz (.tup xs) n) (.frz (.int k) m)=(dH xs k).map fun e=>.frz e (n||imm e):=rfl
theorem ix_O(k:Int):index (.own xs n) (.frz (.int k) m)=(dH xs k).map fun e=>.frz e (n||imm e):=rfl
theorem ix_B(k:Int):index (.bor (.lst xs)) (.frz (.int k) m)=(dH xs k).map jm:=rfl
theorem ix_S(k:Int)(z:Str):index (.frz (.str z) n) (.frz (.int k) m)=if z.length<=LN then(dH z.cps.toList k).map fun c=>sc (.str ⟨#[c]⟩)else none:=rfl
end
theorem oy{i:Int}:fD "int" (.int i)=some true:=by simp[fD]
theorem mZ{i:Int}:fD "bool" (.int i)=some false:=by simp[fD]
theorem ow{i:Int}:fD "str" (.int i)=some false:=by simp[fD]
theorem ou{z:Str}:fD "str" (.str z)=some true:=by simp[fD]
theorem mY{i:Int}:fD "list" (.int i)=some false:=by simp[fD]
theorem mW{z:Str}:fD "list" (.str z)=some false:=by simp[fD]
theorem mX{xs:List PV}:fD "list" (.lst xs)=some true:=by simp[fD]
theorem kW{i:Int}:fD "tuple" (.int i)=some false:=by simp[fD]
theorem kT{z:Str}:fD "tuple" (.str z)=some false:=by simp[fD]
theorem kU{xs:List PV}:fD "tuple" (.lst xs)=some false:=by simp[fD]
theorem kS{xs:List PV}:fD "tuple" (.tup xs)=some true:=by simp[fD]
theorem rG  :bX .Is .non .non=some true:=rfl
theorem rJ{i:Int}:bX .Is (.int i) .non=some false:=rfl
theorem rF{z:Str}:bX .Is (.str z) .non=some false:=rfl
theorem rH{xs:List PV}:bX .Is (.lst xs) .non=some false:=rfl
theorem rE{xs:List PV}:bX .Is (.tup xs) .non=some false:=rfl
theorem dh{α:Type}{f:PV->Option (Option (PV×Bool))}{h:α->PV}{g:α->PV}:∀{l:List α},(∀x∈l,f (h x)=some (some (g x,true)))->bL f (l.map h)=some (l.map g,true)
 | [],_=>rfl
 | x::xs,k=>by
  rw[Hf];unfold bL;rw[k x He,dh fun y hy=>k y (HZ _ hy)];rfl
noncomputable def To(o:Option Fl)(Q:Fl->Prop):Prop:=∃f,o=some f/\Q f
theorem zJ{f:Fl}{Q:Fl->Prop}:To (some f) Q↔Q f:=⟨fun⟨g,e,h⟩=>by cases e;exact h,fun h=>⟨f,rfl,h⟩⟩
theorem To.imp{o:Option Fl}{Q Q' :Fl->Prop}(h:To o Q)(k:∀f,Q f->Q' f):To o Q' :=by
 obtain⟨f,e,q⟩:=h;exact⟨f,e,k f q⟩
theorem oF{P:Nat->Option FD}{k f:Nat}{d:FD}{vs:List PV}{Q:PV->Prop}(hP:P f=some d)(hl:vs.length=d.np)(h:To (bP (aE P k) 1000000 d.body (entry d vs)) fun fl=>∃v,df (some fl)=some v/\Q v):∃v,aE P (k+1) f vs=some v/\Q v:=by
 obtain⟨fl,e,v,h1,h2⟩:=h;exact⟨v,run hP hl (by rw[e];exact h1),h2⟩
theorem ff{P:Nat->Option FD}{k f:Nat}{d:FD}{vs:List PV}{r:PV}(hP:P f=some d)(hl:vs.length=d.np)(h:To (bP (aE P k) 1000000 d.body (entry d vs)) fun fl=>df (some fl)=some r):aE P (k+1) f vs=some r:=by
 obtain⟨fl,e,h1⟩:=h;exact run hP hl (by rw[e];exact h1)
section
variable{cd:Nat->List PV->Option PV}{fu:Nat}{τ:En}{cap:List Nat}{e e2:IE}{i j:Nat}{o one:Bool}{is:List Nat}{c:IC}{a b body:vP}{src:IT}
theorem j8:eN cd fu (.asg i o cap e) τ=(aV cd e (bA cap τ)).bind fun r=>(mN o i r (bA cap τ)).map .nx:=by simp only[fX,fK,fM,fL,fQ,fS,fJ,fN,fV,fU,fY,fP,fT,fW,fR,fO]
theorem Dp:eN cd fu (.unp is cap e) τ=(aV cd e (bA cap τ)).bind fun r=>r.keep.bind fun(v,n)=>(wM is n v (bA cap τ)).map .nx:=by simp only[fX,fK,fM,fL,fQ,fS,fJ,fN,fV,fU,fY,fP,fT,fW,fR,fO]
theorem xy:eN cd fu (.ret cap e) τ=(aV cd e (bA cap τ)).bind fun r=>r.keep.bind fun(v,n)=>if n then some (.rt v)else none:=by simp only[fX,fK,fM,fL,fQ,fS,fJ,fN,fV,fU,fY,fP,fT,fW,fR,fO]
theorem Dq:eN cd fu (.ife c a b) τ=(eO cd c τ).bind fun r=>if r then bP cd fu a τ else bP cd fu b τ:=by simp only[fX,fK,fM,fL,fQ,fS,fJ,fN,fV,fU,fY,fP,fT,fW,fR,fO]
noncomputable def wZ(i:Nat)(v:PV)(m:Bool)(τ:En):Option Fl:=match τ[i]? with
  | some (.own xs n)=>if xs.length<LN then some (.nx (τ.set i (.own (xs++[v]) (n&&m))))else none
  | _=>none
theorem Ds:eN cd fu (.app i cap e) τ=(aV cd e (bA cap τ)).bind fun r=>r.keep.bind fun(v,m)=>wZ i v m (bA cap τ):=by simp only[fX,fK,fM,fL,fQ,fS,fJ,fN,fV,fU,fY,fP,fT,fW,fR,fO];rfl
theorem gb{v:PV}{n m:Bool}{xs:List PV}(h:τ[i]? =some (.own xs n))(hz:xs.length<LN):wZ i v m τ=some (.nx (τ.set i (.own (xs++[v]) (n&&m)))):=by
 unfold wZ;rw[h];exact Hr hz
theorem fi{xs:List PV}{n:Bool}{k:En->Option Fl}{Q:Fl->Prop}(ht:mr cd src (bA cap τ)=some (xs,n,false))(I:Nat->En->Prop)(h0:I 0 (bA cap τ))
  (hs:∀(i:Nat)(x:PV)(τ:En),xs[i]? =some x->I i τ->∃τ1,kP is one n x τ=some τ1/\To (bP cd fu body τ1) fun f=>match f with| .nx τ2=>I (i+1) τ2| .ct τ2=>I (i+1) τ2| .bk τ2=>To (k τ2) Q| .rt v=>Q (.rt v))
  (hk:∀τ',I xs.length τ' ->To (k τ') Q):To ((eN cd fu (.forr is one cap src body) τ).bind fun f=>gU f k) Q:=by
 obtain⟨fl,e,h⟩:=Ai (set:=kP is one n) (body:=fun τ=>bP cd fu body τ) (xs:=xs) (τ:=bA cap τ) I (fun fl=>To (gU fl k) Q) h0 (fun i x τ hx hI=>by
  obtain⟨τ1,h1,f,h2,h3⟩:=hs i x τ hx hI;refine⟨τ1,f,h1,h2,?_⟩;cases f with
  | nx τ2=>exact h3
  | ct τ2=>exact h3
  | bk τ2=>exact h3
  | rt v=>exact⟨_,rfl,h3⟩) hk
 have e2:eN cd fu (.forr is one cap src body) τ=some fl:=by
  simp only[fX,fK,fM,fL,fQ,fS,fJ,fN,fV,fU,fY,fP,fT,fW,fR,fO,ht,Hw];exact e
 rw[e2];exact h
end
theorem dQ:∀l:List Str,imms (l.map PV.str)=true
 | []=>rfl
 | x::l=>by rw[Hf,imms,dQ l];rfl
theorem qM{n:Bool}{xs:List PV}{lo hi:Option Int}:slice (.frz (.lst xs) n) lo hi=some (.own (cut xs lo hi) (n||imms xs)):=rfl
theorem gN(P:Nat->Option FD)(k f:Nat)(vs:List PV):aE P (k+1) f vs=(P f).bind fun d=>if vs.length=d.np then df (bP (aE P k) 1000000 d.body (entry d vs))else none:=rfl
section
variable{cd:Nat->List PV->Option PV}{fu:Nat}{τ:En}{e e2:IE}{i:Nat}
noncomputable def ET(i:Nat)(op:Operator)(y:PV)(τ:En):Option Fl:=match τ[i]?,y,op with
  | some (.frz (.int x) _),.int y,.Add=>some (.nx (τ.set i (.frz (.int (x+y)) true)))
  | some (.frz (.int x) _),.int y,.Sub=>some (.nx (τ.set i (.frz (.int (x-y)) true)))
  | _,_,_=>none
theorem Dr{op:Operator}:eN cd fu (.aug i op e) τ=(aV cd e τ).bind fun r=>ET i op r.val τ:=by simp only[fX,fK,fM,fL,fQ,fS,fJ,fN,fV,fU,fY,fP,fT,fW,fR,fO];rfl
theorem BI{x y:Int}{n:Bool}(h:τ[i]? =some (.frz (.int x) n)):ET i .Add (.int y) τ=some (.nx (τ.set i (.frz (.int (x+y)) true))):=by unfold ET;rw[h]
noncomputable def setO(i:Nat)(k v:PV)(m:Bool)(τ:En):Option Fl:=match k,τ[i]? with
  | .int j,some (.own xs n)=>(L2.xg xs.length j).map fun q=>.nx (τ.set i (.own (xs.set q v) (n&&m)))
  | y,some (.owd (.dK ks) xs n)=>(jp y).bind fun k=>if xs.length<LN then some (.nx (τ.set i (.owd (.dK (F2 ks k)) (putL ks xs k v) (n&&m))))else none
  | _,_=>none
theorem vo{c:En->Option Bool}{body:En->Option Fl}(I:Nat->En->Prop)(R:Fl->Prop)(hs:∀m τ,I m τ->∃b,c τ=some b/\(b=true->0<m/\∃τ2,body τ=some (.nx τ2)/\I (m-1) τ2)/\(b=false->R (.nx τ))) :
  ∀(k m:Nat)(τ:En),m<k->I m τ->∃fl,yn c body k τ=some fl/\R fl
 | 0,m,τ,h,_=>by omega
 | k+1,m,τ,h,h0=>by
  obtain⟨b,hb,h1,h2⟩:=hs m τ h0;unfold yn;rw[hb];cases b with
  | false=>exact⟨_,rfl,h2 rfl⟩
  | true =>
   obtain⟨hm,τ2,e,h3⟩:=h1 rfl;dsimp only[Option.bind];rw[Hr rfl,e];exact vo I R hs k (m-1) τ2 (by omega) h3
theorem whTo{c:IC}{body:vP}{k:En->Option Fl}{Q:Fl->Prop}(I:Nat->En->Prop)(m:Nat)(hm:m<fu)(h0:I m τ)
  (hs:∀m τ,I m τ->∃b,eO cd c τ=some b/\(b=true->0<m/\To (bP cd fu body τ) fun f=>∃τ2,f=.nx τ2/\I (m-1) τ2)/\(b=false->To (k τ) Q)):To ((eN cd fu (.whil c body) τ).bind fun f=>gU f k) Q:=by
 obtain⟨fl,e,h⟩:=vo (c:=fun τ=>eO cd c τ) (body:=fun τ=>bP cd fu body τ) I (fun fl=>To (gU fl k) Q) (fun m τ hI=>by
  obtain⟨b,h1,h2,h3⟩:=hs m τ hI;refine⟨b,h1,fun z=> ?_,h3⟩;obtain⟨hm,f,e,τ2,rfl,h4⟩:=h2 z;exact⟨hm,τ2,e,h4⟩) fu m τ hm h0
 have e2:eN cd fu (.whil c body) τ=some fl:=by simp only[fX,fK,fM,fL,fQ,fS,fJ,fN,fV,fU,fY,fP,fT,fW,fR,fO];exact e
 rw[e2];exact h
end
theorem xQ{i:Int}:jm (.int i)=.frz (.int i) true:=rfl
theorem tZ{xs:List PV}{n:Bool}:ia .sum [.frz (.lst xs) n]=(aN xs).map fun ns=>sc (.int ns.sum):=rfl
theorem Ax{xs ys:List PV}:bX .Eq (.lst xs) (.lst ys)=if lO 12 (.lst xs)&&lO 12 (.lst ys)then some (nM (.lst xs) (.lst ys))else none:=rfl
theorem EV{α:Type}{x:α}{xs:List α}:L2.dH (x::xs) 0=some x:=by
 have:=bJ (xs:=x::xs) (j:=0) (v:=x) (by simp);exact this
theorem EU{α:Type}{x y:α}{xs:List α}:L2.dH (x::y::xs) 1=some y:=by
 have:=bJ (xs:=x::y::xs) (j:=1) (v:=y) (by simp);exact this
theorem pG:∀l:List Int,mw (l.map PV.int) (l.map PV.int)=true
 | []=>rfl
 | x::l=>by
  show(nM (.int x) (.int x)&&mw (l.map PV.int) (l.map PV.int))=true;rw[pG l,Bool.and_true];exact IW rfl
theorem pF(n:Nat)(l:List Int):lO (n+1) (.lst (l.map PV.int))=true:=by
 show(l.map PV.int).all (lO n)=true;rw[Hx];intro x hx;obtain⟨i,_,rfl⟩:=Hn.mp hx;cases n<;>rfl
theorem ga{n i:Nat}{x:PV}(h:((List.range n).map fun i=>PV.int (0+(i:Nat)))[i]? =some x):i<n/\x=.int (i:Nat):=by
 rw[Ho]at h
 by_cases hi:i<n
 ·rw[Iy hi]at h
  refine⟨hi,?_⟩;have:=(IB h).symm
  simpa using this
 ·rw[IV (by simpa using hi)]at h
  cases h
theorem mK{n:Nat}:((List.range n).map fun i=>PV.int (0+(i:Nat))).length=n:=by simp
theorem AF(c d:Nat):decide ((⟨#[c]⟩:Str)=⟨#[d]⟩)=decide (c=d):=by
 by_cases h:c=d
 ·subst h;simp
 ·rw[Ij h,Ij]
  intro e;have:=Ix (fun z:Str=>z.cps.toList) e;simp at this;exact h this
theorem rN(c:Nat):decide ((⟨#[c]⟩:Str)="x")=(c==120):=by
 have:=AF c 120;rw[show(⟨#[120]⟩:Str)="x" from rfl]at this;rw[this];rfl
theorem DI{ks:List ag}{vs:List PV}:gk (.dK ks vs)=some ks.length:=rfl
theorem BC{n:Bool}{ks:List ag}{vs:List PV}:ia .sumv [.frz (.dK ks vs) n]=(aN vs).map fun ns=>sc (.int ns.sum):=rfl
theorem di{α:Type}{f:PV->Option (Option (PV×Bool))}{h:α->PV}{p:α->Bool}{g:α->PV}:∀{l:List α},(∀x∈l,f (h x)=some (if p x then some (g x,true)else none))->bL f (l.map h)=some ((l.filter p).map g,true)
 | [],_=>rfl
 | x::xs,k=>by
  rw[Hf];unfold bL;rw[k x He,di fun y hy=>k y (HZ _ hy)];cases e:p x
  ·simp[KG,e]
  ·simp[KG,e]
theorem map_set{L:Nat}{g:Nat->Int}{q:Nat}{v:Int}:((List.range L).map fun k=>PV.int (g k)).set q (.int v)=(List.range L).map fun k=>PV.int (if k=q then v else g k):=by
 refine Jf fun i=> ?_;rw[Je,Ho,Ho,HX,IU]
 by_cases hi:i<L
 ·rw[Iy hi]
  by_cases e:q=i
  ·subst e
   simp[hi]
  ·have e' :¬i=q:=fun z=>e z.symm
   simp[e,e']
 ·have:(List.range L)[i]? =none:=IV (by simpa using hi)
  rw[this]
  by_cases e:q=i
  ·subst e
   simp[hi]
  ·simp[e]
theorem int_at{a:List Int}{i:Nat}{y:PV}(h:(a.map PV.int)[i]? =some y):i<a.length/\y=.int (a.getD i 0)/\a.getD i 0∈a:=by
 rw[Ho]at h;cases e:a[i]? with
 | none=>rw[e]at h;cases h
 | some x =>
  rw[e]at h;cases h;have hi:=(Hh.mp e).1;have e2:a.getD i 0=x:=by rw[Hc,e];rfl
  exact⟨hi,by rw[e2],by rw[e2];exact Hz e⟩
theorem DB{a:List Int}{i:Nat}(h:i<a.length):dH (a.map PV.int) (i:Int)=some (.int (a.getD i 0)):=bJ (by rw[Ho,Hc,Hd h];rfl)
noncomputable abbrev aO:=List (Int×Int)
noncomputable def aj(c:aO)(k:Int):Option Int:=(c.find? fun p=>decide (p.1=k)).map (·.2)
noncomputable def cS(c:aO)(k v:Int):aO:=if(c.any fun p=>decide (p.1=k))=true then c.map (fun p=>if p.1=k then(p.1,v)else p)else c++[(k,v)]
noncomputable def vK(c:aO)(k n:Int):aO:=cS c k ((aj c k).getD 0+n)
noncomputable def bR(t n:Int)(c:aO)(b:Int):aO:=if Builtin.bitAnd t b=0 then vK c (Builtin.bitOr t b) n else c
noncomputable def cf(B:List Int)(c:aO)(p:Int×Int):aO:=B.foldl (bR p.1 p.2) c
noncomputable def yo(B:List Int)(c lev:aO):aO:=lev.foldl (cf B) c
noncomputable def wl(Ls:List aO)(B:List Int):Nat->List aO
 | 0=>Ls++[[]]
 | i+1=>(wl Ls B i).set (i+1) (yo B ((wl Ls B i).getD (i+1) []) (Ls.getD i []))
noncomputable def av(c:aO):List (ag×V):=c.map fun p=>(Sum.inl p.1,V.int p.2)
noncomputable def eB(c:aO):PV:=.dK (c.map fun p=>Sum.inl p.1) (c.map fun p=>.int p.2)
noncomputable def nP:List ag->List PV->Option aO
 | [],[]=>some []
 | .inl k::ks,.int v::vs=>(nP ks vs).map ((k,v)::·)
 | _,_=>none
noncomputable def unT:PV->Option aO
 | .dK ks vs=>nP ks vs
 | _=>none
noncomputable def nz:List PV->Option (List aO)
 | []=>some []
 | x::xs=>(unT x).bind fun c=>(nz xs).map (c::·)
noncomputable def bQ:List PV->Option PV
 | [.lst ls,.lst bs]=>(nz ls).bind fun Ls=>(aN bs).bind fun B=>if Ls.length<=100/\B.length<=100/\(Ls.all fun c=>decide (c.length<=1000))=true then some (.lst ((wl Ls B Ls.length).map eB))else none
 | _=>none
theorem gF:∀{xs:List PV}{ns:List Int},aN xs=some ns->xs=ns.map PV.int
 | [],ns,h=>by cases h;rfl
 | x::xs,ns,h=>by
  cases x with
  | int c =>
   have h:(aN xs).map (c::·)=some ns:=h;cases e:aN xs with
   | none=>rw[e]at h;cases h
   | some ds =>
    rw[e]at h;cases h;rw[gF e];rfl
  | _=>cases h
theorem bO:∀ns:List Int,aN (ns.map PV.int)=some ns
 | []=>rfl
 | n::ns=>by rw[Hf,aN,bO ns];rfl
theorem nN:∀{ks:List ag}{vs:List PV}{c:aO},nP ks vs=some c->ks=c.map (fun p=>Sum.inl p.1)/\vs=c.map (fun p=>.int p.2)
 | [],[],c,h=>by cases h;exact⟨rfl,rfl⟩
 | .inl k::ks,.int v::vs,c,h=>by
  have h:(nP ks vs).map ((k,v)::·)=some c:=h;cases e:nP ks vs with
  | none=>rw[e]at h;cases h
  | some d =>
   rw[e]at h;cases h;obtain⟨h1,h2⟩:=nN e;exact⟨by rw[h1];rfl,by rw[h2];rfl⟩
 | .inr z::ks,vs,c,h=>by cases h
 | [],v::vs,c,h=>by cases h
 | .inl k::ks,[],c,h=>by cases h
 | .inl k::ks,.non::vs,c,h=>by cases h
 | .inl k::ks,.bl _::vs,c,h=>by cases h
 | .inl k::ks,.str _::vs,c,h=>by cases h
 | .inl k::ks,.lst _::vs,c,h=>by cases h
 | .inl k::ks,.tup _::vs,c,h=>by cases h
 | .inl k::ks,.dK _ _::vs,c,h=>by cases h
 | .inl k::ks,.dT _ _::vs,c,h=>by cases h
theorem zE{v:PV}{c:aO}(h:unT v=some c):v=eB c:=by
 cases v with
 | dK ks vs =>
  obtain⟨h1,h2⟩:=nN h;unfold eB;rw[h1,h2]
 | _=>cases h
theorem ny:∀{ls:List PV}{Ls:List aO},nz ls=some Ls->ls=Ls.map eB
 | [],Ls,h=>by cases h;rfl
 | x::xs,Ls,h=>by
  simp only[nz]at h;cases e:unT x with
  | none=>rw[e]at h;cases h
  | some c =>
   rw[e]at h;simp only[Option.bind]at h;cases e2:nz xs with
   | none=>rw[e2]at h;cases h
   | some r =>
    rw[e2]at h;cases h;rw[zE e,ny e2];rfl
theorem rq:∀c:aO,nP (c.map fun p=>Sum.inl p.1) (c.map fun p=>.int p.2)=some c
 | []=>rfl
 | p::c=>by simp only[Hf,nP,rq c];rfl
theorem sL:∀Ls:List aO,nz (Ls.map eB)=some Ls
 | []=>rfl
 | c::Ls=>by
  simp only[Hf,nz,sL Ls];show(nP _ _).bind _=_;rw[rq];rfl
theorem my(c:aO)(k:Int):d7 (av c) (Sum.inl k)=(aj c k).map V.int:=by
 unfold d7 av aj
 induction c with
 | nil=>rfl
 | cons p c ih =>
  rw[Hf,Io,Io]
  by_cases e:p.1=k
  ·simp[e]
  ·have e' :¬((Sum.inl p.1:ag)=Sum.inl k):=fun z=>e (Sum.inl.inj z)
   simp only[e,e',Jm];exact ih
theorem mx(c:aO)(k v:Int):dB (av c) (Sum.inl k) (V.int v)=av (cS c k v):=by
 unfold dB cS;have e1:((av c).any fun kv=>decide (kv.1=Sum.inl k))=(c.any fun p=>decide (p.1=k)):=by
  unfold av;rw[List.any_map]
  congr 1
  funext p
  simp
 rw[e1]
 split
 ·unfold av
  rw[Ia,Ia];refine JH fun p _=> ?_
  by_cases e:p.1=k
  ·simp[e]
  ·simp[e]
 ·unfold av
  rw[IJ];rfl
theorem jX(c:aO)(k v:Int):(cS c k v).length<=c.length+1:=by
 unfold cS
 split
 ·rw[HX];omega
 ·rw[IA];simp
theorem uJ(t n:Int)(c:aO)(b:Int):(bR t n c b).length<=c.length+1:=by
 unfold bR
 split
 ·exact jX _ _ _
 ·omega
theorem iR(t n:Int):∀(B:List Int)(c:aO),(B.foldl (bR t n) c).length<=c.length+B.length
 | [],c=>by simp
 | b::B,c=>by
  rw[List.foldl_cons];have h1:=iR t n B (bR t n c b);have h2:=uJ t n c b;rw[IL];omega
theorem lM(B:List Int):∀(lev c:aO),(lev.foldl (cf B) c).length<=c.length+lev.length*B.length
 | [],c=>by simp
 | p::lev,c=>by
  rw[List.foldl_cons];have h1:=lM B lev (cf B c p);have h2:(cf B c p).length<=c.length+B.length:=iR p.1 p.2 B c;rw[IL,Nat.succ_mul];omega
theorem lq(Ls:List aO)(B:List Int):∀i,(wl Ls B i).length=Ls.length+1
 | 0=>by simp[wl]
 | i+1=>by rw[wl,Iq];exact lq Ls B i
theorem tQ(c:aO)(us:List V)(h:us=c.map fun p=>V.int p.2):(c.map fun p=>(Sum.inl p.1:ag)).zip us=av c:=by
 subst h;unfold av
 induction c with
 | nil=>rfl
 | cons p c ih=>rw[Hf,Hf,List.zip_cons_cons,ih,Hf]
theorem oH{K:W.Frag}{Hi:Hp}{n:Bool}{H:Hp}(c:aO){us:List V}:aG K Hi n (c.map fun p=>PV.int p.2) H us↔us=c.map fun p=>V.int p.2:=by
 have e1:(c.map fun p=>PV.int p.2)=(c.map (·.2)).map PV.int:=by rw[Ia];rfl
 have e2:(c.map fun p=>V.int p.2)=(c.map (·.2)).map V.int:=by rw[Ia];rfl
 rw[e1,e2];exact aG.ints
theorem CT{K:W.Frag}{Hi:Hp}{n:Bool}{c:aO}{H:Hp}{u:V}(h:Rp K Hi n (eB c) H u):∃p,u=.ref p/\H p=some (.dK (av c)):=by
 unfold eB Rp at h;obtain⟨p,us,rfl,_,hp,hl,r⟩:=h;rw[tQ c us ((oH c).mp r)]at hp;exact⟨p,rfl,hp⟩
theorem kr{K:W.Frag}{Hi:Hp}{c:aO}{H:Hp}{p:Addr}(h0:Hi p=none)(h:H p=some (.dK (av c))):Rp K Hi true (eB c) H (.ref p):=by
 unfold eB Rp;refine⟨p,c.map fun p=>V.int p.2,rfl,fun _=>h0,by rw[tQ c _ rfl];exact h,by simp,(oH c).mpr rfl⟩
noncomputable def pf(H0:Hp)(A:Addr)(ds:List Addr)(cs:List aO)(H:Hp):Prop :=
 aC H0 H/\H0 A=none/\H A=some (.lst (ds.map V.ref))/\A∉ds/\ds.Nodup/\ds.length=cs.length/\∀(q:Nat)(d:Addr)(c:aO),ds[q]? =some d->cs[q]? =some c->H0 d=none/\H d=some (.dK (av c))
theorem pf.ext{H0:Hp}{A:Addr}{ds:List Addr}{cs:List aO}{H H' :Hp}(h:pf H0 A ds cs H)(s:aC H H'):pf H0 A ds cs H' :=by
 obtain⟨h1,h2,h3,h4,h5,h6,h7⟩:=h;exact⟨h1.trans s,h2,s _ _ h3,h4,h5,h6,fun q d c e1 e2=>⟨(h7 q d c e1 e2).1,s _ _ (h7 q d c e1 e2).2⟩⟩
theorem pf.put{H0:Hp}{A:Addr}{ds:List Addr}{cs:List aO}{H:Hp}{q:Nat}{d:Addr}{c' :aO}(h:pf H0 A ds cs H)(hd:ds[q]? =some d):pf H0 A ds (cs.set q c') (L2.upd H d (.dK (av c'))):=by
 obtain⟨h1,h2,h3,h4,h5,h6,h7⟩:=h;have hq:q<ds.length:=(Hh.mp hd).1;have hc:cs[q]? =some (cs[q]'(by omega)):=by simp[show q<cs.length by omega]
 obtain⟨n0,n1⟩:=h7 q d _ hd hc;have hA:A≠d:=fun z=>h4 (z▸Hz hd);refine⟨fun b o e=>by rw[aB (aK e n0)];exact h1 b o e,h2,by rw[aB hA];exact h3,h4,h5,by rw[Iq];exact h6,fun q' d' c e1 e2=> ?_⟩;rw[Je]at e2
 by_cases e:q=q'
 ·subst e
  rw[hd]at e1;cases e1;rw[Hr rfl,Hr (by omega)]at e2;cases e2;exact⟨n0,aD⟩
 ·rw[Hl e]at e2
  obtain⟨m0,m1⟩:=h7 q' d' c e1 e2;refine⟨m0,?_⟩;rw[aB fun z=>e ?_]
  ·exact m1
  ·subst z
   have:=(List.getElem?_inj (i:=q') (j:=q) (Hh.mp e1).1 h5).mp (by rw[e1,hd]);exact this.symm
theorem pf.at{H0:Hp}{A:Addr}{ds:List Addr}{cs:List aO}{H:Hp}{q:Nat}{d:Addr}{c:aO}(h:pf H0 A ds cs H)(hd:ds[q]? =some d)(hc:cs[q]? =some c):H0 d=none/\H d=some (.dK (av c)):=h.2.2.2.2.2.2 q d c hd hc
theorem pf.push{H0:Hp}{A:Addr}{ds:List Addr}{cs:List aO}{H:Hp}{p:Addr}{c:aO}(h:pf H0 A ds cs H)(hp:H p=none):pf H0 A (ds++[p]) (cs++[c]) (L2.upd (L2.upd H p (.dK (av c))) A (.lst (ds.map V.ref++[.ref p]))):=by
 obtain⟨h1,h2,h3,h4,h5,h6,h7⟩:=h;have hA:A≠p:=fun z=>by rw[z,hp]at h3;cases h3
 have hpd:p∉ds:=fun z=>by
  obtain⟨q,hq,e⟩:=Jv.mp z;obtain⟨_,m1⟩:=h7 q p (cs[q]'(by omega)) (by rw[Hd hq,e]) (by simp[show q<cs.length by omega]);rw[hp]at m1;cases m1
 refine⟨fun b o e=> ?_,h2,?_,?_,?_,by simp[h6],fun q d c' e1 e2=> ?_⟩
 ·rw[aB (aK e h2),aB (aK e (h1.free hp))]
  exact h1 b o e
 ·rw[aD,IJ]
  rfl
 ·intro z
  rcases ID.mp z with z|z
  ·exact h4 z
  ·exact hA (by simpa using z)
 ·rw[JG]
  exact⟨h5,by simp,fun a ha b hb e=>by
   have:b=p:=by simpa using hb
   rw[this]at e;exact hpd (e▸ha)⟩
 ·by_cases hq:q<ds.length
  ·rw[JB hq]at e1
   rw[JB (by omega)]at e2;obtain⟨m0,m1⟩:=h7 q d c' e1 e2;have d1:d≠A:=fun z=>h4 (z▸Hz e1);have d2:d≠p:=fun z=>hpd (z▸Hz e1);exact⟨m0,by rw[aB d1,aB d2];exact m1⟩
  ·rw[Jw (by omega)]at e1
   rw[Jw (by omega)]at e2;have q0:q-ds.length=0:=by
    cases e:q-ds.length with
    | zero=>rfl
    | succ m=>rw[e]at e1;simp at e1
   rw[q0]at e1;rw[show q-cs.length=0 by omega]at e2;have e1' :p=d:=by simpa using e1
   have e2' :c=c' :=by simpa using e2
   subst e1' e2';exact⟨h1.free hp,by rw[aB (Ja hA),aD]⟩
theorem uP{H:Hp}{p a:Addr}{o:HO}{u:HO}(hp:H p=none)(ha:p≠a):aC (L2.upd H a u) (L2.upd (L2.upd H p o) a u):=fun b x e=>by
 by_cases hb:b=a
 ·subst hb
  rw[aD]at e ⊢;exact e
 ·rw[aB hb]at e ⊢
  rw[aB (aK e hp)];exact e
theorem sS{K:W.Frag}{H:Hp}{a b:Addr}{kvs:List (ag×V)}{xs:List V}(h:bB K (L2.upd H a (.dK kvs)) b xs):bB K H b xs:=by
 have key:∀u,L2.upd H a (.dK kvs) b=some u->(∀k,u≠.dK k)->H b=some u:=fun u e n=>by
  by_cases hb:b=a
  ·subst hb
   rw[aD]at e;exact absurd (IB e).symm (n _)
  ·rw[aB hb]at e
   exact e
 rcases h with(h|⟨o,h⟩)|h
 ·exact .inl (.inl (key _ h fun k z=>by cases z))
 ·exact .inl (.inr ⟨o,key _ h fun k z=>by cases z⟩)
 ·exact .inr h
theorem An{c:aO}{j:Nat}{k:ag}{x:V}(h:(av c)[j]? =some (k,x)):∃t n,c[j]? =some (t,n)/\k=.inl t/\x=.int n:=by
 unfold av at h;rw[Ho]at h;cases e:c[j]? with
 | none=>rw[e]at h;cases h
 | some p =>
  rw[e]at h;have:=IB h;cases this;exact⟨p.1,p.2,rfl,rfl,rfl⟩
theorem pI(c:aO):(av c).length=c.length:=by unfold av;rw[HX]
theorem BU(Ls:List aO)(B:List Int):∀(i j:Nat),i<j->(wl Ls B i)[j]? =(Ls++[[]])[j]?
 | 0,j,h=>rfl
 | i+1,j,h=>by
  rw[wl,II (by omega)];exact BU Ls B i j (by omega)
theorem vt{H:Hp}{a b:Addr}{x y:HO}(h:a≠b):L2.upd (L2.upd H a x) b y=L2.upd (L2.upd H b y) a x:=by
 funext c
 unfold L2.upd
 by_cases h1:c=a
 ·subst h1
  rw[Hl h,Hr rfl,Hr rfl]
 ·by_cases h2:c=b
  ·subst h2
   rw[Hr rfl,Hl h1,Hr rfl]
  ·rw[Hl h2,Hl h1,Hl h1,Hl h2]
theorem oG{K:W.Frag}{Hi:Hp}{H:Hp}:∀{cs:List aO}{ds:List Addr},ds.length=cs.length->(∀(q:Nat)(d:Addr)(c:aO),ds[q]? =some d->cs[q]? =some c->Hi d=none/\H d=some (.dK (av c)))->aG K Hi true (cs.map eB) H (ds.map V.ref)
 | [],[],_,_=>.nil
 | c::cs,d::ds,hl,h=>by
  obtain⟨h0,h1⟩:=h 0 d c rfl rfl;exact .cons (kr h0 h1) (oG (by simpa using hl) fun q d' c' e1 e2=>h (q+1) d' c' (by simpa using e1) (by simpa using e2))
 | [],_::_,hl,_=>by cases hl
 | _::_,[],hl,_=>by cases hl
section
variable{X:Cx}{Hi:Hp}{τ:En}{cd:Nat->List PV->Option PV}{ct:Ct}{O:List Addr}{σ:L2.St}{H H' :Hp}{D:cu}
noncomputable def Gr(O:List Addr)(A:Addr)(g:List (List Str))(H:Hp):Prop:=∃ds:List Addr,A∈O/\H A=some (.lst (ds.map V.ref))/\A∉ds/\ds.Nodup/\ds.length=g.length/\∀(q:Nat)(d:Addr)(r:List Str),ds[q]? =some d->g[q]? =some r->d∈O/\H d=some (.lst (r.map V.str))
theorem Gr.ext{A:Addr}{g:List (List Str)}(h:Gr O A g H)(s:aC H H'):Gr O A g H' :=by
 obtain⟨ds,h1,h2,h3,h4,h5,h6⟩:=h;exact⟨ds,h1,s _ _ h2,h3,h4,h5,fun q d r e1 e2=>⟨(h6 q d r e1 e2).1,s _ _ (h6 q d r e1 e2).2⟩⟩
theorem aZ.hides{K:W.Frag}{L:List Addr}(R:aZ K Hi O τ σ H)(s:aC H H')(h:∀d∈L,H d=none/\∃us,H' d=some (.lst us)):aZ K Hi (L++O) τ σ H' /\aC (aM H O) (aM H' (L++O)):=by
 have hs:aC (aM H O) (aM H' (L++O)):=fun b o e=>by
  unfold aM at e ⊢
  split at e
  ·cases e
  ·rename_i nb
   rw[Hl fun z=> ?_]
   ·exact s b o e
   ·rcases ID.mp z with z|z
    ·rw[(h b z).1]at e
     cases e
    ·exact nb z
 refine⟨⟨R.same.trans s,fun l hl=> ?_,fun i v n e=> ?_,fun i t b xs n e ht=> ?_,R.dst⟩,hs⟩
 ·rcases ID.mp hl with hl|hl
  ·obtain⟨h0,us,h1⟩:=h l hl
   exact⟨R.same.free h0,_,h1,.lst⟩
  ·obtain⟨q,vs,e,mo⟩:=R.own l hl
   exact⟨q,vs,s _ _ e,mo⟩
 ·obtain⟨u,g1,g2⟩:=R.frz i v n e
  exact⟨u,g1,g2.mono hs⟩
 ·obtain⟨l,vs,o,g1,g2,g3,g4,g5⟩:=R.obs i t b xs n e ht
  exact⟨l,vs,o,g1,IM _ g2,s _ _ g3,g4,g5.mono hs⟩
theorem tG{d:Addr}{o:HO}(hd:d∈O):aM (L2.upd H d o) O=aM H O:=by
 funext b
 unfold aM
 split
 ·rfl
 ·rename_i nb
  exact aB fun z=>nb (z▸hd)
theorem aZ.within{K:W.Frag}{d:Addr}{us:List V}(R:aZ K Hi O τ σ H)(no:∀(i:Nat) (t:TV),τ[i]? =some t->t.ob=none)(hd:d∈O):aZ K Hi O τ σ (L2.upd H d (.lst us)) where
 same:=R.same.upd (R.own d hd).1
 own:=fun l hl=>by
  obtain⟨q,o,e,mo⟩:=R.own l hl
  by_cases z:l=d
  ·exact⟨q,_,by rw[z,aD],.lst⟩
  ·exact⟨q,o,by rw[aB z];exact e,mo⟩
 frz:=fun i v n e=>by rw[tG hd];exact R.frz i v n e
 obs:=fun i t b xs n e ht=>by rw[no i t e]at ht;cases ht
 dst:=R.dst
theorem jw(C:bG cd X ct)(hfn:X.fn=fun _=>true){x:Str}{i n:Nat}{it:Expr}{it' :IT}{body:List Stmt}{xp pos:Pos}{xs:List PV}{k:Bool}(hx:loc ct x=some i)(ti:uD n ct false it=it')(hi:mr cd it' τ=some (xs,k,false))
  (R:aZ X.K Hi O τ σ H) (hl:σ.length=X.N.length) (W:Nat->En->L2.St->Hp->Prop) (wm:∀j υ σ' G G',aC G G' ->W j υ σ' G->W j υ σ' G') (w0:W 0 τ σ H)
  (step:∀(j:Nat)(y:PV)(υ:En)(σ' :L2.St)(G:Hp)(u:V)(D' :cu),xs[j]? =some y->aZ X.K Hi O (υ.set i (.frz y (k||imm y))) (σ'.set i (some u)) G->(σ'.set i (some u)).length=X.N.length->W j υ σ' G ->
   (∀(υ2:En)(σ2:L2.St)(G2:Hp),aZ X.K Hi O υ2 σ2 G2->σ2.length=X.N.length->aC (aM G O) (aM G2 O)->W (j+1) υ2 σ2 G2->D'.nx σ2 G2)->BN X body D' (σ'.set i (some u)) G)
  (fin:∀(υ:En)(σ' :L2.St)(G:Hp),aZ X.K Hi O υ σ' G->σ'.length=X.N.length->aC (aM H O) (aM G O)->W xs.length υ σ' G->D.nx σ' G):WS X (.For (.Name x xp) it body [] pos) D σ H:=by
 obtain⟨h1,h2,h3,h4⟩:=dc C hx;rw[<- ti]at hi;obtain⟨gP,hset⟩:=(bS n).t X ct Hi τ false it (.Name x xp) xs k false C (fun z=>by cases z) hi;refine ws (gB C.xe C.calm qY (ar (by rw[C.N];exact C.nd) h1 h2 (.inl (by rw[hfn]))) cO (dY hset)) ?_;refine gP O σ H _ R fun J H1 sJ En=> ?_;rw[Hl Hk]at En;refine⟨fun j m σ' G=>m=xs.length-j/\j<=xs.length/\∃υ:IR.En,aZ X.K Hi O υ σ' G/\σ'.length=X.N.length/\aC (aM H1 O) (aM G O)/\W j υ σ' G,⟨xs.length,by simp,IN _,_,R.ext sJ,hl,aC.refl _,wm _ _ _ _ _ sJ w0⟩,?_⟩;rintro j m σ' G ⟨rfl,hj,υ,RP,hlP,sP,w⟩;have Bj:ye (aM H1 O) G O:=⟨RP.lsts,sP⟩;have s01:aC (aM H O) (aM H1 O):=aJ sJ
 by_cases hlt:j<xs.length
 ·refine .inr ⟨En.go G O j Bj hlt,fun σ2 G2=>∃m',m' <xs.length-j/\(m' =xs.length-(j+1)/\j+1<=xs.length/\∃υ:IR.En,aZ X.K Hi O υ σ2 G2/\σ2.length=X.N.length/\aC (aM H1 O) (aM G2 O)/\W (j+1) υ σ2 G2),
   fun σ2 G2 h=>h,fun u G' y=> ?_⟩
  obtain⟨sG,z,hz,rz⟩:=En.yld G O j u G' Bj hlt y;have s3:aC (aM H1 O) (aM G' O):=sP.trans (aJ sG);have hi' :i<σ'.length:=by rw[hlP];exact(Hh.mp h1).1
  exact step j z υ σ' G' u _ hz ((RP.ext sG).setF hi' rz.up) (by rw[Iq];exact hlP) (wm _ _ _ _ _ sG w) fun υ2 σ2 G2 R2 hl2 s2 w2=>⟨_,by omega,rfl,hlt,υ2,R2,hl2,s3.trans s2,w2⟩
 ·have e:j=xs.length:=by omega
  subst e;exact .inl ⟨En.stop G O Bj,fin υ σ' G RP hlP (s01.trans sP) w⟩
theorem AI(C:bG cd X ct)(hfn:X.fn=fun _=>true){n fu:Nat}{st:Stmt}{s' :IS}{τ' :En}(ts:oA n ct st=s')(h:eN cd fu s' τ=some (.nx τ'))(R:aZ X.K Hi O τ σ H)(hl:σ.length=X.N.length)(q:pq X Hi O H τ' D.nx):WS X st D σ H:=by
 subst ts;exact(BK n).s X ct Hi τ st _ C hfn h O σ H D R hl q
theorem rt_w(C:bG cd X ct)(hfn:X.fn=fun _=>true){n fu:Nat}{st:Stmt}{s' :IS}{v:PV}(ts:oA n ct st=s')(h:eN cd fu s' τ=some (.rt v))(R:aZ X.K Hi O τ σ H)(hl:σ.length=X.N.length)(q:∀u H',aC Hi H' ->Rp X.K Hi true v H' u->D.rt u H'):WS X st D σ H:=by
 subst ts;exact(BK n).s X ct Hi τ st _ C hfn h O σ H D R hl q
theorem if_w(C:bG cd X ct){n:Nat}{c:Expr}{c' :IC}{t:Bool}{a b:List Stmt}{pos:Pos}(tc:kN n ct c=c')(ht:eO cd c' τ=some t)(R:aZ X.K Hi O τ σ H)(h1:t=true->∀G,aC H G->BN X a D σ G)(h0:t=false->∀G,aC H G->BN X b D σ G):WS X (.If c a b pos) D σ H:=by
 refine ws (kw jY cO cO) ?_;rw[<- tc]at ht;refine(bS n).c X ct Hi τ c t C ht O σ H _ R fun G s=> ?_;cases t with
 | true=>exact jC (h1 rfl G s)
 | false=>exact jq (h0 rfl G s)
theorem aG.strs2{K:W.Frag}{n:Bool}{H:Hp}:∀{xs:List Str},aG K Hi n (xs.map PV.str) H (xs.map V.str)
 | []=>.nil
 | x::xs=>.cons (Rp.str.mpr rfl) aG.strs2
theorem gi{α:Type}{l:List α}{i j:Nat}{x:α}(h:l.Nodup)(hi:l[i]? =some x)(hj:l[j]? =some x):i=j:=by
 obtain⟨a,b⟩:=Hh.mp hi;obtain⟨c,d⟩:=Hh.mp hj;exact(List.getElem_inj h).mp (b.trans d.symm)
theorem aG.strs'{K:W.Frag}{n:Bool}{H:Hp}:∀{xs:List Str}{us:List V},aG K Hi n (xs.map PV.str) H us->us=xs.map V.str
 | [],us,h=>by unfold aG at h;exact h
 | x::xs,us,h=>by
  rw[Hf,aG]at h;obtain⟨u,r,rfl,a,b⟩:=h;rw[Rp.str.mp a,aG.strs' b];rfl
theorem tw(C:bG cd X ct){n:Nat}{x:Str}{i:Nat}{e ka kb:Expr}{e' ka' kb' :IE}{xp sp sp1 pos:Pos}{ra rb:RV}{z:Str}{m:Bool}{a b:Nat}{A:Addr}{g:List (List Str)}{r:List Str}(hx:loc ct x=some i)(ha1:gp ka=false)(hb1:gp kb=false)(hnc:qu e=false)
  (te:ah n ct e=e') (ta:ah n ct ka=ka') (tb:ah n ct kb=kb') (hr:aV cd e' τ=some (.frz (.str z) m)) (hra:aV cd ka' τ=some ra) (hva:ra.val=.int a) (hrb:aV cd kb' τ=some rb) (hvb:rb.val=.int b)
  (R:aZ X.K Hi O τ σ H) (no:∀(i:Nat)(t:TV),τ[i]? =some t->t.ob=none) (hA:σ[i]? =some (some (.ref A))) (hg:Gr O A g H) (hr0:g[a]? =some r) (hb0:b<r.length)
  (q:∀H',aZ X.K Hi O τ σ H' ->aC (aM H O) (aM H' O)->Gr O A (g.set a (r.set b z)) H' ->D.nx σ H'):WS X (.Assign [.Subscript (.Subscript (.Name x xp) ka sp1) kb sp] e pos) D σ H:=by
 obtain⟨h1,h2,h3,h4⟩:=dc C hx;obtain⟨o1,o2,o3⟩:=be h3;rw[<- te]at hr;rw[<- ta]at hra;rw[<- tb]at hrb
 have ha:∀v,assign (.Subscript (.Subscript (.Name x xp) ka sp1) kb sp) X.env v=(do
   let ov<-holding [v] (eval (.Subscript (.Name x xp) ka sp1) X.env)
   let iv<-holding [v,ov] (eval kb X.env)
   standAt sp
   holding [v,ov,iv] (setItem ov iv v)
   release [v,ov,iv] []):=by
  intro v;cases kb<;>first|rfl|cases hb1
 refine ws (qX aY (Cn (io fC (je h1 (lw C.S h4) o1 o2) aY (se ha1)) aY wL ha) (by cases e<;>first|rfl|cases hnc) (by cases e<;>rfl) rfl) ?_;refine(bS n).e X ct Hi _ e _ C hr O σ H _ R fun u H1 s1 ok=> ?_;have ok:Rp X.K Hi m (.str z) (aM H1 O) u:=ok;have eu:u=.str z:=Rp.str.mp ok;subst eu;refine⟨_,hA,?_⟩;refine(bS n).e X ct Hi _ ka _ C hra O σ H1 _ (R.ext s1) fun w H2 s2 ok2=> ?_;obtain⟨ds,d1,d2,d3,d4,d5,d6⟩:=hg.ext (s1.trans s2);have hal:a<ds.length:=by rw[d5];exact(Hh.mp hr0).1
 have had:ds[a]? =some ds[a]:=Hd hal;obtain⟨d,hd⟩:∃d,d=ds[a]:=⟨_,rfl⟩;rw[<- hd]at had;obtain⟨e1,e2⟩:=d6 a d r had hr0;refine⟨A,_,(a:Nat),.ref d,rfl,ok2.int (R.ext s1) s2 hva,bB.of d2,bJ (by rw[Ho,had];rfl),?_⟩;refine(bS n).e X ct Hi _ kb _ C hrb O σ H2 _ (R.ext (s1.trans s2)) fun w3 H3 s3 ok3=> ?_;have e3:=s3 _ _ e2;refine⟨d,_,(b:Nat),b,rfl,ok3.int (R.ext (s1.trans s2)) s3 hvb,e3,?_,?_⟩
 ·unfold xg
  rw[Hr (Int.natCast_nonneg b),Hr (by rw[HX];omega)];rfl
 have R3:=R.ext (s1.trans (s2.trans s3));refine q _ (R3.within no e1) (by rw[tG e1];exact aJ (s1.trans (s2.trans s3))) ?_;have dA:A≠d:=fun z=>d3 (z▸Hz had);refine⟨ds,d1,by rw[aB dA];exact s3 _ _ d2,d3,d4,by rw[Iq];exact d5,fun p c y g1 g2=> ?_⟩;rw[Je]at g2
 by_cases hp:a=p
 ·subst hp
  rw[had]at g1;cases g1;rw[Hr rfl,Hr (by rw[<- d5];exact hal)]at g2;cases g2;exact⟨e1,by rw[aD,List.map_set]⟩
 ·rw[Hl hp]at g2
  obtain⟨f1,f2⟩:=d6 p c y g1 g2;have ne:c≠d:=fun w=>hp (gi d4 had (by rw[w]at g1;exact g1));exact⟨f1,by rw[aB ne];exact s3 _ _ f2⟩
theorem Af(C:bG cd X ct)(hfn:X.fn=fun _=>true){n:Nat}{x t:Str}{i:Nat}{iter elt:Expr}{iter' :IT}{elt' :IE}{scope:Scope}{xp tp lp pos:Pos}{caps:List Nat}{xs:List PV}{k:Bool}{row:List Str}(hx:loc ct x=some i)
  (h:qp ct t scope=true) (hc:slots ct.N (frees scope)=some caps) (ti:uD n ct false iter=iter') (te:ah n (blk ct t scope) elt=elt') (hi:mr cd iter' τ=some (xs,k,false)) (hz:xs.length<=LN)
  (he:∀y∈xs,aV cd elt' (.frz y (k||imm y)::caps.map fun i=>τ.getD i .un)=some (.own (row.map .str) true))
  (R:aZ X.K Hi O τ σ H) (hl:σ.length=X.N.length)
  (q:∀(A:Addr)(O' :List Addr)(H' :Hp),aZ X.K Hi O' (τ.set i .un) (σ.set i (some (.ref A))) H' ->aC (aM H O) (aM H' O')->Gr O' A (List.replicate xs.length row) H' ->D.nx (σ.set i (some (.ref A))) H') :
  WS X (.Assign [.Name x xp] (.ListComp elt [⟨.Name t tp,iter,[],0⟩] scope lp) pos) D σ H:=by
 obtain⟨h1,h2,h3,h4,h5,h6,h7⟩:=gm h;obtain⟨x1,x2,x3,x4⟩:=dc C hx;rw[<- ti]at hi;subst te;obtain⟨gP,hset⟩:=(bS n).t X ct Hi τ false iter (.Name t tp) xs k false C (fun z=>by cases z) hi;have hmem:∀x∈frees scope,(x,NameKind.free)∈scope.names:=fun x hx=>IY (h7 x hx);have hsrc:bH X scope (t::frees scope) (none::caps.map some):=eD C hc fun x hx=>⟨h7 x hx,h4 _ (hmem x hx) rfl⟩;have hfr:ck X.env.scope scope=true:=by
  unfold ck;rw[Hx];intro y hy;rw[C.S]
  by_cases e:y.2=.free
  ·rcases h4 y hy e with z|z<;>simp[e,z]
  ·simp[e]
 have hlen:=eY hc;have hN:X.N.Nodup:=by rw[C.N];exact C.nd
 have read:CD X (t::frees scope) (none::caps.map some) scope (.Name t tp) [] elt (fun σ H R=>WI X (.Name t tp) iter σ H R) σ H (fun u H' =>D.nx (σ.set i (some u)) H'):=by
  refine gP O σ H _ R fun J H1 s1 En=> ?_;intro A hA;rw[Hl Hk]at En;have ok:∀(G:Hp)(ys:List V),aC H1 G->G A=some (.lst ys)->ye (aM H1 O) G (A::O):=by
   intro G ys sG gD;refine⟨fun l hl=> ?_,fun c o e=> ?_⟩
   ·rcases Hm.mp hl with rfl|hl
    ·exact⟨_,gD,.lst⟩
    ·obtain⟨us,e,mo⟩:=(R.own l hl).2
     exact⟨us,sG _ _ (s1 _ _ e),mo⟩
   ·unfold aM at e ⊢
    split at e
    ·cases e
    ·rename_i nb
     have ne:c≠A:=aK e hA;rw[Hl (by simp[ne,nb])];exact sG c o e
  refine⟨fun j m ys G=>m=xs.length-j/\j<=xs.length/\aC H1 G/\∃ds:List Addr,ys=ds.map V.ref/\G A=some (.lst ys)/\A∉ds/\ds.Nodup/\ds.length=j/\∀d∈ds,H1 d=none/\G d=some (.lst (row.map V.str)),
   ⟨xs.length,by simp,IN _,aI hA _,[],rfl,aD,by simp,by simp,rfl,by simp⟩,?_⟩
  rintro j m ys G ⟨rfl,hj,sG,ds,rfl,gA,dA,dn,dl,dd⟩
  by_cases hlt:j<xs.length
  ·refine .inr ⟨En.go G (A::O) j (ok G _ sG gA) hlt,fun u G' y=> ?_⟩
   obtain⟨sGG,y,hy,ry⟩:=En.yld G (A::O) j u G' (ok G _ sG gA) hlt y;intro Cf s2 H2 fp cl;have C' :=C.blk h Cf s2 H2 fp cl;have gA' :=sGG _ _ gA
   have RB:aZ X.K Hi (A::O) (.frz y (k||imm y)::caps.map fun i=>τ.getD i .un) (some u::bF (caps.map some) σ) G' :=
    (R.hide (s1.trans (sG.trans sGG)) (s1.free hA) gA').block (dj hc (IQ.mp h5).2) ry.up
   refine⟨lK 0,sO,_,ar h5 rfl (eX h6) (iF h6),eF,aY,?_⟩;refine⟨kG (by simp[hlen]),?_⟩;refine(bS n).e _ _ Hi _ elt _ C' (he y (Hz hy)) (A::O) _ G' _ RB fun w G5 s5 r5=> ?_;obtain⟨p,us,rfl,p0,p1,pr⟩:=r5;have eu:us=row.map V.str:=aG.strs' pr;subst eu;have pA:p≠A:=fun z=>by rw[z,gA']at p0;cases p0
   have pd:p∉ds:=fun z=>by rw[sGG _ _ (dd p z).2]at p0;cases p0
   have gA5:=s5 _ _ gA';have sT:=sG.trans (sGG.trans s5);have hz' :xs.length<=16777216:=hz;refine⟨gA5,by rw[dv,HX];omega,xs.length-(j+1),by omega,rfl,hlt,sT.upd hA,ds++[p],by rw[IJ];rfl,aD,?_,?_,by rw[IA,dl];rfl,fun d hd=> ?_⟩
   ·rw[ID,IZ]
    exact fun z=>z.elim dA (Ja pA)
   ·exact JG.mpr ⟨dn,by simp,fun a ha b hb z=>pd (by rw[IZ]at hb;rw[<- hb,<-z];exact ha)⟩
   ·rcases ID.mp hd with hd|hd
    ·obtain⟨f1,f2⟩:=dd d hd
     exact⟨f1,by rw[aB (show d≠A from fun z=>dA (by rw[<- z];exact hd))];exact s5 _ _ (sGG _ _ f2)⟩
    ·rw[IZ]at hd
     subst hd;exact⟨(sG.trans sGG).free p0,by rw[aB pA];exact p1⟩
  ·have e:j=xs.length:=by omega
   subst e;refine .inl ⟨En.stop G (A::O) (ok G _ sG gA),?_⟩;have hd:∀d∈A::ds,H d=none/\∃us,G d=some (.lst us):=fun d hd=>by
    rcases Hm.mp hd with rfl|hd
    ·exact⟨s1.free hA,_,gA⟩
    ·exact⟨s1.free (dd d hd).1,_,(dd d hd).2⟩
   obtain⟨R',sh⟩:=R.hides (s1.trans sG) hd;refine q A _ G R'.setN sh ⟨ds,He,gA,dA,dn,by rw[Jb];exact dl,fun p d r e1 e2=> ?_⟩;have hm:=Hz e1;rw[List.getElem?_replicate]at e2
   split at e2
   ·cases e2
    exact⟨IG _ (HZ _ hm),(dd d hm).2⟩
   ·cases e2
 by_cases hcc:X.env.kindOf x=some .local
 ·obtain⟨b,hb⟩:∃b,swapsWith (.ListComp elt [⟨.Name t tp,iter,[],0⟩] scope lp) (some (.Name x xp)) pos.line X.env=pure b:=⟨_,rfl⟩
  cases b with
  | true=>exact ws (oO C.calm qY hsrc h1 h2 h3 hfr (dY hset) hN x1 x2 (.inl (by rw[hfn])) hb) read
  | false=>exact ws (dW hN x1 x2 (oT C.calm qY hsrc h1 h2 h3 hfr (dY hset)) hb (.inl (by rw[hfn]))) read
 ·exact ws (dW hN x1 x2 (oT C.calm qY hsrc h1 h2 h3 hfr (dY hset)) (xJ (.inr hcc)) (.inl (by rw[hfn]))) read
theorem aZ.shown{K:W.Frag}{i:Nat}{A:Addr}{g:List (List Str)}(R:aZ K Hi O τ σ H)(no:∀(i:Nat) (t:TV),τ[i]? =some t->t.ob=none)(hA:σ[i]? =some (some (.ref A)))(hg:Gr O A g H) :
  aZ K Hi [] (τ.set i (.frz (.lst (g.map fun r=>.lst (r.map .str))) true)) σ H/\aC (aM H O) (aM H []):=by
 have sh:aC (aM H O) (aM H []):=mf fun b hb=>by cases hb
 have R0:aZ K Hi [] τ σ H:=⟨R.same,fun l hl=>(by cases hl),fun j v n e=>(by obtain⟨u,h1,h2⟩:=R.frz j v n e;exact⟨u,h1,h2.mono sh⟩),fun j t b xs n e ht=>(by rw[no j t e]at ht;cases ht),R.dst⟩;obtain⟨ds,d1,d2,d3,d4,d5,d6⟩:=hg;have key:∀(g:List (List Str))(es:List Addr),es.length=g.length->(∀(q:Nat)(d:Addr)(r:List Str),es[q]? =some d->g[q]? =some r->Hi d=none/\del H A d=some (.lst (r.map V.str)))->aG K Hi true (g.map fun r=>.lst (r.map .str)) (del H A) (es.map V.ref):=by
  intro g
  induction g with
  | nil =>
   intro es hl _;cases es with
   | nil=>exact .nil
   | cons _ _=>cases hl
  | cons r g ih =>
   intro es hl h;cases es with
   | nil=>cases hl
   | cons d es =>
    obtain⟨f1,f2⟩:=h 0 d r rfl rfl;refine .cons (Rp.lst.mpr ⟨d,_,rfl,fun _=>⟨f1,f2⟩,bB.of f2,?_⟩) (ih es (Nat.succ.inj hl) fun q c y e1 e2=>h (q+1) c y e1 e2);exact aG.strs2
 have hd:∀(q:Nat)(d:Addr)(r:List Str),ds[q]? =some d->g[q]? =some r->Hi d=none/\del H A d=some (.lst (r.map V.str)):=fun q d r e1 e2=>by
  obtain⟨f1,f2⟩:=d6 q d r e1 e2;refine⟨(R.own d f1).1,?_⟩;unfold del;rw[Hl (show d≠A from fun z=>d3 (by rw[<- z];exact Hz e1))];exact f2
 have hi:i<σ.length:=(Hh.mp hA).1
 have:=R0.setF (i:=i) (v:=.lst (g.map fun r=>.lst (r.map .str))) (n:=true) (u:=.ref A) hi (by
  rw[tH];exact Rp.lst.mpr ⟨A,_,rfl,fun _=>⟨(R.own A d1).1,d2⟩,bB.of d2,key g ds d5 hd⟩)
 have e:σ.set i (some (.ref A))=σ:=by
  refine Jf fun j=> ?_;rw[Je]
  split
  ·rename_i z
   subst z
   first|rw[Hr hi,hA]|rw[hA]
  ·rfl
 rw[e]at this;exact⟨this,sh⟩
end
end IR
namespace IR
open PySem
theorem yX(a b:Nat):Builtin.bitAnd (a:Int) (b:Int)=((a &&& b:Nat):Int):=by
 unfold Builtin.bitAnd;have h1:decide ((0:Int)<=(a:Int))=true:=by simp
 have h2:decide ((0:Int)<=(b:Int))=true:=by simp
 rw[h1,h2];simp
theorem pW(a:Nat):Builtin.bitNot (a:Int)= -(a:Int)-1:=by unfold Builtin.bitNot;omega
theorem tW(a b:Nat):Builtin.bitOr (a:Int) (b:Int)=((a ||| b:Nat):Int):=by
 unfold Builtin.bitOr Builtin.bitAnd;rw[pW,pW];have h1:decide ((0:Int)<= -(a:Int)-1)=false:=by simp;omega
 have h2:decide ((0:Int)<= -(b:Int)-1)=false:=by simp;omega
 rw[h1,h2];dsimp only;have e1:(Builtin.bitNot (-(a:Int)-1)).toNat=a:=by unfold Builtin.bitNot;omega
 have e2:(Builtin.bitNot (-(b:Int)-1)).toNat=b:=by unfold Builtin.bitNot;omega
 rw[e1,e2];unfold Builtin.bitNot;omega
theorem eG:∀(n:Nat)(l:List Nat),l.Nodup->(∀x∈l,x<n)->l.length<=n
 | 0,l,_,h=>by
  cases l with
  | nil=>simp
  | cons x l=>exact absurd (h x He) (by omega)
 | n+1,l,nd,h=>by
  by_cases hn:n∈l
  ·have h1:=eG n (l.erase n) (nd.erase n) fun x hx=>by
    have:=(nd.mem_erase_iff).mp hx;have:=h x this.2;omega
   rw[List.length_erase_of_mem hn]at h1;omega
  ·have:=eG n l nd fun x hx=>by
    have h2:=h x hx;have:x≠n:=fun z=>hn (z▸hx);omega
   omega
noncomputable def ay(c:aO):Prop:=(c.map (·.1)).Nodup/\∀p∈c,(∃n:Nat,p.1=(n:Int)/\n<256)/\0<p.2
theorem ay.len{c:aO}(h:ay c):c.length<=256:=by
 have nd:((c.map (·.1)).map Int.toNat).Nodup:=by
  rw[List.nodup_iff_pairwise_ne,Js];refine(List.nodup_iff_pairwise_ne.mp h.1).imp_of_mem fun{a b} ha hb hne e=>hne ?_;obtain⟨p,hp,rfl⟩:=Hn.mp ha;obtain⟨q,hq,rfl⟩:=Hn.mp hb;obtain⟨⟨m,em,_⟩,_⟩:=h.2 p hp;obtain⟨⟨n,en,_⟩,_⟩:=h.2 q hq;rw[em,en]at e ⊢;omega
 have:=eG 256 _ nd fun x hx=>by
  obtain⟨y,hy,rfl⟩:=Hn.mp hx;obtain⟨p,hp,rfl⟩:=Hn.mp hy;obtain⟨⟨m,em,hm⟩,_⟩:=h.2 p hp;rw[em];omega
 simpa using this
noncomputable def cU(φ:Int->Int):aO->Int
 | []=>0
 | p::c=>p.2*φ p.1+cU φ c
theorem sH(φ:Int->Int):∀c d:aO,cU φ (c++d)=cU φ c+cU φ d
 | [],d=>by simp[cU]
 | p::c,d=>by rw[List.cons_append,cU,cU,sH φ c d];omega
theorem tf{c:aO}{k:Int}:(c.any fun p=>decide (p.1=k))=true↔k∈c.map (·.1):=by
 rw[Jl,Hn]
 constructor
 ·rintro⟨p,hp,e⟩
  exact⟨p,hp,Ib e⟩
 ·rintro⟨p,hp,e⟩
  exact⟨p,hp,IW e⟩
theorem zX{c:aO}{k v:Int}(h:k∉c.map (·.1)):c.map (fun p=>if p.1=k then(p.1,v)else p)=c:=by
 induction c with
 | nil=>rfl
 | cons p c ih =>
  rw[Hf]at h ⊢;have h1:¬p.1=k:=fun z=>h (by rw[z];exact He);rw[Hl h1,ih fun z=>h (HZ _ z)]
theorem tN{c:aO}{k:Int}(h:k∈c.map (·.1)):∃v,aj c k=some v/\(k,v)∈c:=by
 unfold aj
 induction c with
 | nil=>cases h
 | cons p c ih =>
  rw[Io]
  by_cases e:p.1=k
  ·refine⟨p.2,by simp[e],?_⟩
   subst e;exact He
  ·have h' :k∈c.map (·.1):=by
    rw[Hf]at h
    rcases Hm.mp h with z|z
    ·exact absurd z.symm e
    ·exact z
   obtain⟨v,hv,hm⟩:=ih h';refine⟨v,?_,HZ _ hm⟩;simp only[e,Jm];exact hv
theorem o8{c:aO}{k:Int}(h:k∉c.map (·.1)):aj c k=none:=by
 unfold aj;rw[List.find?_eq_none.mpr]
 ·rfl
 ·intro p hp e
  exact h (Hn.mpr ⟨p,hp,Ib e⟩)
theorem nj(φ:Int->Int){k v w:Int}:∀{c:aO},(c.map (·.1)).Nodup->aj c k=some v->cU φ (c.map (fun p=>if p.1=k then(p.1,w)else p))=cU φ c+(w-v)*φ k
 | [],_,h=>by cases h
 | p::c,nd,h=>by
  rw[Hf]at nd ⊢;have nd2:=IQ.mp nd
  by_cases e:p.1=k
  ·subst e
   rw[Hr rfl,zX nd2.1];have hv:v=p.2:=by
    unfold aj at h;rw[Io]at h;simp at h;exact h.symm
   subst hv;rw[cU,cU,Int.sub_mul];dsimp only;omega
  ·have h' :aj c k=some v:=by
    unfold aj at h ⊢;rw[Io]at h;simp only[e,Jm]at h;exact h
   rw[Hl e,cU,cU,nj φ nd2.2 h'];omega
theorem sZ{c:aO}{k v:Int}(h:k∈c.map (·.1)):cS c k v=c.map (fun p=>if p.1=k then(p.1,v)else p):=by
 unfold cS;rw[Hr (tf.mpr h)]
theorem oK{c:aO}{k v:Int}(h:k∉c.map (·.1)):cS c k v=c++[(k,v)]:=by
 unfold cS;rw[Hl fun z=>h (tf.mp z)]
theorem BM(φ:Int->Int){c:aO}(nd:(c.map (·.1)).Nodup)(k n:Int):cU φ (vK c k n)=cU φ c+n*φ k:=by
 unfold vK
 by_cases h:k∈c.map (·.1)
 ·obtain⟨v,hv,_⟩:=tN h
  rw[sZ h,hv,nj φ nd hv]
  congr 2
  simp;omega
 ·rw[oK h,o8 h,sH]
  simp[cU]
theorem vJ{c:aO}(h:ay c){m:Nat}(hm:m<256){n:Int}(hn:0<n):ay (vK c (m:Int) n):=by
 unfold vK
 by_cases hk:((m:Int))∈c.map (·.1)
 ·obtain⟨v,hv,hmem⟩:=tN hk
  rw[sZ hk,hv];have e:(c.map (fun p=>if p.1=(m:Int)then(p.1,(some v).getD 0+n)else p)).map (·.1)=c.map (·.1):=by
   rw[Ia];refine JH fun p _=> ?_;dsimp only[Function.comp]
   split<;>rfl
  refine⟨by rw[e];exact h.1,fun p hp=> ?_⟩;obtain⟨p0,hp0,rfl⟩:=Hn.mp hp;obtain⟨h1,h2⟩:=h.2 p0 hp0
  split
  ·refine⟨h1,?_⟩
   have:=(h.2 _ hmem).2;show 0<v+n;omega
  ·exact⟨h1,h2⟩
 ·rw[oK hk,o8 hk]
  refine⟨?_,fun p hp=> ?_⟩
  ·rw[IJ,JG]
   refine⟨h.1,by simp,fun a ha b hb e=> ?_⟩;have hb:b=(m:Int):=by simpa using hb
   rw[hb]at e;rw[e]at ha;exact hk ha
  ·rcases ID.mp hp with z|z
   ·exact h.2 p z
   ·have:p=((m:Int),none.getD 0+n):=by simpa using z
    rw[this];exact⟨⟨m,rfl,hm⟩,by show 0<0+n;omega⟩
noncomputable def cy(B:List Int):Prop:=∀b∈B,∃n:Nat,b=((2^n:Nat):Int)/\n<8
theorem F7{a b:Nat}(ha:a<256)(hb:b<256):a ||| b<256:=Nat.or_lt_two_pow (n:=8) ha hb
theorem jV{c:aO}(h:ay c){t:Nat}(ht:t<256){n:Int}(hn:0<n){j:Nat}(hj:j<8):ay (bR (t:Int) n c ((2^j:Nat):Int)):=by
 unfold bR
 split
 ·rw[tW]
  exact vJ h (F7 ht (Nat.pow_lt_pow_right (by decide) (show j<8 from hj))) hn
 ·exact h
theorem gH{t:Nat}(ht:t<256){n:Int}(hn:0<n):∀{B:List Int}{c:aO},cy B->ay c->ay (B.foldl (bR (t:Int) n) c)
 | [],c,_,h=>h
 | b::B,c,hB,h=>by
  obtain⟨j,rfl,hj⟩:=hB b He;exact gH (B:=B) ht hn (fun b hb=>hB b (HZ _ hb)) (jV h ht hn hj)
theorem nu{B:List Int}(hB:cy B):∀{lev c:aO},ay lev->ay c->ay (yo B c lev)
 | [],c,_,h=>h
 | p::lev,c,hl,h=>by
  obtain⟨⟨t,et,ht⟩,hp⟩:=hl.2 p He;have h1:ay (cf B c p):=by
   unfold cf;rw[et];exact gH ht hp hB h
  exact nu (lev:=lev) hB ⟨(IQ.mp (show(p.1::lev.map (·.1)).Nodup from hl.1)).2,fun q hq=>hl.2 q (HZ _ hq)⟩ h1
theorem gr:ay []:=⟨by simp,fun p hp=>by cases hp⟩
theorem sD{Ls:List aO}{B:List Int}(hB:cy B)(h:∀c∈Ls,ay c):∀i,∀c∈wl Ls B i,ay c
 | 0,c,hc=>by
  rcases ID.mp hc with z|z
  ·exact h c z
  ·have:c=[]:=by simpa using z
   rw[this];exact gr
 | i+1,c,hc=>by
  rw[wl]at hc;have ih:=sD hB h i
  rcases Kc hc with z|z
  ·exact ih c z
  ·rw[z]
   refine nu hB ?_ ?_
   ·rw[Hc]
    cases e:Ls[i]? with
    | none=>exact gr
    | some d=>exact h d (Hz e)
   ·rw[Hc]
    cases e:(wl Ls B i)[i+1]? with
    | none=>exact gr
    | some d=>exact ih d (Hz e)
noncomputable def ci(Bs:List (List Int)):List aO:=Bs.foldl (fun Ls B=>wl Ls B Ls.length) [[(0,1)]]
theorem iO(Bs:List (List Int))(B:List Int):ci (Bs++[B])=wl (ci Bs) B (ci Bs).length:=by unfold ci;rw[List.foldl_append];rfl
theorem eM{α:Type}{P:List α->Prop}(h0:P [])(hs:∀l x,P l->P (l++[x])):∀l,P l:=by
 intro l;have:∀r:List α,P r.reverse:=by
  intro r
  induction r with
  | nil=>exact h0
  | cons x r ih=>rw[List.reverse_cons];exact hs _ _ ih
 have:=this l.reverse
 rwa [List.reverse_reverse]at this
theorem fA{Bs:List (List Int)}(h:∀B∈Bs,cy B):(ci Bs).length=Bs.length+1/\∀c∈ci Bs,ay c:=by
 revert h
 refine eM (P:=fun Bs=>(∀B∈Bs,cy B)->(ci Bs).length=Bs.length+1/\∀c∈ci Bs,ay c) ?_ ?_ Bs
 ·intro _
  refine⟨rfl,fun c hc=> ?_⟩;have:c=[(0,1)]:=by simpa [ci]using hc
  rw[this];refine⟨by simp,fun p hp=> ?_⟩;have:p=(0,1):=by simpa using hp
  rw[this];exact⟨⟨0,rfl,by decide⟩,by decide⟩
 ·intro l B ih h
  obtain⟨h1,h2⟩:=ih fun B hB=>h B (IG _ hB);rw[iO];refine⟨by rw[lq,h1,IA];simp,sD (h B (by simp)) h2 _⟩
noncomputable def iG(c:aO):Int:=(c.map (·.2)).sum
noncomputable def zV(Ls:List aO):List Int:=(Ls.filter fun c=>decide (0<c.length)).map iG
noncomputable def cz{α:Type}(l:List α)(f:α->Int):Int:=(l.map f).sum
theorem ba{α:Type}(x:α)(l:List α)(f:α->Int):cz (x::l) f=f x+cz l f:=by unfold cz;rw[Hf,Jh]
theorem eC{α:Type}(f:α->Int):cz ([]:List α) f=0:=rfl
theorem qK{α:Type}{l:List α}{f g:α->Int}(h:∀x∈l,f x=g x):cz l f=cz l g:=by unfold cz;rw[JH h]
theorem cK{α:Type}{l:List α}{f:α->Int}(h:∀x∈l,0<=f x):0<=cz l f:=by
 induction l with
 | nil=>exact KO _
 | cons x l ih =>
  rw[ba];have h1:=h x He;have h2:=ih fun y hy=>h y (HZ _ hy);omega
noncomputable def cnt:List (List Nat)->List Nat->Nat->Int
 | [],_,0=>1
 | [],_,_+1=>0
 | _::rs,T,0=>cnt rs T 0
 | r::rs,T,k+1=>cnt rs T (k+1)+cz (r.filter fun c=> !T.contains c) fun c=>cnt rs (c::T) k
theorem gz:∀(rs:List (List Nat))(T:List Nat),cnt rs T 0=1
 | [],_=>rfl
 | _::rs,T=>by rw[cnt];exact gz rs T
theorem ak:∀(rs:List (List Nat))(T:List Nat)(k:Nat),0<=cnt rs T k
 | [],_,0=>by rw[cnt];decide
 | [],_,_+1=>by rw[cnt];decide
 | _::rs,T,0=>by rw[cnt];exact ak rs T 0
 | r::rs,T,k+1=>by
  rw[cnt];have h1:=ak rs T (k+1);have h2:0<=cz (r.filter fun c=> !T.contains c) fun c=>cnt rs (c::T) k:=cK fun c _=>ak rs (c::T) k;omega
theorem fF:∀(rs:List (List Nat)){T T' :List Nat}(k:Nat),(∀r∈rs,∀c∈r,T.contains c=T'.contains c)->cnt rs T k=cnt rs T' k
 | [],_,_,0,_=>rfl
 | [],_,_,_+1,_=>rfl
 | _::rs,T,T',0,h=>by rw[cnt,cnt];exact fF rs 0 fun r hr=>h r (HZ _ hr)
 | r::rs,T,T',k+1,h=>by
  rw[cnt,cnt,fF rs (k+1) fun r hr=>h r (HZ _ hr)];have e:(r.filter fun c=> !T.contains c)=r.filter fun c=> !T'.contains c:=List.filter_congr fun c hc=>by rw[h r He c hc]
  rw[e];refine Ix (_+·) (qK fun c _=>fF rs k fun r' hr' d hd=> ?_);rw[J3,J3,h r' (HZ _ hr') d hd]
theorem lu(φ χ:Int->Int):∀c:aO,cU (fun m=>φ m+χ m) c=cU φ c+cU χ c
 | []=>by simp[cU]
 | p::c=>by rw[cU,cU,cU,lu φ χ c,Int.mul_add];omega
theorem iB{φ χ:Int->Int}:∀{c:aO},(∀p∈c,φ p.1=χ p.1)->cU φ c=cU χ c
 | [],_=>rfl
 | p::c,h=>by rw[cU,cU,h p He,iB fun q hq=>h q (HZ _ hq)]
noncomputable def Sb(B:List Int)(φ:Int->Int)(m:Int):Int:=cz B fun b=>if Builtin.bitAnd m b=0 then φ (Builtin.bitOr m b)else 0
theorem lN(φ:Int->Int){t:Nat}(ht:t<256){n:Int}(hn:0<n):∀{B:List Int}{c:aO},cy B->ay c->cU φ (B.foldl (bR (t:Int) n) c)=cU φ c+n*Sb B φ (t:Int)
 | [],c,_,_=>by
  rw[List.foldl_nil];unfold Sb;rw[eC];omega
 | b::B,c,hB,h=>by
  obtain⟨j,rfl,hj⟩:=hB b He;rw[List.foldl_cons,lN φ ht hn (B:=B) (fun b hb=>hB b (HZ _ hb)) (jV h ht hn hj)];have e:cU φ (bR (t:Int) n c ((2^j:Nat):Int))=cU φ c+n*(if Builtin.bitAnd (t:Int) ((2^j:Nat):Int)=0 then φ (Builtin.bitOr (t:Int) ((2^j:Nat):Int))else 0):=by
   unfold bR
   split
   ·rw[BM φ h.1]
   ·simp
  rw[e];unfold Sb;rw[ba,Int.mul_add];omega
theorem lx(φ:Int->Int){B:List Int}(hB:cy B):∀{lev c:aO},ay lev->ay c->cU φ (yo B c lev)=cU φ c+cU (Sb B φ) lev
 | [],c,_,_=>by simp[yo,cU]
 | p::lev,c,hl,h=>by
  obtain⟨⟨t,et,ht⟩,hp⟩:=hl.2 p He;have hl2:ay lev:=⟨(IQ.mp (show(p.1::lev.map (·.1)).Nodup from hl.1)).2,fun q hq=>hl.2 q (HZ _ hq)⟩;have h1:ay (cf B c p):=by
   unfold cf;rw[et];exact gH ht hp hB h
  have e:yo B c (p::lev)=yo B (cf B c p) lev:=rfl;rw[e,lx φ hB hl2 h1,cU];have e2:cU φ (cf B c p)=cU φ c+p.2*Sb B φ p.1:=by
   unfold cf;rw[et];exact lN φ ht hp hB h
  rw[e2];omega
noncomputable def yx(B:List Int):aO->List aO->List aO
 | prev,[]=>[yo B [] prev]
 | prev,c::Ls=>yo B c prev::yx B c Ls
theorem sE(B:List Int):∀(prev:aO)(Ls:List aO)(j:Nat),(yx B prev Ls)[j]? =if j<=Ls.length then some (yo B ((Ls++[[]]).getD j []) ((prev::Ls).getD j []))else none
 | prev,[],0=>rfl
 | prev,[],j+1=>by simp[yx]
 | prev,c::Ls,0=>by simp[yx]
 | prev,c::Ls,j+1=>by
  rw[yx,JE,sE B c Ls j];simp
theorem pz(Ls:List aO)(B:List Int):∀(i j:Nat),i<=Ls.length->(wl Ls B i)[j]? =if j=0\/i<j then(Ls++[[]])[j]? else some (yo B ((Ls++[[]]).getD j []) (Ls.getD (j-1) []))
 | 0,j,_=>by
  rw[wl]
  by_cases h:j=0\/0<j
  ·rw[Hr h]
  ·omega
 | i+1,j,hi=>by
  rw[wl,Je,lq]
  by_cases h:i+1=j
  ·subst h
   rw[Hr rfl,Hr (by omega),Hl (by omega),Hc,pz Ls B i (i+1) (by omega),Hr (.inr (by omega)),<-Hc];rfl
  ·rw[Hl h,pz Ls B i j (by omega)]
   by_cases h2:j=0\/i<j
   ·rw[Hr h2,Hr (by omega)]
   ·rw[Hl h2,Hl (by omega)]
theorem By(c:aO)(r:List aO)(B:List Int):wl (c::r) B (c::r).length=c::yx B c r:=by
 refine Jf fun j=> ?_;rw[pz _ _ _ _ (Hg _)];cases j with
 | zero=>simp
 | succ j =>
  rw[JE,sE,IL]
  by_cases h:j<=r.length
  ·rw[Hl (by omega),Hr h]
   simp
  ·rw[Hr (.inr (by omega)),Hl h]
   rw[IV (by simp;omega)]
noncomputable def bZ(ψ:Nat->Int->Int):List aO->Int
 | []=>0
 | c::Ls=>cU (ψ 0) c+bZ (fun q=>ψ (q+1)) Ls
theorem fq:∀{ψ χ:Nat->Int->Int}{Ls:List aO},(∀q,∀c∈Ls,∀p∈c,ψ q p.1=χ q p.1)->bZ ψ Ls=bZ χ Ls
 | _,_,[],_=>rfl
 | ψ,χ,c::Ls,h=>by
  rw[bZ,bZ,iB fun p hp=>h 0 c He p hp,fq fun q d hd p hp=>h (q+1) d (HZ _ hd) p hp]
theorem oB{B:List Int}(hB:cy B):∀(r:List aO)(ψ:Nat->Int->Int)(prev:aO),ay prev->(∀c∈r,ay c)->bZ ψ (yx B prev r)=cU (Sb B (ψ 0)) prev+bZ (fun q m=>ψ q m+Sb B (ψ (q+1)) m) r
 | [],ψ,prev,hp,_=>by
  rw[yx,bZ,bZ,bZ,lx _ hB hp gr];simp[cU]
 | c::r,ψ,prev,hp,hr=>by
  have hc:=hr c He;rw[yx,bZ,bZ,lx _ hB hp hc,oB hB r (fun q=>ψ (q+1)) c hc fun d hd=>hr d (HZ _ hd),lu];omega
theorem zG{B:List Int}(hB:cy B){Ls:List aO}(h0:Ls≠[])(h:∀c∈Ls,ay c)(ψ:Nat->Int->Int):bZ ψ (wl Ls B Ls.length)=bZ (fun q m=>ψ q m+Sb B (ψ (q+1)) m) Ls:=by
 cases Ls with
 | nil=>exact absurd rfl h0
 | cons c r =>
  rw[By,bZ,oB hB r _ c (h c He) fun d hd=>h d (HZ _ hd),bZ,lu];omega
noncomputable def gy(m:Nat):List Nat:=(List.range 8).filter fun c=>m.testBit c
theorem iU{m c:Nat}(hc:c<8):(gy m).contains c=m.testBit c:=by
 unfold gy;rw[Jc,IK,Ih,Ii];exact⟨fun h=>h.2,fun h=>⟨hc,h⟩⟩
theorem BJ(m c:Nat):(m &&& 2^c=0)↔m.testBit c=false:=by
 constructor
 ·intro h
  have:=Ix (fun x=>Nat.testBit x c) h
  simpa [Nat.testBit_and,Nat.testBit_two_pow_self]using this
 ·intro h
  refine Nat.eq_of_testBit_eq fun i=> ?_;rw[Nat.testBit_and,Nat.zero_testBit,Nat.testBit_two_pow]
  by_cases e:c=i
  ·subst e
   simp[h]
  ·simp[e]
noncomputable def cL(r:List Nat):List Int:=r.map fun c=>((2^c:Nat):Int)
theorem gO{r:List Nat}(h:∀c∈r,c<8):cy (cL r):=fun b hb=>by
 obtain⟨c,hc,rfl⟩:=Hn.mp hb;exact⟨c,rfl,h c hc⟩
noncomputable def vM(aU:List (List Nat))(k q:Nat)(m:Int):Int:=if q<=k then cnt aU (gy m.toNat) (k-q)else 0
theorem CM{r:List Nat}(hr:∀c∈r,c<8){aU:List (List Nat)}(hrest:∀r∈aU,∀c∈r,c<8)(k q:Nat)(m:Nat):Sb (cL r) (vM aU k (q+1)) (m:Int)=if q+1<=k then cz (r.filter fun c=> !(gy m).contains c) (fun c=>cnt aU (c::gy m) (k-(q+1)))else 0:=by
 induction r with
 | nil =>
  unfold Sb cL;rw[Ip,eC,List.filter_nil,eC]
  split<;>rfl
 | cons c r ih =>
  have hc:=hr c He;have ih:=ih fun d hd=>hr d (HZ _ hd);have e0:Sb (cL (c::r)) (vM aU k (q+1)) (m:Int)=(if Builtin.bitAnd (m:Int) ((2^c:Nat):Int)=0 then vM aU k (q+1) (Builtin.bitOr (m:Int) ((2^c:Nat):Int))else 0)+Sb (cL r) (vM aU k (q+1)) (m:Int):=by
   unfold Sb cL;rw[Hf,ba]
  rw[e0,ih,yX,tW,KG,iU hc];have e1:(((m &&& 2^c:Nat):Int)=0)↔m.testBit c=false:=by
   rw[<- BJ];omega
  cases hb:m.testBit c with
  | true =>
   rw[Hl (fun z=>by have:=e1.mp z;rw[hb]at this;cases this)];simp
  | false =>
   rw[Hr (e1.mpr hb)];simp only[Bool.not_false,KR];unfold vM
   by_cases hk:q+1<=k
   ·rw[Hr hk,Hr hk,Hr hk,ba]
    refine Ix (·+_) (fF aU _ fun r' hr' d hd=> ?_);have hd8:=hrest r' hr' d hd;rw[show((m ||| 2^c:Nat):Int).toNat=m ||| 2^c by simp,iU hd8,J3,iU hd8,Nat.testBit_or,Nat.testBit_two_pow,Bool.or_comm]
    congr 1
    by_cases e:c=d
    ·subst e;simp
    ·have:¬d=c:=fun z=>e z.symm
     simp[e,this]
   ·rw[Hl hk,Hl hk,Hl hk]
    rfl
theorem wd{r:List Nat}(hr:∀c∈r,c<8){aU:List (List Nat)}(hrest:∀r∈aU,∀c∈r,c<8)(k q:Nat)(m:Nat):vM aU k q (m:Int)+Sb (cL r) (vM aU k (q+1)) (m:Int)=vM (r::aU) k q (m:Int):=by
 rw[CM hr hrest];unfold vM
 by_cases hq:q<=k
 ·rw[Hr hq,Hr hq]
  cases e:k-q with
  | zero =>
   rw[Hl (by omega),cnt];omega
  | succ j =>
   rw[Hr (by omega),show k-(q+1)=j by omega];show _=cnt (r::aU) (gy m) (j+1);rw[cnt];simp
 ·rw[Hl hq,Hl hq,Hl (by omega)]
  rfl
noncomputable def nK(rows:List (List Nat)):Prop:=∀r∈rows,∀c∈r,c<8
theorem xN(k:Nat):∀(rows aU:List (List Nat)),nK rows->nK aU->bZ (vM aU k) (ci (rows.map cL))=cnt (rows++aU) [] k:=by
 intro rows;refine eM (P:=fun rows=>∀aU,nK rows->nK aU->bZ (vM aU k) (ci (rows.map cL))=cnt (rows++aU) [] k) ?_ ?_ rows
 ·intro aU _ _
  have e:ci (([]:List (List Nat)).map cL)=[[(0,1)]]:=rfl;rw[e,bZ,bZ,cU,cU];unfold vM;rw[Hr (IN _)];have e2:gy (Int.toNat (0,1).1)=[]:=rfl;show(1:Int)*cnt aU (gy (Int.toNat 0)) (k-0)+0+0=_;have e3:gy (Int.toNat 0)=[]:=rfl;rw[e3,Nat.sub_zero,List.nil_append];omega
 ·intro l r ih aU h1 h2
  have hr:∀c∈r,c<8:=h1 r (by simp);have hl:nK l:=fun r' hr' =>h1 r' (IG _ hr');have hg:∀B∈l.map cL,cy B:=fun B hB=>by
   obtain⟨r',hr',rfl⟩:=Hn.mp hB;exact gO (hl r' hr')
  obtain⟨g1,g2⟩:=fA hg;rw[IJ,Hf,Ip,iO,zG (gO hr) (fun z=>by rw[z]at g1;simp at g1) g2,List.append_assoc];have h3:nK (r::aU):=fun r' hr' =>by
   rcases Hm.mp hr' with z|z
   ·rw[z];exact hr
   ·exact h2 r' z
  rw[show[r]++aU=r::aU from rfl,<-ih (r::aU) hl h3];refine fq fun q c hc p hp=> ?_;obtain⟨⟨m,em,_⟩,_⟩:=(g2 c hc).2 p hp;rw[em];exact wd hr h2 k q m
theorem sF:∀c:aO,cU (fun _=>1) c=iG c
 | []=>rfl
 | p::c=>by rw[cU,sF c];unfold iG;rw[Hf,Jh];omega
theorem jN:∀c:aO,cU (fun _=>0) c=0
 | []=>rfl
 | p::c=>by rw[cU,jN c];omega
theorem sM:∀(Ls:List aO)(k:Nat),bZ (fun q _=>if q=k then 1 else 0) Ls=iG (Ls.getD k [])
 | [],k=>by simp[bZ,iG]
 | c::Ls,0=>by
  rw[bZ];have e1:(fun _:Int=>if 0=0 then(1:Int)else 0)=fun _=>1:=rfl;have e2:∀Ls:List aO,bZ (fun q _=>if q+1=0 then(1:Int)else 0) Ls=0:=by
   intro Ls;have h:∀(Ls:List aO)(ψ:Nat->Int->Int),(∀q m,ψ q m=0)->bZ ψ Ls=0:=by
    intro Ls
    induction Ls with
    | nil=>intro _ _;rfl
    | cons d Ls ih =>
     intro ψ hψ;rw[bZ,ih _ fun q m=>hψ (q+1) m,iB (χ:=fun _=>0) fun p _=>hψ 0 p.1,jN];rfl
   exact h Ls _ fun q m=>by simp
  rw[e1,e2 Ls,sF];simp
 | c::Ls,k+1=>by
  rw[bZ];have e1:cU (fun _:Int=>if 0=k+1 then(1:Int)else 0) c=0:=by
   have:(fun _:Int=>if 0=k+1 then(1:Int)else 0)=fun _=>0:=by funext _;simp
   rw[this,jN]
  have e2:(fun(q:Nat) (_:Int)=>if q+1=k+1 then(1:Int)else 0)=fun q _=>if q=k then 1 else 0:=by funext q _;simp
  rw[e1,e2,sM Ls k];simp
theorem xO(rows:List (List Nat))(h:nK rows)(k:Nat):iG ((ci (rows.map cL)).getD k [])=cnt rows [] k:=by
 have e:=xN k rows [] h (fun r hr=>by cases hr);rw[JR]at e;rw[<- e,<-sM];refine fq fun q c _ p _=> ?_;unfold vM
 by_cases hq:q=k
 ·subst hq
  rw[Hr rfl,Hr (Hg _),Nat.sub_self,cnt]
 ·rw[Hl hq]
  by_cases h2:q<=k
  ·rw[Hr h2]
   cases e:k-q with
   | zero=>omega
   | succ j=>rw[cnt]
  ·rw[Hl h2]
theorem wB{c:aO}(h:ay c):0<c.length↔0<iG c:=by
 cases c with
 | nil=>simp[iG]
 | cons p c =>
  have h1:=(h.2 p He).2;have h2:∀c:aO,(∀q∈c,0<q.2)->0<=iG c:=by
   intro c
   induction c with
   | nil=>intro _;exact KO _
   | cons q c ih =>
    intro hq;have a:=hq q He;have b:=ih fun r hr=>hq r (HZ _ hr);unfold iG at b ⊢;rw[Hf,Jh];omega
  have h3:=h2 c fun q hq=>(h.2 q (HZ _ hq)).2
  constructor
  ·intro _
   unfold iG at h3 ⊢;rw[Hf,Jh];omega
  ·intro _
   simp
theorem wR(rows:List (List Nat))(h:nK rows):zV (ci (rows.map cL))=((List.range (rows.length+1)).map (cnt rows [])).filter fun n=>decide (0<n):=by
 have hg:∀B∈rows.map cL,cy B:=fun B hB=>by
  obtain⟨r',hr',rfl⟩:=Hn.mp hB;exact gO (h r' hr')
 obtain⟨g1,g2⟩:=fA hg;have e:(ci (rows.map cL)).map iG=(List.range (rows.length+1)).map (cnt rows []):=by
  refine Jf fun i=> ?_;rw[Ho,Ho]
  by_cases hi:i<rows.length+1
  ·have hi' :i<(ci (rows.map cL)).length:=by rw[g1,HX];exact hi
   rw[Iy hi,Hd hi',IP,IP,<-xO rows h i,Hc,Hd hi'];rfl
  ·rw[IV (by rw[g1,HX];omega),IV (by simpa using hi)]
   rfl
 unfold zV;rw[<- e,List.filter_map]
 congr 1
 refine List.filter_congr fun c hc=> ?_;rw[Function.comp_apply,decide_eq_decide];exact wB (g2 c hc)
noncomputable abbrev ik:=Nat×Nat
noncomputable def ES(cells:List ik)(k:Nat):List ik:=(cells.drop (k+1)).filter fun c=>decide ((cells.getD k (0,0)).1<c.1)
noncomputable def pl:Nat->List ik->List Int->Nat->Int
 | _,_,_,0=>1
 | 0,_,_,_+1=>0
 | n+1,cells,T,j+1=>cz (List.range cells.length) fun k=>if T.contains ((cells.getD k (0,0)).2:Int)then 0 else pl n (ES cells k) (T++[((cells.getD k (0,0)).2:Int)]) j
theorem gJ:∀(rs:List (List Nat))(T:List Nat)(k:Nat),0<cnt rs T (k+1)->0<cnt rs T k
 | [],T,k,h=>by rw[cnt]at h;omega
 | r::rs,T,0,_=>by rw[gz];decide
 | r::rs,T,k+1,h=>by
  rw[cnt]at h ⊢;have n1:=ak rs T (k+1);have n2:0<=cz (r.filter fun c=> !T.contains c) fun c=>cnt rs (c::T) k:=cK fun c _=>ak rs (c::T) k
  by_cases h1:0<cnt rs T (k+1+1)
  ·have:=gJ rs T (k+1) h1
   omega
  ·have n3:=ak rs T (k+1+1)
   have h2:0<cz (r.filter fun c=> !T.contains c) fun c=>cnt rs (c::T) (k+1):=by omega
   have key:∀l:List Nat,0<(cz l fun c=>cnt rs (c::T) (k+1))->0<cz l fun c=>cnt rs (c::T) k:=by
    intro l
    induction l with
    | nil=>intro h;rw[eC]at h;exact absurd h (by decide)
    | cons c l ih =>
     intro h;rw[ba]at h ⊢;have a1:=ak rs (c::T) k;have a2:0<=cz l fun c=>cnt rs (c::T) k:=cK fun c _=>ak rs (c::T) k
     by_cases h3:0<cnt rs (c::T) (k+1)
     ·have:=gJ rs (c::T) k h3
      omega
     ·have:=ih (by have:=ak rs (c::T) (k+1);omega)
      omega
   have:=key _ h2;omega
theorem pO(rs:List (List Nat))(T:List Nat):∀(j i:Nat),i<=j->0<cnt rs T j->0<cnt rs T i
 | 0,i,h,hp=>by rw[show i=0 by omega];exact hp
 | j+1,i,h,hp=>by
  by_cases e:i=j+1
  ·rw[e];exact hp
  ·exact pO rs T j i (by omega) (gJ rs T j hp)
noncomputable def cr(z:Str):List Nat:=(List.range z.length).filter fun c=>z.cps.toList.getD c 0==120
noncomputable def att(a b:ik):Bool:=a.1==b.1||a.2==b.2
noncomputable def off(x:ik)(l:List ik):List ik:=l.filter fun y=> !att x y
noncomputable def Fb(f:ik->List ik->Int):List ik->Int
 | []=>0
 | x::xs=>f x xs+Fb f xs
noncomputable def rk:Nat->List ik->Int
 | 0=>fun _=>1
 | k+1=>Fb fun x xs=>rk k (off x xs)
noncomputable def freeC(T:List Nat)(l:List ik):List ik:=l.filter fun c=> !T.contains c.2
end IR
namespace IR
open PySem L2
noncomputable def bk(w j:Nat):Nat:=if j<w then w-1-j else j
noncomputable def ch:Nat->Nat->Nat
 | _,0=>1
 | 0,_+1=>0
 | n+1,k+1=>ch n (k+1)+ch n k
noncomputable def fl:Nat->Nat->Nat
 | _,0=>1
 | n,k+1=>n*fl (n-1) k
noncomputable def fn(m n k:Nat):Int:=((ch m k*fl n k:Nat):Int)
section
variable(b:Nat->Nat->Bool)
noncomputable def gP:List Nat->List Nat->Nat->Int
 | [],_,j=>if j=0 then 1 else 0
 | i::L,C,j=>cz C fun c=>if b i c then(if j=0 then 0 else gP L (C.erase c) (j-1))else gP L (C.erase c) j
end
noncomputable def fx(x:Int):Nat->Int
 | 0=>1
 | m+1=>fx x m*(x-m)
end IR
namespace IR
end IR
namespace IR
end IR
namespace IR
open PySem L2
end IR
namespace IR
open PySem
end IR
namespace L2
open SQ
theorem AN{m u v:Nat}(hm:m<256)(hu:u<8):v∈lst (put m u)↔v∈lst m\/v=u:=by
 by_cases h:u∈lst m
 ·rw[wX h]
  exact⟨.inl,fun z=>z.elim id fun e=>e▸h⟩
 ·obtain⟨-,-,e,-,-⟩:=jn hm hu h true
  rw[e,ID,Hm];have:v∈lst m↔v∈(lst m).take (jG m u)\/v∈(lst m).drop (jG m u):=by
   rw[<- ID,KD]
  rw[this]
  constructor
  ·rintro(z|z|z)
   ·exact .inl (.inl z)
   ·exact .inr z
   ·exact .inl (.inr z)
  ·rintro((z|z)|z)
   ·exact .inl z
   ·exact .inr (.inr z)
   ·exact .inr (.inl z)
theorem jk{f:Nat->Nat}{v:Nat}:∀{k i m:Nat},(∀j,j<k->f (i+j)<8)->m<256->(v∈lst (mJ f k i m)↔v∈lst m\/∃j,j<k/\f (i+j)=v)
 | 0,i,m,_,_=>⟨.inl,fun z=>z.elim id fun⟨j,h,_⟩=>absurd h (Nat.not_lt_zero _)⟩
 | k+1,i,m,hf,hm=>by
  unfold mJ;have h0:=hf 0 (by omega);rw[Nat.add_zero]at h0;rw[jk (fun j hj=>by rw[show i+1+j=i+(j+1)by omega];exact hf (j+1) (by omega)) (AW hm h0 true).2,AN hm h0]
  constructor
  ·rintro((z|z)|⟨j,hj,e⟩)
   ·exact .inl z
   ·exact .inr ⟨0,by omega,z.symm⟩
   ·exact .inr ⟨j+1,by omega,by rw[<- e];congr 1;omega⟩
  ·rintro(z|⟨j,hj,e⟩)
   ·exact .inl (.inl z)
   ·cases j with
    | zero=>exact .inl (.inr e.symm)
    | succ j=>exact .inr ⟨j,by omega,by rw[<- e];congr 1;omega⟩
theorem xM{ns:List Int}(h:∀n∈ns,0<=n/\n<8){n:Int}:n∈dz ns↔n∈ns:=by
  unfold dz maskOf;rw[Hn];have at' :∀j,j<ns.length->ns.getD j 0∈ns:=fun j hj=>by
    rw[Hc,Hd hj];exact JN hj
  have hf:∀j,j<ns.length->(ns.getD (0+j) 0).toNat<8:=fun j hj=>by
    rw[KS];have:=h _ (at' j hj);omega
  constructor
  · rintro⟨v,hv,rfl⟩
    rw[jk hf (by omega)]at hv
    rcases hv with z|⟨j,hj,e⟩
    · exact absurd z (by have:lst 0=[]:=by decide +kernel
                         rw[this];simp)
    · rw[KS]at e
      have:=h _ (at' j hj);rw[<- e,Int.toNat_of_nonneg this.1];exact at' j hj
  · intro hn
    obtain⟨j,hj,e⟩:=List.getElem_of_mem hn;refine⟨n.toNat,(jk hf (by omega)).mpr (.inr ⟨j,hj,?_⟩),Int.toNat_of_nonneg (h n hn).1⟩;rw[KS,Hc,Hd hj,e];rfl
theorem su(ns:List Int):(dz ns).Pairwise (·<·):=by
 unfold dz;rw[Js];exact(jl _).imp fun z=>by omega
theorem qj(ns:List Int):(dz ns).Nodup:=(su ns).imp fun h=>by omega
theorem xE{ns:List Int}(h:∀n∈ns,0<=n/\n<8)(s:ns.Pairwise (·<·)):dz ns=ns:=by
 have nd:ns.Nodup:=s.imp fun h=>by omega
 have p:(dz ns).Perm ns:=(List.perm_ext_iff_of_nodup (qj ns) nd).mpr fun n=>xM h;exact p.eq_of_pairwise (fun a b _ _ h1 h2=>by omega) (su ns) s
end L2
namespace OD
section
variable{α:Type}[DecidableEq α](ok:List α->α->Bool)
noncomputable def cnt:List α->List α->Nat->Nat
 | _,_,0=>1
 | _,[],_+1=>0
 | b,c::L,m+1=>(if ok b c then cnt (b++[c]) L m else 0)+cnt b L (m+1)
variable{ok}
theorem gz(b L:List α):cnt ok b L 0=1:=by cases L<;>rfl
variable(lt:α->α->Bool)
variable{lt}
end
end OD
namespace OD
section
variable{α:Type}[DecidableEq α]{ok:List α->α->Bool}{lt:α->α->Bool}
noncomputable def n6(ok:List α->α->Bool)(nb:List α->Int)(s:List α×Int)(c:α):List α×Int :=
 if ok s.1 c then(if s.2<nb (s.1++[c])then(s.1++[c],s.2)else(s.1,s.2-nb (s.1++[c])))else s
end
end OD
namespace IR
open PySem
noncomputable def Bj(b:List (Int×Int))(c:Int×Int):Bool:=(b.all fun x=>decide (x.1<c.1))&&(b.all fun x=>decide (x.2≠c.2))
section
variable{rows:List (List Nat)}(hr:∀cs∈rows,cs.Pairwise (·<·))
end
theorem md{H:aO}(nd:(H.map (·.1)).Nodup){p q:Int×Int}(hp:p∈H)(hq:q∈H)(e:p.1=q.1):p=q:=by
 induction H with
 | nil=>cases hp
 | cons x H ih =>
  rw[Hf,IQ]at nd
  rcases Hm.mp hp with e1|hp1
  ·rcases Hm.mp hq with e2|hq1
   ·rw[e1,e2]
   ·exact absurd (show x.1∈H.map (·.1)from Hn.mpr ⟨q,hq1,by rw[<- e,e1]⟩) nd.1
  ·rcases Hm.mp hq with e2|hq1
   ·exact absurd (show x.1∈H.map (·.1)from Hn.mpr ⟨p,hp1,by rw[e,e2]⟩) nd.1
   ·exact ih nd.2 hp1 hq1
theorem dE{T U:List Int}(nd:T.Nodup)(h:T ⊆ U):T.length<=U.length:=by
 induction T generalizing U with
 | nil=>exact IN _
 | cons x T ih =>
  obtain⟨n1,n2⟩:=IQ.mp nd;have hx:x∈U:=h He;have:=ih (U:=U.erase x) n2 fun y hy=>(List.mem_erase_of_ne (fun z:y=x=>n1 (by rw[<- z];exact hy))).mpr (h (HZ _ hy));rw[List.length_erase_of_mem hx]at this;have:0<U.length:=List.length_pos_of_mem hx;rw[IL];omega
theorem dR{H:aO}{c r:Int}(h:aj H c=some r):(c,r)∈H:=by
 unfold aj at h;cases e:H.find? fun p=>decide (p.1=c)with
 | none=>rw[e]at h;cases h
 | some p =>
  rw[e]at h;have h1:=List.find?_some e;have h2:=List.mem_of_find?_eq_some e;have h1:p.1=c:=Ib h1;have h:p.2=r:=IB h;rw[<- h1,<-h];exact h2
theorem fE{H:aO}{c:Int}:aj H c=none↔c∉H.map (·.1):=by
 unfold aj;rw[Option.map_eq_none_iff,List.find?_eq_none]
 constructor
 ·intro h hm
  obtain⟨p,hp,rfl⟩:=Hn.mp hm;exact h p hp (IW rfl)
 ·intro h p hp e
  exact h (Hn.mpr ⟨p,hp,Ib e⟩)
theorem Ag{H:aO}{c r:Int}(nd:(H.map (·.1)).Nodup)(h:(c,r)∈H):aj H c=some r:=by
 cases e:aj H c with
 | none=>exact absurd (Hn.mpr ⟨_,h,rfl⟩) (fE.mp e)
 | some r' =>
  have h' :=dR e;have:=md nd h h' rfl;rw[show r' =r from(Ix Prod.snd this).symm]
theorem oM{H:aO}{c r:Int}(h:aj H c=none):cS H c r=H++[(c,r)]:=by
 unfold cS;rw[Hl];intro z;rw[Jl]at z;obtain⟨p,hp,e⟩:=z;exact fE.mp h (Hn.mpr ⟨p,hp,Ib e⟩)
theorem wY{c r' r:Int}:∀{H:aO},(H.map (·.1)).Nodup->aj H c=some r' ->∃l1 l2,H=l1++(c,r')::l2/\cS H c r=l1++(c,r)::l2:=by
 intro H nd h;have hm:=dR h;obtain⟨l1,l2,e⟩:=List.append_of_mem hm;refine⟨l1,l2,e,?_⟩;unfold cS;rw[Hr (Jl.mpr ⟨_,hm,IW rfl⟩),e,IJ,Hf,Hr rfl];rw[e,IJ,Hf]at nd;have n1:∀p∈l1,p.1≠c:=fun p hp z=>(JG.mp nd).2.2 p.1 (Hn.mpr ⟨p,hp,rfl⟩) c He z;have n2:∀p∈l2,p.1≠c:=fun p hp z=>(IQ.mp (JG.mp nd).2.1).1 (z▸Hn.mpr ⟨p,hp,rfl⟩);have same:∀l:aO,(∀p∈l,p.1≠c)->l.map (fun p=>if p.1=c then(p.1,r)else p)=l:=fun l hl=>by
  conv=>rhs;rw[<- List.map_id l]
  exact JH fun p hp=>Hl (hl p hp)
 rw[same l1 n1,same l2 n2]
theorem gu{H:aO}{c d r:Int}:aj (cS H c r) d=if d=c then some r else aj H d:=by
 by_cases hd:d=c
 ·subst hd
  rw[Hr rfl];unfold cS
  split
  ·rename_i h
   induction H with
   | nil=>cases h
   | cons p H ih =>
    rw[Hf];unfold aj;rw[Io]
    by_cases e:p.1=d
    ·rw[Hr e];simp[e]
    ·rw[Hl e]
     simp only[e,Jm];rw[J1,Ij e,Bool.false_or]at h;exact ih h
  ·rename_i h
   unfold aj;rw[List.find?_append];have:(H.find? fun p=>decide (p.1=d))=none:=by
    rw[List.find?_eq_none];intro p hp e;exact h (Jl.mpr ⟨p,hp,e⟩)
   rw[this];simp
 ·rw[Hl hd]
  unfold cS
  split
  ·unfold aj
   induction H with
   | nil=>rfl
   | cons p H ih =>
    rename_i h;rw[Hf,Io,Io];have tail:((H.map fun p=>if p.1=c then(p.1,r)else p).find? fun p=>decide (p.1=d)).map (·.2)=(H.find? fun p=>decide (p.1=d)).map (·.2):=by
     by_cases h' :(H.any fun p=>decide (p.1=c))=true
     ·exact ih h'
     ·have:(H.map fun p=>if p.1=c then(p.1,r)else p)=H:=by
       conv=>rhs;rw[<- List.map_id H]
       refine JH fun p hp=>Hl fun e=>h' ?_;exact Jl.mpr ⟨p,hp,IW e⟩
      rw[this]
    by_cases e:p.1=c
    ·rw[Hr e]
     have e2:¬p.1=d:=fun z=>hd (z.symm.trans e);simp only[e2,Jm];exact tail
    ·rw[Hl e]
     by_cases e2:p.1=d
     ·simp[e2]
     ·simp only[e2,Jm]
      exact tail
  ·unfold aj
   rw[List.find?_append];have:¬c=d:=fun z=>hd z.symm;simp[this]
noncomputable def eR(C:List (List Int))(r:Int):List Int:=C.getD r.toNat []
noncomputable def gT(rec:aO->Int->List Int->Bool×aO×List Int)(row:Int):List Int->aO->List Int->Bool×aO×List Int
 | [],H,T=>(false,H,T)
 | c::cs,H,T=>if T.contains c then gT rec row cs H T else match aj H c with
  | none=>(true,cS H c row,T++[c])
  | some r=>match rec H r (T++[c])with
   | (true,H',T')=>(true,cS H' c row,T')
   | (false,H',T')=>gT rec row cs H' T'
noncomputable def tk(C:List (List Int)):Nat->aO->Int->List Int->Bool×aO×List Int
 | 0,H,_,T=>(false,H,T)
 | n+1,H,row,T=>gT (tk C n) row (eR C row) H T
structure Mt(C:List (List Int))(H:aO):Prop where
 keys:(H.map (·.1)).Nodup
 rows:(H.map (·.2)).Nodup
 edge:∀p∈H,p.1∈eR C p.2
structure Mt0(C:List (List Int))(H:aO):Prop where
 keys:(H.map (·.1)).Nodup
 edge:∀p∈H,p.1∈eR C p.2
structure G9(C:List (List Int))(H:aO)(row:Int)(T:List Int)(H' :aO):Prop where
 good:Mt0 C H'
 rows:(H'.map (·.2)).Perm (row::H.map (·.2))
 keys:∀c,c∈H.map (·.1)->c∈H'.map (·.1)
 stay:∀c∈T,aj H' c=aj H c
theorem qG{C:List (List Int)}{rec:aO->Int->List Int->Bool×aO×List Int}{row:Int}
  (hr:∀H r T b H' T',Mt0 C H->rec H r T=(b,H',T')->T ⊆ T' /\(b=false->H' =H)/\(b=true->G9 C H r T H')) :
  ∀{cs:List Int}{H:aO}{T:List Int}{b:Bool}{H' :aO}{T' :List Int},(∀c∈cs,c∈eR C row)->Mt0 C H->gT rec row cs H T=(b,H',T')->T ⊆ T' /\(b=false->H' =H)/\(b=true->G9 C H row T H')
 | [],H,T,b,H',T',hc,m,h=>by
  cases h;exact⟨fun _ z=>z,fun _=>rfl,fun z=>by cases z⟩
 | c::cs,H,T,b,H',T',hc,m,h=>by
  unfold gT at h
  split at h
  ·exact qG hr (fun d hd=>hc d (HZ _ hd)) m h
  ·rename_i hT
   have hT:c∉T:=fun z=>hT (IK.mpr z)
   split at h
   ·rename_i e
    cases h;refine⟨List.subset_append_left _ _,(fun z=>by cases z),fun _=> ?_⟩;rw[oM e];refine⟨⟨?_,fun p hp=> ?_⟩,?_,fun d hd=> ?_,fun d hd=> ?_⟩
    ·rw[IJ,JG]
     refine⟨m.keys,by simp,fun a ha x hx z=> ?_⟩;rw[List.map_singleton,IZ]at hx;subst hx z;exact fE.mp e ha
    ·rcases ID.mp hp with z|z
     ·exact m.edge p z
     ·rw[IZ.mp z]
      exact hc c He
    ·rw[IJ]
     exact List.perm_append_comm
    ·rw[IJ]
     exact IG _ hd
    ·rw[<- oM e,gu,Hl (fun z:d=c=>hT (by rw[<- z];exact hd))]
   ·rename_i r e
    cases hq:rec H r (T++[c])with
    | mk b1 w =>
     obtain⟨H1,T1⟩:=w;rw[hq]at h;obtain⟨k1,k2,k3⟩:=hr H r (T++[c]) b1 H1 T1 m hq;cases b1 with
     | false =>
      have e1:=k2 rfl;subst e1;obtain⟨j1,j2,j3⟩:=qG hr (fun d hd=>hc d (HZ _ hd)) m h;have sub:T ⊆ T1:=fun x hx=>k1 (IG _ hx);exact⟨fun x hx=>j1 (sub hx),j2,fun z=>by
       obtain⟨w1,w2,w3,w4⟩:=j3 z;exact⟨w1,w2,w3,fun d hd=>w4 d (sub hd)⟩⟩
     | true =>
      cases h;obtain⟨w1,w2,w3,w4⟩:=k3 rfl;refine⟨fun x hx=>k1 (IG _ hx),(fun z=>by cases z),fun _=> ?_⟩;have e2:aj H1 c=some r:=by rw[w4 c (by simp),e]
      obtain⟨l1,l2,e3,e4⟩:=wY (r:=row) w1.keys e2;rw[e3]at w2;refine⟨⟨?_,fun p hp=> ?_⟩,?_,fun d hd=> ?_,fun d hd=> ?_⟩
      ·have:=w1.keys
       rw[e3]at this;rw[e4]
       simpa using this
      ·rw[e4]at hp
       rcases ID.mp hp with z|z
       ·exact w1.edge p (by rw[e3];exact IG _ z)
       ·rcases Hm.mp z with z|z
        ·rw[z]
         exact hc c He
        ·exact w1.edge p (by rw[e3];exact IM _ (HZ _ z))
      ·rw[e4,IJ,Hf]
       rw[IJ,Hf]at w2;have a1:(l1.map (·.2)++r::l2.map (·.2)).Perm (r::(l1.map (·.2)++l2.map (·.2))):=Jx;have a2:(l1.map (·.2)++l2.map (·.2)).Perm (H.map (·.2)):=(List.perm_cons r).mp (a1.symm.trans w2);have a3:(l1.map (·.2)++row::l2.map (·.2)).Perm (row::(l1.map (·.2)++l2.map (·.2))):=Jx;exact a3.trans (a2.cons row)
      ·have:=w3 d hd
       rw[e3]at this;rw[e4]
       simpa using this
      ·rw[gu,Hl (fun z:d=c=>hT (by rw[<- z];exact hd))]
       exact w4 d (IG _ hd)
theorem BW{C:List (List Int)}:∀{n:Nat}{H:aO}{row:Int}{T:List Int}{b:Bool}{H' :aO}{T' :List Int},Mt0 C H->tk C n H row T=(b,H',T')->T ⊆ T' /\(b=false->H' =H)/\(b=true->G9 C H row T H')
 | 0,H,row,T,b,H',T',m,h=>by
  cases h;exact⟨fun _ z=>z,fun _=>rfl,fun z=>by cases z⟩
 | n+1,H,row,T,b,H',T',m,h=>qG (fun H r T b H' T' m h=>BW m h) (fun c hc=>hc) m h
theorem G9.mt{C:List (List Int)}{H:aO}{row:Int}{T:List Int}{H' :aO}(w:G9 C H row T H')(m:Mt C H)(hr:row∉H.map (·.2)):Mt C H' :=
 ⟨w.good.keys,w.rows.nodup_iff.mpr (IQ.mpr ⟨hr,m.rows⟩),w.good.edge⟩
noncomputable def du(C:List (List Int))(H:aO)(S:List Int):Prop:=∀c∈S,∃r,aj H c=some r/\∀d∈eR C r,d∈S
theorem qH{C:List (List Int)}{rec:aO->Int->List Int->Bool×aO×List Int}{row:Int}{n:Nat}
  (hr:∀H r T H' T',T.Nodup->(∀c∈T,0<=c/\c<8)->8<n+T.length->rec H r T=(false,H',T')->H' =H/\T ⊆ T' /\T'.Nodup/\(∀c∈T',0<=c/\c<8)/\(∀d∈eR C r,d∈T')/\∀c∈T',c∈T\/∃q,aj H c=some q/\∀d∈eR C q,d∈T') :
  ∀{cs:List Int}{H:aO}{T:List Int}{H' :aO}{T' :List Int},(∀c∈cs,0<=c/\c<8)->T.Nodup->(∀c∈T,0<=c/\c<8)->8<n+1+T.length->gT rec row cs H T=(false,H',T') ->
  H' =H/\T ⊆ T' /\T'.Nodup/\(∀c∈T',0<=c/\c<8)/\(∀d∈cs,d∈T')/\∀c∈T',c∈T\/∃q,aj H c=some q/\∀d∈eR C q,d∈T'
 | [],H,T,H',T',_,nd,bd,_,h=>by
  cases h;exact⟨rfl,fun _ z=>z,nd,bd,fun d hd=>(by cases hd),fun c hc=>.inl hc⟩
 | c::cs,H,T,H',T',hc,nd,bd,hn,h=>by
  unfold gT at h
  split at h
  ·rename_i hT
   obtain⟨k1,k2,k3,k4,k5,k6⟩:=qH hr (fun d hd=>hc d (HZ _ hd)) nd bd hn h;refine⟨k1,k2,k3,k4,fun d hd=> ?_,k6⟩
   rcases Hm.mp hd with rfl|hd
   ·exact k2 (IK.mp hT)
   ·exact k5 d hd
  ·rename_i hT
   have hT:c∉T:=fun z=>hT (IK.mpr z)
   split at h
   ·cases h
   ·rename_i r e
    have nd1:(T++[c]).Nodup:=by
     rw[JG];refine⟨nd,by simp,fun a ha x hx z=> ?_⟩;rw[IZ]at hx;subst hx z;exact hT ha
    have bd1:∀d∈T++[c],0<=d/\d<8:=fun d hd=>by
     rcases ID.mp hd with z|z
     ·exact bd d z
     ·rw[IZ.mp z]
      exact hc c He
    cases hq:rec H r (T++[c])with
    | mk b1 w =>
     obtain⟨H1,T1⟩:=w;rw[hq]at h;cases b1 with
     | true=>cases h
     | false =>
      obtain⟨j1,j2,j3,j4,j5,j6⟩:=hr H r (T++[c]) H1 T1 nd1 bd1 (by rw[IA,Jq];omega) hq;subst j1;have hl:T.length<=T1.length:=by
       have:=dE nd (fun x hx=>j2 (IG _ hx));exact this
      obtain⟨k1,k2,k3,k4,k5,k6⟩:=qH hr (fun d hd=>hc d (HZ _ hd)) j3 j4 (by omega) h;refine⟨k1,fun x hx=>k2 (j2 (IG _ hx)),k3,k4,fun d hd=> ?_,fun d hd=> ?_⟩
      ·rcases Hm.mp hd with rfl|hd
       ·exact k2 (j2 (by simp))
       ·exact k5 d hd
      ·rcases k6 d hd with z|z
       ·rcases j6 d z with y|⟨q,y1,y2⟩
        ·rcases ID.mp y with y|y
         ·exact .inl y
         ·rw[IZ.mp y]
          exact .inr ⟨r,e,fun x hx=>k2 (j5 x hx)⟩
        ·exact .inr ⟨q,y1,fun x hx=>k2 (y2 x hx)⟩
       ·exact .inr z
theorem v5{C:List (List Int)}(hC:∀r,∀c∈eR C r,0<=c/\c<8):∀{n:Nat}{H:aO}{row:Int}{T:List Int}{H' :aO}{T' :List Int},T.Nodup->(∀c∈T,0<=c/\c<8)->8<n+T.length->tk C n H row T=(false,H',T') ->
  H' =H/\T ⊆ T' /\T'.Nodup/\(∀c∈T',0<=c/\c<8)/\(∀d∈eR C row,d∈T')/\∀c∈T',c∈T\/∃q,aj H c=some q/\∀d∈eR C q,d∈T'
 | 0,H,row,T,H',T',nd,bd,hn,h=>by
  have h8:=dE (U:=[0,1,2,3,4,5,6,7]) nd fun x hx=>by
   obtain⟨a,b⟩:=bd x hx;have:x=0\/x=1\/x=2\/x=3\/x=4\/x=5\/x=6\/x=7:=by omega
   simp only[Hm];omega
  have h8:T.length<=8:=h8;omega
 | n+1,H,row,T,H',T',nd,bd,hn,h=>qH (fun H r T H' T' nd bd hn h=>v5 hC nd bd hn h) (hC row) nd bd hn h
theorem jO{C:List (List Int)}{S:List Int}{rec:aO->Int->List Int->Bool×aO×List Int}{row:Int}
  (hf:∀H r T H' T',rec H r T=(false,H',T')->H' =H)
  (hr:∀H r T,du C H S->(∀d∈eR C r,d∈S)->(rec H r T).1=false) :
  ∀{cs:List Int}{H:aO}{T:List Int},du C H S->(∀d∈cs,d∈S)->(gT rec row cs H T).1=false
 | [],H,T,_,_=>rfl
 | c::cs,H,T,cl,hc=>by
  unfold gT
  split
  ·exact jO hf hr cl fun d hd=>hc d (HZ _ hd)
  ·obtain⟨r,e,hd⟩:=cl c (hc c He)
   rw[e];dsimp only;have h1:=hr H r (T++[c]) cl hd;cases hq:rec H r (T++[c])with
   | mk b w =>
    obtain⟨H1,T1⟩:=w;rw[hq]at h1;have h1:b=false:=h1;subst h1;have e1:=hf H r (T++[c]) H1 T1 hq;subst e1;exact jO hf hr cl fun d hd=>hc d (HZ _ hd)
theorem jP{rec:aO->Int->List Int->Bool×aO×List Int}{row:Int}(hf:∀H r T H' T',rec H r T=(false,H',T')->H' =H):∀{cs:List Int}{H:aO}{T:List Int}{H' :aO}{T' :List Int},gT rec row cs H T=(false,H',T')->H' =H
 | [],H,T,H',T',h=>by cases h;rfl
 | c::cs,H,T,H',T',h=>by
  unfold gT at h
  split at h
  ·exact jP hf h
  ·split at h
   ·cases h
   ·rename_i r e
    cases hq:rec H r (T++[c])with
    | mk b w =>
     obtain⟨H1,T1⟩:=w;rw[hq]at h;cases b with
     | true=>cases h
     | false =>
      have e1:=hf H r (T++[c]) H1 T1 hq;subst e1;exact jP hf h
theorem gS{C:List (List Int)}:∀{n:Nat}{H:aO}{row:Int}{T:List Int}{H' :aO}{T' :List Int},tk C n H row T=(false,H',T')->H' =H
 | 0,H,row,T,H',T',h=>by cases h;rfl
 | n+1,H,row,T,H',T',h=>jP (fun H r T H' T' h=>gS h) h
theorem sN{C:List (List Int)}{S:List Int}:∀{n:Nat}{H:aO}{row:Int}{T:List Int},du C H S->(∀d∈eR C row,d∈S)->(tk C n H row T).1=false
 | 0,H,row,T,_,_=>rfl
 | n+1,H,row,T,cl,hc=>jO (fun H r T H' T' h=>gS h) (fun H r T cl hc=>sN cl hc) cl hc
theorem lz{C:List (List Int)}{S:List Int}{rec:aO->Int->List Int->Bool×aO×List Int}{row:Int}
  (hf:∀H r T H' T',rec H r T=(false,H',T')->H' =H)
  (hs:∀H r T,du C H S->(∀d∈eR C r,d∈S)->(rec H r T).1=false)
  (hr:∀H r T H' T',du C H S->rec H r T=(true,H',T')->∀c∈S,aj H' c=aj H c) :
  ∀{cs:List Int}{H:aO}{T:List Int}{H' :aO}{T' :List Int},du C H S->gT rec row cs H T=(true,H',T')->∀c∈S,aj H' c=aj H c
 | [],H,T,H',T',_,h=>by cases h
 | c::cs,H,T,H',T',cl,h=>by
  unfold gT at h
  split at h
  ·exact lz hf hs hr cl h
  ·split at h
   ·rename_i e
    cases h;intro d hd;rw[gu,Hl fun z:d=c=> ?_];obtain⟨r,e2,_⟩:=cl d hd;rw[z,e]at e2;cases e2
   ·rename_i r e
    cases hq:rec H r (T++[c])with
    | mk b w =>
     obtain⟨H1,T1⟩:=w;rw[hq]at h;cases b with
     | true =>
      cases h;intro d hd;rw[gu,Hl fun z:d=c=> ?_]
      ·exact hr H r (T++[c]) _ _ cl hq d hd
      ·obtain⟨r',e2,h2⟩:=cl d hd
       rw[z,e]at e2;cases e2;have:=hs H r (T++[c]) cl h2;rw[hq]at this;cases this
     | false =>
      have e1:=hf H r (T++[c]) H1 T1 hq;rw[e1]at h;exact lz hf hs hr cl h
theorem v4{C:List (List Int)}{S:List Int}:∀{n:Nat}{H:aO}{row:Int}{T:List Int}{H' :aO}{T' :List Int},du C H S->tk C n H row T=(true,H',T')->∀c∈S,aj H' c=aj H c
 | 0,H,row,T,H',T',_,h=>by cases h
 | n+1,H,row,T,H',T',cl,h=>lz (fun H r T H' T' h=>gS h) (fun H r T cl hc=>sN cl hc) (fun H r T H' T' cl h=>v4 cl h) cl h
noncomputable def hd(C:List (List Int)):Nat->aO
 | 0=>[]
 | k+1=>(tk C 9 (hd C k) (k:Nat) []).2.1
structure kh(C:List (List Int))(k:Nat)(H:aO):Prop where
 mt:Mt C H
 rows:∀r∈H.map (·.2),(0:Int)<=r/\r<(k:Int)
 shut:∃S:List Int,du C H S/\(∀c∈S,0<=c/\c<8)/\∀i:Nat,i<k->(i:Int)∈H.map (·.2)\/∀c∈eR C (i:Nat),c∈S
theorem o6{C:List (List Int)}(hC:∀r,∀c∈eR C r,0<=c/\c<8):∀k:Nat,kh C k (hd C k)
 | 0=>⟨⟨.nil,.nil,fun p hp=>(by cases hp)⟩,fun r hr=>(by cases hr),[],fun c hc=>(by cases hc),fun c hc=>(by cases hc),fun i hi=>by omega⟩
 | k+1=>by
  have ih:=o6 hC k;obtain⟨S,s1,s2,s3⟩:=ih.shut;have nk:((k:Nat):Int)∉(hd C k).map (·.2):=fun z=>by have:=ih.rows _ z;omega
  unfold hd;cases hq:tk C 9 (hd C k) (k:Nat) []with
  | mk b w =>
   obtain⟨H1,T1⟩:=w;dsimp only;obtain⟨_,k2,k3⟩:=BW ⟨ih.mt.keys,ih.mt.edge⟩ hq;cases b with
   | false =>
    have e:=k2 rfl;obtain⟨_,_,_,j4,j5,j6⟩:=v5 hC (T:=[]) .nil (fun c hc=>by cases hc) (by decide) hq;rw[e];refine⟨ih.mt,fun r hr=>by have:=ih.rows r hr;omega,S++T1,fun c hc=> ?_,fun c hc=> ?_,fun i hi=> ?_⟩
    ·rcases ID.mp hc with z|z
     ·obtain⟨r,h1,h2⟩:=s1 c z
      exact⟨r,h1,fun d hd=>IG _ (h2 d hd)⟩
     ·rcases j6 c z with y|⟨q,h1,h2⟩
      ·cases y
      ·exact⟨q,h1,fun d hd=>IM _ (h2 d hd)⟩
    ·rcases ID.mp hc with z|z
     ·exact s2 c z
     ·exact j4 c z
    ·by_cases hik:i<k
     ·rcases s3 i hik with z|z
      ·exact .inl z
      ·exact .inr fun c hc=>IG _ (z c hc)
     ·have:i=k:=by omega
      subst this;exact .inr fun c hc=>IM _ (j5 c hc)
   | true =>
    have w:=k3 rfl;have so:=v4 s1 hq;refine⟨w.mt ih.mt nk,fun r hr=> ?_,S,fun c hc=> ?_,s2,fun i hi=> ?_⟩
    ·rcases Hm.mp (w.rows.mem_iff.mp hr)with z|z
     ·omega
     ·have:=ih.rows r z
      omega
    ·obtain⟨r,h1,h2⟩:=s1 c hc
     exact⟨r,by rw[so c hc];exact h1,h2⟩
    ·by_cases hik:i<k
     ·rcases s3 i hik with z|z
      ·exact .inl (w.rows.mem_iff.mpr (HZ _ z))
      ·exact .inr z
     ·have:i=k:=by omega
      subst this;exact .inl (w.rows.mem_iff.mpr He)
noncomputable def iw:List PV->Option (List (List Int))
 | []=>some []
 | .lst xs::r=>(aN xs).bind fun ns=>(iw r).map (ns::·)
 | _::_=>none
noncomputable def kX(C:List (List Int)):List PV:=C.map fun ns=>PV.lst (ns.map PV.int)
noncomputable def gM(C:List (List Int)):Bool:=decide (C.length<=8)&&C.all fun ns=>decide (ns.length<=100)&&ns.all fun c=>decide (0<=c)&&decide (c<8)
noncomputable def o5:List PV->Option PV
 | [.lst cs]=>(iw cs).bind fun C=>if gM C=true then some (eB (hd C C.length))else none
 | _=>none
theorem lU:∀{cs:List PV}{C:List (List Int)},iw cs=some C->cs=kX C
 | [],C,h=>by cases h;rfl
 | x::r,C,h=>by
  cases x with
  | lst xs =>
   have h:((aN xs).bind fun ns=>(iw r).map (ns::·))=some C:=h;cases e1:aN xs with
   | none=>rw[e1]at h;cases h
   | some ns =>
    rw[e1]at h;cases e2:iw r with
    | none=>rw[e2]at h;cases h
    | some D =>
     rw[e2]at h;cases h;rw[gF e1,lU e2];rfl
  | _=>cases h
theorem lV:∀C:List (List Int),iw (kX C)=some C
 | []=>rfl
 | ns::C=>by
  show((aN (ns.map PV.int)).bind fun ns=>(iw (kX C)).map (ns::·))=_;rw[bO,lV C];rfl
theorem gL{C:List (List Int)}(h:gM C=true):C.length<=8/\(∀ns∈C,ns.length<=100)/\∀r,∀c∈eR C r,0<=c/\c<8:=by
 unfold gM at h;rw[Hb,JO,Hx]at h;refine⟨h.1,fun ns hn=> ?_,fun r c hc=> ?_⟩
 ·have:=h.2 ns hn
  rw[Hb,JO]at this;exact this.1
 ·unfold eR at hc
  rw[Hc]at hc;cases e:C[r.toNat]? with
  | none=>rw[e]at hc;cases hc
  | some ns =>
   rw[e]at hc;have:=h.2 ns (Hz e);rw[Hb,Hx]at this;have:=this.2 c hc;rw[Hb,JO,JO]at this;exact this
noncomputable def Dh(H:aO)(c:Int):Int:=(aj H c).getD 0
noncomputable def cx(n:Nat):List Int:=(List.range n).map fun i:Nat=>(i:Int)
theorem iM{n:Nat}{x:Int}:x∈cx n↔0<=x/\x<n:=by
 unfold cx;rw[Hn]
 constructor
 ·rintro⟨i,hi,rfl⟩
  have:=Ii.mp hi;omega
 ·rintro⟨h1,h2⟩
  exact⟨x.toNat,Ii.mpr (by omega),by omega⟩
theorem ir(n:Nat):(cx n).Nodup:=by
 unfold cx List.Nodup;rw[Js];exact List.nodup_range.imp fun h e=>h (by omega)
noncomputable def bT(n:Nat)(l:List Int):List Int:=(cx n).filter fun x=> !l.contains x
theorem aw{n:Nat}{l:List Int}{x:Int}:x∈bT n l↔(0<=x/\x<n)/\x∉l:=by
 unfold bT;rw[Ih,iM];simp
theorem jh(n:Nat)(l:List Int):(bT n l).Nodup:=(ir n).sublist Jj
theorem wv{l m:List Int}(h1:l.Nodup)(h2:m.Nodup)(h:∀x,x∈l↔x∈m):l.Perm m:=(List.perm_ext_iff_of_nodup h1 h2).mpr fun x=>h x
theorem zP{H:aO}(nd:(H.map (·.2)).Nodup){p q:Int×Int}(hp:p∈H)(hq:q∈H)(e:p.2=q.2):p=q:=by
 induction H with
 | nil=>cases hp
 | cons x H ih =>
  rw[Hf,IQ]at nd
  rcases Hm.mp hp with e1|hp1
  ·rcases Hm.mp hq with e2|hq1
   ·rw[e1,e2]
   ·exact absurd (show x.2∈H.map (·.2)from Hn.mpr ⟨q,hq1,by rw[<- e,e1]⟩) nd.1
  ·rcases Hm.mp hq with e2|hq1
   ·exact absurd (show x.2∈H.map (·.2)from Hn.mpr ⟨p,hp1,by rw[e,e2]⟩) nd.1
   ·exact ih nd.2 hp1 hq1
theorem gw{α:Type}(f:α->Bool):∀l:List α,(l.filter f).length+(l.filter fun x=> !f x).length=l.length
 | []=>rfl
 | x::l=>by
  have:=gw f l;cases h:f x with
  | true=>rw[List.filter_cons_of_pos h,List.filter_cons_of_neg (by rw[h];exact Hk),IL,IL];omega
  | false=>rw[List.filter_cons_of_neg (by rw[h];exact Hk),List.filter_cons_of_pos (by rw[h];rfl),IL,IL];omega
noncomputable def Eb(C:List (List Int))(H:aO)(n:Nat)(S:List Int):Prop:=du C H S/\∀i:Nat,i<n->(i:Int)∈H.map (·.2)\/∀c∈eR C (i:Nat),c∈S
structure lj(C:List (List Int))(H:aO)(n:Nat)(R Q:List Int)(k:Nat):Prop where
 shape:R=bT n (H.map (·.2))++Q.map (Dh H)
 nod:Q.Nodup
 sub:∀S,Eb C H n S->∀c∈Q,c∈S
 done:∀j,j<k->∀r,R[j]? =some r->∀c∈eR C r,c∈Q
theorem me{H:aO}{c:Int}(h:c∈H.map (·.1)):aj H c=some (Dh H c):=by
 unfold Dh;cases e:aj H c with
 | none=>exact absurd h (fE.mp e)
 | some r=>rfl
theorem wU{C:List (List Int)}{H:aO}{n:Nat}:lj C H n (bT n (H.map (·.2))) [] 0 :=
 ⟨by rw[Ip,JR],.nil,fun S _ c hc=>(by cases hc),fun j hj=>by omega⟩
section
variable{C:List (List Int)}{H:aO}{n k:Nat}{R Q:List Int}
theorem Bb(h:lj C H n R Q k){S:List Int}(hS:Eb C H n S){r c:Int}(hr:r∈R)(hc:c∈eR C r):c∈S:=by
 rw[h.shape]at hr
 rcases ID.mp hr with z|z
 ·obtain⟨⟨h1,h2⟩,h3⟩:=aw.mp z
  have:=hS.2 r.toNat (by omega);rw[show((r.toNat:Nat):Int)=r by omega]at this;exact(this.resolve_left h3) c hc
 ·obtain⟨d,hd,rfl⟩:=Hn.mp z
  obtain⟨q,e,h2⟩:=hS.1 d (h.sub S hS d hd);unfold Dh at hc;rw[e]at hc;exact h2 c hc
theorem kn{S:List Int}(hS:Eb C H n S){c:Int}(hc:c∈S):c∈H.map (·.1):=by
 obtain⟨r,e,_⟩:=hS.1 c hc;exact Hn.mpr ⟨_,dR e,rfl⟩
theorem ze(ok:kh C n H)(h:lj C H n R Q k){r c:Int}(hr:r∈R)(hc:c∈eR C r):c∈H.map (·.1):=by
 obtain⟨S,s1,s2,s3⟩:=ok.shut;exact kn ⟨s1,s3⟩ (Bb h ⟨s1,s3⟩ hr hc)
theorem gZ(ok:kh C n H)(h:lj C H n R Q k){c:Int}(hc:c∈Q):c∈H.map (·.1):=by
 obtain⟨S,s1,s2,s3⟩:=ok.shut;exact kn ⟨s1,s3⟩ (h.sub S ⟨s1,s3⟩ c hc)
theorem zf(ok:kh C n H)(h:lj C H n R Q k){c:Int}(hc:c∈Q):0<=c/\c<8:=by
 obtain⟨S,s1,s2,s3⟩:=ok.shut;exact s2 c (h.sub S ⟨s1,s3⟩ c hc)
theorem CY(h:lj C H n R Q k){r c:Int}(hk:k<=R.length)(hr:r∈R)(hc:c∈eR C r)(hQ:c∉Q):lj C H n (R++[Dh H c]) (Q++[c]) k:=by
 refine⟨?_,?_,fun S hS d hd=> ?_,fun j hj r' e d hd=> ?_⟩
 ·rw[h.shape,IJ,List.append_assoc]
  rfl
 ·rw[JG]
  refine⟨h.nod,by simp,fun a ha x hx z=> ?_⟩;rw[IZ]at hx;subst hx z;exact hQ ha
 ·rcases ID.mp hd with z|z
  ·exact h.sub S hS d z
  ·rw[IZ.mp z]
   exact Bb h hS hr hc
 ·rw[JB (by omega)]at e
  exact IG _ (h.done j hj r' e d hd)
theorem zd(h:lj C H n R Q k){r:Int}(hk:R[k]? =some r)(hc:∀c∈eR C r,c∈Q):lj C H n R Q (k+1):=by
 refine⟨h.shape,h.nod,h.sub,fun j hj r' e d hd=> ?_⟩
 by_cases z:j<k
 ·exact h.done j z r' e d hd
 ·have:j=k:=by omega
  subst this;rw[hk]at e;cases e;exact hc d hd
theorem mL(ok:kh C n H)(h:lj C H n R Q k):R.length<=n+8:=by
 have h1:(bT n (H.map (·.2))).length<=n:=by
  refine Ik (JC _ _) ?_;unfold cx;rw[HX,IU];exact Hg _
 have h2:Q.length<=8:=dE (U:=[0,1,2,3,4,5,6,7]) h.nod fun x hx=>by
  obtain⟨a,b⟩:=zf ok h hx;simp only[Hm];omega
 rw[h.shape,IA,HX];omega
theorem oI(ok:kh C n H)(h:lj C H n R Q R.length):(bT n R).length+Q.length=H.length:=by
 have hk:=ok.mt.keys;have hrw:=ok.mt.rows;have e1:(H.filter fun p=>Q.contains p.1).length=Q.length:=by
  have:((H.filter fun p=>Q.contains p.1).map (·.1)).Perm Q:=by
   refine wv (hk.sublist ((Jj).map _)) h.nod fun x=> ?_
   constructor
   ·intro hx
    obtain⟨p,hp,rfl⟩:=Hn.mp hx;exact IK.mp (Ih.mp hp).2
   ·intro hx
    obtain⟨p,hp,rfl⟩:=Hn.mp (gZ ok h hx);exact Hn.mpr ⟨p,Ih.mpr ⟨hp,IK.mpr hx⟩,rfl⟩
  rw[<- this.length_eq,HX]
 have e2:(H.filter fun p=> !Q.contains p.1).length=(bT n R).length:=by
  have:((H.filter fun p=> !Q.contains p.1).map (·.2)).Perm (bT n R):=by
   refine wv (hrw.sublist ((Jj).map _)) (jh _ _) fun x=> ?_
   constructor
   ·intro hx
    obtain⟨p,hp,rfl⟩:=Hn.mp hx;obtain⟨h1,h2⟩:=Ih.mp hp;refine aw.mpr ⟨ok.rows _ (Hn.mpr ⟨p,h1,rfl⟩),fun z=> ?_⟩;rw[h.shape]at z
    rcases ID.mp z with z|z
    ·exact(aw.mp z).2 (Hn.mpr ⟨p,h1,rfl⟩)
    ·obtain⟨d,hd,e⟩:=Hn.mp z
     have g:=dR (me (gZ ok h hd));rw[e]at g;have:=zP hrw h1 g rfl;have:p.1=d:=Ix Prod.fst this;rw[this,IK.mpr hd]at h2;cases h2
   ·intro hx
    obtain⟨⟨a,b⟩,c⟩:=aw.mp hx;have hm:x∈H.map (·.2):=by
     by_cases z:x∈H.map (·.2)
     ·exact z
     ·exact absurd (by rw[h.shape];exact IG _ (aw.mpr ⟨⟨a,b⟩,z⟩)) c
    obtain⟨p,hp,rfl⟩:=Hn.mp hm;refine Hn.mpr ⟨p,Ih.mpr ⟨hp,?_⟩,rfl⟩;cases z:Q.contains p.1 with
    | false=>rfl
    | true =>
     refine absurd ?_ c;rw[h.shape];refine IM _ (Hn.mpr ⟨p.1,IK.mp z,?_⟩);unfold Dh;rw[Ag hk (r:=p.2) hp];rfl
  rw[<- this.length_eq,HX]
 have e3:(H.filter fun p=>Q.contains p.1).length+(H.filter fun p=> !Q.contains p.1).length=H.length:=by
  exact gw (fun p=>Q.contains p.1) H
 omega
theorem yJ{p:List (Int×Int)}{K Q:List Int}(h1:(p.map (·.1)).Nodup)(h2:(p.map (·.2)).Nodup)(hc:∀x∈p,x.1∈K\/x.2∈Q):p.length<=K.length+Q.length:=by
 have e:(p.filter fun x=>K.contains x.1).length+(p.filter fun x=> !K.contains x.1).length=p.length:=by
  exact gw (fun x=>K.contains x.1) p
 have a1:(p.filter fun x=>K.contains x.1).length<=K.length:=by
  have:=dE (T:=(p.filter fun x=>K.contains x.1).map (·.1)) (U:=K) (h1.sublist ((Jj).map _)) fun y hy=>by
   obtain⟨x,hx,rfl⟩:=Hn.mp hy;exact IK.mp (Ih.mp hx).2
  rw[HX]at this;exact this
 have a2:(p.filter fun x=> !K.contains x.1).length<=Q.length:=by
  have:=dE (T:=(p.filter fun x=> !K.contains x.1).map (·.2)) (U:=Q) (h2.sublist ((Jj).map _)) fun y hy=>by
   obtain⟨x,hx,rfl⟩:=Hn.mp hy;obtain⟨x1,x2⟩:=Ih.mp hx
   rcases hc x x1 with z|z
   ·rw[IK.mpr z]at x2
    cases x2
   ·exact z
  rw[HX]at this;exact this
 omega
end
theorem uH{l:List Nat}{f:Nat->Int}(h:0<cz l f):∃c∈l,0<f c:=by
 induction l with
 | nil=>rw[eC]at h;omega
 | cons x l ih =>
  rw[ba]at h
  by_cases e:0<f x
  ·exact⟨x,He,e⟩
  ·obtain⟨c,h1,h2⟩:=ih (by omega)
   exact⟨c,HZ _ h1,h2⟩
theorem wC{l:List Nat}{f:Nat->Int}(hn:∀c,0<=f c){c:Nat}(hc:c∈l)(h:0<f c):0<cz l f:=by
 induction l with
 | nil=>cases hc
 | cons x l ih =>
  rw[ba]
  rcases Hm.mp hc with e|e
  ·subst e
   have:=cK (l:=l) (f:=f) fun x _=>hn x;omega
  ·have:=ih e
   have:=hn x;omega
noncomputable def InR(rs:List (List Nat))(T:List Nat)(i0:Nat)(x:Int×Int):Prop:=∃i c:Nat,x=(((i0+i:Nat):Int),(c:Int))/\c∈rs.getD i []/\c∉T
theorem Au(rs:List (List Nat)):∀(T:List Nat)(k i0:Nat),0<cnt rs T k->∃p:List (Int×Int),p.length=k/\(p.map (·.1)).Nodup/\(p.map (·.2)).Nodup/\∀x∈p,InR rs T i0 x:=by
 induction rs with
 | nil =>
  intro T k i0 h;cases k with
  | zero=>exact⟨[],rfl,.nil,.nil,fun x hx=>nomatch hx⟩
  | succ k=>rw[cnt]at h;omega
 | cons r rs ih =>
  intro T k i0 h;cases k with
  | zero=>exact⟨[],rfl,.nil,.nil,fun x hx=>nomatch hx⟩
  | succ k =>
   rw[cnt]at h
   by_cases h1:0<cnt rs T (k+1)
   ·obtain⟨p,a1,a2,a3,a4⟩:=ih T (k+1) (i0+1) h1
    refine⟨p,a1,a2,a3,fun x hx=> ?_⟩;obtain⟨i,c,e,b1,b2⟩:=a4 x hx;exact⟨i+1,c,by rw[e,show i0+1+i=i0+(i+1)by omega],b1,b2⟩
   ·obtain⟨c,hc,hp⟩:=uH (l:=r.filter fun c=> !T.contains c) (f:=fun c=>cnt rs (c::T) k) (by omega)
    obtain⟨c1,c2⟩:=Ih.mp hc;have c2:c∉T:=fun z=>by rw[IK.mpr z]at c2;cases c2
    obtain⟨p,a1,a2,a3,a4⟩:=ih (c::T) k (i0+1) hp;refine⟨((i0:Int),(c:Int))::p,by rw[IL,a1],?_,?_,fun x hx=> ?_⟩
    ·rw[Hf,IQ]
     refine⟨fun z=> ?_,a2⟩;obtain⟨x,hx,e⟩:=Hn.mp z;obtain⟨i,d,rfl,_,_⟩:=a4 x hx;have e:((i0+1+i:Nat):Int)=(i0:Int):=e;omega
    ·rw[Hf,IQ]
     refine⟨fun z=> ?_,a3⟩;obtain⟨x,hx,e⟩:=Hn.mp z;obtain⟨i,d,rfl,_,b2⟩:=a4 x hx;have e:((d:Nat):Int)=(c:Int):=e;exact b2 (by rw[show d=c by omega];exact He)
    ·rcases Hm.mp hx with e|e
     ·exact⟨0,c,e,c1,c2⟩
     ·obtain⟨i,d,e2,b1,b2⟩:=a4 x e
      exact⟨i+1,d,by rw[e2,show i0+1+i=i0+(i+1)by omega],b1,fun z=>b2 (HZ _ z)⟩
theorem Ac(rs:List (List Nat)):∀(T:List Nat)(i0:Nat)(p:List (Int×Int)),(p.map (·.1)).Nodup->(p.map (·.2)).Nodup->(∀x∈p,InR rs T i0 x)->0<cnt rs T p.length:=by
 induction rs with
 | nil =>
  intro T i0 p _ _ h;cases p with
  | nil=>show 0<(1:Int);decide
  | cons x p =>
   obtain⟨i,c,_,b,_⟩:=h x He;cases b
 | cons r rs ih =>
  intro T i0 p h1 h2 h
  by_cases hx:∃x∈p,x.1=(i0:Int)
  ·obtain⟨x,hxp,ex⟩:=hx
   obtain⟨l1,l2,rfl⟩:=List.append_of_mem hxp;have q1:((l1++x::l2).map (·.1)).Perm (x.1::(l1++l2).map (·.1)):=(Jx (a:=x) (l₁:=l1) (l₂:=l2)).map _;have q2:((l1++x::l2).map (·.2)).Perm (x.2::(l1++l2).map (·.2)):=(Jx (a:=x) (l₁:=l1) (l₂:=l2)).map _;have n1:=IQ.mp (q1.nodup_iff.mp h1);have n2:=IQ.mp (q2.nodup_iff.mp h2);obtain⟨i,c,e,b1,b2⟩:=h x hxp;have i0' :i=0:=by
    rw[e]at ex;have ex:((i0+i:Nat):Int)=(i0:Int):=ex;omega
   subst i0';have hin:∀y∈l1++l2,InR rs (c::T) (i0+1) y:=by
    intro y hy;have hy' :y∈l1++x::l2:=by
     rcases ID.mp hy with z|z
     ·exact IG _ z
     ·exact IM _ (HZ _ z)
    obtain⟨j,d,e2,d1,d2⟩:=h y hy';have hj:j≠0:=fun z=>n1.1 (Hn.mpr ⟨y,hy,by rw[e2,z,e]⟩);have hd:d≠c:=fun z=>n2.1 (Hn.mpr ⟨y,hy,by rw[e2,z,e]⟩);obtain⟨j',rfl⟩:∃j',j=j' +1:=⟨j-1,by omega⟩;refine⟨j',d,by rw[e2,show i0+1+j' =i0+(j' +1)by omega],d1,fun z=> ?_⟩
    rcases Hm.mp z with y|y
    ·exact hd y
    ·exact d2 y
   have hp:=ih (c::T) (i0+1) (l1++l2) n1.2 n2.2 hin;have el:(l1++x::l2).length=(l1++l2).length+1:=by rw[IA,IA,IL];omega
   rw[el,cnt];have g1:=ak rs T ((l1++l2).length+1);have g2:=wC (l:=r.filter fun c=> !T.contains c) (f:=fun c=>cnt rs (c::T) (l1++l2).length) (fun c=>ak _ _ _) (c:=c) (Ih.mpr ⟨b1,by
    cases hz:T.contains c with
    | true=>exact absurd (IK.mp hz) b2
    | false=>rfl⟩) hp
   omega
  ·have hin:∀y∈p,InR rs T (i0+1) y:=by
    intro y hy;obtain⟨j,d,e2,d1,d2⟩:=h y hy;have hj:j≠0:=fun z=>hx ⟨y,hy,by rw[e2,z];rfl⟩;obtain⟨j',rfl⟩:∃j',j=j' +1:=⟨j-1,by omega⟩;exact⟨j',d,by rw[e2,show i0+1+j' =i0+(j' +1)by omega],d1,d2⟩
   have hp:=ih T (i0+1) p h1 h2 hin;cases hl:p.length with
   | zero=>rw[gz];decide
   | succ m =>
    rw[hl]at hp;rw[cnt];have g2:=cK (l:=r.filter fun c=> !T.contains c) (f:=fun c=>cnt rs (c::T) m) fun c _=>ak _ _ _;omega
theorem zp{f:Nat->Int}{N m:Nat}(hm:m<N)(hp:∀i,i<=m->0<f i)(hz:∀i,m<i->¬0<f i):(((List.range N).map f).filter fun n=>decide (0<n)).length=m+1:=by
 obtain⟨d,rfl⟩:∃d,N=(m+1)+d:=⟨N-(m+1),by omega⟩;rw[List.range_add,IJ,List.filter_append,List.filter_eq_self.mpr,List.filter_eq_nil_iff.mpr,JR,HX,IU]
 ·intro x hx
  rw[Ia]at hx;obtain⟨i,_,rfl⟩:=Hn.mp hx;rw[JO];exact hz (m+1+i) (by omega)
 ·intro x hx
  obtain⟨i,hi,rfl⟩:=Hn.mp hx;rw[Ii]at hi;exact IW (hp _ (by omega))
noncomputable def bU(c:Int):Nat->List Nat×Int
 | 0=>([],c)
 | i+1=>((bU c i).1.take ((bU c i).2%((i:Int)+1)).toNat++i::(bU c i).1.drop ((bU c i).2%((i:Int)+1)).toNat,(bU c i).2/((i:Int)+1))
theorem iK(c:Int):∀n,(bU c n).1.Perm (List.range n)
 | 0=>.nil
 | i+1=>by
  rw[List.range_succ];refine Jx.trans ?_;rw[KD];exact((iK c i).cons i).trans (List.perm_append_comm (l₁:=[i]))
theorem gg(c:Int)(n:Nat):(bU c n).1.length=n:=by rw[(iK c n).length_eq,IU]
theorem sr{c:Int}{n r:Nat}(h:r<n):(bU c n).1[r]? =some ((bU c n).1.getD r 0)/\(bU c n).1.getD r 0<n:=by
 have hr:r<(bU c n).1.length:=by rw[gg];exact h
 have e:(bU c n).1[r]? =some (bU c n).1[r]:=Hd hr;have e2:(bU c n).1.getD r 0=(bU c n).1[r]:=by rw[Hc,e];rfl
 exact⟨by rw[e2];exact e,by rw[e2];exact Ii.mp ((iK c n).mem_iff.mp (JN hr))⟩
noncomputable def mixA(c j:Int):Int:=(c%2147483647*39373+7877*j*j+60493)%2147483647
noncomputable def mixS(n:Int):Int:=n*n%2147483629
noncomputable def mixE(n j:Int):Int:=(n*48271+j)*n%2147483587
noncomputable def DD(c j:Int):Int:=mixE (mixS (mixA c j)) j
noncomputable abbrev Gd:=List (List Str)
noncomputable def Ce(g:Gd)(a b:Nat):Gd:=g.set a ((g.getD a []).set b "x")
noncomputable def vA(c:Int)(o q:List Nat)(r j:Nat)(g:Gd):Gd:=if 0<DD c (8*(r:Int)+(j:Int))%4 then Ce g (o.getD r 0) (q.getD j 0)else g
noncomputable def Er(c:Int)(o q:List Nat)(r lo:Nat)(g:Gd):Nat->Gd
 | 0=>g
 | i+1=>vA c o q r (lo+i) (Er c o q r lo g i)
noncomputable def Eo(c:Int)(o q:List Nat)(lo cl cn:Nat)(g:Gd):Nat->Gd
 | 0=>g
 | i+1=>Er c o q (lo+i) cl (Eo c o q lo cl cn g i) cn
noncomputable def EL(c:Int)(o q s t:List Nat)(g:Gd):Nat->Gd
 | 0=>g
 | j+1=>Eo c o q (s.take j).sum (t.take j).sum (t.getD j 0) (EL c o q s t g j) (s.getD j 0)
noncomputable def cv(x:Int):List Nat:=[(1+x/8%3).toNat,(1+x/24%3).toNat,(1+x/72%2).toNat]
noncomputable def cM(x:Int):List Nat:=[(1+x/144%3).toNat,(1+x/432%3).toNat,(1+x/1296%2).toNat]
noncomputable def tK(x c:Int):Gd:=EL c (bU c (cv x).sum).1 (bU (c/40320) (cM x).sum).1 (cv x) (cM x) (List.replicate (cv x).sum (List.replicate (cM x).sum ".")) 3
noncomputable def dw(x c:Int):List Str:=(tK x c).map fun r=>gG "" r
noncomputable def EI:List PV->Option PV
 | [.int x,.int c]=>some (.tup ((dw x c).map .str))
 | _=>none
noncomputable def hZ(n m:Nat)(g:Gd):Prop:=g.length=n/\∀r∈g,r.length=m/\∀z∈r,z="."\/z="x"
theorem hZ.at{n m a:Nat}{g:Gd}(h:hZ n m g)(ha:a<n):g[a]? =some (g.getD a [])/\(g.getD a []).length=m/\∀z∈g.getD a [],z="."\/z="x":=by
 have hl:a<g.length:=by rw[h.1];exact ha
 have e:g[a]? =some g[a]:=Hd hl;have e2:g.getD a []=g[a]:=by rw[Hc,e];rfl
 rw[e2];exact⟨e,h.2 _ (JN hl)⟩
theorem hZ.put{n m a b:Nat}{g:Gd}(h:hZ n m g)(ha:a<n):hZ n m (Ce g a b):=by
 obtain⟨e,l,z⟩:=h.at ha;refine⟨by unfold Ce;rw[Iq];exact h.1,fun r hr=> ?_⟩
 rcases Kc hr with hr|rfl
 ·exact h.2 r hr
 ·exact⟨by rw[Iq];exact l,fun y hy=>(Kc hy).elim (z y) .inr⟩
theorem hZ.col{n m r j:Nat}{c:Int}{o q:List Nat}{g:Gd}(h:hZ n m g)(ho:o.getD r 0<n):hZ n m (vA c o q r j g):=by
 unfold vA
 split
 ·exact h.put ho
 ·exact h
theorem hZ.ln{n m r lo:Nat}{c:Int}{o q:List Nat}{g:Gd}(h:hZ n m g)(ho:o.getD r 0<n):∀i,hZ n m (Er c o q r lo g i)
 | 0=>h
 | i+1=>(hZ.ln h ho i).col ho
theorem hZ.rw{n m lo cl cn:Nat}{c:Int}{o q:List Nat}{g:Gd}(h:hZ n m g):∀i,(∀r,r<lo+i->o.getD r 0<n)->hZ n m (Eo c o q lo cl cn g i)
 | 0,_=>h
 | i+1,ho=>(hZ.rw h i fun r hr=>ho r (by omega)).ln (ho _ (by omega)) _
theorem jR(s:List Nat)(j:Nat):(s.take (j+1)).sum=(s.take j).sum+s.getD j 0:=by
 rw[JP,Hc];cases s[j]? <;>simp
theorem mC(s:List Nat)(j:Nat):(s.take j).sum<=s.sum:=by
 have:s.sum=(s.take j).sum+(s.drop j).sum:=by rw[<- List.sum_append,KD]
 omega
theorem hZ.bk{n m:Nat}{c:Int}{o q s t:List Nat}{g:Gd}(h:hZ n m g)(hs:s.sum=n)(ho:∀r,r<n->o.getD r 0<n):∀j,hZ n m (EL c o q s t g j)
 | 0=>h
 | j+1=>(hZ.bk h hs ho j).rw _ fun r hr=>ho r (by have:=jR s j;have:=mC s (j+1);omega)
theorem GV(n m:Nat):hZ n m (List.replicate n (List.replicate m ".")) :=
 ⟨Jb,fun r hr=>by
  rw[(List.mem_replicate.mp hr).2];exact⟨Jb,fun z hz=>.inl (List.mem_replicate.mp hz).2⟩⟩
theorem v9(x:Int):3<=(cv x).sum/\(cv x).sum<=8:=by
 unfold cv;simp only[Jh,List.sum_nil];omega
theorem vp(x:Int):3<=(cM x).sum/\(cM x).sum<=8:=by
 unfold cM;simp only[Jh,List.sum_nil];omega
theorem lJ(x c:Int):hZ (cv x).sum (cM x).sum (tK x c):=(GV _ _).bk rfl (fun _ hr=>(sr hr).2) 3
theorem o7:∀{r:List Str},(∀z∈r,z="."\/z="x")->(gG "" r).length=r.length
 | [],_=>rfl
 | [z],h=>by
  rcases h z (by simp)with e|e<;>(rw[e];rfl)
 | z::y::r,h=>by
  have ih:=o7 (r:=y::r) fun w hw=>h w (HZ _ hw);show(z++""++gG "" (y::r)).length=_;have e1:∀a b:Str,(a++b).length=a.length+b.length:=fun a b=>by
   show(a++b).cps.size=_;rw[PySem.Str.cps_append,Array.size_append];rfl
  have e2:z.length=1:=by rcases h z (by simp)with e|e<;>(rw[e];rfl)
  rw[e1,e1,ih,e2];show 1+0+(r.length+1)=r.length+1+1;omega
theorem wP(x c:Int):(dw x c).length=(cv x).sum/\∀z∈dw x c,z.length=(cM x).sum:=by
 have d:=lJ x c;refine⟨by unfold dw;rw[HX];exact d.1,fun z hz=> ?_⟩;obtain⟨r,hr,rfl⟩:=Hn.mp hz;rw[o7 (d.2 r hr).2];exact(d.2 r hr).1
noncomputable def A2(rows:List Str):Bool:=decide (1<=rows.length)&&decide (rows.length<=8)&&rows.all (fun z=>decide (z.length=(rows.headD "").length))&&decide ((rows.headD "").length<=8)
noncomputable def rR:List PV->Option PV
 | [.tup xs]=>(bV xs).bind fun rows=>if A2 rows=true then some (.bl true)else none
 | _=>none
theorem uE:∀{xs:List PV}{rows:List Str},bV xs=some rows->xs=rows.map PV.str:=by
 intro xs
 induction xs with
 | nil=>intro rows h;cases h;rfl
 | cons x xs ih =>
  intro rows h;cases x with
  | str z =>
   have h:(bV xs).map (z::·)=some rows:=h;cases e:bV xs with
   | none=>rw[e]at h;cases h
   | some r =>
    rw[e]at h;cases h;rw[ih e];rfl
  | _=>cases h
theorem qI:∀rows:List Str,bV (rows.map PV.str)=some rows:=by
 intro r
 induction r with
 | nil=>rfl
 | cons z r ih=>rw[Hf,bV,ih];rfl
theorem A1{vs:List PV}{r:PV}(h:rR vs=some r):r=.bl true/\∃(rows:List Str)(w:Nat),vs=[.tup (rows.map .str)]/\rows≠[]/\rows.length<=8/\w<=8/\∀z∈rows,z.length=w:=by
 unfold rR at h
 split at h
 ·rename_i xs
  cases e:bV xs with
  | none=>rw[e]at h;cases h
  | some rows =>
   rw[e,Hw]at h
   split at h
   ·rename_i hb
    cases h;unfold A2 at hb;rw[Hb,Hb,Hb,Hx]at hb;obtain⟨⟨⟨h1,h2⟩,h3⟩,h4⟩:=hb;have h1:=Ib h1;exact⟨rfl,rows,_,by rw[uE e],(fun z=>by rw[z]at h1;exact absurd h1 (by decide)),Ib h2,Ib h4,fun z hz=>Ib (h3 z hz)⟩
   ·cases h
 ·cases h
theorem EG{rows:List Str}{w:Nat}(h0:rows≠[])(h8:rows.length<=8)(w8:w<=8)(hw:∀z∈rows,z.length=w):rR [.tup (rows.map .str)]=some (.bl true):=by
 show((bV (rows.map PV.str)).bind fun rows=>if A2 rows=true then some (PV.bl true)else none)=_;rw[qI,Hw,Hr];cases rows with
 | nil=>exact absurd rfl h0
 | cons y rows =>
  have ey:=hw y He;unfold A2;rw[Hb,Hb,Hb,Hx];exact⟨⟨⟨IW (Nat.succ_le_succ (IN _)),IW h8⟩,fun z hz=>IW (by rw[hw z hz];exact ey.symm)⟩,IW (by show y.length<=8;omega)⟩
end IR
namespace XE
open PySem
section
variable{M:Model}{A:Around}{E:Value->Shared->Prop}{s:Shared}{base:Heap}{env:Env}{outer:List Env}{L e T:Addr}{cls fl:Value}{dd:Option Addr}{Q:Unit->Shared->Prop}{oe:Obj}{vs:Array Value}
end
end XE
namespace XE
open PySem PySem.W PyProof.Rows
section
variable{prog:Program}{w:World}{A:Around}{E:Value->Shared->Prop}{s:Shared}{K:Frag}{e C:Addr}{ox:Obj}
end
end XE
namespace L2.XN
open PySem PySem.Spec PyProof.Rows L2 XE
section
variable{P:Program}{w:World}{H H' :Hp}{h h' h2:Heap}{a:Addr}{o:HO}{fs ns:List Addr}
end
section
variable{P:Program}{w:World}{K:W.Frag}{mg:Str->Option Value}{base:Heap}{N:List Str}{qual:Str}{scope:Scope}{f C:Addr}{cd:Value}{A:Around}{outer:List Env}{s s1:Shared}{H H1:Hp}{E:XK}
 {pins:List (Addr×Obj)} {σ:St}
end
end L2.XN
namespace L2.XN
open PySem PySem.Spec PyProof.Rows L2 XE
section
variable{X:Cx}{pins:List (Addr×Obj)}{σ:St}{H:Hp}{s:Shared}{W:Value->Shared->Prop}{A:Around}{cm:Bool}
noncomputable abbrev F3(X:Cx)(pn:List (Addr×Obj))(W:Value->Shared->Prop):Cx:={X with pn:=pn,xe:=W}
theorem pinned(I:Inv X pins σ H s):Inv (F3 X (X.pn++pins) W) [] σ H s :=
 ⟨⟨I.ok.mod,I.ok.kind,I.ok.glob,I.ok.blt,I.ok.above,I.ok.inj,I.ok.has,I.ok.cab,I.ok.hd,I.ok.frames,I.ok.stk,I.ok.exf,I.ok.bs,I.ok.bsz,I.ok.noex,I.ok.exfs,I.ok.funs,I.ok.frf⟩,I.os,I.bare,I.base,I.loc,I.cell,I.free,I.freeC,
  fun p hp=>I.pin p (by rw[JR]at hp;exact hp),I.hok,I.len⟩
theorem unpinned{p2:List (Addr×Obj)}(ok:X.Ok)(I:Inv (F3 X (X.pn++pins) W) p2 σ H s):Inv X pins σ H s :=
 ⟨ok,I.os,I.bare,I.base,I.loc,I.cell,I.free,I.freeC,fun p hp=>I.pin p (IG _ hp),I.hok,I.len⟩
end
end L2.XN
namespace L2.XN
open PySem PySem.Spec PyProof.Rows L2 XE
section
variable{K:W.Frag}{mg:Str->Option Value}{x:Str}{C D:Addr}{b:Bool}
end
section
variable{X:Cx}{e C:Addr}{dd:Option Addr}{oe:Obj}{c:V}{u:Value}{b:Bool}
end
end L2.XN
namespace IR
open PySem PySem.Spec PyProof.Rows L2 L2.XN
section
variable(cd:Nat->List PV->Option PV)(xd:Nat->List PV->Bool)(fu:Nat)(cn:Str)
end
section
variable{cd:Nat->List PV->Option PV}{xd:Nat->List PV->Bool}{fu:Nat}{cn:Str}{C:Addr}{E:XK}{X:Cx}{ct:Ct}{Hi:Hp}{τ:En}
end
section
variable{cd:Nat->List PV->Option PV}{xd:Nat->List PV->Bool}{fu:Nat}{cn:Str}{τ τ1:En}{s:IS}{ss:vP}
end
section
variable{K:W.Frag}{mg:Str->Option Value}{P:Nat->Option FD}{F:List (Str×Nat)}{G:List (Str×PV)}{B:List Str}{p:Program}{w:World}{base:Heap}{k:Nat}
variable(hG:∀x v,G.lookup x=some v->∃u w,mg x=some u/\RelV w u/\∀Hi n H,Rp K Hi n v H w)(hB:∀x,B.contains x=true->mg x=none)
include hG hB
end
section
variable{K:W.Frag}{mg:Str->Option Value}{P:Nat->Option FD}{F0:List (Str×Nat)}{G0:List (Str×PV)}{B0:List Str}
end
end IR
namespace Law
open PySem PySem.Spec PyProof.Rows L2 IR
noncomputable def kL(i:Nat):Stmt:=PySem.Challenge.pw_unstruck_k42_bare_part.main.body.getD i (.Pass ⟨0,0,0,0⟩)
noncomputable def F:List (Str×Nat):=[("columns_in",109),("takes_column",110),("holders_of",111),("others",112),("reached",113),("most_of",114),("bare_of",120),("bits_of",46),("with_line",47),("row_of",48),("_law_cell",4),("_law_mixed",5),("_law_board",6),("_law_order",21),("_law_blocks",76),("_law_whole",8),("_law_same",9),("_law_all_same",10),("_law_are_lines",116),("_law_good",121),("_law_told",122),("law",123)]
noncomputable def G:List (Str×PV):=[("CELL",(.str "x"))]
noncomputable def B:List Str:=["len","int","list","tuple","min","max","isinstance","str","bool","range","zip","enumerate","sorted","set","sum","dict"]
noncomputable abbrev qV:Stmt:=kL 2
noncomputable abbrev HM:List Str:=["line"]
noncomputable abbrev oE:Stmt:=kL 4
noncomputable abbrev N110:List Str:=["choices","holders","row","tried","column"]
noncomputable abbrev uQ:Stmt:=kL 5
noncomputable abbrev N111:List Str:=["choices","holders","row"]
noncomputable abbrev qU:Stmt:=kL 6
noncomputable abbrev HL:List Str:=["size","numbers"]
noncomputable abbrev qT:Stmt:=kL 7
noncomputable abbrev HK:List Str:=["choices","holders","rows","columns","place","row","column"]
noncomputable abbrev qS:Stmt:=kL 8
noncomputable abbrev HJ:List Str:=["board","choices","holders","placing","reach"]
noncomputable abbrev qQ:Stmt:=kL 9
noncomputable abbrev HH:List Str:=["board","told"]
noncomputable abbrev CO:Stmt:=kL 11
noncomputable abbrev N46:List Str:=["line","bits","bit","sign"]
noncomputable abbrev Em:Stmt:=kL 12
noncomputable abbrev N47:List Str:=["levels","bits","after","size","level","above","taken","count","bit"]
noncomputable abbrev CN:Stmt:=kL 13
noncomputable abbrev N48:List Str:=["board","levels","line"]
noncomputable abbrev s4:Stmt:=kL 15
noncomputable abbrev N4:List Str:=["_law_script","_law_k"]
noncomputable abbrev s5:Stmt:=kL 16
noncomputable abbrev N5:List Str:=["_law_cell_here","_law_k","_law_number"]
noncomputable abbrev s6:Stmt:=kL 17
noncomputable abbrev N6:List Str:=["_law_head","_law_cell_here","_law_most","_law_rows","_law_columns","_law_thick","_law_lines","_law_row","_law_signs","_law_column","_law_place","_law_one"]
noncomputable abbrev CP:Stmt:=kL 18
noncomputable abbrev N21:List Str:=["_law_cell_here","_law_many","_law_found","_law_k"]
noncomputable abbrev zU:Stmt:=kL 19
noncomputable abbrev Ev:List Str:=["_law_head","_law_cell_here","_law_sizes","_law_wide","_law_rows","_law_columns","_law_lines","_law_k","_law_row","_law_column"]
noncomputable abbrev s8:Stmt:=kL 20
noncomputable abbrev N8:List Str:=["_law_found"]
noncomputable abbrev s9:Stmt:=kL 21
noncomputable abbrev N9:List Str:=["_law_found","_law_due"]
noncomputable abbrev CQ:Stmt:=kL 22
noncomputable abbrev N10:List Str:=["_law_found","_law_due","_law_one","_law_other"]
noncomputable abbrev qR:Stmt:=kL 23
noncomputable abbrev HI:List Str:=["_law_found","_law_many","_law_one"]
noncomputable abbrev qP:Stmt:=kL 24
noncomputable abbrev HG:List Str:=["_law_board_here","_law_found","_law_rows","_law_columns","_law_row","_law_others"]
noncomputable abbrev qO:Stmt:=kL 25
noncomputable abbrev HF:List Str:=["_law_board_here","_law_found","_law_kept"]
noncomputable abbrev kQ:Stmt:=kL 26
noncomputable abbrev HE:List Str:=["_law_script","_law_k","_law_head","_law_board_here"]
noncomputable def EA:FD:=⟨1,1,
  (.cons (.ret [] (.lc2 (.var 0) (.enum (.var 0)) (.yes (.val (.cmp .Eq (.var 1) (.con (.str "x"))))) []))
  .nil)⟩
noncomputable def d110:FD:=⟨5,4,
  (.cons .never .nil)⟩
noncomputable def Ar:FD:=⟨3,1,
  (.cons (.drop (.call 20011 (.cons (.con .non) .nil))) (.cons (.hand 1 o5) .nil))⟩
noncomputable def D9:FD:=⟨2,2,
  (.cons (.ret [] (.lc (.var 0) (.rng (.cons (.var 0) .nil)) (.yes (.val (.cmp .NotIn (.var 0) (.var 1)))) [1]))
  .nil)⟩
noncomputable def D7:FD:=⟨7,2,
  (.cons (.asg 2 true [] (.call 112 (.cons (.bf .len (.cons (.var 0) .nil)) (.cons (.bf .lvals (.cons (.var 1) .nil)) .nil))))
  (.cons (.asg 3 true [] (.lst .nil))
  (.cons (.asg 4 false [] (.con (.int 0)))
  (.cons (.whil (.val (.cmp .Lt (.var 4) (.bf .len (.cons (.var 2) .nil)))) (.cons (.asg 5 false [] (.ix (.var 2) (.var 4)))
  (.cons (.forr [6] true [] (.seq (.ix (.var 0) (.var 5))) (.cons (.ife (.val (.cmp .NotIn (.var 6) (.var 3))) (.cons (.app 3 [6] (.var 6))
  (.cons (.app 2 [] (.ix (.var 1) (.var 6)))
  .nil)) .nil)
  .nil))
  (.cons (.aug 4 .Add (.con (.int 1)))
  .nil))))
  (.cons (.ret [2,3] (.tup (.cons (.var 2) (.cons (.var 3) .nil))))
  .nil)))))⟩
noncomputable def D6:FD:=⟨5,1,
  (.cons (.asg 1 false [] (.lc (.call 109 (.cons (.var 0) .nil)) (.seq (.var 0)) .no []))
  (.cons (.asg 2 false [] (.call 111 (.cons (.var 1) .nil)))
  (.cons (.asg 3 false [] (.bf .tuple (.cons (.bf .sorted (.cons (.lcs (.var 2)) .nil)) .nil)))
  (.cons (.asg 4 false [] (.call 113 (.cons (.var 1) (.cons (.var 2) .nil))))
  (.cons (.ret [3] (.tup (.cons (.var 3) (.cons (.call 112 (.cons (.bf .len (.cons (.var 0) .nil)) (.cons (.ix (.var 4) (.con (.int 0))) .nil))) (.cons (.bf .sorted (.cons (.ix (.var 4) (.con (.int 1))) .nil)) .nil)))))
  .nil)))))⟩
noncomputable def D4:FD:=⟨2,1,
  (.cons (.asg 1 false [] (.call 114 (.cons (.var 0) .nil)))
  (.cons (.ret [] (.tup (.cons (.call 112 (.cons (.bf .len (.cons (.var 0) .nil)) (.cons (.ix (.var 1) (.con (.int 1))) .nil))) (.cons (.call 112 (.cons (.bf .len (.cons (.ix (.var 0) (.con (.int 0))) .nil)) (.cons (.ix (.var 1) (.con (.int 2))) .nil))) .nil))))
  .nil))⟩
noncomputable def d46:FD:=⟨4,1,
  (.cons (.asg 1 true [] (.lst .nil))
  (.cons (.asg 2 false [] (.con (.int 1)))
  (.cons (.forr [3] true [0] (.seq (.var 0)) (.cons (.ife (.val (.cmp .Eq (.var 3) (.con (.str "x")))) (.cons (.app 1 [2] (.var 2))
  .nil) .nil)
  (.cons (.asg 2 false [] (.bin .Mult (.var 2) (.con (.int 2))))
  .nil)))
  (.cons (.ret [1] (.var 1))
  .nil))))⟩
noncomputable def Es:FD:=⟨9,2,
  (.cons (.hand 2 bQ) .nil)⟩
noncomputable def d48:FD:=⟨3,1,
  (.cons (.asg 1 false [] (.lst (.cons (.dlit (.inl 0) (.con (.int 1))) .nil)))
  (.cons (.forr [2] true [0] (.seq (.var 0)) (.cons (.asg 1 false [] (.call 47 (.cons (.var 1) (.cons (.call 46 (.cons (.var 2) .nil)) .nil))))
  .nil))
  (.cons (.ret [1] (.lc (.bf .sumv (.cons (.var 0) .nil)) (.seq (.var 1)) (.yes (.val (.cmp .Gt (.bf .len (.cons (.var 0) .nil)) (.con (.int 0))))) []))
  .nil)))⟩
noncomputable def d4:FD:=⟨2,2,
  (.cons (.ife (.val (.cmp .Lt (.var 1) (.bf .len (.cons (.var 0) .nil)))) (.cons (.ret [] (.ix (.var 0) (.var 1)))
  .nil) .nil)
  (.cons (.ret [] (.con (.int 0)))
  .nil))⟩
noncomputable def d5:FD:=⟨3,2,
  (.cons (.asg 2 false [] (.bin .Mod (.bin .Add (.bin .Add (.bin .Mult (.bin .Mod (.var 0) (.con (.int 2147483647))) (.con (.int 39373))) (.bin .Mult (.bin .Mult (.con (.int 7877)) (.var 1)) (.var 1))) (.con (.int 60493))) (.con (.int 2147483647))))
  (.cons (.asg 2 false [] (.bin .Mod (.bin .Mult (.var 2) (.var 2)) (.con (.int 2147483629))))
  (.cons (.ret [2,1,2] (.bin .Mod (.bin .Mult (.bin .Add (.bin .Mult (.var 2) (.con (.int 48271))) (.var 1)) (.var 2)) (.con (.int 2147483587))))
  .nil)))⟩
noncomputable def d6:FD:=⟨12,3,
  (.cons (.asg 3 false [] (.bin .Add (.con (.int 1)) (.bin .Mod (.var 0) (.var 2))))
  (.cons (.asg 4 false [] (.bin .Add (.con (.int 1)) (.bin .Mod (.bin .FloorDiv (.var 0) (.con (.int 8))) (.var 2))))
  (.cons (.asg 5 false [] (.bin .Add (.con (.int 1)) (.bin .Mod (.bin .FloorDiv (.var 0) (.con (.int 64))) (.con (.int 8)))))
  (.cons (.asg 6 true [] (.lst .nil))
  (.cons (.forr [7] true [] (.rng (.cons (.var 3) .nil)) (.cons (.asg 8 false [] (.con (.str "")))
  (.cons (.forr [9] true [] (.rng (.cons (.var 4) .nil)) (.cons (.asg 10 false [] (.bin .Add (.bin .Mult (.var 4) (.var 7)) (.var 9)))
  (.cons (.asg 11 false [] (.cmp .Eq (.bin .Mod (.bin .FloorDiv (.var 1) (.bin .LShift (.con (.int 1)) (.var 10))) (.con (.int 2))) (.con (.int 1))))
  (.cons (.ife (.val (.cmp .Lt (.var 1) (.bin .LShift (.con (.int 1)) (.con (.int 64))))) (.cons (.asg 11 false [] (.cmp .Lt (.bin .Mod (.call 5 (.cons (.var 1) (.cons (.var 10) .nil))) (.con (.int 8))) (.var 5)))
  .nil) .nil)
  (.cons (.asg 8 false [8] (.bin .Add (.var 8) (.ix (.lst (.cons (.con (.str ".")) (.cons (.con (.str "x")) .nil))) (.bf .int (.cons (.var 11) .nil)))))
  .nil)))))
  (.cons (.app 6 [8] (.var 8))
  .nil))))
  (.cons (.ret [6] (.bf .tuple (.cons (.var 6) .nil)))
  .nil))))))⟩
noncomputable def d21:FD:=⟨4,2,
  (.cons (.asg 2 true [] (.lst .nil))
  (.cons (.forr [3] true [] (.rng (.cons (.var 1) .nil)) (.cons (.ins 2 (.bin .Mod (.var 0) (.bin .Add (.var 3) (.con (.int 1)))) (.var 3))
  (.cons (.asg 0 false [] (.bin .FloorDiv (.var 0) (.bin .Add (.var 3) (.con (.int 1)))))
  .nil)))
  (.cons (.ret [2] (.var 2))
  .nil)))⟩
noncomputable def GX:FD:=⟨10,2,
  (.cons (.drop (.call 20001 (.cons (.con .non) .nil))) (.cons (.hand 2 EI) .nil))⟩
noncomputable def d8:FD:=⟨1,1,
  (.cons (.ret [] (.and (.bf (.isin "int") (.cons (.var 0) .nil)) (.not (.bf (.isin "bool") (.cons (.var 0) .nil)))))
  .nil)⟩
noncomputable def d9:FD:=⟨2,2,
  (.cons (.ife (.val (.cmp .Is (.var 1) (.con .non))) (.cons (.ret [] (.cmp .Is (.var 0) (.con .non)))
  .nil) .nil)
  (.cons (.ife (.val (.bf (.isin "tuple") (.cons (.var 1) .nil))) (.cons (.ret [] (.and (.bf (.isin "tuple") (.cons (.var 0) .nil)) (.and (.cmp .Eq (.bf .len (.cons (.var 0) .nil)) (.bf .len (.cons (.var 1) .nil))) (.call 10 (.cons (.bf .list (.cons (.var 0) .nil)) (.cons (.bf .list (.cons (.var 1) .nil)) .nil))))))
  .nil) .nil)
  (.cons (.ife (.val (.bf (.isin "list") (.cons (.var 1) .nil))) (.cons (.ret [] (.and (.bf (.isin "list") (.cons (.var 0) .nil)) (.and (.cmp .Eq (.bf .len (.cons (.var 0) .nil)) (.bf .len (.cons (.var 1) .nil))) (.call 10 (.cons (.var 0) (.cons (.var 1) .nil))))))
  .nil) .nil)
  (.cons (.ife (.val (.bf (.isin "str") (.cons (.var 1) .nil))) (.cons (.ret [] (.and (.bf (.isin "str") (.cons (.var 0) .nil)) (.cmp .Eq (.var 0) (.var 1))))
  .nil) .nil)
  (.cons (.ret [] (.and (.call 8 (.cons (.var 0) .nil)) (.cmp .Eq (.var 0) (.var 1))))
  .nil)))))⟩
noncomputable def d10:FD:=⟨4,2,
  (.cons (.forr [2,3] false [0,1] (.zip (.var 0) (.var 1)) (.cons (.ife (.not (.val (.call 9 (.cons (.var 2) (.cons (.var 3) .nil))))) (.cons (.ret [] (.con (.bl false)))
  .nil) .nil)
  .nil))
  (.cons (.ret [] (.con (.bl true)))
  .nil))⟩
noncomputable def D5:FD:=⟨3,2,
  (.cons (.ife (.not (.val (.bf (.isin "list") (.cons (.var 0) .nil)))) (.cons (.ret [] (.con (.bl false)))
  .nil) .nil)
  (.cons (.forr [2] true [0] (.seq (.var 0)) (.cons (.ife (.or (.not (.val (.call 8 (.cons (.var 2) .nil)))) (.or (.val (.cmp .Lt (.var 2) (.con (.int 0)))) (.val (.cmp .GtE (.var 2) (.var 1))))) (.cons (.ret [] (.con (.bl false)))
  .nil) .nil)
  .nil))
  (.cons (.ret [] (.cmp .Eq (.var 0) (.bf .sset (.cons (.var 0) .nil))))
  .nil)))⟩
noncomputable def D3:FD:=⟨6,2,
  (.cons (.ife (.or (.not (.val (.bf (.isin "tuple") (.cons (.var 1) .nil)))) (.val (.cmp .NotEq (.bf .len (.cons (.var 1) .nil)) (.con (.int 2))))) (.cons (.ret [] (.con (.bl false)))
  .nil) .nil)
  (.cons (.unp [2,3] [1] (.var 1))
  (.cons (.ife (.or (.not (.val (.call 116 (.cons (.var 2) (.cons (.bf .len (.cons (.var 0) .nil)) .nil))))) (.not (.val (.call 116 (.cons (.var 3) (.cons (.bf .len (.cons (.ix (.var 0) (.con (.int 0))) .nil)) .nil)))))) (.cons (.ret [] (.con (.bl false)))
  .nil) .nil)
  (.cons (.forr [4] true [2] (.seq (.var 2)) (.cons (.ife (.val (.cmp .In (.con (.str "x")) (.lc (.ix (.ix (.var 1) (.var 2)) (.var 0)) (.seq (.var 3)) .no [0,4]))) (.cons (.ret [] (.con (.bl false)))
  .nil) .nil)
  .nil))
  (.cons (.asg 5 false [] (.bin .Sub (.bin .Sub (.bin .Add (.bf .len (.cons (.var 0) .nil)) (.bf .len (.cons (.ix (.var 0) (.con (.int 0))) .nil))) (.bf .len (.cons (.var 2) .nil))) (.bf .len (.cons (.var 3) .nil))))
  (.cons (.ret [] (.cmp .Eq (.var 5) (.bin .Sub (.bf .len (.cons (.call 48 (.cons (.var 0) .nil)) .nil)) (.con (.int 1)))))
  .nil))))))⟩
noncomputable def d122:FD:=⟨3,1,
  (.cons (.drop (.call 20020 (.cons (.con .non) .nil))) (.cons (.hand 1 rR) .nil))⟩
noncomputable def Dz:FD:=⟨4,1,
  (.cons (.forr [1] true [] (.rng (.cons (.con (.int 0)) (.cons (.bf .min (.cons (.bf .max (.cons (.bf .len (.cons (.var 0) .nil)) (.cons (.con (.int 1)) .nil))) (.cons (.con (.int 6)) .nil))) (.cons (.con (.int 2)) .nil)))) (.cons (.asg 2 false [] (.call 4 (.cons (.var 0) (.cons (.var 1) .nil))))
  (.cons (.asg 3 false [] (.call 6 (.cons (.bin .FloorDiv (.var 2) (.con (.int 3))) (.cons (.call 4 (.cons (.var 0) (.cons (.bin .Add (.var 1) (.con (.int 1))) .nil))) (.cons (.con (.int 8)) .nil)))))
  (.cons (.ife (.val (.cmp .Eq (.bin .Mod (.var 2) (.con (.int 3))) (.con (.int 1)))) (.cons (.asg 3 false [] (.call 76 (.cons (.bin .FloorDiv (.var 2) (.con (.int 3))) (.cons (.call 4 (.cons (.var 0) (.cons (.bin .Add (.var 1) (.con (.int 1))) .nil))) .nil))))
  .nil) .nil)
  (.cons (.ife (.not (.val (.call 122 (.cons (.var 3) .nil)))) (.cons (.ret [] (.con (.bl false)))
  .nil) .nil)
  .nil)))))
  (.cons (.ret [] (.con (.bl true)))
  .nil))⟩
noncomputable def P:Nat->Option FD:=fun n=>match n with
 | 4=>some d4
 | 5=>some d5
 | 6=>some d6
 | 8=>some d8
 | 9=>some d9
 | 10=>some d10
 | 21=>some d21
 | 46=>some d46
 | 47=>some Es
 | 48=>some d48
 | 76=>some GX
 | 109=>some EA
 | 110=>some d110
 | 111=>some Ar
 | 112=>some D9
 | 113=>some D7
 | 114=>some D6
 | 116=>some D5
 | 120=>some D4
 | 121=>some D3
 | 122=>some d122
 | 123=>some Dz
 | 20000=>some ⟨1,1,.cons (.ret [] (.con .non)) .nil⟩
 | 20001=>some ⟨1,1,.cons (.ret [] (.call 20000 (.cons (.con .non) .nil))) .nil⟩
 | 20002=>some ⟨1,1,.cons (.ret [] (.call 20001 (.cons (.con .non) .nil))) .nil⟩
 | 20003=>some ⟨1,1,.cons (.ret [] (.call 20002 (.cons (.con .non) .nil))) .nil⟩
 | 20004=>some ⟨1,1,.cons (.ret [] (.call 20003 (.cons (.con .non) .nil))) .nil⟩
 | 20005=>some ⟨1,1,.cons (.ret [] (.call 20004 (.cons (.con .non) .nil))) .nil⟩
 | 20006=>some ⟨1,1,.cons (.ret [] (.call 20005 (.cons (.con .non) .nil))) .nil⟩
 | 20007=>some ⟨1,1,.cons (.ret [] (.call 20006 (.cons (.con .non) .nil))) .nil⟩
 | 20008=>some ⟨1,1,.cons (.ret [] (.call 20007 (.cons (.con .non) .nil))) .nil⟩
 | 20009=>some ⟨1,1,.cons (.ret [] (.call 20008 (.cons (.con .non) .nil))) .nil⟩
 | 20010=>some ⟨1,1,.cons (.ret [] (.call 20009 (.cons (.con .non) .nil))) .nil⟩
 | 20011=>some ⟨1,1,.cons (.ret [] (.call 20010 (.cons (.con .non) .nil))) .nil⟩
 | 20012=>some ⟨1,1,.cons (.ret [] (.call 20011 (.cons (.con .non) .nil))) .nil⟩
 | 20013=>some ⟨1,1,.cons (.ret [] (.call 20012 (.cons (.con .non) .nil))) .nil⟩
 | 20014=>some ⟨1,1,.cons (.ret [] (.call 20013 (.cons (.con .non) .nil))) .nil⟩
 | 20015=>some ⟨1,1,.cons (.ret [] (.call 20014 (.cons (.con .non) .nil))) .nil⟩
 | 20016=>some ⟨1,1,.cons (.ret [] (.call 20015 (.cons (.con .non) .nil))) .nil⟩
 | 20017=>some ⟨1,1,.cons (.ret [] (.call 20016 (.cons (.con .non) .nil))) .nil⟩
 | 20018=>some ⟨1,1,.cons (.ret [] (.call 20017 (.cons (.con .non) .nil))) .nil⟩
 | 20019=>some ⟨1,1,.cons (.ret [] (.call 20018 (.cons (.con .non) .nil))) .nil⟩
 | 20020=>some ⟨1,1,.cons (.ret [] (.call 20019 (.cons (.con .non) .nil))) .nil⟩
 | _=>none
end Law
namespace Law
open PySem IR L2
local macro_rules | `(tactic| walk_at "ev") => do
  let ids <- ("sc Option.bind_some Option.map_some Option.bind_none List.length_cons List.length_nil if_true if_false Nat.reduceAdd Nat.reduceSub List.map_cons List.map_nil List.replicate List.append_nil List.cons_append List.nil_append imm imms uo xz j8 Dp xy Dq Ds Dr DI BC List.getD_cons_zero List.getD_cons_succ EV EU zJ bx bh cA bz cC bj b9 cB bm bn bi bw bv bt br bo ll lm vh vj vi yw yv yi yj yh yk bE zC zB xc xa AY AT AS Am ju Dl jv xQ xX jp tZ gv lL Ah tO xr BB A6 A8 tY A9 A7 BA ED EE EF Ay Aw Av List.set_cons_zero List.set_cons_succ F1 Cc Cd eW zL v2 yP zS mI zR EQ BF BE yU yV vF vG EN EO yS BD yT wM ix_L ix_T ix_O ix_B ix_S kP bc B8 B7 B9 CA rG rJ rF rH rE eq_self decide_true decide_false oy mZ ow ou mY mW mX kW kT kU kS reduceCtorEq bne_self_eq_false beq_self_eq_true Bool.true_bne Bool.bne_true Bool.false_bne Bool.bne_false LN Nat.reduceLeDiff Nat.reduceLT Nat.reducePow Int.reduceLT Int.reduceLE Int.reducePow Int.reduceNeg Int.natAbs_one and_self true_and and_true or_true true_or reduceIte Bool.not_true Bool.not_false Bool.and_true Bool.or_true Bool.or_false Bool.true_or Bool.false_or Bool.true_and Bool.and_false Bool.false_and Bool.false_eq_true keeps uY uX List.getElem?_cons_zero List.getElem?_cons_succ".splitOn " ").toArray.mapM fun s => do
   let i := Lean.mkIdent s.toName
   `(Lean.Parser.Tactic.simpLemma| $i:ident)
  `(tactic| (try simp -implicitDefEqProofs only [$ids,*]))
local macro_rules | `(tactic| walk_at "go") => `(tactic| (walk_at "ev"; repeat (rw [Hr (by first | omega | assumption | decide)]; walk_at "ev")))
section
open PySem.Spec PyProof.Rows
noncomputable abbrev jZ:List Str:=["choices","holders","row","tried"]
theorem Fg:aW N110 jZ (aA oE):=⟨rfl,rfl,rfl,by decide +kernel,rfl,by decide +kernel,by decide +kernel⟩
noncomputable def gx(T:List Int):List (L2.ag×V):=T.map fun c=>(Sum.inl c,V.bl true)
theorem yF(T:List Int)(c:Int):(d7 (gx T) (Sum.inl c)).isSome=T.contains c:=by
 unfold d7 gx
 induction T with
 | nil=>rfl
 | cons d T ih =>
  rw[Hf,Io,J3]
  by_cases e:d=c
  ·simp[e]
  ·have e' :¬((Sum.inl d:L2.ag)=Sum.inl c):=fun z=>e (Sum.inl.inj z)
   have e2:(c==d)=false:=by simpa using fun z:c=d=>e z.symm
   simp only[e',Jm,e2,Bool.false_or];exact ih
section
variable{n:Nat}{rec:aO->Int->List Int->Bool×aO×List Int}{row c r:Int}{cs:List Int}{H H' :aO}{T T' :List Int}
theorem CB(h:T.contains c=true):gT rec row (c::cs) H T=gT rec row cs H T:=by
 show(if T.contains c=true then _ else _)=_;rw[Hr h]
theorem v8(h:T.contains c=false)(e:aj H c=none):gT rec row (c::cs) H T=(true,cS H c row,T++[c]):=by
 unfold gT;rw[Hl (by rw[h];exact Hk),e]
theorem zK(h:T.contains c=false)(e:aj H c=some r)(k:rec H r (T++[c])=(true,H',T')):gT rec row (c::cs) H T=(true,cS H' c row,T'):=by
 unfold gT;rw[Hl (by rw[h];exact Hk),e];dsimp only;rw[k]
theorem v7(h:T.contains c=false)(e:aj H c=some r)(k:rec H r (T++[c])=(false,H',T')):gT rec row (c::cs) H T=gT rec row cs H' T' :=by
 show(if T.contains c=true then _ else _)=_;rw[Hl (by rw[h];exact Hk),e];dsimp only;rw[k]
theorem mB(hr:∀H r T,(rec H r T).2.1.length<=H.length+n):∀{cs:List Int}{H:aO}{T:List Int},(∀H r T H' T',rec H r T=(false,H',T')->H' =H)->(gT rec row cs H T).2.1.length<=H.length+(n+1)
 | [],H,T,_=>by show H.length<=_;omega
 | c::cs,H,T,hf=>by
  unfold gT
  split
  ·exact mB hr hf
  ·split
   ·have:=jX H c row
    dsimp only;omega
   ·rename_i r e
    have h1:=hr H r (T++[c]);cases hw:rec H r (T++[c])with
    | mk b w =>
     obtain⟨H1,T1⟩:=w;rw[hw]at h1;dsimp only at h1;cases b with
     | true =>
      have:=jX H1 c row;dsimp only;omega
     | false =>
      have e1:=hf H r (T++[c]) H1 T1 hw;subst e1;exact mB hr hf
theorem qF{C:List (List Int)}:∀{n:Nat}{H:aO}{row:Int}{T:List Int},(tk C n H row T).2.1.length<=H.length+n
 | 0,H,row,T=>Hg _
 | n+1,H,row,T=>mB (fun H r T=>qF) (fun H r T H' T' h=>gS h)
theorem tk8(nd:T.Nodup)(bd:∀c∈T,0<=c/\c<8):T.length<=8:=dE (U:=[0,1,2,3,4,5,6,7]) nd fun x hx=>by
 obtain⟨a,b⟩:=bd x hx;simp only[Hm];omega
end
theorem yE{T:List Int}{c:Int}(h:T.contains c=false):dB (gx T) (Sum.inl c) (V.bl true)=gx (T++[c]):=by
 unfold dB;rw[Hl]
 ·unfold gx
  rw[IJ];rfl
 ·intro z
  rw[Jl]at z;obtain⟨q,hq,e⟩:=z;unfold gx at hq;obtain⟨d,hd,rfl⟩:=Hn.mp hq;have e:(Sum.inl d:L2.ag)=Sum.inl c:=Ib e;have:=Sum.inl.inj e;subst this;rw[IK.mpr hd]at h;cases h
noncomputable def cQ(a b:Addr)(H H' :Hp):Prop:=∀x o,x≠a->x≠b->H x=some o->H' x=some o
theorem cQ.trans{a b:Addr}{H H1 H2:Hp}(s:cQ a b H H1)(t:cQ a b H1 H2):cQ a b H H2:=fun x o n m e=>t x o n m (s x o n m e)
theorem cQ.refl{a b:Addr}{H:Hp}:cQ a b H H:=fun _ _ _ _ e=>e
noncomputable def HB(K:W.Frag)(a b:Addr)(H:Hp)(p:Addr)(xs:List V):Prop:=∀H',cQ a b H H' ->bB K H' p xs
theorem HB.to{K:W.Frag}{a b p:Addr}{H H' :Hp}{xs:List V}(s:cQ a b H H')(h:HB K a b H p xs):HB K a b H' p xs:=fun H2 s2=>h H2 (s.trans s2)
noncomputable def BS(K:W.Frag)(H:Hp)(a b:Addr)(us:List V)(C:List (List Int)):Prop:=us.length=C.length/\∀(i:Nat)(ns:List Int),C[i]? =some ns->∃p,us[i]? =some (.ref p)/\HB K a b H p (ns.map V.int)
theorem BS.to{K:W.Frag}{a b:Addr}{H H' :Hp}{us:List V}{C:List (List Int)}(s:cQ a b H H')(h:BS K H a b us C):BS K H' a b us C :=
 ⟨h.1,fun i ns e=>by obtain⟨p,h1,h4⟩:=h.2 i ns e;exact⟨p,h1,h4.to s⟩⟩
noncomputable def spT(K:W.Frag)(n:Nat):Sp:=fun vs H Q _=>∃(p0 ph pt:Addr)(us:List V)(C:List (List Int))(Ht:aO)(row:Int)(T:List Int),vs=[.ref p0,.ref ph,.int row,.ref pt]/\HB K ph pt H p0 us/\BS K H ph pt us C/\H ph=some (.dK (av Ht))/\H pt=some (.dK (gx T)) /\
 ph≠pt/\(0<=row/\row<C.length)/\C.length<=8/\(∀ns∈C,ns.length<=100)/\(∀r,∀c∈eR C r,0<=c/\c<8)/\(∀q∈Ht,0<=q.2/\q.2<C.length)/\Ht.length+n<=1000/\T.Nodup/\(∀c∈T,0<=c/\c<8)/\8<n+1+T.length /\
 ∀H',cQ ph pt H H' ->H' ph=some (.dK (av (tk C (n+1) Ht row T).2.1))->H' pt=some (.dK (gx (tk C (n+1) Ht row T).2.2))->Q (.bl (tk C (n+1) Ht row T).1) H'
noncomputable def Fc(K:W.Frag):Nat->Sp
 | 0=>fun _ _ _ _=>False
 | n+1=>spT K n
theorem xF{K:W.Frag}{mg:Str->Option Value}{p:Program}{w:World}{base:Heap}{f:Addr}{fd:FuncData}(D:BR K mg "takes_column" oE jZ f fd)(n:Nat)(F:bN p w K mg base iA n f fd jZ (Fc K n)):bN p w K mg base iA (n+1) f fd jZ (spT K n):=by
 refine D.fn.ok Fg (fun vs H Q E h=> ?_) (fun cdv A outer s0 H vs Q E hr h=> ?_)
 ·obtain⟨p0,ph,pt,us,C,Ht,row,T,rfl,_⟩:=h
  rfl
 obtain⟨p0,ph,pt,us,C,Ht,row,T,rfl,sq0,ca,hph,hpt,n3,hrow,c8,cl,cc,hh,hz,nd0,bd0,hn,q⟩:=h;have nd:=Fg.nd;have hu:=Bo hr;have hs:sizeLine=16777216:=Im
 refine⟨_,aa (gB JW rfl (eh (io fC (pv 0) (pv 2) (fun _ _=>rfl))) (ar (i:=4) nd rfl (Or.inl rfl))
   (ao (kw (wc (lA hu (pv 4) (pv 3)))
    (aa (mO hu (pv 3) (pv 4) oU rfl)
    (ao (kw (PW.pt (Bc (wc (lA hu (pv 4) (pv 1))) (wW (Cg (cw F hr rfl D.nm D.fn.kp D.bd .nil ip (aH (pv 0) (aH (pv 1) (aH (sg hu (pv 1) (pv 4) (fun _ _=>rfl)) (aH (pv 3) aX)))))))))
     (aa (mO hu (pv 1) (pv 4) (pv 2) rfl) (ao (fz oU))) ee))) ee)))
  (ao (fz oU)),?_⟩
 obtain⟨cs,hcs⟩:∃cs,C[row.toNat]? =some cs:=⟨_,Hd (by omega)⟩;have ech:eR C row=cs:=by unfold eR;rw[Hc,hcs];rfl
 obtain⟨pr,hpr,sqr⟩:=ca.2 _ _ hcs;have hat:dH us row=some (.ref pr):=by
  have:=bJ hpr;rw[show((row.toNat:Nat):Int)=row by omega]at this;exact this
 refine⟨_,rfl,_,rfl,p0,us,_,.ref pr,rfl,rfl,sq0 _ cQ.refl,hat,?_⟩;have etk:tk C (n+1) Ht row T=gT (tk C n) row cs Ht T:=by
  show gT (tk C n) row (eR C row) Ht T=_;rw[ech]
 rw[etk]at q;have hc8:∀c∈cs,0<=c/\c<8:=fun c hc=>cc row c (by rw[ech];exact hc);refine⟨pr,rfl,⟨_,sqr _ cQ.refl⟩,o9 (xs:=cs.map V.int) (fun i σ G=>∃Ti a,gT (tk C n) row cs Ht T=gT (tk C n) row (cs.drop i) Ht Ti/\Ti.Nodup/\(∀c∈Ti,0<=c/\c<8)/\T.length<=Ti.length/\cQ ph pt H G/\G ph=some (.dK (av Ht))/\G pt=some (.dK (gx Ti))/\σ=[some (.ref p0),some (.ref ph),some (.int row),some (.ref pt),a]) ⟨T,none,rfl,nd0,bd0,Hg _,cQ.refl,hph,hpt,rfl⟩ ?_ ?_ ?_⟩
 ·rintro i σ G _ ⟨Ti,a,_,_,_,_,st,_,_,_⟩
  exact sqr _ st
 ·rintro i x σ G hx ⟨Ti,a,e0,ti1,ti2,ti3,st,gh,gt,rfl⟩
  obtain⟨c,hci,rfl⟩:∃c,cs[i]? =some c/\x=.int c:=by
   rw[Ho]at hx;cases e:cs[i]? with
   | none=>rw[e]at hx;cases hx
   | some c=>rw[e]at hx;cases hx;exact⟨c,rfl,rfl⟩
  have hd:cs.drop i=c::cs.drop (i+1):=by
   obtain⟨z1,z2⟩:=Hh.mp hci;rw[JI z1,z2]
  obtain⟨b0,b8⟩:=hc8 c (Hz hci);refine⟨_,rfl,_,rfl,pt,_,rfl,fI.k (k:=Sum.inl c) gt,?_⟩;refine⟨_,rfl,?_⟩;rw[yF];cases hT:Ti.contains c with
  | true =>
   refine jq ?_;refine⟨Ti,_,?_,ti1,ti2,ti3,st,gh,gt,rfl⟩;rw[e0,hd,CB hT]
  | false =>
   refine jC ?_;have tl:Ti.length<=8:=tk8 ti1 ti2;refine⟨_,rfl,_,rfl,pt,_,rfl,.inl ⟨_,Sum.inl c,gt,rfl,by unfold gx;rw[HX,hs];omega,rfl⟩,?_⟩;rw[yE hT];obtain⟨G1,hG1⟩:∃G1,G1=L2.upd G pt (.dK (gx (Ti++[c]))):=⟨_,rfl⟩;rw[<- hG1];have g1t:G1 pt=some (.dK (gx (Ti++[c]))):=by rw[hG1,aD]
   have g1h:G1 ph=some (.dK (av Ht)):=by rw[hG1,aB n3];exact gh
   have st1:cQ ph pt H G1:=fun x o a1 a2 e=>by rw[hG1,aB a2];exact st x o a1 a2 e
   refine⟨_,rfl,_,rfl,ph,_,rfl,fI.k (k:=Sum.inl c) g1h,?_⟩;rw[my];cases hg:aj Ht c with
   | none =>
    refine⟨_,rfl,jC ?_⟩;refine jC ?_;refine⟨_,rfl,_,rfl,_,rfl,ph,_,rfl,.inl ⟨_,Sum.inl c,g1h,rfl,by unfold av;rw[HX,hs];omega,rfl⟩,?_⟩;rw[mx];have e1:gT (tk C n) row cs Ht T=(true,cS Ht c row,Ti++[c]):=by rw[e0,hd,v8 hT hg]
    rw[e1]at q;exact q _ (fun x o a1 a2 e=>by rw[aB a1];exact st1 x o a1 a2 e) aD (by rw[aB (Ja n3)];exact g1t)
   | some r =>
    refine⟨_,rfl,jq ?_⟩;obtain⟨r0,r1⟩:=hh _ (dR hg);have nd1:(Ti++[c]).Nodup:=by
     rw[JG];refine⟨ti1,by simp,fun a ha x hx z=> ?_⟩;rw[IZ]at hx;subst hx z;rw[IK.mpr ha]at hT;cases hT
    have bd1:∀d∈Ti++[c],0<=d/\d<8:=fun d hd=>by
     rcases ID.mp hd with z|z
     ·exact ti2 d z
     ·rw[IZ.mp z]
      exact⟨b0,b8⟩
    have tl1:=tk8 nd1 bd1;rw[IA,Jq]at tl1;cases n with
    | zero=>omega
    | succ n =>
    refine⟨_,rfl,_,rfl,_,rfl,_,rfl,ph,.int r,rfl,?_,?_⟩
    ·have:=fI.k (k:=Sum.inl c) g1h
     rw[my,hg]at this;exact this
    ·refine⟨_,rfl,?_⟩
     refine⟨p0,ph,pt,us,C,Ht,r,Ti++[c],rfl,sq0.to st1,ca.to st1,g1h,g1t,n3,⟨r0,r1⟩,c8,cl,cc,hh,by omega,nd1,bd1,by rw[IA,Jq];omega,fun G2 s2 g2h g2t=> ?_⟩;have hlen:=qF (C:=C) (n:=n+1) (H:=Ht) (row:=r) (T:=Ti++[c]);cases hw:tk C (n+1) Ht r (Ti++[c])with
     | mk b w =>
      obtain⟨H2,T2⟩:=w;rw[hw]at g2h g2t hlen;have g2h:G2 ph=some (.dK (av H2)):=g2h;have g2t:G2 pt=some (.dK (gx T2)):=g2t;have hlen:H2.length<=Ht.length+(n+1):=hlen;refine⟨b,rfl,?_⟩;cases b with
      | true =>
       refine jC ?_;refine⟨_,rfl,_,rfl,_,rfl,ph,_,rfl,.inl ⟨_,Sum.inl c,g2h,rfl,by unfold av;rw[HX,hs];omega,rfl⟩,?_⟩;rw[mx];have e1:gT (tk C (n+1)) row cs Ht T=(true,cS H2 c row,T2):=by rw[e0,hd,zK hT hg hw]
       rw[e1]at q;exact q _ (fun x o a1 a2 e=>by rw[aB a1];exact s2 x o a1 a2 (st1 x o a1 a2 e)) aD (by rw[aB (Ja n3)];exact g2t)
      | false =>
       refine jq ?_;have e2:=gS hw;subst e2;obtain⟨_,j2,j3,j4,_,_⟩:=v5 cc nd1 bd1 (by rw[IA,Jq];omega) hw;refine⟨T2,_,?_,j3,j4,?_,st1.trans s2,g2h,g2t,rfl⟩
       ·rw[e0,hd,v7 hT hg hw]
       ·exact Ik ti3 (dE ti1 fun x hx=>j2 (IG _ hx))
 ·rintro σ G ⟨Ti,a,e0,ti1,ti2,ti3,st,gh,gt,rfl⟩
  rw[HX,List.drop_length]at e0;rw[e0]at q;exact q G st gh gt
theorem li{K:W.Frag}{mg:Str->Option Value}{p:Program}{w:World}{base:Heap}{f:Addr}{fd:FuncData}(D:BR K mg "takes_column" oE jZ f fd):∀n,bN p w K mg base iA n f fd jZ (Fc K n)
 | 0=>⟨fun vs H Q E h=>h.elim,fun A outer s H args us vs Q E _ _ _ _ h=>h.elim⟩
 | n+1=>xF D n (li D n)
end
section
open PySem.Spec PyProof.Rows
theorem Fh:aW N111 ["choices"] (aA uQ):=⟨rfl,rfl,rfl,by decide +kernel,rfl,by decide +kernel,by decide +kernel⟩
theorem lv11{k:Nat}{v:PV}(h:aE P k 20011 [.non]=some v):12<=k:=by
 by_cases hk:12<=k
 ·exact hk
 ·have:k=0\/k=1\/k=2\/k=3\/k=4\/k=5\/k=6\/k=7\/k=8\/k=9\/k=10\/k=11:=by omega
  have e:∀k,k<12->(aE P k 20011 [.non]).isNone=true:=by decide +kernel
  have:=e k (by omega);rw[h]at this;cases this
theorem o4{k:Nat}{vs:List PV}{r:PV}(h:aE P (k+1) 111 vs=some r):12<=k/\∃C,vs=[.lst (kX C)]/\gM C=true/\r=eB (hd C C.length):=by
 rw[gN]at h;have hP:P 111=some Ar:=rfl;rw[hP,Hw]at h
 split at h
 case isFalse=>cases h
 rename_i hl;have hl:vs.length=1:=hl
 match vs,hl with
 | [v],_ =>
  simp only[Ar,tq,tu,fX,fK,fM,fL,fQ,fS,fJ,fN,fV,fU,fY,fP,fT,fW,fR,fO,bx,bh,cA,cH,bz,cC,cF,bj,cI,b9,cB,bm,bn,bi,cJ,bw,bv,cE,bt,br,bo,cG,ll,lm,entry,Hw,IP,Hf,Ip,bE]at h;cases h9:aE P k 20011 [.non]with
  | none=>rw[h9]at h;cases h
  | some x =>
   rw[h9]at h;refine⟨lv11 h9,?_⟩;simp only[IP,Hw,eW]at h;have e:(([TV.frz v (imm v)]++List.replicate (3-[v].length) TV.un).take 1).map TV.valD=[v]:=rfl;rw[e]at h;cases hg:o5 [v]with
   | none=>rw[hg]at h;cases h
   | some r' =>
    rw[hg]at h;have h:some r' =some r:=h;cases h;unfold o5 at hg
    split at hg
    case h_2=>cases hg
    rename_i cs heq;cases heq;cases et:iw cs with
    | none=>rw[et]at hg;cases hg
    | some C =>
     rw[et]at hg;simp only[Hw]at hg
     split at hg
     ·rename_i hc
      cases hg;exact⟨C,by rw[lU et],hc,rfl⟩
     ·cases hg
theorem Br{K:W.Frag}{Hi:Hp}{n:Bool}{H:Hp}:∀{C:List (List Int)}{us:List V},aG K Hi n (kX C) H us->us.length=C.length/\∀(i:Nat)(ns:List Int),C[i]? =some ns->∃p,us[i]? =some (.ref p)/\bB K H p (ns.map V.int)
 | [],us,h=>by
  have h:aG K Hi n [] H us:=h;unfold aG at h;subst h;exact⟨rfl,fun i ns e=>by simp at e⟩
 | c::C,us,h=>by
  have h:aG K Hi n (.lst (c.map .int)::kX C) H us:=h;unfold aG at h;obtain⟨u,r,rfl,a,b⟩:=h;obtain⟨h1,h2⟩:=Br b;refine⟨by rw[IL,IL,h1],fun i ns e=> ?_⟩;cases i with
  | zero =>
   have e:c=ns:=by simpa using e
   subst e;obtain⟨p,us',rfl,_,l,r'⟩:=Rp.lst.mp a;have:=aG.ints.mp r';subst this;exact⟨p,rfl,l⟩
  | succ i =>
   obtain⟨p,w1,w2⟩:=h2 i ns (by simpa using e);exact⟨p,by simpa using w1,w2⟩
theorem mi{C:List (List Int)}:∀k:Nat,(hd C k).length<=9*k
 | 0=>Hg _
 | k+1=>by
  have h1:=mi (C:=C) k;have h2:=qF (C:=C) (n:=9) (H:=hd C k) (row:=(k:Nat)) (T:=[]);show(tk C 9 (hd C k) (k:Nat) []).2.1.length<=_;omega
theorem Ae{K:W.Frag}{mg:Str->Option Value}{f fc:Addr}{fd fdc:FuncData}(hle:mg "len"=none)(hra:mg "range"=none)(DC:BR K mg "takes_column" oE jZ fc fdc)(D:BR K mg "holders_of" uQ ["choices"] f fd)(p:Program)(w:World)(base:Heap)(k:Nat)
  (_:∀y g,F.lookup y=some g->∃b gd qs,mg y=some (.ref b)/\W.keepIn K (.ref b)=true/\Binds K gd qs []/\bN p w K mg base iA k b gd qs (qL K (aE P k g))):bN p w K mg base iA (k+1) f fd ["choices"] (qL K (aE P (k+1) 111)):=by
 refine D.fn.ok Fh (fun vs H Q E h=> ?_) (fun cdv A outer s H vs Q E hr h=> ?_)
 ·obtain⟨pvs,r,h1,h2,_⟩:=h
  rw[<- h1.len];obtain⟨_,C,e,_⟩:=o4 h2;rw[e];rfl
 obtain⟨pvs,r,h1,h2,q⟩:=h;obtain⟨hk,C,rfl,hg,rfl⟩:=o4 h2;obtain⟨c8,cl,cc⟩:=gL hg;have FC:=(li (p:=p) (w:=w) (base:=base) DC 9).mono (k:=k) (by omega);have nd:=Fh.nd;have hs:sizeLine=16777216:=Im;unfold aG at h1;obtain⟨u1,_,rfl,r1,h1⟩:=h1;unfold aG at h1;subst h1;obtain⟨p0,us,rfl,_,sq0,rl⟩:=Rp.lst.mp r1;obtain⟨ul,ua⟩:=Br (rl.mono bC)
 refine⟨_,aa (dW (i:=1) nd rfl (Or.inl rfl) gf)
  (aa (gB JW rfl (kz rfl hra (aH (dN dq rfl hle KY (aH (pv 0) aX)) aX)) (ar (i:=2) nd rfl (Or.inl rfl))
   (ao (ef (cw FC hr rfl DC.nm DC.fn.kp DC.bd .nil ip (aH (pv 0) (aH (pv 1) (aH (pv 2) (aH gf aX))))))))
  (ao (fz (pv 1)))),?_⟩
 intro ph hph;obtain⟨H1,hH1⟩:∃H1,H1=L2.upd H ph (.dK []):=⟨_,rfl⟩;have s1:aC H H1:=by rw[hH1];exact aI hph _
 have h1p:H1 ph=some (.dK (av (hd C 0))):=by rw[hH1,aD];rfl
 rw[<- hH1];refine⟨_,rfl,p0,us,rfl,.inl (s1.seq sq0),((us.length:Nat):Int),rfl,by omega,by rw[ul];omega,?_⟩;refine uk (lo:=0) (n:=((us.length:Nat):Int).toNat) (fun i σ G=>∃a,σ=[some (.ref p0),some (.ref ph),a]/\aC H G/\G ph=some (.dK (av (hd C i)))) ⟨_,rfl,s1,h1p⟩ ?_ ?_
 ·rintro i σ G hi ⟨a,rfl,sG,gh⟩
  have hi:i<C.length:=by rw[<- ul];simpa using hi
  have e0:((0:Int)+(i:Nat))=((i:Nat):Int):=by omega
  rw[e0];refine⟨_,rfl,_,rfl,_,rfl,fun pt hpt=> ?_⟩;obtain⟨G1,hG1⟩:∃G1,G1=L2.upd G pt (.dK []):=⟨_,rfl⟩;have sg1:aC G G1:=by rw[hG1];exact aI hpt _
  have g1t:G1 pt=some (.dK (gx [])):=by rw[hG1,aD];rfl
  have npt:H pt=none:=sG.free hpt;have nn:ph≠pt:=fun z=>by rw[<- z,gh]at hpt;cases hpt
  rw[<- hG1];have key:∀H',cQ ph pt G1 H' ->aC H H' :=fun H' st x o e=>st x o (fun z=>by rw[z,hph]at e;cases e) (fun z=>by rw[z,npt]at e;cases e) (sg1 _ _ (sG _ _ e));have ok:=o6 cc i;have hl:=mi (C:=C) i;refine⟨p0,ph,pt,us,C,hd C i,(i:Nat),[],rfl,fun H' st=>(key H' st).seq sq0,⟨ul,fun j ns e=> ?_⟩,sg1 _ _ gh,g1t,nn,⟨by omega,by omega⟩,c8,cl,cc,fun x hx=> ?_,(show(hd C i).length+8<=1000 by omega),.nil,(fun c hc=>nomatch hc),(by decide),fun H' st e1 e2=> ?_⟩
  ·obtain⟨pj,w1,w2⟩:=ua j ns e
   exact⟨pj,w1,fun H' st=>(key H' st).seq w2⟩
  ·have:=ok.rows _ (Hn.mpr ⟨x,hx,rfl⟩)
   omega
  ·exact⟨_,rfl,key H' st,e1⟩
 ·rintro σ G ⟨a,rfl,sG,gh⟩
  have e:((us.length:Nat):Int).toNat=C.length:=by omega
  rw[e]at gh;exact⟨_,rfl,q _ _ sG (kr hph gh)⟩
end
theorem oZ(x:Int)(l:List Int):bX .NotIn (.int x) (.lst (l.map .int))=some (!l.contains x):=by
 show(xk _ _).map _=_;unfold xk;rw[Hr ⟨rfl,by rw[List.all_map,Hx];intro y _;rfl⟩,IP,List.any_map]
 congr 2
 rw[Jc,Jl,IK]
 constructor
 ·rintro⟨y,hy,e⟩
  have e:decide (y=x)=true:=e;rw[<- Ib e];exact hy
 ·intro hy
  exact⟨x,hy,by show decide (x=x)=true;exact IW rfl⟩
theorem CU{n:Nat}{m:Bool}(h:n<=1000):iI [.frz (.int (n:Nat)) m]=some ((List.range n).map fun i=>.int (0+(i:Nat))):=by
 simp only[iI,bE];rw[Hr ⟨by omega,by omega⟩,J9]
theorem A0(k n:Nat)(l:List Int)(hn:n<=1000):aE P (k+1) 112 [.int (n:Nat),.lst (l.map .int)]=some (.lst ((bT n l).map .int)):=by
 refine ff rfl rfl ?_;simp only[D9,entry];walk_at "ev";rw[CU hn];walk_at "ev";rw[Hr (by rw[HX,IU];omega),di (p:=fun c:Nat=> !l.contains (c:Int)) (g:=fun c=>PV.int (c:Nat)) (fun c hc=>by
  walk_at "ev";rw[show(0:Int)+(c:Nat)=(c:Nat)by omega,oZ];cases l.contains (c:Int)
  ·walk_at "ev"
  ·walk_at "ev")]
 walk_at "ev";unfold bT cx;rw[List.filter_map,Ia];rfl
theorem zA(H:aO)(c:Int):i8 (H.map fun p=>(Sum.inl p.1:IR.ag)) (H.map fun p=>PV.int p.2) (Sum.inl c)=(aj H c).map PV.int:=by
 unfold aj
 induction H with
 | nil=>rfl
 | cons p H ih =>
  rw[Hf,Hf,Io];unfold i8
  by_cases e:p.1=c
  ·rw[Hr (by rw[e]),IW e]
   rfl
  ·rw[Hl fun z=>e (Sum.inl.inj z),Ij e]
   exact ih
theorem vH{n:Bool}(H:aO)(h:H.length<=1000):ia .lvals [.frz (eB H) n]=some (.own ((H.map (·.2)).map PV.int) true):=by
 show(if _ then(aN (H.map fun p:Int×Int=>PV.int p.2)).map _ else none)=_;rw[Hr (by rw[HX];show _<=16777216;omega),show(H.map fun p:Int×Int=>PV.int p.2)=(H.map (·.2)).map PV.int by rw[Ia];rfl,bO];rfl
theorem DQ{H:aO}{n:Bool}{c r:Int}{m:Bool}(h:aj H c=some r):index (.frz (eB H) n) (.frz (.int c) m)=some (.frz (.int r) true):=by
 show(i8 (H.map fun p=>(Sum.inl p.1:IR.ag)) (H.map fun p=>PV.int p.2) (Sum.inl c)).map _=_;rw[zA,h];show some (RV.frz (.int r) (n||true))=_;rw[Bool.or_true]
theorem zZ{C:List (List Int)}{H:aO}{n k:Nat}{R Q:List Int}(ok:kh C n H)(h:lj C H n R Q k){r:Int}(hr:r∈R):0<=r/\r<(n:Int):=by
 rw[h.shape]at hr
 rcases ID.mp hr with z|z
 ·exact(aw.mp z).1
 ·obtain⟨c,hc,rfl⟩:=Hn.mp z
  exact ok.rows _ (Hn.mpr ⟨_,dR (me (gZ ok h hc)),rfl⟩)
theorem c113(k:Nat)(C:List (List Int))(c8:C.length<=8)(cc:∀r,∀c∈eR C r,0<=c/\c<8):∃v,aE P (k+2) 113 [.lst (kX C),eB (hd C C.length)]=some v/\∃R Q,v=.tup [.lst (R.map .int),.lst (Q.map .int)]/\lj C (hd C C.length) C.length R Q R.length:=by
 refine oF rfl rfl ?_;have ok:=o6 cc C.length;have hl:(hd C C.length).length<=100:=by
  have:=mi (C:=C) C.length;omega
 obtain⟨H,hH⟩:∃H,H=hd C C.length:=⟨_,rfl⟩;rw[<- hH]at ok hl ⊢;have e1:=A0 k C.length (H.map (·.2)) (by omega);simp only[D7,entry];walk_at "ev";rw[show(kX C).length=C.length from HX _,vH H (by omega)];walk_at "ev";rw[e1];walk_at "ev";refine whTo (fun m τ=>∃R Q pl a b,m+pl=C.length+8/\lj C H C.length R Q pl/\pl<=R.length/\τ=[.frz (.lst (kX C)) false,.frz (eB H) false,.own (R.map .int) true,.own (Q.map .int) true,.frz (.int (pl:Nat)) true,a,b]) (C.length+8) (by omega) ⟨_,_,0,_,_,rfl,wU,IN _,rfl⟩ ?_;rintro m τ ⟨R,Q,pl,a,b,hm,hr,hp,rfl⟩;have rl:=mL ok hr;refine⟨decide (pl<R.length),?_,fun z=> ?_,fun z=> ?_⟩
 ·walk_at "ev"
  rw[HX,show decide ((pl:Int)<(R.length:Int))=decide (pl<R.length)from by rw[Jc,decide_eq_true_iff,decide_eq_true_iff];omega]
 ·have hpl:pl<R.length:=Ib z
  refine⟨by omega,?_⟩;walk_at "ev";rw[DB hpl];walk_at "ev";have hrm:R[pl]? =some (R.getD pl 0):=by rw[Hc,Hd hpl];rfl
  obtain⟨r,er⟩:∃r,r=R.getD pl 0:=⟨_,rfl⟩;rw[<- er]at hrm ⊢;obtain⟨r0,r1⟩:=zZ ok hr (Hz hrm);obtain⟨cs,hcs⟩:∃cs,C[r.toNat]? =some cs:=⟨_,Hd (by omega)⟩;have ech:eR C r=cs:=by unfold eR;rw[Hc,hcs];rfl
  have eat:dH (kX C) r=some (.lst (cs.map .int)):=by
   have:=bJ (xs:=kX C) (j:=r.toNat) (v:=.lst (cs.map .int)) (by unfold kX;rw[Ho,hcs];rfl);rw[show((r.toNat:Nat):Int)=r by omega]at this;exact this
  refine fi (xs:=cs.map .int) (n:=false) ?_ (fun j τ=>∃R' Q' b,lj C H C.length R' Q' pl/\R'[pl]? =some r/\(∀c∈cs.take j,c∈Q')/\τ=[.frz (.lst (kX C)) false,.frz (eB H) false,.own (R'.map .int) true,.own (Q'.map .int) true,.frz (.int (pl:Nat)) true,.frz (.int r) true,b]) ⟨R,Q,b,hr,hrm,fun c hc=>by simp at hc,rfl⟩ ?_ ?_
  ·walk_at "ev"
   rw[eat];walk_at "ev"
  ·rintro j y τ hy ⟨R',Q',b,hr',hrm',hq',rfl⟩
   obtain⟨hj,rfl,hmem⟩:=int_at hy;have ecj:cs[j]? =some (cs.getD j 0):=by rw[Hc,Hd hj];rfl
   obtain⟨c,ec⟩:∃c,c=cs.getD j 0:=⟨_,rfl⟩;rw[<- ec]at hmem ecj ⊢;have tk1:cs.take (j+1)=cs.take j++[c]:=by rw[JP,ecj];rfl
   have hpl' :pl<R'.length:=(Hh.mp hrm').1;refine⟨_,rfl,?_⟩;walk_at "ev";rw[oZ];have rl' :=mL ok hr';cases hc:Q'.contains c with
   | true =>
    walk_at "ev";refine⟨R',Q',_,hr',hrm',fun d hd=> ?_,rfl⟩;rw[tk1]at hd
    rcases ID.mp hd with z|z
    ·exact hq' d z
    ·rw[IZ.mp z]
     exact IK.mp hc
   | false =>
    have ncQ:c∉Q' :=fun z=>by rw[IK.mpr z]at hc;cases hc
    have hrm2:=Hz hrm';have hcc:c∈eR C r:=by rw[ech];exact hmem
    have hr2:=CY hr' (Jd hpl') hrm2 hcc ncQ;have rl2:=mL ok hr2;have ql:Q'.length<=R'.length:=by rw[hr'.shape,IA,HX];omega
    have eix:=DQ (n:=false) (m:=true) (me (ze ok hr' hrm2 hcc));walk_at "ev";rw[gb rfl (by rw[HX];show _<16777216;omega)];walk_at "ev";rw[eix];walk_at "ev";rw[gb rfl (by rw[HX];show _<16777216;omega)];walk_at "ev";refine⟨R' ++[Dh H c],Q' ++[c],_,hr2,by rw[JB hpl'];exact hrm',fun d hd=> ?_,by rw[IJ,IJ];rfl⟩;rw[tk1]at hd
    rcases ID.mp hd with z|z
    ·exact IG _ (hq' d z)
    ·exact IM _ z
  ·rintro τ ⟨R',Q',b,hr',hrm',hq',rfl⟩
   rw[HX,JM]at hq';have hpl' :pl<R'.length:=(Hh.mp hrm').1;walk_at "ev";rw[BI rfl];walk_at "ev";exact⟨_,rfl,R',Q',pl+1,_,_,by omega,zd hr' hrm' (by rw[ech];exact hq'),hpl',rfl⟩
 ·have hpl:¬pl<R.length:=of_decide_eq_false z
  walk_at "ev";refine⟨_,rfl,R,Q,rfl,?_⟩;rw[show R.length=pl by omega];exact hr
theorem qx(z:Str):List.zipWith jB (List.range z.length) (signs z)=(List.range z.length).map fun c=>jB c (.str ⟨#[z.cps.toList.getD c 0]⟩):=by
 refine List.ext_getElem (by rw[Jz,cW,HX,Nat.min_eq_left (by rw[IU];exact Hg _)]) fun i h1 h2=> ?_;have hi:i<z.length:=by simpa using h2
 have hc:i<z.cps.toList.length:=by rw[Ig];exact hi
 rw[List.getElem_zipWith,List.getElem_map,List.getElem_range]
 congr 1
 unfold signs;rw[List.getElem_map,Hc,Hd hc];rfl
theorem c109(k:Nat)(z:Str)(hz:z.length<=8):aE P (k+1) 109 [.str z]=some (.lst ((cr z).map fun c=>.int (c:Nat))):=by
 refine ff rfl rfl ?_;simp only[EA,entry];walk_at "ev";rw[show pH (.frz (.str z) true)=some (List.zipWith jB (List.range z.length) (signs z),true)from rfl,qx];walk_at "ev";rw[Hr (by rw[HX,IU];omega),di (p:=fun c=>z.cps.toList.getD c 0==120) (g:=fun c=>PV.int (c:Nat)) (fun c hc=>by
  show(jg (.tup [.int (c:Nat),.str ⟨#[z.cps.toList.getD c 0]⟩])).bind _=_;simp only[jg];walk_at "ev";rw[rN];cases z.cps.toList.getD c 0==120
  ·walk_at "ev"
  ·walk_at "ev")]
 walk_at "ev";rfl
theorem kx:∀ps:List (Int×Int),gc (ps.map kM)=some ps
 | []=>rfl
 | p::ps=>by
  show((wj (kM p)).bind fun q=>(gc (ps.map kM)).map (q::·))=_;rw[kx ps];rfl
theorem uL{ps:List (Int×Int)}(h0:ps≠[])(hl:ps.length<64)(hb:∀q∈ps,0<=q.2/\q.2<1000):fZ (ps.map kM)=some (.own ((dL ps).map kM) true):=by
 unfold fZ;have e:aN (ps.map kM)=none:=by
  cases ps with
  | nil=>exact absurd rfl h0
  | cons p ps=>rfl
 rw[e];show oC _=_;unfold oC;rw[kx];have ha:ps.all (fun q=>decide (0<=q.2)&&decide (q.2<1000))=true:=by
  rw[Hx];intro q hq
  simpa using hb q hq
 show(if ps.length<64/\ps.all (fun q=>decide (0<=q.2)&&decide (q.2<1000))=true then some (RV.own ((dL ps).map kM) true)else none)=_;rw[Hr ⟨hl,ha⟩]
noncomputable def iy(rows:List Str):List (List Int):=rows.map fun z=>(cr z).map fun c:Nat=>(c:Int)
noncomputable def jS(H:aO):List (Int×Int):=H.map fun p=>(p.2,p.1)
theorem sY:∀H:aO,yq (H.map fun p=>Sum.inl p.1) (H.map fun p=>.int p.2)=some H
 | []=>rfl
 | p::H=>by
  show(yq (H.map fun p=>Sum.inl p.1) (H.map fun p=>.int p.2)).map (p::·)=_;rw[sY H];rfl
theorem AU{n:Bool}{H:aO}(h:H.length<=1000):ue (.frz (eB H) n)=some (.own ((jS H).map kM) true):=by
 show(if(H.map fun p:Int×Int=>(Sum.inl p.1:IR.ag)).length<=LN then(yq (H.map fun p=>Sum.inl p.1) (H.map fun p=>.int p.2)).map _ else none)=_;rw[Hr (by rw[HX];show _<=16777216;omega),sY];unfold jS;rw[Ia];rfl
theorem wE{ps:List (Int×Int)}(hl:ps.length<64)(hb:∀q∈ps,0<=q.2/\q.2<1000):fZ (ps.map kM)=some (.own ((dL ps).map kM) true):=by
 by_cases h0:ps=[]
 ·subst h0
  have:dL []=[]:=KN (by rw[(fw []).length_eq];rfl);rw[this];have e2:L2.sortI []=[]:=KN (by rw[(L2.sortI_perm []).length_eq];rfl);show(if([]:List Int).length<64 then some (RV.own ((L2.sortI []).map PV.int) true)else none)=_;rw[Hr (by decide),e2];rfl
 ·exact uL h0 hl hb
theorem c111(k:Nat)(C:List (List Int))(hg:gM C=true):aE P (k+13) 111 [.lst (kX C)]=some (eB (hd C C.length)):=by
 refine run rfl rfl ?_;have e9:aE P (k+12) 20011 [.non]=some .non:=rfl;have eg:o5 [.lst (kX C)]=some (eB (hd C C.length)):=by
  unfold o5;dsimp only;rw[lV];simp only[Hw];rw[Hr hg]
 simp only[Ar,tq,tu,fX,fK,fM,fL,fQ,fS,fJ,fN,fV,fU,fY,fP,fT,fW,fR,fO,bx,bh,cA,cH,bz,cC,cF,bj,cI,b9,cB,bm,bn,bi,cJ,bw,bv,cE,bt,br,bo,cG,ll,lm,entry,Hw,IP,Hf,Ip,bE,sc];rw[e9];simp only[IP,Hw,eW];have e:(([TV.frz (PV.lst (kX C)) (imm (PV.lst (kX C)))]++List.replicate (3-[PV.lst (kX C)].length) TV.un).take 1).map TV.valD=[.lst (kX C)]:=rfl;rw[e,eg];rfl
theorem pQ{rows:List Str}{w:Nat}(hw:Wd rows w)(h8:rows.length<=8)(w8:w<=8):gM (iy rows)=true:=by
 unfold gM iy;rw[Hb];refine⟨IW (by rw[HX];exact h8),?_⟩;rw[List.all_map,Hx];intro z hz;have hzw:=hw z hz;show(decide (((cr z).map fun c:Nat=>(c:Int)).length<=100)&&((cr z).map fun c:Nat=>(c:Int)).all _)=true;rw[Hb];refine⟨IW ?_,?_⟩
 ·rw[HX]
  unfold cr;refine Ik (JC _ _) ?_;rw[IU];omega
 ·rw[List.all_map,Hx]
  intro c hc;have hc:=(Ih.mp hc).1;rw[Ii]at hc;show(decide ((0:Int)<=(c:Nat))&&decide (((c:Nat):Int)<8))=true;rw[Hb];exact⟨IW (by omega),IW (by omega)⟩
theorem uK{l:List Int}(h:l.length<64):fZ (l.map .int)=some (.own ((L2.sortI l).map .int) true):=by
 unfold fZ;rw[bO];exact Hr h
theorem v3(H:aO):told (eB H)=.frz (eB H) true:=rfl
theorem c114(k:Nat)(rows:List Str)(w:Nat)(hw:Wd rows w)(h8:rows.length<=8)(w8:w<=8):∃v,aE P (k+14) 114 [.tup (rows.map .str)]=some v/\∃R Q,v=.tup [.tup ((dL (jS (hd (iy rows) rows.length))).map kM),.lst ((bT rows.length R).map .int),.lst ((L2.sortI Q).map .int)]/\lj (iy rows) (hd (iy rows) rows.length) rows.length R Q R.length:=by
 refine oF rfl rfl ?_;have hg:=pQ hw h8 w8;obtain⟨_,cl,cc⟩:=gL hg;have en:(iy rows).length=rows.length:=by unfold iy;rw[HX]
 have e111:=c111 k (iy rows) hg;obtain⟨v,e113,R,Q,rfl,hr⟩:=c113 (k+11) (iy rows) (by omega) cc;have ok:=o6 cc rows.length;have hl:=mi (C:=iy rows) rows.length;rw[en]at e111 e113 hr;have e112:=A0 (k+12) rows.length R (by omega);obtain⟨H,hH⟩:∃H,H=hd (iy rows) rows.length:=⟨_,rfl⟩;rw[<- hH]at e111 e113 hr ok hl ⊢;have rl:=mL ok hr;have ql:Q.length<=R.length:=by rw[hr.shape,IA,HX];omega
 have hl63:H.length<=8:=by
  have:=dE (U:=[0,1,2,3,4,5,6,7]) ok.mt.rows fun x hx=>by
   obtain⟨a,b⟩:=ok.rows x hx;simp only[Hm];omega
  rw[HX]at this;exact this
 have im:=dQ rows;simp only[D6,entry];walk_at "ev";rw[Hr (by rw[HX];omega),dh (h:=PV.str) (g:=fun z=>PV.lst (((cr z).map fun c:Nat=>(c:Int)).map .int)) (fun z hz=>by
  have e1:=c109 (k+12) z (by have:=hw z hz;omega);walk_at "ev";rw[e1];walk_at "ev";rw[Ia];rfl)]
 walk_at "ev";have ec:rows.map (fun z=>PV.lst (((cr z).map fun c:Nat=>(c:Int)).map .int))=kX (iy rows):=by
  unfold kX iy;rw[Ia];rfl
 have hbs:∀q∈jS H,0<=q.2/\q.2<1000:=by
  intro q hq;unfold jS at hq;obtain⟨p,hp,rfl⟩:=Hn.mp hq;have:=cc p.2 p.1 (ok.mt.edge p hp);show 0<=p.1/\p.1<1000;omega
 rw[ec,e111];walk_at "ev";rw[v3];walk_at "ev";rw[AU (by omega)];walk_at "ev";rw[wE (by unfold jS;rw[HX];omega) hbs];walk_at "ev";rw[e113];walk_at "ev";rw[HX,e112];walk_at "ev";rw[uK (by omega)];walk_at "ev";exact⟨_,rfl,R,Q,rfl,hr⟩
theorem qE{rows:List Str}{i:Nat}{z:Str}(h:rows[i]? =some z):dH (rows.map PV.str) (i:Int)=some (.str z):=bJ (by rw[Ho,h];rfl)
theorem c4(k:Nat)(ns:List Int)(j:Nat):aE P (k+1) 4 [.lst (ns.map .int),.int j]=some (.int (ns.getD j 0)):=by
 refine run rfl rfl ?_;simp only[d4,entry];walk_at "ev"
 by_cases h:j<ns.length
 ·have h1:(j:Int)<((ns.map PV.int).length:Nat):=by rw[HX];omega
  have h2:dH (ns.map PV.int) (j:Int)=some (.int ns[j]):=bJ (by rw[Ho,Hd h];rfl);simp only[h1,decide_true,KR,h2];walk_at "ev";simp[h]
 ·have h1:¬(j:Int)<((ns.map PV.int).length:Nat):=by rw[HX];omega
  simp only[h1,Jm];walk_at "ev";simp[h]
theorem c5(k:Nat)(c j:Int)(h0:0<=j)(h1:j<=1000000):∃r:Int,0<=r/\r<2147483587/\aE P (k+1) 5 [.int c,.int j]=some (.int r):=by
 obtain⟨v,h,r,h2,h3,rfl⟩:∃v,aE P (k+1) 5 [.int c,.int j]=some v/\∃r:Int,0<=r/\r<2147483587/\v=.int r:=by
  refine oF rfl rfl ?_;simp only[d5,entry];walk_at "go";exact⟨_,rfl,_,Int.emod_nonneg _ (by decide),Ka _ (by decide),rfl⟩
 exact⟨r,h2,h3,h⟩
noncomputable def pc(z:Str)(n:Nat):Prop:=z.length=n/\∀c∈z.cps.toList,c=120\/c=46
theorem pc.more{z:Str}{n:Nat}(h:pc z n){y:Str}(hy:y=("x":Str)\/y=(".":Str)):pc (z++y) (n+1):=by
 refine⟨?_,fun c hc=> ?_⟩
 ·rw[PySem.Str.length_append,h.1]
  rcases hy with rfl|rfl<;>rfl
 ·rw[PySem.Str.cps_append,Array.toList_append,ID]at hc
  rcases hc with hc|hc
  ·exact h.2 c hc
  ·rcases hy with rfl|rfl
   ·have:c∈[120]:=hc
    simp at this;exact .inl this
   ·have:c∈[46]:=hc
    simp at this;exact .inr this
noncomputable def pick(b:Bool):Str:=if b then "x" else "."
theorem zt(b:Bool):dH [PV.str ".",PV.str "x"] (if b then 1 else 0)=some (.str (pick b)):=by cases b<;>rfl
theorem wn(b:Bool):(pick b).length=1:=by cases b<;>rfl
theorem uS(b:Bool):pick b=("x":Str)\/pick b=(".":Str):=by cases b;exact .inr rfl;exact .inl rfl
theorem Ci{j:Int}(h0:0<=j)(h1:j<=100):(0:Int)<1*2^j.toNat/\(1:Int)*2^j.toNat<2^200:=by
 have hp:(0:Int)<2^j.toNat:=Int.pow_pos (by decide);refine⟨by omega,?_⟩;have h2:(2:Nat)^j.toNat<2^200:=Nat.pow_lt_pow_right (by decide) (by omega);rw[Int.one_mul]
 exact_mod_cast h2
noncomputable abbrev bI1(x c R C TH:Int)(m i:Nat)(τ:En):Prop:=∃(rs:List Str)(a b d e g:TV),τ=[.frz (.int x) true,.frz (.int c) true,.frz (.int m) true,.frz (.int R) true,.frz (.int C) true,.frz (.int TH) true,.own (rs.map .str) true,a,b,d,e,g]/\rs.length=i/\∀r∈rs,pc r C.toNat
noncomputable abbrev bI2(x c R C TH:Int)(m:Nat)(rs:List Str)(i:Int)(j:Nat)(τ:En):Prop:=∃(z:Str)(d e g:TV),τ=[.frz (.int x) true,.frz (.int c) true,.frz (.int m) true,.frz (.int R) true,.frz (.int C) true,.frz (.int TH) true,.own (rs.map .str) true,.frz (.int i) true,.frz (.str z) true,d,e,g]/\pc z j
theorem c6(k:Nat)(x c:Int)(m:Nat)(m1:1<=m)(m8:m<=8):∃v,aE P (k+2) 6 [.int x,.int c,.int m]=some v/\∃rows:List Str,UM.HV m rows/\v=.tup (rows.map .str):=by
 have r1:0<=x%(m:Int):=Int.emod_nonneg _ (by omega);have r2:x%(m:Int)<m:=Ka _ (by omega);have q1:0<=x/8%(m:Int):=Int.emod_nonneg _ (by omega);have q2:x/8%(m:Int)<m:=Ka _ (by omega);have hm:(0:Int)<m:=by omega
 refine oF rfl rfl ?_;simp only[d6,entry];walk_at "go";obtain⟨R,hR⟩:∃R,R=1+x%(m:Int):=⟨_,rfl⟩;obtain⟨C,hC⟩:∃C,C=1+x/8%(m:Int):=⟨_,rfl⟩;obtain⟨TH,hT⟩:∃TH,TH=1+x/64%8:=⟨_,rfl⟩;rw[<- hR,<-hC,<-hT];refine fi (xs:=(List.range R.toNat).map fun i=>.int (0+(i:Nat))) (n:=true) ?_ (bI1 x c R C TH m) ?_ ?_ ?_
 ·walk_at "ev"
  simp only[iI,bE];rw[Hr ⟨by omega,by omega⟩];rfl
 ·exact⟨[],.un,.un,.un,.un,.un,rfl,rfl,fun r hr=>by cases hr⟩
 ·rintro i y τ hy ⟨rs,a,b,d,e,g,rfl,hl,hsg⟩
  obtain⟨hi,rfl⟩:=ga hy;refine⟨_,rfl,?_⟩;walk_at "ev";refine fi (xs:=(List.range C.toNat).map fun i=>.int (0+(i:Nat))) (n:=true) ?_ (bI2 x c R C TH m rs i) ?_ ?_ ?_
  ·walk_at "ev"
   simp only[iI,bE];rw[Hr ⟨by omega,by omega⟩];rfl
  ·exact⟨_,d,e,g,rfl,rfl,fun c hc=>by cases hc⟩
  ·rintro j y τ hy ⟨z,d,e,g,rfl,hz⟩
   obtain⟨hj,rfl⟩:=ga hy;refine⟨_,rfl,?_⟩;have hp:0<=C*(i:Int)+(j:Int)/\C*(i:Int)+(j:Int)<=100:=by
    have e1:(0:Int)<=C*(i:Int):=Int.mul_nonneg (by omega) (by omega);have e2:C*(i:Int)<=8*8:=Int.mul_le_mul (by omega) (by omega) (by omega) (by omega);omega
   have hz1:=hz.1;have hzL:∀b,z.length+(pick b).length<=LN:=fun b=>by rw[wn];show z.length+1<=16777216;omega
   have hp2:=Ci hp.1 hp.2;walk_at "go"
   have fin:∀(b:Bool)(τ:En),τ=[.frz (.int x) true,.frz (.int c) true,.frz (.int m) true,.frz (.int R) true,.frz (.int C) true,.frz (.int TH) true,.own (rs.map .str) true,.frz (.int i) true,.frz (.str z) true,.frz (.int j) true,.frz (.int (C*(i:Int)+(j:Int))) true,.frz (.bl b) true] ->
     To (bP (aE P (k+1)) 1000000 (.cons (.asg 8 false [] (.bin .Add (.var 8) (.ix (.lst (.cons (.con (.str ".")) (.cons (.con (.str "x")) .nil))) (.bf .int (.cons (.var 11) .nil))))) .nil) τ) fun f=>match f with
      | .nx τ2=>bI2 x c R C TH m rs i (j+1) τ2
      | _=>False:=by
    rintro b τ rfl;have:=hzL b;walk_at "go";rw[zt];walk_at "go";exact⟨_,_,_,_,rfl,hz.more (uS b)⟩
   split
   ·obtain⟨q,b1,b2,e5⟩:=c5 k c (C*(i:Int)+(j:Int)) hp.1 (by omega)
    walk_at "ev";rw[e5];walk_at "go";refine(fin _ _ rfl).imp fun f h=> ?_;cases f<;>first|exact h|exact h.elim
   ·walk_at "ev"
    refine(fin _ _ rfl).imp fun f h=> ?_;cases f<;>first|exact h|exact h.elim
  ·rintro τ ⟨z,d,e,g,rfl,hz⟩
   rw[mK]at hz;walk_at "ev";rw[gb rfl (by rw[HX];show rs.length<16777216;omega)];walk_at "ev";refine⟨rs++[z],_,_,_,_,_,by rw[IJ];rfl,by rw[IA,hl];rfl,fun r hr=> ?_⟩
   rcases ID.mp hr with h|h
   ·exact hsg r h
   ·have e' :r=z:=by simpa using h
    rw[e'];exact hz
 ·rintro τ ⟨rs,a,b,d,e,g,rfl,hl,hsg⟩
  rw[mK]at hl;walk_at "ev";refine⟨_,rfl,rs,⟨?_,by omega,⟨C.toNat,by omega,by omega,fun r hr=>(hsg r hr).1⟩,fun r hr=>(hsg r hr).2⟩,rfl⟩;intro z;rw[z]at hl;simp at hl;omega
section
open PySem.Spec PyProof.Rows
theorem Fe:aW N47 ["levels","bits"] (aA Em):=⟨rfl,rfl,rfl,by decide +kernel,rfl,by decide +kernel,by decide +kernel⟩
theorem vk{P' :Nat->Option FD}{k:Nat}{vs:List PV}{r:PV}(hP:P' 47=some Es)(h:aE P' (k+1) 47 vs=some r):bQ vs=some r:=by
 unfold aE at h;rw[hP]at h;simp only[Hw]at h
 split at h
 ·rename_i hl
  have hl:vs.length=2:=hl;obtain⟨a,b,rfl⟩:=gl hl
  ·simp only[Es,tq,tu,fX,fK,fM,fL,fQ,fS,fJ,fN,fV,fU,fY,fP,fT,fW,fR,fO,entry]at h
   have e:((List.map (fun v=>TV.frz v (imm v)) [a,b]++List.replicate (9-[a,b].length) TV.un).take 2).map TV.valD=[a,b]:=rfl;rw[e]at h;cases hg:bQ [a,b]with
   | none=>rw[hg]at h;cases h
   | some v=>rw[hg]at h;cases h;rfl
 ·cases h
theorem Bx{vs:List PV}{r:PV}(h:bQ vs=some r):vs.length=2:=by
 unfold bQ at h
 split at h
 ·rfl
 ·cases h
noncomputable abbrev jW1(H:Hp)(D0:Addr)(Ls:List aO)(i m:Nat)(ys:List V)(H' :Hp):Prop:=m=Ls.length-i/\i<=Ls.length/\∃ds,ys=ds.map V.ref/\pf H D0 ds (Ls.take i) H'
noncomputable abbrev jW2(H:Hp)(Lv Bt Aa:Addr)(dp:List Addr)(Ls:List aO)(B:List Int)(i:Nat)(σ:L2.St)(G:Hp):Prop:=∃a b c d e g,σ=[some (.ref Lv),some (.ref Bt),some (.ref Aa),a,b,c,d,e,g]/\pf H Aa dp (wl Ls B i) G
noncomputable abbrev jW3(H:Hp)(Lv Bt Aa:Addr)(dp:List Addr)(Ls:List aO)(B:List Int)(i:Nat)(lev ab:Addr)(o:Obj)(ct c0:aO)(j:Nat)(σ:L2.St)(G:Hp):Prop:=∃d e g,σ=[some (.ref Lv),some (.ref Bt),some (.ref Aa),some (.int (i:Nat)),some (.ref lev),some (.ref ab),d,e,g]/\G lev=some (.frz o (.dK (av ct)))/\pf H Aa dp ((wl Ls B i).set (i+1) ((ct.take j).foldl (cf B) c0)) (L2.upd G lev (.dK (av ct)))
noncomputable abbrev jW4(H:Hp)(Lv Bt Aa:Addr)(dp:List Addr)(Ls:List aO)(B:List Int)(i:Nat)(lev ab:Addr)(o:Obj)(ct:aO)(tk cn:Int)(cj:aO)(l:Nat)(σ:L2.St)(G:Hp):Prop:=∃g,σ=[some (.ref Lv),some (.ref Bt),some (.ref Aa),some (.int (i:Nat)),some (.ref lev),some (.ref ab),some (.int tk),some (.int cn),g]/\G lev=some (.frz o (.dK (av ct)))/\pf H Aa dp ((wl Ls B i).set (i+1) ((B.take l).foldl (bR tk cn) cj)) (L2.upd G lev (.dK (av ct)))
theorem Dk{K:W.Frag}{mg:Str->Option Value}{f:Addr}{fd:FuncData}(hdi:mg "dict"=none)(hen:mg "enumerate"=none)(D:BR K mg "with_line" Em ["levels","bits"] f fd)(p:Program)(w:World)(base:Heap)(k:Nat)(_:∀y g,F.lookup y=some g->∃b gd qs,mg y=some (.ref b)/\W.keepIn K (.ref b)=true/\Binds K gd qs []/\bN p w K mg base iA k b gd qs (qL K (aE P k g))):bN p w K mg base iA (k+1) f fd ["levels","bits"] (qL K (aE P (k+1) 47)):=by
 refine D.fn.ok Fe (fun vs H Q E h=> ?_) (fun cdv A outer s H vs Q E hr h=> ?_)
 ·obtain⟨pvs,r,h1,h2,_⟩:=h
  rw[<- h1.len];exact Bx (vk rfl h2)
 obtain⟨pvs,r,h1,h2,q⟩:=h
 replace h2:=vk rfl h2
 unfold bQ at h2
 split at h2
 case h_2=>cases h2
 rename_i ls bs;cases e1:nz ls with
 | none=>rw[e1]at h2;cases h2
 | some Ls =>
 cases e2:aN bs with
 | none=>rw[e1,e2]at h2;cases h2
 | some B =>
 rw[e1,e2]at h2;dsimp only[Option.bind]at h2
 split at h2
 case isFalse=>cases h2
 rename_i hz;cases h2;obtain⟨z1,z2,z3⟩:=hz;have z3:∀c∈Ls,c.length<=1000:=fun c hc=>by simpa using Hx.mp z3 c hc
 have hls:=ny e1;subst hls;unfold aG at h1;obtain⟨u1,_,rfl,r1,h1⟩:=h1;unfold aG at h1;obtain⟨u2,_,rfl,r2,h1⟩:=h1;unfold aG at h1;subst h1;obtain⟨Lv,us,rfl,_,sqL,rl⟩:=Rp.lst.mp r1;obtain⟨Bt,bu,rfl,_,sqB,rb⟩:=Rp.lst.mp r2;rw[gF e2]at rb;have eb:=aG.ints.mp rb;subst eb;have lv:∀(i:Nat)(c:aO),Ls[i]? =some c->∃a,us[i]? =some (.ref a)/\H a=some (.dK (av c)):=fun i c hc=>by
  obtain⟨u,hu,ru⟩:=rl.at (i:=i) (x:=eB c) (by rw[Ho,hc];rfl);obtain⟨a,rfl,ha⟩:=CT ru;exact⟨a,hu,bC _ _ ha⟩
 have ulen:us.length=Ls.length:=by have:=rl.len;simpa using this.symm
 have nd:=Fe.nd;have hu:=Bo hr;have hs:sizeLine=16777216:=Im
 refine⟨_,aa (dW (i:=2) nd rfl (Or.inl rfl) (jf C1 (oT (N' :=["level"]) (src:=[none]) rfl (eh (pv 0)) True.intro rfl (by decide +kernel) (by decide +kernel) rfl) (wx (aH gf aX))))
  (aa (gB JW rfl (oS rfl hen (aH (pv 0) aX)) (jd rfl (bW (ar (i:=3) nd rfl (Or.inl rfl)) (bW (ar (i:=4) nd rfl (Or.inl rfl)) ge)))
   (aa (dW (i:=5) nd rfl (Or.inl rfl) (io fC (pv 2) (jf qg (pv 3) dC) (fun _ _=>rfl)))
   (ao (zj (gB JW rfl (oa (pv 4)) (jd rfl (bW (ar (i:=6) nd rfl (Or.inl rfl)) (bW (ar (i:=7) nd rfl (Or.inl rfl)) ge)))
    (ao (gB JW rfl (eh (pv 1)) (ar (i:=8) nd rfl (Or.inl rfl))
     (ao (kw (sd Bi (jf C2 (pv 6) (pv 8)) dC (C9 _))
      (ao (mO hu (pv 5) (jf Bh (pv 6) (pv 8)) (jf qg (xA hu (pv 5) (jf Bh (pv 6) (pv 8)) dC ⟨rfl,rfl,rfl,rfl⟩) (pv 7)) rfl)) ee)))))))))
  (ao (fz (pv 2)))),?_⟩
 refine⟨_,rfl,Lv,rfl,⟨_,sqL⟩,fun D0 hD0=> ?_⟩;refine⟨jW1 H D0 Ls,⟨Ls.length,by simp,IN _,[],rfl,⟨aI hD0 _,hD0,aD,by simp,by simp,by simp,fun q d c e=>by simp at e⟩⟩,?_⟩;rintro i m ys H' ⟨rfl,hi,ds,rfl,st⟩
 by_cases hlt:i<Ls.length
 ·right
  have ec:Ls[i]? =some Ls[i]:=by simp[hlt]
  obtain⟨a,ua,ha⟩:=lv i _ ec;refine⟨⟨us,.ref a,st.1.seq sqL,ua⟩,fun x H1 y=> ?_⟩;obtain⟨rfl,y⟩:=y;have ex:=y us (st.1.seq sqL);rw[ua]at ex;cases ex;intro C s2 H2 fp cl;refine⟨lK 0,sO,_,ar (by simp) rfl (.inl rfl) (.inr rfl),eF,cX pT rfl hdi boot_dict (aH (pv 0) aX),?_⟩;refine⟨kG rfl,?_⟩;refine⟨_,rfl,a,_,rfl,.inl (st.1 _ _ ha),fun pn hpn=> ?_⟩;have dl:ds.length=i:=by rw[st.2.2.2.2.2.1,JX];omega
  refine⟨by rw[aB (aK st.2.2.1 hpn)];exact st.2.2.1,by rw[HX];omega,Ls.length-(i+1),by omega,rfl,hlt,ds++[pn],by rw[IJ];rfl,?_⟩;have e:Ls.take (i+1)=Ls.take i++[Ls[i]]:=by rw[JP,ec];rfl
  rw[e];exact st.push hpn
 ·left
  have ei:i=Ls.length:=by omega
  subst ei;rw[JM]at st;refine⟨⟨us,st.1.seq sqL,by omega⟩,?_⟩;intro p0 hp0;refine⟨by show 1<=sizeLine;decide,fun l hl=> ?_⟩;have dl:ds.length=Ls.length:=st.2.2.2.2.2.1;have s1:=aI hp0 (.dK []);have s2:=aI hl (.lst [.ref p0]);refine⟨D0,l,ds.map V.ref,[.ref p0],rfl,rfl,s2 _ _ (s1 _ _ st.2.2.1),aD,by rw[HX,dl,hs];simp;omega,fun Aa hAa=> ?_⟩;have stA:pf H Aa (ds++[p0]) (wl Ls B 0) (L2.upd (L2.upd (L2.upd H' p0 (.dK [])) l (.lst [.ref p0])) Aa (.lst (ds.map V.ref++[.ref p0]))):=by
   have hDp:D0≠p0:=aK st.2.2.1 hp0;have hAl:Aa≠l:=fun z=>by rw[z,aD]at hAa;cases hAa
   have hA1:L2.upd H' p0 (.dK []) Aa=none:=by rw[aB hAl]at hAa;exact hAa
   have hAp:Aa≠p0:=fun z=>by rw[z,aD]at hA1;cases hA1
   have hA0:H' Aa=none:=by rw[aB hAp]at hA1;exact hA1
   have hDA:D0≠Aa:=aK st.2.2.1 hA0;obtain⟨g1,g2,g3,g4,g5,g6,g7⟩:=st.push (p:=p0) (c:=[]) hp0;have hlD:l≠D0:=fun z=>by rw[z,aB hDp,st.2.2.1]at hl;cases hl
   have hlp:l≠p0:=fun z=>by rw[z,aD]at hl;cases hl
   have inn:∀(qq:Nat)(d:Addr)(c:aO),(ds++[p0])[qq]? =some d->(Ls++[[]])[qq]? =some c->H d=none/\d≠Aa/\d≠l/\L2.upd H' p0 (.dK []) d=some (.dK (av c)):=fun qq d c w1 w2=>by
    obtain⟨m0,m1⟩:=g7 qq d c w1 w2;have dD:d≠D0:=fun z=>g4 (z▸Hz w1);rw[aB dD]at m1;have m1:L2.upd H' p0 (.dK []) d=some (.dK (av c)):=m1;exact⟨m0,(fun z=>by rw[z,hA1]at m1;cases m1),(fun z=>by rw[z,hl]at m1;cases m1),m1⟩
   refine⟨((st.1.trans s1).trans s2).trans (aI hAa _),st.1.free hA0,by rw[aD,IJ];rfl,fun z=> ?_,g5,g6,fun qq d c w1 w2=> ?_⟩
   ·obtain⟨qq,hqq,e⟩:=Jv.mp z
    exact(inn qq Aa ((Ls++[[]])[qq]'(by rw[<- g6];exact hqq)) (by rw[Hd hqq,e]) (by simp[show qq<(Ls++[[]]).length by rw[<- g6];exact hqq])).2.1 rfl
   ·obtain⟨m0,m1,m2,m3⟩:=inn qq d c w1 w2
    exact⟨m0,by rw[aB m1,aB m2];exact m3⟩
  have sqB' :∀{G:Hp},aC H G->bB K G Bt (B.map V.int):=fun s=>s.seq sqB;refine⟨_,rfl,Lv,us,rfl,(stA.1).seq sqL,xu (src:=fun H xs=>bB K H Lv xs) (jW2 H Lv Bt Aa (ds++[p0]) Ls B) ⟨_,_,_,_,_,_,rfl,stA⟩ (fun i σ G _ ⟨_,_,_,_,_,_,_,st⟩=>st.1.seq sqL) ?_ ?_⟩
  ·rintro i x pt σ G ex hpt ⟨a,b,c,d,e,g,rfl,st⟩
   have hi:i<us.length:=(Hh.mp ex).1;have ec:Ls[i]? =some (Ls[i]'(by omega)):=by simp[show i<Ls.length by omega]
   obtain⟨lev,ua,hlev⟩:=lv i _ ec;rw[ex]at ua;cases ua;obtain⟨ct,hct⟩:∃ct,ct=Ls[i]'(by omega):=⟨_,rfl⟩;rw[<- hct]at ec hlev;have ctl:ct.length<=1000:=z3 ct (Hz ec);have wlen:=lq Ls B i;obtain⟨ab,hab⟩:∃ab,(ds++[p0])[i+1]? =some ab:=⟨(ds++[p0])[i+1]'(by rw[st.2.2.2.2.2.1,wlen];omega),by simp[show i+1<(ds++[p0]).length by rw[st.2.2.2.2.2.1,wlen];omega]⟩;obtain⟨c0,hc0⟩:∃c0,(wl Ls B i)[i+1]? =some c0:=⟨(wl Ls B i)[i+1]'(by rw[wlen];omega),by simp[show i+1<(wl Ls B i).length by rw[wlen];omega]⟩;have st:=st.ext (aI hpt (.tup [.int (i:Nat),.ref lev]));refine⟨pt,_,rfl,cT.of aD,rfl,_,_,rfl,_,_,rfl,rfl,?_⟩;refine⟨_,rfl,_,rfl,_,_,rfl,rfl,Aa,_,_,.ref ab,rfl,rfl,bB.of st.2.2.1,?_,?_⟩
   ·have:=bJ (xs:=(ds++[p0]).map V.ref) (j:=i+1) (v:=.ref ab) (by rw[Ho,hab];rfl)
    exact this
   refine⟨_,rfl,lev,av ct,rfl,st.1 _ _ hlev,fun o nf=> ?_⟩;have abn:H ab=none:=(st.at hab hc0).1;have abl:ab≠lev:=fun z=>by rw[z,hlev]at abn;cases abn
   obtain⟨G1,hG1⟩:∃G1,G1=L2.upd G pt (.tup [.int (i:Nat),.ref lev]):=⟨_,rfl⟩;rw[<- hG1]at st ⊢;have g1lev:G1 lev=some (.dK (av ct)):=st.1 _ _ hlev;have ini:L2.upd (L2.upd G1 lev (.frz o (.dK (av ct)))) lev (.dK (av ct))=G1:=by
    rw[zD]
    funext bb
    by_cases hb:bb=lev
    ·subst hb
     rw[aD,g1lev]
    ·rw[aB hb]
   refine um (jW3 H Lv Bt Aa (ds++[p0]) Ls B i lev ab o ct c0) ⟨_,_,_,rfl,aD,?_⟩ (fun j σ G _ ⟨_,_,_,_,hf,_⟩=>hf) ?_ ?_
   ·rw[ini]
    have e0:(wl Ls B i).set (i+1) c0=wl Ls B i:=by
     refine Jf fun n=> ?_;rw[Je]
     split
     ·rename_i en
      subst en;rw[hc0,Hr (by rw[wlen];omega)]
     ·rfl
    rw[List.take_zero,List.foldl_nil,e0];exact st
   ·rintro j kk xx pp σ G2 ekv hpp ⟨d,e,g,rfl,hf,st2⟩
    obtain⟨tk,cn,etc,rfl,rfl⟩:=An ekv;have hj:j<ct.length:=(Hh.mp etc).1;have ppl:pp≠lev:=fun z=>by rw[z,hf]at hpp;cases hpp
    refine⟨pp,_,rfl,cT.of aD,rfl,_,_,rfl,_,_,rfl,rfl,?_⟩;have st3:=st2.ext (uP (o:=.tup [kV (Sum.inl tk),.int cn]) (u:=.dK (av ct)) hpp ppl);obtain⟨cj,hcj⟩:∃cj,cj=(ct.take j).foldl (cf B) c0:=⟨_,rfl⟩;rw[<- hcj]at st3;have cjl:cj.length<=1000+1000*100+1000*100:=by
     have h0:c0.length<=1000:=by
      have:=BU Ls B i (i+1) (by omega);rw[hc0]at this
      rcases ID.mp (Hz this.symm)with hm|hm
      ·exact z3 c0 hm
      ·have:c0=[]:=by simpa using hm
       rw[this];simp
     have h1:=lM B (ct.take j) c0;have h2:(ct.take j).length*B.length<=1000*100:=Nat.mul_le_mul (by rw[JX];omega) z2;rw[hcj];omega
    refine⟨_,rfl,Bt,rfl,⟨_,sS (sqB' st3.1)⟩,o9 (xs:=B.map V.int) (jW4 H Lv Bt Aa (ds++[p0]) Ls B i lev ab o ct tk cn cj) ⟨_,rfl,by rw[aB (Ja ppl)];exact hf,by rw[List.take_zero,List.foldl_nil];exact st3⟩ (fun l σ G _ ⟨_,_,_,st⟩=>sS (sqB' st.1)) ?_ ?_⟩
    ·rintro l xb σ G3 exb ⟨g,rfl,hf3,st4⟩
     obtain⟨b,eb,rfl⟩:∃b,B[l]? =some b/\xb=.int b:=by
      rw[Ho]at exb;cases e:B[l]? with
      | none=>rw[e]at exb;cases exb
      | some b=>rw[e]at exb;exact⟨b,rfl,(IB exb).symm⟩
     have hl:l<B.length:=(Hh.mp eb).1;obtain⟨cur,hcur⟩:∃cur,cur=(B.take l).foldl (bR tk cn) cj:=⟨_,rfl⟩;have e7:(B.take (l+1)).foldl (bR tk cn) cj=bR tk cn cur b:=by
      rw[JP,eb,List.foldl_append,<-hcur];rfl
     rw[<- hcur]at st4;have curl:cur.length<sizeLine:=by
      have:=iR tk cn (B.take l) cj;rw[<- hcur,JX]at this;rw[hs];omega
     have hcs:((wl Ls B i).set (i+1) cur)[i+1]? =some cur:=by rw[JA (by rw[wlen];omega)]
     obtain⟨_,hab1⟩:=st4.at hab hcs;rw[aB abl]at hab1;refine⟨_,rfl,_,rfl,_,_,rfl,rfl,rfl,_,rfl,ite2 (fun hc=> ?_) (fun hc=> ?_)⟩
     ·have hc:Builtin.bitAnd tk b=0:=V.int.inj (Ib hc)
      obtain⟨old,hold⟩:∃old,old=(aj cur (Builtin.bitOr tk b)).getD 0:=⟨_,rfl⟩;refine⟨_,rfl,ab,rfl,.inl ⟨_,.inl hab1⟩,_,rfl,_,rfl,_,_,rfl,rfl,_,fI.k (k:=Sum.inl (Builtin.bitOr tk b)) hab1,_,rfl,old,cn,?_,rfl,?_⟩
      ·rw[my,hold]
       cases aj cur (Builtin.bitOr tk b)<;>rfl
      refine⟨_,rfl,_,rfl,_,rfl,_,_,rfl,rfl,ab,_,rfl,rj.k (k:=Sum.inl (Builtin.bitOr tk b)) hab1 (by rw[pI];exact curl),_,rfl,?_,?_⟩
      ·rw[aB (Ja abl)]
       exact hf3
      ·have e8:bR tk cn cur b=cS cur (Builtin.bitOr tk b) (old+cn):=by
        unfold bR vK;rw[Hr hc,hold]
       rw[e7,e8,mx,vt abl];have:=st4.put (c' :=cS cur (Builtin.bitOr tk b) (old+cn)) hab;rw[List.set_set]at this;exact this
     ·have hc:¬Builtin.bitAnd tk b=0:=fun z=>hc (IW (Ix V.int z))
      refine⟨_,rfl,hf3,?_⟩;have e8:bR tk cn cur b=cur:=by
       unfold bR;rw[Hl hc]
      rw[e7,e8];exact st4
    ·rintro σ G3 ⟨g,rfl,hf3,st4⟩
     refine⟨_,_,_,rfl,hf3,?_⟩;have e5:(ct.take (j+1)).foldl (cf B) c0=((B.take (B.map V.int).length).foldl (bR tk cn) cj):=by
      rw[JP,etc,List.foldl_append,<-hcj,HX,JM];rfl
     rw[e5];exact st4
   ·rintro σ G2 ⟨d,e,g,rfl,hf,st2⟩
    refine⟨lev,o,av ct,hf,nf,_,_,_,_,_,_,rfl,?_⟩;have e6:(wl Ls B i).set (i+1) ((ct.take (av ct).length).foldl (cf B) c0)=wl Ls B (i+1):=by
     rw[pI,JM,wl,Hc,hc0,Hc,ec];rfl
    rw[<- e6];exact st2
  ·rintro σ G ⟨a,b,c,d,e,g,rfl,st⟩
   refine⟨_,rfl,?_⟩;refine q _ _ st.1 (Rp.lst.mpr ⟨Aa,_,rfl,fun _=>⟨st.2.1,st.2.2.1⟩,bB.of st.2.2.1,?_⟩);have eL:us.length=Ls.length:=ulen;rw[eL]at st;refine oG st.2.2.2.2.2.1 fun qq d' c' w1 w2=> ?_;obtain⟨m0,m1⟩:=st.at w1 w2;refine⟨m0,?_⟩;unfold del;rw[Hl (fun z:d' =Aa=>st.2.2.2.1 (z▸Hz w1))];exact m1
end
noncomputable def fk(cs:List Nat)(i:Nat):List Int:=((List.range i).filter fun c=>cs.getD c 0==120).map fun c=>((2^c:Nat):Int)
noncomputable def bY(z:Str):List Int:=fk z.cps.toList z.length
theorem rS(cs:List Nat)(i:Nat):fk cs (i+1)=fk cs i++(if cs.getD i 0==120 then[((2^i:Nat):Int)]else[]):=by
 unfold fk;rw[List.range_succ,List.filter_append,IJ];cases h:cs.getD i 0==120
 ·simp only[KG,List.filter_nil,h]
  rfl
 ·simp only[KG,List.filter_nil,h]
  rfl
theorem lZ(cs:List Nat)(i:Nat):(fk cs i).length<=i:=by
 unfold fk;rw[HX];exact Ik (JC _ _) (by rw[IU];exact Hg _)
theorem rT{cs:List Nat}{i:Nat}(h:i<=8):cy (fk cs i):=fun b hb=>by
 unfold fk at hb;obtain⟨c,hc,rfl⟩:=Hn.mp hb;have:=Ii.mp (Ih.mp hc).1;exact⟨c,rfl,by omega⟩
theorem c46(k:Nat)(z:Str)(hz:z.length<=8):aE P (k+1) 46 [.str z]=some (.lst ((bY z).map .int)):=by
 refine ff rfl rfl ?_;simp only[d46,entry];walk_at "go";refine fi (xs:=signs z) (n:=true) ?_ (fun i τ=>∃a,τ=[.frz (.str z) true,.own ((fk z.cps.toList i).map .int) true,.frz (.int ((2^i:Nat):Int)) true,a]) ⟨_,rfl⟩ ?_ ?_
 ·walk_at "ev"
 ·rintro i y τ hy ⟨a,rfl⟩
  have hi:i<z.length:=by
   have:=(Hh.mp hy).1;rw[cW]at this;exact this
  obtain⟨c,hc,rfl⟩:∃c,z.cps.toList[i]? =some c/\y=.str ⟨#[c]⟩:=by
   unfold signs at hy;rw[Ho]at hy;cases e:z.cps.toList[i]? with
   | none=>rw[e]at hy;cases hy
   | some c=>rw[e]at hy;exact⟨c,rfl,(IB hy).symm⟩
  have hg:z.cps.toList.getD i 0=c:=by rw[Hc,hc];rfl
  refine⟨_,rfl,?_⟩;have rs:=rS z.cps.toList i;rw[hg]at rs;have hlen:((fk z.cps.toList i).map PV.int).length<LN:=by
   rw[HX];have:=lZ z.cps.toList i;show _<16777216;omega
  have e2:((2^i:Nat):Int)*2=((2^(i+1):Nat):Int):=by rw[Nat.pow_succ];push_cast;rfl
  walk_at "ev";rw[rN];cases hx:c==120 with
  | true =>
   rw[hx]at rs;walk_at "ev";rw[gb rfl hlen];walk_at "ev";exact⟨_,by rw[rs,e2,IJ];rfl⟩
  | false =>
   rw[hx]at rs;walk_at "ev";exact⟨.frz (.str ⟨#[c]⟩) true,by rw[rs,e2];simp⟩
 ·rintro τ ⟨a,rfl⟩
  rw[cW];walk_at "ev";rfl
theorem c47(k:Nat)(Ls:List aO)(B:List Int)(h1:Ls.length<=100)(h2:B.length<=100)(h3:∀c∈Ls,c.length<=1000):aE P (k+1) 47 [.lst (Ls.map eB),.lst (B.map .int)]=some (.lst ((wl Ls B Ls.length).map eB)):=by
 refine run rfl rfl ?_;have e:bQ [.lst (Ls.map eB),.lst (B.map .int)]=some (.lst ((wl Ls B Ls.length).map eB)):=by
  unfold bQ;dsimp only;rw[sL,bO];simp only[Hw];rw[Hr ⟨h1,h2,by rw[Hx];intro c hc;exact IW (h3 c hc)⟩]
 show df (bP (aE P k) 1000000 Es.body (entry Es [.lst (Ls.map eB),.lst (B.map .int)]))=_;simp only[Es,tq,tu,fX,fK,fM,fL,fQ,fS,fJ,fN,fV,fU,fY,fP,fT,fW,fR,fO,entry];have e2:((List.map (fun v=>TV.frz v (imm v)) [PV.lst (Ls.map eB),.lst (B.map .int)]++List.replicate (9-[PV.lst (Ls.map eB),.lst (B.map .int)].length) TV.un).take 2).map TV.valD=[.lst (Ls.map eB),.lst (B.map .int)]:=rfl;rw[e2,e];rfl
noncomputable def wS(rows:List Str):List Int:=zV (ci (rows.map bY))
theorem c48(k:Nat)(rows:List Str)(h8:rows.length<=8)(w8:∀z∈rows,z.length<=8):aE P (k+2) 48 [.tup (rows.map .str)]=some (.lst ((wS rows).map .int)):=by
 refine ff rfl rfl ?_;have im:=dQ rows;have good:∀i,(∀B∈(rows.take i).map bY,cy B):=fun i B hB=>by
  obtain⟨z,hz,rfl⟩:=Hn.mp hB;exact rT (w8 z (List.mem_of_mem_take hz))
 simp only[d48,entry];walk_at "ev";rw[im];refine fi (xs:=rows.map PV.str) (n:=true) ?_ (fun i τ=>∃a,τ=[.frz (.tup (rows.map .str)) true,.frz (.lst ((ci ((rows.take i).map bY)).map eB)) true,a]) ⟨_,rfl⟩ ?_ ?_
 ·walk_at "ev"
 ·rintro i y τ hy ⟨a,rfl⟩
  obtain⟨z,hz,hm,rfl⟩:∃z,rows[i]? =some z/\z∈rows/\y=.str z:=by
   rw[Ho]at hy;cases e:rows[i]? with
   | none=>rw[e]at hy;cases hy
   | some z=>rw[e]at hy;exact⟨z,rfl,Hz e,(IB hy).symm⟩
  have hi:i<rows.length:=(Hh.mp hz).1;obtain⟨g1,g2⟩:=fA (good i);have g1' :(ci ((rows.take i).map bY)).length<=9:=by rw[g1,HX,JX];omega
  have hb:(bY z).length<=100:=by
   have:=lZ z.cps.toList z.length;have:=w8 z hm;unfold bY;omega
  refine⟨_,rfl,?_⟩;walk_at "ev";rw[c46 k z (w8 z hm)];walk_at "ev";rw[c47 k _ _ (by omega) hb (fun c hc=>Ik (g2 c hc).len (by decide))];walk_at "ev";refine⟨.frz (.str z) true,?_⟩;rw[JP,hz,IJ];show[TV.frz (.tup (rows.map .str)) true,.frz (.lst ((wl (ci ((rows.take i).map bY)) (bY z) (ci ((rows.take i).map bY)).length).map eB)) true,TV.frz (.str z) true]=[_,TV.frz (.lst ((ci ((rows.take i).map bY++[bY z])).map eB)) true,_];rw[iO]
 ·rintro τ ⟨a,rfl⟩
  rw[HX,JM];obtain⟨g1,g2⟩:=fA (good rows.length);rw[JM]at g1 g2;have hl:((ci (rows.map bY)).map eB).length<=16777216:=by rw[HX,g1,HX];omega
  walk_at "ev";rw[Hr hl];rw[di (p:=fun c=>decide (0<List.length c)) (g:=fun c=>PV.int (iG c)) (fun c hc=> ?h)]
  case h =>
   have e1:aN (c.map fun p=>PV.int p.2)=some (c.map (·.2)):=by
    have:=bO (c.map (·.2));rw[Ia]at this;exact this
   unfold eB;walk_at "ev";rw[HX]
   by_cases h0:0<c.length
   ·have h0' :(0:Int)<(c.length:Int):=by omega
    simp only[h0,h0',decide_true,KR];rw[e1];rfl
   ·have h0' :¬(0:Int)<(c.length:Int):=by omega
    simp only[h0,h0',Jm];rfl
  walk_at "ev";unfold wS zV;rw[Ia];rfl
theorem iT{α:Type}{f:PV->Option (Option (PV×Bool))}{F:α->PV}{G:α->PV}{l:List α}(h:∀x∈l,f (F x)=some (some (G x,true))):bL f (l.map F)=some (l.map G,true):=by
 induction l with
 | nil=>rfl
 | cons x l ih =>
  rw[Hf,bL,h x He,ih fun y hy=>h y (HZ _ hy)];rfl
theorem GZ{rows:List Str}{i:Nat}(h:¬i<rows.length)(j:Nat):cd rows i j=0:=by
 unfold cd;rw[show rows.getD i ⟨#[]⟩=⟨#[]⟩from by rw[List.getD,IV (by omega)];rfl];rfl
theorem Ga{rows:List Str}{w i j:Nat}(hw:Wd rows w)(h:cd rows i j=120):i<rows.length/\j<w:=by
 have e:=h;unfold cd at e
 by_cases hi:i<rows.length
 ·refine⟨hi,?_⟩
  have hz:rows.getD i ⟨#[]⟩=rows[i]:=by rw[List.getD,Hd hi];rfl
  have hl:rows[i].cps.toList.length=w:=by rw[Ig];exact hw _ (JN hi)
  by_cases hj:j<w
  ·exact hj
  ·rw[hz,List.getD,IV (by omega)]at e
   cases e
 ·rw[show rows.getD i ⟨#[]⟩=⟨#[]⟩from by rw[List.getD,IV (by omega)];rfl]at e
  cases e
theorem c8(k:Nat)(i:Int):aE P (k+1) 8 [.int i]=some (.bl true):=by
 refine run rfl rfl ?_;simp only[d8,entry];walk_at "ev"
noncomputable def plain:PV->Bool
 | .non=>true| .int _=>true| .str _=>true
 | .lst xs=>plains xs
 | .tup xs=>plains xs
 | _=>false
where plains:List PV->Bool
 | []=>true
 | x::xs=>plain x&&plains xs
noncomputable def depth:PV->Nat
 | .lst xs=>depths xs+1
 | .tup xs=>depths xs+1
 | _=>1
where depths:List PV->Nat
 | []=>0
 | x::xs=>max (depth x) (depths xs)
theorem ja:∀{xs:List PV}{x:PV},plain.plains xs=true->x∈xs->plain x=true
 | [],_,_,h=>by cases h
 | y::ys,x,h,hx=>by
  rw[plain.plains,Hb]at h
  rcases Hm.mp hx with rfl|hx
  ·exact h.1
  ·exact ja h.2 hx
theorem kB:∀{xs:List PV}{x:PV},x∈xs->depth x<=depth.depths xs
 | [],_,h=>by cases h
 | y::ys,x,hx=>by
  rw[depth.depths]
  rcases Hm.mp hx with rfl|hx
  ·exact Nat.le_max_left _ _
  ·exact Ik (kB hx) (Nat.le_max_right _ _)
theorem c10(k:Nat)(xs:List PV)(h:∀x∈xs,aE P k 9 [x,x]=some (.bl true)):aE P (k+1) 10 [.lst xs,.lst xs]=some (.bl true):=by
 refine ff rfl rfl ?_;simp only[d10,entry];walk_at "ev";refine fi (xs:=List.zipWith sj xs xs) (n:=false) ?_ (fun i τ=>∃a b,τ=[.frz (.lst xs) false,.frz (.lst xs) false,a,b]) ⟨_,_,rfl⟩ ?_ ?_
 ·walk_at "ev"
  simp only[vg,xP,KR,IP];rfl
 ·rintro i y τ hy ⟨a,b,rfl⟩
  rw[Jr]at hy;cases e:xs[i]? with
  | none=>rw[e]at hy;cases hy
  | some x =>
   rw[e]at hy;cases hy;refine⟨_,rfl,?_⟩;walk_at "ev";rw[h x (Hz e)];walk_at "ev";exact⟨_,_,rfl⟩
 ·rintro τ ⟨a,b,rfl⟩
  walk_at "ev"
theorem c9(n k:Nat)(v:PV)(hd:depth v<=n)(hp:plain v=true):aE P (2*n+k) 9 [v,v]=some (.bl true):=by
 induction n generalizing v with
 | zero =>
  cases v with
  | non=>(simp[depth]at hd)
  | bl b=>cases hp
  | int i=>(simp[depth]at hd)
  | str z=>(simp[depth]at hd)
  | lst xs=>(simp[depth]at hd)
  | tup xs=>(simp[depth]at hd)
  | dK _ _=>cases hp
  | dT _ _=>cases hp
 | succ n ih =>
  have e:2*(n+1)+k=(2*n+k+1)+1:=by omega
  rw[e];have inner:∀xs:List PV,depth.depths xs<=n->plain.plains xs=true->aE P (2*n+k+1) 10 [.lst xs,.lst xs]=some (.bl true):=fun xs h1 h2=>c10 _ xs fun x hx=>ih x (Ik (kB hx) h1) (ja h2 hx);refine run rfl rfl ?_;cases v with
  | non =>
   simp only[d9,entry];walk_at "ev"
  | bl b=>cases hp
  | int i =>
   simp only[d9,entry];walk_at "ev";rw[c8];walk_at "ev"
  | str z =>
   simp only[d9,entry];walk_at "ev"
  | lst xs =>
   simp only[d9,entry];walk_at "ev";rw[inner xs (by simpa [depth]using hd) (by simpa [plain]using hp)];walk_at "ev"
  | tup xs =>
   simp only[d9,entry];walk_at "ev";rw[inner xs (by simpa [depth]using hd) (by simpa [plain]using hp)];walk_at "ev"
  | dK _ _=>cases hp
  | dT _ _=>cases hp
theorem oV(n:Nat)(l:List Int):(bT n l).Pairwise (·<·):=by
 unfold bT;refine List.Pairwise.filter _ ?_;unfold cx;rw[Js];exact List.pairwise_lt_range.imp fun h=>by omega
theorem Gj(k:Nat)(rows:List Str)(w:Nat)(hw:Wd rows w)(h0:rows≠[])(h8:rows.length<=8)(w8:w<=8):∃v,aE P (k+15) 120 [.tup (rows.map .str)]=some v/\∃R Q,v=.tup [.lst ((bT rows.length (bT rows.length R)).map .int),.lst ((bT w (L2.sortI Q)).map .int)]/\lj (iy rows) (hd (iy rows) rows.length) rows.length R Q R.length:=by
 obtain⟨v,e114,R,Q,rfl,hr⟩:=c114 k rows w hw h8 w8;have e1:=A0 (k+13) rows.length (bT rows.length R) (by omega);have e2:=A0 (k+13) w (L2.sortI Q) (by omega);obtain⟨z0,hz0⟩:∃z,rows[0]? =some z:=by
  cases rows with
  | nil=>exact absurd rfl h0
  | cons z r=>exact⟨z,rfl⟩
 have l0:z0.length=w:=hw z0 (Hz hz0);have a0:dH (rows.map PV.str) 0=some (.str z0):=qE (i:=0) hz0;refine oF rfl rfl ?_;simp only[D4,entry];walk_at "ev";rw[e114];walk_at "ev";rw[HX,e1];walk_at "ev";rw[a0];walk_at "ev";rw[len_str,Hr (by rw[l0];show w<=16777216;omega),l0];walk_at "ev";rw[show dH [PV.tup ((dL (jS (hd (iy rows) rows.length))).map kM),.lst ((bT rows.length R).map .int),.lst ((L2.sortI Q).map .int)] 2=some (.lst ((L2.sortI Q).map .int))from L2.bJ (j:=2) rfl];walk_at "ev";rw[e2];walk_at "ev";exact⟨_,rfl,R,Q,rfl,hr⟩
theorem Gk(k m:Nat)(l:List Int)(m8:m<=8)(hb:∀x∈l,0<=x/\x<(m:Int))(hs:l.Pairwise (·<·)):aE P (k+2) 116 [.lst (l.map .int),.int (m:Nat)]=some (.bl true):=by
 refine ff rfl rfl ?_;simp only[D5,entry];walk_at "ev";refine fi (xs:=l.map .int) (n:=false) ?_ (fun i τ=>∃a,τ=[.frz (.lst (l.map .int)) false,.frz (.int (m:Nat)) true,a]) ⟨_,rfl⟩ ?_ ?_
 ·walk_at "ev"
 ·rintro i y τ hy ⟨a,rfl⟩
  obtain⟨hi,rfl,hm⟩:=int_at hy;obtain⟨b0,b1⟩:=hb _ hm;refine⟨_,rfl,?_⟩;walk_at "ev";rw[c8];walk_at "ev";rw[Ij (show¬l.getD i 0<0 by omega),Ij (show¬(m:Int)<=l.getD i 0 by omega)];walk_at "ev";exact⟨_,rfl⟩
 ·rintro τ ⟨a,rfl⟩
  walk_at "ev";have sm:iH (.lst (l.map .int))=some l:=by
   show(aN (l.map .int)).bind _=_;rw[bO];show(if _ then some l else none)=_;rw[Hr];rw[Hx];intro x hx;obtain⟨a,b⟩:=hb x hx;rw[Hb];exact⟨IW a,IW (by omega)⟩
  rw[sm];walk_at "ev";have e:nM (.lst (l.map .int)) (.lst (l.map .int))=true:=by
   unfold nM;exact pG l
  rw[xE (fun x hx=>by obtain⟨a,b⟩:=hb x hx;omega) hs,Ax,Hr (by rw[Hb];exact⟨pF 11 l,pF 11 l⟩),e];walk_at "ev"
structure Plc(rows:List Str)(p:List (Int×Int)):Prop where
 rowd:(p.map (·.1)).Nodup
 cold:(p.map (·.2)).Nodup
 cell:∀x∈p,∃i j:Nat,x=((i:Int),(j:Int))/\cd rows i j=120
theorem jM{rows:List Str}{i j:Nat}:j∈(rows.map cr).getD i []↔cd rows i j=120:=by
 have e:(rows.map cr).getD i []=cr (rows.getD i ⟨#[]⟩):=by
  rw[Hc,Hc,Ho];cases rows[i]? <;>rfl
 rw[e];unfold cr cd;rw[Ih,Ii,Jn];refine⟨fun h=>h.2,fun h=>⟨?_,h⟩⟩
 by_cases hj:j<(rows.getD i ⟨#[]⟩).length
 ·exact hj
 ·rw[Hc,IV (by rw[Ig];exact Nat.le_of_not_lt hj)]at h
  cases h
theorem jL{rows:List Str}{i:Nat}{c:Int}:c∈eR (iy rows) (i:Nat)↔∃j:Nat,c=(j:Int)/\cd rows i j=120:=by
 have e:eR (iy rows) (i:Nat)=((rows.map cr).getD i []).map fun c:Nat=>(c:Int):=by
  unfold eR iy;rw[J9,Hc,Hc,Ho,Ho];cases rows[i]? <;>rfl
 rw[e,Hn]
 constructor
 ·rintro⟨j,hj,rfl⟩
  exact⟨j,rfl,jM.mp hj⟩
 ·rintro⟨j,rfl,h⟩
  exact⟨j,jM.mpr h,rfl⟩
theorem vB{rows:List Str}{i j:Nat}(h:cd rows i j=120):i<rows.length:=by
 by_cases hi:i<rows.length
 ·exact hi
 ·rw[GZ hi]at h
  cases h
section
variable{rows:List Str}{H:aO}{R Q:List Int}(ok:kh (iy rows) rows.length H)(hr:lj (iy rows) H rows.length R Q R.length)
include ok
theorem Di:Plc rows (jS H):=by
 unfold jS;refine⟨by rw[Ia];exact ok.mt.rows,by rw[Ia];exact ok.mt.keys,fun x hx=> ?_⟩;obtain⟨p,hp,rfl⟩:=Hn.mp hx;obtain⟨r0,r1⟩:=ok.rows p.2 (Hn.mpr ⟨p,hp,rfl⟩);have e:=ok.mt.edge p hp;rw[show p.2=((p.2.toNat:Nat):Int)by omega]at e;obtain⟨j,e1,e2⟩:=jL.mp e;exact⟨p.2.toNat,j,Prod.ext (by show p.2=((p.2.toNat:Nat):Int);omega) e1,e2⟩
include hr
theorem Cj{p:List (Int×Int)}(hp:Plc rows p):p.length<=H.length:=by
 rw[<- oI ok hr];refine yJ hp.rowd hp.cold fun x hx=> ?_;obtain⟨i,j,rfl,h⟩:=hp.cell x hx
 by_cases hR:(i:Int)∈R
 ·obtain⟨k,hk,e⟩:=Jv.mp hR
  exact .inr (hr.done k hk _ (by rw[Hd hk,e]) _ (jL.mpr ⟨j,rfl,h⟩))
 ·have:=vB h
  exact .inl (aw.mpr ⟨by show 0<=(i:Int)/\(i:Int)<(rows.length:Int);omega,hR⟩)
theorem wQ(w8:∀z∈rows,z.length<=8):(wS rows).length=H.length+1:=by
 have hc:nK (rows.map cr):=fun r hr c hcc=>by
  obtain⟨z,hz,rfl⟩:=Hn.mp hr;unfold cr at hcc;have:=Ii.mp (Ih.mp hcc).1;have:=w8 z hz;omega
 have e:rows.map bY=(rows.map cr).map cL:=by rw[Ia];rfl
 have pl:=Di ok;have sl:(jS H).length=H.length:=by unfold jS;rw[HX]
 have hn:H.length<=rows.length:=by
  have:=dE (U:=cx rows.length) ok.mt.rows fun x hx=>iM.mpr (ok.rows x hx);unfold cx at this;rw[HX,HX,IU]at this;exact this
 unfold wS;rw[e,wR _ hc,HX];refine zp (by omega) (fun i hi=> ?_) fun i hi hp=> ?_
 ·refine pO _ _ H.length i hi ?_
  rw[<- sl];refine Ac _ _ 0 _ pl.rowd pl.cold fun x hx=> ?_;obtain⟨a,b,rfl,h⟩:=pl.cell x hx;exact⟨a,b,by rw[KS],jM.mpr h,Ie⟩
 ·obtain⟨p,a1,a2,a3,a4⟩:=Au _ _ _ 0 hp
  have:=Cj ok hr (p:=p) ⟨a2,a3,fun x hx=>by
   obtain⟨a,b,rfl,h,_⟩:=a4 x hx;exact⟨a,b,by rw[KS],jM.mp h⟩⟩
  omega
end
theorem sn{n:Nat}{l:List Int}(nd:l.Nodup)(hb:∀x∈l,0<=x/\x<(n:Int)):(bT n l).length+l.length=n:=by
 have e:=gw (fun x=>l.contains x) (cx n);have p:((cx n).filter fun x=>l.contains x).Perm l:=wv ((ir n).sublist Jj) nd fun x=>by
  rw[Ih,iM,IK];exact⟨fun h=>h.2,fun h=>⟨hb x h,h⟩⟩
 rw[p.length_eq]at e;have n1:(cx n).length=n:=by unfold cx;rw[HX,IU]
 unfold bT;omega
theorem yW{rows:List Str}{w:Nat}{H:aO}{R Q:List Int}(hw:Wd rows w)(ok:kh (iy rows) rows.length H)(hr:lj (iy rows) H rows.length R Q R.length):(bT rows.length (bT rows.length R)).length+(bT w (L2.sortI Q)).length+H.length=rows.length+w:=by
 have rc:=oI ok hr;have pm:=L2.sortI_perm Q;have a1:=sn (n:=rows.length) (jh rows.length R) fun x hx=>(aw.mp hx).1;have a2:=sn (n:=w) (l:=L2.sortI Q) (pm.nodup_iff.mpr hr.nod) fun x hx=>by
  have hx:=pm.mem_iff.mp hx;obtain⟨p,hp,e⟩:=Hn.mp (gZ ok hr hx);obtain⟨r0,r1⟩:=ok.rows p.2 (Hn.mpr ⟨p,hp,rfl⟩);have ed:=ok.mt.edge p hp;rw[show p.2=((p.2.toNat:Nat):Int)by omega]at ed;obtain⟨j,e1,e2⟩:=jL.mp ed;have:=(Ga hw e2).2;omega
 rw[pm.length_eq]at a2;omega
theorem BG{rows:List Str}{w:Nat}{H:aO}{R Q:List Int}(hr:lj (iy rows) H rows.length R Q R.length){i j:Nat}(hi:(i:Int)∈bT rows.length (bT rows.length R))(hj:(j:Int)∈bT w (L2.sortI Q)):cd rows i j≠120:=by
 intro h;obtain⟨hi1,hi2⟩:=aw.mp hi;obtain⟨hj1,hj2⟩:=aw.mp hj;have hR:(i:Int)∈R:=Classical.not_not.mp fun z=>hi2 (aw.mpr ⟨hi1,z⟩);obtain⟨k,hk,e⟩:=Jv.mp hR;exact hj2 ((L2.sortI_perm Q).mem_iff.mpr (hr.done k hk _ (by rw[Hd hk,e]) _ (jL.mpr ⟨j,rfl,h⟩)))
theorem c121(k:Nat)(rows:List Str)(w:Nat)(hw:Wd rows w)(h0:rows≠[])(h8:rows.length<=8)(w8:w<=8)(A B:List Int)(hA:∀x∈A,0<=x/\x<(rows.length:Int))(hB:∀x∈B,0<=x/\x<(w:Int))(sA:A.Pairwise (·<·))(sB:B.Pairwise (·<·))(no:∀i j:Nat,(i:Int)∈A->(j:Int)∈B->cd rows i j≠120)(m:Nat)(hm:(wS rows).length=m+1)(hl:A.length+B.length+m=rows.length+w) :
  aE P (k+3) 121 [.tup (rows.map .str),.tup [.lst (A.map .int),.lst (B.map .int)]]=some (.bl true):=by
 have w8' :∀z∈rows,z.length<=8:=fun z hz=>by rw[hw z hz];exact w8
 have e1:=Gk k rows.length A h8 hA sA;have e2:=Gk k w B w8 hB sB;have e48:=c48 k rows h8 w8';obtain⟨z0,hz0⟩:∃z,rows[0]? =some z:=by
  cases rows with
  | nil=>exact absurd rfl h0
  | cons z r=>exact⟨z,rfl⟩
 have l0:z0.length=w:=hw z0 (Hz hz0);have a0:dH (rows.map PV.str) 0=some (.str z0):=qE (i:=0) hz0;have im:=dQ rows;refine ff rfl rfl ?_;simp only[D3,entry];walk_at "ev";rw[show decide (((2:Nat):Int)=2)=true from rfl];walk_at "ev";rw[HX,e1];walk_at "ev";rw[a0];walk_at "ev";rw[len_str,Hr (by rw[l0];show w<=16777216;omega),l0];walk_at "ev";rw[e2];walk_at "ev";rw[im];refine fi (xs:=A.map .int) (n:=false) ?_ (fun i τ=>∃a,τ=[.frz (.tup (rows.map .str)) true,.frz (.tup [.lst (A.map .int),.lst (B.map .int)]) false,.frz (.lst (A.map .int)) false,.frz (.lst (B.map .int)) false,a,.un]) ⟨_,rfl⟩ ?_ ?_
 ·walk_at "ev"
 ·rintro i y τ hy ⟨a,rfl⟩
  obtain⟨hi,rfl,hmem⟩:=int_at hy;obtain⟨r0,r1⟩:=hA _ hmem;obtain⟨r,hr⟩:∃r:Nat,A.getD i 0=(r:Int):=⟨(A.getD i 0).toNat,by omega⟩;rw[hr]at hmem r1 ⊢;refine⟨_,rfl,?_⟩;walk_at "ev";have hrl:r<rows.length:=by omega
  obtain⟨z,hz⟩:∃z,rows[r]? =some z:=⟨_,Hd hrl⟩;have az:dH (rows.map PV.str) (r:Int)=some (.str z):=qE hz;have hin:bX .In (.str (Str.ofString "x")) (.lst (B.map fun c:Int=>PV.str ⟨#[cd rows r c.toNat]⟩))=some false:=by
   show xk _ _=_;unfold xk;rw[Hr ⟨rfl,by rw[List.all_map,Hx];intro x _;rfl⟩,List.any_map]
   congr 1
   rw[List.any_eq_false];intro x hx e;have e:decide ((⟨#[cd rows r x.toNat]⟩:Str)="x")=true:=e;rw[rN,Jn]at e;obtain⟨x0,x1⟩:=hB x hx;exact no r x.toNat hmem (by rw[show((x.toNat:Nat):Int)=x by omega];exact hx) e
  have bl:B.length<=8:=dE (U:=[0,1,2,3,4,5,6,7]) (sB.imp fun h=>Int.ne_of_lt h) fun x hx=>by
   obtain⟨a,b⟩:=hB x hx;simp only[Hm];omega
  rw[Hr (by rw[HX];omega),iT (G:=fun c:Int=>PV.str ⟨#[cd rows r c.toNat]⟩) (fun x hx=>by
   obtain⟨x0,x1⟩:=hB x hx;obtain⟨z',g1,g2,g3⟩:=Gb hw hrl (j:=x.toNat) (by omega);rw[hz]at g1;cases g1;have ea:dH z.cps.toList x=some (cd rows r x.toNat):=by
    have:=bJ g2;rw[show((x.toNat:Nat):Int)=x by omega]at this;exact this
   rw[az];walk_at "ev";rw[Hr (by omega),ea];walk_at "ev")]
  walk_at "ev";rw[hin];walk_at "ev";exact⟨_,rfl⟩
 ·rintro τ ⟨a,rfl⟩
  walk_at "ev";rw[a0];walk_at "ev";rw[len_str,Hr (by rw[l0];show w<=16777216;omega),l0];walk_at "ev";rw[e48];walk_at "ev";simp only[HX];rw[hm,IW (show(rows.length:Int)+(w:Int)-(A.length:Int)-(B.length:Int)=((m+1:Nat):Int)-1 by omega)]
theorem jb(l:List Int):plain.plains (l.map PV.int)=true/\depth.depths (l.map PV.int)<=1:=by
 induction l with
 | nil=>exact⟨rfl,IN _⟩
 | cons x l ih =>
  rw[Hf];unfold plain.plains depth.depths;exact⟨by rw[ih.1];rfl,Nat.max_le.mpr ⟨Hg _,ih.2⟩⟩
theorem lv20{k:Nat}{v:PV}(h:aE P k 20020 [.non]=some v):21<=k:=by
 by_cases hk:21<=k
 ·exact hk
 ·have e:∀k,k<21->(aE P k 20020 [.non]).isNone=true:=by decide +kernel
  have:=e k (by omega);rw[h]at this;cases this
theorem tV{f k:Nat}{n:Nat}{vs:List PV}{r:PV}(hP:P f=some ⟨n+1,1,.cons (.drop (.call 20020 (.cons (.con .non) .nil))) (.cons (.hand 1 rR) .nil)⟩)(h:aE P (k+1) f vs=some r):21<=k/\r=.bl true/\∃(rows:List Str)(w:Nat),vs=[.tup (rows.map .str)]/\rows≠[]/\rows.length<=8/\w<=8/\Wd rows w:=by
 rw[gN,hP,Hw]at h
 split at h
 case isFalse=>cases h
 rename_i hl;have hl:vs.length=1:=hl
 match vs,hl with
 | [v],_ =>
  simp only[tq,tu,fX,fK,fM,fL,fQ,fS,fJ,fN,fV,fU,fY,fP,fT,fW,fR,fO,bx,bh,cA,cH,bz,cC,cF,bj,cI,b9,cB,bm,bn,bi,cJ,bw,bv,cE,bt,br,bo,cG,ll,lm,entry,Hw,IP,Hf,Ip,bE]at h;cases h9:aE P k 20020 [.non]with
  | none=>rw[h9]at h;cases h
  | some x =>
   rw[h9]at h;simp only[IP,Hw,eW]at h;have e:(([TV.frz v (imm v)]++List.replicate (n+1-[v].length) TV.un).take 1).map TV.valD=[v]:=rfl;rw[e]at h;cases hg:rR [v]with
   | none=>rw[hg]at h;cases h
   | some r' =>
    rw[hg]at h;have h:some r' =some r:=h;cases h;exact⟨lv20 h9,A1 hg⟩
theorem EH{f k:Nat}{n:Nat}(hP:P f=some ⟨n+1,1,.cons (.drop (.call 20020 (.cons (.con .non) .nil))) (.cons (.hand 1 rR) .nil)⟩){rows:List Str}{w:Nat}(h0:rows≠[])(h8:rows.length<=8)(w8:w<=8)(hw:Wd rows w):aE P (k+22) f [.tup (rows.map .str)]=some (.bl true):=by
 refine run hP rfl ?_;have e9:aE P (k+21) 20020 [.non]=some .non:=rfl;simp only[tq,tu,fX,fK,fM,fL,fQ,fS,fJ,fN,fV,fU,fY,fP,fT,fW,fR,fO,bx,bh,cA,cH,bz,cC,cF,bj,cI,b9,cB,bm,bn,bi,cJ,bw,bv,cE,bt,br,bo,cG,ll,lm,entry,Hw,IP,Hf,Ip,bE,sc];rw[e9];simp only[IP,Hw,eW];have e:(([TV.frz (PV.tup (rows.map PV.str)) (imm (PV.tup (rows.map PV.str)))]++List.replicate (n+1-[PV.tup (rows.map PV.str)].length) TV.un).take 1).map TV.valD=[.tup (rows.map .str)]:=rfl;rw[e,EG h0 h8 w8 hw];rfl
section
open PySem.Spec PyProof.Rows
theorem Ff:aW HF ["_law_board_here"] (aA qO):=⟨rfl,rfl,rfl,by decide +kernel,rfl,by decide +kernel,by decide +kernel⟩
theorem zF{K:W.Frag}{H:Hp}{p l:Addr}{xs ys:List V}{o' :HO}(h:cT K H p xs)(hl:H l=some (.lst ys)):cT K (L2.upd H l o') p xs:=by
 rcases h with(h|⟨o,h⟩)|h
 ·exact .inl (.inl (by rw[aB (fun z=>by rw[z,hl]at h;cases h)];exact h))
 ·exact .inl (.inr ⟨o,by rw[aB (fun z=>by rw[z,hl]at h;cases h)];exact h⟩)
 ·exact .inr h
theorem xx2:Wd (["x.","xx"]:List Str) 2:=by
 intro z hz
 rcases Hm.mp hz with e|e
 ·rw[e]
  rfl
 ·rw[IZ.mp e]
  rfl
theorem Gi(k:Nat)(rows:List Str)(w:Nat)(hw:Wd rows w)(h0:rows≠[])(h8:rows.length<=8)(w8:w<=8):aE P (k+22) 122 [.tup (rows.map .str)]=some (.bl true):=EH (n:=2) rfl h0 h8 w8 hw
theorem zI(k:Nat)(rows:List Str)(w:Nat)(hw:Wd rows w)(h0:rows≠[])(h8:rows.length<=8)(w8:w<=8):∃xs ys:List Int,aE P (k+21) 120 [.tup (rows.map .str)]=some (.tup [.lst (xs.map .int),.lst (ys.map .int)])/\xs.length<1000/\aE P (k+21) 121 [.tup (rows.map .str),.tup [.lst (xs.map .int),.lst (ys.map .int)]]=some (.bl true)/\(∃c,aE P (k+21) 120 [.tup [.str "x.",.str "xx"]]=some c)/\aE P (k+21) 9 [.tup [.lst (xs.map .int),.lst (ys.map .int)],.tup [.lst (xs.map .int),.lst (ys.map .int)]]=some (.bl true):=by
 obtain⟨v,e120,R,Q,rfl,hr⟩:=Gj (k+6) rows w hw h0 h8 w8;obtain⟨v',e',_⟩:=Gj (k+6) ["x.","xx"] 2 xx2 (fun z=>nomatch z) (by decide) (by decide);rw[show k+6+15=k+21 from rfl]at e120 e';have ok:kh (iy rows) rows.length (hd (iy rows) rows.length):=o6 (gL (pQ hw h8 w8)).2.2 rows.length;have rm:=wQ ok hr fun z hz=>by rw[hw z hz];exact w8
 have bl:=yW hw ok hr;obtain⟨A,hA⟩:∃A,A=bT rows.length (bT rows.length R):=⟨_,rfl⟩;obtain⟨B,hB⟩:∃B,B=bT w (L2.sortI Q):=⟨_,rfl⟩;have e121:=c121 (k+18) rows w hw h0 h8 w8 A B (fun x hx=>by rw[hA]at hx;exact(aw.mp hx).1) (fun x hx=>by rw[hB]at hx;exact(aw.mp hx).1) (by rw[hA];exact oV _ _) (by rw[hB];exact oV _ _) (fun i j hi hj=>by rw[hA]at hi;rw[hB]at hj;exact BG hr hi hj) _ rm (by rw[hA,hB];exact bl);rw[<- hA,<-hB]at e120 bl;rw[show k+18+3=k+21 from rfl]at e121;obtain⟨a1,a2⟩:=jb A;obtain⟨b1,b2⟩:=jb B;refine⟨A,B,e120,by omega,e121,⟨v',e'⟩,?_⟩;rw[show k+21=2*3+(k+15)by omega];refine c9 3 (k+15) _ ?_ ?_
 ·show max (depth.depths (A.map PV.int)+1) (max (depth.depths (B.map PV.int)+1) 0)+1<=3
  omega
 ·show(plain.plains (A.map PV.int)&&(plain.plains (B.map PV.int)&&true))=true
  rw[a1,b1];rfl
theorem Ad{K:W.Frag}{mg:Str->Option Value}{f:Addr}{fd:FuncData}(hli:mg "list"=none)(D:BR K mg "_law_told" qO ["_law_board_here"] f fd)(p:Program)(w:World)(base:Heap)(k:Nat)
  (fns:∀y g,F.lookup y=some g->∃b gd qs,mg y=some (.ref b)/\W.keepIn K (.ref b)=true/\Binds K gd qs []/\bN p w K mg base iA k b gd qs (qL K (aE P k g))):bN p w K mg base iA (k+1) f fd ["_law_board_here"] (qL K (aE P (k+1) 122)):=by
 refine D.fn.ok Ff (fun vs H Q E h=> ?_) (fun cdv A outer s H vs Q E hr h=> ?_)
 ·obtain⟨pvs,r,h1,h2,_⟩:=h
  rw[<- h1.len];obtain⟨_,_,_,_,rfl,_⟩:=tV (n:=2) rfl h2;rfl
 obtain⟨fb,gdb,qsb,mgb,kpb,bdb,FB⟩:=fns "bare_of" 120 rfl;obtain⟨fg,gdg,qsg,mgg,kpg,bdg,FG⟩:=fns "_law_good" 121 rfl;obtain⟨fs,gds,qss,mgs,kps,bds,FS⟩:=fns "_law_same" 9 rfl;obtain⟨pvs,r,h1,h2,q⟩:=h;obtain⟨hk,rfl,rows,w',rfl,h0,h8,w8,hw⟩:=tV (n:=2) rfl h2;obtain⟨k,rfl⟩:∃k',k=k' +21:=⟨k-21,by omega⟩;obtain⟨xs,ys,e1,xl,e2,⟨c,e4⟩,e5⟩:=zI k rows w' hw h0 h8 w8;obtain⟨v,hv⟩:∃v,v=PV.tup (rows.map .str):=⟨_,rfl⟩;obtain⟨t,ht⟩:∃t,t=PV.tup [.lst (xs.map .int),.lst (ys.map .int)]:=⟨_,rfl⟩;rw[<- hv]at h1 e1 e2;rw[<- ht]at e1 e2 e5;have nd:=Ff.nd;have hs:sizeLine=16777216:=Im;have h1' :=h1;unfold aG at h1';obtain⟨a,_,rfl,ra,h1'⟩:=h1';unfold aG at h1';subst h1'
 refine⟨_,aa (dW (i:=1) nd rfl (Or.inl rfl) (cw FB hr rfl mgb kpb bdb .nil ip (aH (pv 0) aX)))
  (aa (kw (wb (oN (cw FG hr rfl mgg kpg bdg .nil ip (aH (pv 0) (aH (pv 1) aX))) (by intro _;rfl))) (ao (fz oU)) ee)
  (aa (dW (i:=2) nd rfl (Or.inl rfl) (qZ (aH (cX dk rfl hli boot_list (aH (io iP (pv 1) dC (fun _ _=>rfl)) aX)) (aH (cX dk rfl hli boot_list (aH (io iP (pv 1) dC (fun _ _=>rfl)) aX)) aX))))
  (aa (ef (si J5 PySem.F.slot_list_append PySem.F.type_list_append iL (io iP (pv 1) dC (fun _ _=>rfl)) (aH dC aX)))
  (aa (ef (qb J5 PySem.F.slot_list_clear PySem.F.type_list_clear xL (io iP (pv 1) dC (fun _ _=>rfl))))
  (aa (ef (cw FB hr rfl mgb kpb bdb .nil ip (aH (qZ (aH mP (aH mP aX))) aX)))
  (ao (fz (cw FS hr rfl mgs kps bds .nil ip (aH (cw FB hr rfl mgb kpb bdb .nil ip (aH (pv 0) aX)) (aH (pv 2) aX)))))))))),?_⟩
 refine⟨_,rfl,[v],t,h1.entry (fun z=>by cases z),e1,fun u1 H1 s1 rp1=> ?_⟩;have g1:aG K H1 false [v,t] H1 [a,u1]:=by
  unfold aG;refine⟨_,_,rfl,(ra.mono s1).entry (fun z=>by cases z),?_⟩;unfold aG;exact⟨_,_,rfl,rp1.weak.entry (fun z=>by cases z),by unfold aG;rfl⟩
 refine⟨_,rfl,_,rfl,[v,t],.bl true,g1,e2,fun u2 H2 s2 rp2=> ?_⟩;refine⟨true,n8 (X:=(nB iA p w K mg base HF "_law_told" (aA qO) f cdv A outer s H E).nox) rfl rp2.weak,?_⟩;refine jq ?_;rw[ht]at rp1;obtain⟨pt,us,rfl,sqt,rl⟩:=Rp.tup.mp rp1;unfold aG at rl;obtain⟨ux,_,rfl,rx,rl⟩:=rl;unfold aG at rl;obtain⟨uy,aU,rfl,ry,rz⟩:=rl;obtain⟨px,usx,rfl,hx,sqx,rlx⟩:=Rp.lst.mp rx;obtain⟨py,usy,rfl,hy,sqy,rly⟩:=Rp.lst.mp ry;obtain⟨hx0,hx1⟩:=hx rfl;obtain⟨hy0,hy1⟩:=hy rfl;have s12:=s1.trans s2;refine⟨_,rfl,pt,_,0,.ref px,rfl,rfl,s2.tup sqt,EV,px,_,rfl,.inl (s2.seq sqx),fun l1 hl1=> ?_⟩;have s3:=aI hl1 (.lst usx);refine⟨_,rfl,pt,_,1,.ref py,rfl,rfl,s3.tup (s2.tup sqt),EU,py,_,rfl,.inl (s3.seq (s2.seq sqy)),fun l2 hl2=>⟨by show 2<=sizeLine;rw[hs];decide,fun pk hpk=> ?_⟩⟩;have s4:=aI hl2 (.lst usy);have s5:=aI hpk (.tup [.ref l1,.ref l2]);obtain⟨H3,hH3⟩:∃H3,H3=L2.upd (L2.upd (L2.upd H2 l1 (.lst usx)) l2 (.lst usy)) pk (.tup [.ref l1,.ref l2]):=⟨_,rfl⟩;have s25:aC H2 H3:=by rw[hH3];exact(s3.trans s4).trans s5
 have k1:H3 l1=some (.lst usx):=by rw[hH3];exact s5 _ _ (s4 _ _ aD)
 have k2:H3 l2=some (.lst usy):=by rw[hH3];exact s5 _ _ aD
 have k3:H3 pk=some (.tup [.ref l1,.ref l2]):=by rw[hH3,aD]
 rw[<- hH3];have x2:=s2 _ _ hx1;have y2:=s2 _ _ hy1;have x3:=s25 _ _ x2;have y3:=s25 _ _ y2;have t3:=s25.tup (s2.tup sqt);have ml:usx.length<sizeLine:=by rw[hs,<-rlx.len,HX];omega
 refine⟨_,rfl,pt,_,0,.ref px,rfl,rfl,t3,EV,.inl ⟨rfl,usx,bB.of x3⟩,px,usx,.int 9,rfl,rfl,x3,ml,?_⟩;obtain⟨H4,hH4⟩:∃H4,H4=L2.upd H3 px (.lst (usx++[.int 9])):=⟨_,rfl⟩;have t4:cT K H4 pt (.ref px::.ref py::aU):=by rw[hH4];exact zF t3 x3
 obtain⟨wy,y4⟩:∃wy,H4 py=some (.lst wy):=by
  by_cases e:py=px
  ·exact⟨_,by rw[hH4,e,aD]⟩
  ·exact⟨_,by rw[hH4,aB e];exact y3⟩
 rw[<- hH4];refine⟨_,rfl,pt,_,1,.ref py,rfl,rfl,t4,EU,.inl ⟨rfl,wy,bB.of y4⟩,py,wy,rfl,rfl,y4,?_⟩;obtain⟨H5,hH5⟩:∃H5,H5=L2.upd H4 py (.lst []):=⟨_,rfl⟩;have st:∀x o,x≠px->x≠py->H3 x=some o->H5 x=some o:=fun x o n1 n2 e=>by rw[hH5,aB n2,hH4,aB n1];exact e
 have s05:aC H H5:=fun x o e=>st x o (fun z=>by rw[z,hx0]at e;cases e) (fun z=>by rw[z,hy0]at e;cases e) (s25 _ _ (s12 _ _ e));have nw:∀l,H2 l=none->l≠px/\l≠py:=fun l e=>⟨(fun z=>by rw[z,x2]at e;cases e),(fun z=>by rw[z,y2]at e;cases e)⟩;have f1:=nw l1 hl1;have f2:=nw l2 (s3.free hl2);have f3:=nw pk (s3.free (s4.free hpk));have k1:=st _ _ f1.1 f1.2 k1;have k2:=st _ _ f2.1 f2.2 k2;have k3:=st _ _ f3.1 f3.2 k3;rw[<- hH5];refine⟨by show 2<=sizeLine;rw[hs];decide,fun tx htx=> ?_⟩;have s6:=aI htx (.tup [.str "x.",.str "xx"]);refine⟨[.tup [.str "x.",.str "xx"]],c,.cons (Rp.tup.mpr ⟨tx,_,rfl,cT.of aD,.cons (Rp.str.mpr rfl) (.cons (Rp.str.mpr rfl) .nil)⟩) .nil,e4,fun u7 H7 s7 _=> ?_⟩;have s57:=s6.trans s7;have s07:=s05.trans s57;refine⟨_,rfl,[v],_,(h1.mono s07).entry (fun z=>by cases z),e1,fun u8 H8 s8 rp8=> ?_⟩;have s58:=s57.trans s8;have k1:=s58 _ _ k1;have k2:=s58 _ _ k2;have k3:=s58 _ _ k3;have ex:=aG.ints.mp rlx;have ey:=aG.ints.mp rly;refine⟨_,rfl,[t,t],.bl true,.cons (rp8.weak.entry (fun z=>by cases z)) (.cons (by rw[ht];exact Rp.tup.mpr ⟨pk,_,rfl,cT.of k3,.cons (Rp.lst.mpr ⟨l1,usx,rfl,(fun z=>by cases z),bB.of k1,aG.ints.mpr ex⟩) (.cons (Rp.lst.mpr ⟨l2,usy,rfl,(fun z=>by cases z),bB.of k2,aG.ints.mpr ey⟩) .nil)⟩) .nil),e5,fun u9 H9 s9 rp9=> ?_⟩;exact q _ _ (s07.trans (s8.trans s9)) (rp9.entry fun _ p hp=>((s07.trans s8)).free hp)
end
theorem wT(c hi:Nat)(hc:0<c)(hc2:c<1000)(h:Builtin.Range.small 0 (hi:Int) (c:Int)=true/\(Builtin.Range.rangeSize 0 (hi:Int) (c:Int)).toNat=(hi+(c-1))/c):iI [sc (.int 0),sc (.int (hi:Nat)),sc (.int (c:Nat))]=some ((List.range ((hi+(c-1))/c)).map fun m=>.int (0+(m:Nat)*(c:Nat))):=by
 show(if(c:Int)≠0/\(c:Int).natAbs<1073741824/\Builtin.Range.small 0 (hi:Int) (c:Int)=true then some ((List.range (Builtin.Range.rangeSize 0 (hi:Int) (c:Int)).toNat).map fun m=>PV.int (0+(m:Nat)*(c:Int)))else none)=_;rw[Hr ⟨by omega,by omega,h.1⟩,h.2]
theorem step_at{c n i:Nat}{y:PV}(h:((List.range n).map fun m=>PV.int (0+(m:Nat)*(c:Nat)))[i]? =some y):y=.int ((c*i:Nat):Int):=by
 rw[Ho]at h
 by_cases hi:i<n
 ·rw[Iy hi]at h
  rw[<- IB h];show PV.int (0+(i:Int)*(c:Int))=_
  congr 1
  rw[Int.zero_add,Int.mul_comm];rfl
 ·rw[IV (by simpa using hi)]at h
  cases h
theorem sm2:∀hi:Nat,hi<64->(Builtin.Range.small 0 (hi:Int) ((2:Nat):Int)=true/\(Builtin.Range.rangeSize 0 (hi:Int) ((2:Nat):Int)).toNat=(hi+(2-1))/2):=by decide
noncomputable def Da(i:Nat)(x v:PV)(m:Bool)(τ:En):Option Fl:=match x,τ[i]? with
 | .int j,some (.own xs n)=>if 0<=j/\j<=xs.length/\xs.length<LN then some (.nx (τ.set i (.own (xs.take j.toNat++v::xs.drop j.toNat) (n&&m))))else none
 | _,_=>none
theorem Aj{cd:Nat->List PV->Option PV}{fu i:Nat}{k e:IE}{τ:En}:eN cd fu (.ins i k e) τ=(aV cd k τ).bind fun x=>(aV cd e τ).bind fun r=>r.keep.bind fun p=>Da i x.val p.1 p.2 τ:=rfl
theorem xj{i:Nat}{j:Int}{v:PV}{n m:Bool}{xs:List PV}{τ:En}(h:τ[i]? =some (.own xs n))(h0:0<=j)(h1:j<=xs.length)(h2:xs.length<LN) :
  Da i (.int j) v m τ=some (.nx (τ.set i (.own (xs.take j.toNat++v::xs.drop j.toNat) (n&&m)))):=by
 unfold Da;rw[h];exact Hr ⟨h0,h1,h2⟩
theorem Gg(k:Nat)(c:Int)(m:Nat)(hm:m<=8):aE P (k+1) 21 [.int c,.int (m:Nat)]=some (.lst ((bU c m).1.map fun i=>.int (i:Nat))):=by
 refine ff rfl rfl ?_;simp only[d21,entry];walk_at "go";refine fi (xs:=(List.range m).map fun i=>.int (0+(i:Nat))) (n:=true) ?_ (fun i τ=>∃b:TV,τ=[.frz (.int (bU c i).2) true,.frz (.int m) true,.own ((bU c i).1.map fun i=>.int (i:Nat)) true,b]) ⟨.un,rfl⟩ ?_ ?_
 ·walk_at "ev"
  simp only[iI,bE];rw[Hr ⟨by omega,by omega⟩];rfl
 ·rintro i y τ hy ⟨b,rfl⟩
  obtain⟨hi,rfl⟩:=ga hy;refine⟨_,rfl,?_⟩;have hl:(bU c i).1.length=i:=gg c i;obtain⟨d,hd⟩:∃d,d=(bU c i).2:=⟨_,rfl⟩;obtain⟨o,ho⟩:∃o,o=(bU c i).1:=⟨_,rfl⟩;have e1:0<=d%((i:Int)+1):=Int.emod_nonneg _ (by omega);have e2:d%((i:Int)+1)<(i:Int)+1:=Ka _ (by omega);have g1:(bU c (i+1)).1=o.take (d%((i:Int)+1)).toNat++i::o.drop (d%((i:Int)+1)).toNat:=by rw[ho,hd];rfl
  have g2:(bU c (i+1)).2=d/((i:Int)+1):=by rw[hd];rfl
  rw[g1,g2,<-ho,<-hd];rw[<- ho]at hl;walk_at "ev";rw[Aj];walk_at "go";rw[xj rfl e1 (by rw[HX,hl];omega) (by rw[HX,hl];show i<16777216;omega)];walk_at "go";exact⟨.frz (.int i) true,by simp⟩
 ·rintro τ ⟨b,rfl⟩
  rw[mK];walk_at "ev"
theorem c5x(k:Nat)(c j:Int)(h0:0<=j)(h1:j<=1000000):aE P (k+1) 5 [.int c,.int j]=some (.int (DD c j)):=by
 refine ff rfl rfl ?_;simp only[d5,entry];walk_at "go";rfl
noncomputable abbrev iN(l:List Nat):PV:=.lst (l.map fun i=>.int (i:Nat))
theorem ma:∀l:List Nat,aN (l.map fun i=>.int (i:Nat))=some (l.map fun i:Nat=>(i:Int))
 | []=>rfl
 | x::l=>by rw[Hf,aN,ma l];rfl
theorem jT:∀l:List Nat,(l.map fun i:Nat=>(i:Int)).sum=(l.sum:Nat)
 | []=>rfl
 | x::l=>by rw[Hf,Jh,Jh,jT l];omega
theorem wA{l:List Nat}{n:Bool}:ia .sum [.frz (iN l) n]=some (sc (.int (l.sum:Nat))):=by
 rw[tZ,ma,IP,jT]
theorem mD{cd:Nat->List PV->Option PV}{τ:En}{i j:Nat}{e:IE}{l:List Nat}{n:Bool}{r:RV}(hi:mj τ i=some (.frz (iN l) n))(he:aV cd e τ=some r)(hr:r.val=.int (j:Nat)):aV cd (.bf .sum (.cons (.sl (.var i) .no (.yes e)) .nil)) τ=some (sc (.int ((l.take j).sum:Nat))):=by
 simp only[bx,bh,cA,cH,bz,cC,cF,bj,cI,b9,cB,bm,bn,bi,cJ,bw,bv,cE,bt,br,bo,cG,ll,lm,z0u,z0v,hi,he,Hw,IP];have e1:oz (some r)=some (some (j:Int)):=by
  show(match r.val with| .int i=>some (some i)|_=>none)=_;rw[hr]
 rw[show oz none=some none from rfl,Hw,e1,Hw,qM];have e2:cut (l.map fun i=>PV.int (i:Nat)) none (some (j:Int))=(l.take j).map fun i=>.int (i:Nat):=by
  unfold cut;rw[HT.wO,HT.zT,List.drop_zero,Nat.sub_zero,HX,<-List.map_take,<-List.take_eq_take_min]
 rw[e2];show(aN ((l.take j).map fun i=>PV.int (i:Nat))).map (fun ns=>sc (.int ns.sum))=_;rw[ma,IP,jT]
theorem Ft{a b:Nat}(ha:a<1000)(hb:b<1000):iI [sc (.int (a:Nat)),sc (.int (b:Nat))]=some ((List.range (b-a)).map fun k=>.int ((a:Nat)+(k:Nat))):=by
 simp only[iI,bE];rw[Hr (by refine⟨?_,?_,?_,?_⟩<;>omega),show((b:Int)-(a:Int)).toNat=b-a by omega]
theorem xf{r:List Str}(h:∀z∈r,z="."\/z="x")(h8:r.length<=8):uZ .join (sc (.str "")) [.frz (.lst (r.map .str)) true]=some (sc (.str (gG "" r))):=by
 have tx:∀r:List Str,bV (r.map PV.str)=some r:=by
  intro r
  induction r with
  | nil=>rfl
  | cons z r ih=>rw[Hf,bV,ih];rfl
 have sl:∀r:List Str,(∀z∈r,z="."\/z="x")->(r.map (·.length)).sum=r.length:=by
  intro r
  induction r with
  | nil=>intro _;rfl
  | cons z r ih =>
   intro h;have e2:z.length=1:=by rcases h z (by simp)with e|e<;>(rw[e];rfl)
   rw[Hf,Jh,ih fun y hy=>h y (HZ _ hy),e2,IL];omega
 show((bV (r.map PV.str)).bind fun ys=>if(ys.map (·.length)).sum+ys.length*(Str.ofString "").length<=LN then some (sc (.str (gG (Str.ofString "") ys)))else none)=_;rw[tx,Hw,sl r h,Hr (by show _+_*0<=16777216;omega)]
theorem sU{a n i:Nat}{y:PV}(h:((List.range n).map fun i=>PV.int ((a:Nat)+(i:Nat)))[i]? =some y):i<n/\y=.int ((a+i:Nat):Int):=by
 rw[Ho]at h
 by_cases hi:i<n
 ·rw[Iy hi]at h
  cases h;exact⟨hi,by rw[Int.natCast_add]⟩
 ·rw[IV (by rw[IU];omega)]at h
  cases h
section
open PySem.Spec PyProof.Rows
theorem CL:aW Ev ["_law_head","_law_cell_here"] (aA zU):=⟨rfl,rfl,rfl,by decide +kernel,rfl,by decide +kernel,by decide +kernel⟩
theorem lv1{k:Nat}{v:PV}(h:aE P k 20001 [.non]=some v):2<=k:=by
 by_cases hk:2<=k
 ·exact hk
 ·have e:∀k,k<2->(aE P k 20001 [.non]).isNone=true:=by decide +kernel
  have:=e k (by omega);rw[h]at this;cases this
theorem tX{k:Nat}{vs:List PV}{r:PV}(h:aE P (k+1) 76 vs=some r):2<=k/\∃x c,vs=[.int x,.int c]/\r=.tup ((dw x c).map .str):=by
 rw[gN]at h;have hP:P 76=some GX:=rfl;rw[hP,Hw]at h
 split at h
 case isFalse=>cases h
 rename_i hl;have hl:vs.length=2:=hl;obtain⟨a,b,rfl⟩:=gl hl;simp only[GX,tq,tu,fX,fK,fM,fL,fQ,fS,fJ,fN,fV,fU,fY,fP,fT,fW,fR,fO,bx,bh,cA,cH,bz,cC,cF,bj,cI,b9,cB,bm,bn,bi,cJ,bw,bv,cE,bt,br,bo,cG,ll,lm,entry,Hw,IP,Hf,Ip,bE]at h;cases h9:aE P k 20001 [.non]with
 | none=>rw[h9]at h;cases h
 | some x =>
  rw[h9]at h;refine⟨lv1 h9,?_⟩;simp only[IP,Hw,eW]at h;have e:(([TV.frz a (imm a),.frz b (imm b)]++List.replicate (10-[a,b].length) TV.un).take 2).map TV.valD=[a,b]:=rfl;rw[e]at h;cases hg:EI [a,b]with
  | none=>rw[hg]at h;cases h
  | some r' =>
   rw[hg]at h;have h:some r' =some r:=h;cases h;unfold EI at hg
   split at hg
   ·rename_i x c heq
    cases heq;cases hg;exact⟨x,c,rfl,rfl⟩
   ·cases hg
theorem c76(k:Nat)(x c:Int):aE P (k+3) 76 [.int x,.int c]=some (.tup ((dw x c).map .str)):=rfl
noncomputable abbrev yI:Ct:=⟨Ev,(aA zU).names,F,G,B,[]⟩
noncomputable abbrev jE(x c:Int)(o q:List Nat)(g a b d:TV):En:=[.frz (.int x) true,.frz (.int c) true,.frz (iN (cv x)) true,.frz (iN (cM x)) true,.frz (iN o) true,.frz (iN q) true,g,a,b,d]
theorem GE{x c:Int}{o q:List Nat}{a b d:TV}(ha:a.ob=none)(hb:b.ob=none)(hd:d.ob=none):∀(i:Nat)(t:TV),(jE x c o q .un a b d)[i]? =some t->t.ob=none:=by
 intro i t h;have:=Hz h;simp only[jE,Hm,Ie,JY]at this
 rcases this with rfl|rfl|rfl|rfl|rfl|rfl|rfl|rfl|rfl|rfl<;>first|rfl|assumption
noncomputable abbrev b76(i:Nat):Stmt:=(aF zU).getD i (.Pass ⟨0,0,0,0⟩)
noncomputable def uI:Stmt->Stmt
 | .For _ _ b _ _=>b.getD 0 (.Pass ⟨0,0,0,0⟩)
 | .If _ a _ _=>a.getD 0 (.Pass ⟨0,0,0,0⟩)
 | x=>x
section
variable{X:Cx}{Hi:Hp}{O:List Addr}{σ:L2.St}{H:Hp}{D:cu}{k:Nat}{x c:Int}{o q:List Nat}{A:Addr}{g:Gd}{n m:Nat}
theorem A4(C:bG (aE P (k+2)) X yI){j r l:Nat}(ho:o[r]? =some (o.getD r 0))(hq:q[l]? =some (q.getD l 0))(hr:r<8)(hl8:l<8)(hn:o.getD r 0<n)(hm:q.getD l 0<m)(dm:hZ n m g)
  (R:aZ X.K Hi O (jE x c o q .un (.frz (.int (j:Nat)) true) (.frz (.int (r:Nat)) true) (.frz (.int (l:Nat)) true)) σ H) (hA:σ[6]? =some (some (.ref A))) (hg:Gr O A g H)
  (fin:∀G,aZ X.K Hi O (jE x c o q .un (.frz (.int (j:Nat)) true) (.frz (.int (r:Nat)) true) (.frz (.int (l:Nat)) true)) σ G->aC (aM H O) (aM G O)->Gr O A (vA c o q r l g) G->D.nx σ G):BN X [uI (uI (uI (b76 5)))] D σ H:=by
 refine sC (ao i9) ?_;have e5:=c5x (k+1) c (8*(r:Int)+(l:Int)) (by omega) (by omega);refine if_w (n:=80) (c' :=.val (.cmp .Gt (.bin .Mod (.call 5 (.cons (.var 1) (.cons (.bin .Add (.bin .Mult (.con (.int 8)) (.var 8)) (.var 9)) .nil))) (.con (.int 4))) (.con (.int 0)))) (t:=decide (0<DD c (8*(r:Int)+(l:Int))%4)) C (by kernel_rfl) ?_ R (fun ht G s=> ?_) fun ht G s=> ?_
 ·walk_at "ev"
  rw[e5];walk_at "go"
 ·have ht:=Ib ht
  refine sC (ao i9) ?_;obtain⟨d1,d2,d3⟩:=dm.at hn;refine tw (n:=80) (i:=6) (e' :=.con (.str "x")) (ka' :=.ix (.var 4) (.var 8)) (kb' :=.ix (.var 5) (.var 9)) (z:="x") (m:=true) (a:=o.getD r 0) (b:=q.getD l 0) (ra:=.frz (.int (o.getD r 0:Nat)) true) (rb:=.frz (.int (q.getD l 0:Nat)) true) C (by kernel_rfl) rfl rfl rfl (by kernel_rfl) (by kernel_rfl) (by kernel_rfl) ?_ ?_ rfl ?_ rfl (R.ext s) (GE rfl rfl rfl) hA (hg.ext s) d1 (by rw[d2];exact hm) fun G2 R2 s2 g2=> ?_
  ·walk_at "ev"
  ·have ea:dH (o.map fun i=>PV.int (i:Nat)) (r:Int)=some (.int (o.getD r 0:Nat)):=bJ (by rw[Ho,ho];rfl)
   walk_at "ev";rw[ea];walk_at "ev"
  ·have ea:dH (q.map fun i=>PV.int (i:Nat)) (l:Int)=some (.int (q.getD l 0:Nat)):=bJ (by rw[Ho,hq];rfl)
   walk_at "ev";rw[ea];walk_at "ev"
  ·refine fin G2 R2 ((aJ s).trans s2) ?_
   unfold vA;rw[Hr ht];exact g2
 ·have ht:=of_decide_eq_false ht
  refine sC ee (fin G (R.ext s) (aJ s) ?_);unfold vA;rw[Hl ht];exact hg.ext s
theorem EJ(C:bG (aE P (k+2)) X yI)(hfn:X.fn=fun _=>true){j r:Nat}(ho:o[r]? =some (o.getD r 0))(hr:r<8)(hn:o.getD r 0<n)(hq:∀l,l<(cM x).sum->q[l]? =some (q.getD l 0)/\q.getD l 0<m)(dm:hZ n m g)(hj:j<3){d:TV}(hd:d.ob=none)
  (R:aZ X.K Hi O (jE x c o q .un (.frz (.int (j:Nat)) true) (.frz (.int (r:Nat)) true) d) σ H) (hl:σ.length=X.N.length) (hA:σ[6]? =some (some (.ref A))) (hg:Gr O A g H)
  (fin:∀d σ' G,d.ob=none->aZ X.K Hi O (jE x c o q .un (.frz (.int (j:Nat)) true) (.frz (.int (r:Nat)) true) d) σ' G->σ'.length=X.N.length->σ'[6]? =some (some (.ref A))->aC (aM H O) (aM G O)->Gr O A (Er c o q r ((cM x).take j).sum g ((cM x).getD j 0)) G->D.nx σ' G):BN X [uI (uI (b76 5))] D σ H:=by
 obtain⟨wb1,wb2⟩:=vp x;have t1:=jR (cM x) j;have t2:=mC (cM x) (j+1);have e1:=mD (cd:=aE P (k+2)) (τ:=jE x c o q .un (.frz (.int (j:Nat)) true) (.frz (.int (r:Nat)) true) d) (i:=3) (j:=j) (e:=.var 7) (l:=cM x) (n:=true) (r:=.frz (.int (j:Nat)) true) rfl rfl rfl;have e2:=mD (cd:=aE P (k+2)) (τ:=jE x c o q .un (.frz (.int (j:Nat)) true) (.frz (.int (r:Nat)) true) d) (i:=3) (j:=j+1) (e:=.bin .Add (.var 7) (.con (.int 1))) (l:=cM x) (n:=true) (r:=.frz (.int ((j:Int)+1)) true) rfl rfl rfl;refine sC (ao i9) ?_
 refine jw (n:=80) (i:=9) (it' :=.rng (.cons (.bf .sum (.cons (.sl (.var 3) .no (.yes (.var 7))) .nil)) (.cons (.bf .sum (.cons (.sl (.var 3) .no (.yes (.bin .Add (.var 7) (.con (.int 1))))) .nil)) .nil))) (k:=true) C hfn (by kernel_rfl) (by kernel_rfl) ?_ R hl
  (fun i υ σ' G=>σ'[6]? =some (some (.ref A))/\(∃d:TV,d.ob=none/\υ=jE x c o q .un (.frz (.int (j:Nat)) true) (.frz (.int (r:Nat)) true) d)/\Gr O A (Er c o q r ((cM x).take j).sum g i) G)
  (fun _ _ _ _ _ s ⟨z1,z2,z3⟩=>⟨z1,z2,z3.ext s⟩) ⟨hA,⟨d,hd,rfl⟩,hg⟩ ?_ ?_ (xs:=(List.range ((cM x).getD j 0)).map fun i=>.int ((((cM x).take j).sum:Nat)+(i:Nat)))
 ·show(bg _ _ _).bind _=_
  rw[show bg (aE P (k+2)) (.cons (.bf .sum (.cons (.sl (.var 3) .no (.yes (.var 7))) .nil)) (.cons (.bf .sum (.cons (.sl (.var 3) .no (.yes (.bin .Add (.var 7) (.con (.int 1))))) .nil)) .nil)) (jE x c o q .un (.frz (.int (j:Nat)) true) (.frz (.int (r:Nat)) true) d)=some [sc (.int (((cM x).take j).sum:Nat)),sc (.int (((cM x).take (j+1)).sum:Nat))]by
   unfold bg;rw[e1,Hw];unfold bg;rw[e2,Hw];rfl,Hw,Ft (by omega) (by omega),IP,show((cM x).take (j+1)).sum-((cM x).take j).sum=(cM x).getD j 0 by omega]
 ·rintro i y υ σ' G u D' hy R2 hl2 ⟨z1,⟨d,hd,rfl⟩,z3⟩ nx
  obtain⟨hi,rfl⟩:=sU hy;obtain⟨q1,q2⟩:=hq (((cM x).take j).sum+i) (by omega);refine A4 (n:=n) (m:=m) (j:=j) (r:=r) (l:=((cM x).take j).sum+i) (g:=Er c o q r ((cM x).take j).sum g i) C ho q1 hr (by omega) hn q2 (dm.ln hn i) R2 (by rw[II (by decide)];exact z1) z3 fun G2 R3 s3 g3=> ?_;exact nx _ _ G2 R3 hl2 s3 ⟨by rw[II (by decide)];exact z1,⟨_,rfl,rfl⟩,g3⟩
 ·rintro υ σ' G R2 hl2 s2 ⟨z1,⟨d,hd,rfl⟩,z3⟩
  rw[HX,IU]at z3;exact fin d σ' G hd R2 hl2 z1 s2 z3
theorem yQ(C:bG (aE P (k+2)) X yI)(hfn:X.fn=fun _=>true){j:Nat}(hoo:∀r,r<(cv x).sum->o[r]? =some (o.getD r 0)/\o.getD r 0<n)(hq:∀l,l<(cM x).sum->q[l]? =some (q.getD l 0)/\q.getD l 0<m)(dm:hZ n m g)(hj:j<3){b d:TV}(hb:b.ob=none)(hd:d.ob=none)
  (R:aZ X.K Hi O (jE x c o q .un (.frz (.int (j:Nat)) true) b d) σ H) (hl:σ.length=X.N.length) (hA:σ[6]? =some (some (.ref A))) (hg:Gr O A g H)
  (fin:∀b d σ' G,b.ob=none->d.ob=none->aZ X.K Hi O (jE x c o q .un (.frz (.int (j:Nat)) true) b d) σ' G->σ'.length=X.N.length->σ'[6]? =some (some (.ref A))->aC (aM H O) (aM G O)->Gr O A (Eo c o q ((cv x).take j).sum ((cM x).take j).sum ((cM x).getD j 0) g ((cv x).getD j 0)) G->D.nx σ' G):BN X [uI (b76 5)] D σ H:=by
 obtain⟨wb1,wb2⟩:=v9 x;have t1:=jR (cv x) j;have t2:=mC (cv x) (j+1);have e1:=mD (cd:=aE P (k+2)) (τ:=jE x c o q .un (.frz (.int (j:Nat)) true) b d) (i:=2) (j:=j) (e:=.var 7) (l:=cv x) (n:=true) (r:=.frz (.int (j:Nat)) true) rfl rfl rfl;have e2:=mD (cd:=aE P (k+2)) (τ:=jE x c o q .un (.frz (.int (j:Nat)) true) b d) (i:=2) (j:=j+1) (e:=.bin .Add (.var 7) (.con (.int 1))) (l:=cv x) (n:=true) (r:=.frz (.int ((j:Int)+1)) true) rfl rfl rfl;refine sC (ao i9) ?_
 refine jw (n:=80) (i:=8) (it' :=.rng (.cons (.bf .sum (.cons (.sl (.var 2) .no (.yes (.var 7))) .nil)) (.cons (.bf .sum (.cons (.sl (.var 2) .no (.yes (.bin .Add (.var 7) (.con (.int 1))))) .nil)) .nil))) (k:=true) C hfn (by kernel_rfl) (by kernel_rfl) ?_ R hl
  (fun i υ σ' G=>σ'[6]? =some (some (.ref A))/\(∃b d:TV,b.ob=none/\d.ob=none/\υ=jE x c o q .un (.frz (.int (j:Nat)) true) b d)/\Gr O A (Eo c o q ((cv x).take j).sum ((cM x).take j).sum ((cM x).getD j 0) g i) G)
  (fun _ _ _ _ _ s ⟨z1,z2,z3⟩=>⟨z1,z2,z3.ext s⟩) ⟨hA,⟨b,d,hb,hd,rfl⟩,hg⟩ ?_ ?_ (xs:=(List.range ((cv x).getD j 0)).map fun i=>.int ((((cv x).take j).sum:Nat)+(i:Nat)))
 ·show(bg _ _ _).bind _=_
  rw[show bg (aE P (k+2)) (.cons (.bf .sum (.cons (.sl (.var 2) .no (.yes (.var 7))) .nil)) (.cons (.bf .sum (.cons (.sl (.var 2) .no (.yes (.bin .Add (.var 7) (.con (.int 1))))) .nil)) .nil)) (jE x c o q .un (.frz (.int (j:Nat)) true) b d)=some [sc (.int (((cv x).take j).sum:Nat)),sc (.int (((cv x).take (j+1)).sum:Nat))]by
   unfold bg;rw[e1,Hw];unfold bg;rw[e2,Hw];rfl,Hw,Ft (by omega) (by omega),IP,show((cv x).take (j+1)).sum-((cv x).take j).sum=(cv x).getD j 0 by omega]
 ·rintro i y υ σ' G u D' hy R2 hl2 ⟨z1,⟨b,d,hb,hd,rfl⟩,z3⟩ nx
  obtain⟨hi,rfl⟩:=sU hy;obtain⟨q1,q2⟩:=hoo (((cv x).take j).sum+i) (by omega);have dmi:hZ n m (Eo c o q ((cv x).take j).sum ((cM x).take j).sum ((cM x).getD j 0) g i):=dm.rw i fun r hr=>(hoo r (by omega)).2;refine EJ (n:=n) (m:=m) (j:=j) (r:=((cv x).take j).sum+i) C hfn q1 (by omega) q2 hq dmi hj hd R2 hl2 (by rw[II (by decide)];exact z1) z3 fun d σ2 G2 hd R3 hl3 z4 s3 g3=> ?_;exact nx _ _ G2 R3 hl3 s3 ⟨z4,⟨_,d,rfl,hd,rfl⟩,g3⟩
 ·rintro υ σ' G R2 hl2 s2 ⟨z1,⟨b,d,hb,hd,rfl⟩,z3⟩
  rw[HX,IU]at z3;exact fin b d σ' G hb hd R2 hl2 z1 s2 z3
theorem EK(C:bG (aE P (k+2)) X yI)(hfn:X.fn=fun _=>true)(hoo:∀r,r<(cv x).sum->o[r]? =some (o.getD r 0)/\o.getD r 0<n)(hq:∀l,l<(cM x).sum->q[l]? =some (q.getD l 0)/\q.getD l 0<m)(hn:(cv x).sum=n)(dm:hZ n m g)
  (R:aZ X.K Hi O (jE x c o q .un .un .un .un) σ H) (hl:σ.length=X.N.length) (hA:σ[6]? =some (some (.ref A))) (hg:Gr O A g H)
  (fin:∀a b d σ' G,a.ob=none->b.ob=none->d.ob=none->aZ X.K Hi O (jE x c o q .un a b d) σ' G->σ'.length=X.N.length->σ'[6]? =some (some (.ref A))->aC (aM H O) (aM G O)->Gr O A (EL c o q (cv x) (cM x) g 3) G->D.nx σ' G):WS X (b76 5) D σ H:=by
 refine jw (n:=80) (i:=7) (it' :=.rng (.cons (.con (.int 3)) .nil)) (k:=true) C hfn (by kernel_rfl) (by kernel_rfl) ?_ R hl
  (fun i υ σ' G=>σ'[6]? =some (some (.ref A))/\(∃a b d:TV,a.ob=none/\b.ob=none/\d.ob=none/\υ=jE x c o q .un a b d)/\Gr O A (EL c o q (cv x) (cM x) g i) G)
  (fun _ _ _ _ _ s ⟨z1,z2,z3⟩=>⟨z1,z2,z3.ext s⟩) ⟨hA,⟨_,_,_,rfl,rfl,rfl,rfl⟩,hg⟩ ?_ ?_ (xs:=(List.range 3).map fun i=>.int (0+(i:Nat)))
 ·rfl
 ·rintro i y υ σ' G u D' hy R2 hl2 ⟨z1,⟨a,b,d,ha,hb,hd,rfl⟩,z3⟩ nx
  obtain⟨hi,rfl⟩:=ga hy;have dmi:hZ n m (EL c o q (cv x) (cM x) g i):=dm.bk hn (fun r hr=>(hoo r (by omega)).2) i;refine yQ (n:=n) (m:=m) (j:=i) C hfn hoo hq dmi hi hb hd R2 hl2 (by rw[II (by decide)];exact z1) z3 fun b d σ2 G2 hb hd R3 hl3 z4 s3 g3=> ?_;exact nx _ _ G2 R3 hl3 s3 ⟨z4,⟨_,b,d,rfl,hb,hd,rfl⟩,g3⟩
 ·rintro υ σ' G R2 hl2 s2 ⟨z1,⟨a,b,d,ha,hb,hd,rfl⟩,z3⟩
  rw[HX,IU]at z3;exact fin a b d σ' G ha hb hd R2 hl2 z1 s2 z3
end
theorem Dj{K:W.Frag}{mg:Str->Option Value}{f:Addr}{fd:FuncData}(hG:∀x v,G.lookup x=some v->∃u w,mg x=some u/\RelV w u/\∀Hi n H,Rp K Hi n v H w)(hB:∀x,B.contains x=true->mg x=none)(D:BR K mg "_law_blocks" zU ["_law_head","_law_cell_here"] f fd)(p:Program)(w:World)(base:Heap)(k:Nat)
  (fns:∀y g,F.lookup y=some g->∃b gd qs,mg y=some (.ref b)/\W.keepIn K (.ref b)=true/\Binds K gd qs []/\bN p w K mg base iA k b gd qs (qL K (aE P k g))):bN p w K mg base iA (k+1) f fd ["_law_head","_law_cell_here"] (qL K (aE P (k+1) 76)):=by
 refine D.fn.ok CL (fun vs H Q E h=> ?_) (fun cdv A outer s H vs Q E hr h=> ?_)
 ·obtain⟨pvs,r,h1,h2,_⟩:=h
  rw[<- h1.len];obtain⟨_,x,c,rfl,_⟩:=tX h2;rfl
 obtain⟨pvs,r,h1,h2,q⟩:=h;obtain⟨hk,x,c,rfl,rfl⟩:=tX h2;obtain⟨k,rfl⟩:∃k',k=k' +2:=⟨k-2,by omega⟩
 have C:bG (aE P (k+2)) (nB iA p w K mg base Ev "_law_blocks" (aA zU) f cdv A outer s H E).nox yI :=
  ⟨rfl,CL.nd,rfl,CL.kind,rfl,hG,hB,fun y g hy=>by
   obtain⟨b,gd,qs,z1,z2,z3,z4⟩:=fns y g hy;exact⟨k+2,b,gd,qs,z4,hr,z1,z2,z3⟩,JW,hr.units⟩
 have R0:=lP (d:=GX) (N:=Ev) rfl h1;have hl0:(start Ev vs).length=Ev.length:=by
  have:=h1.len;unfold L2.start;rw[IA,HX,Jb,<-this];rfl
 obtain⟨sb1,sb2⟩:=v9 x;obtain⟨wb1,wb2⟩:=vp x;obtain⟨o,ho⟩:∃o,o=(bU c (cv x).sum).1:=⟨_,rfl⟩;obtain⟨q',hq'⟩:∃q',q' =(bU (c/40320) (cM x).sum).1:=⟨_,rfl⟩;have e21:=Gg (k+1) c (cv x).sum sb2;have e21' :=Gg (k+1) (c/40320) (cM x).sum wb2;rw[<- ho]at e21;rw[<- hq']at e21';refine⟨_,cO,?_⟩;refine sC (aa i9 cO) ?_;refine AI (fu:=0) (n:=80) C rfl (s' :=.asg 2 false [] (.lst (.cons (.bin .Add (.con (.int 1)) (.bin .Mod (.bin .FloorDiv (.var 0) (.con (.int 8))) (.con (.int 3)))) (.cons (.bin .Add (.con (.int 1)) (.bin .Mod (.bin .FloorDiv (.var 0) (.con (.int 24))) (.con (.int 3)))) (.cons (.bin .Add (.con (.int 1)) (.bin .Mod (.bin .FloorDiv (.var 0) (.con (.int 72))) (.con (.int 2)))) .nil))))) (τ' :=[.frz (.int x) true,.frz (.int c) true,.frz (iN (cv x)) true,.un,.un,.un,.un,.un,.un,.un]) (by kernel_rfl) ?_ R0 hl0 fun σ1 H1 O1 R1 hl1 s1=> ?_
 ·have e1:iN (cv x)=.lst [.int (1+x/8%3),.int (1+x/24%3),.int (1+x/72%2)]:=by
   unfold iN cv;simp -implicitDefEqProofs only[Hf,Ip];rw[show(((1+x/8%3).toNat:Nat):Int)=1+x/8%3 by omega,show(((1+x/24%3).toNat:Nat):Int)=1+x/24%3 by omega,show(((1+x/72%2).toNat:Nat):Int)=1+x/72%2 by omega]
  rw[e1,j8];simp -implicitDefEqProofs only[GX,entry];walk_at "go"
 refine sC (aa i9 cO) ?_;refine AI (fu:=0) (n:=80) C rfl (s' :=.asg 3 false [] (.lst (.cons (.bin .Add (.con (.int 1)) (.bin .Mod (.bin .FloorDiv (.var 0) (.con (.int 144))) (.con (.int 3)))) (.cons (.bin .Add (.con (.int 1)) (.bin .Mod (.bin .FloorDiv (.var 0) (.con (.int 432))) (.con (.int 3)))) (.cons (.bin .Add (.con (.int 1)) (.bin .Mod (.bin .FloorDiv (.var 0) (.con (.int 1296))) (.con (.int 2)))) .nil))))) (τ' :=[.frz (.int x) true,.frz (.int c) true,.frz (iN (cv x)) true,.frz (iN (cM x)) true,.un,.un,.un,.un,.un,.un]) (by kernel_rfl) ?_ R1 hl1 fun σ2 H2 O2 R2 hl2 s2=> ?_
 ·have e1:iN (cM x)=.lst [.int (1+x/144%3),.int (1+x/432%3),.int (1+x/1296%2)]:=by
   unfold iN cM;simp -implicitDefEqProofs only[Hf,Ip];rw[show(((1+x/144%3).toNat:Nat):Int)=1+x/144%3 by omega,show(((1+x/432%3).toNat:Nat):Int)=1+x/432%3 by omega,show(((1+x/1296%2).toNat:Nat):Int)=1+x/1296%2 by omega]
  rw[e1,j8];walk_at "go"
 refine sC (aa i9 cO) ?_;refine AI (fu:=0) (n:=80) C rfl (s' :=.asg 4 false [] (.call 21 (.cons (.var 1) (.cons (.bf .sum (.cons (.var 2) .nil)) .nil)))) (τ' :=[.frz (.int x) true,.frz (.int c) true,.frz (iN (cv x)) true,.frz (iN (cM x)) true,.frz (iN o) true,.un,.un,.un,.un,.un]) (by kernel_rfl) ?_ R2 hl2 fun σ3 H3 O3 R3 hl3 s3=> ?_
 ·obtain⟨L,hL⟩:∃L,L=cv x:=⟨_,rfl⟩
  rw[<- hL]at e21 ⊢;rw[j8];simp -implicitDefEqProofs only[bx,bh,cA,cH,bz,cC,cF,bj,cI,b9,cB,bm,bn,bi,cJ,bw,bv,cE,bt,br,bo,cG,ll,lm,gv,jv,ju,Hw,IP,wA,Hf,Ip,bE];rw[e21];walk_at "ev"
 refine sC (aa i9 cO) ?_;refine AI (fu:=0) (n:=80) C rfl (s' :=.asg 5 false [] (.call 21 (.cons (.bin .FloorDiv (.var 1) (.con (.int 40320))) (.cons (.bf .sum (.cons (.var 3) .nil)) .nil)))) (τ' :=jE x c o q' .un .un .un .un) (by kernel_rfl) ?_ R3 hl3 fun σ4 H4 O4 R4 hl4 s4=> ?_
 ·obtain⟨L,hL⟩:∃L,L=cM x:=⟨_,rfl⟩
  rw[jE,<-hL];rw[<- hL]at e21';rw[j8];simp -implicitDefEqProofs only[bx,bh,cA,cH,bz,cC,cF,bj,cI,b9,cB,bm,bn,bi,cJ,bw,bv,cE,bt,br,bo,cG,ll,lm,gv,jv,ju,Hw,IP,wA,Hf,Ip,bE,tY,sc];rw[Hr (by decide)];simp -implicitDefEqProofs only[Hw,bE,Hf,Ip];rw[e21'];walk_at "ev"
 refine sC (aa i9 cO) ?_;have ol:o.length=(cv x).sum:=by rw[ho];exact gg _ _
 have ql:q'.length=(cM x).sum:=by rw[hq'];exact gg _ _
 refine Af (n:=80) (k:=true) (i:=6) (caps:=[5]) (xs:=o.map fun i=>.int (i:Nat)) (row:=List.replicate (cM x).sum ".") (iter' :=.seq (.var 4)) (elt' :=.lc (.con (.str ".")) (.seq (.var 1)) .no []) C rfl (by kernel_rfl) (by kernel_rfl) (by kernel_rfl) (by kernel_rfl) (by kernel_rfl) ?_ ?_ ?_ R4 hl4 fun A5 O5 H5 R5 s5 g5=> ?_
 ·walk_at "ev"
 ·rw[HX,ol]
  show _<=16777216;omega
 ·intro y _
  simp -implicitDefEqProofs only[bx,bh,cA,cH,bz,cC,cF,bj,cI,b9,cB,bm,bn,bi,cJ,bw,bv,cE,bt,br,bo,cG,yi,yj,yh,yk,yu,yw,yv,jv,ju,Hw,Hf,Ip,List.getD_cons_succ,List.getD_cons_zero,jE,mI];rw[Hr (by rw[HX,ql];show _<=16777216;omega)];show Option.map (fun x=>RV.own x.fst x.snd) (bL (fun x=>some (some (PV.str ".",true))) (List.map (fun i=>PV.int (i:Nat)) q'))=_;rw[dh (g:=fun _:Nat=>PV.str ".") (fun _ _=>rfl),IP,<-ql,List.map_replicate,List.map_const']
 refine sC (aa i9 cO) ?_;have N10:σ4.length=10:=hl4;have rg:∀(d:Int)(n:Nat),∀r,r<n->(bU d n).1[r]? =some ((bU d n).1.getD r 0)/\(bU d n).1.getD r 0<n:=fun d n r hr=>sr hr;rw[HX,ol]at g5;refine EK (n:=(cv x).sum) (m:=(cM x).sum) C rfl (by rw[ho];exact rg _ _) (by rw[hq'];exact rg _ _) rfl (GV _ _) R5 (by rw[Iq];exact hl4) (by rw[JA (by omega)]) g5 fun a b d σ6 H6 ha hb hd R6 hl6 hA6 s6 g6=> ?_;obtain⟨R7,_⟩:=R6.shown (GE ha hb hd) hA6 g6;have eg:EL c o q' (cv x) (cM x) (List.replicate (cv x).sum (List.replicate (cM x).sum ".")) 3=tK x c:=by rw[ho,hq'];rfl
 rw[eg]at R7;have dg:=lJ x c;refine sC (ao i9) ?_;refine rt_w (fu:=0) (n:=80) (s' :=.ret [6] (.bf .tuple (.cons (.lc (.mth .join (.con (.str "")) (.cons (.var 0) .nil)) (.seq (.var 6)) .no []) .nil))) (v:=.tup ((dw x c).map .str)) C rfl (by kernel_rfl) ?_ R7 hl6 q;obtain⟨g,hg⟩:∃g,g=tK x c:=⟨_,rfl⟩;have er:(dw x c).map PV.str=g.map fun r=>.str (gG "" r):=by rw[hg];unfold dw;rw[Ia];rfl
 rw[er,<-hg];rw[<- hg]at dg;rw[xy];simp -implicitDefEqProofs only[jE,List.set_cons_zero,List.set_cons_succ,lL,gv,xr,tO,bx,bh,cA,cH,bz,cC,cF,bj,cI,b9,cB,bm,bn,bi,cJ,bw,bv,cE,bt,br,bo,cG,ll,lm,yi,yj,yh,yk,yu,yw,yv,jv,ju,Hw,IP,Ip,mI];rw[Hr (by rw[HX,dg.1];show _<=16777216;omega),dh (g:=fun r:List Str=>PV.str (gG "" r)) (fun r hr=> ?_)]
 ·walk_at "ev"
 ·have ej:=xf (dg.2 r hr).2 (by rw[(dg.2 r hr).1];exact wb2)
  show((uZ .join (sc (.str "")) [.frz (.lst (r.map .str)) true]).bind fun r=>r.keep.map some)=_;rw[ej];rfl
end
theorem xV:∀ns:List Int,ns.length<=63->aE P 40 123 [.lst (ns.map PV.int)]=some (.bl true):=by
 intro ns h63;refine ff rfl rfl ?_;simp only[Dz,entry];walk_at "ev";obtain⟨hi,hhi⟩:∃hi:Nat,hi=min (max ns.length 1) 6:=⟨_,rfl⟩;refine fi (xs:=(List.range ((hi+(2-1))/2)).map fun m=>.int (0+(m:Nat)*(2:Nat))) (n:=true) ?_ (fun i τ=>∃a b c,τ=[.frz (.lst (ns.map PV.int)) false,a,b,c]) ⟨_,_,_,rfl⟩ ?_ ?_
 ·walk_at "ev"
  simp only[HX];have q:(if(6:Int)<(if(1:Int)>(ns.length:Int)then 1 else(ns.length:Int))then(6:Int)else(if(1:Int)>(ns.length:Int)then 1 else(ns.length:Int)))=(hi:Int):=by
   split<;>split at* <;> omega
  rw[q];have:=wT 2 hi (by decide) (by decide) (sm2 hi (by omega));have:iI [RV.frz (PV.int 0) true,RV.frz (PV.int (hi:Int)) true,RV.frz (PV.int 2) true]=_:=this;rw[this];rfl
 ·rintro i y τ hy ⟨a,b,c,rfl⟩
  have ey:=step_at hy;subst ey;refine⟨_,rfl,?_⟩;obtain⟨hd,hhd⟩:∃hd,hd=ns.getD (2*i) 0:=⟨_,rfl⟩;obtain⟨ce,hce⟩:∃ce,ce=ns.getD (2*i+1) 0:=⟨_,rfl⟩;obtain⟨v6,e6,rows,bd,rfl⟩:=c6 37 (hd/3) ce 8 (by decide) (by decide);obtain⟨w,w1,w2,hw⟩:=bd.wide;have e6:aE P 39 6 [.int (hd/3),.int ce,.int 8]=some (.tup (rows.map PV.str)):=e6;have jE:aE P 39 76 [.int (hd/3),.int ce]=some (.tup ((dw (hd/3) ce).map PV.str)):=c76 36 _ _;have a0:aE P 39 4 [.lst (ns.map PV.int),.int ((2*i:Nat):Int)]=some (.int hd):=by rw[hhd];exact c4 38 ns (2*i)
  have a1:aE P 39 4 [.lst (ns.map PV.int),.int (((2*i:Nat):Int)+1)]=some (.int ce):=by rw[hce];exact c4 38 ns (2*i+1)
  have t1:=Gi 17 rows w hw bd.some bd.few w2;obtain⟨l1,l2⟩:=wP (hd/3) ce;obtain⟨s1,s2⟩:=v9 (hd/3);obtain⟨s3,s4⟩:=vp (hd/3);have t2:=Gi 17 (dw (hd/3) ce) (cM (hd/3)).sum l2 (fun z=>by rw[z]at l1;simp only[List.length_nil]at l1;omega) (by omega) s4;have t1:aE P 39 122 _=_:=t1;have t2:aE P 39 122 _=_:=t2;have i1:=dQ rows;have i2:=dQ (dw (hd/3) ce);walk_at "ev";rw[a0];walk_at "go";rw[a1];walk_at "ev";rw[e6];walk_at "go"
  by_cases h3:hd%3=1
  ·rw[IW h3]
   walk_at "ev";rw[a1];walk_at "ev";rw[jE];walk_at "ev";rw[t2];walk_at "ev";exact⟨_,_,_,rfl⟩
  ·rw[Ij h3]
   walk_at "ev";rw[t1];walk_at "ev";exact⟨_,_,_,rfl⟩
 ·rintro τ ⟨a,b,c,rfl⟩
  walk_at "ev"
noncomputable abbrev kK(nm:Str)(ps:List Str)(st:Stmt):Prop:=∀(kV doc pm:Value)(an:Option Addr)(cdv ct:Value)(us:List Value),us.length=ps.length->bindArgs (W.fnOf nm nm (aS st) (aF st) (aA st) .none kV doc pm an cdv ct) ⟨us,[]⟩=pure (ps.zip us)
theorem Fq:aW HM ["line"] (aA qV):=⟨rfl,rfl,rfl,by decide +kernel,rfl,by decide +kernel,by decide +kernel⟩
theorem Gy:kK "columns_in" ["line"] qV :=
 fun _ _ _ _ _ _ us hl=>by
  obtain⟨_,rfl⟩:=kR hl;rfl
theorem FN:bM 80 ⟨HM,(aA qV).names,F,G,B,[]⟩ (aF qV)=EA.body:=by kernel_rfl
theorem Gx:kK "takes_column" ["choices","holders","row","tried"] oE :=
 fun _ _ _ _ _ _ us hl=>by
  obtain⟨_,_,_,_,rfl⟩:=len4 hl;rfl
theorem Gw:kK "holders_of" ["choices"] uQ :=
 fun _ _ _ _ _ _ us hl=>by
  obtain⟨_,rfl⟩:=kR hl;rfl
theorem Fp:aW HL ["size","numbers"] (aA qU):=⟨rfl,rfl,rfl,by decide +kernel,rfl,by decide +kernel,by decide +kernel⟩
theorem Gv:kK "others" ["size","numbers"] qU :=
 fun _ _ _ _ _ _ us hl=>by
  obtain⟨_,_,rfl⟩:=gl hl;rfl
theorem FM:bM 80 ⟨HL,(aA qU).names,F,G,B,[]⟩ (aF qU)=D9.body:=by kernel_rfl
theorem Fo:aW HK ["choices","holders"] (aA qT):=⟨rfl,rfl,rfl,by decide +kernel,rfl,by decide +kernel,by decide +kernel⟩
theorem Gu:kK "reached" ["choices","holders"] qT :=
 fun _ _ _ _ _ _ us hl=>by
  obtain⟨_,_,rfl⟩:=gl hl;rfl
theorem FL:bM 80 ⟨HK,(aA qT).names,F,G,B,[2,3]⟩ (aF qT)=D7.body:=by kernel_rfl
theorem Fn:aW HJ ["board"] (aA qS):=⟨rfl,rfl,rfl,by decide +kernel,rfl,by decide +kernel,by decide +kernel⟩
theorem Gs:kK "most_of" ["board"] qS :=
 fun _ _ _ _ _ _ us hl=>by
  obtain⟨_,rfl⟩:=kR hl;rfl
theorem FK:bM 80 ⟨HJ,(aA qS).names,F,G,B,[]⟩ (aF qS)=D6.body:=by kernel_rfl
theorem Fk:aW HH ["board"] (aA qQ):=⟨rfl,rfl,rfl,by decide +kernel,rfl,by decide +kernel,by decide +kernel⟩
theorem Gp:kK "bare_of" ["board"] qQ :=
 fun _ _ _ _ _ _ us hl=>by
  obtain⟨_,rfl⟩:=kR hl;rfl
theorem FI:bM 80 ⟨HH,(aA qQ).names,F,G,B,[]⟩ (aF qQ)=D4.body:=by kernel_rfl
theorem sc46:aW N46 ["line"] (aA CO):=⟨rfl,rfl,rfl,by decide +kernel,rfl,by decide +kernel,by decide +kernel⟩
theorem bd46:kK "bits_of" ["line"] CO :=
 fun _ _ _ _ _ _ us hl=>by
  obtain⟨_,rfl⟩:=kR hl;rfl
theorem tr46:bM 80 ⟨N46,(aA CO).names,F,G,B,[1]⟩ (aF CO)=d46.body:=by kernel_rfl
theorem bd47:kK "with_line" ["levels","bits"] Em :=
 fun _ _ _ _ _ _ us hl=>by
  obtain⟨_,_,rfl⟩:=gl hl;rfl
theorem sc48:aW N48 ["board"] (aA CN):=⟨rfl,rfl,rfl,by decide +kernel,rfl,by decide +kernel,by decide +kernel⟩
theorem bd48:kK "row_of" ["board"] CN :=
 fun _ _ _ _ _ _ us hl=>by
  obtain⟨_,rfl⟩:=kR hl;rfl
theorem tr48:bM 80 ⟨N48,(aA CN).names,F,G,B,[]⟩ (aF CN)=d48.body:=by kernel_rfl
theorem sc4:aW N4 ["_law_script","_law_k"] (aA s4):=⟨rfl,rfl,rfl,by decide +kernel,rfl,by decide +kernel,by decide +kernel⟩
theorem bd4:kK "_law_cell" ["_law_script","_law_k"] s4 :=
 fun _ _ _ _ _ _ us hl=>by
  obtain⟨_,_,rfl⟩:=gl hl;rfl
theorem tr4:bM 80 ⟨N4,(aA s4).names,F,G,B,[]⟩ (aF s4)=d4.body:=by kernel_rfl
theorem sc5:aW N5 ["_law_cell_here","_law_k"] (aA s5):=⟨rfl,rfl,rfl,by decide +kernel,rfl,by decide +kernel,by decide +kernel⟩
theorem bd5:kK "_law_mixed" ["_law_cell_here","_law_k"] s5 :=
 fun _ _ _ _ _ _ us hl=>by
  obtain⟨_,_,rfl⟩:=gl hl;rfl
theorem tr5:bM 80 ⟨N5,(aA s5).names,F,G,B,[]⟩ (aF s5)=d5.body:=by kernel_rfl
theorem sc6:aW N6 ["_law_head","_law_cell_here","_law_most"] (aA s6):=⟨rfl,rfl,rfl,by decide +kernel,rfl,by decide +kernel,by decide +kernel⟩
theorem bd6:kK "_law_board" ["_law_head","_law_cell_here","_law_most"] s6 :=
 fun _ _ _ _ _ _ us hl=>by
  obtain⟨_,_,_,rfl⟩:=GJ hl;rfl
theorem tr6:bM 80 ⟨N6,(aA s6).names,F,G,B,[6]⟩ (aF s6)=d6.body:=by kernel_rfl
theorem sc21:aW N21 ["_law_cell_here","_law_many"] (aA CP):=⟨rfl,rfl,rfl,by decide +kernel,rfl,by decide +kernel,by decide +kernel⟩
theorem bd21:kK "_law_order" ["_law_cell_here","_law_many"] CP :=
 fun _ _ _ _ _ _ us hl=>by
  obtain⟨_,_,rfl⟩:=gl hl;rfl
theorem tr21:bM 80 ⟨N21,(aA CP).names,F,G,B,[2]⟩ (aF CP)=d21.body:=by kernel_rfl
theorem bd76:kK "_law_blocks" ["_law_head","_law_cell_here"] zU :=
 fun _ _ _ _ _ _ us hl=>by
  obtain⟨_,_,rfl⟩:=gl hl;rfl
theorem sc8:aW N8 ["_law_found"] (aA s8):=⟨rfl,rfl,rfl,by decide +kernel,rfl,by decide +kernel,by decide +kernel⟩
theorem bd8:kK "_law_whole" ["_law_found"] s8 :=
 fun _ _ _ _ _ _ us hl=>by
  obtain⟨_,rfl⟩:=kR hl;rfl
theorem tr8:bM 80 ⟨N8,(aA s8).names,F,G,B,[]⟩ (aF s8)=d8.body:=by kernel_rfl
theorem sc9:aW N9 ["_law_found","_law_due"] (aA s9):=⟨rfl,rfl,rfl,by decide +kernel,rfl,by decide +kernel,by decide +kernel⟩
theorem bd9:kK "_law_same" ["_law_found","_law_due"] s9 :=
 fun _ _ _ _ _ _ us hl=>by
  obtain⟨_,_,rfl⟩:=gl hl;rfl
theorem tr9:bM 80 ⟨N9,(aA s9).names,F,G,B,[]⟩ (aF s9)=d9.body:=by kernel_rfl
theorem sc10:aW N10 ["_law_found","_law_due"] (aA CQ):=⟨rfl,rfl,rfl,by decide +kernel,rfl,by decide +kernel,by decide +kernel⟩
theorem bd10:kK "_law_all_same" ["_law_found","_law_due"] CQ :=
 fun _ _ _ _ _ _ us hl=>by
  obtain⟨_,_,rfl⟩:=gl hl;rfl
theorem tr10:bM 80 ⟨N10,(aA CQ).names,F,G,B,[]⟩ (aF CQ)=d10.body:=by kernel_rfl
theorem Fm:aW HI ["_law_found","_law_many"] (aA qR):=⟨rfl,rfl,rfl,by decide +kernel,rfl,by decide +kernel,by decide +kernel⟩
theorem Gq:kK "_law_are_lines" ["_law_found","_law_many"] qR :=
 fun _ _ _ _ _ _ us hl=>by
  obtain⟨_,_,rfl⟩:=gl hl;rfl
theorem FJ:bM 80 ⟨HI,(aA qR).names,F,G,B,[]⟩ (aF qR)=D5.body:=by kernel_rfl
theorem Fj:aW HG ["_law_board_here","_law_found"] (aA qP):=⟨rfl,rfl,rfl,by decide +kernel,rfl,by decide +kernel,by decide +kernel⟩
theorem Go:kK "_law_good" ["_law_board_here","_law_found"] qP :=
 fun _ _ _ _ _ _ us hl=>by
  obtain⟨_,_,rfl⟩:=gl hl;rfl
theorem FH:bM 80 ⟨HG,(aA qP).names,F,G,B,[]⟩ (aF qP)=D3.body:=by kernel_rfl
theorem Gn:kK "_law_told" ["_law_board_here"] qO :=
 fun _ _ _ _ _ _ us hl=>by
  obtain⟨_,rfl⟩:=kR hl;rfl
theorem Fi:aW HE ["_law_script"] (aA kQ):=⟨rfl,rfl,rfl,by decide +kernel,rfl,by decide +kernel,by decide +kernel⟩
theorem Gm:kK "law" ["_law_script"] kQ :=
 fun _ _ _ _ _ _ us hl=>by
  obtain⟨_,rfl⟩:=kR hl;rfl
theorem FF:bM 80 ⟨HE,(aA kQ).names,F,G,B,[]⟩ (aF kQ)=Dz.body:=by kernel_rfl
theorem nO{K:W.Frag}{h:Heap}{mg:Str->Option Value}{x:Str}(X:K.In h)(Gh:h.Ns mainGlobals mg)(z:W.nsIn K mainGlobals x=some none):mg x=none:=W.mg_none_of X Gh z
section
variable{K:W.Frag}{h:Heap}{mg:Str->Option Value}{nm:Str}{ps N:List Str}{st:Stmt}{f:Addr}{k:Nat}{d:FD}{M:List Nat}{oc kV doc pm cd ct:Value}{od an:Option Addr}{sl:Array (Option Value)}(X:K.In h)(Gh:h.Ns mainGlobals mg)(a:W.nsIn K mainGlobals nm=some (some (.ref f)))(l:K.lookup f=some ⟨oc,od,.func (W.fnOf nm nm (aS st) (aF st) (aA st) .none kV doc pm an cd ct),sl⟩)(c:W.codeIn K cd nm=true)(kp:W.keepIn K (.ref f)=true)(b:kK nm ps st)
include X Gh a l c kp b
theorem Ep:BR K mg nm st ps f (W.fnOf nm nm (aS st) (aF st) (aA st) .none kV doc pm an cd ct):=⟨xq l c kp,W.mg_of X Gh a,(xq l c kp).binds b⟩
theorem og{body:vP}(sc:aW N ps (aA st))(e:P k=some ⟨N.length,ps.length,body⟩)(tr:bM 80 ⟨N,(aA st).names,F,G,B,M⟩ (aF st)=body):pi K mg P F G B nm k f (W.fnOf nm nm (aS st) (aF st) (aA st) .none kV doc pm an cd ct) ps:=⟨.inr ⟨st,N,M,80,body,Ep X Gh a l c kp b,sc,e,tr⟩⟩
end
theorem EY{l:W.OpenLaw}{w:World}{K:W.Frag}{h:Heap}{mg:Str->Option Value}{fa f0 f1 f2 f3 f4 f5 f6 f7 f8 f9 f10 f11 f12 f13 f14 f15 f16 f17 f18 f19 f20 f21:Addr}(X:K.In h)(Gh:h.Ns mainGlobals mg)(hfa:mg "law"=some (.ref fa))
  {q0 x0 q1 x1 q2 x2 q3 x3 q4 x4 q5 x5 q6 x6 q7 x7 q8 x8 q9 x9 q10 x10 q11 x11 q12 x12 q13 x13 q14 x14 q15 x15 q16 x16 q17 x17 q18 x18 q19 x19 q20 x20 q21 x21:Option Addr} {r0 r1 r2 r3 r4 r5 r6 r7 r8 r9 r10 r11 r12 r13 r14 r15 r16 r17 r18 r19 r20 r21:Array (Option Value)} {p0 t0 u0 w0 y0 m0 p1 t1 u1 w1 y1 m1 p2 t2 u2 w2 y2 m2 p3 t3 u3 w3 y3 m3 p4 t4 u4 w4 y4 m4 p5 t5 u5 w5 y5 m5 p6 t6 u6 w6 y6 m6 p7 t7 u7 w7 y7 m7 p8 t8 u8 w8 y8 m8 p9 t9 u9 w9 y9 m9 p10 t10 u10 w10 y10 m10 p11 t11 u11 w11 y11 m11 p12 t12 u12 w12 y12 m12 p13 t13 u13 w13 y13 m13 p14 t14 u14 w14 y14 m14 p15 t15 u15 w15 y15 m15 p16 t16 u16 w16 y16 m16 p17 t17 u17 w17 y17 m17 p18 t18 u18 w18 y18 m18 p19 t19 u19 w19 y19 m19 p20 t20 u20 w20 y20 m20 p21 t21 u21 w21 y21 m21:Value}
  {tk0:Tok}
  (a0:W.nsIn K mainGlobals "columns_in"=some (some (.ref f0))) (l0:K.lookup f0=some ⟨p0,q0,.func (W.fnOf "columns_in" "columns_in" (aS qV) (aF qV) (aA qV) .none t0 u0 w0 x0 y0 m0),r0⟩) (c0:W.codeIn K y0 "columns_in"=true) (k0:W.keepIn K (.ref f0)=true)
  (a1:W.nsIn K mainGlobals "takes_column"=some (some (.ref f1))) (l1:K.lookup f1=some ⟨p1,q1,.func (W.fnOf "takes_column" "takes_column" (aS oE) (aF oE) (aA oE) .none t1 u1 w1 x1 y1 m1),r1⟩) (c1:W.codeIn K y1 "takes_column"=true) (k1:W.keepIn K (.ref f1)=true)
  (a2:W.nsIn K mainGlobals "holders_of"=some (some (.ref f2))) (l2:K.lookup f2=some ⟨p2,q2,.func (W.fnOf "holders_of" "holders_of" (aS uQ) (aF uQ) (aA uQ) .none t2 u2 w2 x2 y2 m2),r2⟩) (c2:W.codeIn K y2 "holders_of"=true) (k2:W.keepIn K (.ref f2)=true)
  (a3:W.nsIn K mainGlobals "others"=some (some (.ref f3))) (l3:K.lookup f3=some ⟨p3,q3,.func (W.fnOf "others" "others" (aS qU) (aF qU) (aA qU) .none t3 u3 w3 x3 y3 m3),r3⟩) (c3:W.codeIn K y3 "others"=true) (k3:W.keepIn K (.ref f3)=true)
  (a4:W.nsIn K mainGlobals "reached"=some (some (.ref f4))) (l4:K.lookup f4=some ⟨p4,q4,.func (W.fnOf "reached" "reached" (aS qT) (aF qT) (aA qT) .none t4 u4 w4 x4 y4 m4),r4⟩) (c4:W.codeIn K y4 "reached"=true) (k4:W.keepIn K (.ref f4)=true)
  (a5:W.nsIn K mainGlobals "most_of"=some (some (.ref f5))) (l5:K.lookup f5=some ⟨p5,q5,.func (W.fnOf "most_of" "most_of" (aS qS) (aF qS) (aA qS) .none t5 u5 w5 x5 y5 m5),r5⟩) (c5:W.codeIn K y5 "most_of"=true) (k5:W.keepIn K (.ref f5)=true)
  (a6:W.nsIn K mainGlobals "bare_of"=some (some (.ref f6))) (l6:K.lookup f6=some ⟨p6,q6,.func (W.fnOf "bare_of" "bare_of" (aS qQ) (aF qQ) (aA qQ) .none t6 u6 w6 x6 y6 m6),r6⟩) (c6:W.codeIn K y6 "bare_of"=true) (k6:W.keepIn K (.ref f6)=true)
  (a7:W.nsIn K mainGlobals "bits_of"=some (some (.ref f7))) (l7:K.lookup f7=some ⟨p7,q7,.func (W.fnOf "bits_of" "bits_of" (aS CO) (aF CO) (aA CO) .none t7 u7 w7 x7 y7 m7),r7⟩) (c7:W.codeIn K y7 "bits_of"=true) (k7:W.keepIn K (.ref f7)=true)
  (a8:W.nsIn K mainGlobals "with_line"=some (some (.ref f8))) (l8:K.lookup f8=some ⟨p8,q8,.func (W.fnOf "with_line" "with_line" (aS Em) (aF Em) (aA Em) .none t8 u8 w8 x8 y8 m8),r8⟩) (c8:W.codeIn K y8 "with_line"=true) (k8:W.keepIn K (.ref f8)=true)
  (a9:W.nsIn K mainGlobals "row_of"=some (some (.ref f9))) (l9:K.lookup f9=some ⟨p9,q9,.func (W.fnOf "row_of" "row_of" (aS CN) (aF CN) (aA CN) .none t9 u9 w9 x9 y9 m9),r9⟩) (c9:W.codeIn K y9 "row_of"=true) (k9:W.keepIn K (.ref f9)=true)
  (a10:W.nsIn K mainGlobals "_law_cell"=some (some (.ref f10))) (l10:K.lookup f10=some ⟨p10,q10,.func (W.fnOf "_law_cell" "_law_cell" (aS s4) (aF s4) (aA s4) .none t10 u10 w10 x10 y10 m10),r10⟩) (c10:W.codeIn K y10 "_law_cell"=true) (k10:W.keepIn K (.ref f10)=true)
  (a11:W.nsIn K mainGlobals "_law_mixed"=some (some (.ref f11))) (l11:K.lookup f11=some ⟨p11,q11,.func (W.fnOf "_law_mixed" "_law_mixed" (aS s5) (aF s5) (aA s5) .none t11 u11 w11 x11 y11 m11),r11⟩) (c11:W.codeIn K y11 "_law_mixed"=true) (k11:W.keepIn K (.ref f11)=true)
  (a12:W.nsIn K mainGlobals "_law_board"=some (some (.ref f12))) (l12:K.lookup f12=some ⟨p12,q12,.func (W.fnOf "_law_board" "_law_board" (aS s6) (aF s6) (aA s6) .none t12 u12 w12 x12 y12 m12),r12⟩) (c12:W.codeIn K y12 "_law_board"=true) (k12:W.keepIn K (.ref f12)=true)
  (a13:W.nsIn K mainGlobals "_law_order"=some (some (.ref f13))) (l13:K.lookup f13=some ⟨p13,q13,.func (W.fnOf "_law_order" "_law_order" (aS CP) (aF CP) (aA CP) .none t13 u13 w13 x13 y13 m13),r13⟩) (c13:W.codeIn K y13 "_law_order"=true) (k13:W.keepIn K (.ref f13)=true)
  (a14:W.nsIn K mainGlobals "_law_blocks"=some (some (.ref f14))) (l14:K.lookup f14=some ⟨p14,q14,.func (W.fnOf "_law_blocks" "_law_blocks" (aS zU) (aF zU) (aA zU) .none t14 u14 w14 x14 y14 m14),r14⟩) (c14:W.codeIn K y14 "_law_blocks"=true) (k14:W.keepIn K (.ref f14)=true)
  (a15:W.nsIn K mainGlobals "_law_whole"=some (some (.ref f15))) (l15:K.lookup f15=some ⟨p15,q15,.func (W.fnOf "_law_whole" "_law_whole" (aS s8) (aF s8) (aA s8) .none t15 u15 w15 x15 y15 m15),r15⟩) (c15:W.codeIn K y15 "_law_whole"=true) (k15:W.keepIn K (.ref f15)=true)
  (a16:W.nsIn K mainGlobals "_law_same"=some (some (.ref f16))) (l16:K.lookup f16=some ⟨p16,q16,.func (W.fnOf "_law_same" "_law_same" (aS s9) (aF s9) (aA s9) .none t16 u16 w16 x16 y16 m16),r16⟩) (c16:W.codeIn K y16 "_law_same"=true) (k16:W.keepIn K (.ref f16)=true)
  (a17:W.nsIn K mainGlobals "_law_all_same"=some (some (.ref f17))) (l17:K.lookup f17=some ⟨p17,q17,.func (W.fnOf "_law_all_same" "_law_all_same" (aS CQ) (aF CQ) (aA CQ) .none t17 u17 w17 x17 y17 m17),r17⟩) (c17:W.codeIn K y17 "_law_all_same"=true) (k17:W.keepIn K (.ref f17)=true)
  (a18:W.nsIn K mainGlobals "_law_are_lines"=some (some (.ref f18))) (l18:K.lookup f18=some ⟨p18,q18,.func (W.fnOf "_law_are_lines" "_law_are_lines" (aS qR) (aF qR) (aA qR) .none t18 u18 w18 x18 y18 m18),r18⟩) (c18:W.codeIn K y18 "_law_are_lines"=true) (k18:W.keepIn K (.ref f18)=true)
  (a19:W.nsIn K mainGlobals "_law_good"=some (some (.ref f19))) (l19:K.lookup f19=some ⟨p19,q19,.func (W.fnOf "_law_good" "_law_good" (aS qP) (aF qP) (aA qP) .none t19 u19 w19 x19 y19 m19),r19⟩) (c19:W.codeIn K y19 "_law_good"=true) (k19:W.keepIn K (.ref f19)=true)
  (a20:W.nsIn K mainGlobals "_law_told"=some (some (.ref f20))) (l20:K.lookup f20=some ⟨p20,q20,.func (W.fnOf "_law_told" "_law_told" (aS qO) (aF qO) (aA qO) .none t20 u20 w20 x20 y20 m20),r20⟩) (c20:W.codeIn K y20 "_law_told"=true) (k20:W.keepIn K (.ref f20)=true)
  (a21:W.nsIn K mainGlobals "law"=some (some (.ref f21))) (l21:K.lookup f21=some ⟨p21,q21,.func (W.fnOf "law" "law" (aS kQ) (aF kQ) (aA kQ) .none t21 u21 w21 x21 y21 m21),r21⟩) (c21:W.codeIn K y21 "law"=true) (k21:W.keepIn K (.ref f21)=true)
  (z0:W.nsIn K mainGlobals "len"=some none)
  (z1:W.nsIn K mainGlobals "int"=some none)
  (z2:W.nsIn K mainGlobals "list"=some none)
  (z3:W.nsIn K mainGlobals "tuple"=some none)
  (z4:W.nsIn K mainGlobals "min"=some none)
  (z5:W.nsIn K mainGlobals "max"=some none)
  (z6:W.nsIn K mainGlobals "isinstance"=some none)
  (z7:W.nsIn K mainGlobals "str"=some none)
  (z8:W.nsIn K mainGlobals "bool"=some none)
  (z9:W.nsIn K mainGlobals "range"=some none)
  (z10:W.nsIn K mainGlobals "zip"=some none)
  (z11:W.nsIn K mainGlobals "enumerate"=some none)
  (z12:W.nsIn K mainGlobals "sorted"=some none)
  (z13:W.nsIn K mainGlobals "set"=some none)
  (z14:W.nsIn K mainGlobals "sum"=some none)
  (z15:W.nsIn K mainGlobals "dict"=some none)
  (v0:W.nsIn K mainGlobals "CELL"=some (some (.str "x" tk0)))
  :
  ∃fd:FuncData,(∀(s:Shared)(v:Value),BindsTo s fd ⟨[v],[]⟩ [("_law_script",v)])/\∀base:Heap,K.In base->base.Ns mainGlobals mg->bN l.prog w K mg base iA 40 fa fd ["_law_script"] (sV K):=by
 have hB:∀x,B.contains x=true->mg x=none:=cP (nO X Gh z0) (cP (nO X Gh z1) (cP (nO X Gh z2) (cP (nO X Gh z3) (cP (nO X Gh z4) (cP (nO X Gh z5) (cP (nO X Gh z6) (cP (nO X Gh z7) (cP (nO X Gh z8) (cP (nO X Gh z9) (cP (nO X Gh z10) (cP (nO X Gh z11) (cP (nO X Gh z12) (cP (nO X Gh z13) (cP (nO X Gh z14) (cP (nO X Gh z15) (bnil))))))))))))))));have e:=hfa.symm.trans (W.mg_of X Gh a21);cases e;have hG:∀x v,G.lookup x=some v->∃u w,mg x=some u/\RelV w u/\∀Hi n H,Rp K Hi n v H w:=GP ⟨_,(.str "x"),W.mg_of X Gh v0,⟨_,rfl⟩,fun _ _ _=>Rp.str.mpr rfl⟩ (gnil);have E0:=og (k:=109) X Gh a0 l0 c0 k0 Gy Fq rfl FN;have D1:=Ep X Gh a1 l1 c1 k1 Gx;have E1:pi K mg P F G B "takes_column" 110 f1 _ ["choices","holders","row","tried"]:=⟨.inl ⟨D1.nm,D1.fn.kp,D1.bd,yz (tz rfl)⟩⟩;have D2:=Ep X Gh a2 l2 c2 k2 Gw;have E2:pi K mg P F G B "holders_of" 111 f2 _ ["choices"]:=⟨.inl ⟨D2.nm,D2.fn.kp,D2.bd,fun p w b k z=>Ae (hB "len" rfl) (hB "range" rfl) D1 D2 p w b k (z k (Hg k))⟩⟩;have E3:=og (k:=112) X Gh a3 l3 c3 k3 Gv Fp rfl FM;have E4:=og (k:=113) X Gh a4 l4 c4 k4 Gu Fo rfl FL;have E5:=og (k:=114) X Gh a5 l5 c5 k5 Gs Fn rfl FK;have E6:=og (k:=120) X Gh a6 l6 c6 k6 Gp Fk rfl FI;have E7:=og (k:=46) X Gh a7 l7 c7 k7 bd46 sc46 rfl tr46;have D8:=Ep X Gh a8 l8 c8 k8 bd47;have E8:pi K mg P F G B "with_line" 47 f8 _ ["levels","bits"]:=⟨.inl ⟨D8.nm,D8.fn.kp,D8.bd,fun p w b k z=>Dk (hB "dict" rfl) (hB "enumerate" rfl) D8 p w b k (z k (Hg k))⟩⟩;have E9:=og (k:=48) X Gh a9 l9 c9 k9 bd48 sc48 rfl tr48;have E10:=og (k:=4) X Gh a10 l10 c10 k10 bd4 sc4 rfl tr4;have E11:=og (k:=5) X Gh a11 l11 c11 k11 bd5 sc5 rfl tr5;have E12:=og (k:=6) X Gh a12 l12 c12 k12 bd6 sc6 rfl tr6;have E13:=og (k:=21) X Gh a13 l13 c13 k13 bd21 sc21 rfl tr21;have D14:=Ep X Gh a14 l14 c14 k14 bd76;have E14:pi K mg P F G B "_law_blocks" 76 f14 _ ["_law_head","_law_cell_here"]:=⟨.inl ⟨D14.nm,D14.fn.kp,D14.bd,fun p w b k z=>Dj hG hB D14 p w b k (z k (Hg k))⟩⟩;have E15:=og (k:=8) X Gh a15 l15 c15 k15 bd8 sc8 rfl tr8;have E16:=og (k:=9) X Gh a16 l16 c16 k16 bd9 sc9 rfl tr9;have E17:=og (k:=10) X Gh a17 l17 c17 k17 bd10 sc10 rfl tr10;have E18:=og (k:=116) X Gh a18 l18 c18 k18 Gq Fm rfl FJ;have E19:=og (k:=121) X Gh a19 l19 c19 k19 Go Fj rfl FH;have D20:=Ep X Gh a20 l20 c20 k20 Gn;have E20:pi K mg P F G B "_law_told" 122 f20 _ ["_law_board_here"]:=⟨.inl ⟨D20.nm,D20.fn.kp,D20.bd,fun p w b k z=>Ad (hB "list" rfl) D20 p w b k (z k (Hg k))⟩⟩;have E21:=og (k:=123) X Gh a21 l21 c21 k21 Gm Fi rfl FF;have hF:∀x f,F.lookup x=some f->∃a fd ps,pi K mg P F G B x f a fd ps:=bK ⟨_,_,_,E0⟩ (bK ⟨_,_,_,E1⟩ (bK ⟨_,_,_,E2⟩ (bK ⟨_,_,_,E3⟩ (bK ⟨_,_,_,E4⟩ (bK ⟨_,_,_,E5⟩ (bK ⟨_,_,_,E6⟩ (bK ⟨_,_,_,E7⟩ (bK ⟨_,_,_,E8⟩ (bK ⟨_,_,_,E9⟩ (bK ⟨_,_,_,E10⟩ (bK ⟨_,_,_,E11⟩ (bK ⟨_,_,_,E12⟩ (bK ⟨_,_,_,E13⟩ (bK ⟨_,_,_,E14⟩ (bK ⟨_,_,_,E15⟩ (bK ⟨_,_,_,E16⟩ (bK ⟨_,_,_,E17⟩ (bK ⟨_,_,_,E18⟩ (bK ⟨_,_,_,E19⟩ (bK ⟨_,_,_,E20⟩ (bK ⟨_,_,_,E21⟩ (fnil))))))))))))))))))))));exact⟨W.fnOf "law" "law" (aS kQ) (aF kQ) (aA kQ) .none t21 u21 w21 x21 y21 m21,fun s v=>.of_eq rfl,fun base _ _=>DK (Do hG hB hF 40 "law" 123 fa _ _ E21) xV⟩
theorem walk{l:W.OpenLaw}{q:Program}{loose:List Str}{XP:(Str->Option Value)->Heap->Prop}{YP:World->Heap->Prop}{d:DefRec}{K:Params->W.Frag}(hn:l.most=some 63)(hdf:d.params.defaults=[])
  (hY:∀(w:World)(h:Heap),YP w h->(K w.params).In h)
  (F:∀(w:World)(mg:Str->Option Value)(fa:Addr)(h:Heap),(K w.params).In h->h.Ns mainGlobals mg->mg d.name=some (.ref fa) ->
   ∃fd:FuncData,(∀(s:Shared)(u:Value),BindsTo s fd ⟨[u],[]⟩ [("_law_script",u)])/\∀base:Heap,(K w.params).In base->base.Ns mainGlobals mg->bN l.prog w (K w.params) mg base iA 40 fa fd ["_law_script"] (sV (K w.params))) :
  W.WalkO q loose XP YP l.row.toRowW d [] (fun f vs=>PySem.call f vs) :=
 L2.yy (n:=63) (k:=40) (x:="_law_script") (CX:=fun _=>iA) (sp:=fun w=>sV (K w.params)) hn (by decide) hdf ⟨rfl,by decide,by decide⟩ hY F (fun _ _ a ns hl _ hS=>⟨a,ns,rfl,hS,hl,fun _=>rfl⟩) fun _ _ _ _ _ z=>z
end Law
open PySem PySem.W PyProof.Rows
noncomputable def LH.vw:Program:={ PySem.Challenge.pw_unstruck_k42_bare_part with main:={ PySem.Challenge.pw_unstruck_k42_bare_part.main with body:=((PySem.Challenge.pw_unstruck_k42_bare_part.main.body.drop 1).take 2)++((PySem.Challenge.pw_unstruck_k42_bare_part.main.body.drop 4).take 6)++((PySem.Challenge.pw_unstruck_k42_bare_part.main.body.drop 11).take 3)++((PySem.Challenge.pw_unstruck_k42_bare_part.main.body.drop 15).take 12) } }
theorem LH.two {A B C:Type} {o:Option A} {f:A→B} {g:A→C} {a:B} {b:C} (h:o.map f=some a) (k:o.map g=some b):o.map (fun s=>(f s, g s))=some (a, b):=by
  cases o with
  | none => cases h
  | some x => cases h; cases k; rfl
noncomputable abbrev LH.xt (s:Shared):Bool:=xlAt LH.vw [] s&&recOk [] s
theorem LH.h1 (w:World):(openEnds treeTable PySem.Challenge.pw_unstruck_k42_bare_part w 9999).map (fun s=>openSeen LH.vw [] (importedModules PySem.Challenge.pw_unstruck_k42_bare_part.main.body) LH.xt true s)=some (openGood LH.vw []):=by kernel_rfl
local macro_rules|`(tactic|o_head $H)=>do
  let hw:=Lean.mkIdent `hw
  let hc:=Lean.mkIdent `hc
  `(tactic|(refine holds_open (q:=LH.vw) (loose:=[]) (Xt:=LH.xt) (XP:=XL LH.vw []) (Yf:=Hook.obs $H) (Ya:=Hook.val $H) (YP:=Hook.says $H) (N:=9999) (fun w=>LH.two (LH.h1 w) (by kernel_rfl)) (Hook.of $H) (Hook.keeps $H) (fun s e=>xl_of s (Bool.and_eq_true_iff.mp e).1) XL.keeps rfl rfl rfl (fun s e=>recFacts_of (Bool.and_eq_true_iff.mp e).2) rfl (by first|assumption|decide +kernel) (by decide +kernel) ⟨rfl, rfl, rfl, rfl, rfl, by decide +kernel⟩ ?$hw ?$hc))
set_option maxRecDepth 100000 in
set_option maxHeartbeats 0 in
theorem PySem.Challenge.cw_unstruck_k42_bare_part_holds : PySem.Challenge.rw_unstruck_k42_bare_part.Holds := by
 w_on;o_law;k_head;(case hw=>w_witness2)
 k_fill
 refine Law.walk (l:=PySem.Challenge.rw_unstruck_k42_bare_part) rfl rfl (fun w h Y=>PySem.W.kIn_of Y) ?F
 case F =>
  intro w mg fa h KX G hmg;refine' Law.EY KX G hmg ?a0 ?l0 ?c0 ?k0 ?a1 ?l1 ?c1 ?k1 ?a2 ?l2 ?c2 ?k2 ?a3 ?l3 ?c3 ?k3 ?a4 ?l4 ?c4 ?k4 ?a5 ?l5 ?c5 ?k5 ?a6 ?l6 ?c6 ?k6 ?a7 ?l7 ?c7 ?k7 ?a8 ?l8 ?c8 ?k8 ?a9 ?l9 ?c9 ?k9 ?a10 ?l10 ?c10 ?k10 ?a11 ?l11 ?c11 ?k11 ?a12 ?l12 ?c12 ?k12 ?a13 ?l13 ?c13 ?k13 ?a14 ?l14 ?c14 ?k14 ?a15 ?l15 ?c15 ?k15 ?a16 ?l16 ?c16 ?k16 ?a17 ?l17 ?c17 ?k17 ?a18 ?l18 ?c18 ?k18 ?a19 ?l19 ?c19 ?k19 ?a20 ?l20 ?c20 ?k20 ?a21 ?l21 ?c21 ?k21 ?z0 ?z1 ?z2 ?z3 ?z4 ?z5 ?z6 ?z7 ?z8 ?z9 ?z10 ?z11 ?z12 ?z13 ?z14 ?z15 ?v0
  (case a0|l0|c0|k0|a1|l1|c1|k1|a2|l2|c2|k2=>k_is)
  (case a3|l3|c3|k3|a4|l4|c4|k4|a5|l5|c5|k5=>k_is)
  (case a6|l6|c6|k6|a7|l7|c7|k7|a8|l8|c8|k8=>k_is)
  (case a9|l9|c9|k9|a10|l10|c10|k10|a11|l11|c11|k11=>k_is)
  (case a12|l12|c12|k12|a13|l13|c13|k13|a14|l14|c14|k14=>k_is)
  (case a15|l15|c15|k15|a16|l16|c16|k16|a17|l17|c17|k17=>k_is)
  (case a18|l18|c18|k18|a19|l19|c19|k19|a20|l20|c20|k20=>k_is)
  (case a21|l21|c21|k21|z0|z1|z2|z3|z4|z5|z6|z7=>k_is)
  (case z8|z9|z10|z11|z12|z13|z14|z15|v0=>k_is)
#print axioms PySem.Challenge.cw_unstruck_k42_bare_part_holds
